import PyProof.Rows.All
import Wide.All
import OpenK.AllK
import Wide.FinOn
import Lean
import PyProof.EqAt
import PyProof.EqKinds
import PyProof.TupleCall
import PyProof.NeKinds
import PyProof.StationsW
import PyProof.RulesAs
import PyProof.ExcClass2
import PyProof.IsiH_tuple
import PyProof.NsDelKeeps
import PyProof.ConsumeWalk
import PyProof.Rows.SortWalk
import PySem.SetOps
import PySem.Builtin.Tuple.Common
import PyProof.Rows.SetFrom
import PyProof.TupleKey
import PyProof.SetRoads
import KE.KSortTup
import PyProof.DictWalks
import PyProof.FactsAll.set
import PyProof.CollectWalk
import KE.KDictList
import PyProof.Rows.Range3
import KE.KUnpack
import PyProof.Draws
import PyProof.EnumMake
import PyProof.TupleIter
import PyProof.WalksMore
import PyProof.ZipIter
import PyProof.Rows.ZipGen
import PyProof.ListRange
import PyProof.TupleOfStr
import KE.KRevIter
import PyProof.CollectIter
import PyProof.Rows.Tup
import PyProof.SumAny
import PyProof.Rows.StrWeight2
import PyProof.StrBlock
import PyProof.ListStr
import PyProof.SliceStr2
import PyProof.StrBlockI
import KE.KRevSl
import PyProof.StrLawsTight
import PyProof.StrLawsIn
import PyProof.Rows.StrNews
import KE.KLam
import KE.KNestM
import KE.BitLaws
import PySem.Challenge.RW_doingbook_k71_doors
set_option Elab.async false
namespace PySem.W
structure Fast:Prop where(tw14643202904392100582 tw14563362996941236412 tw6842902477187760554 tw18145240549496376833 tw14042695488296976507 tw11395144766175927812 tw3346471141415919362 tw9729737533512118569 tw5552657095136384602 tw412165202295188114 tw14351643633695649032 tw13574374829645566713 tw8068537043280932960 tw14944688997246986026 tw6665462294436697666 tw9787510061247732716 tw14626843980486898010 tw10961816184238432074 tw15051889217983654486 tw12262345546385859595 tw6528251188868909484 tw2552271027811659540 tw10163668999435708932 tw5036787904638533375 tw14613875886570494687 tw4305803675990790668 tw13179479212262202596 tw6228744825919460963 tw18337528004293985959 tw4817599035804137241 tw4236028508315114919 tw9282788061828675677 tw2835886298160562271 tw9677954765940425919 tw6784642819485488025 tw9829556379179223449 tw11345882563560559546 tw16290702349662149946 tw9289663898532054669 tw5244607618583755741 tw5682242276835347457 tw16188280262808670154 tw500014024434078669 tw14319882048955243420 tw5138532880624746296 tw17820451012315538622 tw16464624613299938762 tw15358357824988502975 tw15630766460744354898 tw988803798228245507 tw12312639581167758724 tw17059137360531444829 tw11344334848214428029 tw10083537683005372427 tw9474491476386559371 tw12142084445799449031 tw16490354746898560452 tw5665638425815454142 tw12341155563478183198 tw8613659316356844334 tw11324267164531548764 tw10097474705407900916 tw14518268002489075653 tw15383714522001018447 tw4810186851815125605 tw14556764615308853533 tw4977404740597541787 tw18119953839626418623 tw1972933754373785061 tw9827810293555696414 tw13947384414308402938 tw4446111599233030748 tw13765951054904550449 tw11035614078277359797 tw6704940123603289130 tw9268176279891414355 tw18423862882502578961 tw9470506242569235604 tw539336551965618633 tw1473492947441555670 tw7590495369410918418 tw16281899079868870176 tw4101983610768571984 tw8297079202093726244 tw17694324198489847613 tw17142165024614654460 tw12663932235135230183 tw11354461316919885466 tw8797515020667115147 tw14241399425940093233 tw14300913479520558469 tw13427016111784901770 tw13385639648883212583 tw2388673653757501704 tw5425422935452005234 tw5613096060113378433 tw5594424230951438166 tw2798696764141945738 tw12109822543993935303 tw2623161161801318451 tw17049401129384299019 tw1846236312130904580 tw4766660747019998921 tw7635812538299161463 tw1755817699307837808 tw15580742011718729168 tw3653485784154117891 tw1444662276054514759 tw12212569311307584836 tw2576173121532305222 tw2454895256210238996 tw3685423308909828459 tw14756289586854968394 tw6896526681245286982 tw14988049720804185979 tw2430305991849943889 tw1865802837996073913 tw13225491863447453030 tw11471813157852677964 tw9864254965194295428 tw13487045290519932692 tw14909149881248270680 tw12126886165221215973 tw9672389045677978864 tw3698085819499473697 tw1698825151807919589 tw15098078346990696816 tw6063378773535065231 tw6138687182921973998 tw12853951990533387513 tw9224573671736221110 tw17460017253087766425 tw15196814442350081784 tw9196740384558445914 tw5211976557236363952 tw4089665358692522296 tw12454088217539512524 tw17693482564350868012 tw8660538148541483833 tw2701026744065824265 tw3144857679350724828 tw12706741138078295153 tw43838921844582821 tw15279022574826521210 tw10110920888329784934 tw152748269974422565 tw13126954454769050285 tw5411443454162395244 tw10559901071873513711 tw10551506980942866653 tw9845920509866006945 tw8076794489916252954 tw5188001781048136591 tw7690536125834660448 tw1277109150345862534 tw16517750524608485641 tw6855882612360448693 tw18351828872516902082 tw11152045611958392216 tw4936544014095328691 tw7191435204434861943 tw11119311782216302643 tw4158996029986739386 tw779054833179775017 tw10985537737533860653 tw16445146442152168472 tw15814990937908901225 tw15814534565476472269 tw11067303042388639651 tw1642452699516989544 tw11633870311750574886 tw12069010928230462974 tw4246742568375181906 tw16396650815253065101 tw5661213946596316688 tw8591116551780675470 tw8165859601989929036 tw11101149982771134207 tw2271245618885874958 tw4569627510908014886 tw6199318764553273237 tw16816193282669072919 tw10663056871425408809 tw15181185619950370970 tw17057472002580967413 tw1155579890094324297 tw17031629571342164468 tw17258777640739627888 tw3409415286949986813 tw3810350658946656627 tw18147127653150689649 tw14517748401948516651 tw12620003281291258273 tw10010243570320223180 tw2453295930259427507 tw12043023095700540573 tw3869692840923530342 tw9204181124218422174 tw1621957846008968304 tw16810948122830918734 tw54964247177967039 tw8888507460282643679 tw15843734918505736985 tw727827583139984060 tw1945012018737800646 tw8819663848901715387 tw2942445215379391935 tw13969839682988423429 tw10535561242709217397 tw12668139431673226802 tw9329460965886945120 tw16319356564291154502 tw16434649946237781072 tw17899019916928260484 tw9465893078927141222 tw2672676886834108040 tw7267252169897330928 tw363656084770438662 tw7880067212977764917 tw5578979298760553530 tw6209474480800008045 tw3072641310399915248 tw7268919955393478778 tw11972823314447188733 tw12786024002793412186 tw13980521248907407122 tw1396355258758078763 tw11640253160499665210 tw16146605600991427325 tw13964051472747945889 tw6628721463480312132 tw18372888258435517371 tw12791888608002955991 tw15238562747995347418 tw14400102245697891062 tw10853226294999786000 tw10276815424233286460 tw16850491037905232132 tw16617212006667024241 tw14324371618795619287 tw6784067049753517625 tw8458544624200775460 tw14957396825988723444 tw2000015298219653295 tw18007418189129413829 tw16762698169161028408 tw8195191678886904676 tw17222753834812097976 tw11363788856445577943 tw17298681086969332885 tw9041289455829672837 tw6554067306059765552 tw13751739333853651173 tw5835783561490350322 tw16306549297913660336 tw12642907750348648868 tw17600768305487866891 tw1052469350491009162 tw4387142843698405412 tw61067330944297404 tw2829825413544382963 tw1211574942889156276 tw17383227167680897951 tw16767563609204597636 tw14083345085131178305 tw11065316462515019586 tw14504506459717525656 tw17059045186205879621 tw10757687872814331676 tw17268628309069720356 tw15261895307021303678 tw8815275372069554964 tw13697929683073619579 tw1277208539845698933 tw15960855167150892668 tw10893318640834803745 tw4533623406085051431 tw14150812677244192868 tw17951125279735464369 tw2840347340027183785 tw6794539239691319624 tw13462196729579067082 tw4925851685672237559 tw6280708659431251237 tw11002856503292297761 tw6317514836140028099 tw12834675735937251938 tw13543095053924870011 tw8001385582001542265 tw6999785048434677228 tw21841618530771298 tw6990372061961935321 tw3706702401815480994 tw17619877426490787175 tw15948536493236953582 tw4084329654353019518 tw8516859036443797777 tw11269970963599146198 tw15769680297115055231 tw14311424840746924371 tw167091754441965385 tw7493579116553705430 tw15063181448070832926 tw14365093387410671305 tw5252202499684766552 tw11218055109672936744 tw13571318270976315177 tw14382790685303873099 tw8592977848558571717 tw14012940142312649102 tw8209736504315891914 tw160369970026850550 tw13796305030973524182 tw16442208091722642460 tw6119924412799409491 tw3845387983694849979 tw2569036087578898911 tw11886724080458161198 tw16098699720940747406 tw11524101338981764170 tw9332528543804132140 tw16847413876751561584 tw9800355330910891444 tw7934503937838445892 tw9255661404356509229 tw2353978722724691248 tw8216514348201578891 tw2787101014812805260 tw15669722520659627810 tw13141724030565705109 tw4164886736964106007 tw4542253022176453175 tw14299168904868051982 tw1258614702726872117 tw8236906228626128892 tw16897210750109905339 tw16537972408506083935 tw8747332569246174001 tw15643749980320272462 tw4409735846705247815 tw6213855611218184065 tw16993891728038309913 tw10616054598365695021 tw13951491405010490577 tw14075620334682499707 tw4600597805065897805 tw5574568845353043443 tw15017656330987067060 tw3775794580063898486 tw8797973927140959363 tw6946409929021757595 tw14994263552807396168 tw10530857722145468964 tw10665489034342686703 tw1571495379952554371 tw17670958114569781127 tw11678047035688967319 tw1240407776256309258 tw1574193693085479563 tw15582959347907961455 tw13424792713415699242 tw7825068371872288964 tw17933893080541197958 tw870336927991951500 tw14815471917272256781 tw1488762364083718764 tw9015201589448088785 tw8509772570576524326 tw10927198982599359294 tw11664171428095687687 tw11492096938896233771 tw5253257062328928592 tw10520337740607004147:True)
end PySem.W
set_option genSizeOf false
set_option Elab.async false
set_option linter.all false
set_option maxRecDepth 100000
section
open PySem PySem.Spec PyProof.Rows
theorem kb:type_of% @List.length_map:=@List.length_map
theorem IC:type_of% @wpAny_bind:=@wpAny_bind
theorem ID:type_of% @List.getElem?_eq_getElem:=@List.getElem?_eq_getElem
theorem IE:type_of% @List.getD_eq_getElem?_getD:=@List.getD_eq_getElem?_getD
theorem IF:type_of% @List.mem_map:=@List.mem_map
theorem IG:type_of% @Heap.get?_push_of_some:=@Heap.get?_push_of_some
theorem IH:type_of% @wpAny_pure:=@wpAny_pure
theorem II:type_of% @List.length_append:=@List.length_append
theorem IJ:type_of% @List.mem_cons_of_mem:=@List.mem_cons_of_mem
theorem IK:type_of% @List.mem_cons_self:=@List.mem_cons_self
theorem IL:type_of% @List.size_toArray:=@List.size_toArray
theorem IM:type_of% @List.getElem?_eq_some_iff:=@List.getElem?_eq_some_iff
theorem IP:type_of% @List.map_append:=@List.map_append
theorem IQ:type_of% @Heap.lt_size:=@Heap.lt_size
theorem IS:type_of% @Nat.le_refl:=@Nat.le_refl
theorem IT:type_of% @Heap.get?_push_size:=@Heap.get?_push_size
theorem IU:type_of% @List.mem_append:=@List.mem_append
theorem IV:type_of% @List.getElem?_map:=@List.getElem?_map
theorem IW:type_of% @List.mem_singleton:=@List.mem_singleton
theorem IX:type_of% @if_neg:=@if_neg
theorem IY:type_of% @List.mem_cons:=@List.mem_cons
theorem IZ:type_of% @if_pos:=@if_pos
theorem Ja:type_of% @List.mem_of_getElem?:=@List.mem_of_getElem?
theorem Jb:type_of% @List.map_cons:=@List.map_cons
theorem Jc:type_of% @Nat.ne_of_lt:=@Nat.ne_of_lt
theorem Jd:type_of% @List.mem_append_right:=@List.mem_append_right
theorem Je:type_of% @Array.getElem?_eq_getElem:=@Array.getElem?_eq_getElem
theorem Jf:type_of% @PySem.boot_len:=@PySem.boot_len
theorem Jg:type_of% @List.length_cons:=@List.length_cons
theorem Jh:type_of% @List.mem_append_left:=@List.mem_append_left
theorem Ji:type_of% @List.append_nil:=@List.append_nil
theorem Jj:type_of% @List.map_map:=@List.map_map
theorem Jk:type_of% @PassesOwn.never:=@PassesOwn.never
theorem Jl:type_of% @Nat.le_trans:=@Nat.le_trans
theorem Jm:type_of% @List.mem_filter:=@List.mem_filter
theorem Jn:type_of% @List.mem_range:=@List.mem_range
theorem Jo:type_of% @Nat.lt_of_lt_of_le:=@Nat.lt_of_lt_of_le
theorem Jp:type_of% @Option.map_eq_some_iff:=@Option.map_eq_some_iff
theorem Jq:type_of% @Int.toNat_natCast:=@Int.toNat_natCast
theorem Jr:type_of% @List.nodup_iff_pairwise_ne:=@List.nodup_iff_pairwise_ne
theorem Js:type_of% @Option.some.inj:=@Option.some.inj
theorem Jt:type_of% @sizeLine_eq:=@sizeLine_eq
theorem Ju:type_of% @List.getElem_mem:=@List.getElem_mem
theorem Jv:type_of% @List.take_length:=@List.take_length
theorem Jw:type_of% @PySem.F.slot_list_append:=@PySem.F.slot_list_append
theorem Jx:type_of% @PySem.F.type_list_append:=@PySem.F.type_list_append
theorem Jy:type_of% @boot_isinstance:=@boot_isinstance
theorem Jz:type_of% @List.nodup_append:=@List.nodup_append
theorem JA:type_of% @List.length_take:=@List.length_take
theorem JB:type_of% @decide_eq_true_eq:=@decide_eq_true_eq
theorem JC:type_of% @List.filter_eq_self:=@List.filter_eq_self
theorem JD:type_of% @List.length_filter_le:=@List.length_filter_le
theorem JE:type_of% @decide_eq_true:=@decide_eq_true
theorem JF:type_of% @List.filter_cons:=@List.filter_cons
theorem JG:type_of% @List.length_singleton:=@List.length_singleton
theorem JH:type_of% @List.length_range:=@List.length_range
theorem JI:type_of% @wpAny_newObj_type:=@wpAny_newObj_type
theorem JJ:type_of% @PyProof.Rows.callWith_type1:=@PyProof.Rows.callWith_type1
theorem JK:type_of% @List.filter_eq_nil_iff:=@List.filter_eq_nil_iff
theorem JL:type_of% @boot_tuple:=@boot_tuple
theorem JM:type_of% @PySem.F.slot_list_extend:=@PySem.F.slot_list_extend
theorem JN:type_of% @PySem.F.type_list_extend:=@PySem.F.type_list_extend
theorem JO:type_of% @List.all_eq_true:=@List.all_eq_true
theorem JP:type_of% @List.lookup_cons:=@List.lookup_cons
theorem JQ:type_of% @List.pairwise_map:=@List.pairwise_map
theorem JR:type_of% @Array.getElem?_toList:=@Array.getElem?_toList
theorem JS:type_of% @List.getLast?_cons_cons:=@List.getLast?_cons_cons
theorem JT:type_of% @wpAny_holding:=@wpAny_holding
theorem JU:type_of% @List.length_nil:=@List.length_nil
theorem JV:type_of% @Nat.pow_le_pow_right:=@Nat.pow_le_pow_right
theorem JW:type_of% @Nat.zero_le:=@Nat.zero_le
theorem JX:type_of% @Heap.get?_update_self:=@Heap.get?_update_self
theorem JY:type_of% @List.eq_nil_or_concat:=@List.eq_nil_or_concat
theorem JZ:type_of% @List.concat_eq_append:=@List.concat_eq_append
theorem J0:type_of% @Array.length_toList:=@Array.length_toList
theorem J1:type_of% @Heap.SameBut.update:=@Heap.SameBut.update
theorem J2:type_of% @decide_eq_false:=@decide_eq_false
theorem J3:type_of% @PySem.W.kia_one:=@PySem.W.kia_one
theorem J4:type_of% @wpAny_call_entry:=@wpAny_call_entry
theorem J5:type_of% @Nat.lt_succ_of_lt:=@Nat.lt_succ_of_lt
theorem J6:type_of% @Around.under_plainId:=@Around.under_plainId
theorem J7:type_of% @List.filter_append:=@List.filter_append
theorem J8:type_of% @List.map_congr_left:=@List.map_congr_left
theorem J9:type_of% @wpAny_truthy_bool:=@wpAny_truthy_bool
theorem Ka:type_of% @List.append_assoc:=@List.append_assoc
theorem Kb:type_of% @List.take_add_one:=@List.take_add_one
theorem Kd:type_of% @List.length_eq_zero_iff:=@List.length_eq_zero_iff
theorem Ke:type_of% @List.take_succ:=@List.take_succ
theorem Kf:type_of% @List.nodup_cons:=@List.nodup_cons
theorem Kg:type_of% @Bool.eq_iff_iff:=@Bool.eq_iff_iff
theorem Kh:type_of% @codeAny_builtin:=@codeAny_builtin
theorem Ki:type_of% @List.not_mem_nil:=@List.not_mem_nil
theorem Kj:type_of% @List.getElem?_append_left:=@List.getElem?_append_left
theorem Kk:type_of% @beq_iff_eq:=@beq_iff_eq
theorem Kl:type_of% @Heap.get?_update_ne:=@Heap.get?_update_ne
theorem Km:type_of% @List.length_replicate:=@List.length_replicate
theorem Kn:type_of% @List.Perm.refl:=@List.Perm.refl
theorem Ko:type_of% @List.Sublist.append_left:=@List.Sublist.append_left
theorem Kq:type_of% @wpAny_Call_Name_kw:=@wpAny_Call_Name_kw
theorem Kr:type_of% @Bool.false_eq_true:=@Bool.false_eq_true
theorem Ks:type_of% @List.pairwise_cons:=@List.pairwise_cons
theorem Kt:type_of% @wpAny_callSpecial?_slot:=@wpAny_callSpecial?_slot
theorem Ku:type_of% @Bool.and_eq_true:=@Bool.and_eq_true
theorem Kv:type_of% @F.plain_set_update_loop:=@F.plain_set_update_loop
theorem Kw:type_of% @List.pairwise_singleton:=@List.pairwise_singleton
theorem Kx:type_of% @List.getElem?_append_right:=@List.getElem?_append_right
theorem Ky:type_of% @List.take_of_length_le:=@List.take_of_length_le
theorem Kz:type_of% @wpAny_setState_of:=@wpAny_setState_of
theorem KA:type_of% @List.filter_sublist:=@List.filter_sublist
theorem KC:type_of% @List.getElem?_eq_none:=@List.getElem?_eq_none
theorem KD:type_of% @builtinLookup_eq_fast:=@builtinLookup_eq_fast
theorem KG:type_of% @List.perm_append_comm:=@List.perm_append_comm
theorem KH:type_of% @wpAny_mono:=@wpAny_mono
theorem KI:type_of% @List.any_eq_true:=@List.any_eq_true
theorem KJ:type_of% @List.Pairwise.imp_of_mem:=@List.Pairwise.imp_of_mem
theorem KL:type_of% @wpAny_ite_split:=@wpAny_ite_split
theorem KN:type_of% @List.getElem?_set_self:=@List.getElem?_set_self
theorem KO:type_of% @codeAny_mono:=@codeAny_mono
theorem KP:type_of% @Array.getElem?_eq_none:=@Array.getElem?_eq_none
theorem KQ:type_of% @Nat.lt_irrefl:=@Nat.lt_irrefl
theorem KR:type_of% @List.length_drop:=@List.length_drop
theorem KS:type_of% @decide_eq_decide:=@decide_eq_decide
theorem KU:type_of% @List.mem_flatMap:=@List.mem_flatMap
theorem KW:type_of% @Bool.false_ne_true:=@Bool.false_ne_true
theorem KY:type_of% @Nat.lt_of_le_of_lt:=@Nat.lt_of_le_of_lt
theorem KZ:type_of% @isSubtype_type:=@isSubtype_type
theorem K0:type_of% @wpAny_passesOwn:=@wpAny_passesOwn
theorem K1:type_of% @get?_update_seq:=@get?_update_seq
theorem K2:type_of% @of_decide_eq_true:=@of_decide_eq_true
theorem K3:type_of% @List.foldl_append:=@List.foldl_append
theorem K4:type_of% @Int.zero_add:=@Int.zero_add
theorem K5:type_of% @listUpdate_at:=@listUpdate_at
theorem K6:type_of% @Nat.ne_of_gt:=@Nat.ne_of_gt
theorem K7:type_of% @boot_list:=@boot_list
namespace L2
section
abbrev Key:=Sum Int Str
def yG:Key->Value->Bool
 | .inl k,v=>Value.isInt k v
 | .inr x,v=>Value.isStrOf x v
def Ga(w:World):Key->Int
 | .inl k=>hashInt k
 | .inr x=>hashStr w x
theorem bH:∀{k:Key} {v:Value},yG k v=true->(∃i t,k=Sum.inl i/\v=Value.int i t)∨(∃x t,k=Sum.inr x/\v=Value.str x t)
 | .inl i,v,h=>by
  obtain⟨t,e⟩:=Value.isInt_shape (k:=i) (v:=v) h;exact .inl ⟨i,t,rfl,e⟩
 | .inr x,v,h=>by
  obtain⟨t,e⟩:=Value.isStrOf_shape (x:=x) (v:=v) h;exact .inr ⟨x,t,rfl,e⟩
theorem AV(a b:Int):decide ((Sum.inl a:Key)=Sum.inl b)=(a==b):=by
 by_cases e:a=b
 ·subst e;simp
 ·have h:¬(Sum.inl a:Key)=Sum.inl b:=fun q=>e (Sum.inl.inj q);rw[J2 h];exact(beq_eq_false_iff_ne.mpr e).symm
theorem B6(a b:Str):decide ((Sum.inr a:Key)=Sum.inr b)=decide (a=b):=by
 by_cases e:a=b
 ·subst e;simp
 ·have h:¬(Sum.inr a:Key)=Sum.inr b:=fun q=>e (Sum.inr.inj q);rw[J2 h,J2 e]
theorem zS(a:Int)(b:Str):decide ((Sum.inl a:Key)=Sum.inr b)=false:=J2 (fun q=>nomatch q)
theorem zU(a:Str)(b:Int):decide ((Sum.inr a:Key)=Sum.inl b)=false:=J2 (fun q=>nomatch q)
def lH(prog:Program)(w:World):PySem.KeyKind prog w Key where
 is:=yG
 hash:=Ga w
 inj:=fun v a b ha hb=>by
  rcases bH ha with⟨i,t,rfl,rfl⟩ |⟨x,t,rfl,rfl⟩
  ·rcases bH hb with⟨j,u,rfl,e⟩ |⟨y,u,rfl,e⟩
   ·injection e with e1 _;rw[e1]
   ·exact nomatch e
  ·rcases bH hb with⟨j,u,rfl,e⟩ |⟨y,u,rfl,e⟩
   ·exact nomatch e
   ·injection e with e1 _;rw[e1]
 byValue:=fun k v h=>by
  rcases bH h with⟨i,t,rfl,rfl⟩ |⟨x,t,rfl,rfl⟩<;>rfl
 pyHash:=fun hv h=>by
  rcases bH hv with⟨i,t,rfl,rfl⟩ |⟨x,t,rfl,rfl⟩
  ·exact wpAny_pyHash_int h
  ·exact wpAny_pyHash_str h
 eqBool:=fun hu hv h=>by
  rcases bH hu with⟨i,t,rfl,rfl⟩ |⟨x,t,rfl,rfl⟩
  ·rcases bH hv with⟨j,u,rfl,rfl⟩ |⟨y,u,rfl,rfl⟩
   ·rw[AV]at h;exact wpAny_eqBool_int h
   ·rw[zS]at h;exact SeqAt.EqAt.int_str i t y u _ _ _ _ h
  ·rcases bH hv with⟨j,u,rfl,rfl⟩ |⟨y,u,rfl,rfl⟩
   ·rw[zU]at h;exact SeqAt.EqAt.str_int x t j u _ _ _ _ h
   ·rw[B6]at h;exact wpAny_eqBool_str h
 «strs»:=fun k x t v h=>by
  rcases bH h with⟨i,u,rfl,e⟩ |⟨y,u,rfl,e⟩
  ·exact nomatch e
  ·injection e with e1 _;subst e1;cases v<;>rfl
end
section
inductive V where
 | non | bl (b:Bool) | int (i:Int) | str (x:Str) | byt (b:Array UInt8) | flt (b:UInt64) | ref (a:Addr) | ty (n:String)
 deriving DecidableEq
def RelV:V->Value->Prop
 | .non,u=>u=Value.none
 | .bl b,u=>u=Value.bool b
 | .int i,u=>∃t,u=Value.int i t
 | .str x,u=>∃t,u=Value.str x t
 | .byt b,u=>∃t,u=Value.bytes b t
 | .flt b,u=>∃t,u=Value.float b t
 | .ref a,u=>u=Value.ref a
 | .ty n,u=>u=Value.type n
abbrev Vals:List V->List Value->Prop:=Paired RelV
theorem Vals.length(r:Vals xs us):xs.length=us.length:=Paired.length r
theorem Vals.get:∀{xs:List V} {us:List Value} {i:Nat} {x:V},Vals xs us->xs[i]?=some x->∃u,us[i]?=some u/\RelV x u
 | _,_,_,_,.nil,e=>by simp at e
 | _,_,0,_,.cons r _,e=>by simp at e;subst e;exact⟨_,rfl,r⟩
 | _,_,i+1,x,.cons _ t,e=>by
  obtain⟨u,h1,h2⟩:=Vals.get (i:=i) (x:=x) t (by simpa using e);exact⟨u,by simpa using h1,h2⟩
theorem Vals.set{x:V}{u:Value}(r:RelV x u):∀{xs:List V} {us:List Value} (i:Nat),Vals xs us->Vals (xs.set i x) (us.set i u)
 | _,_,_,.nil=>.nil
 | _,_,0,.cons _ t=>.cons r t
 | _,_,i+1,.cons q t=>.cons q (Vals.set r i t)
theorem Vals.append:∀{xs ys:List V} {us ws:List Value},Vals xs us->Vals ys ws->Vals (xs++ys) (us++ws)
 | _,_,_,_,.nil,s=>s
 | _,_,_,_,.cons r t,s=>.cons r (Vals.append t s)
theorem Vals.take:∀{xs:List V} {us:List Value} (n:Nat),Vals xs us->Vals (xs.take n) (us.take n)
 | _,_,0,_=>.nil
 | _,_,_+1,.nil=>.nil
 | _,_,n+1,.cons r t=>.cons r (Vals.take n t)
theorem Vals.drop:∀{xs:List V} {us:List Value} (n:Nat),Vals xs us->Vals (xs.drop n) (us.drop n)
 | _,_,0,r=>r
 | _,_,_+1,.nil=>.nil
 | _,_,n+1,.cons _ t=>Vals.drop n t
def jH:Option V->Option Value->Prop
 | some v,some u=>RelV v u
 | none,none=>True
 | _,_=>False
def KV{κ:Type}:List (κ×V)->List (κ×Value)->Prop:=Paired fun(p:κ×V) (q:κ×Value)=>p.1=q.1/\RelV p.2 q.2
def kV:Key->V
 | .inl i=>.int i
 | .inr x=>.str x
inductive HO where
  | lst (xs:List V)
  | tup (xs:List V)
  | dK (kvs:List (Key×V)) | dT (kvs:List (List Key×V))
  | set (S:Int->Bool) (n:Nat)
  | ins (C dx:Addr) (fs:List (Str×V))
  | own (x:Addr)
  | xd (fs:List (Str×V))
  | met (f x:Addr)
  | rng (lo hi:Int)
  | frz (o:Obj) (u:HO)
  | tbl (ps:Array Value)
  | ext (φ:Heap->Prop)
abbrev Hp:=Addr->Option HO
def upd(H:Hp)(a:Addr)(o:HO):Hp:=fun b=>if b=a then some o else H b
theorem aR:upd H a o a=some o:=by unfold upd;rw[IZ rfl]
theorem aH(h:b≠a):upd H a o b=H b:=by unfold upd;rw[IX h]
theorem yL{H:Hp}(h:H a=some o)(h':H b=some u)(d:o≠u):a≠b:=by
 intro e;subst e;rw[h]at h';exact d (Js h')
theorem aT{H:Hp}(h:H a=some o)(h':H b=none):a≠b:=by
 intro e;subst e;rw[h]at h';cases h'
section
variable (P:Program)(w:World)
def bT(H:Hp)(h:Heap)(a:Addr):HO->Prop
 | .lst xs=>xs.length≤sizeLine/\∃(its:List Value) (n:Nat),Vals xs its/\h.get? a=some { cls:=.type "list",data:=.seq its.toArray n }
 | .tup xs=>xs.length≤sizeLine/\∃its:List Value,Vals xs its/\IsTup h a its.toArray
 | .dK kvs=>kvs.length≤sizeLine/\(a==sysModules)=false/\∃vs,KV kvs vs/\h.DictOf (lH P w) a vs
 | .dT kvs=>kvs.length≤sizeLine/\(a==sysModules)=false/\∃xs:List (List Key×Addr×Value),
   Paired (fun(p:List Key×V) (q:List Key×Addr×Value)=>p.1=q.1/\H q.2.1=some (.tup (p.1.map kV))/\RelV p.2 q.2.2) kvs xs /\
   ∃o es ep,h.get? a=some o/\o.ExactDict/\o.data=.dict es ep/\es.toList=xs.map (entryOfKey (tupleKind (lH P w)))/\(xs.map (·.1)).Nodup
 | .set S n=>h.SetOf (intKind P w) a S n
 | .ins C dx fs=>H dx=some (.own a)/\fs.length≤1000/\dx≠a/\h.get? a=some (PySem.W.instObj C dx) /\
   ∃mA,h.Ns1 dx mA/\(∀f,jH (fs.lookup f) (mA f))/\PySem.Within mA (fs.map (·.1))
 | .own _=>∃o,h.get? a=some o
 | .xd fs=>∃mA,h.Ns1 a mA/\∀f,jH (fs.lookup f) (mA f)
 | .rng lo hi=>∃t u v,h.get? a=some { cls:=.type "range",data:=.fields #[.int lo t,.int hi u,.int 1 v] }
 | .frz o u=>h.get? a=some o/\bT H h a u
 | .tbl ps=>h.get? a=some { cls:=.none,data:=.fields ps }
 | .met f x=>h.get? a=some (PySem.W.methodObj (.ref f) (.ref x))
 | .ext φ=>φ h/\(∃o,h.get? a=some o)/\∀h1 h2:Heap,φ h1->(∀o,h1.get? a=some o->h2.get? a=some o)->φ h2
def HOk(H:Hp)(h:Heap):Prop:=∀a o,H a=some o->bT P w H h a o
end
section
variable {P:Program}{w:World}{H H':Hp}{h h':Heap}{a:Addr}{o:HO}
theorem bT.lt(x:bT P w H h a o):a<h.objs.size:=by
 cases o with
 | lst xs=>obtain⟨_,_,_,_,e⟩:=x;exact IQ e
 | tup xs=>obtain⟨_,_,_,p⟩:=x;exact p.lt
 | dK kvs=>obtain⟨_,_,_,_,o,_,_,e,_⟩:=x;exact IQ e
 | dT kvs=>obtain⟨_,_,_,_,o,_,_,e,_⟩:=x;exact IQ e
 | set S n=>obtain⟨o,_,_,_,e,_⟩:=x;exact IQ e
 | ins C dx fs=>obtain⟨_,_,_,e,_⟩:=x;exact IQ e
 | own y=>obtain⟨_,e⟩:=x;exact IQ e
 | xd fs=>obtain⟨_,⟨_,_,_,e,_⟩,_⟩:=x;exact IQ e
 | rng lo hi=>obtain⟨_,_,_,e⟩:=x;exact IQ e
 | frz ob u=>obtain⟨e,_⟩:=x;exact IQ e
 | tbl ps=>exact IQ (show h.get? a=some _ from x)
 | met f y=>exact IQ (show h.get? a=some _ from x)
 | ext φ=>obtain⟨_,⟨_,e⟩,_⟩:=x;exact IQ e
theorem Paired.mapP{α β:Type}{F G:α->β->Prop}:∀{l₁:List α} {l₂:List β},Paired F l₁ l₂->(∀a b,F a b->G a b)->Paired G l₁ l₂
 | _,_,.nil,_=>.nil
 | _,_,.cons r t,f=>.cons (f _ _ r) (Paired.mapP t f)
theorem bT.stay(x:bT P w H h a o)(k:∀b u,(b=a∨H b=some (.own a))->h.get? b=some u->h'.get? b=some u)
  (ho:∀b,H b=some (.own a)->H' b=some (.own a)) (ht:∀b xs,H b=some (.tup xs)->H' b=some (.tup xs)):bT P w H' h' a o:=by
 induction o with
 | lst xs=>obtain⟨z,its,n,r,e⟩:=x;exact⟨z,its,n,r,k _ _ (.inl rfl) e⟩
 | tup xs=>obtain⟨z,its,r,ob,e,c⟩:=x;exact⟨z,its,r,ob,k _ _ (.inl rfl) e,c⟩
 | dK kvs=>obtain⟨z,y,vs,r,ob,es,ep,e,c⟩:=x;exact⟨z,y,vs,r,ob,es,ep,k _ _ (.inl rfl) e,c⟩
 | dT kvs =>
  obtain⟨z,y,xs,r,ob,es,ep,e,c⟩:=x;exact⟨z,y,xs,Paired.mapP r fun p q z=>⟨z.1,ht _ _ z.2.1,z.2.2⟩,ob,es,ep,k _ _ (.inl rfl) e,c⟩
 | set S n=>obtain⟨ob,es,ep,t,e,c⟩:=x;exact⟨ob,es,ep,t,k _ _ (.inl rfl) e,c⟩
 | ins C dx fs =>
  obtain⟨d,z,ne,e,mA,⟨od,es,ep,e2,c⟩,r⟩:=x;exact⟨ho _ d,z,ne,k _ _ (.inl rfl) e,mA,⟨od,es,ep,k _ _ (.inr d) e2,c⟩,r⟩
 | own y=>obtain⟨ob,e⟩:=x;exact⟨ob,k _ _ (.inl rfl) e⟩
 | xd fs=>obtain⟨mA,⟨od,es,ep,e,c⟩,r⟩:=x;exact⟨mA,⟨od,es,ep,k _ _ (.inl rfl) e,c⟩,r⟩
 | rng lo hi=>obtain⟨t,u,v,e⟩:=x;exact⟨t,u,v,k _ _ (.inl rfl) e⟩
 | frz ob u ih=>obtain⟨e,q⟩:=x;exact⟨k _ _ (.inl rfl) e,ih q⟩
 | tbl ps =>
  have e:h.get? a=some { cls:=.none,data:=.fields ps }:=x;show h'.get? a=some { cls:=.none,data:=.fields ps };exact k a _ (.inl rfl) e
 | met f y =>
  have e:h.get? a=some (PySem.W.methodObj (.ref f) (.ref y)):=x;show h'.get? a=some (PySem.W.methodObj (.ref f) (.ref y));exact k a _ (.inl rfl) e
 | ext φ=>obtain⟨p,⟨o,e⟩,st⟩:=x;exact⟨st _ _ p fun o q=>k _ _ (.inl rfl) q,⟨o,k _ _ (.inl rfl) e⟩,st⟩
theorem HOk.lt(x:HOk P w H h)(e:H a=some o):a<h.objs.size:=(x a o e).lt
theorem HOk.fresh(x:HOk P w H h)(e:h.objs.size≤a):H a=none:=by
 cases q:H a with
 | none=>rfl
 | some u=>exact absurd (Jo (x.lt q) e) (KQ _)
theorem HOk.kept(x:HOk P w H h)(k:∀b u,h.get? b=some u->h'.get? b=some u):HOk P w H h':=fun a o e =>
 (x a o e).stay (fun b u _ q=>k b u q) (fun _ q=>q) fun _ _ q=>q
theorem HOk.laid(x:HOk P w H h)(k:∀b u,h.get? b=some u->h'.get? b=some u)(hp:h.objs.size≤a)(new:bT P w (upd H a o) h' a o):HOk P w (upd H a o) h':=fun b u e=>by
 have hn:=x.fresh hp;by_cases hb:b=a
 ·subst hb;rw[aR]at e;cases e;exact new
 ·rw[aH hb]at e;exact(x b u e).stay (fun c v _ q=>k c v q) (fun c q=>by rw[aH (aT q hn)];exact q) fun c xs q=>by rw[aH (aT q hn)];exact q
end
def Rd(H:Hp)(a:Addr)(u:HO):Prop:=H a=some u∨∃o,H a=some (.frz o u)
theorem Rd.ok(r:Rd H a u)(x:HOk P w H h):bT P w H h a u:=by
 rcases r with r |⟨o,r⟩
 ·exact x a u r
 ·obtain⟨_,q⟩:=x a _ r;exact q
def Mut:Option HO->Prop
 | some (.lst _)=>True
 | some (.dK _)=>True
 | some (.dT _)=>True
 | some (.set _ _)=>True
 | some (.ins _ _ _)=>True
 | some (.ext _)=>True
 | _=>False
section
variable {P:Program}{w:World}{H:Hp}{h h':Heap}{x e:Addr}{o':HO}
theorem HOk.write(ok:HOk P w H h)(mu:Mut (H x))(he:e=x∨H e=some (.own x))(k:∀b u,b≠e->h.get? b=some u->h'.get? b=some u)(heo:∃u,h'.get? e=some u)
  (new:bT P w (upd H x o') h' x o'):HOk P w (upd H x o') h':=fun b u q=>by
 have nown:∀c y,H c=some (.own y)->c≠x:=fun c y r z=>by subst z;rw[r]at mu;exact mu
 have ntup:∀c xs,H c=some (.tup xs)->c≠x:=fun c xs r z=>by subst z;rw[r]at mu;exact mu
 by_cases hb:b=x
 ·subst hb;rw[aR]at q;cases q;exact new
 ·rw[aH hb]at q;by_cases hbe:b=e
  ·have q':H b=some (.own x):=by
    rcases he with z | z
    ·exact absurd (hbe.trans z) hb
    ·rw[hbe];exact z
   rw[q]at q';cases q';obtain⟨v,hv⟩:=heo;exact⟨v,by rw[hbe];exact hv⟩
  ·refine(ok b u q).stay (fun c v hc r=>k c v ?_ r) (fun c r=>by rw[aH (nown c b r)];exact r) fun c xs r=>by rw[aH (ntup c xs r)];exact r
   rcases hc with rfl | hc
   ·exact hbe
   ·rintro rfl;rcases he with z | z
    ·exact nown c b hc z
    ·rw[hc]at z;cases z;exact hb rfl
end
structure Un (fs ex:List Addr) (H H':Hp) (h h':Heap):Prop where
 keep:∀b o,h.get? b=some o->H b=none->b∉fs->b∉ex->h'.get? b=some o
 slot:∀b o,h.get? b=some o->H b=none->b∈fs->b∉ex->∃sl,h'.get? b=some { o with slots:=sl }
 free:∀b o,h.get? b=some o->H b=none->b∉ex->H' b=none
 there:∀b o,h.get? b=some o->b∉ex->∃o',h'.get? b=some o'
 tups:∀b xs,H b=some (.tup xs)->H' b=some (.tup xs)
 frzs:∀b o u,H b=some (.frz o u)->H' b=some (.frz o u)
 tbls:∀b ps,H b=some (.tbl ps)->∃more,H' b=some (.tbl (ps++more))
section
variable {fs fs' ex ex':List Addr}{H H1 H2:Hp}{h h1 h2 h':Heap}{a x e:Addr}{o:HO}
theorem Un.any(u:Un fs ex H H1 h h1){b:Addr}{ob:Obj}(q:h.get? b=some ob)(n:H b=none)(hx:b∉ex):∃sl,h1.get? b=some { ob with slots:=sl }:=by
 by_cases hb:b∈fs
 ·exact u.slot b ob q n hb hx
 ·exact⟨ob.slots,u.keep b ob q n hb hx⟩
theorem Un.kept(k:∀b u,h.get? b=some u->h'.get? b=some u):Un fs ex H H h h' :=
 ⟨fun b ob q _ _ _=>k b ob q,fun b ob q _ _ _=>⟨ob.slots,k b ob q⟩,fun _ _ _ n _=>n,fun b ob q _=>⟨ob,k b ob q⟩,fun _ _ q=>q,fun _ _ _ q=>q,fun _ ps q=>⟨#[],by rw[q];simp⟩⟩
theorem Un.refl:Un fs ex H H h h:=Un.kept fun _ _ q=>q
theorem Un.laid(k:∀b u,h.get? b=some u->h'.get? b=some u)(hp:h.objs.size≤a)(hn:H a=none):Un fs ex H (upd H a o) h h' where
 keep:=fun b u q _ _ _=>k b u q
 slot:=fun b u q _ _ _=>⟨u.slots,k b u q⟩
 free:=fun b u q n _=>by rw[aH (Jc (Jo (IQ q) hp))];exact n
 there:=fun b u q _=>⟨u,k b u q⟩
 tups:=fun b xs q=>by rw[aH (aT q hn)];exact q
 frzs:=fun b u xs q=>by rw[aH (aT q hn)];exact q
 tbls:=fun b ps q=>⟨#[],by rw[aH (aT q hn),q];simp⟩
theorem Un.write(mu:Mut (H x))(he:e=x∨H e=some (.own x))(k:∀b u,b≠e->h.get? b=some u->h'.get? b=some u)(heo:∃u,h'.get? e=some u):Un fs ex H (upd H x o) h h':=by
 have hx:∀b,H b=none->b≠x:=fun b n z=>by subst z;rw[n]at mu;exact mu
 have hb:∀b,H b=none->b≠e:=fun b n z=>by
  subst z;rcases he with r | r
  ·exact hx b n r
  ·rw[n]at r;cases r
 have hm:∀b u,H b=some u->¬Mut (some u)->b≠x:=fun b u q nm z=>by subst z;rw[q]at mu;exact nm mu
 refine⟨fun b u q n _ _=>k b u (hb b n) q,fun b u q n _ _=>⟨u.slots,k b u (hb b n) q⟩,fun b u q n _=>by rw[aH (hx b n)];exact n,fun b u q _=>?_,
  fun b xs q=>by rw[aH (hm b _ q fun z=>z)];exact q,fun b u xs q=>by rw[aH (hm b _ q fun z=>z)];exact q,fun b ps q=>⟨#[],by rw[aH (hm b _ q fun z=>z),q];simp⟩⟩
 by_cases hbe:b=e
 ·subst hbe;exact heo
 ·exact⟨u,k b u hbe q⟩
end
def trk(h:Heap)(H:Hp):List Addr:=(List.range h.objs.size).filter fun a=>(H a).isSome
def fq(h:Heap)(H:Hp):Heap:=PySem.W.hideAll h (trk h H)
theorem jT(h:Heap)(H:Hp):(fq h H).objs.size=h.objs.size:=PySem.W.hideAll_size _ _
theorem m9(e:h.get? b=some o)(n:H b=none):(fq h H).get? b=some o :=
 PySem.W.hideAll_get _ e fun hm=>by
  have q:(H b).isSome=true:=(Jm.mp hm).2;rw[n]at q;simp at q
theorem qe(e:(fq h H).get? b=some o):h.get? b=some o/\H b=none:=by
 have e':h.get? b=some o:=PySem.W.of_hideAll (trk h H) e;refine⟨e',?_⟩;cases q:H b with
 | none=>rfl
 | some x =>
  have hm:b∈trk h H:=Jm.mpr ⟨Jn.mpr (IQ e'),by simp[q]⟩;have z:(fq h H).get? b=none:=PySem.W.hideAll_none (trk h H) hm;rw[z]at e;cases e
def xn(g h:Heap)(L:Addr):List (Addr×Obj):=(List.range h.objs.size).filterMap fun a=>if a=L∨(g.get? a).isSome=true then none else(h.get? a).map fun o=>(a,o)
def rest(g h:Heap)(L d:Addr):List (Addr×Obj):=(xn g h L).filter fun p=>decide (p.1≠d)
end
section
structure Mod (K:PySem.W.Frag) (mg:Str→Option Value) (base:Heap):Prop where
 kin:K.In base
 glob:base.Ns mainGlobals mg
 blt:∃mb,base.Ns builtinsNs mb/\∀x:Str,x≠"__name__"->mb x=bootBuiltins x
 nolimit:base.NoLimit
structure Cx where
 prog:Program
 w:World
 K:PySem.W.Frag
 mg:Str->Option Value
 base:Heap
 A:Around
 N:List Str
 s₀:Shared
 H₀:Hp
 env:Env
 outer:List Env
 stack:List Env
 ex:List Addr
 fn:Str->Bool
 calm:Bool
 pn:List (Addr×Obj)
 xe:Value->Shared->Prop
def frs(l:List Env):List Addr:=l.filterMap (·.frame)
abbrev Cx.fs(X:Cx):List Addr:=frs X.outer
def Vis(sc:Scope)(x:Str):Prop:=sc.names.lookup x=some .local∨sc.names.lookup x=some .cell∨sc.names.lookup x=some .free
def Loc(sc:Scope)(x:Str):Prop:=sc.names.lookup x=some .local∨sc.names.lookup x=some .cell
def Look(env:Env)(h:Heap)(m:Str->Option Value)(x:Str)(u:Value):Prop :=
 (env.kindOf x=some .local/\m x=some u)∨((env.kindOf x=some .cell∨env.kindOf x=some .free)/\∃c,env.cells.lookup x=some c/\h.IsCell c (some u))
structure Cx.Ok (X:Cx):Prop where
 mod:Mod X.K X.mg X.base
 kind:X.env.scope.kind=.function
 glob:X.env.globals=mainGlobals
 blt:X.env.builtins=builtinsNs
 above:X.s₀.heap.objs.size≤X.env.locals
 inj:∀x y c,X.env.cells.lookup x=some c->X.env.cells.lookup y=some c->x=y
 has:∀x,(X.env.kindOf x=some .cell∨X.env.kindOf x=some .free)->∃c,X.env.cells.lookup x=some c
 cab:∀x c,X.fn x=true->X.env.cells.lookup x=some c->X.s₀.heap.objs.size≤c
 hd:X.calm=true->X.A.handled=none
 frames:X.A.frames=some X.stack
 stk:X.stack=X.outer∨(X.stack=X.env::X.outer/\X.env.frame=some X.env.locals)
 exf:∀b∈X.ex,b≠X.env.locals/\∀x c,X.env.cells.lookup x=some c->c≠b
 bs:∀b o,X.base.get? b=some o->X.s₀.heap.get? b=some o/\X.H₀ b=none
 bsz:X.base.objs.size≤X.s₀.heap.objs.size
 noex:∀b o,X.base.get? b=some o->b∉X.ex
 exfs:∀b∈X.ex,b∉X.fs
 funs:X.s₀.heap.FunFrames X.base X.outer
 frf:∀b∈X.fs,X.H₀ b=none
structure Inv (X:Cx) (pins:List (Addr × Obj)) (σ:List (Option V)) (H:Hp) (s:Shared):Prop where
 ok:X.Ok
 os:s.os=X.s₀.os
 bare:AllBare s.gens
 base:Un X.fs X.ex X.H₀ H X.s₀.heap s.heap
 loc:∃m,s.heap.Ns X.env.locals m/\∀(i:Nat) (x:Str) (v:V),X.N[i]?=some x->σ[i]?=some (some v)->Vis X.env.scope x->∃u,RelV v u/\Look X.env s.heap m x u
 cell:∀x c,X.env.cells.lookup x=some c->∃v,s.heap.IsCell c v
 free:H X.env.locals=none
 freeC:∀x c,X.env.cells.lookup x=some c->H c=none
 pin:∀p∈X.pn++pins,s.heap.get? p.1=some p.2/\H p.1=none/\p.1≠X.env.locals/\p.1∉X.fs/\∀v,p.2.data≠.cell v
 hok:HOk X.prog X.w H s.heap
 len:σ.length=X.N.length
section
variable {X:Cx}{pins:List (Addr×Obj)}{σ:List (Option V)}{H H':Hp}{s:Shared}{h':Heap}
theorem Cx.Ok.nofr(ok:X.Ok){b:Addr}{o:Obj}(e:X.base.get? b=some o):b∉X.fs:=fun hb=>by
 have:=(ok.funs.mem hb).1;rw[e]at this;cases this
theorem Inv.bs(I:Inv X pins σ H s):∀b o,X.base.get? b=some o->s.heap.get? b=some o/\H b=none:=fun b o e =>
 ⟨I.base.keep b o (I.ok.bs b o e).1 (I.ok.bs b o e).2 (I.ok.nofr e) (I.ok.noex b o e),I.base.free b o (I.ok.bs b o e).1 (I.ok.bs b o e).2 (I.ok.noex b o e)⟩
theorem Inv.bk(I:Inv X pins σ H s):∀b o,X.base.get? b=some o->s.heap.get? b=some o:=fun b o e=>(I.bs b o e).1
theorem Inv.mod(I:Inv X pins σ H s):Mod X.K X.mg X.base:=I.ok.mod
theorem Inv.kIn(I:Inv X pins σ H s):X.K.In s.heap:=I.ok.mod.kin.keeps I.bk
theorem Inv.lt(I:Inv X pins σ H s):X.env.locals<s.heap.objs.size:=let ⟨_,hn,_⟩:=I.loc;hn.lt
theorem Inv.sz(I:Inv X pins σ H s):X.s₀.heap.objs.size≤s.heap.objs.size:=Jl I.ok.above (Nat.le_of_lt I.lt)
theorem Inv.nofs(I:Inv X pins σ H s){a:Addr}(h:s.heap.objs.size≤a):a∉X.fs:=fun hb=>by
 obtain⟨_,o,ho,_⟩:=I.ok.funs.mem hb;exact absurd (Jo (IQ ho) (Jl I.sz h)) (KQ _)
theorem Inv.cne(I:Inv X pins σ H s):∀x c,X.env.cells.lookup x=some c->c≠X.env.locals:=fun x c e z=>by
 obtain⟨v,o,ho,hd⟩:=I.cell x c e;obtain⟨m,⟨o',es,ep,ho',hd',_⟩,_⟩:=I.loc;rw[z,ho']at ho;cases ho;rw[hd']at hd;cases hd
theorem Inv.funs(I:Inv X pins σ H s):s.heap.FunFrames X.base X.outer:=by
 have all:∀(l:List Env),(∀b∈frs l,b∈X.fs)->X.s₀.heap.FunFrames X.base l->s.heap.FunFrames X.base l:=by
  intro l
  induction l with
  | nil=>intro _ _;trivial
  | cons env r ih =>
   intro hs hl;obtain⟨hk,⟨L,o,hf,hn,ho,hd⟩,hr⟩:=hl;have hL:L∈X.fs:=hs L (by unfold frs;rw[List.filterMap_cons,hf];exact IK);obtain⟨sl,e⟩:=I.base.slot L o ho (I.ok.frf L hL) hL fun z=>I.ok.exfs L z hL;exact⟨hk,⟨L,_,hf,hn,e,hd⟩,ih (fun b hb=>hs b (by unfold frs;rw[List.filterMap_cons,hf];exact IJ _ hb)) hr⟩
 exact all X.outer (fun _ hb=>hb) I.ok.funs
theorem Inv.stack(I:Inv X pins σ H s):s.heap.FunFrames X.base X.stack:=by
 rcases I.ok.stk with e |⟨e,hf⟩
 ·rw[e];exact I.funs
 ·rw[e];obtain⟨m,hn,_⟩:=I.loc;refine .cons (by rw[I.ok.kind];decide) hf hn ?_ I.funs;exact Heap.get?_none_of_le (Jl I.ok.bsz I.ok.above)
theorem Inv.stkSub(I:Inv X pins σ H s):∀b∈frs X.stack,b∈X.env.locals::X.fs:=fun b hb=>by
 rcases I.ok.stk with e |⟨e,hf⟩
 ·rw[e]at hb;exact IJ _ hb
 ·rw[e]at hb;unfold frs at hb;rw[List.filterMap_cons,hf]at hb;exact hb
theorem Inv.stkFree(I:Inv X pins σ H s):∀b∈frs X.stack,H b=none:=fun b hb=>by
 rcases IY.mp (I.stkSub b hb)with e | hb
 ·rw[e];exact I.free
 ·obtain⟨_,o,ho,_⟩:=I.ok.funs.mem hb;exact I.base.free b o ho (I.ok.frf b hb) fun z=>I.ok.exfs b z hb
theorem Inv.step{g':Array GenState}{t':Nat}{d':Drawn}{ch:List Addr}(I:Inv X pins σ H s)
  (hch:∀b∈ch,(b∈X.ex∨X.s₀.heap.objs.size≤b)/\b≠X.env.locals/\(∀x c,X.env.cells.lookup x=some c->c≠b)/\∀p∈X.pn++pins,p.1≠b)
  (keep:∀b o,b≠X.env.locals->b∉X.fs->b∉ch->s.heap.get? b=some o->H b=none->h'.get? b=some o)
  (slot:∀b o,b≠X.env.locals->b∈X.fs->b∉ch->s.heap.get? b=some o->H b=none->∃sl,h'.get? b=some { o with slots:=sl }) (free:∀b o,b∉ch->s.heap.get? b=some o->H b=none->H' b=none)
  (there:∀b o,b∉ch->s.heap.get? b=some o->∃o',h'.get? b=some o')
  (tups:∀b xs,H b=some (.tup xs)->H' b=some (.tup xs)) (frzs:∀b o u,H b=some (.frz o u)->H' b=some (.frz o u)) (tbls:∀b ps,H b=some (.tbl ps)->∃more,H' b=some (.tbl (ps++more)))
  (ns:∀m,s.heap.Ns X.env.locals m->h'.Ns X.env.locals m) (hok:HOk X.prog X.w H' h') (hg:AllBare g') :
  Inv X pins σ H' { s with heap:=h',gens:=g',drawn:=d',toks:=t' }:=by
 have neL:∀b o,X.s₀.heap.get? b=some o->b≠X.env.locals:=fun b o e=>Jc (Jo (IQ e) I.ok.above);have neC:∀b o,X.s₀.heap.get? b=some o->b∉X.ex->b∉ch:=fun b o e hx hb=>by
  rcases (hch b hb).1 with z | z
  ·exact hx z
  ·exact absurd (Jo (IQ e) z) (KQ _)
 have cellK:∀x c,X.env.cells.lookup x=some c->∀v,s.heap.IsCell c v->h'.IsCell c v:=fun x c e v y_=>by
  obtain⟨o,ho,hd⟩:=y_;have nch:c∉ch:=fun z=>(hch c z).2.2.1 x c e rfl;by_cases hc:c∈X.fs
  ·obtain⟨sl,q⟩:=slot c o (I.cne x c e) hc nch ho (I.freeC x c e);exact⟨_,q,hd⟩
  ·exact⟨o,keep c o (I.cne x c e) hc nch ho (I.freeC x c e),hd⟩
 refine⟨I.ok,I.os,hg,⟨fun b o e n hb hx=>?_,fun b o e n hb hx=>?_,fun b o e n hx=>?_,fun b o e hx=>?_,fun b xs e=>tups b xs (I.base.tups b xs e),fun b o xs e=>frzs b o xs (I.base.frzs b o xs e),fun b ps e=>?_⟩,?_,fun x c e=>?_,?_,fun x c e=>?_,fun p hp=>?_,hok,I.len⟩
 ·exact keep b o (neL b o e) hb (neC b o e hx) (I.base.keep b o e n hb hx) (I.base.free b o e n hx)
 ·obtain⟨sl,e1⟩:=I.base.slot b o e n hb hx;obtain⟨sl',e2⟩:=slot b _ (neL b o e) hb (neC b o e hx) e1 (I.base.free b o e n hx);exact⟨sl',e2⟩
 ·obtain⟨o',e1⟩:=I.base.there b o e hx;exact free b o' (neC b o e hx) e1 (I.base.free b o e n hx)
 ·obtain⟨o',e1⟩:=I.base.there b o e hx;exact there b o' (neC b o e hx) e1
 ·obtain⟨m1,e1⟩:=I.base.tbls b ps e;obtain⟨m2,e2⟩:=tbls b _ e1;exact⟨m1++m2,by rw[e2,Array.append_assoc]⟩
 ·obtain⟨m,hn,hl⟩:=I.loc;refine⟨m,ns m hn,fun i x v e1 e2 e3=>?_⟩;obtain⟨u,r,l⟩:=hl i x v e1 e2 e3;refine⟨u,r,?_⟩;rcases l with l |⟨k,c,e,z⟩
  ·exact .inl l
  ·exact .inr ⟨k,c,e,cellK x c e _ z⟩
 ·obtain⟨v,z⟩:=I.cell x c e;exact⟨v,cellK x c e v z⟩
 ·obtain⟨m,⟨o,_,_,ho,_⟩,_⟩:=I.loc;exact free _ o (fun z=>(hch _ z).2.1 rfl) ho I.free
 ·obtain⟨v,o,ho,hd⟩:=I.cell x c e;exact free c o (fun z=>(hch c z).2.2.1 x c e rfl) ho (I.freeC x c e)
 ·obtain⟨e,n,ne,nf,d⟩:=I.pin p hp;have nch:p.1∉ch:=fun z=>(hch p.1 z).2.2.2 p hp rfl;exact⟨keep p.1 p.2 ne nf nch e n,free p.1 p.2 nch e n,ne,nf,d⟩
theorem Inv.un(I:Inv X pins σ H s)(u:Un X.fs [] H H' s.heap h')(hok:HOk X.prog X.w H' h'):Inv X pins σ H' { s with heap:=h',toks:=t' }:=by
 obtain⟨m,⟨o,es,ep,ho,r⟩,_⟩:=id I.loc;obtain⟨sl,hL⟩:=u.any ho I.free (by simp);exact I.step (g':=s.gens) (d':=s.drawn) (ch:=[]) (fun _ z=>nomatch z) (fun b o _ hb _ e n=>u.keep b o e n hb (by simp)) (fun b o _ hb _ e n=>u.slot b o e n hb (by simp)) (fun b o _ e n=>u.free b o e n (by simp)) (fun b o _ e=>u.there b o e (by simp)) u.tups u.frzs u.tbls (fun m' hm=>by
  obtain⟨o',es',ep',ho',r'⟩:=hm;rw[ho]at ho';cases ho';exact⟨_,es',ep',hL,r'⟩) hok I.bare
theorem Inv.call(I:Inv X pins σ H s)(u:Un (frs X.stack) ch H H' s.heap h')(hok:HOk X.prog X.w H' h')(hg:AllBare g')
  (hch:∀b∈ch,(b∈X.ex∨X.s₀.heap.objs.size≤b)/\b≠X.env.locals/\(∀x c,X.env.cells.lookup x=some c->c≠b)/\∀p∈X.pn++pins,p.1≠b) :
  Inv X pins σ H' { s with heap:=h',gens:=g',drawn:=d',toks:=t' }:=by
 obtain⟨m,⟨o,es,ep,ho,r⟩,_⟩:=id I.loc;obtain⟨sl,hL⟩:=u.any ho I.free fun z=>(hch _ z).2.1 rfl;exact I.step (ch:=ch) hch (fun b o hL hb hc e n=>u.keep b o e n (fun z=>(IY.mp (I.stkSub b z)).elim hL hb) hc) (fun b o _ _ hc e n=>u.any e n hc) (fun b o hc e n=>u.free b o e n hc) (fun b o hc e=>u.there b o e hc) u.tups u.frzs u.tbls (fun m' hm=>by
  obtain⟨o',es',ep',ho',r'⟩:=hm;rw[ho]at ho';cases ho';exact⟨_,es',ep',hL,r'⟩) hok hg
theorem Inv.turned(I:Inv X pins σ H s)(k:∀b o,b≠it->s.heap.get? b=some o->h'.get? b=some o)(hn:H it=none)(hL:it≠X.env.locals)
  (h1:it∈X.ex∨X.s₀.heap.objs.size≤it) (h2:∀x c,X.env.cells.lookup x=some c->c≠it) (h3:∀p∈X.pn++pins,p.1≠it):Inv X pins σ H { s with heap:=h',toks:=t' }:=by
 have nit:∀b u,H b=some u->b≠it:=fun b u e z=>by rw[z,hn]at e;cases e
 refine I.step (g':=s.gens) (d':=s.drawn) (ch:=[it]) (fun b hb=>?_) (fun b o _ _ hc e _=>k b o (fun z=>hc (by simp[z])) e) (fun b o _ _ hc e _=>⟨o.slots,k b o (fun z=>hc (by simp[z])) e⟩) (fun _ _ _ _ n=>n)
  (fun b o hc e=>⟨o,k b o (fun z=>hc (by simp[z])) e⟩) (fun _ _ e=>e) (fun _ _ _ e=>e) (fun b ps e=>⟨#[],by rw[e];simp⟩) (fun m hm=>?_) (fun b u e=>?_) I.bare
 ·have e:b=it:=by simpa using hb
  subst e;exact⟨h1,hL,h2,h3⟩
 ·obtain⟨o,es,ep,ho,r⟩:=hm;exact⟨o,es,ep,k _ o (Ne.symm hL) ho,r⟩
 ·refine(I.hok b u e).stay (fun c v hc q=>k c v ?_ q) (fun _ q=>q) fun _ _ q=>q;rcases hc with z | z
  ·rw[z];exact nit b u e
  ·exact nit c _ z
theorem Inv.tok(I:Inv X pins σ H s)(t:Nat):Inv X pins σ H { s with toks:=t }:=I.un (h':=s.heap) (t':=t) Un.refl I.hok
theorem Inv.kept(I:Inv X pins σ H s)(k:∀b u,s.heap.get? b=some u->h'.get? b=some u):Inv X pins σ H { s with heap:=h',toks:=t' }:=I.un (Un.kept k) (I.hok.kept k)
theorem Inv.laid{a:Addr}(I:Inv X pins σ H s)(k:∀b u,s.heap.get? b=some u->h'.get? b=some u)(hp:s.heap.objs.size≤a)(new:bT X.prog X.w (upd H a o) h' a o) :
  Inv X pins σ (upd H a o) { s with heap:=h',toks:=t' }:=I.un (Un.laid k hp (I.hok.fresh hp)) (I.hok.laid k hp new)
theorem Inv.write(I:Inv X pins σ H s)(mu:Mut (H x))(he:e=x∨H e=some (.own x))(k:∀b u,b≠e->s.heap.get? b=some u->h'.get? b=some u)(heo:∃u,h'.get? e=some u)
  (new:bT X.prog X.w (upd H x o) h' x o):Inv X pins σ (upd H x o) { s with heap:=h',toks:=t' }:=I.un (Un.write mu he k heo) (I.hok.write mu he k heo new)
theorem Inv.pins_of(I:Inv X pins σ H s)(h:∀p∈pins',s.heap.get? p.1=some p.2/\H p.1=none/\p.1≠X.env.locals/\p.1∉X.fs/\∀v,p.2.data≠.cell v):Inv X pins' σ H s :=
 ⟨I.ok,I.os,I.bare,I.base,I.loc,I.cell,I.free,I.freeC,fun p hp=>(IU.mp hp).elim (fun z=>I.pin p (Jh _ z)) (h p),I.hok,I.len⟩
theorem nI{N:List Str}(hN:N.Nodup){i j:Nat}{x:Str}(a:N[i]?=some x)(b:N[j]?=some x):i=j:=by
 obtain⟨h1,e1⟩:=IM.mp a;obtain⟨h2,e2⟩:=IM.mp b;exact(List.getElem_inj hN).mp (e1.trans e2.symm)
theorem kl{M:Model}{A:Around}{E:Value->Shared->Prop}{i:Nat}{x:Str}{v:V}{u:Value}{Q:Unit->Shared->Prop}(I:Inv X pins σ H s)(hN:X.N.Nodup)(hi:X.N[i]?=some x)(hx:Loc X.env.scope x)(r:RelV v u)
  (h:∀s',Inv X pins (σ.set i (some v)) H s'->(∃a,Heap.SameBut a s.heap s'.heap/\(a=X.env.locals∨X.env.cells.lookup x=some a))->Q () s') (hf:X.fn x=true∨X.env.scope.names.lookup x=some .local:=by first | exact .inl rfl | exact .inr rfl | assumption):wpAny M A (storeName X.env x u) Q E s:=by
 obtain⟨m,hn,hl⟩:=id I.loc;have hcls:(X.env.scope.kind==.class||(X.env.scope.kind==.module&&X.env.locals !=X.env.globals))=false:=by rw[I.ok.kind];rfl
 have hiσ:i<σ.length:=by rw[I.len];exact(IM.mp hi).1
 have cne:=I.cne;have tracked:∀{a:Addr} {h':Heap},(∃o,s.heap.get? a=some o/\H a=none)->Heap.SameBut a s.heap h'->HOk X.prog X.w H h':=fun {a h'} ha hs b ob e=>by
  obtain⟨_,_,hfree⟩:=ha;refine(I.hok b ob e).stay (fun c w' hc q=>(hs.2 c ?_).trans q) (fun _ q=>q) fun _ _ q=>q;rintro rfl;rcases hc with rfl | hc
  ·rw[hfree]at e;cases e
  ·rw[hfree]at hc;cases hc
 rcases hx with hk | hk
 ·refine wpAny_storeName_local hk hn (fun h' hn' hs=>?_) hcls;obtain⟨oL,_,_,hoL,_⟩:=id hn;refine h _ ⟨I.ok,I.os,I.bare,⟨fun b o e n hb hx=>?_,fun b o e n hb hx=>?_,I.base.free,fun b o e hx=>?_,I.base.tups,I.base.frzs,I.base.tbls⟩,⟨_,hn',fun j y v' e1 e2 e3=>?_⟩,fun y c e=>?_,I.free,I.freeC,fun p hp=>?_,tracked ⟨oL,hoL,I.free⟩ hs,by simpa using I.len⟩ ⟨_,hs,.inl rfl⟩
  ·exact(hs.2 b (Jc (Jo (IQ e) I.ok.above))).trans (I.base.keep b o e n hb hx)
  ·obtain⟨sl,e1⟩:=I.base.slot b o e n hb hx;exact⟨sl,(hs.2 b (Jc (Jo (IQ e) I.ok.above))).trans e1⟩
  ·obtain⟨o',e1⟩:=I.base.there b o e hx;exact⟨o',(hs.2 b (Jc (Jo (IQ e) I.ok.above))).trans e1⟩
  ·by_cases hj:j=i
   ·subst hj;rw[hi]at e1;cases e1;rw[KN hiσ]at e2;cases e2;exact⟨u,r,.inl ⟨hk,by simp⟩⟩
   ·rw[List.getElem?_set_ne (Ne.symm hj)]at e2;obtain⟨u',r',q⟩:=hl j y v' e1 e2 e3;refine⟨u',r',?_⟩;rcases q with⟨k,e⟩ |⟨k,c,e,z⟩
    ·refine .inl ⟨k,?_⟩;have:y≠x:=fun e=>hj (nI hN e1 (e▸hi));simp[this,e]
    ·exact .inr ⟨k,c,e,z.sameBut hs (cne y c e)⟩
  ·obtain⟨w',z⟩:=I.cell y c e;exact⟨w',z.sameBut hs (cne y c e)⟩
  ·obtain⟨e,n,ne,nf,d⟩:=I.pin p hp;exact⟨(hs.2 p.1 ne).trans e,n,ne,nf,d⟩
 ·have hfn:X.fn x=true:=by
   rcases hf with z | z
   ·exact z
   ·rw[z]at hk;cases hk
  obtain⟨c,hc⟩:=I.ok.has x (.inl hk);obtain⟨w',z⟩:=I.cell x c hc;refine wpAny_storeName_cell I.ok.kind hk hc z (fun h' hc' hs=>?_);obtain⟨oc,hoc,hocd⟩:=id z;refine h { s with heap:=h' } ⟨I.ok,I.os,I.bare,⟨fun b o e n hb hx=>?_,fun b o e n hb hx=>?_,I.base.free,fun b o e hx=>?_,I.base.tups,I.base.frzs,I.base.tbls⟩,⟨m,hn.sameBut hs (Ne.symm (cne x c hc)),fun j y v' e1 e2 e3=>?_⟩,fun y c' e=>?_,I.free,I.freeC,fun p hp=>?_,tracked ⟨oc,hoc,I.freeC x c hc⟩ hs,by simpa using I.len⟩ ⟨c,hs,.inr hc⟩
  ·exact(hs.2 b (Jc (Jo (IQ e) (I.ok.cab x c hfn hc)))).trans (I.base.keep b o e n hb hx)
  ·obtain⟨sl,e1⟩:=I.base.slot b o e n hb hx;exact⟨sl,(hs.2 b (Jc (Jo (IQ e) (I.ok.cab x c hfn hc)))).trans e1⟩
  ·obtain⟨o',e1⟩:=I.base.there b o e hx;exact⟨o',(hs.2 b (Jc (Jo (IQ e) (I.ok.cab x c hfn hc)))).trans e1⟩
  ·by_cases hj:j=i
   ·subst hj;rw[hi]at e1;cases e1;rw[KN hiσ]at e2;cases e2;exact⟨u,r,.inr ⟨.inl hk,c,hc,hc'⟩⟩
   ·rw[List.getElem?_set_ne (Ne.symm hj)]at e2;obtain⟨u',r',q⟩:=hl j y v' e1 e2 e3;refine⟨u',r',?_⟩;rcases q with q |⟨k,c',e,z'⟩
    ·exact .inl q
    ·refine .inr ⟨k,c',e,z'.sameBut hs ?_⟩;rintro rfl;exact hj (nI hN e1 (I.ok.inj _ _ _ e hc▸hi))
  ·by_cases hcc:c'=c
   ·subst hcc;exact⟨_,hc'⟩
   ·obtain⟨w2,z2⟩:=I.cell y c' e;exact⟨w2,z2.sameBut hs hcc⟩
  ·obtain⟨e,n,ne,nf,d⟩:=I.pin p hp;refine⟨(hs.2 p.1 ?_).trans e,n,ne,nf,d⟩;intro q;rw[q,hoc]at e;have q':oc=p.2:=Js e;exact d w' (by rw[←q'];exact hocd)
theorem m3{M:Model}{A:Around}{E:Value->Shared->Prop}{i:Nat}{x:Str}{v:V}{u:Value}{Q:Unit->Shared->Prop}(I:Inv X pins σ H s)(hN:X.N.Nodup)(hi:X.N[i]?=some x)(hx:Loc X.env.scope x)(r:RelV v u)
  (h:∀s',Inv X pins (σ.set i (some v)) H s'->Q () s') (hf:X.fn x=true∨X.env.scope.names.lookup x=some .local:=by first | exact .inl rfl | exact .inr rfl | assumption):wpAny M A (storeName X.env x u) Q E s :=
 kl I hN hi hx r (fun s' I' _=>h s' I') hf
theorem Inv.call'(I:Inv X pins σ H s)(ho:s'.os=s.os)(u:Un (frs X.stack) ch H H' s.heap s'.heap)(hok:HOk X.prog X.w H' s'.heap)(hg:AllBare s'.gens)
  (hch:∀b∈ch,(b∈X.ex∨X.s₀.heap.objs.size≤b)/\b≠X.env.locals/\(∀x c,X.env.cells.lookup x=some c->c≠b)/\∀p∈X.pn++pins,p.1≠b):Inv X pins σ H' s':=by
 obtain⟨h',g',d',t',o'⟩:=s';have e:o'=s.os:=ho;subst e;exact I.call (g':=g') (t':=t') (d':=d') u hok hg hch
end
abbrev XK:=Value->Option Addr->Hp->Prop
abbrev St:=List (Option V)
abbrev VK:=V->Hp->Prop
abbrev TE:=St->Hp->VK->Prop
abbrev TT:=St->Hp->(Bool->Hp->Prop)->Prop
abbrev TA:=St->Hp->(List V->Hp->Prop)->Prop
structure Ends where
 nx:St->Hp->Prop
 rt:VK
 bk:St->Hp->Prop:=fun _ _=>False
 ct:St->Hp->Prop:=fun _ _=>False
abbrev TS:=Ends->St->Hp->Prop
def EP(X:Cx)(pins:List (Addr×Obj))(σ:St)(Q:VK)(u:Value)(s':Shared):Prop:=∃v H',Inv X pins σ H' s'/\RelV v u/\Q v H'
def TP(X:Cx)(pins:List (Addr×Obj))(σ:St)(Q:Bool->Hp->Prop)(b:Bool)(s':Shared):Prop:=∃H',Inv X pins σ H' s'/\Q b H'
def AP(X:Cx)(pins:List (Addr×Obj))(σ:St)(Q:List V->Hp->Prop)(us:List Value)(s':Shared):Prop:=∃vs H',Inv X pins σ H' s'/\Vals vs us/\Q vs H'
def SP(X:Cx)(pins:List (Addr×Obj))(D:Ends)(f:Flow)(s':Shared):Prop :=
 match f with
 | .next=>∃σ' H',Inv X pins σ' H' s'/\D.nx σ' H'
 | .brk=>∃σ' H',Inv X pins σ' H' s'/\D.bk σ' H'
 | .cont=>∃σ' H',Inv X pins σ' H' s'/\D.ct σ' H'
 | .ret u=>∃v σ' H',Inv X pins σ' H' s'/\RelV v u/\D.rt v H'
def PE(X:Cx)(e:Expr)(t:TE):Prop :=
 ∀(pins:List (Addr×Obj)) (s:Shared) (σ:St) (H:Hp) (Q:VK),Inv X pins σ H s->t σ H Q->wpAny (model X.prog X.w) X.A (eval e X.env) (EP X pins σ Q) X.xe s
def PT(X:Cx)(e:Expr)(t:TT):Prop :=
 ∀(pins:List (Addr×Obj)) (s:Shared) (σ:St) (H:Hp) (Q:Bool->Hp->Prop),Inv X pins σ H s->t σ H Q->wpAny (model X.prog X.w) X.A (isTrue e X.env (eval e X.env)) (TP X pins σ Q) X.xe s
def PW(X:Cx)(e:Expr)(t:TT):Prop :=
 ∀(whole:Sem Value) (pins:List (Addr×Obj)) (s:Shared) (σ:St) (H:Hp) (Q:Bool->Hp->Prop),Inv X pins σ H s->t σ H Q->wpAny (model X.prog X.w) X.A (isTrue e X.env whole) (TP X pins σ Q) X.xe s
theorem PW.pt(h:PW X e t):PT X e t:=h _
def PA(X:Cx)(es:List Expr)(t:TA):Prop :=
 ∀(pos:Pos) (pins:List (Addr×Obj)) (s:Shared) (σ:St) (H:Hp) (Q:List V->Hp->Prop),Inv X pins σ H s->t σ H Q->wpAny (model X.prog X.w) X.A (spliced (backTo pos (starEach es X.env))) (AP X pins σ Q) X.xe s
def PS(X:Cx)(st:Stmt)(t:TS):Prop :=
 ∀(pins:List (Addr×Obj)) (s:Shared) (σ:St) (H:Hp) (D:Ends),Inv X pins σ H s->t D σ H->wpAny (model X.prog X.w) X.A (exec st X.env) (SP X pins D) X.xe s
def PSs(X:Cx)(st:List Stmt)(t:TS):Prop :=
 ∀(pins:List (Addr×Obj)) (s:Shared) (σ:St) (H:Hp) (D:Ends),Inv X pins σ H s->t D σ H->wpAny (model X.prog X.w) X.A (execs st X.env) (SP X pins D) X.xe s
theorem thn{t:Sem α}{Q Q':α->Shared->Prop}(h:wpAny M A t Q E s)(hQ:∀a s,Q a s->Q' a s):wpAny M A t Q' E s:=KH h hQ fun _ _ x=>x
end
section
section
variable {X:Cx}
theorem bin{a b:Expr}{ta tb:TE}(ha:PE X a ta)(hb:PE X b tb){pins:List (Addr×Obj)}{s:Shared}{σ:St}{H:Hp}{R:V->V->Hp->Prop}(I:Inv X pins σ H s)(h:ta σ H fun x H1=>tb σ H1 fun y H2=>R x y H2)
  {α:Type} {Q:α->Shared->Prop} {f:Value->Value->Sem α}
  (hf:∀v u s2 x y H2,Inv X pins σ H2 s2->RelV x v->RelV y u->R x y H2->wpAny (model X.prog X.w) X.A (f v u) Q X.xe s2) :
  wpAny (model X.prog X.w) X.A (eval a X.env) (fun v s₁=>wpAny (model X.prog X.w) X.A (eval b X.env) (fun u s₂=>wpAny (model X.prog X.w) X.A (f v u) Q X.xe s₂) X.xe s₁) X.xe s:=by
 refine thn (ha pins s σ H _ I h) fun v s1 y_=>?_;obtain⟨x,H1,I1,r1,q1⟩:=y_;refine thn (hb pins s1 σ H1 _ I1 q1) fun u s2 y_=>?_;obtain⟨y,H2,I2,r2,q2⟩:=y_;exact hf v u s2 x y H2 I2 r1 r2 q2
def rj(i:Nat):TE:=fun σ H Q=>∃v,σ[i]?=some (some v)/\Q v H
def tC(v:V):TE:=fun _ H Q=>Q v H
theorem oQ{i:Nat}{x:Str}{pos:Pos}(hN:X.N[i]?=some x)(hv:Vis X.env.scope x)(hd:(x==("__debug__":Str))=false:=by decide)(hcd:(x==("__classdict__":Str))=false:=by decide):PE X (.Name x pos) (rj i):=by
 intro pins s σ H Q I h;obtain⟨v,e,h⟩:=h;obtain⟨m,hn,hl⟩:=I.loc;obtain⟨u,r,l⟩:=hl i x v hN e hv;have fin:EP X pins σ Q u s:=⟨v,H,I,r,h⟩;rcases l with⟨hk,hm⟩ |⟨hk,c,hc,hcell⟩
 ·exact wpAny_Name (wpAny_loadName_local I.ok.kind hk hn hm fin) hd
 ·rcases hk with hk | hk
  ·exact wpAny_Name (wpAny_loadName_cell I.ok.kind hk hc hcell fin) hd
  ·exact wpAny_Name (wpAny_loadName_free I.ok.kind hk hc hcell fin hcd) hd
theorem A1:PE X (.Constant (.int i) j pos) (tC (.int i)):=fun _ _ _ H _ I h=>wpAny_Constant_int ⟨.int i,H,I.tok _,⟨_,rfl⟩,h⟩
theorem Ci:PE X (.Constant (.bool b) j pos) (tC (.bl b)):=fun _ _ _ H _ I h=>Constant_bool ⟨.bl b,H,I,rfl,h⟩
theorem zK:PE X (.Constant .none j pos) (tC .non):=fun _ _ _ H _ I h=>Constant_none ⟨.non,H,I,rfl,h⟩
theorem Bm:PE X (.Constant (.str x) j pos) (tC (.str x)):=fun _ _ _ H _ I h=>Calls.Constant_str ⟨.str x,H,I.tok _,⟨_,rfl⟩,h⟩
def Gl(X:Cx)(x:Str):Prop:=X.env.kindOf x=some .globalImplicit
theorem kR{E:Value->Shared->Prop}{pins:List (Addr×Obj)}{s:Shared}{σ:St}{H:Hp}{x:Str}{u:Value}{pos:Pos}{Q:Value->Shared->Prop}(I:Inv X pins σ H s)(hg:Gl X x)(hm:X.mg x=some u)(h:Q u s)
  (hd:(x==("__debug__":Str))=false:=by decide):wpAny (model X.prog X.w) X.A (eval (.Name x pos) X.env) Q E s :=
 Calls.Name_function_global I.ok.kind hg (Calls.loadGlobal_global (by rw[I.ok.glob];exact I.mod.glob.keeps I.bk) hm h) hd
theorem cO{E:Value->Shared->Prop}{pins:List (Addr×Obj)}{s:Shared}{σ:St}{H:Hp}{x:Str}{u:Value}{pos:Pos}{Q:Value->Shared->Prop}(I:Inv X pins σ H s)(hg:Gl X x)(hm:X.mg x=none)(hv:bootBuiltins x=some u)(h:Q u s)
  (hn:x≠"__name__":=by decide) (hd:(x==("__debug__":Str))=false:=by decide):wpAny (model X.prog X.w) X.A (eval (.Name x pos) X.env) Q E s:=by
 obtain⟨mb,h1,h2⟩:=I.mod.blt;exact Calls.Name_function_global I.ok.kind hg (Calls.loadGlobal_builtin (by rw[I.ok.glob];exact I.mod.glob.keeps I.bk) hm (by rw[I.ok.blt];exact h1.keeps I.bk) ((h2 x hn).trans hv) h) hd
theorem wt{x:Str}{v:V}{u:Value}{pos:Pos}(hg:Gl X x)(hm:X.mg x=some u)(r:RelV v u)(hd:(x==("__debug__":Str))=false:=by decide):PE X (.Name x pos) (tC v) :=
 fun _ _ _ H _ I h=>kR I hg hm ⟨v,H,I,r,h⟩ hd
theorem wJ{x:Str}{v:V}{u:Value}{pos:Pos}(hg:Gl X x)(hm:X.mg x=none)(hv:bootBuiltins x=some u)(r:RelV v u)(hn:x≠"__name__":=by decide)(hd:(x==("__debug__":Str))=false:=by decide):PE X (.Name x pos) (tC v) :=
 fun _ _ _ H _ I h=>cO I hg hm hv ⟨v,H,I,r,h⟩ hn hd
variable {a b:Expr}{ta tb:TE}{pos:Pos}
def PC(X:Cx)(op:CmpOp)(a b:Expr)(t:TE):Prop :=
 ∀(pins:List (Addr×Obj)) (s:Shared) (σ:St) (H:Hp) (Q:VK),Inv X pins σ H s->t σ H Q ->
  wpAny (model X.prog X.w) X.A (eval a X.env) (fun v s₁=>wpAny (model X.prog X.w) X.A (eval b X.env) (fun u s₂=>wpAny (model X.prog X.w) X.A (compareOp op v u) (EP X pins σ Q) X.xe s₂) X.xe s₁) X.xe s
def tB(t:TE):TT:=fun σ H Q=>t σ H fun x H1=>∃c,x=.bl c/\Q c H1
theorem Bz{e:Expr}{t:TE}(h:PE X e t)(he:∀whole,isTrue e X.env whole=(do let v←whole;standAt e.pos;holding [v] (truthy v)):=by intro _;rfl):PT X e (tB t):=by
 intro pins s σ H Q I hw;refine isTrue_plain (thn (h pins s σ H _ I hw) fun v s1 ⟨x,H1,I1,r1,q1⟩=>?_) (he _);obtain⟨d,rfl,q⟩:=q1;cases r1;exact J9 ⟨H1,I1,q⟩
variable {tA tB':TT}{rest:List Expr}
def Gg(t u:TT):TT:=fun σ H Q=>t σ H fun c H1=>if c=true then u σ H1 Q else Q false H1
def tOr(t u:TT):TT:=fun σ H Q=>t σ H fun c H1=>if c=true then Q true H1 else u σ H1 Q
def Fw(t:TT):TT:=fun σ H Q=>t σ H fun c H1=>Q (!c) H1
theorem xq(ha:PT X a tA):PW X (.BoolOp .And [a] pos) tA:=by
 intro wh pins s σ H Q I h;refine isTrue_and (thn (ha pins s σ H Q I h) fun c s1 e=>?_);cases c with
 | true=>exact isTrue_and_nil e
 | false=>exact e
theorem Bu(ha:PT X a tA):PW X (.BoolOp .Or [a] pos) tA:=by
 intro wh pins s σ H Q I h;refine isTrue_or (thn (ha pins s σ H Q I h) fun c s1 e=>?_);cases c with
 | false=>exact isTrue_or_nil e
 | true=>exact e
theorem Bq(ha:PT X a tA)(hb:PW X (.BoolOp .And (b::rest) pos) tB'):PW X (.BoolOp .And (a::b::rest) pos) (Gg tA tB'):=by
 intro wh pins s σ H Q I h;refine isTrue_and (thn (ha pins s σ H _ I h) fun c s1 y_=>?_);obtain⟨H1,I1,q1⟩:=y_;cases c with
 | true=>exact hb wh pins s1 σ H1 Q I1 q1
 | false=>exact⟨H1,I1,q1⟩
theorem El(ha:PT X a tA)(hb:PW X (.BoolOp .Or (b::rest) pos) tB'):PW X (.BoolOp .Or (a::b::rest) pos) (tOr tA tB'):=by
 intro wh pins s σ H Q I h;refine isTrue_or (thn (ha pins s σ H _ I h) fun c s1 y_=>?_);obtain⟨H1,I1,q1⟩:=y_;cases c with
 | true=>exact⟨H1,I1,q1⟩
 | false=>exact hb wh pins s1 σ H1 Q I1 q1
theorem Bp(ha:PT X a tA):PT X (.UnaryOp .Not a pos) (Fw tA):=by
 intro pins s σ H Q I h;exact isTrue_not (ha pins s σ H (fun c H1=>Q (!c) H1) I h)
def DJ(ta tb:TE):TE:=fun σ H Q=>ta σ H fun x H1=>∃c,x=.bl c/\if c=true then tb σ H1 Q else Q (.bl false) H1
def CB(ta:TE):TE:=fun σ H Q=>ta σ H fun x H1=>∃c,x=.bl c/\Q (.bl (!c)) H1
theorem Bk(h:PE X a t):PE X (.BoolOp op [a] pos) t:=fun pins s σ H Q I hw=>BoolOp_one (h pins s σ H Q I hw)
theorem zN(ha:PE X a ta)(hb:PE X (.BoolOp .And (b::rest) pos) tb):PE X (.BoolOp .And (a::b::rest) pos) (DJ ta tb):=by
 intro pins s σ H Q I h;refine BoolOp_and (thn (ha pins s σ H _ I h) fun v s1 y_=>?_);obtain⟨x,H1,I1,r1,q1⟩:=y_;obtain⟨c,rfl,q1⟩:=q1;cases r1;refine J9 ?_;cases c with
 | true=>exact hb pins s1 σ H1 Q I1 q1
 | false=>exact⟨.bl false,H1,I1,rfl,q1⟩
theorem BX(ha:PE X a ta):PE X (.UnaryOp .Not a pos) (CB ta):=by
 intro pins s σ H Q I h;refine UnaryOp_ (thn (ha pins s σ H _ I h) fun v s1 y_=>?_);obtain⟨x,H1,I1,r1,q1⟩:=y_;obtain⟨c,rfl,q1⟩:=q1;cases r1;exact not_of (J9 ⟨.bl (!c),H1,I1,rfl,q1⟩)
end
end
section
def SqL(K:PySem.W.Frag)(H:Hp)(a:Addr)(xs:List V):Prop :=
 Rd H a (.lst xs) ∨
  ∃(o:Obj) (its:Array Value) (n:Nat),K.lookup a=some o/\o.cls=.type "list"/\o.dict=none/\o.data=.seq its n/\its.size≤sizeLine/\Vals xs its.toList
def SqT(K:PySem.W.Frag)(H:Hp)(a:Addr)(xs:List V):Prop :=
 Rd H a (.tup xs) ∨
  ∃(o:Obj) (its:Array Value) (n:Nat),K.lookup a=some o/\o.cls=.type "tuple"/\o.data=.seq its n/\its.size≤sizeLine/\Vals xs its.toList
def FD:Value->Option V
 | .none=>some .non
 | .bool b=>some (.bl b)
 | .int i _=>some (.int i)
 | .str x _=>some (.str x)
 | .bytes b _=>some (.byt b)
 | .float b _=>some (.flt b)
 | .ref a=>some (.ref a)
 | .type n=>some (.ty n)
 | _=>none
theorem RelV.abs(r:RelV x u):FD u=some x:=by
 cases x with
 | non=>cases r;rfl
 | bl _=>cases r;rfl
 | int _=>obtain⟨t,rfl⟩:=r;rfl
 | str _=>obtain⟨t,rfl⟩:=r;rfl
 | byt _=>obtain⟨t,rfl⟩:=r;rfl
 | flt _=>obtain⟨t,rfl⟩:=r;rfl
 | ref _=>cases r;rfl
 | ty _=>cases r;rfl
theorem RelV.inj{x y:V}{u:Value}(r:RelV x u)(q:RelV y u):x=y:=Js (r.abs.symm.trans q.abs)
theorem Vals.inj:∀{xs ys:List V} {us:List Value},Vals xs us->Vals ys us->xs=ys
 | _,_,_,.nil,.nil=>rfl
 | _,_,_,.cons r t,.cons r' t'=>by rw[r.inj r',Vals.inj t t']
section
variable {X:Cx}{pins:List (Addr×Obj)}{σ:St}{H:Hp}{s:Shared}{a:Addr}{xs ys:List V}
theorem SqL.of{K:PySem.W.Frag}(h:H a=some (.lst xs)):SqL K H a xs:=.inl (.inl h)
theorem SqT.of{K:PySem.W.Frag}(h:H a=some (.tup xs)):SqT K H a xs:=.inl (.inl h)
theorem Inv.list(I:Inv X pins σ H s)(h:SqL X.K H a xs):∃its:List Value,Vals xs its/\PlainL s.heap a its.toArray/\xs.length≤sizeLine:=by
 rcases h with h |⟨o,its,n,hk,hc,hd,hs,hz,r⟩
 ·obtain⟨z,its,n,r,e⟩:=h.ok I.hok;exact⟨its,r,⟨_,n,e,rfl,rfl,rfl⟩,z⟩
 ·refine⟨its.toList,r,⟨o,n,I.kIn a o hk,hc,hd,by simpa using hs⟩,?_⟩;have e:=r.length;simp only[J0]at e;omega
theorem Inv.tuple(I:Inv X pins σ H s)(h:SqT X.K H a xs):∃its:List Value,Vals xs its/\IsTup s.heap a its.toArray/\xs.length≤sizeLine:=by
 rcases h with h |⟨o,its,n,hk,hc,hs,hz,r⟩
 ·obtain⟨z,its,r,p⟩:=h.ok I.hok;exact⟨its,r,p,z⟩
 ·refine⟨its.toList,r,⟨o,I.kIn a o hk,hc,n,by simpa using hs⟩,?_⟩;have e:=r.length;simp only[J0]at e;omega
theorem Inv.list_inj(I:Inv X pins σ H s)(h:SqL X.K H a xs)(h':SqL X.K H a ys):xs=ys:=by
 obtain⟨its,r,⟨o,n,e,_,_,d⟩,_⟩:=I.list h;obtain⟨its',r',⟨o',n',e',_,_,d'⟩,_⟩:=I.list h';rw[e]at e';cases e';rw[d]at d';injection d' with d1 _;have:its=its':=by simpa using congrArg Array.toList d1
 subst this;exact r.inj r'
theorem Inv.tuple_inj(I:Inv X pins σ H s)(h:SqT X.K H a xs)(h':SqT X.K H a ys):xs=ys:=by
 obtain⟨its,r,⟨o,e,_,n,d⟩,_⟩:=I.tuple h;obtain⟨its',r',⟨o',e',_,n',d'⟩,_⟩:=I.tuple h';rw[e]at e';cases e';rw[d]at d';injection d' with d1 _;have:its=its':=by simpa using congrArg Array.toList d1
 subst this;exact r.inj r'
end
abbrev Cx.wish(X:Cx)(E:Value->Shared->Prop):Cx:={ X with xe:=E }
abbrev Cx.nox(X:Cx):Cx:=X.wish fun _ _=>False
theorem Cx.Ok.wish{X:Cx}(ok:X.Ok)(E:Value->Shared->Prop):(X.wish E).Ok :=
 ⟨ok.mod,ok.kind,ok.glob,ok.blt,ok.above,ok.inj,ok.has,ok.cab,ok.hd,ok.frames,ok.stk,ok.exf,ok.bs,ok.bsz,ok.noex,ok.exfs,ok.funs,ok.frf⟩
theorem Cx.Ok.unwish{X:Cx}(ok:(X.wish E).Ok):X.Ok :=
 ⟨ok.mod,ok.kind,ok.glob,ok.blt,ok.above,ok.inj,ok.has,ok.cab,ok.hd,ok.frames,ok.stk,ok.exf,ok.bs,ok.bsz,ok.noex,ok.exfs,ok.funs,ok.frf⟩
section
variable {X:Cx}{pins:List (Addr×Obj)}{σ:St}{H:Hp}{s:Shared}{E:Value->Shared->Prop}
theorem Inv.wish(I:Inv X pins σ H s)(E:Value->Shared->Prop):Inv (X.wish E) pins σ H s:=⟨I.ok.wish E,I.os,I.bare,I.base,I.loc,I.cell,I.free,I.freeC,I.pin,I.hok,I.len⟩
theorem Inv.unwish(I:Inv (X.wish E) pins σ H s):Inv X pins σ H s:=⟨I.ok.unwish,I.os,I.bare,I.base,I.loc,I.cell,I.free,I.freeC,I.pin,I.hok,I.len⟩
theorem SP.unwish(h:SP (X.wish E) pins D f s'):SP X pins D f s':=by
 cases f with
 | next=>obtain⟨σ',H',I,q⟩:=h;exact⟨σ',H',I.unwish,q⟩
 | brk=>obtain⟨σ',H',I,q⟩:=h;exact⟨σ',H',I.unwish,q⟩
 | cont=>obtain⟨σ',H',I,q⟩:=h;exact⟨σ',H',I.unwish,q⟩
 | ret u=>obtain⟨v,σ',H',I,r,q⟩:=h;exact⟨v,σ',H',I.unwish,r,q⟩
theorem PSs.nox{st:List Stmt}(h:PSs X.nox st t):PSs X st t:=fun pins s σ H D I hw =>
 KH (h pins s σ H D (I.wish _) hw) (fun _ _ q=>q.unwish) fun _ _ z=>False.elim z
end
section
variable {X:Cx}{st:Stmt}{rest:List Stmt}{t u:TS}{e:Expr}{te:TE}{pos:Pos}
def Cs:TS:=fun D σ H=>D.nx σ H
def FE(t u:TS):TS:=fun D σ H=>t { D with nx:=u D } σ H
theorem xu:PSs X [] Cs:=fun _ _ σ H _ I h=>wpAny_execs_nil ⟨σ,H,I,h⟩
theorem uV(h1:PS X st t)(h2:PSs X rest u):PSs X (st::rest) (FE t u):=by
 intro pins s σ H D I h;refine wpAny_execs_cons (thn (h1 pins s σ H { D with nx:=u D } I h) fun f s1 q=>?_);cases f with
 | next =>
  obtain⟨σ',H',I',q⟩:=q;exact h2 pins s1 σ' H' D I' q
 | ret v=>exact q
 | brk=>exact q
 | cont=>exact q
theorem xM(h1:PS X st t):PSs X [st] t:=by
 intro pins s σ H D I h;refine wpAny_execs_cons (thn (h1 pins s σ H D I h) fun f s1 q=>?_);cases f with
 | next=>exact wpAny_execs_nil q
 | ret v=>exact q
 | brk=>exact q
 | cont=>exact q
theorem Inv.quiet{σ:St}(I:Inv X pins σ H s):interactive X.env=false:=by simp[interactive,I.ok.kind]
def Eu(te:TE):TS:=fun D σ H=>te σ H fun _ H1=>D.nx σ H1
theorem vP(he:PE X e te)(hs:swapsWith e none pos.line X.env=pure false:=by rfl):PS X (.Expr e pos) (Eu te):=by
 intro pins s σ H D I h;exact wpAny_Expr_any (thn (he pins s σ H _ I h) fun v s1 y_=>by obtain⟨x,H1,I1,r1,q1⟩:=y_;exact ⟨σ,H1,I1,q1⟩) I.quiet hs
def Hd(te:TE):TS:=fun D σ H=>te σ H D.rt
theorem AG(he:PE X e te):PS X (.Return (some e) pos) (Hd te):=by
 intro pins s σ H D I h;exact wpAny_Return_some (thn (he pins s σ H _ I h) fun v s1 y_=>by obtain⟨x,H1,I1,r1,q1⟩:=y_;exact ⟨x,σ,H1,I1,r1,q1⟩)
def GR(c:TT)(t u:TS):TS:=fun D σ H=>c σ H fun b H1=>if b=true then t D σ H1 else u D σ H1
theorem EI(hc:PT X c tc)(ha:PSs X a t)(hb:PSs X b u):PS X (.If c a b pos) (GR tc t u):=by
 intro pins s σ H D I h;refine wpAny_If (thn (hc pins s σ H _ I h) fun d s1 y_=>?_);obtain⟨H1,I1,q1⟩:=y_;cases d with
 | true=>exact ha pins s1 σ H1 D I1 q1
 | false=>exact hb pins s1 σ H1 D I1 q1
end
abbrev TG:=V->St->Hp->(St->Hp->Prop)->Prop
abbrev TGs:=List V->St->Hp->(St->Hp->Prop)->Prop
def PG(X:Cx)(target:Expr)(t:TG):Prop :=
 ∀(pins:List (Addr×Obj)) (s:Shared) (σ:St) (H:Hp) (v:V) (u:Value) (Q:St->Hp->Prop),Inv X pins σ H s->RelV v u->t v σ H Q ->
  wpAny (model X.prog X.w) X.A (assign target X.env u) (fun _ s'=>∃σ' H',Inv X pins σ' H' s'/\Q σ' H') X.xe s
def PGs(X:Cx)(ts:List Expr)(t:TGs):Prop :=
 ∀(pins:List (Addr×Obj)) (s:Shared) (σ:St) (H:Hp) (vs:List V) (us:List Value) (Q:St->Hp->Prop),Inv X pins σ H s->Vals vs us->t vs σ H Q ->
  wpAny (model X.prog X.w) X.A (assignInOrder ((assignEach ts X.env).map (·.2)) us) (fun _ s'=>∃σ' H',Inv X pins σ' H' s'/\Q σ' H') X.xe s
abbrev Aw:=V->V->V->Hp->(Hp->Prop)->Prop
def jC(X:Cx)(t:Aw):Prop :=
 ∀(pins:List (Addr×Obj)) (s:Shared) (σ:St) (H:Hp) (o i v:V) (ov iv u:Value) (Q:Hp->Prop),Inv X pins σ H s->RelV o ov->RelV i iv->RelV v u->t o i v H Q ->
  wpAny (model X.prog X.w) X.A (setItem ov iv u) (fun _ s'=>∃H',Inv X pins σ H' s'/\Q H') X.xe s
section
variable {X:Cx}{pos:Pos}
def qo(i:Nat):TG:=fun v σ H Q=>Q (σ.set i (some v)) H
theorem yq{i:Nat}{x:Str}(hN:X.N.Nodup)(hi:X.N[i]?=some x)(hx:Loc X.env.scope x)(hf:X.fn x=true∨X.env.scope.names.lookup x=some .local:=by first | exact .inl rfl | exact .inr rfl | assumption):PG X (.Name x pos) (qo i):=by
 intro pins s σ H v u Q I r h;exact wpAny_assign_Name (m3 I hN hi hx r (fun s' I'=>⟨_,H,I',h⟩) hf)
def G7:TGs:=fun vs σ H Q=>vs=[]/\Q σ H
def C5(t:TG)(u:TGs):TGs:=fun vs σ H Q=>∃v r,vs=v::r/\t v σ H fun σ' H'=>u r σ' H' Q
theorem wG:PGs X [] G7:=by
 intro pins s σ H vs us Q I r h;obtain⟨e,h⟩:=h;subst e;cases r;exact assignInOrder_nil ⟨σ,H,I,h⟩
theorem uW{e:Expr}{es:List Expr}{t:TG}{u:TGs}(h1:PG X e t)(h2:PGs X es u)
  (hs:(assignEach (e::es) X.env).map (·.2)=assign e X.env::(assignEach es X.env).map (·.2):=by rfl):PGs X (e::es) (C5 t u):=by
 intro pins s σ H vs us Q I r h;obtain⟨v,vr,e1,h⟩:=h;subst e1;cases r with
 | cons r rr =>
  rw[hs];refine assignInOrder_cons (thn (h1 pins s σ H _ _ _ I r h) fun _ s1 y_=>?_);obtain⟨σ1,H1,I1,q1⟩:=y_;exact h2 pins s1 σ1 H1 _ _ Q I1 rr q1
def GG(K:PySem.W.Frag)(n:Nat)(t:TGs):TG:=fun v σ H Q=>∃a xs,v=.ref a/\SqT K H a xs/\xs.length=n/\t xs σ H Q
theorem Au{es:List Expr}{k:Nat}{t:TGs}{n:Nat}(hc:X.calm=true)(h:PGs X es t)
  (hn:(assignEach es X.env).length=n:=by rfl) (hst:(assignEach es X.env).findIdx? (·.1)=none:=by rfl):PG X (.Tuple es k pos) (GG X.K n t):=by
 intro pins s σ H v u Q I r hw;obtain⟨a,xs,e1,hq,hl,hw⟩:=hw;subst e1;cases r;obtain⟨its,rv,ht,hz⟩:=I.tuple hq;refine assign_Tuple_tuple (I.ok.hd hc) ht (by simp[hn,← hl,rv.length]) hst fun h' hx=>?_;have I1:Inv X pins σ H { s with heap:=h' }:=I.kept (t':=s.toks) fun b o e=>hx b o (Jc (IQ e)) e;exact h pins _ σ H xs _ Q I1 (by simpa using rv) hw
def FZ(to ti:TE)(t:Aw):TG:=fun v σ H Q=>to σ H fun o H1=>ti σ H1 fun i H2=>t o i v H2 fun H3=>Q σ H3
theorem AL{o i:Expr}{to ti:TE}{t:Aw}(ho:PE X o to)(hi:PE X i ti)(hs:jC X t)
  (ha:∀v,assign (.Subscript o i pos) X.env v=(do
   let ov←holding [v] (eval o X.env)
   let iv←holding [v,ov] (eval i X.env)
   standAt pos
   holding [v,ov,iv] (setItem ov iv v)
   release [v,ov,iv] []):=by intro _;rfl):PG X (.Subscript o i pos) (FZ to ti t):=by
 intro pins s σ H v u Q I r h;rw[ha];refine IC (JT (thn (ho pins s σ H _ I h) fun ov s1 y_=>?_));obtain⟨x,H1,I1,r1,q1⟩:=y_;refine IC (JT (thn (hi pins s1 σ H1 _ I1 q1) fun iv s2 y_=>?_));obtain⟨y,H2,I2,r2,q2⟩:=y_;refine IC (wpAny_standAt (IC (JT (thn (hs pins s2 σ H2 x y v ov iv u _ I2 r1 r2 r q2) fun _ s3 y_=>?_))));obtain⟨H3,I3,q3⟩:=y_;exact wpAny_release ⟨σ,H3,I3,q3⟩
def yn(te:TE)(g:TG):TS:=fun D σ H=>te σ H fun x H1=>g x σ H1 D.nx
theorem zu{tg e:Expr}{te:TE}{g:TG}(he:PE X e te)(hg:PG X tg g)(hs:swapsWithSole [tg] e pos.line X.env=pure false:=by rfl)(hw:swappedStores [tg] e X.env=pure none:=by rfl)
  (h1:(assignEach [tg] X.env).map (·.2)=[assign tg X.env]:=by rfl):PS X (.Assign [tg] e pos) (yn te g):=by
 intro pins s σ H D I h;refine wpAny_Assign_stores (thn (he pins s σ H _ I h) fun v s1 ⟨x,H1,I1,r1,q1⟩=>?_) hs hw;rw[h1];exact thn (hg pins s1 σ H1 x v _ I1 r1 q1) fun _ s2 q=>q
theorem Ay{i:Nat}{x:Str}{e:Expr}{te:TE}{pos':Pos}(hN:X.N.Nodup)(hi:X.N[i]?=some x)(hx:Loc X.env.scope x)(he:PE X e te)(hs:swapsWith e (some (.Name x pos')) pos.line X.env=pure false:=by rfl)(hf:X.fn x=true∨X.env.scope.names.lookup x=some .local:=by first | exact .inl rfl | exact .inr rfl | assumption) :
  PS X (.Assign [.Name x pos'] e pos) (yn te (qo i)):=by
 intro pins s σ H D I h;refine wpAny_Assign_Name (thn (he pins s σ H _ I h) fun v s1 ⟨y,H1,I1,r1,q1⟩=>?_) hs;exact m3 I1 hN hi hx r1 (fun s2 I2=>⟨_,H1,I2,q1⟩) hf
end
section
variable {X:Cx}{pos:Pos}
def sx(c:TT)(tb:TS):TS:=fun D σ H=>∃W:Nat->St->Hp->Prop,(∃m,W m σ H)/\∀m σ H,W m σ H ->
 c σ H fun b H1=>if b=true then ∃N:St->Hp->Prop,(∀σ' H',N σ' H'->∃m',m'<m/\W m' σ' H')/\tb { D with nx:=N,ct:=N,bk:=D.nx } σ H1 else D.nx σ H1
theorem tO(hp:PassesOwn (model X.prog X.w) X.A X.env X.xe)(hc:PT X c tc)(hb:PSs X body tb):PS X (.While c body [] pos) (sx tc tb):=by
 intro pins s σ H D I h;obtain⟨W,⟨m0,w0⟩,turn⟩:=h;refine wpAny_While (codeAny_whileLoop (fun n s'=>∃σ' H',Inv X pins σ' H' s'/\W n σ' H') ?_ m0 ⟨σ,H,I,w0⟩);rintro n s1 ⟨σ1,H1,I1,w1⟩;refine K0 hp (thn (hc pins s1 σ1 H1 _ I1 (turn n σ1 H1 w1)) fun b s2 y_=>?_);obtain⟨H2,I2,q2⟩:=y_;cases b with
 | true =>
  obtain⟨N,hN,q2⟩:=q2;rw[IZ rfl];refine K0 hp (thn (hb pins s2 σ1 H2 _ I2 q2) fun f s3 q3=>?_);cases f with
  | next =>
   obtain⟨σ3,H3,I3,n3⟩:=q3;obtain⟨m',hm,w3⟩:=hN σ3 H3 n3;exact⟨m',hm,σ3,H3,I3,w3⟩
  | cont =>
   obtain⟨σ3,H3,I3,n3⟩:=q3;obtain⟨m',hm,w3⟩:=hN σ3 H3 n3;exact⟨m',hm,σ3,H3,I3,w3⟩
  | brk=>exact q3
  | ret v=>exact q3
 | false =>
  rw[IX KW];exact wpAny_execs_nil ⟨σ1,H2,I2,q2⟩
end
structure It where
 go:Nat->Hp->Prop
 yld:Nat->Hp->V->Hp->Prop
 stop:Nat->Hp->Prop
def fR(X:Cx)(pins:List (Addr×Obj))(H:Hp)(b:Addr):Prop :=
 H b=none/\b≠X.env.locals/\b∉X.fs/\(b∈X.ex∨X.s₀.heap.objs.size≤b)/\(∀x c,X.env.cells.lookup x=some c->c≠b)/\∀p∈X.pn++pins,p.1≠b
theorem Inv.fpOk{σ:St}{b:Addr}(I:Inv X pins σ H s)(hb:s.heap.objs.size≤b)(hn:H' b=none):fR X pins H' b:=by
 refine⟨hn,K6 (Jo I.lt hb),I.nofs hb,.inr (Jl I.sz hb),fun x c e z=>?_,fun p hp z=>?_⟩
 ·obtain⟨v,q⟩:=I.cell x c e;exact absurd (Jo q.lt (by rw[z];exact hb)) (KQ _)
 ·exact absurd (Jo (IQ (I.pin p hp).1) (by rw[z];exact hb)) (KQ _)
structure Turn (P:Program) (w:World) (K:PySem.W.Frag) (tg:Expr) (J:It) (fp:List Addr) (it:Addr) (tn:Nat→Heap→Prop):Prop where
 mem:it∈fp
 obj:∀i h,tn i h->∀b∈fp,∃o,h.get? b=some o/\∀v,o.data≠.cell v
 keep:∀i h h',tn i h->(∀b∈fp,∀o,h.get? b=some o->h'.get? b=some o)->tn i h'
 item:∀(X:Cx),X.prog=P->X.w=w->X.K=K->X.calm=true->∀(i:Nat) (pins:List (Addr×Obj)) (s:Shared) (σ:St) (H:Hp) (E:Value->Shared->Prop),Inv X pins σ H s->(∀b∈fp,fR X pins H b)->tn i s.heap->J.go i H ->
  wpAny (model P w) X.A (pyNext (.ref it)) (fun r s1=>∃u,r=some u /\
   wpAny (model P w) X.A (letOwnedTupleGo tg (.ref it) u) (fun _ s2=>∃x H',Inv X pins σ H' s2/\RelV x u/\J.yld i H x H'/\tn (i+1) s2.heap/\∀b∈fp,H' b=none) E s1) E s
 done:∀(X:Cx),X.prog=P->X.w=w->X.K=K->X.calm=true->∀(i:Nat) (pins:List (Addr×Obj)) (s:Shared) (σ:St) (H:Hp) (E:Value->Shared->Prop),Inv X pins σ H s->(∀b∈fp,fR X pins H b)->tn i s.heap->J.stop i H ->
  wpAny (model P w) X.A (pyNext (.ref it)) (fun r s1=>r=none/\Inv X pins σ H s1) E s
 self:∀(A:Around) (i:Nat) (s:Shared) (Q:Value->Shared->Prop) (E:Value->Shared->Prop),tn i s.heap->Q (.ref it) s->wpAny (model P w) A (pyIter (.ref it)) Q E s
abbrev TI:=St->Hp->(It->Hp->Prop)->Prop
def PIE(X:Cx)(pins:List (Addr×Obj))(σ:St)(tg:Expr)(R:It->Hp->Prop)(itv:Value)(s2:Shared):Prop :=
 ∃(it:Addr) (fp:List Addr) (tn:Nat->Heap->Prop) (J:It) (H':Hp),itv=.ref it/\Inv X pins σ H' s2/\Turn X.prog X.w X.K tg J fp it tn/\tn 0 s2.heap/\(∀b∈fp,fR X pins H' b)/\R J H'
def PI(X:Cx)(tg iter:Expr)(wi:TI):Prop :=
 ∀(pins:List (Addr×Obj)) (s:Shared) (σ:St) (H:Hp) (R:It->Hp->Prop),Inv X pins σ H s->wi σ H R ->
  wpAny (model X.prog X.w) X.A (eval iter X.env) (fun v s1=>wpAny (model X.prog X.w) X.A (pyIter v) (PIE X pins σ tg R) X.xe s1) X.xe s
theorem mJ(ho:s.heap.get? it=some o)(hc:o.cls=.type n)(hd:o.data=.fields vs)
  (hn:["enumerate","zip","dict_itemiterator","dict_reverseitemiterator","odict_iterator","itertools.zip_longest","itertools.pairwise"].contains n=false) (hQ:Q () s):wpAny M A (letOwnedTupleGo tg (.ref it) u) Q E s:=by
 unfold letOwnedTupleGo;cases tg<;>first
  | exact IH hQ
  |(cases u<;>first
    | exact IH hQ
    | (refine IC (wpAny_load ho ?_)
       rw [hc,hd];show wpAny M A (if (["enumerate","zip","dict_itemiterator","dict_reverseitemiterator","odict_iterator","itertools.zip_longest","itertools.pairwise"].contains n && vs[0]? == some (rawInt _))=true then _ else _) Q E s;rw [IX (by intro h; rw [hn,Bool.false_and] at h; cases h)];exact IH hQ))
def Itl(K:PySem.W.Frag)(a:Addr):It :=
 ⟨fun i H=>∃xs x,SqL K H a xs/\xs[i]?=some x,fun i H x H'=>H'=H/\∀xs,SqL K H a xs->xs[i]?=some x,fun i H=>∃xs,SqL K H a xs/\xs.length≤i⟩
def Itt(K:PySem.W.Frag)(a:Addr):It :=
 ⟨fun i H=>∃xs x,SqT K H a xs/\xs[i]?=some x,fun i H x H'=>H'=H/\∀xs,SqT K H a xs->xs[i]?=some x,fun i H=>∃xs,SqT K H a xs/\xs.length≤i⟩
def Itr(lo:Int)(n:Nat):It:=⟨fun i _=>i<n,fun i H x H'=>H'=H/\x=.int (lo+i),fun i _=>n≤i⟩
theorem rR{K:PySem.W.Frag}(a it:Addr):Turn P w K tg (Itl K a) [it] it (fun i h=>h.IsListIter it a i) where
 mem:=by simp
 obj:=fun i h st b hb=>by
  have e:b=it:=by simpa using hb
  subst e;obtain⟨o,e,c,d⟩:=st;exact⟨o,e,fun v z=>by rw[d]at z;cases z⟩
 keep:=fun i h h' st k=>st.at fun o e=>k it (by simp) o e
 item:=by
  intro X hP hw hK hc i pins s σ H E I hf st hg;subst hP hw hK;obtain⟨xs,x,hq,hx⟩:=hg;obtain⟨its,rv,p,hz⟩:=I.list hq;obtain⟨u,hu,ru⟩:=rv.get hx;obtain⟨f0,f1,f2,f3,f4,f5⟩:=hf it (by simp);refine wpAny_pyNext_list_item st p.isList (x:=u) (by simpa using hu) fun h' st' sb=>?_;have I1:Inv X pins σ H { s with heap:=h' }:=I.turned (t':=s.toks) (fun b o hb e=>(sb.2 b hb).trans e) f0 f1 f3 f4 f5;obtain⟨o,e,c,d⟩:=id st';exact⟨u,rfl,mJ (s:={ s with heap:=h' }) e c d (by decide) ⟨x,H,I1,ru,⟨rfl,fun ys hy=>by rw[I.list_inj hy hq];exact hx⟩,st',fun b hb=>(hf b hb).1⟩⟩
 done:=by
  intro X hP hw hK hc i pins s σ H E I hf st hg;subst hP hw hK;obtain⟨xs,hq,hx⟩:=hg;obtain⟨its,rv,p,hz⟩:=I.list hq;obtain⟨f0,f1,f2,f3,f4,f5⟩:=hf it (by simp);have hl:=rv.length;exact wpAny_pyNext_list_end (I.ok.hd hc) st p.isList (by simp;omega) fun h' eb=>⟨rfl,I.turned (t':=s.toks) (fun b o hb e=>eb b o hb e) f0 f1 f3 f4 f5⟩
 self:=fun _ _ _ _ _ st h=>wpAny_pyIter_listiter st h
theorem oy{K:PySem.W.Frag}(a it:Addr):Turn P w K tg (Itt K a) [it] it (fun i h=>h.IsTupleIter it a i) where
 mem:=by simp
 obj:=fun i h st b hb=>by
  have e:b=it:=by simpa using hb
  subst e;obtain⟨o,e,c,d⟩:=st;exact⟨o,e,fun v z=>by rw[d]at z;cases z⟩
 keep:=fun i h h' st k=>st.at fun o e=>k it (by simp) o e
 item:=by
  intro X hP hw hK hc i pins s σ H E I hf st hg;subst hP hw hK;obtain⟨xs,x,hq,hx⟩:=hg;obtain⟨its,rv,p,hz⟩:=I.tuple hq;obtain⟨u,hu,ru⟩:=rv.get hx;obtain⟨f0,f1,f2,f3,f4,f5⟩:=hf it (by simp);refine wpAny_pyNext_tuple_item st (show s.heap.IsTuple a its.toArray from p) (x:=u) (by simpa using hu) fun h' st' sb=>?_;have I1:Inv X pins σ H { s with heap:=h' }:=I.turned (t':=s.toks) (fun b o hb e=>(sb.2 b hb).trans e) f0 f1 f3 f4 f5;obtain⟨o,e,c,d⟩:=id st';exact⟨u,rfl,mJ (s:={ s with heap:=h' }) e c d (by decide) ⟨x,H,I1,ru,⟨rfl,fun ys hy=>by rw[I.tuple_inj hy hq];exact hx⟩,st',fun b hb=>(hf b hb).1⟩⟩
 done:=by
  intro X hP hw hK hc i pins s σ H E I hf st hg;subst hP hw hK;obtain⟨xs,hq,hx⟩:=hg;obtain⟨its,rv,p,hz⟩:=I.tuple hq;obtain⟨f0,f1,f2,f3,f4,f5⟩:=hf it (by simp);have hl:=rv.length;exact wpAny_pyNext_tuple_end (I.ok.hd hc) st (show s.heap.IsTuple a its.toArray from p) (by simp;omega) fun h' eb=>⟨rfl,I.turned (t':=s.toks) (fun b o hb e=>eb b o hb e) f0 f1 f3 f4 f5⟩
 self:=fun _ _ _ _ _ st h=>wpAny_pyIter_tupleiter st h
theorem nO{K:PySem.W.Frag}(it:Addr)(lo:Int)(n:Nat):Turn P w K tg (Itr lo n) [it] it (fun i h=>IsRangeIter h it (lo+(i:Nat)*1) ((n:Int) - (i:Nat)) 1) where
 mem:=by simp
 obj:=fun i h st b hb=>by
  have e:b=it:=by simpa using hb
  subst e;exact⟨_,st,fun v z=>by
   have z':Data.fields _=Data.cell v:=z;cases z'⟩
 keep:=fun i h h' st k=>k it (by simp) _ st
 item:=by
  intro X hP hw hK hc i pins s σ H E I hf st hg;subst hP hw hK;obtain⟨f0,f1,f2,f3,f4,f5⟩:=hf it (by simp);have W:=Walks.range (prog:=X.prog) (w:=X.w) (I.ok.hd hc) it lo 1 n;refine W.item i s _ _ hg st fun v h' tk hv st' kk=>?_;obtain⟨t,rfl⟩:=hv;have I1:Inv X pins σ H { s with heap:=h',toks:=tk }:=I.turned (fun b o hb e=>kk b o (by simpa using hb) e) f0 f1 f3 f4 f5;refine⟨_,rfl,mJ (s:={ s with heap:=h',toks:=tk }) (n:="range_iterator") st' rfl rfl (by decide) ⟨.int (lo+i),H,I1,⟨t,?_⟩,⟨rfl,rfl⟩,st',fun b hb=>(hf b hb).1⟩⟩;rw[Int.mul_one]
 done:=by
  intro X hP hw hK hc i pins s σ H E I hf st hg;subst hP hw hK;obtain⟨f0,f1,f2,f3,f4,f5⟩:=hf it (by simp);exact wpAny_pyNext_range_end (I.ok.hd hc) st (by have:n≤i:=hg;omega) fun h' eb=>⟨rfl,I.turned (t':=s.toks) (fun b o hb e=>eb b o hb e) f0 f1 f3 f4 f5⟩
 self:=fun _ _ _ _ _ st h=>wpAny_pyIter_rangeiter st h
end
section
section
variable {X:Cx}{tg:Expr}
theorem ny{σ:St}{lo hi:Int}(I:Inv X pins σ H s)(h1:-(2 ^ 62)≤lo)(h2:lo<2 ^ 62)(h3:-(2 ^ 62)≤hi)(h4:hi<2 ^ 62)
  (q:R (Itr lo (hi - lo).toNat) H):wpAny (model X.prog X.w) X.A (pyIter (.ref s.heap.objs.size)) (PIE X pins σ tg R) E { s with heap:=s.heap.push { cls:=.type "range",data:=.fields #[.int lo t,.int hi u,.int 1 v] },toks:=tk }:=by
 refine wpAny_pyIter_range (IsRange.new ..) (small_one h1 h2 h3 h4) ?_;have I1:Inv X pins σ H { s with heap:=s.heap.push { cls:=.type "range",data:=.fields #[.int lo t,.int hi u,.int 1 v] },toks:=tk }:=I.kept fun b o e=>IG _ e;refine⟨(s.heap.push { cls:=.type "range",data:=.fields #[.int lo t,.int hi u,.int 1 v] }).objs.size,[(s.heap.push { cls:=.type "range",data:=.fields #[.int lo t,.int hi u,.int 1 v] }).objs.size],_,_,H,rfl,
  I1.kept (t':=tk) fun b o e=>IG _ e,nO _ lo (hi - lo).toNat,?_,fun b hb=>?_,q⟩
 ·have e1:lo+((0:Nat):Int)*1=lo:=by simp
  have e2:(((hi - lo).toNat:Nat):Int) - ((0:Nat):Int)=Builtin.Range.rangeSize lo hi 1:=by rw[rangeSize_one];split<;>omega
  show IsRangeIter _ _ (lo+((0:Nat):Int)*1) ((((hi - lo).toNat:Nat):Int) - ((0:Nat):Int)) 1;rw[e1,e2];exact IT _ rfl
 ·have e:b=(s.heap.push { cls:=.type "range",data:=.fields #[.int lo t,.int hi u,.int 1 v] }).objs.size:=by simpa using hb
  subst e;exact I1.fpOk (IS _) (I1.hok.fresh (IS _))
def EJ(ta:TA):TI:=fun σ H R=>ta σ H fun vs H1=>∃j:Int,vs=[.int j]/\-(2 ^ 62)≤j/\j<2 ^ 62/\R (Itr 0 j.toNat) H1
def DQ(ta:TA):TI:=fun σ H R=>ta σ H fun vs H1=>∃i j:Int,vs=[.int i,.int j]/\(-(2 ^ 62)≤i/\i<2 ^ 62/\-(2 ^ 62)≤j/\j<2 ^ 62)/\R (Itr i (j - i).toNat) H1
theorem rH{a:Expr}{ta:TA}{p pos:Pos}(hg:Gl X "range")(hm:X.mg "range"=none)(ha:PA X [a] ta)(hs:starEach [a] X.env=[(false,eval a X.env)]:=by rfl):PI X tg (.Call (.Name "range" p) [a] [] pos) (EJ ta):=by
 intro pins s σ H R I h;refine Call_ (cO I hg hm boot_range (JJ (thn (ha pos pins s σ H _ I h) fun us s1 ⟨vs,H1,I1,r1,q1⟩=>?_) hs rfl));obtain⟨j,e,q1,q2,q⟩:=q1;subst e;cases r1 with
 | cons r rr =>
  cases rr;obtain⟨t,rfl⟩:=r;exact call_range_1 (ny I1 (by omega) (by omega) q1 q2 (by simpa using q))
theorem rf{a b:Expr}{ta:TA}{p pos:Pos}(hg:Gl X "range")(hm:X.mg "range"=none)(ha:PA X [a,b] ta)(hs:starEach [a,b] X.env=[(false,eval a X.env),(false,eval b X.env)]:=by rfl)(hs2:starEach [b] X.env=[(false,eval b X.env)]:=by rfl) :
  PI X tg (.Call (.Name "range" p) [a,b] [] pos) (DQ ta):=by
 intro pins s σ H R I h;refine Call_ (cO I hg hm boot_range (JJ (thn (ha pos pins s σ H _ I h) fun us s1 ⟨vs,H1,I1,r1,q1⟩=>?_) (by rw[hs,hs2]) (by rw[hs2];rfl)));obtain⟨i,j,e,⟨q1,q2,q3,q4⟩,q⟩:=q1;subst e;cases r1 with
 | cons r rr =>
  cases rr with
  | cons r' rr =>
   cases rr;obtain⟨t,rfl⟩:=r;obtain⟨t',rfl⟩:=r';exact call_range_2 (ny I1 q1 q2 q3 q4 q)
def Gr(wi:TI)(g:TG)(tb:TS):TS:=fun D σ H=>wi σ H fun J H1=>∃W:Nat->Nat->St->Hp->Prop,(∃m,W 0 m σ H1)/\∀i m σ H,W i m σ H ->
 (J.stop i H/\D.nx σ H)∨(J.go i H/\∃N:St->Hp->Prop,(∀σ' H',N σ' H'->∃m',m'<m/\W (i+1) m' σ' H')/\∀x H',J.yld i H x H'->g x σ H' fun σ2 H2=>tb { D with nx:=N,ct:=N,bk:=D.nx } σ2 H2)
def jw(fp:List Addr)(h:Heap):List (Addr×Obj):=fp.filterMap fun b=>(h.get? b).map fun o=>(b,o)
theorem dJ(hb:b∈fp)(e:h.get? b=some o):(b,o)∈jw fp h:=List.mem_filterMap.mpr ⟨b,hb,by rw[e];rfl⟩
theorem qY(hp:p∈jw fp h):p.1∈fp/\h.get? p.1=some p.2:=by
 obtain⟨b,hb,e⟩:=List.mem_filterMap.mp hp;cases q:h.get? b with
 | none=>rw[q]at e;cases e
 | some o =>
  rw[q]at e;have e':(b,o)=p:=Js e;subst e';exact⟨hb,q⟩
theorem Inv.pinned{σ:St}(I:Inv X pins σ H s)(hf:∀b∈fp,fR X pins H b)(ho:∀b∈fp,∃o,s.heap.get? b=some o/\∀v,o.data≠.cell v):Inv X (pins++jw fp s.heap) σ H s :=
 I.pins_of fun p hp=>(IU.mp hp).elim (fun z=>I.pin p (Jd _ z)) fun z=>by
  obtain⟨hb,e⟩:=qY z;obtain⟨f0,f1,f2,_⟩:=hf p.1 hb;obtain⟨o,e',d⟩:=ho p.1 hb;rw[e]at e';cases e';exact⟨e,f0,f1,f2,d⟩
theorem Inv.unpinned{σ:St}(I:Inv X (pins++pl) σ H s):Inv X pins σ H s:=I.pins_of fun p hp=>I.pin p (Jd _ (Jh _ hp))
theorem BI{iter:Expr}{body:List Stmt}{wi:TI}{g:TG}{tb:TS}{pos:Pos}(hp:PassesOwn (model X.prog X.w) X.A X.env X.xe)(hc:X.calm=true)(hi:PI X tg iter wi)(hg:PG X tg g)(hb:PSs X body tb)
  (hs:∀x,foldedSetIterable iter X.env x=pure x:=by intro _;rfl):PS X (.For tg iter body [] pos) (Gr wi g tb):=by
 intro pins s σ H D I h;refine wpAny_For (thn (hi pins s σ H _ I h) fun v s1 h1=>thn h1 fun itv s2 h2=>?_) hs;obtain⟨it,fp,tn,J,H2,e,I2,T,st2,f2,W,⟨m0,w0⟩,turn⟩:=h2;subst e;have stat:∀{H':Hp},(∀b∈fp,H' b=none)->∀b∈fp,fR X pins H' b:=fun hn b hb=>⟨hn b hb,(f2 b hb).2⟩;refine codeAny_forLoop_any (fun n s'=>∃i σ' H',Inv X pins σ' H' s'/\tn i s'.heap/\(∀b∈fp,H' b=none)/\W i n σ' H') ?_ m0 ⟨0,σ,H2,I2,st2,fun b hb=>(f2 b hb).1,w0⟩;rintro n s3 ⟨i,σ3,H3,I3,st3,fr3,w3⟩;rcases turn i n σ3 H3 w3 with⟨stop,qn⟩ |⟨go,N,hN,step⟩
 ·refine K0 hp (thn (T.done X rfl rfl rfl hc i pins s3 σ3 H3 X.xe I3 (stat fr3) st3 stop) fun r s4 y_=>?_);obtain⟨hr,I4⟩:=y_;subst hr;exact wpAny_execs_nil ⟨σ3,H3,I4,qn⟩
 ·refine K0 hp (thn (T.item X rfl rfl rfl hc i pins s3 σ3 H3 X.xe I3 (stat fr3) st3 go) fun r s4 y_=>?_);obtain⟨u,hr,h4⟩:=y_;subst hr;refine K0 hp (thn h4 fun _ s5 y_=>?_);obtain⟨x,H5,I5,r5,y5,st5,fr5⟩:=y_;have I5':=I5.pinned (stat fr5) (T.obj _ _ st5);refine K0 hp (thn (hg _ s5 σ3 H5 x u _ I5' r5 (step x H5 y5)) fun _ s6 y_=>?_);obtain⟨σ6,H6,I6,q6⟩:=y_;refine K0 hp (thn (hb _ s6 σ6 H6 _ I6 q6) fun f s7 q7=>?_);have again:∀{σ7:St} {H7:Hp},Inv X (pins++jw fp s5.heap) σ7 H7 s7->N σ7 H7->∃m,m<n/\∃i σ' H',Inv X pins σ' H' s7/\tn i s7.heap/\(∀b∈fp,H' b=none)/\W i m σ' H':=fun {σ7 H7} I7 n7=>by
   obtain⟨m',hm,w7⟩:=hN σ7 H7 n7;refine⟨m',hm,i+1,σ7,H7,I7.unpinned,T.keep _ _ _ st5 fun b hb o e=>(I7.pin (b,o) (Jd _ (Jd _ (dJ hb e)))).1,fun b hb=>?_,w7⟩;obtain⟨o,e,d⟩:=T.obj _ _ st5 b hb;exact(I7.pin (b,o) (Jd _ (Jd _ (dJ hb e)))).2.1
  cases f with
  | next=>obtain⟨σ7,H7,I7,n7⟩:=q7;exact again I7 n7
  | cont=>obtain⟨σ7,H7,I7,n7⟩:=q7;exact again I7 n7
  | brk=>obtain⟨σ7,H7,I7,q7⟩:=q7;exact⟨σ7,H7,I7.unpinned,q7⟩
  | ret v=>obtain⟨x7,σ7,H7,I7,r7,q7⟩:=q7;exact⟨x7,σ7,H7,I7.unpinned,r7,q7⟩
end
theorem dU{c:TT}{tb:TS}{D:Ends}{σ:St}{H:Hp}(Pv:St->Hp->Prop)(μ:St->Hp->Nat)(h0:Pv σ H)
  (hs:∀σ H,Pv σ H->c σ H fun b H1=>if b=true then tb { D with nx:=fun σ' H'=>Pv σ' H'/\μ σ' H'<μ σ H,ct:=fun σ' H'=>Pv σ' H'/\μ σ' H'<μ σ H,bk:=D.nx } σ H1 else D.nx σ H1)
  (mono:∀σ H Q Q',(∀b H1,Q b H1->Q' b H1)->c σ H Q->c σ H Q'):sx c tb D σ H:=by
 refine⟨fun m σ H=>m=μ σ H/\Pv σ H,⟨_,rfl,h0⟩,?_⟩;rintro m σ H ⟨rfl,p⟩;refine mono σ H _ _ (fun b H1 q=>?_) (hs σ H p);cases b with
 | true=>exact⟨_,fun σ' H' y_=>by obtain⟨p',l⟩:=y_;exact ⟨_,l,rfl,p'⟩,q⟩
 | false=>exact q
end
section
abbrev R2:=V->V->Hp->VK->Prop
def OpR(X:Cx)(f:Value->Value->Sem Value)(r:R2):Prop :=
 ∀(pins:List (Addr×Obj)) (s:Shared) (σ:St) (H:Hp) (x y:V) (v u:Value) (Q:VK),Inv X pins σ H s->RelV x v->RelV y u->r x y H Q ->
  wpAny (model X.prog X.w) X.A (f v u) (EP X pins σ Q) X.xe s
def UnR(X:Cx)(f:Value->Sem Value)(r:V->Hp->VK->Prop):Prop :=
 ∀(pins:List (Addr×Obj)) (s:Shared) (σ:St) (H:Hp) (x:V) (v:Value) (Q:VK),Inv X pins σ H s->RelV x v->r x H Q ->
  wpAny (model X.prog X.w) X.A (f v) (EP X pins σ Q) X.xe s
def cf(X:Cx)(f:Value)(r:List V->Hp->VK->Prop):Prop :=
 ∀(pins:List (Addr×Obj)) (s:Shared) (σ:St) (H:Hp) (xs:List V) (us:List Value) (Q:VK),Inv X pins σ H s->Vals xs us->r xs H Q ->
  wpAny (model X.prog X.w) X.A (call f us) (EP X pins σ Q) X.xe s
def GZ(X:Cx)(r:V->Hp->(Bool->Hp->Prop)->Prop):Prop :=
 ∀(pins:List (Addr×Obj)) (s:Shared) (σ:St) (H:Hp) (x:V) (v:Value) (Q:Bool->Hp->Prop),Inv X pins σ H s->RelV x v->r x H Q ->
  wpAny (model X.prog X.w) X.A (truthy v) (TP X pins σ Q) X.xe s
def tOp(r:R2)(ta tb:TE):TE:=fun σ H Q=>ta σ H fun x H1=>tb σ H1 fun y H2=>r x y H2 Q
def tUn(r:V->Hp->VK->Prop)(ta:TE):TE:=fun σ H Q=>ta σ H fun x H1=>r x H1 Q
def rI(C:Int->Int->Prop)(g:Int->Int->V):R2:=fun x y H Q=>∃i j,x=.int i/\y=.int j/\C i j/\Q (g i j) H
def rI0(g:Int->Int->V):R2:=fun x y H Q=>∃i j,x=.int i/\y=.int j/\Q (g i j) H
def rU(g:Int->V):V->Hp->VK->Prop:=fun x H Q=>∃i,x=.int i/\Q (g i) H
section
variable {X:Cx}{a b c:Expr}{ta tb tc:TE}{pos:Pos}
theorem Bt(ha:PE X a ta)(hb:PE X b tb){pins:List (Addr×Obj)}{s:Shared}{σ:St}{H:Hp}{R:V->V->Hp->Prop}(I:Inv X pins σ H s)
  (h:ta σ H fun x H1=>tb σ H1 fun y H2=>R x y H2) {Q:Value->Shared->Prop} {f:Value->Value->Sem Value}
  (hf:∀v u s2 x y H2,Inv X pins σ H2 s2->RelV x v->RelV y u->R x y H2->wpAny (model X.prog X.w) X.A (f v u) Q X.xe s2) :
  wpAny (model X.prog X.w) X.A (eval a X.env) (fun v s₁=>wpAny (model X.prog X.w) X.A (eval b X.env) (fun u s₂=>wpAny (model X.prog X.w) X.A (f v u) Q X.xe s₂) X.xe s₁) X.xe s:=by
 refine thn (ha pins s σ H _ I h) fun v s1 y_=>?_;obtain⟨x,H1,I1,r1,q1⟩:=y_;refine thn (hb pins s1 σ H1 _ I1 q1) fun u s2 y_=>?_;obtain⟨y,H2,I2,r2,q2⟩:=y_;exact hf v u s2 x y H2 I2 r1 r2 q2
theorem Cc(ho:OpR X (binaryOp op) r)(ha:PE X a ta)(hb:PE X b tb):PE X (.BinOp a op b pos) (tOp r ta tb):=by
 intro pins s σ H Q I h;exact wpAny_BinOp (Bt ha hb I h fun v u s2 x y H2 I2 rx ry q=>ho pins s2 σ H2 x y v u Q I2 rx ry q)
theorem D6(ho:UnR X (unaryOp op) r)(ha:PE X a ta):PE X (.UnaryOp op a pos) (tUn r ta):=by
 intro pins s σ H Q I h;exact UnaryOp_ (thn (ha pins s σ H _ I h) fun v s1 y_=>by obtain⟨x,H1,I1,r1,q1⟩:=y_;exact ho pins s1 σ H1 x v Q I1 r1 q1)
theorem opI{g:Int->Int->Int}
  (rule:∀(i j:Int) (t u:Tok) (s:Shared) (Q:Value->Shared->Prop) (E:Value->Shared->Prop),C i j->Q (.int (g i j) s.toks) { s with toks:=s.toks+1 }->wpAny (model X.prog X.w) X.A (f (.int i t) (.int j u)) Q E s) :
  OpR X f (rI C fun i j=>.int (g i j)):=by
 intro pins s σ H x y v u Q I rx ry h;obtain⟨i,j,rfl,rfl,hc,q⟩:=h;obtain⟨t,rfl⟩:=rx;obtain⟨t',rfl⟩:=ry;exact rule i j t t' s _ _ hc ⟨.int (g i j),H,I.tok _,⟨_,rfl⟩,q⟩
theorem AK{g:Int->Int->Int}
  (rule:∀(i j:Int) (t u:Tok) (s:Shared) (Q:Value->Shared->Prop) (E:Value->Shared->Prop),Q (.int (g i j) s.toks) { s with toks:=s.toks+1 }->wpAny (model X.prog X.w) X.A (f (.int i t) (.int j u)) Q E s) :
  OpR X f (rI0 fun i j=>.int (g i j)):=by
 intro pins s σ H x y v u Q I rx ry h;obtain⟨i,j,rfl,rfl,q⟩:=h;obtain⟨t,rfl⟩:=rx;obtain⟨t',rfl⟩:=ry;exact rule i j t t' s _ _ ⟨.int (g i j),H,I.tok _,⟨_,rfl⟩,q⟩
theorem xZ{g:Int->Int->Bool}
  (rule:∀(i j:Int) (t u:Tok) (s:Shared) (Q:Value->Shared->Prop) (E:Value->Shared->Prop),Q (.bool (g i j)) s->wpAny (model X.prog X.w) X.A (f (.int i t) (.int j u)) Q E s) :
  OpR X f (rI0 fun i j=>.bl (g i j)):=by
 intro pins s σ H x y v u Q I rx ry h;obtain⟨i,j,rfl,rfl,q⟩:=h;obtain⟨t,rfl⟩:=rx;obtain⟨t',rfl⟩:=ry;exact rule i j t t' s _ _ ⟨.bl (g i j),H,I,rfl,q⟩
def EG(i j:Int):Prop:=0≤j/\j≤1000000/\i.natAbs<2 ^ 64
def Bx(i j:Int):Prop:=(-(2 ^ 64)<i/\i<2 ^ 64)∨(-(2 ^ 64)<j/\j<2 ^ 64)
theorem Bx.ok(h:Bx i j):IntMulOk i j:=by
 rcases h with⟨h1,h2⟩ |⟨h1,h2⟩
 ·exact .of_left (intBits_le_64 h1 h2)
 ·exact .of_right (intBits_le_64 h1 h2)
theorem nX(k:Nat):(0:Int)≤2 ^ k:=by
 rw[two_pow_cast];exact Int.natCast_nonneg _
theorem Ai:OpR X (binaryOp .Add) (rI0 fun i j=>.int (i+j)):=AK fun _ _ _ _ _ _ _ q=>add_int q
theorem Ah:OpR X (binaryOp .Sub) (rI0 fun i j=>.int (i - j)):=AK fun _ _ _ _ _ _ _ q=>sub_int q
theorem vV:OpR X (binaryOp .Mod) (rI (fun _ j=>j≠0) fun i j=>.int (i.fmod j)):=opI fun _ _ _ _ _ _ _ hc q=>mod_int' hc q
theorem Ar:OpR X (binaryOp .LShift) (rI EG fun i j=>.int (i*2 ^ j.toNat)):=opI fun _ _ _ _ _ _ _ hc q=>lshift_int_small hc.1 hc.2.1 hc.2.2 q
theorem AR:OpR X (binaryOp .RShift) (rI (fun _ j=>0≤j) fun i j=>.int (i / 2 ^ j.toNat)):=opI fun i j _ _ _ _ _ hc q =>
 rshift_int hc (by rw[Int.fdiv_eq_ediv_of_nonneg i (nX _)];exact q)
theorem BD:OpR X (binaryOp .BitAnd) (rI0 fun i j=>.int (Builtin.bitAnd i j)):=AK fun _ _ _ _ _ _ _ q=>and_int q
theorem unI{g:Int->Int}
  (rule:∀(i:Int) (t:Tok) (s:Shared) (Q:Value->Shared->Prop) (E:Value->Shared->Prop),Q (.int (g i) s.toks) { s with toks:=s.toks+1 }->wpAny (model X.prog X.w) X.A (f (.int i t)) Q E s) :
  UnR X f (rU fun i=>.int (g i)):=by
 intro pins s σ H x v Q I rx h;obtain⟨i,rfl,q⟩:=h;obtain⟨t,rfl⟩:=rx;exact rule i t s _ _ ⟨.int (g i),H,I.tok _,⟨_,rfl⟩,q⟩
theorem zB:UnR X (unaryOp .USub) (rU fun i=>.int (-i)):=unI fun _ _ _ _ _ q=>neg_int q
end
section
variable {X:Cx}{a b c:Expr}{ta tb tc:TE}{pos:Pos}
theorem BC{σ:St}(I:Inv X pins σ H s)(q:Q (.bl k) H)(e:k=k'):EP X pins σ Q (.bool k') s:=by
 subst e;exact⟨.bl k,H,I,rfl,q⟩
theorem ia:OpR X (compareOp .Lt) (rI0 fun i j=>.bl (decide (i<j))):=xZ fun _ _ _ _ _ _ _ q=>lt_int q
theorem yQ:OpR X (compareOp .LtE) (rI0 fun i j=>.bl (decide (i≤j))):=xZ fun _ _ _ _ _ _ _ q=>le_int q
theorem fb:OpR X (compareOp .Gt) (rI0 fun i j=>.bl (decide (j<i))):=xZ fun _ _ _ _ _ _ _ q=>gt_int q
theorem tX:OpR X (compareOp .GtE) (rI0 fun i j=>.bl (decide (j≤i))):=xZ fun _ _ _ _ _ _ _ q=>ge_int q
theorem kQ:OpR X (compareOp .Is) (fun x y H Q=>y=.non/\Q (.bl (decide (x=.non))) H):=by
 intro pins s σ H x y v u Q I rx ry h;obtain⟨rfl,q⟩:=h;cases ry;refine is_none_gen (BC I q ?_);cases x<;>first
  |(cases rx;rfl)
  |(obtain⟨t,rfl⟩:=rx;rfl)
theorem bS(b:Expr){op:CmpOp}(h:op≠.In:=by decide)(h2:op≠.NotIn:=by decide):behindInMarks op b=false:=by
 have e1:(op==CmpOp.In)=false:=by cases op<;>first | rfl | exact absurd rfl h
 have e2:(op==CmpOp.NotIn)=false:=by cases op<;>first | rfl | exact absurd rfl h2
 cases b<;>simp[behindInMarks,e1,e2]
theorem yC(ho:OpR X (compareOp op) r)(ha:PE X a ta)(hb:PE X b tb)(hm:behindInMarks op b=false):PE X (.Compare a [op] [b] pos) (tOp r ta tb):=by
 intro pins s σ H Q I h;exact wpAny_Compare1 (Bt ha hb I h fun v u s2 x y H2 I2 rx ry q=>ho pins s2 σ H2 x y v u Q I2 rx ry q) hm
def yT(t:TE):TT:=fun σ H Q=>t σ H fun x H'=>∃k,x=.bl k/\Q k H'
theorem wH(ho:OpR X (compareOp op) r)(ha:PE X a ta)(hb:PE X b tb)(hm:behindInMarks op b=false):PT X (.Compare a [op] [b] pos) (yT (tOp r ta tb)):=by
 intro pins s σ H Q I h;refine wpAny_isTrue_Compare1 (thn (ha pins s σ H _ I h) fun v s1 ⟨x,H1,I1,r1,q1⟩=>thn (hb pins s1 σ H1 _ I1 q1) fun u s2 ⟨y,H2,I2,r2,q2⟩ =>
  thn (ho pins s2 σ H2 x y v u _ I2 r1 r2 q2) fun c s3 ⟨z,H3,I3,r3,k,e,q3⟩=>?_) hm
 subst e;cases r3;exact J9 ⟨H3,I3,q3⟩
def F7(K:PySem.W.Frag)(x:V)(H:Hp)(k:Bool):Prop :=
 match x with
 | .non=>k=false
 | .bl b=>k=b
 | .int i=>k=(i !=0)
 | .str y=>y.length≤sizeLine/\k=((y.length:Int) !=0)
 | .byt y=>y.size≤sizeLine/\k=((y.size:Int) !=0)
 | .ref p=>(∃xs,SqL K H p xs/\k=!xs.isEmpty)∨(∃xs,SqT K H p xs/\k=!xs.isEmpty)∨∃kvs,H p=some (.dK kvs)/\k=!kvs.isEmpty
 | _=>False
theorem gQ:(sizeLine:Nat)<2 ^ 63:=by rw[Jt];decide
theorem vals1(r:Vals [x] us):∃u,us=[u]/\RelV x u:=by
 cases r with
 | cons r1 r2=>cases r2;exact⟨_,rfl,r1⟩
theorem vals2(r:Vals [x,y] us):∃u w',us=[u,w']/\RelV x u/\RelV y w':=by
 cases r with
 | cons r1 r2 =>
  cases r2 with
  | cons r3 r4=>cases r4;exact⟨_,_,rfl,r1,r3⟩
def E2(K:PySem.W.Frag)(x:V)(H:Hp)(n:Nat):Prop :=
 match x with
 | .str y=>y.length≤sizeLine/\n=y.length
 | .byt y=>y.size≤sizeLine/\n=y.size
 | .ref p=>(∃xs,SqL K H p xs/\n=xs.length)∨∃xs,SqT K H p xs/\n=xs.length
 | _=>False
theorem vA:cf X (.builtin "len") (fun xs H Q=>∃x n,xs=[x]/\E2 X.K x H n/\Q (.int n) H):=by
 intro pins s σ H xs us Q I r h;obtain⟨x,n,rfl,e,q⟩:=h;obtain⟨u,rfl,rx⟩:=vals1 r;have hl:=gQ;have hs:sizeLine=16777216:=Jt;cases x with
 | str y =>
  obtain⟨t,rfl⟩:=rx;obtain⟨hy,e'⟩:y.length≤sizeLine/\n=y.length:=e;subst e';exact len_str (by omega) ⟨.int _,H,I.tok _,⟨_,rfl⟩,q⟩
 | byt y =>
  obtain⟨t,rfl⟩:=rx;obtain⟨hy,e'⟩:y.size≤sizeLine/\n=y.size:=e;subst e';exact PySem.W.len_bytes (by omega) ⟨.int _,H,I.tok _,⟨_,rfl⟩,q⟩
 | ref p =>
  cases rx;have e':(∃xs,SqL X.K H p xs/\n=xs.length)∨∃xs,SqT X.K H p xs/\n=xs.length:=e;rcases e' with⟨xs,hx,e'⟩ |⟨xs,hx,e'⟩
  ·subst e';obtain⟨its,r',pl,hz⟩:=I.list hx;have hlen:=r'.length;exact Calls.call_len_list pl.isList (by simp only[IL];omega) ⟨.int xs.length,H,I.tok _,⟨_,by simp only[IL];rw[hlen]⟩,q⟩
  ·subst e';obtain⟨its,r',pl,hz⟩:=I.tuple hx;have hlen:=r'.length;exact len_tuple pl (by simp only[IL];omega) ⟨.int xs.length,H,I.tok _,⟨_,by simp only[IL];rw[hlen]⟩,q⟩
 | _=>exact(show False from e).elim
end
end
section
structure n4 (h:Heap) (x dx C:Addr) (mA:Str→Option Value):Prop where
 obj:h.get? x=some (PySem.W.instObj C dx)
 ns:h.Ns1 dx mA
 ne:dx≠x
theorem rV{h:Heap}(n:h.Ns1 dx mA):∃od,h.get? dx=some od/\∀name,PySem.W.lookIn name od=some (mA name):=by
 obtain⟨o,es,ep,ho,hd,hk,_,hm⟩:=n;refine⟨o,ho,fun name=>?_⟩;have e:=hm name;unfold nsFind findBy at e;rw[←Array.find?_toList]at e;unfold PySem.W.lookIn;rw[hd];dsimp only;split
 ·rename_i y q;rw[q]at e;exact congrArg some e
 ·rename_i q;rw[q]at e;have a:es.toList.any (·.refKey)=false:=by
   rw[List.any_eq_false];intro y hy;obtain⟨z,t,hkey⟩:=hk y (Array.mem_toList_iff.mp hy);simp[DictEntry.refKey,hkey]
  have a':¬es.toList.any (·.refKey)=true:=by rw[a];exact KW
  rw[IX a'];exact congrArg some e
theorem n4.look(I:n4 h x dx C mA):∃od,PySem.W.InstAt h x (PySem.W.instObj C dx) C (some od)/\∀name,PySem.W.lookIn name od=some (mA name) :=
 let ⟨od,ho,hl⟩:=rV I.ns
 ⟨od,⟨I.obj,rfl,rfl,ho⟩,hl⟩
section
variable {prog:Program}{w:World}{A:Around}{E:Value->Shared->Prop}{s:Shared}{K:PySem.W.Frag}{x dx C f:Addr}{mA:Str->Option Value}{name:Str}{v:Value}
theorem get_map(X:K.In s.heap)(I:n4 s.heap x dx C mA)(hg:PySem.W.plainGet K C name=true)(hh:PySem.W.hasDictIn K C=true)
  (ha:PySem.W.findIn K (.ref C) name=some none) (hv:mA name=some v) (hv':PySem.W.handedIn v=true) (h:Q v { s with toks:=s.toks+1 }) :
  wpAny (model prog w) A (getAttr (.ref x) name expr) Q E s:=by
 obtain⟨od,J,hl⟩:=I.look;exact PySem.W.get_value X J (PySem.W.plainGet_of hg).1 (PySem.W.findObj_own hh ha rfl (by rw[hl,hv])) hv' h
theorem tq(X:K.In s.heap)(I:n4 s.heap x dx C mA)(hg:PySem.W.plainGet K C name=true)
  (hf:PySem.W.findIn K (.ref C) name=some (some (.ref f))) (ht:PySem.W.isFn K (.ref f)=true) (hv:mA name=none) (h:Q (.ref f,[.ref x]) s) :
  wpAny (model prog w) A (getMethod (.ref x) name pl) Q E s:=by
 obtain⟨od,J,hl⟩:=I.look;exact PySem.W.method_fn X J (PySem.W.plainGet_of hg).1 (PySem.W.plainGet_of hg).2 hf (Kk.mp ht) (by show(PySem.W.lookIn name od).map (·.isSome)=some false;rw[hl,hv];rfl) h
theorem yh(X:K.In s.heap)(I:n4 s.heap x dx C mA)
  (hs:PySem.W.findIn K (.ref C) "__setattr__"=some (some (.builtin "object.__setattr__"))) (hp:PySem.W.plainOver K C=true) (ht:PySem.W.takerIn K C name=some none) (hh:PySem.W.hasDictIn K C=true)
  (hw:PySem.Within mA ns) (hsz:ns.length≤sizeLine)
  (h:∀h',n4 h' x dx C (fun y=>if y=name then some v else mA y)->Heap.SameBut dx s.heap h'->Q () { s with heap:=h',toks:=s.toks+2 }) :
  wpAny (model prog w) A (setAttr (.ref x) name v) Q E s:=by
 obtain⟨od,J,hl⟩:=I.look;refine PySem.W.set_plain X J hs (PySem.W.osa_open (s:={ s with toks:=s.toks+1 }) (r:=none) X J hp ht fun b=>?_);obtain⟨cd,hc,hd'⟩:=PySem.W.any_some hh;have hx:s.heap.get? x=some ⟨.ref C,some dx,.plain,#[]⟩:=I.obj;refine IC (IH (IC (IC (wpAny_loadPart hx (IC (PySem.W.Looks.here (s:={ s with toks:=s.toks+1 }) (PySem.W.looks_clsIn X hc) ?_))))));rw[hd'];refine IH (a:=some dx) (IC (IH (IC ?_)));refine wpAny_nsSet1 (s:={ s with toks:=s.toks+1 }) I.ns fun h' hn2 hs2=>?_;obtain⟨oD,esD,epD,hoD,hdD,hcD⟩:=hn2.count (PySem.Within.cons name v hw);refine IC (wpAny_lookBehind hoD (by rw[hdD];exact pastItsLine_dict (Jl hcD (by rw[Jg];omega))) ?_);exact IH (h _ ⟨(hs2.2 _ (Ne.symm I.ne)).trans I.obj,hn2,I.ne⟩ hs2)
theorem tF(X:K.In s.heap)(hm:PySem.W.makesIn K C=true)
  (hi:PySem.W.findIn K (.ref C) "__init__"=some (some (.ref f))) (hf:PySem.W.typeIn K (.ref f)=some (.type "function"))
  (h:codeAny (model prog w) (A.under (.builtin "type.__call__" ⟨.ref C::vs,kw⟩)) (.call (.ref f) ⟨.ref (s.heap.objs.size+1)::vs,kw⟩) (PySem.W.InitBack (s.heap.objs.size+1) R)
   { s with heap:=(s.heap.push PySem.W.emptyDict).push (PySem.W.instObj C s.heap.objs.size) }) :
  codeAny (model prog w) A (.call (.ref C) ⟨vs,kw⟩) R s:=by
 obtain⟨hh,g,d,t,os⟩:=s;exact PySem.W.make_core (PySem.W.makes_of X hm) (PySem.W.looks_findIn X hi) (fun self=>PySem.W.bind_fn X self hf) (.inl rfl) h
end
def dC(f:Str)(v:V):List (Str×V)->List (Str×V)
 | []=>[(f,v)]
 |(g,x)::r=>if g=f then(g,v)::r else(g,x)::dC f v r
theorem ig(f g:Str)(v:V):∀fs:List (Str×V),(dC f v fs).lookup g=if g=f then some v else fs.lookup g
 | []=>by
  show List.lookup g [(f,v)]=_;by_cases h:g=f
  ·have hb:(g==f)=true:=Kk.mpr h;simp only[List.lookup,hb,IZ h]
  ·have hb:(g==f)=false:=beq_eq_false_iff_ne.mpr h;simp only[List.lookup,hb,IX h]
 |(k,x)::r=>by
  have ih:=ig f g v r;rw[show dC f v ((k,x)::r)=(if k=f then(k,v)::r else(k,x)::dC f v r)from rfl];by_cases hk:k=f
  ·rw[IZ hk];by_cases h:g=k
   ·have hb:(g==k)=true:=Kk.mpr h;simp only[List.lookup,hb,IZ (h.trans hk)]
   ·have hb:(g==k)=false:=beq_eq_false_iff_ne.mpr h;simp only[List.lookup,hb,IX (fun e:g=f=>h (e.trans hk.symm))]
  ·rw[IX hk];by_cases h:g=k
   ·have hb:(g==k)=true:=Kk.mpr h;simp only[List.lookup,hb,IX (fun e:g=f=>hk (h.symm.trans e))]
   ·have hb:(g==k)=false:=beq_eq_false_iff_ne.mpr h;simp only[List.lookup,hb];exact ih
theorem gU(f:Str)(v:V):∀fs:List (Str×V),f∈(dC f v fs).map (·.1)/\∀g,g∈fs.map (·.1)->g∈(dC f v fs).map (·.1)
 | []=>⟨by simp[dC],fun g h=>by simp at h⟩
 |(k,x)::r=>by
  obtain⟨i1,i2⟩:=gU f v r;rw[show dC f v ((k,x)::r)=(if k=f then(k,v)::r else(k,x)::dC f v r)from rfl];by_cases hk:k=f
  ·rw[IZ hk];subst hk;exact⟨by simp,fun g h=>by simpa using h⟩
  ·rw[IX hk];refine⟨?_,fun g h=>?_⟩
   ·rw[Jb];exact IJ _ i1
   ·rw[Jb]at h ⊢;rcases IY.mp h with e | e
    ·exact IY.mpr (.inl e)
    ·exact IJ _ (i2 g e)
theorem g9(f:Str)(v:V):∀fs:List (Str×V),(dC f v fs).length≤fs.length+1
 | []=>by simp[dC]
 |(k,x)::r=>by
  have ih:=g9 f v r;rw[show dC f v ((k,x)::r)=(if k=f then(k,v)::r else(k,x)::dC f v r)from rfl];by_cases hk:k=f
  ·rw[IZ hk,Jg,Jg];omega
  ·rw[IX hk,Jg,Jg];omega
theorem jH.some_of(r:jH (some v) o):∃u,o=some u/\RelV v u:=by
 cases o with
 | none=>exact(show False from r).elim
 | some u=>exact⟨u,rfl,r⟩
theorem jH.none_of(r:jH none o):o=none:=by
 cases o with
 | none=>rfl
 | some u=>exact(show False from r).elim
theorem rq(r:RelV v u):PySem.W.handedIn u=true:=by
 cases v with
 | non=>cases (show u=Value.none from r);rfl
 | bl b=>cases (show u=Value.bool b from r);rfl
 | int i=>obtain⟨t,e⟩:=(show ∃t,u=Value.int i t from r);cases e;rfl
 | str x=>obtain⟨t,e⟩:=(show ∃t,u=Value.str x t from r);cases e;rfl
 | byt b=>obtain⟨t,e⟩:=(show ∃t,u=Value.bytes b t from r);cases e;rfl
 | flt b=>obtain⟨t,e⟩:=(show ∃t,u=Value.float b t from r);cases e;rfl
 | ref a=>cases (show u=Value.ref a from r);rfl
 | ty n=>cases (show u=Value.type n from r);rfl
section
variable {P:Program}{w:World}{H H':Hp}{h h':Heap}{a C dx:Addr}{fs fs':List (Str×V)}
theorem iE(hok:HOk P w H h)(e:H a=some (.ins C dx fs)):∃mA,n4 h a dx C mA/\(∀f,jH (fs.lookup f) (mA f))/\PySem.Within mA (fs.map (·.1))/\fs.length≤1000/\H dx=some (.own a):=by
 obtain⟨d,z,ne,ob,mA,n,r,q⟩:=(show bT P w H h a (.ins C dx fs)from hok a _ e);exact⟨mA,⟨ob,n,ne⟩,r,q,z,d⟩
end
structure Cls (K:PySem.W.Frag) (C:Addr):Prop where
 pg:PySem.W.plainGet K C Str.empty=true
 hd:PySem.W.hasDictIn K C=true
 po:PySem.W.plainOver K C=true
 sa:PySem.W.findIn K (.ref C) "__setattr__"=some (some (.builtin "object.__setattr__"))
theorem Cls.get{K:PySem.W.Frag}{C:Addr}(c:Cls K C)(f:Str):PySem.W.plainGet K C f=true:=c.pg
def cU(K:PySem.W.Frag)(C:Addr)(f:Str):Prop:=PySem.W.findIn K (.ref C) f=some none
theorem cU.taker{K:PySem.W.Frag}(n:cU K C f):PySem.W.takerIn K C f=some none:=by
 unfold PySem.W.takerIn;rw[show PySem.W.findIn K (.ref C) f=some none from n];rfl
structure Meth (K:PySem.W.Frag) (C:Addr) (m:Str) (f:Addr):Prop where
 at_:PySem.W.findIn K (.ref C) m=some (some (.ref f))
 fn:PySem.W.isFn K (.ref f)=true
 kp:PySem.W.keepIn K (.ref f)=true
section
variable {X:Cx}{pins:List (Addr×Obj)}{σ:St}{H:Hp}{s:Shared}{a C dx:Addr}{fs:List (Str×V)}{f:Str}{v:V}{A:Around}{E:Value->Shared->Prop}
theorem n8(I:Inv X pins σ H s)(e:H a=some (.ins C dx fs))(c:Cls X.K C)(n:cU X.K C f)(l:fs.lookup f=some v)
  (h:∀u s',Inv X pins σ H s'->RelV v u->Q u s'):wpAny (model X.prog X.w) A (getAttr (.ref a) f b) Q E s:=by
 obtain⟨mA,O,r,_,_,_⟩:=iE I.hok e;obtain⟨u,hu,ru⟩:=jH.some_of (v:=v) (o:=mA f) (by rw[←l];exact r f);exact get_map I.kIn O (c.get f) c.hd n hu (rq ru) (h u _ (I.tok _) ru)
theorem ju(I:Inv X pins σ H s)(e:H a=some (.ins C dx fs))(c:Cls X.K C)(k:Meth X.K C m g)(l:fs.lookup m=none)
  (h:Q (.ref g,[.ref a]) s):wpAny (model X.prog X.w) A (getMethod (.ref a) m pl) Q E s:=by
 obtain⟨mA,O,r,_,_,_⟩:=iE I.hok e;have hn:mA m=none:=jH.none_of (by rw[←l];exact r m);exact tq I.kIn O (c.get m) k.at_ k.fn hn h
theorem oH(I:Inv X pins σ H s)(e:H a=some (.ins C dx fs))(c:Cls X.K C)(n:cU X.K C f)(hl:fs.length<1000)(ry:RelV y u)
  (h:∀s',Inv X pins σ (upd H a (.ins C dx (dC f y fs))) s'->Q () s'):wpAny (model X.prog X.w) A (setAttr (.ref a) f u) Q E s:=by
 obtain⟨mA,O,r,wi,_,ho⟩:=iE I.hok e;have hz:(fs.map (·.1)).length≤sizeLine:=by rw[kb,Jt];omega
 refine yh I.kIn O c.sa c.po n.taker c.hd wi hz fun h' O' sb=>h _ ?_;have hd:∃o,h'.get? dx=some o:=let ⟨o,_,_,e',_⟩:=O'.ns;⟨o,e'⟩
 refine I.write (x:=a) (e:=dx) (by rw[e];exact True.intro) (.inr ho) (fun b q hb z=>(sb.2 b hb).trans z) hd ?_;refine⟨by rw[aH O.ne];exact ho,?_,O.ne,O'.obj,_,O'.ns,fun g=>?_,fun g hg=>?_⟩
 ·have:=g9 f y fs;omega
 ·show jH ((dC f y fs).lookup g) (if g=f then some u else mA g);rw[ig];by_cases q:g=f
  ·rw[IZ q,IZ q];exact ry
  ·rw[IX q,IX q];exact r g
 ·by_cases q:g=f
  ·rw[q];exact(gU f y fs).1
  ·refine(gU f y fs).2 g (wi g fun z=>hg ?_);show(if g=f then some u else mA g)=none;rw[IX q];exact z
theorem Inv.made(I:Inv X pins σ H s):Inv X pins σ (upd (upd H s.heap.objs.size (.own (s.heap.objs.size+1))) (s.heap.objs.size+1) (.ins C s.heap.objs.size []))
  { s with heap:=(s.heap.push PySem.W.emptyDict).push (PySem.W.instObj C s.heap.objs.size) }:=by
 have e1:(s.heap.push PySem.W.emptyDict).get? s.heap.objs.size=some PySem.W.emptyDict:=IT s.heap rfl;have e2:((s.heap.push PySem.W.emptyDict).push (PySem.W.instObj C s.heap.objs.size)).get? (s.heap.objs.size+1)=some (PySem.W.instObj C s.heap.objs.size):=by
  have:=IT (s.heap.push PySem.W.emptyDict) (o:=PySem.W.instObj C s.heap.objs.size) rfl
  rwa [Heap.size_push]at this
 have e3:(s.heap.push PySem.W.emptyDict).Ns s.heap.objs.size (fun _=>none):=⟨PySem.W.emptyDict,#[],_,e1,rfl,(fun e he=>absurd he (by simp)),fun _=>rfl⟩;have I1:=I.laid (a:=s.heap.objs.size) (o:=.own (s.heap.objs.size+1)) (h':=s.heap.push PySem.W.emptyDict) (t':=s.toks) (fun b u q=>IG _ q) (IS _) ⟨_,e1⟩;refine I1.laid (a:=s.heap.objs.size+1) (o:=.ins C s.heap.objs.size []) (t':=s.toks) (fun b u q=>IG _ q) (Nat.le_of_eq (Heap.size_push _ _)) ?_;have ne:s.heap.objs.size≠s.heap.objs.size+1:=Jc (Nat.lt_succ_self _);refine⟨by rw[aH ne,aR],JW _,ne,e2,fun _=>none,(Heap.Ns1.of_empty e3).at fun o q=>IG _ q,fun _=>True.intro,fun y hy=>absurd rfl hy⟩
theorem xc(hb:attributeBase e f env (eval e env)=eval e env)
  (h:wpAny (model prog w) A (eval e env) (fun o s₁=>wpAny (model prog w) A (getAttr o f true) Q E s₁) E s):wpAny (model prog w) A (eval (.Attribute e f pos) env) Q E s :=
 Attribute_any_ h (by rw[arm_eval_Attribute,hb])
end
def HA(K:PySem.W.Frag)(ta:TE)(f:Str):TE:=fun σ H Q=>ta σ H fun x H1=>∃a C dx fs v,x=.ref a/\H1 a=some (.ins C dx fs)/\Cls K C/\cU K C f/\fs.lookup f=some v/\Q v H1
def GW(K:PySem.W.Frag)(ta tv:TE)(f:Str):TS:=fun D σ H=>tv σ H fun y H1=>ta σ H1 fun x H2=>∃a C dx fs,x=.ref a/\H2 a=some (.ins C dx fs)/\Cls K C/\cU K C f/\fs.length<1000 /\
 D.nx σ (upd H2 a (.ins C dx (dC f y fs)))
section
variable {X:Cx}{o e value:Expr}{f:Str}{pos pos' tpos:Pos}{ta tv:TE}
theorem Ba(he:PE X e ta)(hb:attributeBase e f X.env (eval e X.env)=eval e X.env):PE X (.Attribute e f pos) (HA X.K ta f):=by
 intro pins s σ H Q I h;refine xc hb (thn (he pins s σ H _ I h) fun u s1 y_=>?_);obtain⟨x,H1,I1,rx,a,C,dx,fs,v,ex,ea,c,n,l,q⟩:=y_;subst ex;obtain rfl:u=Value.ref a:=rx;exact n8 I1 ea c n l fun u' s2 I2 ru=>⟨v,H1,I2,ru,q⟩
theorem Ab(ha:PE X o ta)(hv:PE X value tv)(hs:swapsWith value (some (.Attribute o f pos')) pos.line X.env=pure false):PS X (.Assign [.Attribute o f pos'] value pos) (GW X.K ta tv f):=by
 intro pins s σ H D I h;refine plainObj_wpAny_Assign_Attribute (thn (hv pins s σ H _ I h) fun u s1 ⟨y,H1,I1,ry,q⟩=>thn (ha pins s1 σ H1 _ I1 q) fun ov s2 ⟨x,H2,I2,rx,a,C,dx,fs,ex,ea,c,n,l,q2⟩=>?_) hs;subst ex;obtain rfl:ov=Value.ref a:=rx;exact oH I2 ea c n l ry fun s3 I3=>⟨σ,_,I3,q2⟩
end
section
variable {X:Cx}{pins:List (Addr×Obj)}{σ:St}{H:Hp}{s:Shared}{A:Around}{E:Value->Shared->Prop}{Q:Value->Shared->Prop}{c:Value}{b:Bool}
inductive ik (K:PySem.W.Frag) (H:Hp):V→Value→Prop where
 | non:ik K H .non (.type "NoneType")
 | bl (x:Bool):ik K H (.bl x) (.type "bool")
 | int (i:Int):ik K H (.int i) (.type "int")
 | str (x:Str):ik K H (.str x) (.type "str")
 | flt (x:UInt64):ik K H (.flt x) (.type "float")
 | lst {a:Addr} {xs:List V} (e:H a=some (.lst xs)):ik K H (.ref a) (.type "list")
 | frz {a:Addr} {o:Obj} {xs:List V} (e:H a=some (.frz o (.lst xs))):ik K H (.ref a) (.type "list")
 | tup {a:Addr} {xs:List V} (e:H a=some (.tup xs)):ik K H (.ref a) (.type "tuple")
 | dK {a:Addr} {kvs:List (Key×V)} (e:H a=some (.dK kvs)):ik K H (.ref a) (.type "dict")
 | dT {a:Addr} {kvs:List (List Key×V)} (e:H a=some (.dT kvs)):ik K H (.ref a) (.type "dict")
 | ins {a C dx:Addr} {fs:List (Str×V)} (e:H a=some (.ins C dx fs)) (cl:Cls K C) (ha:PySem.W.findIn K (.ref C) "__class__"=some (some (.builtin "object.__class__")))
   (hn:PySem.W.specialIn K (.builtin "object.__class__") "__get__"=some (some (.builtin "getset_descriptor.__get__"))) (htk:PySem.W.takesIn K (.builtin "object.__class__")=some true)
   (hm:PySem.W.mroIn K C (.type "object")=some true):ik K H (.ref a) (.ref C)
theorem eD(I:Inv X pins σ H s)(rx:RelV x u)(ty:ik X.K H x t)(e:PySem.W.kitOne X.K t c=some b)(h:∀tk,Q (.bool b) { s with toks:=tk }) :
  wpAny (model X.prog X.w) A (call (.builtin "isinstance") [u,c]) Q E s:=by
 cases ty with
 | non=>cases (show u=Value.none from rx);exact J3 PySem.W.kitx_none I.kIn True.intro e (fun z=>nomatch z) h
 | bl y=>cases (show u=Value.bool y from rx);exact J3 PySem.W.kitx_bool I.kIn True.intro e (fun z=>nomatch z) h
 | int i=>obtain⟨t,q⟩:=(show ∃t,u=Value.int i t from rx);cases q;exact J3 PySem.W.kitx_int I.kIn True.intro e (fun z=>nomatch z) h
 | str y=>obtain⟨t,q⟩:=(show ∃t,u=Value.str y t from rx);cases q;exact J3 PySem.W.kitx_str I.kIn True.intro e (fun z=>nomatch z) h
 | flt y=>obtain⟨t,q⟩:=(show ∃t,u=Value.float y t from rx);cases q;exact J3 PySem.W.kitx_float I.kIn True.intro e (fun z=>nomatch z) h
 | @lst a xs ea =>
  cases (show u=Value.ref a from rx);obtain⟨_,_,n,_,h1⟩:=(show bT X.prog X.w H s.heap a (.lst xs)from I.hok a _ ea);exact J3 PySem.W.kitx_list I.kIn ⟨_,h1,rfl⟩ e (fun z=>nomatch z) h
 | @frz a ob xs ea =>
  cases (show u=Value.ref a from rx);obtain⟨_,_,_,n,_,h1⟩:=(show bT X.prog X.w H s.heap a (.frz ob (.lst xs))from I.hok a _ ea);exact J3 PySem.W.kitx_list I.kIn ⟨_,h1,rfl⟩ e (fun z=>nomatch z) h
 | @tup a xs ea =>
  cases (show u=Value.ref a from rx);obtain⟨_,_,_,p⟩:=(show bT X.prog X.w H s.heap a (.tup xs)from I.hok a _ ea);obtain⟨o,h1,h2,_⟩:=p;exact J3 PySem.W.kitx_tuple I.kIn ⟨o,h1,h2⟩ e (fun z=>nomatch z) h
 | @dK a kvs ea =>
  cases (show u=Value.ref a from rx);obtain⟨_,_,vs,_,p⟩:=(show bT X.prog X.w H s.heap a (.dK kvs)from I.hok a _ ea);obtain⟨o,es,ep,h1,h2,_⟩:=p;exact J3 PySem.W.kitx_dict I.kIn ⟨o,h1,h2.1⟩ e (fun z=>nomatch z) h
 | @dT a kvs ea =>
  cases (show u=Value.ref a from rx);obtain⟨_,_,xs,_,o,es,ep,h1,h2,_⟩:=(show bT X.prog X.w H s.heap a (.dT kvs)from I.hok a _ ea);exact J3 PySem.W.kitx_dict I.kIn ⟨o,h1,h2.1⟩ e (fun z=>nomatch z) h
 | @ins a C dx fs ea cl ha hn htk hm =>
  cases (show u=Value.ref a from rx);obtain⟨mA,O,_⟩:=iE I.hok ea;obtain⟨od,J,_⟩:=O.look;exact J3 (PySem.W.kitx_own (cl.get _) cl.hd ha hn htk hm) I.kIn J e (fun z=>nomatch z) h
end
end
section
structure bG (k:Nat) (A:Around):Prop where
 hd:A.handled=none
 dp:A.depth+3*k+5<recursionLimit
 un:A.units+16*k+200<cLine
theorem bG.mono(r:bG k A)(h:j≤k):bG j A:=⟨r.hd,by have:=r.dp;omega,by have:=r.un;omega⟩
theorem bG.deeper(r:bG (k+1) A)(env:Env):bG k (A.deeper env) :=
 ⟨r.hd,by have:=r.dp;show A.depth+1+3*k+5<_;omega,by have:=r.un;show A.units+3+16*k+200<_;omega⟩
theorem bG.in1(r:bG (k+1) A):bG k A.in1 :=
 ⟨r.hd,by have:=r.dp;show A.depth+3*k+5<_;omega,by have:=r.un;show A.units+1+16*k+200<_;omega⟩
theorem nQ{A:Around}:(A.under (.builtin "type.__call__" ⟨.ref C::us,kw⟩)).depth=A.depth+1:=by
 first | rfl | simp[Around.under,Code.weight,Code.isCreation,Code.isGuard,Code.isCaller,Code.frames,Code.isFrame,guardIds]
theorem oM{A:Around}:(A.under (.builtin "type.__call__" ⟨.ref C::us,kw⟩)).units=A.units+1:=by
 first | rfl | simp[Around.under,Code.cUnits,Code.frames,Code.isFrame]
theorem bG.make(r:bG (k+1) A)(C:Addr)(us:List Value)(kw:List (Str×Value)):bG k (A.under (.builtin "type.__call__" ⟨.ref C::us,kw⟩)) :=
 ⟨r.hd,by have:=r.dp;rw[nQ];omega,by have:=r.un;rw[oM];omega⟩
theorem bG.depth(r:bG k A):A.depth<recursionLimit:=by have:=r.dp;omega
theorem bG.units(r:bG k A):A.units+64<cLine:=by have:=r.un;omega
def Ax:TA:=fun _ H Q=>Q [] H
def pJ(ta:TE)(tr:TA):TA:=fun σ H Q=>ta σ H fun x H1=>tr σ H1 fun xs H2=>Q (x::xs) H2
section
variable {X:Cx}{e:Expr}{es:List Expr}{te:TE}{t:TA}{pos:Pos}
theorem cT:PA X [] Ax:=fun _ _ _ _ H Q I h=>Calls.spliced_nil ⟨[],H,I,.nil,h⟩
theorem b7(ha:PE X e te)(hr:PA X es t)(hs:starEach (e::es) X.env=(false,eval e X.env)::starEach es X.env:=by rfl):PA X (e::es) (pJ te t):=by
 intro pos pins s σ H Q I h;rw[hs];show wpAny _ _ (spliced ((false,eval e X.env)::backTo pos (starEach es X.env))) _ _ s;refine Calls.spliced_cons (thn (ha pins s σ H _ I h) fun u s1 y_=>?_);obtain⟨x,H1,I1,r1,q1⟩:=y_;exact thn (hr pos pins s1 σ H1 _ I1 q1) fun us s2 ⟨xs,H2,I2,r2,q2⟩=>⟨x::xs,H2,I2,.cons r1 r2,q2⟩
def Eo(t:TA):TE:=fun σ H Q=>t σ H fun xs H1=>xs.length≤sizeLine/\∀p,H1 p=none->Q (.ref p) (upd H1 p (.tup xs))
def HL(t:TA):TE:=fun σ H Q=>t σ H fun xs H1=>xs.length≤sizeLine/\∀p,H1 p=none->Q (.ref p) (upd H1 p (.lst xs))
theorem uv(h:PA X es t):PE X (.Tuple es x1 pos) (Eo t):=by
 intro pins s σ H Q I hq;refine wpAny_Tuple_spliced (thn (h pos pins s σ H _ I hq) fun us s1 ⟨xs,H1,I1,r,z,q⟩=>⟨by rw[←r.length];exact z,?_⟩);have hf:H1 s1.heap.objs.size=none:=I1.hok.fresh (IS _);refine⟨.ref s1.heap.objs.size,upd H1 s1.heap.objs.size (.tup xs),I1.laid (t':=s1.toks) (fun b u e=>IG _ e) (IS _) ?_,rfl,q _ hf⟩;exact⟨z,us,r,⟨_,IT _ rfl,rfl,_,rfl⟩⟩
theorem A7(h:PA X es t):PE X (.List es pos) (HL t):=by
 intro pins s σ H Q I hq;refine wpAny_List_spliced (thn (h pos pins s σ H _ I hq) fun us s1 ⟨xs,H1,I1,r,z,q⟩=>⟨by rw[←r.length];exact z,?_⟩);have hf:H1 s1.heap.objs.size=none:=I1.hok.fresh (IS _);refine⟨.ref s1.heap.objs.size,upd H1 s1.heap.objs.size (.lst xs),I1.laid (t':=s1.toks) (fun b u e=>IG _ e) (IS _) ?_,rfl,q _ hf⟩;exact⟨z,us,0,r,IT _ rfl⟩
end
abbrev Sp:=List V->Hp->VK->XK->Prop
abbrev CXT:=List Env->Hp->Shared->XK->Value->Shared->Prop
structure ir (P:Program) (w:World) (K:PySem.W.Frag) (mg:Str→Option Value) (base:Heap) (A:Around) (outer:List Env) (s:Shared) (H:Hp):Prop where
 frames:A.frames=some outer
 mod:Mod K mg base
 bs:∀b o,base.get? b=some o->s.heap.get? b=some o/\H b=none
 bsz:base.objs.size≤s.heap.objs.size
 funs:s.heap.FunFrames base outer
 frf:∀b∈frs outer,H b=none
 hok:HOk P w H s.heap
 bare:AllBare s.gens
def CE(outer:List Env)(P:Program)(w:World)(H:Hp)(s:Shared)(Q:VK)(u:Value)(s':Shared):Prop :=
 ∃v H',s'.os=s.os/\AllBare s'.gens/\Un (frs outer) [] H H' s.heap s'.heap/\HOk P w H' s'.heap/\RelV v u/\Q v H'
def CR(CX:CXT)(outer:List Env)(P:Program)(w:World)(H:Hp)(s:Shared)(Q:VK)(E:XK)(r:Result)(s':Shared):Prop :=
 match r with
 | .ok (.ret u)=>CE outer P w H s Q u s'
 | .ok _=>False
 | .error e=>CX outer H s E e s'
structure f9 (P:Program) (w:World) (K:PySem.W.Frag) (mg:Str→Option Value) (base:Heap) (CX:CXT) (k:Nat) (f:Addr) (fd:FuncData) (ps:List Str) (sp:Sp):Prop where
 len:∀vs H Q E,sp vs H Q E->vs.length=ps.length
 run:∀(A:Around) (outer:List Env) (s:Shared) (H:Hp) (args:Args) (us:List Value) (vs:List V) (Q:VK) (E:XK),bG k A->ir P w K mg base A outer s H->BindsTo s fd args (ps.zip us)->Vals vs us->sp vs H Q E ->
  codeAny (model P w) A (.call (.ref f) args) (CR CX outer P w H s Q E) s
theorem ir.make{K:PySem.W.Frag}(e:ir P w K mg base A outer s H)(C:Addr)(us:List Value)(kw:List (Str×Value)) :
  ir P w K mg base (A.under (.builtin "type.__call__" ⟨.ref C::us,kw⟩)) outer s H:=⟨by first | exact e.frames |(simpa[Around.under,Code.envs,Code.isFrame,pushEnvs]using e.frames),e.mod,e.bs,e.bsz,e.funs,e.frf,e.hok,e.bare⟩
theorem ir.in1{K:PySem.W.Frag}(e:ir P w K mg base A outer s H) :
  ir P w K mg base A.in1 outer s H:=⟨e.frames,e.mod,e.bs,e.bsz,e.funs,e.frf,e.hok,e.bare⟩
section
variable {X:Cx}{pins:List (Addr×Obj)}{σ:St}{H:Hp}{s s':Shared}
theorem Inv.env0(I:Inv X pins σ H s):ir X.prog X.w X.K X.mg X.base X.A X.stack s H :=
 ⟨I.ok.frames,I.ok.mod,I.bs,Jl I.ok.bsz I.sz,I.stack,I.stkFree,I.hok,I.bare⟩
theorem Inv.after(I:Inv X pins σ H s)(h:CE X.stack X.prog X.w H s Q u s'):EP X pins σ Q u s':=by
 obtain⟨v,H',os,bare,un,hok,r,q⟩:=h;obtain⟨hh,g,d,t,os'⟩:=s';obtain rfl:os'=s.os:=os;exact⟨v,H',I.call (h':=hh) (g':=g) (d':=d) (t':=t) (ch:=[]) un hok bare (fun b z=>absurd z (by simp)),r,q⟩
end
def vw(sp:Sp)(dvs:List V)(E:XK)(t:TA):TE:=fun σ H Q=>t σ H fun vs H1=>sp (vs++dvs) H1 Q E
def za(C:Addr)(m:Str)(sp:Sp)(dvs:List V)(E:XK)(ta:TE)(t:TA):TE:=fun σ H Q=>ta σ H fun x H1=>∃a dx fs,x=.ref a/\H1 a=some (.ins C dx fs)/\fs.lookup m=none /\
 t σ H1 fun vs H2=>sp (x::(vs++dvs)) H2 Q E
def DP(C:Addr)(sp:Sp)(dvs:List V)(E:XK)(t:TA):TE:=fun σ H Q=>t σ H fun vs H1=>∀x dx,H1 x=none->H1 dx=none->dx≠x ->
 sp (.ref x::(vs++dvs)) (upd (upd H1 dx (.own x)) x (.ins C dx [])) (fun v H2=>v=.non/\Q (.ref x) H2) E
def Binds(K:PySem.W.Frag)(fd:FuncData)(ps:List Str)(ds:List Value):Prop :=
 ∀(s:Shared) (us:List Value),K.In s.heap->(us++ds).length=ps.length->BindsTo s fd ⟨us,[]⟩ (ps.zip (us++ds))
theorem Binds.all{K:PySem.W.Frag}(h:∀us:List Value,us.length=ps.length->bindArgs fd ⟨us,[]⟩=pure (ps.zip us)):Binds K fd ps []:=fun s us _ hl=>by
 rw[Ji]at hl ⊢;exact .of_eq (h us hl)
def Passes(CX:CXT)(X:Cx)(E:XK):Prop:=∀(pins:List (Addr×Obj)) (σ:St) (H:Hp) (s:Shared) (e:Value) (s':Shared),Inv X pins σ H s->CX X.stack H s E e s'->X.xe e s'
section
variable {X:Cx}{CX:CXT}{k:Nat}{f C:Addr}{fd:FuncData}{ps:List Str}{sp:Sp}{dvs:List V}{ds:List Value}{E:XK}{x m:Str}{p pos apos:Pos}{e o:Expr}{es:List Expr}{ta:TE}{t:TA}
theorem n9{σ:St}(F:f9 X.prog X.w X.K X.mg X.base CX k f fd ps sp)(hr:bG k X.A)(hb:Binds X.K fd ps ds)(hd:Vals dvs ds)(hx:Passes CX X E)
  (I:Inv X pins σ H s) (r:Vals vs us) (h:sp (vs++dvs) H Q E):wpAny (model X.prog X.w) X.A (call (.ref f) us) (EP X pins σ Q) X.xe s:=by
 have r2:Vals (vs++dvs) (us++ds):=r.append hd;have hl:(us++ds).length=ps.length:=by rw[←r2.length];exact F.len _ _ _ _ h
 refine wpAny_call (KO (F.run X.A X.stack s H ⟨us,[]⟩ (us++ds) (vs++dvs) Q E hr I.env0 (hb s us I.kIn hl) r2 h) fun r s' hq=>?_);cases r with
 | error e=>exact hx pins σ H s e s' I hq
 | ok fl =>
  cases fl with
  | ret u=>exact I.after hq
  | next=>exact False.elim hq
  | brk=>exact False.elim hq
  | cont=>exact False.elim hq
theorem w8(F:f9 X.prog X.w X.K X.mg X.base CX k f fd ps sp)(hr:bG k X.A)(hg:Gl X x)(hm:X.mg x=some (.ref f))(hk:PySem.W.keepIn X.K (.ref f)=true)(hb:Binds X.K fd ps ds)(hd:Vals dvs ds)(hx:Passes CX X E)
  (ha:PA X (e::es) t) (hdb:(x==("__debug__":Str))=false:=by decide) (he:starEach (e::es) X.env=(false,eval e X.env)::starEach es X.env:=by rfl) (hpl:(backTo pos (starEach es X.env)).any (·.1)=false:=by rfl) :
  PE X (.Call (.Name x p) (e::es) [] pos) (vw sp dvs E t):=by
 intro pins s σ H Q I h;refine Kq (kR I hg hm ?_ hdb);refine PySem.W.callWith_K (h₀:=X.base) I.ok.mod.kin hk (thn (ha pos pins s σ H _ I h) fun us s1 ⟨vs,H1,I1,r,q⟩=>⟨I1.kIn,?_⟩) he hpl;exact n9 F hr hb hd hx I1 r q
theorem wI{pl:Sem Bool}(he:PE X o ta)(c:Cls X.K C)(hm:Meth X.K C m f)(F:f9 X.prog X.w X.K X.mg X.base CX k f fd ps sp)(hr:bG k X.A)(hb:Binds X.K fd ps ds)(hd:Vals dvs ds)(hx:Passes CX X E)(ha:PA X (e::es) t)
  (hst:starEach (e::es) X.env=(false,eval e X.env)::starEach es X.env:=by rfl) (hpl:(backTo pos (starEach es X.env)).any (·.1)=false:=by rfl)
  (ht:eval (.Call (.Attribute o m apos) (e::es) [] pos) X.env=(do
   let ov←eval o X.env
   standAt apos.atName
   let (f,first)←holding [ov] (getMethod ov m pl)
   callWith pos f first (backTo pos (starEach (e::es) X.env)) (backToKw pos (keywordEach [] X.env))):=by rfl) :
  PE X (.Call (.Attribute o m apos) (e::es) [] pos) (za C m sp dvs E ta t):=by
 intro pins s σ H Q I h;refine PySem.W.methodCall_KW (pl:=pl) (thn (he pins s σ H _ I h) fun u s1 ⟨x,H1,I1,rx,a,dx,fs,ex,ea,l,q⟩=>?_) ht;subst ex;obtain rfl:u=Value.ref a:=rx;refine ju I1 ea c hm l ?_;refine PySem.W.callWith_K (first:=[.ref a]) (h₀:=X.base) I.ok.mod.kin hm.kp (thn (ha pos pins s1 σ H1 _ I1 q) fun us s2 ⟨vs,H2,I2,r,q2⟩=>⟨I2.kIn,?_⟩) hst hpl;exact n9 (us:=.ref a::us) (vs:=.ref a::vs) F hr hb hd hx I2 (.cons rfl r) q2
structure Mk (K:PySem.W.Frag) (C f:Addr):Prop where
 makes:PySem.W.makesIn K C=true
 init:PySem.W.findIn K (.ref C) "__init__"=some (some (.ref f))
 fn:PySem.W.isFn K (.ref f)=true
 kp:PySem.W.keepIn K (.ref C)=true
theorem rX{σ:St}(M:Mk X.K C f)(F:f9 X.prog X.w X.K X.mg X.base CX k f fd ps sp)(hr:bG (k+1) X.A)(hb:Binds X.K fd ps ds)(hd:Vals dvs ds)
  (hx:Passes CX X E) (I:Inv X pins σ H s) (r:Vals vs us)
  (h:∀x dx,H x=none->H dx=none->dx≠x->sp (.ref x::(vs++dvs)) (upd (upd H dx (.own x)) x (.ins C dx [])) (fun v H2=>v=.non/\Q (.ref x) H2) E) :
  wpAny (model X.prog X.w) X.A (call (.ref C) us) (EP X pins σ Q) X.xe s:=by
 have hq:=h (s.heap.objs.size+1) s.heap.objs.size (I.hok.fresh (Nat.le_succ _)) (I.hok.fresh (IS _)) (Jc (Nat.lt_succ_self _));have I2:=Inv.made (C:=C) I;have r2:Vals (V.ref (s.heap.objs.size+1)::(vs++dvs)) (Value.ref (s.heap.objs.size+1)::(us++ds)):=.cons rfl (r.append hd);have hl:(Value.ref (s.heap.objs.size+1)::us++ds).length=ps.length:=by
  have e:=r2.length;rw[F.len _ _ _ _ hq]at e;exact e.symm
 refine wpAny_call (tF (f:=f) I.kIn M.makes M.init (Kk.mp M.fn) (KO (F.run _ X.stack _ _ ⟨Value.ref (s.heap.objs.size+1)::us,[]⟩ (Value.ref (s.heap.objs.size+1)::(us++ds)) _ _ E (hr.make C us [])
  (I2.env0.make C us []) (hb _ (Value.ref (s.heap.objs.size+1)::us) I2.kIn hl) r2 hq) fun r s' hq'=>?_))
 cases r with
 | error e=>exact hx pins σ _ _ e s' I2 hq'
 | ok fl =>
  cases fl with
  | ret u =>
   obtain⟨v,H',I3,rv,ev,q3⟩:=I2.after hq';subst ev;exact⟨rv,⟨V.ref (s.heap.objs.size+1),H',I3,rfl,q3⟩⟩
  | next=>exact False.elim hq'
  | brk=>exact False.elim hq'
  | cont=>exact False.elim hq'
theorem vR(M:Mk X.K C f)(F:f9 X.prog X.w X.K X.mg X.base CX k f fd ps sp)(hr:bG (k+1) X.A)(hg:Gl X x)(hm:X.mg x=some (.ref C))(hb:Binds X.K fd ps ds)(hd:Vals dvs ds)(hx:Passes CX X E)
  (ha:PA X (e::es) t) (hdb:(x==("__debug__":Str))=false:=by decide) (he:starEach (e::es) X.env=(false,eval e X.env)::starEach es X.env:=by rfl) (hpl:(backTo pos (starEach es X.env)).any (·.1)=false:=by rfl) :
  PE X (.Call (.Name x p) (e::es) [] pos) (DP C sp dvs E t):=by
 intro pins s σ H Q I h;refine Kq (kR I hg hm ?_ hdb);refine PySem.W.callWith_K (h₀:=X.base) I.ok.mod.kin M.kp (thn (ha pos pins s σ H _ I h) fun us s1 ⟨vs,H1,I1,r,q⟩=>⟨I1.kIn,?_⟩) he hpl;exact rX M F hr hb hd hx I1 r q
end
section
variable {X:Cx}{CX:CXT}{k:Nat}{f C:Addr}{fd:FuncData}{ps ks:List Str}{sp:Sp}{E:XK}{x m:Str}{p pos apos kpos:Pos}{e o:Expr}{es:List Expr}{kws:List Keyword}{te ta:TE}{t tk:TA}{nm:Option Str}
variable {g:List Value->List Value->List Value}{gV:List V->List V->List V}
end
structure ax (N P:List Str) (sc:Scope):Prop where
 kind:sc.kind=.function
 co:sc.isCoroutine=false
 gen:sc.isGenerator=false
 nd:N.Nodup
 pre:N.take P.length=P
 par:∀x∈P,sc.names.lookup x=some .local∨sc.names.lookup x=some .cell
 nofree:∀y∈sc.names,y.2≠.free
theorem j4{kindOf:Str->Option NameKind}{x:Str}:∀{binds:List (Str×Value)} {m:Str->Option Value},(∀v,(x,v)∉binds)->bindL kindOf binds m x=m x
 | [],_,_=>rfl
 |(n,v)::r,m,h=>by
  unfold bindL;rw[j4 fun w hw=>h w (IJ _ hw)];split
  ·have:x≠n:=by rintro rfl;exact h v IK
   simp[this]
  ·rfl
theorem ko{kindOf:Str->Option NameKind}{x:Str}:∀{binds:List (Str×Value)} {m:Str->Option Value},(∀v,(x,v)∉binds)->bindC kindOf binds m x=m x
 | [],_,_=>rfl
 |(n,v)::r,m,h=>by
  unfold bindC;rw[ko fun w hw=>h w (IJ _ hw)];split
  ·rfl
  ·have:x≠n:=by rintro rfl;exact h v IK
   simp[this]
theorem kf{kindOf:Str->Option NameKind}{x:Str}{v:Value}:∀{P:List Str} {vs:List Value} {i:Nat} {m:Str->Option Value},P.Nodup->P[i]?=some x->vs[i]?=some v->kindOf x=some .local ->
  bindL kindOf (P.zip vs) m x=some v
 | [],_,_,_,_,h,_,_=>by simp at h
 | _::_,[],_,_,_,_,h,_=>by simp at h
 | p::P,w::vs,0,m,nd,h1,h2,hk=>by
  simp at h1 h2;subst h1;subst h2;show bindL kindOf ((p,w)::P.zip vs) m p=_;unfold bindL;rw[j4 fun v hv=>(Kf.mp nd).1 (List.of_mem_zip hv).1,IZ hk];simp
 | p::P,w::vs,i+1,m,nd,h1,h2,hk=>by
  show bindL kindOf ((p,w)::P.zip vs) m x=_;unfold bindL;exact kf (i:=i) (Kf.mp nd).2 (by simpa using h1) (by simpa using h2) hk
theorem kv{kindOf:Str->Option NameKind}{x:Str}{v:Value}:∀{P:List Str} {vs:List Value} {i:Nat} {m:Str->Option Value},P.Nodup->P[i]?=some x->vs[i]?=some v->kindOf x≠some .local ->
  bindC kindOf (P.zip vs) m x=some v
 | [],_,_,_,_,h,_,_=>by simp at h
 | _::_,[],_,_,_,_,h,_=>by simp at h
 | p::P,w::vs,0,m,nd,h1,h2,hk=>by
  simp at h1 h2;subst h1;subst h2;show bindC kindOf ((p,w)::P.zip vs) m p=_;unfold bindC;rw[ko fun v hv=>(Kf.mp nd).1 (List.of_mem_zip hv).1,IX hk];simp
 | p::P,w::vs,i+1,m,nd,h1,h2,hk=>by
  show bindC kindOf ((p,w)::P.zip vs) m x=_;unfold bindC;exact kv (i:=i) (Kf.mp nd).2 (by simpa using h1) (by simpa using h2) hk
def start(N:List Str)(vs:List V):St:=vs.map some++List.replicate (N.length - vs.length) none
def jF(CX:CXT)(P:Program)(w:World)(K:PySem.W.Frag)(mg:Str->Option Value)(base:Heap)(N:List Str)(qual:Str)(scope:Scope)(f:Addr)(cd:Value)(A:Around)(outer:List Env)(s:Shared)(H:Hp)(E:XK):Cx where
 prog:=P
 w:=w
 K:=K
 mg:=mg
 base:=base
 A:=A.deeper (envOfC qual scope s.heap.objs.size f cd)
 N:=N
 s₀:=s
 H₀:=H
 env:=envOfC qual scope s.heap.objs.size f cd
 outer:=outer
 stack:=envOfC qual scope s.heap.objs.size f cd::outer
 ex:=[]
 calm:=true
 fn:=fun _=>true
 pn:=[]
 xe:=fun e s'=>wpAny (model P w) (A.deeper (envOfC qual scope s.heap.objs.size f cd)) (leaving (envOfC qual scope s.heap.objs.size f cd) e) (fun _ s''=>CX outer H s E e s'') (fun e' s''=>CX outer H s E e' s'') s'
theorem md{sc:Scope}(h:sc.names.lookup x=some .cell):∃c,(cellsFrom n sc.names []).lookup x=some c:=by
 have q:=PySem.W.cellsFrom_some sc.names n [] (.inl h);exact Option.isSome_iff_exists.mp q
theorem jP{K:PySem.W.Frag}
  (S:ax N ps scope) (hd:A.handled=none) (e0:ir P w K mg base A outer s H) (hl:vs.length=ps.length) (r:Vals vs us)
  (x:InCallC s s.heap.objs.size (bindL (envOfC qual scope s.heap.objs.size f cd).kindOf (ps.zip us) fun _=>none) (cellsFrom (s.heap.objs.size+1) scope.names []) (bindC (envOfC qual scope s.heap.objs.size f cd).kindOf (ps.zip us) fun _=>none) s1) :
  Inv (jF CX P w K mg base N qual scope f cd A outer s H E) [] (start N vs) H s1:=by
 have hpl:ps.length≤N.length:=by have:=congrArg List.length S.pre;rw[JA]at this;omega
 obtain⟨h1,tk,rfl,hk⟩:=x.done;have noA:∀b:Addr,b∉(jF CX P w K mg base N qual scope f cd A outer s H E).ex:=fun b z=>absurd (show b∈([]:List Addr)from z) (by simp);refine⟨⟨e0.mod,S.kind,rfl,rfl,IS _,fun y z c h1 h2=>?_,fun y hy=>?_,fun y c _ h=>?_,fun _=>hd,Around.frames_deeper e0.frames,.inr ⟨rfl,rfl⟩,fun b z=>absurd z (noA b),e0.bs,e0.bsz,fun b _ _=>noA b,fun b z=>absurd z (noA b),e0.funs,e0.frf⟩,
  rfl,e0.bare,Un.kept hk,⟨_,x.toInCall.ns,fun i y v h1 h2 h3=>?_⟩,fun y c h=>⟨_,x.cell y c h⟩,e0.hok.fresh (IS _),fun y c h=>?_,fun p hp=>absurd (show p∈([]:List (Addr×Obj))from hp) (by simp),e0.hok.kept hk,?_⟩
 ·exact name_of_addr x.apart (PySem.mem_of_lookup h1) (PySem.mem_of_lookup h2)
 ·have hy:scope.names.lookup y=some .cell∨scope.names.lookup y=some .free:=hy;rcases hy with hy | hy
  ·exact md hy
  ·exact absurd rfl (S.nofree _ (PySem.mem_of_lookup hy))
 ·exact Nat.le_of_lt (x.above y c (PySem.mem_of_lookup h))
 ·have hi:i<vs.length:=by
   unfold start at h2;by_cases hi:i<vs.length
   ·exact hi
   ·rw[Kx (by simpa using hi)]at h2;rw[List.getElem?_replicate]at h2;split at h2<;>cases h2
  have ha:vs[i]?=some v:=by
   unfold start at h2;rw[Kj (by simpa using hi),IV]at h2;cases e:vs[i]? with
   | none=>rw[e]at h2;cases h2
   | some a=>rw[e]at h2;cases h2;rfl
  obtain⟨u,hu,rv⟩:=r.get ha;have hp:ps[i]?=some y:=by
   rw[←S.pre,List.getElem?_take_of_lt (by omega)];exact h1
  have ndP:ps.Nodup:=by rw[←S.pre];exact S.nd.sublist (List.take_sublist _ _)
  refine⟨u,rv,?_⟩;rcases S.par y (Ja hp)with k | k
  ·exact .inl ⟨k,kf ndP hp hu k⟩
  ·obtain⟨c,e⟩:=md (n:=s.heap.objs.size+1) k;refine .inr ⟨.inl k,c,e,?_⟩;have q:=x.cell y c e;rw[kv ndP hp hu (by show scope.names.lookup y≠_;rw[k];decide)]at q;exact q
 ·exact e0.hok.fresh (Nat.le_of_lt (x.above y c (PySem.mem_of_lookup h)))
 ·unfold start;show _=N.length;rw[II,kb,Km];omega
theorem zg{K:PySem.W.Frag}{dV kV doc pm cdv ct oc:Value}
     (lk:K.lookup f=some ⟨oc,od,.func (PySem.W.fnOf name qual params body scope dV kV doc pm an cdv ct),osl⟩) (hcd:PySem.W.codeIn K cdv qual=true) (S:ax N ps scope)
  (len:∀vs H Q E,sp vs H Q E->vs.length=ps.length)
  (hbody:∀(A:Around) (outer:List Env) (s:Shared) (H:Hp) (vs:List V) (Q:VK) (E:XK),bG k (A.deeper (envOfC qual scope s.heap.objs.size f cdv))->sp vs H Q E ->
   ∃t,PSs (jF CX P w K mg base N qual scope f cdv A outer s H E) body t/\t { nx:=fun _ H'=>Q .non H',rt:=Q } (start N vs) H) :
  f9 P w K mg base CX (k+1) f (PySem.W.fnOf name qual params body scope dV kV doc pm an cdv ct) ps sp:=by
 refine⟨len,fun A outer s H args us vs Q E hr e0 hb r hsp=>?_⟩;have hl:=len _ _ _ _ hsp;have KX:K.In s.heap:=e0.mod.kin.keeps fun b o e=>(e0.bs b o e).1;have lim:s.heap.NoLimit:=e0.mod.nolimit.keeps fun b o e=>(e0.bs b o e).1;have hkind:∀y∈ps.zip us,scope.names.lookup y.1=some .local∨(scope.names.lookup y.1=some .cell/\((cellsFrom (s.heap.objs.size+1) scope.names []).lookup y.1).isSome=true):=fun y_ hy=>by
  obtain⟨n,v⟩:=y_;rcases S.par n (List.of_mem_zip hy).1 with q | q
  ·exact .inl q
  ·exact .inr ⟨q,PySem.W.cellsFrom_some _ _ _ (.inl q)⟩
 refine codeAny_call_function hr.depth (KX _ _ lk) rfl S.co S.gen rfl (PySem.W.codeRec_of KX hcd) (hb _ _ _ _ ?_);refine wpAny_newFunctionEnv_cells S.kind hkind fun env he s1 x=>?_;subst he;refine⟨lim.keeps x.toInCall.keep,codeAny_func ?_⟩;obtain⟨t,ht,hq⟩:=hbody A outer s H vs Q E (hr.deeper _) hsp;have I:Inv (jF CX P w K mg base N qual scope f cdv A outer s H E) [] (start N vs) H s1:=jP S hr.hd e0 hl r x;refine KH (ht [] s1 (start N vs) H _ I hq) (fun fl s' hs=>?_) fun e s' hs=>hs;have fin:∀{σ':St} {H':Hp} {v:V} {u:Value},Inv (jF CX P w K mg base N qual scope f cdv A outer s H E) [] σ' H' s'->RelV v u->Q v H'->CE outer P w H s Q u s' :=
  fun {σ' H' v u} J rv q=>⟨v,H',J.os,J.bare,J.base,J.hok,rv,q⟩
 cases fl with
 | ret u =>
  obtain⟨v,σ',H',J,rv,q⟩:=hs;exact fin J rv q
 | next =>
  obtain⟨σ',H',J,q⟩:=hs;exact fin (v:=V.non) (u:=Value.none) J rfl q
 | brk =>
  obtain⟨_,_,_,q⟩:=hs;exact False.elim q
 | cont =>
  obtain⟨_,_,_,q⟩:=hs;exact False.elim q
end
section
section
variable {X:Cx}{x:Str}{p pos:Pos}{e:Expr}{es:List Expr}{t:TA}{id T:String}{r:List V->Hp->VK->Prop}
def tCB(r:List V->Hp->VK->Prop)(t:TA):TE:=fun σ H Q=>t σ H fun vs H1=>r vs H1 Q
theorem dZ(hc:cf X (.builtin id) r)(hg:Gl X x)(hm:X.mg x=none)(hv:bootBuiltins x=some (.builtin id))(ha:PA X (e::es) t)(hn:x≠"__name__":=by decide)(hdb:(x==("__debug__":Str))=false:=by decide)
  (he:starEach (e::es) X.env=(false,eval e X.env)::starEach es X.env:=by rfl) (hpl:(backTo pos (starEach es X.env)).any (·.1)=false:=by rfl):PE X (.Call (.Name x p) (e::es) [] pos) (tCB r t):=by
 intro pins s σ H Q I h;refine Kq (cO I hg hm hv ?_ hn hdb);exact PyProof.Rows.callWith_builtin1 (thn (ha pos pins s σ H _ I h) fun us s1 y_=>by obtain⟨vs,H1,I1,r1,q1⟩:=y_;exact hc pins s1 σ H1 vs us Q I1 r1 q1) he hpl
theorem eU(hc:cf X (.type T) r)(hg:Gl X x)(hm:X.mg x=none)(hv:bootBuiltins x=some (.type T))(ha:PA X (e::es) t)(hn:x≠"__name__":=by decide)(hdb:(x==("__debug__":Str))=false:=by decide)
  (he:starEach (e::es) X.env=(false,eval e X.env)::starEach es X.env:=by rfl) (hpl:(backTo pos (starEach es X.env)).any (·.1)=false:=by rfl):PE X (.Call (.Name x p) (e::es) [] pos) (tCB r t):=by
 intro pins s σ H Q I h;refine Kq (cO I hg hm hv ?_ hn hdb);exact JJ (thn (ha pos pins s σ H _ I h) fun us s1 y_=>by obtain⟨vs,H1,I1,r1,q1⟩:=y_;exact hc pins s1 σ H1 vs us Q I1 r1 q1) he hpl
end
end
end L2
namespace HT
def lexLt:List Int->List Int->Bool
 | [],[]=>false
 | [],_::_=>true
 | _::_,[]=>false
 | x::xs,y::ys=>if x=y then lexLt xs ys else decide (x<y)
theorem dN(x y:Int)(xs ys:List Int):lexLt (x::xs) (y::ys)=if x=y then lexLt xs ys else decide (x<y):=rfl
theorem jD:lexLt [] []=false:=rfl
theorem jl(y:Int)(ys:List Int):lexLt [] (y::ys)=true:=rfl
theorem jt(x:Int)(xs:List Int):lexLt (x::xs) []=false:=rfl
theorem tK(A:Around)(s:Shared)(a:Int)(t:Tok)(c:Int)(u:Tok):∃e,SeqAt.EqAt A s (.int a t) (.int c u) e/\(e=true↔a=c) :=
 ⟨(a==c),SeqAt.EqAt.int_int a t c u,by simp⟩
theorem uA(A:Around)(s:Shared)(a:Int)(t:Tok)(c:Int)(u:Tok)(prog:Program)(w:World)(E:Value->Shared->Prop)(Q:Value->Shared->Prop)(h:Q (.bool (decide (a<c))) s) :
  wpAny (model prog w) A (richCompare .Lt (.int a t) (.int c u)) Q E s :=
 (PyProof.Rows.lt_int h:wpAny (model prog w) A (compareOp .Lt (.int a t) (.int c u)) Q E s)
section
open PySem.SeqAt
open PySem.AutoSeq1 (wpAny_loadPart')
open PySem.MeetsSeq PySem.MeetsSeq2 PySem.MeetsSeq3
theorem jB(l b:Addr)(items items2:Array Value)(n n2:Nat)(dd dd2:Option Addr)(sl sl2:Array (Option Value))(ns ms:List Int)(hi:IntsAre items.toList ns)(hj:IntsAre items2.toList ms) :
  Meets (Builtin.«tuple.__lt__» ⟨[.ref l,.ref b],[]⟩)
   (fun _ R s=>s.heap.get? l=some { cls:=.type "tuple",dict:=dd,data:=.seq items n,slots:=sl }/\s.heap.get? b=some { cls:=.type "tuple",dict:=dd2,data:=.seq items2 n2,slots:=sl2 } /\
    R (.ok (.ret (.bool (lexLt ns ms)))) s) :=
 .of_wp fun prog w A R s h=>by
  obtain⟨hp,g,d,tk,os⟩:=s;obtain⟨hl,hb,h⟩:=h;have f2:=AutoSeq1.sub_tuple_tuple;have z1:items.size=ns.length:=by rw[←hi.length];simp
  have z2:items2.size=ms.length:=by rw[←hj.length];simp
  wp_walk using wpAny_loadPart' hl,wpAny_loadPart' hb,wpAny_forIn_list _ (fun rest b s'=>b.1=none/\s'=⟨hp,g,d,tk,os⟩/\∃(vs ws:List Value) (ns' ms':List Int),rest=vs.zip ws /\
   IntsAre vs ns'/\IntsAre ws ms'/\ns'.length+items2.size=ms'.length+items.size/\R (.ok (.ret (.bool (lexLt ns' ms')))) ⟨hp,g,d,tk,os⟩) _
  case turn =>
   rintro⟨y,x⟩ rest b s' ⟨hb',rfl,vs,ws,ns',ms',hz,hvi,hwi,hlen,hR⟩;cases hvi with
   | nil=>rw[List.zip_nil_left]at hz;cases hz
   | cons a t hvi' =>
    cases hwi with
    | nil=>rw[List.zip_nil_right]at hz;cases hz
    | cons c u hwi' =>
     rw[List.zip_cons_cons]at hz;injection hz with hyx hrest;injection hyx with hy hx;subst hy hx;rw[dN]at hR;simp only[Jg]at hlen;obtain⟨e,he,hiff⟩:=tK A.in1 ⟨hp,g,d,tk,os⟩ a t c u;refine IC (he prog w _ _ ?_);cases e with
     | true =>
      rw[IZ (hiff.mp rfl)]at hR
      wp_walk
      exact⟨rfl,rfl,_,_,_,_,hrest,hvi',hwi',by omega,hR⟩
     | false =>
      rw[IX (fun q=>absurd (hiff.mpr q) KW)]at hR;have hri:=uA A.in1 ⟨hp,g,d,tk,os⟩ a t c u prog w
      wp_walk using hri
      exact⟨_,rfl,by simpa using hR⟩
  case fin =>
   rintro⟨b1,b2⟩ s' ⟨hb',rfl,vs,ws,ns',ms',hz,hvi,hwi,hlen,hR⟩;simp only at hb';subst hb';have hv:lexLt ns' ms'=decide (items.size<items2.size):=by
    cases hvi with
    | nil =>
     cases hwi with
     | nil =>
      simp only[JU]at hlen;rw[jD];exact(J2 (by omega)).symm
     | cons c u hw =>
      simp only[JU,Jg]at hlen;rw[jl];exact(JE (by omega)).symm
    | cons a t hv =>
     cases hwi with
     | nil =>
      simp only[JU,Jg]at hlen;rw[jt];exact(J2 (by omega)).symm
     | cons c u hw =>
      rw[List.zip_cons_cons]at hz;cases hz
   rw[hv]at hR
   wp_walk
   exact⟨_,rfl,by simpa[Builtin.Tuple.tupleCompareSizes]using hR⟩
  case h =>
   exact⟨rfl,rfl,items.toList,items2.toList,ns,ms,rfl,hi,hj,by omega,h⟩
end
section
variable {prog:Program}{w:World}{A:Around}{E:Value->Shared->Prop}{s:Shared}
theorem oE(hl:IsTup s.heap l items)(hb:IsTup s.heap b items2)(hi:IntsAre items.toList ns)(hj:IntsAre items2.toList ms)
  (hu:A.units<cLine) (h:Q (.bool (lexLt ns ms)) s):wpAny (model prog w) A (compareOp .Lt (.ref l) (.ref b)) Q E s:=by
 obtain⟨⟨cls,dd,data,sl⟩,ho,hc,n,hd⟩:=id hl;obtain⟨⟨cls2,dd2,data2,sl2⟩,ho2,hc2,n2,hd2⟩:=id hb;simp only at hc hd hc2 hd2;subst hc hd hc2 hd2;exact richCompare_meets_room (op:=.Lt) ⟨_,ho,rfl⟩ ⟨_,ho2,rfl⟩ PySem.F.slot_tuple_lt PySem.F.entry_tuple_lt (PySem.F.args_tuple_lt_2 _ _) (jB l b items items2 n n2 dd dd2 sl sl2 ns ms hi hj)
  ⟨ho,ho2,show Value.bool (lexLt ns ms)≠Value.notImplemented/\Q (.bool (lexLt ns ms)) s from⟨(fun x=>nomatch x),h⟩⟩ hu
theorem wQ(ht:IsTup s.heap t vs.toArray)(hb:IsTup s.heap b ws.toArray)(hv:vs≠[])
  (h1:ws=[]->Q (.ref t) s) (h2:ws≠[]->Q (.ref s.heap.objs.size) { s with heap:=s.heap.push { cls:=.type "tuple",data:=.seq (vs++ws).toArray } })
  (hsz:vs.length+ws.length≤sizeLine):wpAny (model prog w) A (binaryOp .Add (.ref t) (.ref b)) Q E s:=by
 obtain⟨⟨cls,dd,data,sl⟩,ho,hc,n,hd⟩:=id ht;obtain⟨⟨cls2,dd2,data2,sl2⟩,ho2,hc2,n2,hd2⟩:=id hb;simp only at hc hd hc2 hd2;subst hc hd hc2 hd2;have e:vs.toArray++ws.toArray=(vs++ws).toArray:=by simp
 by_cases hw:ws=[]
 ·exact concat_meets ⟨_,ho,rfl⟩ ⟨_,ho2,rfl⟩ noFill_tuple_add seq_tuple_add PySem.F.slot_tuple_add PySem.F.entry_tuple_add (PySem.F.args_tuple_add_2 _ _)
   (tuple_addW1 t b vs.toArray ws.toArray n n2 dd dd2 sl sl2 (by simpa using hv) (by simp[hw])) ⟨ho,ho2,h1 hw⟩
 ·refine concat_meets ⟨_,ho,rfl⟩ ⟨_,ho2,rfl⟩ noFill_tuple_add seq_tuple_add PySem.F.slot_tuple_add PySem.F.entry_tuple_add (PySem.F.args_tuple_add_2 _ _)
   (tuple_addW2 t b vs.toArray ws.toArray n n2 dd dd2 sl sl2 (by simpa using hv) (by simpa using hw) (by rw[IL,IL];exact hsz)) ⟨ho,ho2,?_⟩
  rw[e];exact h2 hw
def sIx(n d:Nat):Option Int->Nat
 | none=>d
 | some v=>if v<0 then(v+(n:Int)).toNat else min v.toNat n
theorem iY(n d:Nat):sIx n d none=d:=rfl
theorem xE(n d k:Nat):sIx n d (some (k:Int))=min k n:=by
 show(if (k:Int)<0 then((k:Int)+(n:Int)).toNat else min (k:Int).toNat n)=min k n;rw[IX (by omega),Jq]
theorem Bn(n d:Nat)(hd:d≤n)(o:Option Int):sIx n d o≤n:=by
 cases o with
 | none=>exact hd
 | some v =>
  show(if v<0 then(v+(n:Int)).toNat else min v.toNat n)≤n;by_cases hv:v<0
  ·rw[IZ hv];omega
  ·rw[IX hv];exact Nat.min_le_right _ _
theorem qA(v:Int)(n d:Nat):(if v<0 then max (v+(n:Int)) 0 else min v (n:Int))=((sIx n d (some v):Nat):Int):=by
 show(if v<0 then max (v+(n:Int)) 0 else min v (n:Int))=(((if v<0 then(v+(n:Int)).toNat else min v.toNat n):Nat):Int);by_cases hv:v<0
 ·simp only[IZ hv];omega
 ·simp only[IX hv];omega
theorem nK(lo hi:Option Int)(n:Nat):Builtin.Slice.sliceAdjust lo hi 1 (n:Int)=(((sIx n 0 lo:Nat):Int),((sIx n n hi:Nat):Int)):=by
 have h1:¬((1:Int)<0):=by omega
 unfold Builtin.Slice.sliceAdjust;simp only[h1,if_false];refine Prod.ext ?_ ?_
 ·cases lo with
  | none=>rfl
  | some v=>exact qA v n 0
 ·cases hi with
  | none=>rfl
  | some v=>exact qA v n n
theorem nZ(i j:Nat):Builtin.Slice.slicePlaces (i:Int) (j:Int) 1=j - i:=by
 unfold Builtin.Slice.slicePlaces;have h1:(1:Int)>0:=by omega
 simp only[h1,if_true,Int.ediv_one];split<;>omega
theorem jm(p:IsPart v o)(h:Q o s):wpAny (model prog w) A (Builtin.Slice.slicePartIndex v) Q E s:=by
 cases p with
 | none=>exact slicePart_none h
 | int i t=>exact slicePart_int h
theorem dj{sl:Addr}{vl vu:Value}{lo hi:Option Int}{n:Nat}(hs:s.heap.IsSliceOf sl vl vu .none)(pl:IsPart vl lo)(pu:IsPart vu hi)
  (h:Q (((sIx n 0 lo:Nat):Int),1,sIx n n hi - sIx n 0 lo) s):wpAny (model prog w) A (Builtin.Slice.sliceApplied (.ref sl) (pure (n:Int))) Q E s:=by
 obtain⟨os,hos,hcs,hds⟩:=id hs;unfold Builtin.Slice.sliceApplied Builtin.Slice.sliceFields;refine IC (IC (wpAny_field hos hds (x:=vl) rfl (IC (wpAny_field hos hds (x:=vu) rfl (IC (wpAny_field hos hds (x:=.none) rfl (IH ?_)))))));refine IC (slicePart_none ?_);show wpAny _ _ (if ((1:Int)==0)=true then _ else _) _ _ s;rw[IX (by decide)];refine IC (jm pl (IC (jm pu (IC (IH ?_)))));show wpAny _ _ (match Builtin.Slice.sliceAdjust lo hi 1 (n:Int)with |(lo,hi)=>pure (lo,(1:Int),Builtin.Slice.slicePlaces lo hi 1)) _ _ s;rw[nK lo hi n];show wpAny _ _ (pure (((sIx n 0 lo:Nat):Int),(1:Int),Builtin.Slice.slicePlaces ((sIx n 0 lo:Nat):Int) ((sIx n n hi:Nat):Int) 1)) _ _ s;rw[nZ];exact IH h
theorem su(xs:Array Value)(i k:Nat):((List.range k).filterMap fun(m:Nat)=>xs[((i:Int)+(m:Int)*1).toNat]?).toArray=((xs.toList.drop i).take k).toArray:=by
 have e:(fun(m:Nat)=>xs[((i:Int)+(m:Int)*1).toNat]?)=fun m=>xs[i+m]?:=by
  funext m;have:((i:Int)+(m:Int)*1).toNat=i+m:=by omega
  rw[this]
 rw[e];have:=pick_run xs i k;rw[List.filterMap_map]at this;have e2:((fun x=>xs[x]?) ∘ fun x=>i+x)=fun m=>xs[i+m]?:=rfl;rw[e2]at this;rw[this]
theorem fK{lo hi:Option Int}(ht:IsTup s.heap t items)(hs:s.heap.IsSliceOf sl vl vu .none)(pl:IsPart vl lo)(pu:IsPart vu hi)
  (hw:¬(sIx items.size 0 lo=0/\sIx items.size items.size hi=items.size))
  (h:Q (.ref s.heap.objs.size) { s with heap:=s.heap.push { cls:=.type "tuple",data:=.seq ((items.toList.drop (sIx items.size 0 lo)).take (sIx items.size items.size hi - sIx items.size 0 lo)).toArray } })
  (hsz:items.size≤sizeLine):wpAny (model prog w) A (getItem (.ref t) (.ref sl)) Q E s:=by
 have htake:sizeOk (.seq ((items.toList.drop (sIx items.size 0 lo)).take (sIx items.size items.size hi - sIx items.size 0 lo)).toArray):=by
  show((items.toList.drop (sIx items.size 0 lo)).take (sIx items.size items.size hi - sIx items.size 0 lo)).toArray.size≤sizeLine;rw[IL,JA,KR,J0];omega
 have hj:sIx items.size items.size hi≤items.size:=Bn _ _ (IS _) hi;obtain⟨os,hos,hcs,hds⟩:=id hs;have hTs:s.TypeIs (.ref sl) "slice":=⟨os,hos,hcs⟩;unfold getItem
 try with_reducible refine JT ?_
 first | refine IC (IH ?_) | skip
 refine IC (wpAny_sequenceKey ht.typeIs (by decide) ?_);refine IC (Kt (name:=Str.ofString "__getitem__") ht.typeIs PyProof.Rows.slot_tuple_getitem
  (J4 PyProof.Rows.slot_tuple_getitem ht.typeIs entry_tuple_getitem ?_ (args_tuple_getitem _ _)))
 show wpAny _ _ (Builtin.Tuple.tupleItemsOf (.ref t) >>= _) _ _ s;refine IC (tupleItemsOf_ ht ?_);refine IC (wpAny_typeOf hTs ?_);rw[IZ (by decide)];refine IC (dj hs pl pu ?_);have hno:¬((((sIx items.size 0 lo:Nat):Int)==0&&(1:Int)==1&&(sIx items.size items.size hi - sIx items.size 0 lo)==items.size)=true):=by
  intro q;rw[Ku,Ku]at q;have q1:((sIx items.size 0 lo:Nat):Int)=0:=eq_of_beq q.1.1;have q2:sIx items.size items.size hi - sIx items.size 0 lo=items.size:=eq_of_beq q.2;exact hw ⟨by omega,by omega⟩
 show wpAny _ _ (if (((sIx items.size 0 lo:Nat):Int)==0&&(1:Int)==1&&(sIx items.size items.size hi - sIx items.size 0 lo)==items.size)=true then _ else _) _ _ s;rw[IX hno,su]
 first
  | exact IC (m:=Builtin.Tuple.tupleExact _) (JI (IH ⟨_,rfl,IH h⟩) htake)
  | exact IC (m:=Builtin.Tuple.tupleExact _) (JI (IC (IH (IH ⟨_,rfl,IH h⟩))) htake)
  | exact IC (IC (m:=Builtin.Tuple.tupleExact _) (JI (IH (IH ⟨_,rfl,IH h⟩)) htake))
  | exact IC (IC (m:=Builtin.Tuple.tupleExact _) (JI (IH ⟨_,rfl,IH h⟩) htake))
end
end HT
namespace L2
section
abbrev TO:=St->Hp->(Option Int->Hp->Prop)->Prop
def PO(X:Cx)(e:Option Expr)(t:TO):Prop :=
 ∀(pins:List (Addr×Obj)) (s:Shared) (σ:St) (H:Hp) (Q:Option Int->Hp->Prop),Inv X pins σ H s->t σ H Q ->
  wpAny (model X.prog X.w) X.A (evalPart e X.env) (fun u s'=>∃o H',Inv X pins σ H' s'/\IsPart u o/\Q o H') X.xe s
def yg:TO:=fun _ H Q=>Q none H
def C0(t:TE):TO:=fun σ H Q=>t σ H fun x H1=>∃i,x=.int i/\Q (some i) H1
section
variable {X:Cx}{e:Expr}{te:TE}{lo hi:Option Expr}{tl th:TO}{pos p2:Pos}
theorem xi:PO X none yg:=by
 intro pins s σ H Q I h;rw[evalPart_none];exact IH ⟨none,H,I,.none,h⟩
theorem wK(h:PE X e te):PO X (some e) (C0 te):=by
 intro pins s σ H Q I hw;rw[evalPart_some];refine thn (h pins s σ H _ I hw) fun u s1 y_=>?_;obtain⟨x,H1,I1,r1,q1⟩:=y_;obtain⟨i,rfl,q⟩:=q1;obtain⟨t,rfl⟩:=r1;exact⟨some i,H1,I1,.int i t,q⟩
def SlR(X:Cx)(r:V->Option Int->Option Int->Hp->VK->Prop):Prop :=
 ∀(pins:List (Addr×Obj)) (s:Shared) (σ:St) (H:Hp) (x:V) (v vl vu:Value) (lo hi:Option Int) (sl:Addr) (Q:VK),Inv X pins σ H s->RelV x v->s.heap.IsSliceOf sl vl vu .none->IsPart vl lo->IsPart vu hi->r x lo hi H Q ->
  ∃T id,typeLookup (.type T) "__getitem__"=pure (some (.builtin id))/\s.TypeIs v T/\wpAny (model X.prog X.w) X.A (getItem v (.ref sl)) (EP X pins σ Q) X.xe s
theorem SlR.or(h:SlR X r)(h':SlR X r'):SlR X (fun x lo hi H Q=>r x lo hi H Q∨r' x lo hi H Q):=by
 intro pins s σ H x v vl vu lo hi sl Q I rx hs pl pu q;rcases q with q | q
 ·exact h pins s σ H x v vl vu lo hi sl Q I rx hs pl pu q
 ·exact h' pins s σ H x v vl vu lo hi sl Q I rx hs pl pu q
def tSl(r:V->Option Int->Option Int->Hp->VK->Prop)(te:TE)(tl th:TO):TE:=fun σ H Q=>te σ H fun x H1=>tl σ H1 fun l H2=>th σ H2 fun u H3=>r x l u H3 Q
theorem nh(hr:SlR X r)(he:PE X e te)(hl:PO X lo tl)(hu:PO X hi th):PE X (.Subscript e (.Slice lo hi none p2) pos) (tSl r te tl th):=by
 intro pins s σ H Q I h;refine Subscript_ (thn (he pins s σ H _ I h) fun v s1 y_=>?_);obtain⟨x,H1,I1,r1,q1⟩:=y_;refine wpAny_Slice (thn (hl pins s1 σ H1 _ I1 q1) fun vl s2 ⟨l,H2,I2,pl,q2⟩=>thn (hu pins s2 σ H2 _ I2 q2) fun vu s3 y_=>?_);obtain⟨u,H3,I3,pu,q3⟩:=y_;rw[evalPart_none];refine IH ?_;have I4:Inv X pins σ H3 { s3 with heap:=s3.heap.push { cls:=.type "slice",data:=.fields #[vl,vu,.none] } }:=I3.kept (t':=s3.toks) fun b ob q=>IG _ q;obtain⟨T,id,hT,ht,hg⟩:=hr pins { s3 with heap:=s3.heap.push { cls:=.type "slice",data:=.fields #[vl,vu,.none] } } σ H3 x v vl vu l u s3.heap.objs.size Q I4 r1 (Heap.IsSliceOf.new ..) pl pu q3;show wpAny (model X.prog X.w) X.A (subscriptTail e (.Slice lo hi none p2) v (.ref s3.heap.objs.size)) (EP X pins σ Q) X.xe { s3 with heap:=s3.heap.push { cls:=.type "slice",data:=.fields #[vl,vu,.none] } };exact tail_any (ops:=[.ref s3.heap.objs.size,v]) ht hT hg (by with_unfolding_all rfl)
def k6(xs:List V)(lo hi:Option Int):List V:=(xs.drop (HT.sIx xs.length 0 lo)).take (HT.sIx xs.length xs.length hi - HT.sIx xs.length 0 lo)
theorem ib(xs:List V)(lo hi:Option Int):(k6 xs lo hi).length≤xs.length:=by
 unfold k6;rw[JA,KR];omega
def FP(K:PySem.W.Frag):V->Option Int->Option Int->Hp->VK->Prop:=fun x lo hi H Q=>∃a xs,x=.ref a/\SqT K H a xs /\
 ¬(HT.sIx xs.length 0 lo=0/\HT.sIx xs.length xs.length hi=xs.length)/\∀p,H p=none->Q (.ref p) (upd H p (.tup (k6 xs lo hi)))
theorem uZ:SlR X (FP X.K):=by
 intro pins s σ H x v vl vu lo hi sl Q I rx hs pl pu h;obtain⟨a,xs,rfl,hx,hw,q⟩:=h;cases rx;obtain⟨its,r,ht,hz⟩:=I.tuple hx;have hlen:its.toArray.size=xs.length:=by rw[IL];exact r.length.symm
 refine⟨"tuple",_,PyProof.Rows.slot_tuple_getitem.lookup,ht.typeIs,?_⟩;refine HT.fK ht hs pl pu (by rw[hlen];exact hw) ?_ (by rw[hlen];exact hz);rw[hlen];refine⟨.ref s.heap.objs.size,_,I.laid (t':=s.toks) (o:=.tup (k6 xs lo hi)) (fun b ob q=>IG _ q) (IS _) ?_,rfl,q _ (I.hok.fresh (IS _))⟩;exact⟨Jl (ib xs lo hi) hz,_,(r.drop (HT.sIx xs.length 0 lo)).take (HT.sIx xs.length xs.length hi - HT.sIx xs.length 0 lo),IsTup.new _ _⟩
def Er(K:PySem.W.Frag):R2:=fun x y H Q=>∃a b xs ys,x=.ref a/\y=.ref b/\SqT K H a xs/\SqT K H b ys/\xs≠[]/\xs.length+ys.length≤sizeLine /\
 (ys=[]->Q (.ref a) H)/\(ys≠[]->∀p,H p=none->Q (.ref p) (upd H p (.tup (xs++ys))))
theorem Vals.nil_iff(r:Vals xs us):us=[]↔xs=[]:=by
 cases r with
 | nil=>simp
 | cons _ _=>simp
theorem xo:OpR X (binaryOp .Add) (Er X.K):=by
 intro pins s σ H x y v u Q I rx ry h;obtain⟨a,b,xs,ys,rfl,rfl,ha,hb,hx,hz,q1,q2⟩:=h;cases rx;cases ry;obtain⟨its,r1,p1,_⟩:=I.tuple ha;obtain⟨its2,r2,p2,_⟩:=I.tuple hb;refine HT.wQ p1 p2 (fun z=>hx (r1.nil_iff.mp z)) (fun z=>⟨.ref a,H,I,rfl,q1 (r2.nil_iff.mp z)⟩) (fun z=>?_) (by rw[←r1.length,← r2.length];exact hz);refine⟨.ref s.heap.objs.size,_,I.laid (t':=s.toks) (o:=.tup (xs++ys)) (fun b ob q=>IG _ q) (IS _) ?_,rfl,q2 (fun w=>z (r2.nil_iff.mpr w)) _ (I.hok.fresh (IS _))⟩;exact⟨by rw[II];exact hz,_,r1.append r2,IsTup.new _ _⟩
end
end
section
def ixN(n:Nat)(i:Int):Option Nat:=if 0≤i then(if i<n then some i.toNat else none)else if -(n:Int)≤i then some (i+n).toNat else none
def atI{α:Type}(xs:List α)(i:Int):Option α:=(ixN xs.length i).bind fun j=>xs[j]?
theorem pM(h:ixN n i=some j):seqIndex? i n=some j/\j<n/\-(n:Int)≤i/\i<n:=by
 unfold ixN at h;by_cases h0:0≤i
 ·rw[IZ h0]at h;by_cases h1:i<n
  ·rw[IZ h1]at h;have e:i.toNat=j:=Js h;exact⟨by rw[seqIndex_of h0 h1,e],by omega,by omega,h1⟩
  ·rw[IX h1]at h;cases h
 ·rw[IX h0]at h;by_cases h1:-(n:Int)≤i
  ·rw[IZ h1]at h;have e:(i+n).toNat=j:=Js h;exact⟨by rw[seqIndex_neg (by omega) h1,e],by omega,h1,by omega⟩
  ·rw[IX h1]at h;cases h
theorem qm{xs:List α}{v:α}(h:atI xs i=some v):∃j,seqIndex? i xs.length=some j/\xs[j]?=some v/\j<xs.length/\-(xs.length:Int)≤i/\i<xs.length:=by
 unfold atI at h;cases e:ixN xs.length i with
 | none=>rw[e]at h;cases h
 | some j =>
  rw[e]at h;obtain⟨h1,h2,h3,h4⟩:=pM e;exact⟨j,h1,h,h2,h3,h4⟩
def lr(b:Expr):Prop:=∀o i,subscripted b false o i=operate [o,i] (getItem o i)
def IxR(X:Cx)(r:R2):Prop :=
 ∀(value slice:Expr) (pins:List (Addr×Obj)) (s:Shared) (σ:St) (H:Hp) (x y:V) (v u:Value) (Q:VK),Inv X pins σ H s->RelV x v->RelV y u->r x y H Q ->
  subscripted slice false v u=operate [v,u] (getItem v u)->wpAny (model X.prog X.w) X.A (subscriptTail value slice v u) (EP X pins σ Q) X.xe s
def MtR(X:Cx)(id:String)(r:V->List V->Hp->VK->Prop):Prop :=
 ∀(pins:List (Addr×Obj)) (s:Shared) (σ:St) (H:Hp) (x:V) (xs:List V) (v:Value) (us:List Value) (Q:VK),Inv X pins σ H s->RelV x v->Vals xs us->r x xs H Q ->
  wpAny (model X.prog X.w) X.A (call (.builtin id) (v::us)) (EP X pins σ Q) X.xe s
section
variable {X:Cx}{a b:Expr}{ta tb:TE}{pos:Pos}
theorem IxR.or(h:IxR X r)(h':IxR X r'):IxR X (fun x y H Q=>r x y H Q∨r' x y H Q):=by
 intro value slice pins s σ H x y v u Q I rx ry q hs;rcases q with q | q
 ·exact h value slice pins s σ H x y v u Q I rx ry q hs
 ·exact h' value slice pins s σ H x y v u Q I rx ry q hs
theorem Dp(hr:IxR X r)(ha:PE X a ta)(hb:PE X b tb)(hs:lr b):PE X (.Subscript a b pos) (tOp r ta tb):=by
 intro pins s σ H Q I h;exact Subscript_ (Bt ha hb I h fun v u s2 x y H2 I2 rx ry q=>hr a b pins s2 σ H2 x y v u Q I2 rx ry q (hs _ _))
def Be(K:PySem.W.Frag):R2:=fun x y H Q=>∃p xs i v,x=.ref p/\y=.int i/\SqL K H p xs/\atI xs i=some v/\Q v H
def BV(K:PySem.W.Frag):R2:=fun x y H Q=>∃p xs i v,x=.ref p/\y=.int i/\SqT K H p xs/\atI xs i=some v/\Q v H
theorem wo:IxR X (Be X.K):=by
 intro value slice pins s σ H x y v u Q I rx ry h hs;obtain⟨p,xs,i,z,rfl,rfl,hq,he,q⟩:=h;cases rx;obtain⟨t,rfl⟩:=ry;obtain⟨its,r,pl,hz⟩:=I.list hq;obtain⟨j,h1,h2,h3,h4,h5⟩:=qm he;obtain⟨w,ew,rw'⟩:=r.get h2;have hl:=r.length;have hn:=gQ;have fin:EP X pins σ Q w s:=⟨z,H,I,rw',q⟩;by_cases h0:0≤i
 ·have hj:i.toNat=j:=by
   rw[seqIndex_of h0 h5]at h1;exact Js h1
  exact item_listR pl.isList h0 (by omega) (by rw[hj];simpa using ew) fin hs
 ·have hj:(i+(its.toArray.size:Int)).toNat=j:=by
   rw[seqIndex_neg (by omega) h4]at h1;rw[IL,← hl];exact Js h1
  exact subscriptTail_builtinR (x:=w) pl.isList.typeIs slot_list_getitem.lookup
   (wpAny_getItem_list_neg (Q:=fun r s'=>r=w/\EP X pins σ Q r s') pl.isList (by omega) (by rw[IL]<;>omega) (by omega) (by rw[hj];simpa using ew) ⟨rfl,fin⟩) hs
theorem A9:IxR X (BV X.K):=by
 intro value slice pins s σ H x y v u Q I rx ry h hs;obtain⟨p,xs,i,z,rfl,rfl,hq,he,q⟩:=h;cases rx;obtain⟨t,rfl⟩:=ry;obtain⟨its,r,pl,hz⟩:=I.tuple hq;obtain⟨j,h1,h2,h3,h4,h5⟩:=qm he;obtain⟨w,ew,rw'⟩:=r.get h2;have hl:=r.length;have hn:=gQ;have fin:EP X pins σ Q w s:=⟨z,H,I,rw',q⟩;exact subscriptTail_builtinR (x:=w) pl.typeIs slot_tuple_getitem.lookup
  (getItem_tuple (j:=j) (Q:=fun r s'=>r=w/\EP X pins σ Q r s') pl (by omega) (by omega) (by rw[IL,← hl];exact h1) (by simpa using ew) ⟨rfl,fin⟩) hs
theorem oJ(its:List Value)(n j:Nat)(u:Value):Obj.mapSeq (·.setIfInBounds j u) { cls:=.type "list",data:=.seq its.toArray n }={ cls:=.type "list",data:=.seq (its.set j u).toArray n }:=by
 simp[Obj.mapSeq]
theorem Inv.lst{pins:List (Addr×Obj)}{σ:St}{H:Hp}{s:Shared}{p:Addr}{xs:List V}(I:Inv X pins σ H s)(h:H p=some (.lst xs)) :
  ∃(its:List Value) (n:Nat),Vals xs its/\s.heap.get? p=some { cls:=.type "list",data:=.seq its.toArray n }/\xs.length≤sizeLine:=by
 obtain⟨z,its,n,r,e⟩:=I.hok p _ h;exact⟨its,n,r,e,z⟩
theorem Inv.lstUpd{σ:St}{its its':List Value}(I:Inv X pins σ H s)(h:H p=some (.lst xs))
  (ho:s.heap.get? p=some { cls:=.type "list",data:=.seq its.toArray n }) (hf:f { cls:=.type "list",data:=.seq its.toArray n }={ cls:=.type "list",data:=.seq its'.toArray n' }) (r:Vals ys its') (hz:ys.length≤sizeLine) (t:Nat) :
  Inv X pins σ (upd H p (.lst ys)) { s with heap:=s.heap.update p f,toks:=t }:=by
 have e:(s.heap.update p f).get? p=some { cls:=.type "list",data:=.seq its'.toArray n' }:=by
  rw[JX f ho (by rw[hf]<;>rfl),hf]
 refine I.write (x:=p) (e:=p) (by rw[h];trivial) (.inl rfl) (fun b u hb q=>(Heap.get?_update_other _ _ (Ne.symm hb)).trans q) ⟨_,e⟩ ?_;exact⟨hz,its',n',r,e⟩
def Ei:V->V->V->Hp->(Hp->Prop)->Prop:=fun o i v H Q=>∃p xs k j,o=.ref p/\i=.int k/\H p=some (.lst xs)/\ixN xs.length k=some j/\Q (upd H p (.lst (xs.set j v)))
theorem set_list:jC X Ei:=by
 intro pins s σ H o i v ov iv u Q I ro ri rv h;obtain⟨p,xs,k,j,rfl,rfl,hp,hj,q⟩:=h;cases ro;obtain⟨t,rfl⟩:=ri;obtain⟨its,n,r,ho,hz⟩:=I.lst hp;obtain⟨h1,h2,h3,h4⟩:=pM hj;have hl:=r.length;have hn:=gQ;have I':Inv X pins σ (upd H p (.lst (xs.set j v))) { s with heap:=s.heap.update p (Obj.mapSeq (·.setIfInBounds j u)) } :=
  I.lstUpd hp ho (oJ its n j u) (r.set rv j) (by rw[List.length_set];exact hz) s.toks
 by_cases h0:0≤k
 ·have hk:k.toNat=j:=by
   rw[seqIndex_of h0 h4]at h1;exact Js h1
  exact PySem.W.ki_setAt ho h0 (by omega) (by rw[IL,← hl];exact h4) (by rw[hk];exact⟨_,I',q⟩)
 ·have hk:(k+(its.toArray.size:Int)).toNat=j:=by
   rw[seqIndex_neg (by omega) h3]at h1;rw[IL,← hl];exact Js h1
  exact PySem.W.ki_setBack ho (by omega) (by rw[IL,← hl];exact h3) (by omega) (by rw[hk];exact⟨_,I',q⟩)
theorem kI(lo hi:Option Int)(n:Nat):(sliceBounds lo hi none n).1=((HT.sIx n 0 lo:Nat):Int)/\(sliceBounds lo hi none n).2.1=((HT.sIx n n hi:Nat):Int)/\(sliceBounds lo hi none n).2.2=1:=by
 refine⟨?_,?_,rfl⟩
 ·cases lo with
  | none=>simp[sliceBounds,HT.sIx]
  | some i =>
   simp only[sliceBounds,HT.sIx,Option.getD_none,show(1:Int)>0 by decide,if_true];by_cases h:i<0
   ·simp only[h,if_true]<;>omega
   ·simp only[h,if_false]<;>omega
 ·cases hi with
  | none=>simp[sliceBounds,HT.sIx]
  | some i =>
   simp only[sliceBounds,HT.sIx,Option.getD_none,show(1:Int)>0 by decide,if_true];by_cases h:i<0
   ·simp only[h,if_true]<;>omega
   ·simp only[h,if_false]<;>omega
theorem jE(its:List Value)(lo hi:Option Int):slicePick its.toArray lo hi none=((its.drop (HT.sIx its.length 0 lo)).take (HT.sIx its.length its.length hi - HT.sIx its.length 0 lo)).toArray:=by
 obtain⟨h1,h2,h3⟩:=kI lo hi its.toArray.size;unfold slicePick;rw[h1,h2,h3];simp only[sliceRange_one,pick_run,IL]<;>rfl
def GP(K:PySem.W.Frag):V->Option Int->Option Int->Hp->VK->Prop:=fun x lo hi H Q=>∃a xs,x=.ref a/\SqL K H a xs/\∀p,H p=none->Q (.ref p) (upd H p (.lst (k6 xs lo hi)))
theorem vN:SlR X (GP X.K):=by
 intro pins s σ H x v vl vu lo hi sl Q I rx hs pl pu h;obtain⟨a,xs,rfl,hx,q⟩:=h;cases rx;obtain⟨its,r,ht,hz⟩:=I.list hx;have hlen:=r.length;refine⟨"list",_,slot_list_getitem.lookup,ht.isList.typeIs,?_⟩;refine wpAny_getItem_list_slice ht.isList hs pl pu .none (by simp) ?_ (by rw[IL]<;>omega);rw[jE,← hlen];refine⟨.ref s.heap.objs.size,_,I.laid (t':=s.toks) (o:=.lst (k6 xs lo hi)) (fun b ob q=>IG _ q) (IS _) ?_,rfl,q _ (I.hok.fresh (IS _))⟩;exact⟨Jl (ib xs lo hi) hz,_,0,(r.drop (HT.sIx xs.length 0 lo)).take (HT.sIx xs.length xs.length hi - HT.sIx xs.length 0 lo),IT _ rfl⟩
def eqV:V->V->Bool
 | .non,.non=>true
 | .bl a,.bl b=>a==b
 | .bl a,.int b=>(if a then 1 else 0)==b
 | .int a,.bl b=>a==(if b then 1 else 0)
 | .int a,.int b=>a==b
 | .str a,.str b=>a==b
 | _,_=>false
def inV(x:V)(xs:List V):Bool:=xs.any fun y=>eqV y x
theorem ay:cf X (.builtin "len") (fun xs H Q=>∃p ys,xs=[.ref p]/\(SqL X.K H p ys∨SqT X.K H p ys)/\Q (.int ys.length) H):=by
 intro pins s σ H xs us Q I r h;obtain⟨p,ys,rfl,hq,q⟩:=h;obtain⟨u,rfl,rx⟩:=vals1 r;cases rx;have hn:=gQ;rcases hq with hq | hq
 ·obtain⟨its,r',pl,hz⟩:=I.list hq;have hlen:=r'.length;exact Calls.call_len_list pl.isList (by simp only[IL]<;>omega) ⟨.int ys.length,H,I.tok _,⟨s.toks+1,by rw[IL,hlen]⟩,q⟩
 ·obtain⟨its,r',pl,hz⟩:=I.tuple hq;have hlen:=r'.length;exact len_tuple pl (by simp only[IL]<;>omega) ⟨.int ys.length,H,I.tok _,⟨s.toks+1,by rw[IL,hlen]⟩,q⟩
theorem bM:cf X (.type "list") (fun xs H Q=>∃p ys,xs=[.ref p]/\(SqL X.K H p ys∨SqT X.K H p ys)/\∀l,H l=none->Q (.ref l) (upd H l (.lst ys))):=by
 intro pins s σ H xs us Q I r h;obtain⟨p,ys,rfl,hq,q⟩:=h;obtain⟨u,rfl,rx⟩:=vals1 r;cases rx;have fin:∀(its:List Value),Vals ys its->ys.length≤sizeLine->∀(h':Heap) (c':Nat),(∀b o',s.heap.get? b=some o'->h'.get? b=some o') ->
   h'.get? s.heap.objs.size=some { cls:=.type "list",dict:=none,data:=.seq its.toArray c',slots:=#[] }->EP X pins σ Q (.ref s.heap.objs.size) { s with heap:=h' }:=fun its r' hz h' c' kp e =>
  ⟨.ref s.heap.objs.size,_,I.laid (t':=s.toks) kp (IS _) (show bT X.prog X.w _ h' _ (.lst ys)from⟨hz,its,c',r',e⟩),rfl,q _ (I.hok.fresh (IS _))⟩
 rcases hq with hq | hq
 ·obtain⟨its,r',pl,hz⟩:=I.list hq;have hlen:=r'.length;obtain⟨o,ho,hc,n,hd⟩:=pl.isList;exact call_list_seq p (.inl rfl) ho hc hd (fun h' c' kp e=>fin its r' hz h' c' kp e) (by simp only[IL]<;>omega)
 ·obtain⟨its,r',pl,hz⟩:=I.tuple hq;have hlen:=r'.length;obtain⟨o,ho,hc,n,hd⟩:=pl;exact call_list_seq p (.inr rfl) ho hc hd (fun h' c' kp e=>fin its r' hz h' c' kp e) (by simp only[IL]<;>omega)
theorem aJ:cf X (.type "tuple") (fun xs H Q=>∃p ys,xs=[.ref p]/\((SqL X.K H p ys/\∀l,H l=none->Q (.ref l) (upd H l (.tup ys)))∨(SqT X.K H p ys/\Q (.ref p) H))):=by
 intro pins s σ H xs us Q I r h;obtain⟨p,ys,rfl,h⟩:=h;obtain⟨u,rfl,rx⟩:=vals1 r;cases rx;rcases h with⟨hq,q⟩ |⟨hq,q⟩
 ·obtain⟨its,r',pl,hz⟩:=I.list hq;have hlen:=r'.length;refine call_tuple_list pl.isList (fun h' kp=>?_) (by simp only[IL]<;>omega);have I1:Inv X pins σ H { s with heap:=h' }:=I.kept (t':=s.toks) kp;have I2:Inv X pins σ (upd H h'.objs.size (.tup ys)) { s with heap:=h'.push { cls:=.type "tuple",data:=.seq its.toArray } } :=
   I1.laid (t':=s.toks) (fun b o e=>IG _ e) (IS _) (show bT X.prog X.w _ _ _ (.tup ys)from⟨hz,its,r',IsTup.new _ _⟩)
  exact⟨.ref h'.objs.size,_,I2,rfl,q _ (I1.hok.fresh (IS _))⟩
 ·obtain⟨its,r',pl,hz⟩:=I.tuple hq;exact call_tuple_same pl ⟨.ref p,H,I,rfl,q⟩
def tyV(K:PySem.W.Frag)(T:String)(x:V)(H:Hp):Prop:=match x with
 | .str _=>T="str"
 | .int _=>T="int"
 | .ref p=>(T="list"/\∃xs,SqL K H p xs)∨(T="tuple"/\∃o,K.lookup p=some o/\o.cls=.type "tuple"/\o.dict=none) ∨
   (T="dict"/\((∃kvs,H p=some (.dK kvs))∨∃kvs,H p=some (.dT kvs)))∨(T="set"/\∃S n,H p=some (.set S n))
 | _=>False
theorem vC{σ:St}(I:Inv X pins σ H s)(r:RelV x v)(ty:tyV X.K T x H) :
  s.TypeIs v T/\∀a,v=.ref a->∃ob,s.heap.get? a=some ob/\ob.dict=none:=by
 cases x with
 | str z =>
  obtain⟨t,rfl⟩:=r;cases (show T="str" from ty);exact⟨typeIs_str s z t,fun _ e=>nomatch e⟩
 | int i =>
  obtain⟨t,rfl⟩:=r;cases (show T="int" from ty);exact⟨typeIs_int s i t,fun _ e=>nomatch e⟩
 | ref p =>
  cases r;rcases ty with⟨rfl,xs,hq⟩ |⟨rfl,o,hk,hc,hd⟩ |⟨rfl,hk⟩ |⟨rfl,S,n,hk⟩
  ·obtain⟨its,_,pl,_⟩:=I.list hq;refine⟨pl.isList.typeIs,fun a e=>?_⟩;cases e;obtain⟨o,n,e,c,hd,_⟩:=pl;exact⟨o,e,hd⟩
  ·refine⟨⟨o,I.kIn p o hk,hc⟩,fun a e=>?_⟩;cases e;exact⟨o,I.kIn _ o hk,hd⟩
  ·have z:∃o,s.heap.get? p=some o/\o.ExactDict:=by
    rcases hk with⟨kvs,hk⟩ |⟨kvs,hk⟩
    ·obtain⟨_,_,_,_,o,_,_,e,ex,_⟩:=I.hok p _ hk;exact⟨o,e,ex⟩
    ·obtain⟨_,_,_,_,o,_,_,e,ex,_⟩:=I.hok p _ hk;exact⟨o,e,ex⟩
   obtain⟨o,e,ex⟩:=z;refine⟨⟨o,e,ex.1⟩,fun a e2=>?_⟩;cases e2;exact⟨o,e,ex.2.1⟩
  ·obtain⟨o,_,_,_,e,ex,_⟩:=I.hok p _ hk;refine⟨⟨o,e,ex.1⟩,fun a e2=>?_⟩;cases e2;exact⟨o,e,ex.2.1⟩
 | _=>exact False.elim ty
def Gh(K:PySem.W.Frag)(T:String)(r:V->List V->Hp->VK->Prop)(to:TE):TE:=fun σ H Q=>to σ H fun x H1=>tyV K T x H1/\r x [] H1 Q
def tBM(K:PySem.W.Frag)(T:String)(r:V->List V->Hp->VK->Prop)(to:TE)(t:TA):TE:=fun σ H Q=>to σ H fun x H1=>tyV K T x H1/\t σ H1 fun xs H2=>r x xs H2 Q
variable {o e:Expr}{es:List Expr}{to:TE}{t:TA}{name:Str}{apos cpos:Pos}{T id:String}{r:V->List V->Hp->VK->Prop}
theorem BR(pa:PlainAttrs T)(slot:Slot T name id)(hty:typeOf (.builtin id)=pure (.type "method_descriptor"))(hm:MtR X id r)(ho:PE X o to)
  (hbase:attributeBase o name X.env (eval o X.env)=eval o X.env:=by rfl) (hline:(apos.endLine==cpos.line)=true:=by rfl):PE X (.Call (.Attribute o name apos) [] [] cpos) (Gh X.K T r to):=by
 intro pins s σ H Q I h;refine wpAny_Call_method0_late hbase hline (thn (ho pins s σ H _ I h) fun v s1 y_=>?_);obtain⟨x,H1,I1,r1,ty,q1⟩:=y_;obtain⟨h1,h2⟩:=vC I1 r1 ty;exact⟨T,id,pa,slot,hty,h1,h2,Calls.callWith_builtin rfl (PySem.evalArgs_none (hm pins s1 σ H1 x [] v [] Q I1 r1 .nil q1))⟩
theorem CZ(pa:PlainAttrs T)(slot:Slot T name id)(hty:typeOf (.builtin id)=pure (.type "method_descriptor"))(hm:MtR X id r)(ho:PE X o to)(ha:PA X (e::es) t)
  (hbase:attributeBase o name X.env (eval o X.env)=eval o X.env:=by rfl)
  (hfew:((backTo cpos (starEach (e::es) X.env)).all (fun x=>!x.1)&&(backToKw cpos (keywordEach [] X.env)).all (fun x=>x.1.isSome)
   && decide ((e::es).length+([]:List Keyword).length+(if ([]:List Keyword).isEmpty then 0 else 1)<30))=true:=by rfl)
  (hline:(apos.endLine==cpos.line)=true:=by rfl) (hs:starEach (e::es) X.env=(false,eval e X.env)::starEach es X.env:=by rfl) (hplain:(backTo cpos (starEach es X.env)).any (·.1)=false:=by rfl) :
  PE X (.Call (.Attribute o name apos) (e::es) [] cpos) (tBM X.K T r to t):=by
 intro pins s σ H Q I h;refine wpAny_Call_method_late hbase hfew hline rfl (thn (ho pins s σ H _ I h) fun v s1 y_=>?_);obtain⟨x,H1,I1,r1,ty,q1⟩:=y_;obtain⟨h1,h2⟩:=vC I1 r1 ty;refine⟨T,id,pa,slot,hty,h1,h2,?_⟩;have hA:=ha cpos pins s1 σ H1 _ I1 q1;rw[hs]at hA ⊢;refine Calls.callWith_builtin (by show(false||(backTo cpos (starEach es X.env)).any (·.1))=false;rw[hplain]<;>rfl) (Calls.evalArgs_plain ?_);exact thn hA fun us s2 ⟨vs,H2,I2,r2,q2⟩=>hm pins s2 σ H2 x vs v us Q I2 r1 r2 q2
end
end
section
def MtM(X:Cx)(id:String)(r:V->List V->Hp->VK->Prop):Prop :=
 ∀(pins:List (Addr×Obj)) (s:Shared) (σ:St) (H:Hp) (x:V) (xs:List V) (v:Value) (us:List Value) (Q:VK),Inv X pins σ H s->RelV x v->Vals xs us->r x xs H Q ->
  wpAny (model X.prog X.w) X.A (call (.builtin id) (v::us)) (EP X pins σ Q) X.xe s
theorem Vals.one:∀{x:V} {us:List Value},Vals [x] us->∃u,us=[u]/\RelV x u
 | _,_,.cons r .nil=>⟨_,rfl,r⟩
theorem Vals.two:∀{x y:V} {us:List Value},Vals [x,y] us->∃u v,us=[u,v]/\RelV x u/\RelV y v
 | _,_,_,.cons r (.cons q .nil)=>⟨_,_,rfl,r,q⟩
theorem Vals.zero:∀{us:List Value},Vals [] us->us=[]
 | _,.nil=>rfl
theorem Vals.dropLast(h:Vals xs us):Vals xs.dropLast us.dropLast:=by
 induction h with
 | nil=>exact .nil
 | cons r t ih =>
  cases t with
  | nil=>exact .nil
  | cons q t'=>exact .cons r ih
theorem n5{α:Type}(l:List α):l.eraseIdx (l.length - 1)=l.dropLast:=by
 induction l with
 | nil=>rfl
 | cons a r ih =>
  cases r with
  | nil=>rfl
  | cons b r =>
   have e:(a::b::r).length - 1=((b::r).length - 1)+1:=by
    have h1:(a::b::r).length=r.length+2:=rfl;have h2:(b::r).length=r.length+1:=rfl;omega
   rw[e,List.eraseIdx_cons_succ,ih]
   all_goals rfl
section
variable {X:Cx}{pins:List (Addr×Obj)}{σ:St}{H:Hp}{s:Shared}{l b:Addr}{xs ys zs:List V}
theorem Inv.lset{its its':List Value}(I:Inv X pins σ H s)(hH:H l=some (.lst xs))
  (e:s.heap.get? l=some { cls:=.type "list",data:=.seq its.toArray n }) (hf:f its.toArray=its'.toArray) (hv:Vals ys its') (hz:ys.length≤sizeLine) :
  Inv X pins σ (upd H l (.lst ys)) { s with heap:=s.heap.update l (Obj.mapSeq f),toks:=t' }:=by
 have q:=PySem.IsL.update e f;rw[hf]at q;refine I.write (x:=l) (e:=l) (by rw[hH];exact trivial) (.inl rfl) (fun b' u hb hu=>(Heap.get?_update_other s.heap (Obj.mapSeq f) (Ne.symm hb)).trans hu) ⟨_,q⟩ ?_;exact⟨hz,its',_,hv,q⟩
theorem Inv.lnew(I:Inv X pins σ H s)(hv:Vals ys its)(hz:ys.length≤sizeLine) :
  Inv X pins σ (upd H s.heap.objs.size (.lst ys)) { s with heap:=s.heap.push { cls:=.type "list",data:=.seq its.toArray },toks:=t' } :=
 I.laid (fun _ _ q=>IG _ q) (IS _) ⟨hz,its,0,hv,IT _ rfl⟩
theorem Inv.fresh(I:Inv X pins σ H s):H s.heap.objs.size=none:=I.hok.fresh (IS _)
theorem Inv.lstM(I:Inv X pins σ H s)(hH:H l=some (.lst xs)):xs.length≤sizeLine/\∃(its:List Value) (n:Nat),Vals xs its/\xs.length=its.length/\s.heap.get? l=some { cls:=.type "list",data:=.seq its.toArray n }:=by
 obtain⟨z,its,n,r,e⟩:=I.hok l _ hH;exact⟨z,its,n,r,r.length,e⟩
theorem mV(h:n≤sizeLine):Builtin.List.listTooLong n=false:=by
 unfold Builtin.List.listTooLong;exact J2 (by omega)
end
section
variable {X:Cx}
def pU:V->List V->Hp->VK->Prop:=fun x vs H Q=>∃l xs y,x=.ref l/\vs=[y]/\H l=some (.lst xs)/\xs.length<sizeLine/\Q .non (upd H l (.lst (xs++[y])))
theorem bj:MtM X "list.append" pU:=by
 intro pins s σ H x vs v us Q I rx rv h;obtain⟨l,xs,y,rfl,rfl,hH,hz,q⟩:=h;cases rx;obtain⟨u,rfl,ru⟩:=rv.one;obtain⟨z,its,n,r,hl,e⟩:=I.lstM hH;refine call_meets F.slot_list_append ⟨_,e,rfl⟩ F.entry_list_append (F.args_list_append_2 _ _) (PySem.list_append l its.toArray n u (by rw[IL];omega)) ⟨e,?_⟩;refine⟨.non,_,I.lset (its':=its++[u]) hH e (by simp) (r.append (.cons ru .nil)) ?_,rfl,q⟩;rw[II,JG];omega
def pX:V->List V->Hp->VK->Prop:=fun x vs H Q=>∃l b xs zs,x=.ref l/\vs=[.ref b]/\H l=some (.lst xs)/\H b=some (.lst zs)/\xs.length+zs.length≤sizeLine/\Q .non (upd H l (.lst (xs++zs)))
theorem cL:MtM X "list.extend" pX:=by
 intro pins s σ H x vs v us Q I rx rv h;obtain⟨l,b,xs,zs,rfl,rfl,hH,hB,hz,q⟩:=h;cases rx;obtain⟨u,rfl,ru⟩:=rv.one;cases ru;obtain⟨z,its,n,r,hl,e⟩:=I.lstM hH;obtain⟨z2,its2,n2,r2,hl2,e2⟩:=I.lstM hB;have hsz:its.toArray.size+its2.toArray.size≤sizeLine:=by rw[IL,IL];omega
 have hlong:¬(!its.toArray.isEmpty&&Builtin.List.listTooLong (its.toArray.size+its2.toArray.size))=true:=by
  rw[mV hsz,Bool.and_false];exact KW
 refine call_meets F.slot_list_extend ⟨_,e,rfl⟩ F.entry_list_extend (F.args_list_extend_2 _ _)
  (AutoSeq1.list_extend_list_list_0 l its.toArray n b its2.toArray n2 hlong (by rw[IL];omega) (by omega)) ⟨e,e2,?_⟩
 refine⟨.non,_,I.lset (its':=its++its2) hH e (by simp) (r.append r2) ?_,rfl,q⟩;rw[II];omega
def Cf:V->List V->Hp->VK->Prop:=fun x vs H Q=>∃l xs y,x=.ref l/\vs=[]/\H l=some (.lst xs)/\xs[xs.length - 1]?=some y/\Q y (upd H l (.lst xs.dropLast))
theorem B0:MtM X "list.pop" Cf:=by
 intro pins s σ H x vs v us Q I rx rv h;obtain⟨l,xs,y,rfl,rfl,hH,hy,q⟩:=h;cases rx;have hus:=rv.zero;subst hus;obtain⟨z,its,n,r,hl,e⟩:=I.lstM hH;obtain⟨u,hu,ru⟩:=r.get hy;have hy':its.toArray[its.toArray.size - 1]?=some u:=by
  show its.toArray[its.length - 1]?=some u;rw[←JR,← hl];exact hu
 refine call_meets F.slot_list_pop ⟨_,e,rfl⟩ F.entry_list_pop (F.args_list_pop_1 _) (MeetsSeq.list_pop_last l its.toArray n u hy' (by rw[IL];omega)) ⟨e,?_⟩;refine⟨y,_,I.lset (its':=its.dropLast) hH e ?_ r.dropLast ?_,ru,q⟩
 ·show its.toArray.eraseIdxIfInBounds (its.toArray.size - 1)=its.dropLast.toArray;rw[IL,List.eraseIdxIfInBounds_toArray,n5]
 ·rw[List.length_dropLast];omega
def vB:V->List V->Hp->VK->Prop:=fun x vs H Q=>∃l xs,x=.ref l/\vs=[]/\H l=some (.lst xs)/\Q .non (upd H l (.lst []))
theorem nc:MtM X "list.clear" vB:=by
 intro pins s σ H x vs v us Q I rx rv h;obtain⟨l,xs,rfl,rfl,hH,q⟩:=h;cases rx;have hus:=rv.zero;subst hus;obtain⟨z,its,n,r,hl,e⟩:=I.lstM hH;refine call_meets F.slot_list_clear ⟨_,e,rfl⟩ F.entry_list_clear (F.args_list_clear_1 _) (AutoSeq1.list_clear_list_0 l its.toArray n (by rw[IL];omega)) ⟨e,?_⟩;exact⟨.non,_,I.lset (its':=[]) (ys:=[]) hH e rfl .nil (JW _),rfl,q⟩
def DN:R2:=fun x y H Q=>∃l b xs zs,x=.ref l/\y=.ref b/\H l=some (.lst xs)/\H b=some (.lst zs)/\xs.length+zs.length≤sizeLine/\∀p,H p=none->Q (.ref p) (upd H p (.lst (xs++zs)))
theorem BZ:OpR X (binaryOp .Add) DN:=by
 intro pins s σ H x y v u Q I rx ry h;obtain⟨l,b,xs,zs,rfl,rfl,hH,hB,hz,q⟩:=h;cases rx;cases ry;obtain⟨z,its,n,r,hl,e⟩:=I.lstM hH;obtain⟨z2,its2,n2,r2,hl2,e2⟩:=I.lstM hB;refine PySem.P.add_list e e2 ?_ (by rw[IL,IL];omega);have ea:its.toArray++its2.toArray=(its++its2).toArray:=by simp
 rw[ea];exact⟨.ref _,_,I.lnew (t':=s.toks) (r.append r2) (by rw[II];omega),rfl,q _ I.fresh⟩
end
section
variable {prog:Program}{w:World}{A:Around}{E:Value->Shared->Prop}{s:Shared}
end
section
variable {X:Cx}
end
end
end L2
namespace Att
open PySem.W PySem.Calls
theorem iq:∀(ns:List Int) (vs:List Value),WellAll P h vs (ns.map WData.int)->IntsAre vs ns:=by
 intro ns
 induction ns with
 | nil =>
  intro vs w;rw[List.map_nil]at w;cases w;exact .nil
 | cons n ns ih =>
  intro vs w;rw[Jb]at w;cases w with
  | cons a b =>
   cases a;exact .cons _ _ (ih _ b)
theorem rp{l:OpenLaw}(hn:l.most=some n){P:Params}{h:Heap}{args:List WData}{vals:List Value}
  (hpre:l.row.toRowW.claim.pre args=true) (hwl:WellAll P h vals args) :
  ∃a vs ns,vals=[Value.ref a]/\args=[WData.list (ns.map WData.int)]/\h.get? a=some { cls:=.type "list",data:=.seq vs.toArray }/\IntsAre vs ns/\ns.length≤n:=by
 have hsh:WShape.hasAll [] args [.list .int]=true:=(pre_splitW hpre).1;have hc:l.pre.holds [] { args:=args }=true:=(pre_splitW hpre).2;obtain⟨d,r,rfl,h1,h2⟩:=hasAllW_cons hsh;obtain rfl:=hasAllW_nil h2;obtain⟨xs,rfl,h3⟩:=hasW_list h1;obtain⟨ns,rfl⟩:=items_int h3;have hlen:ns.length≤n:=by
  unfold OpenLaw.pre at hc;have h4:(WTm.not (.lt (.lit (.int (n:Int))) (.len (.arg 0)))).holds [] { args:=[.list (ns.map .int)] }=true:=by
   have h4:=(holds_andW hc).1;rw[hn]at h4;exact h4
  have h5:=condW_of h4 (w_not (w_lt w_lit (w_len_list (w_arg rfl))));rw[kb]at h5;refine Nat.le_of_not_lt fun q=>?_;have q':(n:Int)<((ns.length:Nat):Int):=by omega
  first
   |(rw[JE q']at h5;exact absurd h5 (by decide))
   |(simp at h5;omega)
 cases hwl with
 | cons w1 w2 =>
  cases w2;cases w1 with
  | list ho hall=>exact⟨_,_,ns,rfl,rfl,ho,iq ns _ hall,hlen⟩
theorem rS(l:OpenLaw)(args:List WData):l.row.toRowW.claim.post args (.bool true) args=true :=
 postW_of (r:=l.row.toRowW) (X:=(true==true))
  (show WShape.has [] (.bool true) .bool=true by first | rfl | decide | simp[WShape.has,WShape.arms,WShape.armsAll])
  (show(WTm.eq .res (.lit (.bool true))).value [] { args:=args,res:=some (.bool true),after:=args }=some (.bool (true==true))from w_eq_bool (w_res rfl) w_lit) rfl
theorem hV{l:OpenLaw}
  (hn:l.most=some n) (hdf:d.params.defaults=[])
  (call:∀(w:World) (s₀ s₁:Shared) (mg mb:Str->Option Value) (fa:Addr) (o:Obj) (pm cd doc:Value) (a:Addr) (vs:List Value) (ns:List Int),
   Ground q loose [] XP w s₀ mg mb s₁.heap->YP w s₁.heap ->
   s₁.heap.get? fa=some o->o.data=.func (docDef d.name d.params d.body d.scope pm cd doc)->s₁.heap.CodeRec cd d.name->mg d.name=some (.ref fa) ->
   s₁.heap.get? a=some { cls:=.type "list",data:=.seq vs.toArray }->IntsAre vs ns->ns.length≤n->s₁.gens=#[] ->
   codeAny (model l.prog w) callerA (.call (.ref fa) ⟨[.ref a],[]⟩) (fun r s'=>r=.ok (.ret (.bool true))/\OldK s₁.heap s'.heap/\s'.os=s₁.os/\AllBare s'.gens) s₁) :
  WalkO q loose XP YP l.row.toRowW d [] (fun f vs=>PySem.call f vs):=by
 intro w s₀ s₁ mg mb G Y fa o pm cd doc dV kV ho hd hcd hD hmg hg args vals as hpre hlay hrd hwl hlo;obtain rfl:dV=.none:=Dflts.none hD hdf;obtain rfl:kV=.none:=Dflts.noKw hD;obtain⟨a,vs,ns,rfl,rfl,hobj,hints,hlen⟩:=rp hn hpre hwl;refine enter_call (KO (call w s₀ s₁ mg mb fa o pm cd doc a vs ns G Y ho (fd_plain hd) hcd hmg hobj hints hlen hg) fun r s' hq=>?_);obtain⟨rfl,h2,h3,h4⟩:=hq;exact⟨.inl ⟨.bool true,.bool true,[],rfl,fun _=>rfl,.bool true,rS l _,fun _=>⟨List.Pairwise.nil,fun _ hm=>(nomatch hm)⟩⟩,h2,h3,h4⟩
section
variable {prog:Program}{w:World}{A:Around}{E:Value->Shared->Prop}{s:Shared}{K:Frag}
def ledger(h:Heap)(L d:Addr):List (Addr×Obj):=(List.range h.objs.size).filterMap fun a=>if a=L∨a=d then none else(h.get? a).map fun o=>(a,o)
end
end Att
namespace L2
section
theorem eX:∀{vs:List Value} {ns:List Int},IntsAre vs ns->Vals (ns.map V.int) vs
 | _,_,.nil=>.nil
 | _,_,.cons n t h=>.cons ⟨t,rfl⟩ (eX h)
def qO(H:Hp):Prop:=∀b,H b=none∨∃o xs,H b=some (.frz o (.lst xs))
end
section
abbrev KOf{K:PySem.W.Frag}{h:Heap}(_:K.In h):PySem.W.Frag:=K
end
section
def inClass(s:Stmt)(j:Nat):Stmt:=match s with
 | .ClassDef _ _ _ body _ _ _ _ _ _ _=>body.getD j (.Pass ⟨0,0,0,0⟩)
 | _=>.Pass ⟨0,0,0,0⟩
def iL(s:Stmt):Arguments:=match s with
 | .FunctionDef _ a _ _ _ _ _ _ _ _=>a
 | _=>{ posonlyargs:=[],args:=[],vararg:=none,kwonlyargs:=[],kw_defaults:=[],kwarg:=none,defaults:=[] }
def cG(s:Stmt):List Stmt:=match s with
 | .FunctionDef _ _ b _ _ _ _ _ _ _=>b
 | _=>[]
def ai(s:Stmt):Scope:=match s with
 | .FunctionDef _ _ _ _ _ _ sc _ _ _=>sc
 | _=>{ kind:=.function,names:=[],isGenerator:=false,isCoroutine:=false }
abbrev CX0:CXT:=fun _ _ _ _ _ _=>False
abbrev E0:XK:=fun _ _ _=>False
theorem my:Passes CX0 X E0:=fun _ _ _ _ _ _ _ h=>h.elim
structure Fun (K:PySem.W.Frag) (x qual:Str) (st:Stmt) (f:Addr) (fd:FuncData):Prop where
 ex:∃(oc:Value) (od:Option Addr) (kV doc pm:Value) (an:Option Addr) (cdv ct:Value) (osl:Array (Option Value)),
  fd=PySem.W.fnOf x qual (iL st) (cG st) (ai st) .none kV doc pm an cdv ct/\K.lookup f=some ⟨oc,od,.func fd,osl⟩/\PySem.W.codeIn K cdv qual=true
 kp:PySem.W.keepIn K (.ref f)=true
section
variable {P:Program}{w:World}{K:PySem.W.Frag}{mg:Str->Option Value}{base:Heap}
theorem Fun.ok{st:Stmt}(F:Fun K x qual st f fd)(S:ax N ps (ai st))(len:∀vs H Q E,sp vs H Q E->vs.length=ps.length)
  (hbody:∀(cdv:Value) (A:Around) (outer:List Env) (s:Shared) (H:Hp) (vs:List V) (Q:VK) (E:XK),bG k (A.deeper (envOfC qual (ai st) s.heap.objs.size f cdv))->sp vs H Q E ->
   ∃t,PSs (jF CX0 P w K mg base N qual (ai st) f cdv A outer s H E).nox (cG st) t/\t { nx:=fun _ H'=>Q .non H',rt:=Q } (start N vs) H):f9 P w K mg base CX0 (k+1) f fd ps sp:=by
 obtain⟨oc,od,kV,doc,pm,an,cdv,ct,osl,rfl,lk,hcd⟩:=F.ex;refine zg lk hcd S len fun A outer s H vs Q E hr hsp=>?_;obtain⟨t,h,q⟩:=hbody cdv A outer s H vs Q E hr hsp;exact⟨t,h.nox,q⟩
theorem Fun.binds{st:Stmt}(F:Fun K x qual st f fd)
  (h:∀(kV doc pm:Value) (an:Option Addr) (cdv ct:Value) (us:List Value),us.length=ps.length->bindArgs (PySem.W.fnOf x qual (iL st) (cG st) (ai st) .none kV doc pm an cdv ct) ⟨us,[]⟩=pure (ps.zip us)):Binds K fd ps []:=by
 obtain⟨oc,od,kV,doc,pm,an,cdv,ct,osl,rfl,lk,hcd⟩:=F.ex;exact .all (h kV doc pm an cdv ct)
theorem AY{st:Stmt}{kV doc pm cdv ct:Value}(l:K.lookup f=some ⟨oc,od,.func (PySem.W.fnOf x qual (iL st) (cG st) (ai st) .none kV doc pm an cdv ct),osl⟩)
  (c:PySem.W.codeIn K cdv qual=true) (k:PySem.W.keepIn K (.ref f)=true):Fun K x qual st f (PySem.W.fnOf x qual (iL st) (cG st) (ai st) .none kV doc pm an cdv ct):=⟨⟨oc,od,kV,doc,pm,an,cdv,ct,osl,rfl,l,c⟩,k⟩
end
theorem aS(h:n≤1000):n<sizeLine:=KY h (by decide)
section
variable {X:Cx}
theorem pv(i:Nat){x:Str}{pos:Pos}(hN:X.N[i]?=some x:=by rfl)(hv:Vis X.env.scope x:=by first | exact Or.inl rfl | exact Or.inr (Or.inl rfl) | exact Or.inr (Or.inr rfl))(hd:(x==("__debug__":Str))=false:=by decide)
  (hcd:(x==("__classdict__":Str))=false:=by decide):PE X (.Name x pos) (rj i):=oQ hN hv hd hcd
end
theorem mj{A B:Prop}(h:B):if false=true then A else B:=by
 rw[IX KW];exact h
theorem mq{A B:Prop}(h:A):if true=true then A else B:=by
 rw[IZ rfl];exact h
def lh(H H':Hp):Prop:=∀b o,H b=some o->H' b=some o
end
end L2
set_option maxHeartbeats 4000000
namespace U
open L2
section
inductive PV where
 | non | bl (b:Bool) | int (i:Int) | str (x:Str) | ref (a:Addr) | tup (l:List PV) | fls (l:List PV) | oth (v:V)
def FzL(K:PySem.W.Frag)(H:Hp)(a:Addr)(xs:List V):Prop :=
 (∃o,H a=some (.frz o (.lst xs))) ∨
  ∃(o:Obj) (its:Array Value) (n:Nat),K.lookup a=some o/\o.cls=.type "list"/\o.dict=none/\o.data=.seq its n/\its.size≤sizeLine/\Vals xs its.toList
theorem FzL.sq{K:PySem.W.Frag}(h:FzL K H a xs):SqL K H a xs:=by
 rcases h with h | h
 ·exact .inl (.inr h)
 ·exact .inr h
structure Kp (H H1:Hp):Prop where
 t:∀a us,H a=some (.tup us)->H1 a=some (.tup us)
 z:∀a o u,H a=some (.frz o u)->H1 a=some (.frz o u)
theorem Kp.trans(a:Kp H H1)(b:Kp H1 H2):Kp H H2:=⟨fun c us h=>b.t c us (a.t c us h),fun c o u h=>b.z c o u (a.z c o u h)⟩
theorem Kp.sqT{K:PySem.W.Frag}(k:Kp H H1){a:Addr}{us:List V}(h:SqT K H a us):SqT K H1 a us:=by
 rcases h with(h |⟨o,h⟩) | h
 ·exact .inl (.inl (k.t _ _ h))
 ·exact .inl (.inr ⟨o,k.z _ _ _ h⟩)
 ·exact .inr h
theorem Kp.fzL{K:PySem.W.Frag}(k:Kp H H1){a:Addr}{us:List V}(h:FzL K H a us):FzL K H1 a us:=by
 rcases h with⟨o,h⟩ | h
 ·exact .inl ⟨o,k.z _ _ _ h⟩
 ·exact .inr h
section
variable (K:PySem.W.Frag)
mutual
def RP(H:Hp):PV->V->Prop
 | .non,v=>v=.non
 | .bl b,v=>v=.bl b
 | .int i,v=>v=.int i
 | .str x,v=>v=.str x
 | .ref a,v=>v=.ref a
 | .oth w,v=>v=w
 | .tup l,v=>∃a us,v=.ref a/\SqT K H a us/\RPs H l us
 | .fls l,v=>∃a us,v=.ref a/\FzL K H a us/\RPs H l us
def RPs(H:Hp):List PV->List V->Prop
 | [],us=>us=[]
 | x::l,us=>∃u r,us=u::r/\RP H x u/\RPs H l r
end
mutual
theorem RP.kp{H H1:Hp}(k:Kp H H1):∀{x:PV} {v:V},RP K H x v->RP K H1 x v
 | .non,_,h=>h
 | .bl _,_,h=>h
 | .int _,_,h=>h
 | .str _,_,h=>h
 | .ref _,_,h=>h
 | .oth _,_,h=>h
 | .tup l,v,h=>by
  simp only[RP]at h ⊢;obtain⟨a,us,e,q,r⟩:=h;exact⟨a,us,e,k.sqT q,RPs.kp k r⟩
 | .fls l,v,h=>by
  simp only[RP]at h ⊢;obtain⟨a,us,e,q,r⟩:=h;exact⟨a,us,e,k.fzL q,RPs.kp k r⟩
theorem RPs.kp{H H1:Hp}(k:Kp H H1):∀{l:List PV} {us:List V},RPs K H l us->RPs K H1 l us
 | [],_,h=>h
 | x::l,us,h=>by
  simp only[RPs]at h ⊢;obtain⟨u,r,e,a,b⟩:=h;exact⟨u,r,e,RP.kp k a,RPs.kp k b⟩
end
theorem RPs.nil:RPs K H [] []:=by simp[RPs]
theorem RPs.cons{H:Hp}{x:PV}{l:List PV}{u:V}{us:List V}(a:RP K H x u)(b:RPs K H l us):RPs K H (x::l) (u::us):=by
 simp only[RPs];exact⟨u,us,rfl,a,b⟩
theorem RPs.length{H:Hp}:∀{l:List PV} {us:List V},RPs K H l us->us.length=l.length
 | [],us,h=>by simp only[RPs]at h;subst h;rfl
 | x::l,us,h=>by
  simp only[RPs]at h;obtain⟨u,r,rfl,_,b⟩:=h;simp[RPs.length b]
theorem RPs.get{H:Hp}:∀{l:List PV} {us:List V} {i:Nat} {x:PV},RPs K H l us->l[i]?=some x->∃u,us[i]?=some u/\RP K H x u
 | [],_,_,_,_,e=>by simp at e
 | y::l,us,i,x,h,e=>by
  simp only[RPs]at h;obtain⟨u,r,rfl,a,b⟩:=h;cases i with
  | zero=>simp at e;subst e;exact⟨u,by simp,a⟩
  | succ i=>obtain⟨w,e1,e2⟩:=RPs.get (i:=i) (x:=x) b (by simpa using e);exact⟨w,by simpa using e1,e2⟩
theorem RPs.append{H:Hp}:∀{l m:List PV} {us ws:List V},RPs K H l us->RPs K H m ws->RPs K H (l++m) (us++ws)
 | [],m,us,ws,h,g=>by simp only[RPs]at h;subst h;simpa using g
 | x::l,m,us,ws,h,g=>by
  simp only[RPs]at h;obtain⟨u,r,rfl,a,b⟩:=h;exact RPs.cons K a (RPs.append b g)
theorem RPs.take{H:Hp}:∀{l:List PV} {us:List V} (n:Nat),RPs K H l us->RPs K H (l.take n) (us.take n)
 | [],us,n,h=>by simp only[RPs]at h;subst h;simp[RPs]
 | x::l,us,0,h=>by simp[RPs]
 | x::l,us,n+1,h=>by
  simp only[RPs]at h;obtain⟨u,r,rfl,a,b⟩:=h;exact RPs.cons K a (RPs.take n b)
theorem RPs.drop{H:Hp}:∀{l:List PV} {us:List V} (n:Nat),RPs K H l us->RPs K H (l.drop n) (us.drop n)
 | [],us,n,h=>by simp only[RPs]at h;subst h;simp[RPs]
 | x::l,us,0,h=>h
 | x::l,us,n+1,h=>by
  simp only[RPs]at h;obtain⟨u,r,rfl,a,b⟩:=h;exact RPs.drop n b
theorem RPs.set{H:Hp}{x:PV}{u:V}(a:RP K H x u):∀{l:List PV} {us:List V} (n:Nat),RPs K H l us->RPs K H (l.set n x) (us.set n u)
 | [],us,n,h=>by simp only[RPs]at h;subst h;simp[RPs]
 | y::l,us,0,h=>by
  simp only[RPs]at h;obtain⟨w,r,rfl,_,b⟩:=h;exact RPs.cons K a b
 | y::l,us,n+1,h=>by
  simp only[RPs]at h;obtain⟨w,r,rfl,c,b⟩:=h;exact RPs.cons K c (RPs.set a n b)
theorem RPs.dropLast(h:RPs K H l us):RPs K H l.dropLast us.dropLast:=by
 rw[List.dropLast_eq_take,List.dropLast_eq_take,RPs.length K h];exact RPs.take K _ h
theorem RPs.ints{H:Hp}:∀(ns:List Int),RPs K H (ns.map PV.int) (ns.map V.int)
 | []=>by simp[RPs]
 | n::ns=>RPs.cons K (by simp[RP]) (RPs.ints ns)
theorem RPs.ints_eq{H:Hp}:∀{ns:List Int} {us:List V},RPs K H (ns.map PV.int) us->us=ns.map V.int
 | [],us,h=>by simpa[RPs]using h
 | n::ns,us,h=>by
  simp only[Jb,RPs]at h;obtain⟨u,r,rfl,a,b⟩:=h;have e:=RPs.ints_eq b;simp only[RP]at a;subst a;subst e;rfl
end
def Hx(a C:Addr)(h:Heap):Prop:=∃o,h.get? a=some o/\o.cls=.ref C
inductive PO where
 | exc (C:Addr)
 | lst (l:List PV)
 | ins (C dx:Addr) (fs:List (Str×PV))
 | dK (kvs:List (Key×PV))
 | dT (kvs:List (List Key×PV))
 | tbl (pos:Pos) (q:Str)
abbrev PHp:=Addr->Option PO
def put(H:PHp)(a:Addr)(o:PO):PHp:=fun b=>if b=a then some o else H b
theorem ah{H:PHp}{a:Addr}{o:PO}:put H a o a=some o:=by unfold put;rw[IZ rfl]
theorem aq{H:PHp}{a b:Addr}{o:PO}(h:b≠a):put H a o b=H b:=by unfold put;rw[IX h]
theorem aD{H:PHp}{a:Addr}{o u:PO}:put (put H a o) a u=put H a u:=by
 funext b;unfold put;split<;>rfl
theorem av{H:PHp}{a b:Addr}{o:PO}(h:H a=some o)(h':H b=none):a≠b:=by
 intro e;subst e;rw[h]at h';cases h'
def ux(H:Hp)(pos:Pos)(q:Str)(ps:Array Value):Prop :=
 ps=#[]∨∃(c:Addr) (oc:Obj) (vs:Array Value) (t:Tok),ps=#[rawInt pos.line,rawInt pos.col,.ref c]/\H c=some (.frz oc (.own 0))/\oc.data=.fields vs/\vs[1]?=some (.str q t)
abbrev fA(K:PySem.W.Frag)(H:Hp){κ:Type}:List (κ×PV)->List (κ×V)->Prop:=Paired fun p q=>p.1=q.1/\RP K H p.2 q.2
def OAt(K:PySem.W.Frag)(H:Hp)(a:Addr):PO->Prop
 | .exc C=>H a=some (.ext (Hx a C))
 | .lst l=>∃us,H a=some (.lst us)/\RPs K H l us
 | .ins C dx fs=>∃gs,H a=some (.ins C dx gs)/\fA K H fs gs
 | .dK kvs=>∃ws,H a=some (.dK ws)/\fA K H kvs ws
 | .dT kvs=>∃ws,H a=some (.dT ws)/\fA K H kvs ws
 | .tbl pos q=>∃ps,H a=some (.tbl ps)/\ux H pos q ps
abbrev HR(K:PySem.W.Frag)(H':PHp)(H:Hp):Prop:=∀a o,H' a=some o->OAt K H a o
abbrev St':=List (Option PV)
abbrev Bs:=PHp×Hp
def Ev(H':PHp)(H:Hp)(H1':PHp)(H1:Hp):Prop:=∀a o,H a=some o->H' a=none->H1 a=some o/\H1' a=none
structure SR (K:PySem.W.Frag) (B:Bs) (σ':St') (H':PHp) (σ:L2.St) (H:Hp):Prop where
 len:σ'.length=σ.length
 loc:∀(i:Nat) (v':PV),σ'[i]?=some (some v')->∃v,σ[i]?=some (some v)/\RP K H v' v
 hp:HR K H' H
 ev:Ev B.1 B.2 H' H
theorem Ev.refl(H':PHp)(H:Hp):Ev H' H H' H:=fun _ _ h h'=>⟨h,h'⟩
theorem Ev.trans{H':PHp}{H:Hp}{H1':PHp}{H1:Hp}{H2':PHp}{H2:Hp}(a:Ev H' H H1' H1)(b:Ev H1' H1 H2' H2):Ev H' H H2' H2:=fun c o h h'=>by
 obtain⟨p,q⟩:=a c o h h';exact b c o p q
section
variable {K:PySem.W.Frag}
theorem fA.kp{κ:Type}{H H1:Hp}(k:Kp H H1){fs:List (κ×PV)}{gs:List (κ×V)}(h:fA K H fs gs):fA K H1 fs gs:=Paired.mapP h fun _ _ ⟨a,b⟩=>⟨a,RP.kp K k b⟩
theorem OAt.some{H:Hp}{a:Addr}:∀{o:PO},OAt K H a o->∃u,H a=Option.some u/\(∀us,u≠.tup us)/\(∀o us,u≠.frz o us)/\(∀x,u≠.own x)
 | .exc C,e=>⟨_,e,(fun _=>by nofun),(fun _ _=>by nofun),(fun _=>by nofun)⟩
 | .lst l,⟨us,e,_⟩=>⟨_,e,(fun _=>by nofun),(fun _ _=>by nofun),(fun _=>by nofun)⟩
 | .ins C dx fs,⟨us,e,_⟩=>⟨_,e,(fun _=>by nofun),(fun _ _=>by nofun),(fun _=>by nofun)⟩
 | .dK l,⟨us,e,_⟩=>⟨_,e,(fun _=>by nofun),(fun _ _=>by nofun),(fun _=>by nofun)⟩
 | .dT l,⟨us,e,_⟩=>⟨_,e,(fun _=>by nofun),(fun _ _=>by nofun),(fun _=>by nofun)⟩
 | .tbl pos q,⟨us,e,_⟩=>⟨_,e,(fun _=>by nofun),(fun _ _=>by nofun),(fun _=>by nofun)⟩
theorem OAt.keep{H H1:Hp}{a:Addr}(k:Kp H H1)(e:H1 a=H a):∀{o:PO},OAt K H a o->OAt K H1 a o
 | .exc C,h=>e.trans h
 | .lst l,⟨us,h,r⟩=>⟨us,e.trans h,RPs.kp K k r⟩
 | .ins C dx fs,⟨us,h,r⟩=>⟨us,e.trans h,fA.kp k r⟩
 | .dK l,⟨us,h,r⟩=>⟨us,e.trans h,fA.kp k r⟩
 | .dT l,⟨us,h,r⟩=>⟨us,e.trans h,fA.kp k r⟩
 | .tbl pos q,⟨us,h,r⟩=>⟨us,e.trans h,r.elim .inl fun y_=>by obtain⟨c,oc,vs,t,x,y,z⟩:=y_;exact .inr ⟨c,oc,vs,t,x,k.2 _ _ _ y,z⟩⟩
theorem HR.tup{H':PHp}{H:Hp}(h:HR K H' H){a:Addr}{us:List V}(e:H a=some (.tup us)):H' a=none:=by
 cases q:H' a with
 | none=>rfl
 | some o=>obtain⟨u,e1,n,_⟩:=(h a o q).some;rw[e]at e1;exact absurd (Js e1).symm (n us)
theorem HR.frz{H':PHp}{H:Hp}(h:HR K H' H){a:Addr}{o:Obj}{u:HO}(e:H a=some (.frz o u)):H' a=none:=by
 cases q:H' a with
 | none=>rfl
 | some o'=>obtain⟨u',e1,_,n,_⟩:=(h a o' q).some;rw[e]at e1;exact absurd (Js e1).symm (n o u)
theorem HR.free{H':PHp}{H:Hp}(h:HR K H' H){a:Addr}(e:H a=none):H' a=none:=by
 cases q:H' a with
 | none=>rfl
 | some o=>obtain⟨u,e1,_⟩:=(h a o q).some;rw[e]at e1;cases e1
theorem Ev.kp{H':PHp}{H:Hp}{H1':PHp}{H1:Hp}(e:Ev H' H H1' H1)(h:HR K H' H):Kp H H1 :=
 ⟨fun a us q=>(e a _ q (h.tup q)).1,fun a o u q=>(e a _ q (h.frz q)).1⟩
theorem fF{H:Hp}{p:Addr}{o:HO}(e:H p=none):Kp H (upd H p o) :=
 ⟨fun a us q=>by rw[aH (aT q e)];exact q,fun a o u q=>by rw[aH (aT q e)];exact q⟩
theorem mL{H:Hp}{p:Addr}{o u:HO}(e:H p=some u)(n1:∀us,u≠.tup us)(n2:∀o us,u≠.frz o us):Kp H (upd H p o) :=
 ⟨fun a us q=>by rw[aH (yL q e fun z=>n1 us z.symm)];exact q,fun a o' u' q=>by rw[aH (yL q e fun z=>n2 o' u' z.symm)];exact q⟩
theorem SR.kp{B:Bs}{σ':St'}{H' H1':PHp}{σ:L2.St}{H H1:Hp}(s:SR K B σ' H' σ H)(e:Ev H' H H1' H1)(h:HR K H1' H1):SR K B σ' H1' σ H1 :=
 ⟨s.len,fun i v' q=>by obtain⟨v,a,b⟩:=s.loc i v' q;exact⟨v,a,RP.kp K (e.kp s.hp) b⟩,h,s.ev.trans e⟩
theorem HR.hid{H':PHp}{H:Hp}{p:Addr}{o:HO}(h:HR K H' H)(e:H p=none):HR K H' (upd H p o):=fun a u q=>by
 have na:a≠p:=by rintro rfl;rw[h.free e]at q;cases q
 exact(h a u q).keep (fF e) (aH na)
theorem Ev.hid{H':PHp}{H:Hp}{p:Addr}{o:HO}(e:H p=none):Ev H' H H' (upd H p o):=fun a u q n=>⟨by rw[aH (aT q e)];exact q,n⟩
theorem HR.new{H':PHp}{H:Hp}{p:Addr}{o:HO}{o':PO}(h:HR K H' H)(e:H p=none)(new:OAt K (upd H p o) p o'):HR K (put H' p o') (upd H p o):=fun a u q=>by
 by_cases hp:a=p
 ·subst hp;rw[ah]at q;cases q;exact new
 ·rw[aq hp]at q;exact(h a u q).keep (fF e) (aH hp)
theorem Ev.new{H':PHp}{H:Hp}{p:Addr}{o:HO}{o':PO}(e:H p=none):Ev H' H (put H' p o') (upd H p o):=fun a u q n=>by
 have na:=aT q e;exact⟨by rw[aH na];exact q,by rw[aq na];exact n⟩
theorem HR.wr{H':PHp}{H:Hp}{p:Addr}{o:HO}{o' u':PO}(h:HR K H' H)(e:H' p=some u')(new:OAt K (upd H p o) p o'):HR K (put H' p o') (upd H p o):=fun a u q=>by
 obtain⟨v,e1,n1,n2,_⟩:=(h p u' e).some;by_cases hp:a=p
 ·subst hp;rw[ah]at q;cases q;exact new
 ·rw[aq hp]at q;exact(h a u q).keep (mL e1 n1 n2) (aH hp)
theorem HR.kpw{H':PHp}{H:Hp}{p:Addr}{o:HO}{u':PO}(h:HR K H' H)(e:H' p=some u'):Kp H (upd H p o):=by
 obtain⟨v,e1,n1,n2,_⟩:=(h p u' e).some;exact mL e1 n1 n2
theorem Ev.wr{H':PHp}{H:Hp}{p:Addr}{o:HO}{o' u':PO}(e:H' p=some u'):Ev H' H (put H' p o') (upd H p o):=fun a u q n=>by
 have na:a≠p:=by rintro rfl;rw[e]at n;cases n
 exact⟨by rw[aH na];exact q,by rw[aq na];exact n⟩
def Sub(A B:PHp):Prop:=∀a o,A a=some o->B a=some o
theorem Sub.refl(A:PHp):Sub A A:=fun _ _ h=>h
theorem Sub.trans{A B C:PHp}(a:Sub A B)(b:Sub B C):Sub A C:=fun c o h=>b c o (a c o h)
theorem Sub.put{A B:PHp}{p:Addr}{o:PO}(a:Sub A B)(n:A p=none):Sub A (put B p o):=fun c u h=>by rw[aq (av h n)];exact a c u h
theorem Sub.free{A B:PHp}(a:Sub A B){p:Addr}(n:B p=none):A p=none:=by
 cases q:A p with
 | none=>rfl
 | some o=>rw[a p o q]at n;cases n
theorem HR.sub{A B:PHp}{H:Hp}(h:HR K B H)(s:Sub A B):HR K A H:=fun a o e=>h a o (s a o e)
theorem Ev.sub{H':PHp}{H:Hp}{A B:PHp}{H1:Hp}(e:Ev H' H B H1)(s:Sub A B):Ev H' H A H1:=fun a o q n=>by
 obtain⟨x,y⟩:=e a o q n;exact⟨x,s.free y⟩
end
end
section
variable {B:Bs}
abbrev VK':=PV->PHp->Prop
abbrev TE':=St'->PHp->VK'->Prop
abbrev TT':=St'->PHp->(Bool->PHp->Prop)->Prop
abbrev TA':=St'->PHp->(List PV->PHp->Prop)->Prop
abbrev XK':=Value->Option Addr->PHp->Prop
structure dY where
 nx:St'->PHp->Prop
 rt:VK'
 bk:St'->PHp->Prop:=fun _ _=>False
 ct:St'->PHp->Prop:=fun _ _=>False
abbrev TS':=dY->St'->PHp->Prop
abbrev TG':=PV->St'->PHp->(St'->PHp->Prop)->Prop
abbrev gS:=List PV->St'->PHp->(St'->PHp->Prop)->Prop
structure It' where
 items:List PV
 ok:PHp->Prop
abbrev TI':=St'->PHp->(It'->PHp->Prop)->Prop
section
variable (K:PySem.W.Frag)(B:Bs)
def low(t:TE'):TE:=fun σ H Q=>∃σ' H' Q',SR K B σ' H' σ H/\t σ' H' Q'/\∀v' H1' v H1,Q' v' H1'->RP K H1 v' v->SR K B σ' H1' σ H1->Ev H' H H1' H1->Q v H1
def nV(t:TT'):TT:=fun σ H Q=>∃σ' H' Q',SR K B σ' H' σ H/\t σ' H' Q'/\∀b H1' H1,Q' b H1'->SR K B σ' H1' σ H1->Ev H' H H1' H1->Q b H1
def sP(t:TA'):TA:=fun σ H Q=>∃σ' H' Q',SR K B σ' H' σ H/\t σ' H' Q'/\∀vs' H1' vs H1,Q' vs' H1'->RPs K H1 vs' vs->SR K B σ' H1' σ H1->Ev H' H H1' H1->Q vs H1
structure DR (D':dY) (D:Ends) (H':PHp) (H:Hp):Prop where
 nx:∀σ1' H1' σ1 H1,D'.nx σ1' H1'->SR K B σ1' H1' σ1 H1->Ev H' H H1' H1->D.nx σ1 H1
 rt:∀v' H1' v H1,D'.rt v' H1'->RP K H1 v' v->HR K H1' H1->Ev H' H H1' H1->D.rt v H1
 bk:∀σ1' H1' σ1 H1,D'.bk σ1' H1'->SR K B σ1' H1' σ1 H1->Ev H' H H1' H1->D.bk σ1 H1
 ct:∀σ1' H1' σ1 H1,D'.ct σ1' H1'->SR K B σ1' H1' σ1 H1->Ev H' H H1' H1->D.ct σ1 H1
theorem DR.ev{D':dY}{D:Ends}{H':PHp}{H:Hp}{H1':PHp}{H1:Hp}(d:DR K B D' D H' H)(e:Ev H' H H1' H1):DR K B D' D H1' H1 :=
 ⟨fun a b c f p q r=>d.nx a b c f p q (e.trans r),fun a b c f p q r s=>d.rt a b c f p q r (e.trans s),fun a b c f p q r=>d.bk a b c f p q (e.trans r),fun a b c f p q r=>d.ct a b c f p q (e.trans r)⟩
def BY(t:TS'):TS:=fun D σ H=>∃σ' H' D',SR K B σ' H' σ H/\t D' σ' H'/\DR K B D' D H' H
def lowG(t:TG'):TG:=fun v σ H Q=>∃v' σ' H' Q',RP K H v' v/\SR K B σ' H' σ H/\t v' σ' H' Q'/\∀σ1' H1' σ1 H1,Q' σ1' H1'->SR K B σ1' H1' σ1 H1->Ev H' H H1' H1->Q σ1 H1
def DT(t:gS):TGs:=fun vs σ H Q=>∃vs' σ' H' Q',RPs K H vs' vs/\SR K B σ' H' σ H/\t vs' σ' H' Q'/\∀σ1' H1' σ1 H1,Q' σ1' H1'->SR K B σ1' H1' σ1 H1->Ev H' H H1' H1->Q σ1 H1
structure Walks (H1:Hp) (J:It) (J':It'):Prop where
 go:∀H' H i,Kp H1 H->HR K H' H->J'.ok H'->i<J'.items.length->J.go i H
 yld:∀H' H i x H2,Kp H1 H->HR K H' H->J'.ok H'->J.yld i H x H2->H2=H/\∀x',J'.items[i]?=some x'->RP K H x' x
 stop:∀H' H i,Kp H1 H->HR K H' H->J'.ok H'->J'.items.length≤i->J.stop i H
def Ij(t:TI'):TI:=fun σ H R=>∃σ' H' R',SR K B σ' H' σ H/\t σ' H' R'/\∀J' H1' J H1,R' J' H1'->Walks K H1 J J'->SR K B σ' H1' σ H1->Ev H' H H1' H1->R J H1
end
section
variable {X:Cx}
theorem a7{e:Expr}{t1 t2:TE}(h:PE X e t2)(i:∀σ H Q,t1 σ H Q->t2 σ H Q):PE X e t1:=fun pins s σ H Q I q=>h pins s σ H Q I (i σ H Q q)
theorem oO{e:Expr}{t1 t2:TT}(h:PT X e t2)(i:∀σ H Q,t1 σ H Q->t2 σ H Q):PT X e t1:=fun pins s σ H Q I q=>h pins s σ H Q I (i σ H Q q)
theorem sY{e:Expr}{t1 t2:TT}(h:PW X e t2)(i:∀σ H Q,t1 σ H Q->t2 σ H Q):PW X e t1:=fun w pins s σ H Q I q=>h w pins s σ H Q I (i σ H Q q)
theorem vK{e:List Expr}{t1 t2:TA}(h:PA X e t2)(i:∀σ H Q,t1 σ H Q->t2 σ H Q):PA X e t1:=fun p pins s σ H Q I q=>h p pins s σ H Q I (i σ H Q q)
theorem dE{e:Stmt}{t1 t2:TS}(h:PS X e t2)(i:∀D σ H,t1 D σ H->t2 D σ H):PS X e t1:=fun pins s σ H D I q=>h pins s σ H D I (i D σ H q)
theorem o3{e:List Stmt}{t1 t2:TS}(h:PSs X e t2)(i:∀D σ H,t1 D σ H->t2 D σ H):PSs X e t1:=fun pins s σ H D I q=>h pins s σ H D I (i D σ H q)
theorem lC{e:Expr}{t1 t2:TG}(h:PG X e t2)(i:∀v σ H Q,t1 v σ H Q->t2 v σ H Q):PG X e t1:=fun pins s σ H v u Q I r q=>h pins s σ H v u Q I r (i v σ H Q q)
theorem pF{e:List Expr}{t1 t2:TGs}(h:PGs X e t2)(i:∀v σ H Q,t1 v σ H Q->t2 v σ H Q):PGs X e t1:=fun pins s σ H v u Q I r q=>h pins s σ H v u Q I r (i v σ H Q q)
theorem fx{tg e:Expr}{t1 t2:TI}(h:PI X tg e t2)(i:∀σ H Q,t1 σ H Q->t2 σ H Q):PI X tg e t1:=fun pins s σ H Q I q=>h pins s σ H Q I (i σ H Q q)
abbrev PE'(X:Cx)(B:Bs)(e:Expr)(t:TE'):Prop:=PE X e (low X.K B t)
abbrev PT'(X:Cx)(B:Bs)(e:Expr)(t:TT'):Prop:=PT X e (nV X.K B t)
abbrev PW'(X:Cx)(B:Bs)(e:Expr)(t:TT'):Prop:=PW X e (nV X.K B t)
abbrev PA'(X:Cx)(B:Bs)(e:List Expr)(t:TA'):Prop:=PA X e (sP X.K B t)
abbrev PS'(X:Cx)(B:Bs)(e:Stmt)(t:TS'):Prop:=PS X e (BY X.K B t)
abbrev iu(X:Cx)(B:Bs)(e:List Stmt)(t:TS'):Prop:=PSs X e (BY X.K B t)
abbrev PG'(X:Cx)(B:Bs)(e:Expr)(t:TG'):Prop:=PG X e (lowG X.K B t)
abbrev uS(X:Cx)(B:Bs)(e:List Expr)(t:gS):Prop:=PGs X e (DT X.K B t)
abbrev PI'(X:Cx)(B:Bs)(tg e:Expr)(t:TI'):Prop:=PI X tg e (Ij X.K B t)
structure ua (K:PySem.W.Frag) (H1:Hp) (J:It) (J':It'):Prop where
 go:∀H' H i,Kp H1 H->HR K H' H->J'.ok H'->i<J'.items.length->J.go i H
 yld:∀H' H i x H2,Kp H1 H->HR K H' H->J'.ok H'->J.yld i H x H2->HR K H' H2/\Ev H' H H' H2/\∀x',J'.items[i]?=some x'->RP K H2 x' x
 stop:∀H' H,Kp H1 H->HR K H' H->J'.ok H'->J.stop J'.items.length H
def yF(K:PySem.W.Frag)(B:Bs)(t:TI'):TI:=fun σ H R=>∃σ' H' R',SR K B σ' H' σ H/\t σ' H' R'/\∀J' H1' J H1,R' J' H1'->ua K H1 J J'->SR K B σ' H1' σ H1->Ev H' H H1' H1->R J H1
abbrev PIH(X:Cx)(B:Bs)(tg e:Expr)(t:TI'):Prop:=PI X tg e (yF X.K B t)
theorem Walks.toH{K:PySem.W.Frag}{H1:Hp}{J:It}{J':It'}(w:Walks K H1 J J'):ua K H1 J J':=⟨w.go,fun H' H i x H2 k hr o y=>by
 obtain⟨e,r⟩:=w.yld H' H i x H2 k hr o y;subst e;exact⟨hr,Ev.refl _ _,r⟩,fun H' H k hr o=>w.stop H' H _ k hr o (IS _)⟩
theorem oq{X:Cx}{tg e:Expr}{t:TI'}(h:PI' X B tg e t):PIH X B tg e t:=fx h fun σ H R q=>by
 obtain⟨σ',H',R',s,h,k⟩:=q;exact⟨σ',H',R',s,h,fun J' H1' J H1 r w=>k J' H1' J H1 r w.toH⟩
def ke(o:Option (Option PV))(k:PV->Prop):Prop:=match o with
 | some (some v)=>k v
 | _=>False
theorem ke.ex{o:Option (Option PV)}{k:PV->Prop}(h:ke o k):∃v,o=some (some v)/\k v:=by
 unfold ke at h;split at h
 ·exact⟨_,rfl,h⟩
 ·exact h.elim
def lU(i:Nat):TE':=fun σ H Q=>ke σ[i]? fun v=>Q v H
def uC(v:PV):TE':=fun _ H Q=>Q v H
theorem qv(i:Nat){x:Str}{pos:Pos}(hN:X.N[i]?=some x:=by rfl)(hv:Vis X.env.scope x:=by first | exact Or.inl rfl | exact Or.inr (Or.inl rfl) | exact Or.inr (Or.inr rfl))(hd:(x==("__debug__":Str))=false:=by decide)
  (hcd:(x==("__classdict__":Str))=false:=by decide):PE' X B (.Name x pos) (lU i):=a7 (pv i hN hv hd hcd) fun σ H Q y_=>by
 obtain⟨σ',H',Q',s,h,k⟩:=y_;obtain⟨v',e,q⟩:=h.ex;obtain⟨v,a,b⟩:=s.loc i v' e;exact⟨v,a,k v' H' v H q b s (Ev.refl _ _)⟩
theorem qH{K:PySem.W.Frag}{v':PV}{v:V}(r:∀H,RP K H v' v){σ:L2.St}{H:Hp}{Q:VK}(h:low K B (uC v') σ H Q):tC v σ H Q:=by
 obtain⟨σ',H',Q',s,h,k⟩:=h;exact k v' H' v H h (r H) s (Ev.refl _ _)
theorem ar{i j pos}:PE' X B (.Constant (.int i) j pos) (uC (.int i)):=a7 A1 fun _ _ _ h=>qH (fun _=>by simp[RP]) h
theorem bA{i j pos}:PE' X B (.Constant (.bool i) j pos) (uC (.bl i)):=a7 Ci fun _ _ _ h=>qH (fun _=>by simp[RP]) h
theorem iW{i j pos}:PE' X B (.Constant (.str i) j pos) (uC (.str i)):=a7 Bm fun _ _ _ h=>qH (fun _=>by simp[RP]) h
theorem kY{j pos}:PE' X B (.Constant .none j pos) (uC .non):=a7 zK fun _ _ _ h=>qH (fun _=>by simp[RP]) h
theorem kN{x:Str}{v':PV}{v:V}{u:Value}{pos:Pos}(hg:Gl X x)(hm:X.mg x=some u)(r:RelV v u)(r':∀H,RP X.K H v' v)(hd:(x==("__debug__":Str))=false:=by decide):PE' X B (.Name x pos) (uC v') :=
 a7 (wt hg hm r hd) fun _ _ _ h=>qH r' h
abbrev R2':=PV->PV->PHp->VK'->Prop
def VR(K:PySem.W.Frag)(B:Bs)(r':R2')(r:R2):Prop:=∀(σ':St') (σ:L2.St) (H':PHp) (H:Hp) x' y' x y (Q':VK') (Q:VK),SR K B σ' H' σ H->RP K H x' x->RP K H y' y->r' x' y' H' Q' ->
 (∀v' H1' v H1,Q' v' H1'->RP K H1 v' v->SR K B σ' H1' σ H1->Ev H' H H1' H1->Q v H1)->r x y H Q
def uOp(r:R2')(ta tb:TE'):TE':=fun σ H Q=>ta σ H fun x H1=>tb σ H1 fun y H2=>r x y H2 Q
theorem kX{K:PySem.W.Frag}{r':R2'}{r:R2}{ta tb:TE'}(v:VR K B r' r){σ:L2.St}{H:Hp}{Q:VK}(h:low K B (uOp r' ta tb) σ H Q):tOp r (low K B ta) (low K B tb) σ H Q:=by
 obtain⟨σ',H',Q',s,h,k⟩:=h;refine⟨σ',H',_,s,h,fun x' H1' x H1 h1 rx s1 e1=>⟨σ',H1',_,s1,h1,fun y' H2' y H2 h2 ry s2 e2=>?_⟩⟩;exact v σ' σ H2' H2 x' y' x y Q' Q s2 (RP.kp K (e2.kp s1.hp) rx) ry h2 fun v' H3' v H3 q rv s3 e3=>k v' H3' v H3 q rv s3 (e1.trans (e2.trans e3))
variable {a b c:Expr}{ta tb tc:TE'}{pos:Pos}
theorem fi{op:Operator}{r':R2'}{r:R2}(ho:OpR X (binaryOp op) r)(v:VR X.K B r' r)(ha:PE' X B a ta)(hb:PE' X B b tb):PE' X B (.BinOp a op b pos) (uOp r' ta tb):=a7 (Cc ho ha hb) fun _ _ _ h=>kX v h
theorem bK{op:CmpOp}{r':R2'}{r:R2}(ho:OpR X (compareOp op) r)(v:VR X.K B r' r)(ha:PE' X B a ta)(hb:PE' X B b tb)(hm:behindInMarks op b=false):PE' X B (.Compare a [op] [b] pos) (uOp r' ta tb) :=
 a7 (yC ho ha hb hm) fun _ _ _ h=>kX v h
def cif(b:Bool)(A B:Prop):Prop:=match b with
 | true=>A
 | false=>B
theorem DW{A B:Prop}:cif true A B=A:=rfl
theorem CC{A B:Prop}:cif false A B=B:=rfl
theorem aY{b:Bool}{A B:Prop}(h1:b=true->A)(h2:b=false->B):cif b A B:=by
 cases b
 ·exact h2 rfl
 ·exact h1 rfl
theorem aG{b:Bool}{A B:Prop}(h:b=true)(h1:A):cif b A B:=by subst h;exact h1
theorem aA{b:Bool}{A B:Prop}(h:b=false)(h1:B):cif b A B:=by subst h;exact h1
theorem o7{c:Prop}[Decidable c]{A B:Prop}(h1:c->A)(h2:¬c->B):cif (decide c) A B:=by
 by_cases h:c
 ·exact aG (JE h) (h1 h)
 ·exact aA (J2 h) (h2 h)
def d7(x:PV)(k:Bool->Prop):Prop:=match x with
 | .bl b=>k b
 | _=>False
theorem d7.ex{x:PV}{k:Bool->Prop}(h:d7 x k):∃v,x=.bl v/\k v:=by
 unfold d7 at h;split at h
 ·exact⟨_,rfl,h⟩
 ·exact h.elim
def bY(x:PV)(k:Int->Prop):Prop:=match x with
 | .int i=>k i
 | _=>False
theorem bY.ex{x:PV}{k:Int->Prop}(h:bY x k):∃v,x=.int v/\k v:=by
 unfold bY at h;split at h
 ·exact⟨_,rfl,h⟩
 ·exact h.elim
def hU(t:TE'):TT':=fun σ H Q=>t σ H fun x H1=>d7 x fun b=>Q b H1
theorem lT{K:PySem.W.Frag}{t:TE'}{σ:L2.St}{H:Hp}{Q:Bool->Hp->Prop}(h:nV K B (hU t) σ H Q):yT (low K B t) σ H Q:=by
 obtain⟨σ',H',Q',s,h,k⟩:=h;refine⟨σ',H',_,s,h,fun x' H1' x H1 h1 rx s1 e1=>?_⟩;obtain⟨b,rfl,q⟩:=h1.ex;simp only[RP]at rx;exact⟨b,rx,k b H1' H1 q s1 e1⟩
theorem aQ{e:Expr}{t:TE'}(h:PE' X B e t)(he:∀whole,isTrue e X.env whole=(do let v←whole;standAt e.pos;holding [v] (truthy v)):=by intro _;rfl):PT' X B e (hU t):=oO (Bz h he) fun _ _ _ h=>lT h
theorem uO{op:CmpOp}{r':R2'}{r:R2}(ho:OpR X (compareOp op) r)(v:VR X.K B r' r)(ha:PE' X B a ta)(hb:PE' X B b tb)(hm:behindInMarks op b=false):PT' X B (.Compare a [op] [b] pos) (hU (uOp r' ta tb)) :=
 oO (wH ho ha hb hm) fun _ _ _ h=>by
  obtain⟨σ',H',Q',s,h,k⟩:=lT h;exact kX v ⟨σ',H',Q',s,h,k⟩
def Az(r r':R2')(ta tb tc:TE'):TE':=fun σ H Q=>ta σ H fun x H1=>tb σ H1 fun y H2=>r x y H2 fun z H3=>d7 z fun k=>cif k (tc σ H3 fun w' H4=>r' y w' H4 Q) (Q (.bl false) H3)
def uI(C:Int->Int->Prop)(g:Int->Int->PV):R2':=fun x y H Q=>bY x fun i=>bY y fun j=>C i j/\Q (g i j) H
def uI0(g:Int->Int->PV):R2':=fun x y H Q=>bY x fun i=>bY y fun j=>Q (g i j) H
theorem uF{K:PySem.W.Frag}{C:Int->Int->Prop}{g':Int->Int->PV}{g:Int->Int->V}(r:∀i j H,RP K H (g' i j) (g i j)):VR K B (uI C g') (rI C g):=by
 intro σ' σ H' H x' y' x y Q' Q s rx ry h k;obtain⟨i,rfl,h1⟩:=bY.ex h;obtain⟨j,rfl,hc,h⟩:=bY.ex h1;simp only[RP]at rx ry;exact⟨i,j,rx,ry,hc,k _ H' _ H h (r i j H) s (Ev.refl _ _)⟩
theorem ja{K:PySem.W.Frag}{g':Int->Int->PV}{g:Int->Int->V}(r:∀i j H,RP K H (g' i j) (g i j)):VR K B (uI0 g') (rI0 g):=by
 intro σ' σ H' H x' y' x y Q' Q s rx ry h k;obtain⟨i,rfl,h1⟩:=bY.ex h;obtain⟨j,rfl,h⟩:=bY.ex h1;simp only[RP]at rx ry;exact⟨i,j,rx,ry,k _ H' _ H h (r i j H) s (Ev.refl _ _)⟩
abbrev Ge:R2':=uI0 fun i j=>.int (i+j)
abbrev HG:R2':=uI0 fun i j=>.int (i - j)
abbrev uLt:R2':=uI0 fun i j=>.bl (decide (i<j))
abbrev uLe:R2':=uI0 fun i j=>.bl (decide (i≤j))
abbrev uGt:R2':=uI0 fun i j=>.bl (decide (j<i))
abbrev uGe:R2':=uI0 fun i j=>.bl (decide (j≤i))
def Fit(i:Int):Prop:=i.natAbs.log2<9000
def lR(i j:Int):Prop:=Bx i j∨(Fit i/\Fit j)
def uc(i j:Int):Prop:=j≠0/\Fit j
theorem lR.ok{i j:Int}(h:lR i j):IntMulOk i j:=by
 rcases h with h |⟨h1,h2⟩
 ·exact h.ok
 ·unfold IntMulOk;have e:∀x:Int,Fit x->Builtin.Int.intBits x≤9000:=fun x hx=>by
   unfold Builtin.Int.intBits Fit at *;split<;>omega
  have e1:=e i h1;have e2:=e j h2;have e3:Builtin.Int.intTooBig (Builtin.Int.intBits i+Builtin.Int.intBits j)=false:=by
   unfold Builtin.Int.intTooBig;refine J2 ?_;show ¬(bitsLine:Int)<_;have hb:(18000:Nat)≤bitsLine:=by decide +kernel
   omega
  rw[e3];simp
abbrev Hz:R2':=uI lR fun i j=>.int (i*j)
abbrev EY:R2':=uI uc fun i j=>.int (i.fdiv j)
theorem wR{X:Cx}:OpR X (binaryOp .Mult) (rI lR fun i j=>.int (i*j)):=opI fun _ _ _ _ _ _ _ hc q=>mul_int q hc.ok
theorem uj{X:Cx}:OpR X (binaryOp .FloorDiv) (rI uc fun i j=>.int (i.fdiv j)):=opI fun _ _ _ _ _ _ _ hc q=>floordiv_int hc.1 q (.inl (PyProof.noPylong_of_log2 hc.2))
abbrev Gk:R2':=uI (fun _ j=>j≠0) fun i j=>.int (i.fmod j)
theorem cR(ha:PE' X B a ta)(hb:PE' X B b tb):PE' X B (.BinOp a .Add b pos) (uOp Ge ta tb):=fi Ai (ja fun _ _ _=>by simp[RP]) ha hb
theorem AD(ha:PE' X B a ta)(hb:PE' X B b tb):PE' X B (.BinOp a .Sub b pos) (uOp HG ta tb):=fi Ah (ja fun _ _ _=>by simp[RP]) ha hb
theorem gW(ha:PE' X B a ta)(hb:PE' X B b tb):PE' X B (.BinOp a .Mult b pos) (uOp Hz ta tb):=fi wR (uF fun _ _ _=>by simp[RP]) ha hb
theorem lP(ha:PE' X B a ta)(hb:PE' X B b tb):PE' X B (.BinOp a .FloorDiv b pos) (uOp EY ta tb):=fi uj (uF fun _ _ _=>by simp[RP]) ha hb
theorem cM(ha:PE' X B a ta)(hb:PE' X B b tb):PE' X B (.BinOp a .Mod b pos) (uOp Gk ta tb):=fi vV (uF fun _ _ _=>by simp[RP]) ha hb
theorem h7{K:PySem.W.Frag}:VR K B uLt (rI0 fun i j=>.bl (decide (i<j))):=ja fun _ _ _=>by simp[RP]
theorem zh{K:PySem.W.Frag}:VR K B uLe (rI0 fun i j=>.bl (decide (i≤j))):=ja fun _ _ _=>by simp[RP]
theorem fe{K:PySem.W.Frag}:VR K B uGt (rI0 fun i j=>.bl (decide (j<i))):=ja fun _ _ _=>by simp[RP]
theorem uY{K:PySem.W.Frag}:VR K B uGe (rI0 fun i j=>.bl (decide (j≤i))):=ja fun _ _ _=>by simp[RP]
end
end
section
variable {B:Bs}
section
variable {X:Cx}{a b c e o:Expr}{es rest:List Expr}{ta tb tc:TE'}{tA tB:TT'}{t:TA'}{pos:Pos}
def Ea(t u:TT'):TT':=fun σ H Q=>t σ H fun c H1=>cif c (u σ H1 Q) (Q false H1)
def uOr(t u:TT'):TT':=fun σ H Q=>t σ H fun c H1=>cif c (Q true H1) (u σ H1 Q)
def CV(t:TT'):TT':=fun σ H Q=>t σ H fun c H1=>Q (!c) H1
theorem bQ(ha:PT' X B a tA):PW' X B (.BoolOp .And [a] pos) tA:=xq ha
theorem df(ha:PT' X B a tA):PW' X B (.BoolOp .Or [a] pos) tA:=Bu ha
theorem cc(ha:PT' X B a tA)(hb:PW' X B (.BoolOp .And (b::rest) pos) tB):PW' X B (.BoolOp .And (a::b::rest) pos) (Ea tA tB):=sY (Bq ha hb) fun σ H Q y_=>by
 obtain⟨σ',H',Q',s,h,k⟩:=y_;refine⟨σ',H',_,s,h,fun x H1' H1 h1 s1 e1=>?_⟩;cases x with
 | true=>exact mq ⟨σ',H1',_,s1,h1,fun y H2' H2 h2 s2 e2=>k y H2' H2 h2 s2 (e1.trans e2)⟩
 | false=>exact mj (k false H1' H1 h1 s1 e1)
theorem fh(ha:PT' X B a tA)(hb:PW' X B (.BoolOp .Or (b::rest) pos) tB):PW' X B (.BoolOp .Or (a::b::rest) pos) (uOr tA tB):=sY (El ha hb) fun σ H Q y_=>by
 obtain⟨σ',H',Q',s,h,k⟩:=y_;refine⟨σ',H',_,s,h,fun x H1' H1 h1 s1 e1=>?_⟩;cases x with
 | false=>exact mj ⟨σ',H1',_,s1,h1,fun y H2' H2 h2 s2 e2=>k y H2' H2 h2 s2 (e1.trans e2)⟩
 | true=>exact mq (k true H1' H1 h1 s1 e1)
theorem ba(h:PW' X B e tA):PT' X B e tA:=PW.pt h
theorem bO(ha:PT' X B a tA):PT' X B (.UnaryOp .Not a pos) (CV tA):=oO (Bp ha) fun σ H Q ⟨σ',H',Q',s,h,k⟩=>⟨σ',H',_,s,h,fun x H1' H1 h1 s1 e1=>k _ H1' H1 h1 s1 e1⟩
def yX(ta tb:TE'):TE':=fun σ H Q=>ta σ H fun x H1=>d7 x fun c=>cif c (tb σ H1 Q) (Q (.bl false) H1)
def FL(ta tb:TE'):TE':=fun σ H Q=>ta σ H fun x H1=>d7 x fun c=>cif c (Q (.bl true) H1) (tb σ H1 Q)
def yN(ta:TE'):TE':=fun σ H Q=>ta σ H fun x H1=>d7 x fun c=>Q (.bl (!c)) H1
theorem cw{op}(h:PE' X B a ta):PE' X B (.BoolOp op [a] pos) ta:=Bk h
theorem cb(ha:PE' X B a ta)(hb:PE' X B (.BoolOp .And (b::rest) pos) tb):PE' X B (.BoolOp .And (a::b::rest) pos) (yX ta tb):=a7 (zN ha hb) fun σ H Q y_=>by
 obtain⟨σ',H',Q',s,h,k⟩:=y_;refine⟨σ',H',_,s,h,fun x H1' v H1 h1 r1 s1 e1=>?_⟩;obtain⟨y,rfl,h1⟩:=h1.ex;simp only[RP]at r1;refine⟨y,r1,?_⟩;cases y with
 | true=>exact mq ⟨σ',H1',_,s1,h1,fun y H2' v2 H2 h2 r2 s2 e2=>k y H2' v2 H2 h2 r2 s2 (e1.trans e2)⟩
 | false=>exact mj (k _ H1' _ H1 h1 (by simp[RP]) s1 e1)
theorem nT(ha:PE' X B a ta):PE' X B (.UnaryOp .Not a pos) (yN ta):=a7 (BX ha) fun σ H Q y_=>by
 obtain⟨σ',H',Q',s,h,k⟩:=y_;refine⟨σ',H',_,s,h,fun x H1' v H1 h1 r1 s1 e1=>?_⟩;obtain⟨y,rfl,h1⟩:=h1.ex;simp only[RP]at r1;exact⟨y,r1,k _ H1' _ H1 h1 (by simp[RP]) s1 e1⟩
def uIf(t:TT')(ta tb:TE'):TE':=fun σ H Q=>t σ H fun c H1=>cif c (ta σ H1 Q) (tb σ H1 Q)
def uUn(r:PV->PHp->VK'->Prop)(ta:TE'):TE':=fun σ H Q=>ta σ H fun x H1=>r x H1 Q
theorem cg(ha:PE' X B a ta):PE' X B (.UnaryOp .USub a pos) (uUn (fun x H Q=>bY x fun i=>Q (.int (-i)) H) ta):=a7 (D6 zB ha) fun σ H Q y_=>by
 obtain⟨σ',H',Q',s,h,k⟩:=y_;refine⟨σ',H',_,s,h,fun x H1' v H1 h1 r1 s1 e1=>?_⟩;obtain⟨i,rfl,h1⟩:=bY.ex h1;simp only[RP]at r1;exact⟨i,r1,k _ H1' _ H1 h1 (by simp[RP]) s1 e1⟩
def C1:TA':=fun _ H Q=>Q [] H
def zi(ta:TE')(tr:TA'):TA':=fun σ H Q=>ta σ H fun x H1=>tr σ H1 fun xs H2=>Q (x::xs) H2
theorem ae:PA' X B [] C1:=vK cT fun σ H Q ⟨σ',H',Q',s,h,k⟩=>k [] H' [] H h (RPs.nil _) s (Ev.refl _ _)
theorem aa(ha:PE' X B e ta)(hr:PA' X B es t)(hs:starEach (e::es) X.env=(false,eval e X.env)::starEach es X.env:=by rfl):PA' X B (e::es) (zi ta t):=vK (b7 ha hr hs) fun σ H Q y_=>by
 obtain⟨σ',H',Q',s,h,k⟩:=y_;refine⟨σ',H',_,s,h,fun x H1' v H1 h1 r1 s1 e1=>⟨σ',H1',_,s1,h1,fun xs H2' vs H2 h2 r2 s2 e2=>?_⟩⟩;exact k _ H2' _ H2 h2 (RPs.cons _ (RP.kp _ (e2.kp s1.hp) r1) r2) s2 (e1.trans e2)
def Cn(t:TA'):TE':=fun σ H Q=>t σ H fun xs H1=>xs.length≤sizeLine/\Q (.tup xs) H1
def Ez(t:TA'):TE':=fun σ H Q=>t σ H fun xs H1=>xs.length≤sizeLine/\∀p,H1 p=none->Q (.ref p) (put H1 p (.lst xs))
theorem SR.hid{K:PySem.W.Frag}{σ':St'}{σ:L2.St}{H':PHp}{H:Hp}{p:Addr}{o:HO}(s:SR K B σ' H' σ H)(n:H p=none):SR K B σ' H' σ (upd H p o):=s.kp (Ev.hid n) (s.hp.hid n)
theorem SR.new{K:PySem.W.Frag}{σ':St'}{σ:L2.St}{H':PHp}{H:Hp}{p:Addr}{o:HO}{o':PO}(s:SR K B σ' H' σ H)(n:H p=none)(w:OAt K (upd H p o) p o'):SR K B σ' (put H' p o') σ (upd H p o):=s.kp (Ev.new n) (s.hp.new n w)
theorem SR.wr{K:PySem.W.Frag}{σ':St'}{σ:L2.St}{H':PHp}{H:Hp}{p:Addr}{o:HO}{o' u':PO}(s:SR K B σ' H' σ H)(n:H' p=some u')(w:OAt K (upd H p o) p o'):SR K B σ' (put H' p o') σ (upd H p o):=s.kp (Ev.wr n) (s.hp.wr n w)
theorem oX{K:PySem.W.Frag}{H:Hp}{p:Addr}{xs:List PV}{us:List V}(n:H p=none)(r:RPs K H xs us):RP K (upd H p (.tup us)) (.tup xs) (.ref p):=by
 simp only[RP];exact⟨p,us,rfl,SqT.of aR,RPs.kp K (fF n) r⟩
theorem mE{K:PySem.W.Frag}{H:Hp}{p:Addr}{xs:List PV}{us:List V}(n:H p=none)(r:RPs K H xs us):OAt K (upd H p (.lst us)) p (.lst xs):=⟨us,aR,RPs.kp K (fF n) r⟩
theorem wrL{K:PySem.W.Frag}{H':PHp}{H:Hp}{p:Addr}{u':PO}{xs:List PV}{us:List V}(h:HR K H' H)(n:H' p=some u')(r:RPs K H xs us):OAt K (upd H p (.lst us)) p (.lst xs):=⟨us,aR,RPs.kp K (h.kpw n) r⟩
theorem bg{x1}(h:PA' X B es t):PE' X B (.Tuple es x1 pos) (Cn t):=a7 (uv h) fun σ H Q y_=>by
 obtain⟨σ',H',Q',s,h,k⟩:=y_;refine⟨σ',H',_,s,h,fun xs H1' us H1 h1 r1 s1 e1=>⟨by rw[RPs.length _ r1];exact h1.1,fun p n=>?_⟩⟩;exact k _ H1' _ _ h1.2 (oX n r1) (s1.hid n) (e1.trans (Ev.hid n))
theorem bh(h:PA' X B es t):PE' X B (.List es pos) (Ez t):=a7 (A7 h) fun σ H Q y_=>by
 obtain⟨σ',H',Q',s,h,k⟩:=y_;refine⟨σ',H',_,s,h,fun xs H1' us H1 h1 r1 s1 e1=>⟨by rw[RPs.length _ r1];exact h1.1,fun p n=>?_⟩⟩;exact k _ _ _ _ (h1.2 p (s1.hp.free n)) (by simp[RP]) (s1.new n (mE n r1)) (e1.trans (Ev.new n))
def cB(x:PV)(H:PHp)(k:List PV->Prop):Prop:=match x with
 | .tup l=>k l
 | .fls l=>k l
 | .ref a=>∃l,H a=some (.lst l)/\k l
 | _=>False
theorem cB.ex{K:PySem.W.Frag}{σ':St'}{σ:L2.St}{x:PV}{v:V}{H':PHp}{H:Hp}{k:List PV->Prop}(h:cB x H' k)(s:SR K B σ' H' σ H)(r:RP K H x v):∃l us p,v=.ref p/\RPs K H l us/\(SqL K H p us∨SqT K H p us)/\k l:=by
 unfold cB at h;split at h
 ·simp only[RP]at r;obtain⟨a,us,e,q,r⟩:=r;exact⟨_,us,a,e,r,.inr q,h⟩
 ·simp only[RP]at r;obtain⟨a,us,e,q,r⟩:=r;exact⟨_,us,a,e,r,.inl q.sq,h⟩
 ·simp only[RP]at r;obtain⟨l,e,h⟩:=h;obtain⟨us,q,r2⟩:=s.hp _ _ e;exact⟨l,us,_,r,r2,.inl (SqL.of q),h⟩
 ·exact h.elim
theorem z8{K:PySem.W.Frag}{H:Hp}{l:List PV}{us:List V}{i:Int}{x:PV}(r:RPs K H l us)(e:atI l i=some x):∃u,atI us i=some u/\RP K H x u:=by
 unfold atI at e ⊢;rw[RPs.length _ r];cases q:ixN l.length i with
 | none=>rw[q]at e;cases e
 | some j =>
  rw[q]at e;obtain⟨u,e1,e2⟩:=RPs.get _ r (show l[j]?=some x from e);exact⟨u,e1,e2⟩
def j5(o:Option PV)(k:PV->Prop):Prop:=match o with
 | some v=>k v
 | none=>False
theorem j5.ex{o:Option PV}{k:PV->Prop}(h:j5 o k):∃v,o=some v/\k v:=by
 unfold j5 at h;split at h
 ·exact⟨_,rfl,h⟩
 ·exact h.elim
def uIx:R2':=fun x y H Q=>cB x H fun l=>bY y fun i=>j5 (atI l i) fun v=>Q v H
theorem vS{X:Cx}:IxR X (fun x y H Q=>Be X.K x y H Q∨BV X.K x y H Q):=wo.or A9
theorem CM{K:PySem.W.Frag}:VR K B uIx (fun x y H Q=>Be K x y H Q∨BV K x y H Q):=by
 intro σ' σ H' H x' y' x y Q' Q s rx ry h k;obtain⟨l,us,p,rfl,r,q,h1⟩:=cB.ex h s rx;obtain⟨i,rfl,h2⟩:=bY.ex h1;obtain⟨v,e,h3⟩:=j5.ex h2;simp only[RP]at ry;obtain⟨u,e1,e2⟩:=z8 r e;have:=k v H' u H h3 e2 s (Ev.refl _ _);rcases q with q | q
 ·exact .inl ⟨p,us,i,u,rfl,ry,q,e1,this⟩
 ·exact .inr ⟨p,us,i,u,rfl,ry,q,e1,this⟩
theorem EW(ha:PE' X B a ta)(hb:PE' X B b tb)(hs:lr b):PE' X B (.Subscript a b pos) (uOp uIx ta tb):=a7 (Dp vS ha hb hs) fun _ _ _ h=>kX CM h
abbrev TO':=St'->PHp->(Option Int->PHp->Prop)->Prop
def HU(K:PySem.W.Frag)(B:Bs)(t:TO'):TO:=fun σ H Q=>∃σ' H' Q',SR K B σ' H' σ H/\t σ' H' Q'/\∀b H1' H1,Q' b H1'->SR K B σ' H1' σ H1->Ev H' H H1' H1->Q b H1
abbrev PO'(X:Cx)(B:Bs)(e:Option Expr)(t:TO'):Prop:=L2.PO X e (HU X.K B t)
theorem r8{e:Option Expr}{t1 t2:TO}(h:L2.PO X e t2)(i:∀σ H Q,t1 σ H Q->t2 σ H Q):L2.PO X e t1:=fun pins s σ H Q I q=>h pins s σ H Q I (i σ H Q q)
def pH:TO':=fun _ H Q=>Q none H
def yR(t:TE'):TO':=fun σ H Q=>t σ H fun x H1=>bY x fun i=>Q (some i) H1
theorem iD:PO' X B none pH:=r8 xi fun σ H Q ⟨σ',H',Q',s,h,k⟩=>k none H' H h s (Ev.refl _ _)
theorem eh(h:PE' X B e ta):PO' X B (some e) (yR ta):=r8 (wK h) fun σ H Q y_=>by
 obtain⟨σ',H',Q',s,h,k⟩:=y_;refine⟨σ',H',_,s,h,fun x H1' v H1 h1 r1 s1 e1=>?_⟩;obtain⟨i,rfl,h1⟩:=bY.ex h1;simp only[RP]at r1;exact⟨i,r1,k _ H1' H1 h1 s1 e1⟩
def cY(xs:List PV)(lo hi:Option Int):List PV:=(xs.drop (HT.sIx xs.length 0 lo)).take (HT.sIx xs.length xs.length hi - HT.sIx xs.length 0 lo)
theorem kM{K:PySem.W.Frag}{H:Hp}{l:List PV}{us:List V}{lo hi:Option Int}(r:RPs K H l us):RPs K H (cY l lo hi) (k6 us lo hi):=by
 unfold cY k6;rw[RPs.length _ r];exact RPs.take _ _ (RPs.drop _ _ r)
def sliceOf(x:PV)(lo hi:Option Int)(H3:PHp)(Q:VK'):Prop:=match x with
 | .fls l=>∀p,H3 p=none->Q (.ref p) (put H3 p (.lst (cY l lo hi)))
 | .ref a=>∃l,H3 a=some (.lst l)/\∀p,H3 p=none->Q (.ref p) (put H3 p (.lst (cY l lo hi)))
 | .tup l=>¬(HT.sIx l.length 0 lo=0/\HT.sIx l.length l.length hi=l.length)/\Q (.tup (cY l lo hi)) H3
 | _=>False
def ve(ta:TE')(tl th:TO'):TE':=fun σ H Q=>ta σ H fun x H1=>tl σ H1 fun lo H2=>th σ H2 fun hi H3=>sliceOf x lo hi H3 Q
theorem jx{lo hi:Option Expr}{tl th:TO'}{p2:Pos}(he:PE' X B e ta)(hl:PO' X B lo tl)(hu:PO' X B hi th):PE' X B (.Subscript e (.Slice lo hi none p2) pos) (ve ta tl th) :=
 a7 (nh (vN.or uZ) he hl hu) fun σ H Q y_=>by
 obtain⟨σ',H',Q',s,h,k⟩:=y_;refine⟨σ',H',_,s,h,fun x H1' v H1 h1 r1 s1 e1=>⟨σ',H1',_,s1,h1,fun l H2' H2 h2 s2 e2=>⟨σ',H2',_,s2,h2,fun u H3' H3 h3 s3 e3=>?_⟩⟩⟩;have r3:=RP.kp _ (e3.kp s2.hp) (RP.kp _ (e2.kp s1.hp) r1);have e123:=e1.trans (e2.trans e3);cases x with
 | fls xs =>
  simp only[RP]at r3;obtain⟨a,us,e,q,r⟩:=r3;refine .inl ⟨a,us,e,q.sq,fun p n=>?_⟩;exact k _ _ _ _ (h3 p (s3.hp.free n)) (by simp[RP]) (s3.new n (mE n (kM r))) (e123.trans (Ev.new n))
 | ref a =>
  simp only[RP]at r3;obtain⟨xs,q,h3⟩:=h3;obtain⟨us,q2,r⟩:=s3.hp _ _ q;refine .inl ⟨a,us,r3,SqL.of q2,fun p n=>?_⟩;exact k _ _ _ _ (h3 p (s3.hp.free n)) (by simp[RP]) (s3.new n (mE n (kM r))) (e123.trans (Ev.new n))
 | tup xs =>
  simp only[RP]at r3;obtain⟨a,us,e,q,r⟩:=r3;refine .inr ⟨a,us,e,q,by rw[RPs.length _ r];exact h3.1,fun p n=>?_⟩;exact k _ _ _ _ h3.2 (oX n (kM r)) (s3.hid n) (e123.trans (Ev.hid n))
 | _=>exact h3.elim
def VC(K:PySem.W.Frag)(B:Bs)(r':List PV->PHp->VK'->Prop)(r:List V->Hp->VK->Prop):Prop:=∀(σ':St') (σ:L2.St) (H':PHp) (H:Hp) xs' xs (Q':VK') (Q:VK),SR K B σ' H' σ H->RPs K H xs' xs->r' xs' H' Q' ->
 (∀v' H1' v H1,Q' v' H1'->RP K H1 v' v->SR K B σ' H1' σ H1->Ev H' H H1' H1->Q v H1)->r xs H Q
def uCB(r:List PV->PHp->VK'->Prop)(t:TA'):TE':=fun σ H Q=>t σ H fun vs H1=>r vs H1 Q
theorem tW{K:PySem.W.Frag}{r':List PV->PHp->VK'->Prop}{r:List V->Hp->VK->Prop}{t:TA'}(v:VC K B r' r){σ:L2.St}{H:Hp}{Q:VK}(h:low K B (uCB r' t) σ H Q):tCB r (sP K B t) σ H Q:=by
 obtain⟨σ',H',Q',s,h,k⟩:=h;exact⟨σ',H',_,s,h,fun xs' H1' xs H1 h1 rx s1 e1=>v σ' σ H1' H1 xs' xs Q' Q s1 rx h1 fun v' H3' v H3 q rv s3 e3=>k v' H3' v H3 q rv s3 (e1.trans e3)⟩
variable {x:Str}{p:Pos}
theorem aw{id:String}{r':List PV->PHp->VK'->Prop}{r:List V->Hp->VK->Prop}(hc:cf X (.builtin id) r)(v:VC X.K B r' r)(hg:Gl X x)(hm:X.mg x=none)(hv:bootBuiltins x=some (.builtin id))(ha:PA' X B (e::es) t)
  (hn:x≠"__name__":=by decide) (hdb:(x==("__debug__":Str))=false:=by decide) (he:starEach (e::es) X.env=(false,eval e X.env)::starEach es X.env:=by rfl) (hpl:(backTo pos (starEach es X.env)).any (·.1)=false:=by rfl) :
  PE' X B (.Call (.Name x p) (e::es) [] pos) (uCB r' t):=a7 (dZ hc hg hm hv ha hn hdb he hpl) fun _ _ _ h=>tW v h
theorem aL{id:String}{r':List PV->PHp->VK'->Prop}{r:List V->Hp->VK->Prop}(hc:cf X (.type id) r)(v:VC X.K B r' r)(hg:Gl X x)(hm:X.mg x=none)(hv:bootBuiltins x=some (.type id))(ha:PA' X B (e::es) t)
  (hn:x≠"__name__":=by decide) (hdb:(x==("__debug__":Str))=false:=by decide) (he:starEach (e::es) X.env=(false,eval e X.env)::starEach es X.env:=by rfl) (hpl:(backTo pos (starEach es X.env)).any (·.1)=false:=by rfl) :
  PE' X B (.Call (.Name x p) (e::es) [] pos) (uCB r' t):=a7 (eU hc hg hm hv ha hn hdb he hpl) fun _ _ _ h=>tW v h
def cP(f:PV->PHp->VK'->Prop):List PV->PHp->VK'->Prop:=fun xs H Q=>match xs with
 | [x]=>f x H Q
 | _=>False
theorem cP.ex{K:PySem.W.Frag}{H:Hp}{f:PV->PHp->VK'->Prop}{xs':List PV}{xs:List V}{H':PHp}{Q':VK'}(h:cP f xs' H' Q')(r:RPs K H xs' xs):∃x' x,xs'=[x']/\xs=[x]/\RP K H x' x/\f x' H' Q':=by
 unfold cP at h;split at h
 ·simp only[RPs]at r;obtain⟨u,r,rfl,q,rfl⟩:=r;exact⟨_,u,rfl,rfl,q,h⟩
 ·exact h.elim
def C2:List PV->PHp->VK'->Prop:=cP fun x H Q=>cB x H fun l=>Q (.int l.length) H
theorem aU{K:PySem.W.Frag}:VC K B C2 (fun xs H Q=>∃p ys,xs=[.ref p]/\(SqL K H p ys∨SqT K H p ys)/\Q (.int ys.length) H):=by
 intro σ' σ H' H xs' xs Q' Q s r h k;obtain⟨x',x,rfl,rfl,rx,h⟩:=cP.ex h r;obtain⟨l,us,p,rfl,r,q,h⟩:=cB.ex h s rx;exact⟨p,us,rfl,q,k _ H' _ H h (by simp[RP,RPs.length _ r]) s (Ev.refl _ _)⟩
def HW:List PV->PHp->VK'->Prop:=cP fun x H Q=>bY x fun i=>Q (.int (if i<0 then -i else i)) H
def b2n(b:Bool):Int:=if b then 1 else 0
def intOf(x:PV)(k:Int->Prop):Prop:=match x with
 | .int i=>k i
 | .bl b=>k (b2n b)
 | _=>False
def Hu:List PV->PHp->VK'->Prop:=cP fun x H Q=>intOf x fun i=>Q (.int i) H
def zq:List PV->PHp->VK'->Prop:=cP fun x H Q=>cB x H fun l=>∀p,H p=none->Q (.ref p) (put H p (.lst l))
theorem dI{K:PySem.W.Frag}:VC K B zq (fun xs H Q=>∃p ys,xs=[.ref p]/\(SqL K H p ys∨SqT K H p ys)/\∀l,H l=none->Q (.ref l) (upd H l (.lst ys))):=by
 intro σ' σ H' H xs' xs Q' Q s r h k;obtain⟨x',x,rfl,rfl,rx,h⟩:=cP.ex h r;obtain⟨l,us,p,rfl,r,q,h⟩:=cB.ex h s rx;exact⟨p,us,rfl,q,fun p n=>k _ _ _ _ (h p (s.hp.free n)) (by simp[RP]) (s.new n (mE n r)) (Ev.new n)⟩
def vj:List PV->PHp->VK'->Prop:=cP fun x H Q=>cB x H fun l=>Q (.tup l) H
theorem a8{K:PySem.W.Frag}:VC K B vj (fun xs H Q=>∃p ys,xs=[.ref p]/\((SqL K H p ys/\∀l,H l=none->Q (.ref l) (upd H l (.tup ys)))∨(SqT K H p ys/\Q (.ref p) H))):=by
 intro σ' σ H' H xs' xs Q' Q s r h k;obtain⟨x',x,rfl,rfl,rx,h⟩:=cP.ex h r;obtain⟨l,us,p,rfl,r,q,h⟩:=cB.ex h s rx;refine⟨p,us,rfl,?_⟩;rcases q with q | q
 ·exact .inl ⟨q,fun p n=>k _ _ _ _ h (oX n r) (s.hid n) (Ev.hid n)⟩
 ·exact .inr ⟨q,k _ _ _ _ h (by simp only[RP];exact⟨p,us,rfl,q,r⟩) s (Ev.refl _ _)⟩
end
end
section
variable {B:Bs}
section
variable {X:Cx}{a b c e o:Expr}{es:List Expr}{ta tb te:TE'}{tA tB:TT'}{st:Stmt}{sts:List Stmt}{t u:TS'}{pos:Pos}
def ph:TS':=fun D σ H=>D.nx σ H
def qX(t u:TS'):TS':=fun D σ H=>t { D with nx:=u D } σ H
theorem aB:iu X B [] ph:=o3 xu fun D σ H ⟨σ',H',D',s,h,d⟩=>d.nx _ _ _ _ h s (Ev.refl _ _)
theorem af(h1:PS' X B st t)(h2:iu X B sts u):iu X B (st::sts) (qX t u):=o3 (uV h1 h2) fun D σ H ⟨σ',H',D',s,h,d⟩ =>
 ⟨σ',H',_,s,h,fun σ1' H1' σ1 H1 h1 s1 e1=>⟨σ1',H1',D',s1,h1,d.ev _ _ e1⟩,d.rt,d.bk,d.ct⟩
theorem ak(h1:PS' X B st t):iu X B [st] t:=xM h1
def Aq:TS':=fun D σ H=>D.bk σ H
def EZ:TS':=fun D σ H=>D.ct σ H
def y4(te:TE'):TS':=fun D σ H=>te σ H fun _ H1=>D.nx σ H1
theorem aM(he:PE' X B e te)(hs:swapsWith e none pos.line X.env=pure false:=by rfl):PS' X B (.Expr e pos) (y4 te):=dE (vP he hs) fun D σ H ⟨σ',H',D',s,h,d⟩ =>
 ⟨σ',H',_,s,h,fun v' H1' v H1 h1 r1 s1 e1=>d.nx _ _ _ _ h1 s1 e1⟩
def Dt(te:TE'):TS':=fun D σ H=>te σ H D.rt
theorem az(he:PE' X B e te):PS' X B (.Return (some e) pos) (Dt te):=dE (AG he) fun D σ H ⟨σ',H',D',s,h,d⟩ =>
 ⟨σ',H',_,s,h,fun v' H1' v H1 h1 r1 s1 e1=>d.rt _ _ _ _ h1 r1 s1.hp e1⟩
def Dx:TS':=fun D _ H=>D.rt .non H
def xY(c:TT')(t u:TS'):TS':=fun D σ H=>c σ H fun b H1=>cif b (t D σ H1) (u D σ H1)
theorem aN{l1 l2:List Stmt}(hc:PT' X B c tA)(ha:iu X B l1 t)(hb:iu X B l2 u):PS' X B (.If c l1 l2 pos) (xY tA t u):=dE (EI hc ha hb) fun D σ H y_=>by
 obtain⟨σ',H',D',s,h,d⟩:=y_;refine⟨σ',H',_,s,h,fun x H1' H1 h1 s1 e1=>?_⟩;cases x with
 | true=>exact mq ⟨σ',H1',D',s1,h1,d.ev _ _ e1⟩
 | false=>exact mj ⟨σ',H1',D',s1,h1,d.ev _ _ e1⟩
def BU:TS':=fun _ _ _=>False
theorem bw:iu X B sts BU:=fun _ _ _ _ _ _ ⟨_,_,_,_,h,_⟩=>h.elim
def fj(i:Nat):TG':=fun v σ H Q=>Q (σ.set i (some v)) H
theorem SR.set{K:PySem.W.Frag}{σ':St'}{H':PHp}{σ:L2.St}{H:Hp}{v':PV}{v:V}(s:SR K B σ' H' σ H)(r:RP K H v' v)(i:Nat):SR K B (σ'.set i (some v')) H' (σ.set i (some v)) H:=by
 refine⟨by simp[s.len],fun j w e=>?_,s.hp,s.ev⟩;by_cases hj:i=j
 ·subst hj;have hl:i<σ'.length:=by
   rcases Nat.lt_or_ge i σ'.length with h | h
   ·exact h
   ·rw[KC (by simpa using h)]at e;cases e
  rw[KN hl]at e;cases e;exact⟨v,KN (by rw[←s.len];exact hl),r⟩
 ·rw[List.getElem?_set_ne hj]at e ⊢;exact s.loc j w e
theorem vX{i:Nat}{x:Str}(hN:X.N.Nodup)(hi:X.N[i]?=some x)(hx:Loc X.env.scope x)(hf:X.fn x=true∨X.env.scope.names.lookup x=some .local:=by first | exact .inl rfl | exact .inr rfl | assumption):PG' X B (.Name x pos) (fj i) :=
 lC (yq hN hi hx hf) fun v σ H Q ⟨v',σ',H',Q',r,s,h,k⟩=>k _ _ _ _ h (s.set r i) (Ev.refl _ _)
def Av:gS:=fun vs σ H Q=>vs=[]/\Q σ H
def yD(t:TG')(u:gS):gS:=fun vs σ H Q=>match vs with
 | v::r=>t v σ H fun σ' H'=>u r σ' H' Q
 | []=>False
theorem cu:uS X B [] Av:=pF wG fun vs σ H Q y_=>by
 obtain⟨v',σ',H',Q',r,s,h,k⟩:=y_;obtain⟨rfl,h⟩:=h;simp only[RPs]at r;exact⟨r,k _ _ _ _ h s (Ev.refl _ _)⟩
theorem aX{t:TG'}{u:gS}(h1:PG' X B e t)(h2:uS X B es u)(hs:(assignEach (e::es) X.env).map (·.2)=assign e X.env::(assignEach es X.env).map (·.2):=by rfl):uS X B (e::es) (yD t u) :=
 pF (uW h1 h2 hs) fun vs σ H Q y_=>by
 obtain⟨vs',σ',H',Q',r,s,h,k⟩:=y_;cases vs' with
 | nil=>exact h.elim
 | cons v' r' =>
  simp only[RPs]at r;obtain⟨v,w,rfl,rv,rw'⟩:=r;refine⟨v,w,rfl,v',σ',H',_,rv,s,h,fun σ1' H1' σ1 H1 h1 s1 e1=>⟨r',σ1',H1',Q',RPs.kp _ (e1.kp s.hp) rw',s1,h1,fun σ2' H2' σ2 H2 h2 s2 e2=>k _ _ _ _ h2 s2 (e1.trans e2)⟩⟩
def Dz(n:Nat)(t:gS):TG':=fun v σ H Q=>match v with
 | .tup l=>l.length=n/\t l σ H Q
 | _=>False
theorem dz{k:Nat}{t:gS}{n:Nat}(hc:X.calm=true)(h:uS X B es t)(hn:(assignEach es X.env).length=n:=by rfl)(hst:(assignEach es X.env).findIdx? (·.1)=none:=by rfl):PG' X B (.Tuple es k pos) (Dz n t) :=
 lC (Au hc h hn hst) fun v σ H Q y_=>by
 obtain⟨v',σ',H',Q',r,s,h,k⟩:=y_;cases v' with
 | tup l =>
  obtain⟨hl,h⟩:=h;simp only[RP]at r;obtain⟨a,us,rfl,q,r⟩:=r;exact⟨a,us,rfl,q,by rw[RPs.length _ r];exact hl,l,σ',H',Q',r,s,h,k⟩
 | _=>exact h.elim
def lY(te:TE')(g:TG'):TS':=fun D σ H=>te σ H fun x H1=>g x σ H1 D.nx
theorem xA{K:PySem.W.Frag}{te:TE'}{g:TG'}{D:Ends}{σ:L2.St}{H:Hp}(h:BY K B (lY te g) D σ H):yn (low K B te) (lowG K B g) D σ H:=by
 obtain⟨σ',H',D',s,h,d⟩:=h;exact⟨σ',H',_,s,h,fun x H1' v H1 h1 r1 s1 e1=>⟨x,σ',H1',_,r1,s1,h1,fun σ2' H2' σ2 H2 h2 s2 e2=>d.nx _ _ _ _ h2 s2 (e1.trans e2)⟩⟩
theorem lj{tg:Expr}{g:TG'}(he:PE' X B e te)(hg:PG' X B tg g)(hs:swapsWithSole [tg] e pos.line X.env=pure false:=by rfl)(hw:swappedStores [tg] e X.env=pure none:=by rfl)
  (h1:(assignEach [tg] X.env).map (·.2)=[assign tg X.env]:=by rfl):PS' X B (.Assign [tg] e pos) (lY te g):=dE (zu he hg hs hw h1) fun _ _ _ h=>xA h
theorem Ac{i:Nat}{x:Str}{pos':Pos}(hN:X.N.Nodup)(hi:X.N[i]?=some x)(hx:Loc X.env.scope x)(he:PE' X B e te)(hs:swapsWith e (some (.Name x pos')) pos.line X.env=pure false:=by rfl)(hf:X.fn x=true∨X.env.scope.names.lookup x=some .local:=by first | exact .inl rfl | exact .inr rfl | assumption) :
  PS' X B (.Assign [.Name x pos'] e pos) (lY te (fj i)):=dE (Ay hN hi hx he hs hf) fun D σ H h=>by
 obtain⟨σ',H',D',s,h,d⟩:=h;exact⟨σ',H',_,s,h,fun x H1' v H1 h1 r1 s1 e1=>d.nx _ _ _ _ h1 (s1.set r1 i) e1⟩
def k9(c:TT')(tb:TS'):TS':=fun D σ H=>∃W:Nat->St'->PHp->Prop,(∃m,W m σ H)/\∀m σ H,W m σ H ->
 c σ H fun b H1=>cif b (∃N:St'->PHp->Prop,(∀σ' H',N σ' H'->∃m',m'<m/\W m' σ' H')/\tb { D with nx:=N,ct:=N,bk:=D.nx } σ H1) (D.nx σ H1)
theorem gG{body:List Stmt}(hp:PassesOwn (model X.prog X.w) X.A X.env X.xe)(hc:PT' X B c tA)(hb:iu X B body t):PS' X B (.While c body [] pos) (k9 tA t):=dE (tO hp hc hb) fun D σ H y_=>by
 obtain⟨σ',H',D',s,⟨W,⟨m0,w0⟩,turn⟩,d⟩:=y_;refine⟨fun m σ1 H1=>∃σ1' H1',SR X.K B σ1' H1' σ1 H1/\Ev H' H H1' H1/\W m σ1' H1',⟨m0,σ',H',s,Ev.refl _ _,w0⟩,?_⟩;rintro m σ1 H1 ⟨σ1',H1',s1,e1,w1⟩;refine⟨σ1',H1',_,s1,turn m σ1' H1' w1,fun x H2' H2 h2 s2 e2=>?_⟩;cases x with
 | false=>exact mj (d.nx _ _ _ _ h2 s2 (e1.trans e2))
 | true =>
  obtain⟨N,hN,h2⟩:=(show ∃N:St'->PHp->Prop,_ from h2);refine mq ⟨fun σ3 H3=>∃σ3' H3',SR X.K B σ3' H3' σ3 H3/\Ev H' H H3' H3/\N σ3' H3',?_,σ1',H2',_,s2,h2,?_,?_,?_,?_⟩
  ·rintro σ3 H3 ⟨σ3',H3',s3,e3,n3⟩;obtain⟨m',hm,w'⟩:=hN _ _ n3;exact⟨m',hm,σ3',H3',s3,e3,w'⟩
  ·intro σ3' H3' σ3 H3 n3 s3 e3;exact⟨σ3',H3',s3,(e1.trans e2).trans e3,n3⟩
  ·intro v' H3' v H3 n3 r3 s3 e3;exact d.rt _ _ _ _ n3 r3 s3 ((e1.trans e2).trans e3)
  ·intro σ3' H3' σ3 H3 n3 s3 e3;exact d.nx _ _ _ _ n3 s3 ((e1.trans e2).trans e3)
  ·intro σ3' H3' σ3 H3 n3 s3 e3;exact⟨σ3',H3',s3,(e1.trans e2).trans e3,n3⟩
theorem dU{c:TT'}{tb:TS'}{D:dY}{σ:St'}{H:PHp}(Pv:Nat->St'->PHp->Prop)(m0:Nat)(h0:Pv m0 σ H)
  (hs:∀m σ H,Pv m σ H->c σ H fun b H1=>cif b (∃N:St'->PHp->Prop,(∀σ' H',N σ' H'->∃m',m'<m/\Pv m' σ' H')/\tb { D with nx:=N,ct:=N,bk:=D.nx } σ H1) (D.nx σ H1)):k9 c tb D σ H:=⟨Pv,⟨m0,h0⟩,hs⟩
def fH(ok:PHp->Prop)(g:TG')(tb:TS')(D:dY):List PV->St'->PHp->Prop
 | [],σ,H=>ok H/\D.nx σ H
 | x::r,σ,H=>ok H/\g x σ H fun σ2 H2=>tb { D with nx:=fH ok g tb D r,ct:=fH ok g tb D r,bk:=D.nx } σ2 H2
def Aa(wi:TI')(g:TG')(tb:TS'):TS':=fun D σ H=>wi σ H fun J H1=>fH J.ok g tb D J.items σ H1
theorem pR{t:TS'}{iter tg:Expr}{body:List Stmt}{wi:TI'}{g:TG'}(hp:PassesOwn (model X.prog X.w) X.A X.env X.xe)(hc:X.calm=true)(hi:PIH X B tg iter wi)(hg:PG' X B tg g)(hb:iu X B body t)
  (hs:∀x,foldedSetIterable iter X.env x=pure x:=by intro _;rfl):PS' X B (.For tg iter body [] pos) (Aa wi g t):=dE (BI hp hc hi hg hb hs) fun D σ H y_=>by
 obtain⟨σ',H',D',s,h,d⟩:=y_;refine⟨σ',H',_,s,h,fun J' H1' J H1 h1 wk s1 e1=>?_⟩;refine⟨fun i m σ2 H2=>i≤J'.items.length/\m=J'.items.length - i/\∃σ2' H2',SR X.K B σ2' H2' σ2 H2/\Ev H1' H1 H2' H2/\fH J'.ok g t D' (J'.items.drop i) σ2' H2',⟨J'.items.length,JW _,by simp,σ',H1',s1,Ev.refl _ _,h1⟩,?_⟩;rintro i m σ2 H2 ⟨hi,rfl,σ2',H2',s2,e2,h2⟩;have k2:=e2.kp s1.hp;by_cases hlt:i<J'.items.length
 ·obtain⟨x',hx⟩:∃x',J'.items[i]?=some x':=⟨_,ID hlt⟩;have hd:J'.items.drop i=x'::J'.items.drop (i+1):=by
   rw[List.drop_eq_getElem_cons hlt];rw[ID hlt]at hx;cases hx;rfl
  rw[hd]at h2;obtain⟨ok2,h2⟩:=(show J'.ok H2'/\_ from h2);refine .inr ⟨wk.go H2' H2 i k2 s2.hp ok2 hlt,fun σ3 H3=>∃σ3' H3',SR X.K B σ3' H3' σ3 H3/\Ev H1' H1 H3' H3/\fH J'.ok g t D' (J'.items.drop (i+1)) σ3' H3',?_,fun x H3 y=>?_⟩
  ·rintro σ3 H3 ⟨σ3',H3',s3,e3,h3⟩;exact⟨J'.items.length - (i+1),by omega,hlt,rfl,σ3',H3',s3,e3,h3⟩
  ·obtain⟨hr3,ev3,rx⟩:=wk.yld H2' H2 i x H3 k2 s2.hp ok2 y;have s2b:=s2.kp ev3 hr3;have e2b:=e2.trans ev3;refine⟨x',σ2',H2',_,rx x' hx,s2b,h2,fun σ3' H3' σ3 H3 h3 s3 e3=>⟨σ3',H3',_,s3,h3,?_,?_,?_,?_⟩⟩
   ·intro σ4' H4' σ4 H4 h4 s4 e4;exact⟨σ4',H4',s4,e2b.trans (e3.trans e4),h4⟩
   ·intro v' H4' v H4 h4 r4 s4 e4;exact d.rt _ _ _ _ h4 r4 s4 (e1.trans (e2b.trans (e3.trans e4)))
   ·intro σ4' H4' σ4 H4 h4 s4 e4;exact d.nx _ _ _ _ h4 s4 (e1.trans (e2b.trans (e3.trans e4)))
   ·intro σ4' H4' σ4 H4 h4 s4 e4;exact⟨σ4',H4',s4,e2b.trans (e3.trans e4),h4⟩
 ·have hi':i=J'.items.length:=by omega
  subst hi';rw[List.drop_length]at h2;obtain⟨ok2,h2⟩:=(show J'.ok H2'/\_ from h2);exact .inl ⟨wk.stop H2' H2 k2 s2.hp ok2,d.nx _ _ _ _ h2 s2 (e1.trans e2)⟩
theorem bz{iter tg:Expr}{body:List Stmt}{wi:TI'}{g:TG'}(hp:PassesOwn (model X.prog X.w) X.A X.env X.xe)(hc:X.calm=true)(hi:PI' X B tg iter wi)(hg:PG' X B tg g)(hb:iu X B body t)
  (hs:∀x,foldedSetIterable iter X.env x=pure x:=by intro _;rfl):PS' X B (.For tg iter body [] pos) (Aa wi g t):=pR hp hc (oq hi) hg hb hs
def w4(x:PV)(H1:PHp)(R:It'->PHp->Prop):Prop:=match x with
 | .tup l=>R ⟨l,fun _=>True⟩ H1
 | .fls l=>R ⟨l,fun _=>True⟩ H1
 | .ref a=>∃l,H1 a=some (.lst l)/\R ⟨l,fun H=>H a=some (.lst l)⟩ H1
 | _=>False
def yO(ta:TE'):TI':=fun σ H R=>ta σ H fun x H1=>w4 x H1 R
def HY(K:PySem.W.Frag)(tl:TE):TI:=fun σ H R=>tl σ H fun x H1=>∃a,x=.ref a/\((∃xs,SqL K H1 a xs)/\R (Itl K a) H1∨(∃xs,SqT K H1 a xs)/\R (Itt K a) H1)
theorem Bh{tg l:Expr}{tl:TE}(hl:PE X l tl):PI X tg l (HY X.K tl):=by
 intro pins s σ H R I h;refine thn (hl pins s σ H _ I h) fun v s1 y_=>?_;obtain⟨x,H1,I1,r1,q1⟩:=y_;obtain⟨a,e,⟨⟨xs,hq⟩,q⟩ |⟨⟨xs,hq⟩,q⟩⟩:=q1
 ·subst e;cases r1;obtain⟨its,rv,p,hz⟩:=I1.list hq;refine wpAny_pyIter_list p.isList ?_;refine⟨s1.heap.objs.size,[s1.heap.objs.size],_,_,H1,rfl,I1.kept (t':=s1.toks) fun b o e=>IG _ e,rR a _,⟨_,IT _ rfl,rfl,rfl⟩,fun b hb=>?_,q⟩;have e:b=s1.heap.objs.size:=by simpa using hb
  subst e;exact I1.fpOk (IS _) (I1.hok.fresh (IS _))
 ·subst e;cases r1;obtain⟨its,rv,p,hz⟩:=I1.tuple hq;refine wpAny_pyIter_tuple (show s1.heap.IsTuple a its.toArray from p) ?_;refine⟨s1.heap.objs.size,[s1.heap.objs.size],_,_,H1,rfl,I1.kept (t':=s1.toks) fun b o e=>IG _ e,oy a _,⟨_,IT _ rfl,rfl,rfl⟩,fun b hb=>?_,q⟩;have e:b=s1.heap.objs.size:=by simpa using hb
  subst e;exact I1.fpOk (IS _) (I1.hok.fresh (IS _))
theorem iS{K:PySem.W.Frag}{H1:Hp}{J':It'}{a:Addr}(h:∀H' H,Kp H1 H->HR K H' H->J'.ok H'->∃us,SqL K H a us/\RPs K H J'.items us):Walks K H1 (Itl K a) J' where
 go:=fun H' H i k s o hi=>by
  obtain⟨us,q,r⟩:=h H' H k s o;obtain⟨u,e,_⟩:=RPs.get _ r (ID hi);exact⟨us,u,q,e⟩
 yld:=fun H' H i x H2 k s o y=>by
  obtain⟨us,q,r⟩:=h H' H k s o;refine⟨y.1,fun x' hx=>?_⟩;obtain⟨u,e,ru⟩:=RPs.get _ r hx;have:=y.2 us q;rw[e]at this;cases this;exact ru
 stop:=fun H' H i k s o hi=>by
  obtain⟨us,q,r⟩:=h H' H k s o;exact⟨us,q,by rw[RPs.length _ r];exact hi⟩
theorem qJ{K:PySem.W.Frag}{H1:Hp}{J':It'}{a:Addr}(h:∀H' H,Kp H1 H->HR K H' H->J'.ok H'->∃us,SqT K H a us/\RPs K H J'.items us):Walks K H1 (Itt K a) J' where
 go:=fun H' H i k s o hi=>by
  obtain⟨us,q,r⟩:=h H' H k s o;obtain⟨u,e,_⟩:=RPs.get _ r (ID hi);exact⟨us,u,q,e⟩
 yld:=fun H' H i x H2 k s o y=>by
  obtain⟨us,q,r⟩:=h H' H k s o;refine⟨y.1,fun x' hx=>?_⟩;obtain⟨u,e,ru⟩:=RPs.get _ r hx;have:=y.2 us q;rw[e]at this;cases this;exact ru
 stop:=fun H' H i k s o hi=>by
  obtain⟨us,q,r⟩:=h H' H k s o;exact⟨us,q,by rw[RPs.length _ r];exact hi⟩
theorem aI{tg:Expr}(ha:PE' X B a ta):PI' X B tg a (yO ta):=fx (Bh ha) fun σ H R y_=>by
 obtain⟨σ',H',R',s,h,k⟩:=y_;refine⟨σ',H',_,s,h,fun x' H1' x H1 h1 r1 s1 e1=>?_⟩;cases x' with
 | tup l =>
  simp only[RP]at r1;obtain⟨p,us,rfl,q,r⟩:=r1;exact⟨p,rfl,.inr ⟨⟨us,q⟩,k _ H1' _ H1 h1 (qJ fun _ H2 k2 _ _=>⟨us,k2.sqT q,RPs.kp _ k2 r⟩) s1 e1⟩⟩
 | fls l =>
  simp only[RP]at r1;obtain⟨p,us,rfl,q,r⟩:=r1;exact⟨p,rfl,.inl ⟨⟨us,q.sq⟩,k _ H1' _ H1 h1 (iS fun _ H2 k2 _ _=>⟨us,(k2.fzL q).sq,RPs.kp _ k2 r⟩) s1 e1⟩⟩
 | ref p =>
  simp only[RP]at r1;obtain⟨l,q,h1⟩:=h1;obtain⟨us,q2,r⟩:=s1.hp _ _ q;refine⟨p,r1,.inl ⟨⟨us,SqL.of q2⟩,k _ H1' _ H1 h1 (iS fun H2' H2 k2 s2 o2=>?_) s1 e1⟩⟩;obtain⟨us2,q3,r3⟩:=s2 _ _ o2;exact⟨us2,SqL.of q3,r3⟩
 | _=>exact h1.elim
def bX(lo:Int)(n:Nat):List PV:=(List.range n).map fun k=>PV.int (lo+(k:Nat))
theorem kz{K:PySem.W.Frag}{H1:Hp}{lo:Int}{n:Nat}:Walks K H1 (Itr lo n) ⟨bX lo n,fun _=>True⟩ where
 go:=fun H' H i k s o hi=>by
  have h:i<n:=by simpa[bX]using hi
  exact h
 yld:=fun H' H i x H2 k s o y=>by
  obtain⟨e,rfl⟩:=y;refine⟨e,fun x' hx=>?_⟩;simp only[bX,IV]at hx;cases q:(List.range n)[i]? with
  | none=>rw[q]at hx;cases hx
  | some j =>
   rw[q]at hx;obtain⟨h1,h2⟩:=IM.mp q;rw[List.getElem_range]at h2;subst h2;cases hx;simp[RP]
 stop:=fun H' H i k s o hi=>by
  have h:n≤i:=by simpa[bX]using hi
  exact h
def xD(vs:List PV)(H1:PHp)(R:It'->PHp->Prop):Prop:=match vs with
 | [.int j]=>(-(2 ^ 62)≤j/\j<2 ^ 62)/\R ⟨bX 0 j.toNat,fun _=>True⟩ H1
 | _=>False
def y6(t:TA'):TI':=fun σ H R=>t σ H fun vs H1=>xD vs H1 R
def wu(vs:List PV)(H1:PHp)(R:It'->PHp->Prop):Prop:=match vs with
 | [.int i,.int j]=>(-(2 ^ 62)≤i/\i<2 ^ 62/\-(2 ^ 62)≤j/\j<2 ^ 62)/\R ⟨bX i (j - i).toNat,fun _=>True⟩ H1
 | _=>False
def zp(t:TA'):TI':=fun σ H R=>t σ H fun vs H1=>wu vs H1 R
theorem bN{tg:Expr}{t:TA'}{p:Pos}(hg:Gl X "range")(hm:X.mg "range"=none)(ha:PA' X B [a] t)(hs:starEach [a] X.env=[(false,eval a X.env)]:=by rfl):PI' X B tg (.Call (.Name "range" p) [a] [] pos) (y6 t) :=
 fx (rH hg hm ha hs) fun σ H R y_=>by
 obtain⟨σ',H',R',s,h,k⟩:=y_;refine⟨σ',H',_,s,h,fun vs' H1' vs H1 h1 r1 s1 e1=>?_⟩;unfold xD at h1;split at h1
 ·rename_i j;simp only[RPs,RP]at r1;obtain⟨u,r,rfl,rfl,rfl⟩:=r1;exact⟨j,rfl,h1.1.1,h1.1.2,k _ H1' _ H1 h1.2 kz s1 e1⟩
 ·exact h1.elim
theorem qI{tg:Expr}{t:TA'}{p:Pos}(hg:Gl X "range")(hm:X.mg "range"=none)(ha:PA' X B [a,b] t)(hs:starEach [a,b] X.env=[(false,eval a X.env),(false,eval b X.env)]:=by rfl)(hs2:starEach [b] X.env=[(false,eval b X.env)]:=by rfl) :
  PI' X B tg (.Call (.Name "range" p) [a,b] [] pos) (zp t):=fx (rf hg hm ha hs hs2) fun σ H R y_=>by
 obtain⟨σ',H',R',s,h,k⟩:=y_;refine⟨σ',H',_,s,h,fun vs' H1' vs H1 h1 r1 s1 e1=>?_⟩;unfold wu at h1;split at h1
 ·rename_i i j;simp only[RPs,RP]at r1;obtain⟨u,r,rfl,rfl,w,r,rfl,rfl,rfl⟩:=r1;exact⟨i,j,rfl,h1.1,k _ H1' _ H1 h1.2 kz s1 e1⟩
 ·exact h1.elim
end
end
section
variable {B:Bs}
abbrev Sp':=List PV->PHp->VK'->XK'->Prop
def fM(K:PySem.W.Frag)(sp:Sp'):Sp:=fun vs H Q E=>∃vs' H' Q' E',RPs K H vs' vs/\HR K H' H/\sp vs' H' Q' E'/\(∀v' H1' v H1,Q' v' H1'->RP K H1 v' v->HR K H1' H1->Ev H' H H1' H1->Q v H1) /\
 (∀c d H1' H1,E' c d H1'->HR K H1' H1->Ev H' H H1' H1->E c d H1)
abbrev aK(P:Program)(w:World)(K:PySem.W.Frag)(mg:Str->Option Value)(base:Heap)(CX:CXT)(k:Nat)(f:Addr)(fd:FuncData)(ps:List Str)(sp:Sp'):Prop:=f9 P w K mg base CX k f fd ps (fM K sp)
def d5(N:List Str)(vs:List PV):St':=vs.map some++List.replicate (N.length - vs.length) none
theorem mZ{K:PySem.W.Frag}{N:List Str}{vs':List PV}{vs:List V}{H':PHp}{H:Hp}(r:RPs K H vs' vs)(h:HR K H' H):SR K (H',H) (d5 N vs') H' (L2.start N vs) H:=by
 have hl:=RPs.length _ r;refine⟨by simp[d5,L2.start,hl],fun i v' e=>?_,h,Ev.refl _ _⟩;unfold d5 at e;unfold L2.start;by_cases hi:i<vs'.length
 ·rw[Kj (by simpa using hi)]at e;rw[Kj (by simpa[hl]using hi)];rw[IV]at e ⊢;cases q:vs'[i]? with
  | none=>rw[q]at e;cases e
  | some w =>
   rw[q]at e;cases e;obtain⟨u,e1,e2⟩:=RPs.get _ r q;exact⟨u,by rw[e1];rfl,e2⟩
 ·rw[Kx (by simpa using hi)]at e;rw[List.getElem?_replicate]at e;split at e<;>cases e
def ends(Q:VK'):dY where
 nx:=fun _ H=>∃H3,Sub H3 H/\Q .non H3
 rt:=fun v H=>∃H3,Sub H3 H/\Q v H3
section
variable {P:Program}{w:World}{K:PySem.W.Frag}{mg:Str->Option Value}{base:Heap}
theorem okU{x qual:Str}{st:Stmt}{f:Addr}{fd:FuncData}{N ps:List Str}{k:Nat}{sp:Sp'}(F:Fun K x qual st f fd)(S:ax N ps (ai st))(len:∀vs H Q E,sp vs H Q E->vs.length=ps.length)
  (hbody:∀(cdv:Value) (A:Around) (outer:List Env) (s:Shared) (H:Hp) (E:XK) (B:Bs),bG k (A.deeper (envOfC qual (ai st) s.heap.objs.size f cdv)) ->
   ∃t,iu (jF CX0 P w K mg base N qual (ai st) f cdv A outer s H E).nox B (cG st) t/\∀vs' H' Q' E',sp vs' H' Q' E'->t (ends Q') (d5 N vs') H'):aK P w K mg base CX0 (k+1) f fd ps sp:=by
 refine F.ok S (fun vs H Q E zz=>?_) (fun cdv A outer s H vs Q E hr h=>?_)
 ·obtain⟨vs',H',Q',E',r,hr,h,_⟩:=zz;rw[RPs.length _ r];exact len _ _ _ _ h
 ·obtain⟨vs',H',Q',E',r,hh,h,k1,k2⟩:=h;obtain⟨t,ht,hq⟩:=hbody cdv A outer s H E (H',H) hr;refine⟨_,ht,d5 N vs',H',_,mZ r hh,hq vs' H' Q' E' h,?_,?_,?_,?_⟩
  ·rintro σ1' H1' σ1 H1 ⟨H3,sb,q⟩ s1 e1;exact k1 _ H3 _ H1 q (by simp[RP]) (s1.hp.sub sb) (e1.sub sb)
  ·rintro v' H1' v H1 ⟨H3,sb,q⟩ r1 s1 e1;exact k1 _ H3 _ H1 q r1 (s1.sub sb) (e1.sub sb)
  ·intro _ _ _ _ z;exact z.elim
  ·intro _ _ _ _ z;exact z.elim
end
section
variable {X:Cx}{CX:CXT}{k:Nat}{f C:Addr}{fd:FuncData}{ps:List Str}{sp:Sp'}{E:XK}{E':XK'}{x m:Str}{p pos apos:Pos}{e o:Expr}{es:List Expr}{ta:TE'}{t:TA'}
def tH(sp:Sp')(E':XK')(t:TA'):TE':=fun σ H Q=>t σ H fun vs H1=>sp vs H1 Q E'
abbrev X0:XK':=fun _ _ _=>False
theorem gJ{K:PySem.W.Frag}{σ:L2.St}{H:Hp}{Q:VK}(h:low K B (tH sp X0 t) σ H Q):vw (fM K sp) [] E0 (sP K B t) σ H Q:=by
 obtain⟨σ',H',Q',s,h,k⟩:=h;refine⟨σ',H',_,s,h,fun vs' H1' vs H1 h1 r1 s1 e1=>?_⟩;show fM K sp (vs++[]) H1 Q E0;rw[Ji];exact⟨vs',H1',Q',X0,r1,s1.hp,h1,fun v' H2' v H2 q r2 h2 e2=>k v' H2' v H2 q r2 (s1.kp e2 h2) (e1.trans e2),fun _ _ _ _ z=>z.elim⟩
theorem au(F:aK X.prog X.w X.K X.mg X.base CX0 k f fd ps sp)(hr:bG k X.A)(hg:Gl X x)(hm:X.mg x=some (.ref f))(hk:PySem.W.keepIn X.K (.ref f)=true)(hb:Binds X.K fd ps [])
  (ha:PA' X B (e::es) t) (hdb:(x==("__debug__":Str))=false:=by decide) (he:starEach (e::es) X.env=(false,eval e X.env)::starEach es X.env:=by rfl) (hpl:(backTo pos (starEach es X.env)).any (·.1)=false:=by rfl) :
  PE' X B (.Call (.Name x p) (e::es) [] pos) (tH sp X0 t):=a7 (w8 F hr hg hm hk hb .nil my ha hdb he hpl) fun _ _ _ h=>gJ h
theorem Cz{K:PySem.W.Frag}{H:Hp}{a:Addr}{xs:List V}(o:qO H)(h:SqL K H a xs):FzL K H a xs:=by
 rcases h with(h | h) | h
 ·rcases o a with z |⟨ob,ys,z⟩
  ·rw[z]at h;cases h
  ·rw[z]at h;cases h
 ·exact .inl h
 ·exact .inr h
def spL:Sp':=fun vs H Q _=>match vs with
 | [.fls l]=>∃ns:List Int,l=ns.map PV.int/\ns.length≤63/\Q (.bl true) H
 | _=>False
theorem B9{K:PySem.W.Frag}{H:Hp}{a:Addr}{ns:List Int}(hl:ns.length≤63)(o:qO H)(h:SqL K H a (ns.map V.int)):fM K spL [.ref a] H (fun v _=>v=.bl true) fun _ _ _=>False:=by
 refine⟨[.fls (ns.map PV.int)],fun _=>none,fun v _=>v=.bl true,X0,?_,fun _ _ z=>(nomatch z),⟨ns,rfl,hl,rfl⟩,fun v' _ v _ q r _ _=>?_,fun _ _ _ _ z=>z.elim⟩
 ·refine RPs.cons _ ?_ (RPs.nil _);simp only[RP];exact⟨a,_,rfl,Cz o h,RPs.ints _ _⟩
 ·subst q;simpa[RP]using r
end
end
section
variable {B:Bs}
mutual
def deq:PV->PV->Bool
 | .non,.non=>true
 | .bl a,.bl b=>a==b
 | .int a,.int b=>a==b
 | .bl a,.int b=>(if a then 1 else 0)==b
 | .int a,.bl b=>a==(if b then 1 else 0)
 | .str a,.str b=>a==b
 | .tup l,.tup m=>eZ l m
 | .fls l,.fls m=>eZ l m
 | _,_=>false
def eZ:List PV->List PV->Bool
 | [],[]=>true
 | x::l,y::m=>deq x y&&eZ l m
 | _,_=>false
end
def flat:Nat->PV->Bool
 | _,.non=>true
 | _,.bl _=>true
 | _,.int _=>true
 | _,.str _=>true
 | n+1,.tup l=>l.all (flat n)
 | n+1,.fls l=>l.all (flat n)
 | _,_=>false
theorem dF:∀(l m:List PV),eZ l m=((List.range (min l.length m.length)).all (fun i=>deq (l.getD i .non) (m.getD i .non))&&l.length==m.length)
 | [],[]=>by simp[eZ]
 | [],_::_=>by simp[eZ]
 | _::_,[]=>by simp[eZ]
 | x::l,y::m=>by
  simp only[eZ,dF l m,Jg];rw[show min (l.length+1) (m.length+1)=min l.length m.length+1 by omega,List.range_succ_eq_map,List.all_cons,List.all_map];simp only[List.getD_cons_zero,Bool.and_assoc];congr 1;congr 1;simp
theorem gO{n:Nat}:∀(l:List PV),(∀x∈l,deq x x=true)->eZ l l=true
 | [],_=>rfl
 | x::l,h=>by
  have h1:=h x (by simp);have h2:=gO (n:=n) l fun y hy=>h y (by simp[hy]);simp only[eZ,h1,h2,Bool.and_self]
theorem fI:∀{n:Nat} {x:PV},flat n x=true->deq x x=true
 | _,.non,_=>by simp[deq]
 | _,.bl _,_=>by simp[deq]
 | _,.int _,_=>by simp[deq]
 | _,.str _,_=>by simp[deq]
 | n+1,.tup l,h=>by
  simp only[flat,JO]at h;simp only[deq];exact gO (n:=0) l fun x hx=>fI (h x hx)
 | n+1,.fls l,h=>by
  simp only[flat,JO]at h;simp only[deq];exact gO (n:=0) l fun x hx=>fI (h x hx)
 | 0,.tup _,h=>by cases h
 | 0,.fls _,h=>by cases h
 | n,.ref _,h=>by cases n<;>cases h
 | n,.oth _,h=>by cases n<;>cases h
section
variable {X:Cx}{pins:List (Addr×Obj)}{σ:L2.St}{H:Hp}{s:Shared}
def RR(K:PySem.W.Frag)(H:Hp)(x:PV)(u:Value):Prop:=∃v,RP K H x v/\RelV v u
def RL(K:PySem.W.Frag)(H:Hp)(l:List PV)(us:List Value):Prop:=∃vs,RPs K H l vs/\Vals vs us
def RD(K:PySem.W.Frag)(H:Hp)(x:PV)(u:Value):Prop:=match x with
 | .fls l=>∃a vs,u=.ref a/\SqL K H a vs/\RPs K H l vs
 | x=>RR K H x u
theorem RL.get{K:PySem.W.Frag}{l:List PV}{us:List Value}(r:RL K H l us){i:Nat}{u:Value}(e:us[i]?=some u):∃x,l[i]?=some x/\RR K H x u:=by
 obtain⟨vs,r1,r2⟩:=r;have hl:=r2.length;have hl2:=RPs.length _ r1;have hi:i<l.length:=by
  have:=(IM.mp e).1;omega
 obtain⟨v,e1,e2⟩:=RPs.get _ r1 (ID hi);obtain⟨w,e3,e4⟩:=r2.get e1;rw[e]at e3;cases e3;exact⟨_,ID hi,v,e2,e4⟩
theorem RL.length{K:PySem.W.Frag}{l:List PV}{us:List Value}(r:RL K H l us):us.length=l.length:=by
 obtain⟨vs,r1,r2⟩:=r;rw[←r2.length,RPs.length _ r1]
theorem RR.rd{K:PySem.W.Frag}{x:PV}{u:Value}(r:RR K H x u):RD K H x u:=by
 cases x with
 | fls l =>
  obtain⟨v,r1,r2⟩:=r;simp only[RP]at r1;obtain⟨a,us,rfl,q,rr⟩:=r1;cases r2;exact⟨a,us,rfl,q.sq,rr⟩
 | _=>exact r
theorem cV(I:Inv X pins σ H s){l:List PV}{u:Value}(r:RD X.K H (.tup l) u):∃a its,u=.ref a/\RL X.K H l its/\s.heap.IsTuple a its.toArray:=by
 obtain⟨v,r1,r2⟩:=r;simp only[RP]at r1;obtain⟨a,us,rfl,q,rr⟩:=r1;cases r2;obtain⟨its,rv,p,_⟩:=I.tuple q;exact⟨a,its,rfl,⟨us,rr,rv⟩,p⟩
theorem cZ(I:Inv X pins σ H s){l:List PV}{u:Value}(r:RD X.K H (.fls l) u):∃a its,u=.ref a/\RL X.K H l its/\s.heap.IsList a its.toArray:=by
 obtain⟨a,us,rfl,q,rr⟩:=r;obtain⟨its,rv,p,_⟩:=I.list q;exact⟨a,its,rfl,⟨us,rr,rv⟩,p.isList⟩
theorem l0{a:Addr}{x y:Array Value}(h1:s.heap.IsTuple a x)(h2:s.heap.IsTuple a y):x=y:=by
 obtain⟨o,e,c,n,d⟩:=h1;obtain⟨o',e',c',n',d'⟩:=h2;rw[e]at e';cases e';rw[d]at d';cases d';rfl
theorem oo{a:Addr}{x y:Array Value}(h1:s.heap.IsList a x)(h2:s.heap.IsList a y):x=y:=by
 obtain⟨o,e,c,n,d⟩:=h1;obtain⟨o',e',c',n',d'⟩:=h2;rw[e]at e';cases e';rw[d]at d';cases d';rfl
theorem ni{a:Addr}{x y:Array Value}(h1:s.heap.IsTuple a x)(h2:s.heap.IsList a y):False:=by
 obtain⟨o,e,c,n,d⟩:=h1;obtain⟨o',e',c',n',d'⟩:=h2;rw[e]at e';cases e';rw[c]at c';exact absurd c' (by decide)
theorem RL.list_inj{K:PySem.W.Frag}{n:Nat}(ih:∀{x y:PV} {u:Value},flat n x=true->flat n y=true->RD K H x u->RD K H y u->x=y){l m:List PV}{us:List Value}(h1:l.all (flat n)=true)(h2:m.all (flat n)=true)
  (r1:RL K H l us) (r2:RL K H m us):l=m:=by
 rw[JO]at h1 h2;refine List.ext_getElem? fun i=>?_;cases e:us[i]? with
 | none =>
  have:=List.getElem?_eq_none_iff.mp e;rw[KC (by rw[←r1.length];exact this),KC (by rw[←r2.length];exact this)]
 | some u =>
  obtain⟨x,ex,rx⟩:=r1.get e;obtain⟨y,ey,ry⟩:=r2.get e;rw[ex,ey,ih (h1 x (Ja ex)) (h2 y (Ja ey)) rx.rd ry.rd]
theorem lN(I:Inv X pins σ H s):∀(n:Nat) {x y:PV} {u:Value},flat n x=true->flat n y=true->RD X.K H x u->RD X.K H y u->x=y:=by
 have sc:∀{x:PV} {u:Value},RD X.K H x u->(∀l,x≠.fls l)->RR X.K H x u:=fun {x u} r h=>by
  cases x with
  | fls l=>exact absurd rfl (h l)
  | _=>exact r
 intro n
 induction n with
 | zero =>
  intro x y u hx hy rx ry;cases x<;>first |(cases hx;done) | skip
  all_goals cases y<;>first |(cases hy;done) | skip
  all_goals
   obtain⟨v,r1,r2⟩:=sc rx (by intro l z;cases z);obtain⟨v',r1',r2'⟩:=sc ry (by intro l z;cases z);simp only[RP]at r1 r1';subst r1;subst r1';have:=RelV.inj r2 r2'
   first | rfl |(cases this;done) |(cases this;rfl)
 | succ n ih =>
  intro x y u hx hy rx ry;cases x with
  | tup l =>
   obtain⟨a,its,rfl,rl,p⟩:=cV I rx;cases y with
   | tup m =>
    obtain⟨b,its',e,rl',p'⟩:=cV I ry;cases e;have:=l0 p p';have e2:its=its':=by simpa using this
    subst e2;rw[RL.list_inj (n:=n) ih hx hy rl rl']
   | fls m =>
    obtain⟨b,its',e,rl',p'⟩:=cZ I ry;cases e;exact(ni p p').elim
   | ref a=>cases hy
   | oth a=>cases hy
   | _ =>
    obtain⟨v',r1',r2'⟩:=sc ry (by intro l z;cases z);simp only[RP]at r1';subst r1';simp[L2.RelV]at r2'
  | fls l =>
   obtain⟨a,its,rfl,rl,p⟩:=cZ I rx;cases y with
   | tup m =>
    obtain⟨b,its',e,rl',p'⟩:=cV I ry;cases e;exact(ni p' p).elim
   | fls m =>
    obtain⟨b,its',e,rl',p'⟩:=cZ I ry;cases e;have:=oo p p';have e2:its=its':=by simpa using this
    subst e2;rw[RL.list_inj (n:=n) ih hx hy rl rl']
   | ref a=>cases hy
   | oth a=>cases hy
   | _ =>
    obtain⟨v',r1',r2'⟩:=sc ry (by intro l z;cases z);simp only[RP]at r1';subst r1';simp[L2.RelV]at r2'
  | ref a=>cases hx
  | oth a=>cases hx
  | _ =>
   cases y with
   | tup m =>
    obtain⟨b,its',e,rl',p'⟩:=cV I ry;subst e;obtain⟨v',r1',r2'⟩:=sc rx (by intro l z;cases z);simp only[RP]at r1';subst r1';simp[L2.RelV]at r2'
   | fls m =>
    obtain⟨b,its',e,rl',p'⟩:=cZ I ry;subst e;obtain⟨v',r1',r2'⟩:=sc rx (by intro l z;cases z);simp only[RP]at r1';subst r1';simp[L2.RelV]at r2'
   | ref a=>cases hy
   | oth a=>cases hy
   | _ =>
    obtain⟨v,r1,r2⟩:=sc rx (by intro l z;cases z);obtain⟨v',r1',r2'⟩:=sc ry (by intro l z;cases z);simp only[RP]at r1 r1';subst r1;subst r1';have:=RelV.inj r2 r2'
    first | rfl |(cases this;done) |(cases this;rfl)
open SeqAt in
theorem kG(I:Inv X pins σ H s):∀(n:Nat) {A:Around} {x y:PV} {u w:Value},A.units+n<cLine->flat n x=true->flat n y=true->RD X.K H x u->RD X.K H y w->EqAt A s u w (deq x y)/\RcAt A s u w (deq x y):=by
 have sc:∀{x:PV} {u:Value},RD X.K H x u->(∀l,x≠.fls l)->RR X.K H x u:=fun {x u} r h=>by
  cases x with
  | fls l=>exact absurd rfl (h l)
  | _=>exact r
 have v_non:∀{u:Value},RD X.K H .non u->u=.none:=fun {u} r=>by
  obtain⟨v,r1,r2⟩:=sc r (by intro l z;cases z);simp only[RP]at r1;subst r1;exact r2
 have v_bl:∀{b:Bool} {u:Value},RD X.K H (.bl b) u->u=.bool b:=fun {b u} r=>by
  obtain⟨v,r1,r2⟩:=sc r (by intro l z;cases z);simp only[RP]at r1;subst r1;exact r2
 have v_int:∀{i:Int} {u:Value},RD X.K H (.int i) u->∃t,u=.int i t:=fun {b u} r=>by
  obtain⟨v,r1,r2⟩:=sc r (by intro l z;cases z);simp only[RP]at r1;subst r1;exact r2
 have v_str:∀{i:Str} {u:Value},RD X.K H (.str i) u->∃t,u=.str i t:=fun {b u} r=>by
  obtain⟨v,r1,r2⟩:=sc r (by intro l z;cases z);simp only[RP]at r1;subst r1;exact r2
 intro n
 induction n with
 | zero =>
  intro A x y u w hu hx hy rx ry;cases x with
  | non =>
   rw[v_non rx];cases y with
   | non=>rw[v_non ry];exact⟨EqAt.same _,RcAt.none_none⟩
   | bl b=>rw[v_bl ry];exact⟨EqAt.none_bool b,RcAt.none_bool b⟩
   | int b=>obtain⟨t,rfl⟩:=v_int ry;exact⟨EqAt.none_int b t,RcAt.none_int b t⟩
   | str b=>obtain⟨t,rfl⟩:=v_str ry;exact⟨EqAt.none_str b t,RcAt.none_str b t⟩
   | _=>cases hy
  | bl a =>
   rw[v_bl rx];cases y with
   | non=>rw[v_non ry];exact⟨EqAt.bool_none a,RcAt.bool_none a⟩
   | bl b=>rw[v_bl ry];exact⟨EqAt.bool_bool a b,RcAt.bool_bool a b⟩
   | int b=>obtain⟨t,rfl⟩:=v_int ry;exact⟨EqAt.bool_int a b t,RcAt.bool_int a b t⟩
   | str b=>obtain⟨t,rfl⟩:=v_str ry;exact⟨EqAt.bool_str a b t,RcAt.bool_str a b t⟩
   | _=>cases hy
  | int a =>
   obtain⟨t0,rfl⟩:=v_int rx;cases y with
   | non=>rw[v_non ry];exact⟨EqAt.int_none a t0,RcAt.int_none a t0⟩
   | bl b=>rw[v_bl ry];exact⟨EqAt.int_bool a t0 b,RcAt.int_bool a t0 b⟩
   | int b=>obtain⟨t,rfl⟩:=v_int ry;exact⟨EqAt.int_int a t0 b t,RcAt.int_int a t0 b t⟩
   | str b=>obtain⟨t,rfl⟩:=v_str ry;exact⟨EqAt.int_str a t0 b t,RcAt.int_str a t0 b t⟩
   | _=>cases hy
  | str a =>
   obtain⟨t0,rfl⟩:=v_str rx;cases y with
   | non=>rw[v_non ry];exact⟨EqAt.str_none a t0,RcAt.str_none a t0⟩
   | bl b=>rw[v_bl ry];exact⟨EqAt.str_bool a t0 b,RcAt.str_bool a t0 b⟩
   | int b=>obtain⟨t,rfl⟩:=v_int ry;exact⟨EqAt.str_int a t0 b t,RcAt.str_int a t0 b t⟩
   | str b=>obtain⟨t,rfl⟩:=v_str ry;exact⟨EqAt.str_str a t0 b t,RcAt.str_str a t0 b t⟩
   | _=>cases hy
  | _=>cases hx
 | succ n ih =>
  intro A x y u w hu hx hy rx ry;have hu0:A.units<cLine:=by omega
  have hu1:A.in1.units+n<cLine:=by show A.units+1+n<cLine;omega
  cases x with
  | tup l =>
   obtain⟨a,its,rfl,rl,p⟩:=cV I rx;cases y with
   | non=>rw[v_non ry];exact⟨EqAt.tuple_none p hu0,RcAt.tuple_none p hu0⟩
   | bl b=>rw[v_bl ry];exact⟨EqAt.tuple_bool b p hu0,RcAt.tuple_bool b p hu0⟩
   | int b=>obtain⟨t,rfl⟩:=v_int ry;exact⟨EqAt.tuple_int b t p hu0,RcAt.tuple_int b t p hu0⟩
   | str b=>obtain⟨t,rfl⟩:=v_str ry;exact⟨EqAt.tuple_str b t p hu0,RcAt.tuple_str b t p hu0⟩
   | tup m =>
    obtain⟨b,its',rfl,rl',p'⟩:=cV I ry;have key:RcAt A s (.ref a) (.ref b) (deq (.tup l) (.tup m)):=by
     have:=RcAt.tuples (e:=fun i=>deq (l.getD i .non) (m.getD i .non)) p p' hu0 fun j h1 h2=>by
      have h1':j<its.length:=by simpa using h1
      have h2':j<its'.length:=by simpa using h2
      obtain⟨x,ex,rx'⟩:=rl.get (ID h1');obtain⟨y,ey,ry'⟩:=rl'.get (ID h2');have q:=ih hu1 (JO.mp hx x (Ja ex)) (JO.mp hy y (Ja ey)) rx'.rd ry'.rd;have e1:l.getD j .non=x:=by rw[IE,ex];rfl
      have e2:m.getD j .non=y:=by rw[IE,ey];rfl
      rw[e1,e2];simpa using q.1
     have e:deq (.tup l) (.tup m)=((List.range (min its.toArray.size its'.toArray.size)).all (fun i=>deq (l.getD i .non) (m.getD i .non))&&its.toArray.size==its'.toArray.size):=by
      simp only[deq,dF,IL,rl.length,rl'.length]
     rw[e];exact this
    refine⟨?_,key⟩;by_cases hab:a=b
    ·subst hab;have:=lN I (n+1) hx hy rx ry;rw[←this,fI hx];exact EqAt.same _
    ·exact EqAt.of_refs hab key
   | fls m =>
    obtain⟨b,its',rfl,rl',p'⟩:=cZ I ry;exact⟨EqAt.tuple_list p p' hu0,RcAt.tuple_list p p' hu0⟩
   | _=>cases hy
  | fls l =>
   obtain⟨a,its,rfl,rl,p⟩:=cZ I rx;cases y with
   | non=>rw[v_non ry];exact⟨EqAt.list_none p hu0,RcAt.list_none p hu0⟩
   | bl b=>rw[v_bl ry];exact⟨EqAt.list_bool b p hu0,RcAt.list_bool b p hu0⟩
   | int b=>obtain⟨t,rfl⟩:=v_int ry;exact⟨EqAt.list_int b t p hu0,RcAt.list_int b t p hu0⟩
   | str b=>obtain⟨t,rfl⟩:=v_str ry;exact⟨EqAt.list_str b t p hu0,RcAt.list_str b t p hu0⟩
   | tup m =>
    obtain⟨b,its',rfl,rl',p'⟩:=cV I ry;exact⟨EqAt.list_tuple p p' hu0,RcAt.list_tuple p p' hu0⟩
   | fls m =>
    obtain⟨b,its',rfl,rl',p'⟩:=cZ I ry;have key:RcAt A s (.ref a) (.ref b) (deq (.fls l) (.fls m)):=by
     by_cases hs:its.length=its'.length
     ·have:=RcAt.lists (e:=fun i=>deq (l.getD i .non) (m.getD i .non)) p p' (by simpa using hs) hu0 fun j h1 h2=>by
       have h1':j<its.length:=by simpa using h1
       have h2':j<its'.length:=by simpa using h2
       obtain⟨x,ex,rx'⟩:=rl.get (ID h1');obtain⟨y,ey,ry'⟩:=rl'.get (ID h2');have q:=ih hu1 (JO.mp hx x (Ja ex)) (JO.mp hy y (Ja ey)) rx'.rd ry'.rd;have e1:l.getD j .non=x:=by rw[IE,ex];rfl
       have e2:m.getD j .non=y:=by rw[IE,ey];rfl
       rw[e1,e2];simpa using q.1
      have e:deq (.fls l) (.fls m)=(List.range its.toArray.size).all (fun i=>deq (l.getD i .non) (m.getD i .non)):=by
       have e0:l.length=m.length:=by rw[←rl.length,← rl'.length];exact hs
       simp[deq,dF,rl.length,e0]
      rw[e];exact this
     ·have e:deq (.fls l) (.fls m)=false:=by
       have e0:l.length≠m.length:=by rw[←rl.length,← rl'.length];exact hs
       simp[deq,dF,e0]
      rw[e];exact RcAt.lists_lengths p p' (by simpa using hs) hu0
    refine⟨?_,key⟩;by_cases hab:a=b
    ·subst hab;have:=lN I (n+1) hx hy rx ry;rw[←this,fI hx];exact EqAt.same _
    ·exact EqAt.of_refs hab key
   | _=>cases hy
  | ref a=>cases hx
  | oth a=>cases hx
  | non =>
   cases y with
   | tup m=>obtain⟨b,its',rfl,rl',p'⟩:=cV I ry;rw[v_non rx];exact⟨EqAt.none_tuple p' hu0,RcAt.none_tuple p' hu0⟩
   | fls m=>obtain⟨b,its',rfl,rl',p'⟩:=cZ I ry;rw[v_non rx];exact⟨EqAt.none_list p' hu0,RcAt.none_list p' hu0⟩
   | ref a=>cases hy
   | oth a=>cases hy
   | _=>exact ih (by omega) (by cases n<;>rfl) (by cases n<;>rfl) rx ry
  | bl i =>
   cases y with
   | tup m=>obtain⟨b,its',rfl,rl',p'⟩:=cV I ry;rw[v_bl rx];exact⟨EqAt.bool_tuple i p' hu0,RcAt.bool_tuple i p' hu0⟩
   | fls m=>obtain⟨b,its',rfl,rl',p'⟩:=cZ I ry;rw[v_bl rx];exact⟨EqAt.bool_list i p' hu0,RcAt.bool_list i p' hu0⟩
   | ref a=>cases hy
   | oth a=>cases hy
   | _=>exact ih (by omega) (by cases n<;>rfl) (by cases n<;>rfl) rx ry
  | int i =>
   cases y with
   | tup m=>obtain⟨b,its',rfl,rl',p'⟩:=cV I ry;obtain⟨t,rfl⟩:=v_int rx;exact⟨EqAt.int_tuple i t p' hu0,RcAt.int_tuple i t p' hu0⟩
   | fls m=>obtain⟨b,its',rfl,rl',p'⟩:=cZ I ry;obtain⟨t,rfl⟩:=v_int rx;exact⟨EqAt.int_list i t p' hu0,RcAt.int_list i t p' hu0⟩
   | ref a=>cases hy
   | oth a=>cases hy
   | _=>exact ih (by omega) (by cases n<;>rfl) (by cases n<;>rfl) rx ry
  | str i =>
   cases y with
   | tup m=>obtain⟨b,its',rfl,rl',p'⟩:=cV I ry;obtain⟨t,rfl⟩:=v_str rx;exact⟨EqAt.str_tuple i t p' hu0,RcAt.str_tuple i t p' hu0⟩
   | fls m=>obtain⟨b,its',rfl,rl',p'⟩:=cZ I ry;obtain⟨t,rfl⟩:=v_str rx;exact⟨EqAt.str_list i t p' hu0,RcAt.str_list i t p' hu0⟩
   | ref a=>cases hy
   | oth a=>cases hy
   | _=>exact ih (by omega) (by cases n<;>rfl) (by cases n<;>rfl) rx ry
end
end
section
variable {B:Bs}
section
variable {X:Cx}{pins:List (Addr×Obj)}{σ:L2.St}{H:Hp}{s:Shared}
def RDv(K:PySem.W.Frag)(H:Hp)(d:PV)(x:V):Prop:=match d with
 | .fls l=>∃a vs,x=.ref a/\SqL K H a vs/\RPs K H l vs
 | d=>RP K H d x
theorem RDv.rd{K:PySem.W.Frag}{d:PV}{x:V}{u:Value}(h:RDv K H d x)(r:L2.RelV x u):RD K H d u:=by
 cases d with
 | fls l=>obtain⟨a,vs,rfl,q,rr⟩:=h;cases r;exact⟨a,vs,rfl,q,rr⟩
 | _=>exact⟨x,h,r⟩
def cX(x:PV)(H:PHp)(k:PV->Prop):Prop:=match x with
 | .ref a=>∃l,H a=some (.lst l)/\k (.fls l)
 | x=>k x
theorem cX.ex{K:PySem.W.Frag}{σ':St'}{x:PV}{v:V}{H':PHp}{k:PV->Prop}(h:cX x H' k)(s:SR K B σ' H' σ H)(r:RP K H x v):∃d,RDv K H d v/\k d:=by
 cases x with
 | ref a =>
  obtain⟨l,e,h⟩:=h;obtain⟨us,q,r2⟩:=s.hp _ _ e;simp only[RP]at r;exact⟨.fls l,⟨a,us,r,SqL.of q,r2⟩,h⟩
 | fls l =>
  simp only[RP]at r;obtain⟨a,us,e,q,r⟩:=r;exact⟨.fls l,⟨a,us,e,q.sq,r⟩,h⟩
 | non=>exact⟨.non,r,h⟩
 | bl b=>exact⟨.bl b,r,h⟩
 | int b=>exact⟨.int b,r,h⟩
 | str b=>exact⟨.str b,r,h⟩
 | tup b=>exact⟨.tup b,r,h⟩
 | oth b=>exact⟨.oth b,r,h⟩
def Ec(K:PySem.W.Frag)(g:Bool->Bool):R2:=fun x y H Q=>∃d1 d2,flat 9 d1=true/\flat 9 d2=true/\RDv K H d1 x/\RDv K H d2 y/\Q (.bl (g (deq d1 d2))) H
theorem a0(hu:X.A.units+64<cLine):OpR X (compareOp .Eq) (Ec X.K fun b=>b):=by
 intro pins s σ H x y v u Q I rx ry h;obtain⟨d1,d2,f1,f2,r1,r2,q⟩:=h;exact(kG I 9 (by omega) f1 f2 (r1.rd rx) (r2.rd ry)).2 _ _ _ _ ⟨.bl _,H,I,rfl,q⟩
def Cj(g:Bool->Bool):R2':=fun x y H Q=>cX x H fun d1=>cX y H fun d2=>flat 9 d1=true/\flat 9 d2=true/\Q (.bl (g (deq d1 d2))) H
theorem bx{K:PySem.W.Frag}{g:Bool->Bool}:VR K B (Cj g) (Ec K g):=by
 intro σ' σ H' H x' y' x y Q' Q s rx ry h k;obtain⟨d1,r1,h1⟩:=cX.ex h s rx;obtain⟨d2,r2,f1,f2,q⟩:=cX.ex h1 s ry;exact⟨d1,d2,f1,f2,r1,r2,k _ H' _ H q (by simp[RP]) s (Ev.refl _ _)⟩
def AQ(K:PySem.W.Frag)(g:Bool->Bool):R2:=fun x y H Q=>∃d p l us,flat 8 d=true/\RDv K H d x/\y=.ref p/\l.all (flat 8)=true/\RPs K H l us/\(SqL K H p us∨SqT K H p us)/\Q (.bl (g (l.any fun z=>deq z d))) H
open Classical in
theorem fV(I:Inv X pins σ H s){A:Around}{d:PV}{v:Value}{l:List PV}{its:List Value}(hu:A.units+20<cLine)(fd:flat 8 d=true)(rd:RD X.K H d v)(fl:l.all (flat 8)=true)(rl:RL X.K H l its) :
  ∃e:Value->Bool,(∀y,y∈its.toArray->SeqAt.EqAt A.in1 s y v (e y))/\its.toArray.any e=l.any fun z=>deq z d:=by
 refine⟨fun u=>decide (∃z,flat 8 z=true/\RD X.K H z u/\deq z d=true),fun y hy=>?_,?_⟩
 ·have hy':y∈its:=by simpa using hy
  obtain⟨i,hi⟩:=List.mem_iff_getElem?.mp hy';obtain⟨z,ez,rz⟩:=rl.get hi;have fz:=JO.mp fl z (Ja ez);have q:=(kG I 8 (A:=A.in1) (by show A.units+1+8<cLine;omega) fz fd rz.rd rd).1;have e:decide (∃z,flat 8 z=true/\RD X.K H z y/\deq z d=true)=deq z d:=by
   rw[Kg,decide_eq_true_iff];constructor
   ·rintro⟨z',f',r',e'⟩;rw[lN I 8 fz f' rz.rd r'];exact e'
   ·intro e;exact⟨z,fz,rz.rd,e⟩
  show SeqAt.EqAt A.in1 s y v (decide _);rw[e];exact q
 ·rw[Kg];simp only[List.any_toArray,KI,decide_eq_true_iff];constructor
  ·rintro⟨u,hu',z,fz,rz,ez⟩;obtain⟨i,hi⟩:=List.mem_iff_getElem?.mp hu';obtain⟨z2,ez2,rz2⟩:=rl.get hi;have fz2:=JO.mp fl z2 (Ja ez2);refine⟨z2,Ja ez2,?_⟩;rw[lN I 8 fz2 fz rz2.rd rz];exact ez
  ·rintro⟨z,hz,ez⟩;obtain⟨i,hi⟩:=List.mem_iff_getElem?.mp hz;have hlt:i<its.length:=by
    have:=(IM.mp hi).1;rw[rl.length];exact this
   obtain⟨z2,ez2,rz2⟩:=rl.get (ID hlt);rw[hi]at ez2;cases ez2;exact⟨_,Ju hlt,z,JO.mp fl z hz,rz2.rd,ez⟩
theorem bL(hu:X.A.units+64<cLine):OpR X (compareOp .In) (AQ X.K fun b=>b):=by
 intro pins s σ H x y v u Q I rx ry h;obtain⟨d,p,l,us,fd,rd,rfl,fl,rl,hq,q⟩:=h;cases ry;rcases hq with hq | hq
 ·obtain⟨its,rv,pl,_⟩:=I.list hq;obtain⟨e,h1,h2⟩:=fV I (A:=X.A) (by omega) fd (rd.rd rx) fl ⟨us,rl,rv⟩;exact SeqAt.in_listAt e pl.isList h1 (by rw[h2];exact⟨.bl _,H,I,rfl,q⟩)
 ·obtain⟨its,rv,pl,_⟩:=I.tuple hq;obtain⟨e,h1,h2⟩:=fV I (A:=X.A) (by omega) fd (rd.rd rx) fl ⟨us,rl,rv⟩;exact SeqAt.in_tupleAt e pl h1 (by rw[h2];exact⟨.bl _,H,I,rfl,q⟩)
theorem aW(hu:X.A.units+64<cLine):OpR X (compareOp .NotIn) (AQ X.K fun b=>!b):=by
 intro pins s σ H x y v u Q I rx ry h;obtain⟨d,p,l,us,fd,rd,rfl,fl,rl,hq,q⟩:=h;cases ry;rcases hq with hq | hq
 ·obtain⟨its,rv,pl,_⟩:=I.list hq;obtain⟨e,h1,h2⟩:=fV I (A:=X.A) (by omega) fd (rd.rd rx) fl ⟨us,rl,rv⟩;exact SeqAt.notIn_listAt e pl.isList h1 (by rw[h2];exact⟨.bl _,H,I,rfl,q⟩)
 ·obtain⟨its,rv,pl,_⟩:=I.tuple hq;obtain⟨e,h1,h2⟩:=fV I (A:=X.A) (by omega) fd (rd.rd rx) fl ⟨us,rl,rv⟩;exact SeqAt.notIn_tupleAt e pl h1 (by rw[h2];exact⟨.bl _,H,I,rfl,q⟩)
def vO(g:Bool->Bool):R2':=fun x y H Q=>cX x H fun d=>cB y H fun l=>flat 8 d=true/\l.all (flat 8)=true/\Q (.bl (g (l.any fun z=>deq z d))) H
theorem bf{K:PySem.W.Frag}{g:Bool->Bool}:VR K B (vO g) (AQ K g):=by
 intro σ' σ H' H x' y' x y Q' Q s rx ry h k;obtain⟨d1,r1,h1⟩:=cX.ex h s rx;obtain⟨l,us,p,rfl,r2,hq,f1,f2,q⟩:=cB.ex h1 s ry;exact⟨d1,p,l,us,f1,r1,rfl,f2,r2,hq,k _ H' _ H q (by simp[RP]) s (Ev.refl _ _)⟩
def nR(g:Bool->Bool):R2':=fun x y H Q=>match y,x with
 | .non,.non=>Q (.bl (g true)) H
 | .non,.oth _=>False
 | .non,_=>Q (.bl (g false)) H
 | _,_=>False
theorem Aj{K:PySem.W.Frag}{g:Bool->Bool}{x y:PV}{v w:V}{H':PHp}{Q':VK'}(h:nR g x y H' Q')(rx:RP K H x v)(ry:RP K H y w):w=.non/\Q' (.bl (g (decide (v=.non)))) H':=by
 cases y with
 | non =>
  simp only[RP]at ry;refine⟨ry,?_⟩;cases x with
  | non=>simp only[RP]at rx;subst rx;exact h
  | oth _=>exact h.elim
  | tup l =>
   simp only[RP]at rx;obtain⟨a,us,rfl,_⟩:=rx;exact h
  | fls l =>
   simp only[RP]at rx;obtain⟨a,us,rfl,_⟩:=rx;exact h
  | _=>simp only[RP]at rx;subst rx;exact h
 | _=>cases x<;>exact h.elim
theorem kJ{K:PySem.W.Frag}:VR K B (nR fun b=>b) (fun x y H Q=>y=.non/\Q (.bl (decide (x=.non))) H):=by
 intro σ' σ H' H x' y' x y Q' Q s rx ry h k;obtain⟨e,q⟩:=Aj h rx ry;exact⟨e,k _ H' _ H q (by simp[RP]) s (Ev.refl _ _)⟩
inductive BT where | non | bool | int | str | list | tuple
def BT.nm:BT->String | .non=>"NoneType" | .bool=>"bool" | .int=>"int" | .str=>"str" | .list=>"list" | .tuple=>"tuple"
def BT.sub:BT->BT->Bool
 | .non,.non=>true | .bool,.bool=>true | .int,.int=>true | .str,.str=>true | .list,.list=>true | .tuple,.tuple=>true
 | .bool,.int=>true
 | _,_=>false
theorem zT(K:PySem.W.Frag)(t c:BT):PySem.W.kitOne K (.type t.nm) (.type c.nm)=some (t.sub c):=by
 cases t<;>cases c<;>kernel_rfl
def btV(K:PySem.W.Frag)(H:Hp)(t:BT)(x:V):Prop:=match t with
 | .non=>x=.non
 | .bool=>∃b,x=.bl b
 | .int=>∃b,x=.int b
 | .str=>∃b,x=.str b
 | .list=>∃a us,x=.ref a/\SqL K H a us
 | .tuple=>∃a us,x=.ref a/\SqT K H a us
theorem aP(c:BT):cf X (.builtin "isinstance") (fun xs H Q=>∃x t,xs=[x,.ty c.nm]/\btV X.K H t x/\Q (.bl (t.sub c)) H):=by
 intro pins s σ H xs us Q I r h;obtain⟨x,t,rfl,ht,q⟩:=h;obtain⟨u,w',rfl,rx,rc⟩:=vals2 r;have e1:w'=Value.type c.nm:=rc;subst e1;have k:=zT X.K t c;have fin:∀tk,EP X pins σ Q (.bool (t.sub c)) { s with toks:=tk }:=fun tk=>⟨.bl _,H,I.tok _,rfl,q⟩;cases t with
 | non=>cases (show x=V.non from ht);exact eD I rx .non k fin
 | bool=>obtain⟨b,rfl⟩:=ht;exact eD I rx (.bl b) k fin
 | int=>obtain⟨b,rfl⟩:=ht;exact eD I rx (.int b) k fin
 | str=>obtain⟨b,rfl⟩:=ht;exact eD I rx (.str b) k fin
 | list =>
  obtain⟨a,us,rfl,hq⟩:=ht;cases rx;obtain⟨its,rv,pl,_⟩:=I.list hq;obtain⟨o,e,hc,_⟩:=pl.isList;exact J3 PySem.W.kitx_list I.kIn ⟨o,e,hc⟩ k (fun z=>nomatch z) fin
 | tuple =>
  obtain⟨a,us,rfl,hq⟩:=ht;cases rx;obtain⟨its,rv,pl,_⟩:=I.tuple hq;obtain⟨o,e,hc,_⟩:=pl;exact J3 PySem.W.kitx_tuple I.kIn ⟨o,e,hc⟩ k (fun z=>nomatch z) fin
def cy(x:PV)(H:PHp)(k:BT->Prop):Prop:=match x with
 | .non=>k .non
 | .bl _=>k .bool
 | .int _=>k .int
 | .str _=>k .str
 | .tup _=>k .tuple
 | .fls _=>k .list
 | .ref a=>∃l,H a=some (.lst l)/\k .list
 | _=>False
theorem cy.ex{K:PySem.W.Frag}{σ':St'}{x:PV}{v:V}{H':PHp}{k:BT->Prop}(h:cy x H' k)(s:SR K B σ' H' σ H)(r:RP K H x v):∃t,btV K H t v/\k t:=by
 cases x with
 | non=>simp only[RP]at r;exact⟨.non,r,h⟩
 | bl b=>simp only[RP]at r;exact⟨.bool,⟨b,r⟩,h⟩
 | int b=>simp only[RP]at r;exact⟨.int,⟨b,r⟩,h⟩
 | str b=>simp only[RP]at r;exact⟨.str,⟨b,r⟩,h⟩
 | tup l=>simp only[RP]at r;obtain⟨a,us,e,q,_⟩:=r;exact⟨.tuple,⟨a,us,e,q⟩,h⟩
 | fls l=>simp only[RP]at r;obtain⟨a,us,e,q,_⟩:=r;exact⟨.list,⟨a,us,e,q.sq⟩,h⟩
 | ref a =>
  simp only[RP]at r;obtain⟨l,e,h⟩:=h;obtain⟨us,q,_⟩:=s.hp _ _ e;exact⟨.list,⟨a,us,r,SqL.of q⟩,h⟩
 | oth _=>exact h.elim
def Bw(c:BT):List PV->PHp->VK'->Prop:=fun xs H Q=>match xs with
 | [x,.oth (.ty n)]=>n=c.nm/\cy x H fun t=>Q (.bl (t.sub c)) H
 | _=>False
theorem bD{K:PySem.W.Frag}(c:BT):VC K B (Bw c) (fun xs H Q=>∃x t,xs=[x,.ty c.nm]/\btV K H t x/\Q (.bl (t.sub c)) H):=by
 intro σ' σ H' H xs' xs Q' Q s r h k;unfold Bw at h;split at h
 ·rename_i x n;obtain⟨rfl,h⟩:=h;simp only[RPs,RP]at r;obtain⟨u,r1,rfl,rx,w,r2,rfl,rfl,rfl⟩:=r;obtain⟨t,bt,h⟩:=cy.ex h s rx;exact⟨u,t,rfl,bt,k _ H' _ H h (by simp[RP]) s (Ev.refl _ _)⟩
 ·exact h.elim
theorem bE{x:Str}{n:String}{pos:Pos}(hg:Gl X x)(hm:X.mg x=none)(hv:bootBuiltins x=some (.type n))(hn:x≠"__name__":=by decide)(hd:(x==("__debug__":Str))=false:=by decide):PE' X B (.Name x pos) (uC (.oth (.ty n))) :=
 a7 (wJ (v:=.ty n) hg hm hv rfl hn hd) fun _ _ _ h=>qH (fun _=>by simp[RP]) h
variable {e o:Expr}{es:List Expr}{to:TE'}{t:TA'}{name:Str}{apos cpos:Pos}
def isL(x:PV)(H1:PHp):Prop:=match x with
 | .ref a=>∃l,H1 a=some (.lst l)
 | _=>False
def uBM(r:PV->List PV->PHp->VK'->Prop)(to:TE')(t:TA'):TE':=fun σ H Q=>to σ H fun x H1=>isL x H1/\t σ H1 fun xs H2=>r x xs H2 Q
def EU(r:PV->List PV->PHp->VK'->Prop)(to:TE'):TE':=fun σ H Q=>to σ H fun x H1=>r x [] H1 Q
def VM(K:PySem.W.Frag)(B:Bs)(r':PV->List PV->PHp->VK'->Prop)(r:V->List V->Hp->VK->Prop):Prop:=∀(σ':St') (σ:L2.St) (H':PHp) (H:Hp) x' xs' x xs (Q':VK') (Q:VK),SR K B σ' H' σ H->RP K H x' x->RPs K H xs' xs->r' x' xs' H' Q' ->
 (∀v' H1' v H1,Q' v' H1'->RP K H1 v' v->SR K B σ' H1' σ H1->Ev H' H H1' H1->Q v H1)->r x xs H Q
theorem A6{K:PySem.W.Frag}{r':PV->List PV->PHp->VK'->Prop}{r:V->List V->Hp->VK->Prop}(v:VM K B r' r){σ:L2.St}{H:Hp}{Q:VK}(h:low K B (uBM r' to t) σ H Q):tBM K "list" r (low K B to) (sP K B t) σ H Q:=by
 obtain⟨σ',H',Q',s,h,k⟩:=h;refine⟨σ',H',_,s,h,fun x' H1' x H1 h1 rx s1 e1=>?_⟩;obtain⟨ty,h1⟩:=h1;constructor
 ·cases x' with
  | ref a =>
   obtain⟨l,e⟩:=ty;obtain⟨us,q,_⟩:=s1.hp _ _ e;simp only[RP]at rx;subst rx;exact .inl ⟨rfl,us,SqL.of q⟩
  | _=>exact ty.elim
 ·refine⟨σ',H1',_,s1,h1,fun xs' H2' xs H2 h2 r2 s2 e2=>?_⟩;exact v σ' σ H2' H2 x' xs' x xs Q' Q s2 (RP.kp K (e2.kp s1.hp) rx) r2 h2 fun v' H3' v H3 q rv s3 e3=>k v' H3' v H3 q rv s3 (e1.trans (e2.trans e3))
theorem bV{id:String}{r':PV->List PV->PHp->VK'->Prop}{r:V->List V->Hp->VK->Prop}(slot:Slot "list" name id)(hty:typeOf (.builtin id)=pure (.type "method_descriptor"))(hm:MtR X id r)(v:VM X.K B r' r)(ho:PE' X B o to)(ha:PA' X B (e::es) t)
  (hbase:attributeBase o name X.env (eval o X.env)=eval o X.env:=by rfl)
  (hfew:((backTo cpos (starEach (e::es) X.env)).all (fun x=>!x.1)&&(backToKw cpos (keywordEach [] X.env)).all (fun x=>x.1.isSome)
   && decide ((e::es).length+([]:List Keyword).length+(if ([]:List Keyword).isEmpty then 0 else 1)<30))=true:=by rfl)
  (hline:(apos.endLine==cpos.line)=true:=by rfl) (hs:starEach (e::es) X.env=(false,eval e X.env)::starEach es X.env:=by rfl) (hplain:(backTo cpos (starEach es X.env)).any (·.1)=false:=by rfl) :
  PE' X B (.Call (.Attribute o name apos) (e::es) [] cpos) (uBM r' to t):=a7 (CZ PySem.F.plainAttrs_list slot hty hm ho ha hbase hfew hline hs hplain) fun _ _ _ h=>A6 v h
theorem oz{id:String}{r':PV->List PV->PHp->VK'->Prop}{r:V->List V->Hp->VK->Prop}(slot:Slot "list" name id)(hty:typeOf (.builtin id)=pure (.type "method_descriptor"))(hm:MtR X id r)(v:VM X.K B r' r)
  (hl:∀x H Q,r' x [] H Q->match x with | .ref a=>∃l,H a=some (.lst l) | _=>False) (ho:PE' X B o to)
  (hbase:attributeBase o name X.env (eval o X.env)=eval o X.env:=by rfl) (hline:(apos.endLine==cpos.line)=true:=by rfl) :
  PE' X B (.Call (.Attribute o name apos) [] [] cpos) (EU r' to):=a7 (BR PySem.F.plainAttrs_list slot hty hm ho hbase hline) fun σ H Q h=>by
 obtain⟨σ',H',Q',s,h,k⟩:=h;refine⟨σ',H',_,s,h,fun x' H1' x H1 h1 rx s1 e1=>?_⟩;constructor
 ·have ty:=hl _ _ _ h1;cases x' with
  | ref a =>
   obtain⟨l,e⟩:=ty;obtain⟨us,q,_⟩:=s1.hp _ _ e;simp only[RP]at rx;subst rx;exact .inl ⟨rfl,us,SqL.of q⟩
  | _=>exact ty.elim
 ·exact v σ' σ H1' H1 x' [] x [] Q' Q s1 rx (RPs.nil _) h1 fun v' H3' v H3 q rv s3 e3=>k v' H3' v H3 q rv s3 (e1.trans e3)
def kD:PV->List PV->PHp->VK'->Prop:=fun x vs H Q=>match x,vs with
 | .ref a,[y]=>∃l,H a=some (.lst l)/\l.length<sizeLine/\Q .non (put H a (.lst (l++[y])))
 | _,_=>False
theorem bu{K:PySem.W.Frag}:VM K B kD pU:=by
 intro σ' σ H' H x' xs' x xs Q' Q s rx r h k;unfold kD at h;split at h
 ·rename_i a y;obtain⟨l,e,hl,h⟩:=h;obtain⟨us,q,r2⟩:=s.hp _ _ e;simp only[RP,RPs]at rx r;obtain⟨u,r1,rfl,ru,rfl⟩:=r;subst rx;exact⟨a,us,u,rfl,rfl,q,by rw[RPs.length _ r2];exact hl,k _ _ _ _ h (by simp[RP]) (s.wr e (wrL s.hp e (RPs.append _ r2 (RPs.cons _ ru (RPs.nil _))))) (Ev.wr e)⟩
 ·exact h.elim
def kA:PV->List PV->PHp->VK'->Prop:=fun x vs H Q=>match x,vs with
 | .ref a,[.ref b]=>∃l m,H a=some (.lst l)/\H b=some (.lst m)/\l.length+m.length≤sizeLine/\Q .non (put H a (.lst (l++m)))
 | _,_=>False
theorem cK{K:PySem.W.Frag}:VM K B kA pX:=by
 intro σ' σ H' H x' xs' x xs Q' Q s rx r h k;unfold kA at h;split at h
 ·rename_i a b;obtain⟨l,m,e,e2,hl,h⟩:=h;obtain⟨us,q,r2⟩:=s.hp _ _ e;obtain⟨ws,q2,r3⟩:=s.hp _ _ e2;simp only[RP,RPs]at rx r;obtain⟨u,r1,rfl,ru,rfl⟩:=r;subst rx;subst ru;exact⟨a,b,us,ws,rfl,rfl,q,q2,by rw[RPs.length _ r2,RPs.length _ r3];exact hl,k _ _ _ _ h (by simp[RP]) (s.wr e (wrL s.hp e (RPs.append _ r2 r3))) (Ev.wr e)⟩
 ·exact h.elim
def xX:PV->List PV->PHp->VK'->Prop:=fun x vs H Q=>match x,vs with
 | .ref a,[]=>∃l y,H a=some (.lst l)/\l[l.length - 1]?=some y/\Q y (put H a (.lst l.dropLast))
 | _,_=>False
theorem A0{K:PySem.W.Frag}:VM K B xX Cf:=by
 intro σ' σ H' H x' xs' x xs Q' Q s rx r h k;unfold xX at h;split at h
 ·rename_i a;obtain⟨l,y,e,hl,h⟩:=h;obtain⟨us,q,r2⟩:=s.hp _ _ e;simp only[RP,RPs]at rx r;subst rx;subst r;obtain⟨u,e1,e2⟩:=RPs.get _ r2 hl;exact⟨a,us,u,rfl,rfl,q,by rw[RPs.length _ r2];exact e1,k _ _ _ _ h (RP.kp _ (s.hp.kpw e) e2) (s.wr e (wrL s.hp e (RPs.dropLast _ r2))) (Ev.wr e)⟩
 ·exact h.elim
end
end
section
variable {B:Bs}
theorem qS(lo:Int)(n i:Nat)(h:i<n):(bX lo n).drop i=PV.int (lo+(i:Nat))::(bX lo n).drop (i+1):=by
 have hl:i<(bX lo n).length:=by simpa[bX]using h
 rw[List.drop_eq_getElem_cons hl];simp[bX]
theorem uh(lo:Int)(n:Nat):(bX lo n).drop n=[]:=by
 apply List.drop_of_length_le;simp[bX]
theorem c8{ok:PHp->Prop}{g:TG'}{tb:TS'}{D:dY}{lo:Int}{n:Nat}(Pv:Nat->St'->PHp->Prop)(hd:∀σ H,Pv n σ H->ok H/\D.nx σ H)
  (hs:∀(G:St'->PHp->Prop) i σ H,i<n->Pv i σ H->(∀σ' H',Pv (i+1) σ' H'->G σ' H')->ok H/\g (.int (lo+(i:Nat))) σ H fun σ2 H2=>tb { D with nx:=G,ct:=G,bk:=D.nx } σ2 H2)
  {σ:St'} {H:PHp} (h0:Pv 0 σ H):fH ok g tb D (bX lo n) σ H:=by
 have key:∀(k i:Nat) {σ:St'} {H:PHp},i+k=n->Pv i σ H->fH ok g tb D ((bX lo n).drop i) σ H:=by
  intro k
  induction k with
  | zero =>
   intro i σ H hk p;have:i=n:=hk;subst this;rw[uh];exact hd σ H p
  | succ k ih =>
   intro i σ H hk p;have hi:i<n:=hk▸Nat.lt_add_of_pos_right (Nat.succ_pos k);rw[qS lo n i hi];exact hs _ i σ H hi p fun σ' H' p'=>ih (i+1) ((Nat.succ_add_eq_add_succ i k).trans hk) p'
 exact key n 0 (Nat.zero_add n) h0
theorem bR{ok:PHp->Prop}{g:TG'}{tb:TS'}{D:dY}{xs:List PV}(Pv:Nat->St'->PHp->Prop)(hd:∀σ H,Pv xs.length σ H->ok H/\D.nx σ H)
  (hs:∀(G:St'->PHp->Prop) i x σ H,xs[i]?=some x->Pv i σ H->(∀σ' H',Pv (i+1) σ' H'->G σ' H')->ok H/\g x σ H fun σ2 H2=>tb { D with nx:=G,ct:=G,bk:=D.nx } σ2 H2)
  {σ:St'} {H:PHp} (h0:Pv 0 σ H):fH ok g tb D xs σ H:=by
 have key:∀(k i:Nat) {σ:St'} {H:PHp},xs.length - i=k->i≤xs.length->Pv i σ H->fH ok g tb D (xs.drop i) σ H:=by
  intro k
  induction k with
  | zero =>
   intro i σ H hk hi p;have:i=xs.length:=by omega
   subst this;rw[List.drop_length];exact hd σ H p
  | succ k ih =>
   intro i σ H hk hi p;have hl:i<xs.length:=by omega
   rw[List.drop_eq_getElem_cons hl];exact hs _ i _ σ H (ID hl) p fun σ' H' p'=>ih (i+1) (by omega) (by omega) p'
 have:=key xs.length 0 (by omega) (by omega) h0;simpa using this
theorem v7{m:List Int}{z:Int}(h0:0≤z)(h1:z<m.length):atI (m.map PV.int) z=some (.int (m.getD z.toNat 0)):=by
 unfold atI ixN;rw[IZ h0,kb,IZ h1];show(m.map PV.int)[z.toNat]?=_;rw[IV,IE];have:z.toNat<m.length:=by omega
 rw[ID this];rfl
theorem w_V{v:PV}{k:PV->Prop}:ke (some (some v)) k=k v:=rfl
theorem w_B{b:Bool}{k:Bool->Prop}:d7 (.bl b) k=k b:=rfl
theorem w_I{b:Int}{k:Int->Prop}:bY (.int b) k=k b:=rfl
theorem w_O{b:PV}{k:PV->Prop}:j5 (some b) k=k b:=rfl
theorem Gn{l:List PV}{H:PHp}{k:List PV->Prop}:cB (.tup l) H k=k l:=rfl
theorem HN{l:List PV}{H:PHp}{k:List PV->Prop}:cB (.fls l) H k=k l:=rfl
theorem Fj{a:Addr}{H:PHp}{k:List PV->Prop}:cB (.ref a) H k=∃l,H a=some (.lst l)/\k l:=rfl
theorem G5{a:Addr}{H:PHp}{k:PV->Prop}:cX (.ref a) H k=∃l,H a=some (.lst l)/\k (.fls l):=rfl
theorem GS{H:PHp}{k:PV->Prop}:cX .non H k=k .non:=rfl
theorem Iu{b:Bool}{H:PHp}{k:PV->Prop}:cX (.bl b) H k=k (.bl b):=rfl
theorem Ic{b:Int}{H:PHp}{k:PV->Prop}:cX (.int b) H k=k (.int b):=rfl
theorem Ir{b:Str}{H:PHp}{k:PV->Prop}:cX (.str b) H k=k (.str b):=rfl
theorem G8{b:List PV}{H:PHp}{k:PV->Prop}:cX (.tup b) H k=k (.tup b):=rfl
theorem Gd{b:List PV}{H:PHp}{k:PV->Prop}:cX (.fls b) H k=k (.fls b):=rfl
theorem GQ{H:PHp}{k:BT->Prop}:cy .non H k=k .non:=rfl
theorem Fn{b:Bool}{H:PHp}{k:BT->Prop}:cy (.bl b) H k=k .bool:=rfl
theorem GC{b:Int}{H:PHp}{k:BT->Prop}:cy (.int b) H k=k .int:=rfl
theorem Iq{b:Str}{H:PHp}{k:BT->Prop}:cy (.str b) H k=k .str:=rfl
theorem Gs{b:List PV}{H:PHp}{k:BT->Prop}:cy (.tup b) H k=k .tuple:=rfl
theorem HD{b:List PV}{H:PHp}{k:BT->Prop}:cy (.fls b) H k=k .list:=rfl
theorem FY{a:Addr}{H:PHp}{k:BT->Prop}:cy (.ref a) H k=∃l,H a=some (.lst l)/\k .list:=rfl
theorem Fg{b:Int}{k:Int->Prop}:intOf (.int b) k=k b:=rfl
theorem E8{b:Bool}{k:Int->Prop}:intOf (.bl b) k=k (b2n b):=rfl
theorem F5{l:List PV}{lo hi:Option Int}{H:PHp}{Q:VK'}:sliceOf (.fls l) lo hi H Q=∀p,H p=none->Q (.ref p) (put H p (.lst (cY l lo hi))):=rfl
theorem Gw{a:Addr}{lo hi:Option Int}{H:PHp}{Q:VK'}:sliceOf (.ref a) lo hi H Q=∃l,H a=some (.lst l)/\∀p,H p=none->Q (.ref p) (put H p (.lst (cY l lo hi))):=rfl
theorem Iw{l:List PV}{lo hi:Option Int}{H:PHp}{Q:VK'}:sliceOf (.tup l) lo hi H Q=(¬(HT.sIx l.length 0 lo=0/\HT.sIx l.length l.length hi=l.length)/\Q (.tup (cY l lo hi)) H):=rfl
theorem HP{l:List PV}{H:PHp}{R:It'->PHp->Prop}:w4 (.tup l) H R=R ⟨l,fun _=>True⟩ H:=rfl
theorem HI{l:List PV}{H:PHp}{R:It'->PHp->Prop}:w4 (.fls l) H R=R ⟨l,fun _=>True⟩ H:=rfl
theorem FX{a:Addr}{H:PHp}{R:It'->PHp->Prop}:w4 (.ref a) H R=∃l,H a=some (.lst l)/\R ⟨l,fun H=>H a=some (.lst l)⟩ H:=rfl
theorem w_1{f:PV->PHp->VK'->Prop}{x:PV}{H:PHp}{Q:VK'}:cP f [x] H Q=f x H Q:=rfl
theorem Cg{c:BT}{x:PV}{n:String}{H:PHp}{Q:VK'}:Bw c [x,.oth (.ty n)] H Q=(n=c.nm/\cy x H fun t=>Q (.bl (t.sub c)) H):=rfl
theorem HM{g:Bool->Bool}{H:PHp}{Q:VK'}:nR g .non .non H Q=Q (.bl (g true)) H:=rfl
theorem Fo{g:Bool->Bool}{a:Addr}{H:PHp}{Q:VK'}:nR g (.ref a) .non H Q=Q (.bl (g false)) H:=rfl
theorem Gb{g:Bool->Bool}{l:List PV}{H:PHp}{Q:VK'}:nR g (.tup l) .non H Q=Q (.bl (g false)) H:=rfl
theorem HX{g:Bool->Bool}{l:Int}{H:PHp}{Q:VK'}:nR g (.int l) .non H Q=Q (.bl (g false)) H:=rfl
theorem HB{g:Bool->Bool}{l:Bool}{H:PHp}{Q:VK'}:nR g (.bl l) .non H Q=Q (.bl (g false)) H:=rfl
theorem FJ{n:Nat}{t:gS}{l:List PV}{σ:St'}{H:PHp}{Q:St'->PHp->Prop}:Dz n t (.tup l) σ H Q=(l.length=n/\t l σ H Q):=rfl
theorem F0{t:TG'}{u:gS}{v:PV}{r:List PV}{σ:St'}{H:PHp}{Q:St'->PHp->Prop}:yD t u (v::r) σ H Q=t v σ H fun σ' H'=>u r σ' H' Q:=rfl
theorem GO{σ:St'}{H:PHp}{Q:St'->PHp->Prop}:Av [] σ H Q=(True/\Q σ H):=by simp[Av]
theorem Ia{t:TA'}{σ:St'}{H:PHp}{R:It'->PHp->Prop}:y6 t σ H R=t σ H fun vs H1=>xD vs H1 R:=rfl
theorem E4{j:Int}{H1:PHp}{R:It'->PHp->Prop}:xD [.int j] H1 R=((-(2 ^ 62)≤j/\j<2 ^ 62)/\R ⟨bX 0 j.toNat,fun _=>True⟩ H1):=rfl
theorem Fe{t:TA'}{σ:St'}{H:PHp}{R:It'->PHp->Prop}:zp t σ H R=t σ H fun vs H1=>wu vs H1 R:=rfl
theorem Cw{i j:Int}{H1:PHp}{R:It'->PHp->Prop}:wu [.int i,.int j] H1 R=((-(2 ^ 62)≤i/\i<2 ^ 62/\-(2 ^ 62)≤j/\j<2 ^ 62)/\R ⟨bX i (j - i).toNat,fun _=>True⟩ H1):=rfl
theorem FC{a:Addr}{y:PV}{H:PHp}{Q:VK'}:kD (.ref a) [y] H Q=∃l,H a=some (.lst l)/\l.length<sizeLine/\Q .non (put H a (.lst (l++[y]))):=rfl
theorem Hi{a b:Addr}{H:PHp}{Q:VK'}:kA (.ref a) [.ref b] H Q=∃l m,H a=some (.lst l)/\H b=some (.lst m)/\l.length+m.length≤sizeLine/\Q .non (put H a (.lst (l++m))):=rfl
theorem FV{a:Addr}{H:PHp}{Q:VK'}:xX (.ref a) [] H Q=∃l y,H a=some (.lst l)/\l[l.length - 1]?=some y/\Q y (put H a (.lst l.dropLast)):=rfl
theorem Ft{r:PV->List PV->PHp->VK'->Prop}{to:TE'}{t:TA'}{σ:St'}{H:PHp}{Q:VK'}:uBM r to t σ H Q=to σ H fun x H1=>isL x H1/\t σ H1 fun xs H2=>r x xs H2 Q:=rfl
theorem Fy{a:Addr}{H:PHp}:isL (.ref a) H=∃l,H a=some (.lst l):=rfl
theorem ao{n:Nat}(h:n≤1000):n≤sizeLine:=Nat.le_of_lt (aS h)
end
section
theorem aj{t u:TS'}{D:dY}{σ:St'}{H:PHp}(h:∀R:TS',R=u->qX t R D σ H):qX t u D σ H:=h u rfl
end
section
variable {B:Bs}
section
variable {X:Cx}{pins:List (Addr×Obj)}{σ:L2.St}{H H':Hp}{s:Shared}{h':Heap}{a C T:Addr}{fl:Value}
variable {M:Model}{E:Value->Shared->Prop}{Q:Unit->Shared->Prop}
end
end
end U
namespace U
open L2 PySem.W
section
variable {prog:Program}{w:World}{A:Around}{E:Value->Shared->Prop}{h:Heap}{g:Array GenState}{d:Drawn}{t:Nat}{os:OsState}{a C:Addr}{o:Obj}{K:Frag}
end
end U
namespace U
open L2
section
variable {B:Bs}
section
variable {P:Program}{w:World}{K:PySem.W.Frag}{mg:Str->Option Value}{base:Heap}
end
section
variable {X:Cx}{k:Nat}{f C D:Addr}{fd:FuncData}{ps:List Str}{sp:Sp'}{E:XK}{E':XK'}{x m n:Str}{p np pos apos cpos:Pos}{e o:Expr}{es:List Expr}{ta:TE'}{t:TA'}
end
end
section
variable {B:Bs}
section
variable {X:Cx}{pins:List (Addr×Obj)}{σ:L2.St}{H:Hp}{s:Shared}{a C T:Addr}{fl:Value}
abbrev mk(X:Cx)(e:Value):Cx:={ X with A:=X.A.mark (some e),calm:=false,xe:=fun _ _=>False }
end
end
section
variable {B:Bs}
section
variable {X:Cx}{k:Nat}{f C D:Addr}{fd:FuncData}{ps:List Str}{sp:Sp'}{x m n:Str}{p np pos apos cpos:Pos}{e o:Expr}{es:List Expr}{ta:TE'}{t:TA'}
end
end
section
def pr(p:Str×Bool):PV:=.tup [.str p.1,.bl p.2]
def told(xs:List (Str×Bool)):List PV:=(xs.filter (·.2)).map fun p=>PV.str p.1
end
section
def pairs:List (Str×TE')->List Bool->List PV
 |(n,_)::r,b::bs=>.tup [.str n,.bl b]::pairs r bs
 | _,_=>[]
end
end U
namespace U
theorem len0{P:List Value->Prop}(h:P [])(us:List Value)(hl:us.length=0):P us:=by
 cases us with
 | nil=>exact h
 | cons a r=>exact absurd hl (Nat.succ_ne_zero _)
theorem E6{P:List Value->Prop}(h:∀a,P [a])(us:List Value)(hl:us.length=1):P us:=by
 cases us with
 | nil=>exact absurd hl.symm (Nat.succ_ne_zero _)
 | cons a r=>exact len0 (P:=fun r=>P (a::r)) (h a) r (Nat.succ.inj hl)
theorem DX{P:List Value->Prop}(h:∀a b,P [a,b])(us:List Value)(hl:us.length=2):P us:=by
 cases us with
 | nil=>exact absurd hl.symm (Nat.succ_ne_zero _)
 | cons a r=>exact E6 (P:=fun r=>P (a::r)) (h a) r (Nat.succ.inj hl)
theorem Dh{P:List Value->Prop}(h:∀a b c,P [a,b,c])(us:List Value)(hl:us.length=3):P us:=by
 cases us with
 | nil=>exact absurd hl.symm (Nat.succ_ne_zero _)
 | cons a r=>exact DX (P:=fun r=>P (a::r)) (h a) r (Nat.succ.inj hl)
theorem GV{P:List Value->Prop}(h:∀a b c d,P [a,b,c,d])(us:List Value)(hl:us.length=4):P us:=by
 cases us with
 | nil=>exact absurd hl.symm (Nat.succ_ne_zero _)
 | cons a r=>exact Dh (P:=fun r=>P (a::r)) (h a) r (Nat.succ.inj hl)
end U
namespace U
open L2
variable {B:Bs}{X:Cx}
end U
namespace L2
section
def cn(X:Cx)(N2:List Str)(scope:Scope)(cl:List (Str×Addr))(s0:Shared)(H0:Hp)(fp:List Addr)(ps:List (Addr×Obj)):Cx :=
 { X with N:=N2,s₀:=s0,H₀:=H0,env:=compEnvC scope cl s0.heap.objs.size X.env,outer:=X.stack,stack:=X.stack,ex:=fp,fn:=fun x=>(cl.lookup x).isNone,pn:=ps,xe:=fun _ _=>False }
def mz(nt:Nat)(js:List Nat)(σ:St):St:=List.replicate nt none++js.map fun j=>(σ[j]?).join
theorem cA{env:Env}:∀{names:List (Str×NameKind)} {x:Str},names.lookup x=some .free ->
  (names.map fun(n,k)=>if (k==NameKind.free&&env.scope.kind==.function&&env.kindOf n==some .cell)then(n,NameKind.cell)else(n,k)).lookup x=some .cell ∨
  (names.map fun(n,k)=>if (k==NameKind.free&&env.scope.kind==.function&&env.kindOf n==some .cell)then(n,NameKind.cell)else(n,k)).lookup x=some .free
 | [],_,h=>by simp at h
 |(n,k)::r,x,h=>by
  have ih:=@cA env r x;show List.lookup x ((if (k==NameKind.free&&env.scope.kind==.function&&env.kindOf n==some .cell)=true then(n,NameKind.cell)else(n,k))::_)=_∨List.lookup x ((if (k==NameKind.free&&env.scope.kind==.function&&env.kindOf n==some .cell)=true then(n,NameKind.cell)else(n,k))::_)=_;cases hx:x==n with
  | true =>
   simp only[JP,hx]at h;cases h;by_cases hc:(NameKind.free==NameKind.free&&env.scope.kind==.function&&env.kindOf n==some .cell)=true
   ·rw[IZ hc];simp[JP,hx]
   ·rw[IX hc];simp[JP,hx]
  | false =>
   simp only[JP,hx]at h;by_cases hc:(k==NameKind.free&&env.scope.kind==.function&&env.kindOf n==some .cell)=true
   ·rw[IZ hc];simp only[JP,hx];exact ih h
   ·rw[IX hc];simp only[JP,hx];exact ih h
structure b8 (X:Cx) (N2:List Str) (nt:Nat) (js:List Nat) (scope:Scope) (cl:List (Str × Addr)) (sc:Scope):Prop where
 clos:closureFor scope X.env=pure cl
 sub:∀x c,cl.lookup x=some c->X.env.cells.lookup x=some c
 xsc:X.env.scope=sc
 kind:scope.kind=.function
 nocell:∀y∈scope.names,y.2≠.cell
 loc:∀y∈scope.names,y.2=.local->scope.names.lookup y.1=some .local
 has:∀y∈scope.names,y.2=.free->y.1∈cl.map (·.1)
 frs:∀x∈N2.drop nt,scope.names.lookup x=some .free/\sc.names.lookup x=some .cell
 len:N2.length=nt+js.length
 pl:∀(k j:Nat),js[k]?=some j->X.N[j]?=N2[nt+k]?
theorem mem_lookup{α:Type}:∀{l:List (Str×α)} {x:Str},x∈l.map (·.1)->∃c,l.lookup x=some c
 | [],_,h=>by simp at h
 |(n,k)::r,x,h=>by
  cases hx:x==n with
  | true=>exact⟨k,by simp[JP,hx]⟩
  | false =>
   have h':x=n∨x∈r.map (·.1):=by simpa using h
   have hn:x≠n:=by intro e;subst e;simp at hx
   obtain⟨c,e⟩:=mem_lookup (h'.resolve_left hn);exact⟨c,by simp[JP,hx,e]⟩
theorem lookup_mem{α:Type}:∀{l:List (Str×α)} {x:Str} {c:α},l.lookup x=some c->(x,c)∈l
 | [],_,_,h=>by simp at h
 |(n,k)::r,x,c,h=>by
  cases hx:x==n with
  | true =>
   simp only[JP,hx]at h;have e:x=n:=by simpa using hx
   cases h;subst e;exact IK
  | false =>
   simp only[JP,hx]at h;exact IJ _ (lookup_mem h)
section
variable {X:Cx}{pins:List (Addr×Obj)}{σ:St}{H:Hp}{s:Shared}{N2:List Str}{nt:Nat}{js:List Nat}{scope sc:Scope}{cl:List (Str×Addr)}{fp:List Addr}
theorem b8.kindOf(O:b8 X N2 nt js scope cl sc){x:Str}{C:Addr}(h:(compEnvC scope cl C X.env).kindOf x=some .cell∨(compEnvC scope cl C X.env).kindOf x=some .free):∃c,cl.lookup x=some c:=by
 have h':(relabel scope X.env).names.lookup x=some .cell∨(relabel scope X.env).names.lookup x=some .free:=h;have key:∀(k:NameKind),(relabel scope X.env).names.lookup x=some k->(k=.cell∨k=.free)->∃y∈scope.names,y.1=x/\(y.2=.cell∨y.2=.free):=fun k e hk=>by
  have m:=lookup_mem e;obtain⟨⟨n,k'⟩,hm,e'⟩:=IF.mp m;by_cases hc:(k'==NameKind.free&&X.env.scope.kind==.function&&X.env.kindOf n==some .cell)=true
  ·simp only[hc,if_true]at e';have e1:n=x:=congrArg Prod.fst e';refine⟨(n,k'),hm,e1,.inr ?_⟩;rw[Ku,Ku]at hc;exact Kk.mp hc.1.1
  ·have e'':(n,k')=(x,k):=by
    dsimp only at e';rw[IX hc]at e';exact e'
   cases e'';exact⟨(x,k),hm,rfl,hk⟩
 obtain⟨y,hy,rfl,hk⟩:=h'.elim (fun e=>key _ e (.inl rfl)) fun e=>key _ e (.inr rfl);rcases hk with hk | hk
 ·exact absurd hk (O.nocell y hy)
 ·exact mem_lookup (O.has y hy hk)
theorem rE(O:b8 X N2 nt js scope cl sc)(I:Inv X pins σ H s)(hf:∀b∈fp,fR X pins H b)(hlt:∀b∈fp,b<s.heap.objs.size):(cn X N2 scope cl s H fp (X.pn++pins)).Ok where
 mod:=I.ok.mod
 kind:=O.kind
 glob:=I.ok.glob
 blt:=I.ok.blt
 above:=IS _
 inj:=fun x y c h1 h2=>I.ok.inj x y c (O.sub x c h1) (O.sub y c h2)
 has:=fun x h=>O.kindOf h
 cab:=fun x c h1 h2=>by
  have h1':(cl.lookup x).isNone=true:=h1;have h2':cl.lookup x=some c:=h2;rw[h2']at h1';cases h1'
 hd:=I.ok.hd
 frames:=I.ok.frames
 stk:=.inl rfl
 exf:=fun b hb=>⟨Jc (hlt b hb),fun x c e=>(hf b hb).2.2.2.2.1 x c (O.sub x c e)⟩
 bs:=I.bs
 bsz:=Jl I.ok.bsz I.sz
 noex:=fun b o e hb=>by
  obtain⟨_,_,_,h3,_⟩:=hf b hb;rcases h3 with h3 | h3
  ·exact I.ok.noex b o e h3
  ·exact absurd (Jo (IQ (I.ok.bs b o e).1) h3) (KQ _)
 exfs:=fun b hb hs=>by
  obtain⟨_,h1,h2,_⟩:=hf b hb;rcases IY.mp (I.stkSub b hs)with e | e
  ·exact h1 e
  ·exact h2 e
 funs:=I.stack
 frf:=I.stkFree
theorem nU(O:b8 X N2 nt js scope cl sc)(I:Inv X pins σ H s)(hf:∀b∈fp,fR X pins H b)(hlt:∀b∈fp,b<s.heap.objs.size){h4:Heap}{t4:Nat}(hn:h4.Ns s.heap.objs.size fun _=>none)
  (hk:∀b o,s.heap.get? b=some o->h4.get? b=some o):Inv (cn X N2 scope cl s H fp (X.pn++pins)) [] (mz nt js σ) H { s with heap:=h4,toks:=t4 }:=by
 refine⟨rE O I hf hlt,rfl,I.bare,Un.kept hk,⟨_,hn,fun i x v e1 e2 e3=>?_⟩,fun x c e=>?_,I.hok.fresh (IS _),fun x c e=>I.freeC x c (O.sub x c e),fun p hp=>?_,I.hok.kept hk,?_⟩
 ·unfold mz at e2;by_cases hi:i<nt
  ·rw[Kj (by simpa using hi),List.getElem?_replicate]at e2;split at e2<;>cases e2
  ·obtain⟨k,rfl⟩:∃k,i=nt+k:=⟨i - nt,by omega⟩;rw[Kx (by simp),Km,Nat.add_sub_cancel_left,IV]at e2;cases ej:js[k]? with
   | none=>rw[ej]at e2;cases e2
   | some j =>
    rw[ej]at e2;have e2':(σ[j]?).join=some v:=Js e2;have eσ:σ[j]?=some (some v):=by
     cases q:σ[j]? with
     | none=>rw[q]at e2';cases e2'
     | some o=>rw[q]at e2';exact congrArg some e2'
    have eN:X.N[j]?=some x:=(O.pl k j ej).trans e1;have hx:x∈N2.drop nt:=by
     have:(N2.drop nt)[k]?=some x:=by rw[List.getElem?_drop];exact e1
     exact Ja this
    obtain⟨f1,f2⟩:=O.frs x hx;have vis:Vis X.env.scope x:=.inr (.inl (by rw[O.xsc];exact f2));obtain⟨m,hnX,hl⟩:=I.loc;obtain⟨u,r,l⟩:=hl j x v eN eσ vis;refine⟨u,r,.inr ⟨?_,?_⟩⟩
    ·exact cA f1
    ·rcases l with⟨k1,_⟩ |⟨_,c,ec,ic⟩
     ·have k2:sc.names.lookup x=some .local:=by rw[←O.xsc];exact k1
      rw[f2]at k2;cases k2
     ·obtain⟨c',ec'⟩:=mem_lookup (O.has (x,.free) (lookup_mem f1) rfl);have:=O.sub x c' ec';rw[ec]at this;cases this;obtain⟨o,ho,hd⟩:=ic;exact⟨c,ec',o,hk _ _ ho,hd⟩
 ·obtain⟨v,o,ho,hd⟩:=I.cell x c (O.sub x c e);exact⟨v,o,hk _ _ ho,hd⟩
 ·have hp':p∈X.pn++pins:=by
   have hp2:p∈(X.pn++pins)++[]:=hp
   rwa [Ji]at hp2
  obtain⟨e,n,ne,nf,d⟩:=I.pin p hp';refine⟨hk _ _ e,n,Jc (IQ e),fun hb=>?_,d⟩;rcases IY.mp (I.stkSub p.1 hb)with z | z
  ·exact ne z
  ·exact nf z
 ·unfold mz;show _=N2.length;rw[II,Km,kb,O.len]
theorem uz{σ':St}(I:Inv X pins σ H s)(hf:∀b∈fp,fR X pins H b)(J:Inv (cn X N2 scope cl s H fp (X.pn++pins)) pl σ' H' s'):Inv X pins σ H' s' :=
 I.call' (ch:=fp) J.os J.base J.hok J.bare fun b hb=>by
  obtain⟨h0,h1,h2,h3,h4,h5⟩:=hf b hb;exact⟨h3,h1,h4,h5⟩
end
end
section
def PIf(Y:Cx)(ifs:List Expr)(t:TT):Prop :=
 ∀(pins:List (Addr×Obj)) (s:Shared) (σ:St) (H:Hp) (Q:Bool->Hp->Prop),Inv Y pins σ H s->t σ H Q ->
  wpAny (model Y.prog Y.w) Y.A (forIn ifs true fun c r=>if r=true then do let ok←isTrue c Y.env (eval c Y.env);pure (ForInStep.yield ok)else pure (ForInStep.yield r)) (TP Y pins σ Q) Y.xe s
def HE:TT:=fun _ H Q=>Q true H
theorem yf:PIf Y [] HE:=fun _ _ _ H _ I h=>wpAny_tests_nil ⟨H,I,h⟩
theorem wV(h:PT Y c t):PIf Y [c] t:=fun pins s σ H Q I hw=>wpAny_tests_one (h pins s σ H Q I hw)
def zm(acc:Addr)(J:It)(g:TG)(tt:TT)(te:TE)(W:Nat->Nat->L2.St->Hp->Prop)(i m:Nat)(σ0:L2.St)(H:Hp):Prop :=
 J.go i H/\∀x H',J.yld i H x H'->g x σ0 H' fun σ3 H2=>tt σ3 H2 fun b H3 =>
  if b=true then te σ3 H3 fun y H4=>∃ys,H4 acc=some (.lst ys)/\ys.length<sizeLine/\∃m',m'<m/\W (i+1) m' σ3 (upd H4 acc (.lst (ys++[y])))
  else ∃m',m'<m/\W (i+1) m' σ3 H3
def sD(nt:Nat)(js:List Nat)(wi:TI)(g:TG)(tt:TT)(te:TE):TE:=fun σ H Q=>wi σ H fun J H1=>∀acc,H1 acc=none ->
 ∃W:Nat->Nat->L2.St->Hp->Prop,(∃m,W 0 m (mz nt js σ) (upd H1 acc (.lst [])))/\∀i m σ0 H,W i m σ0 H->(J.stop i H/\Q (.ref acc) H)∨zm acc J g tt te W i m σ0 H
structure vd (Y:Cx) (tg:Expr) (ifs:List Expr) (elt:Expr) (g:TG) (tt:TT) (te:TE):Prop where
 tgt:PG Y tg g
 tst:PIf Y ifs tt
 elt:PE Y elt te
theorem kW(I:Nat->Shared->Prop)
  (turn:∀n s,I n s->wpAny (model prog w) A (pyNext it) (fun r s₁=>match r with
   | none=>R (.ok .next) s₁
   | some v=>wpAny (model prog w) A (letOwnedTupleGo target it v) (fun _ s₀=>wpAny (model prog w) A (assign target env v) (fun _ s₂ =>
     wpAny (model prog w) A (forIn ifs true fun c r=>if r=true then do let ok←isTrue c env (eval c env);pure (ForInStep.yield ok)else pure (ForInStep.yield r)) (fun ok s₃ =>
      if ok=true then wpAny (model prog w) A (eval elt env) (fun x s₄ =>
       wpAny (model prog w) A (call (.builtin "list.append") [acc,x]) (fun _ s₅=>∃m,m<n/\I m s₅) (fun _ _=>False) s₄) (fun _ _=>False) s₃
      else ∃m,m<n/\I m s₃) (fun _ _=>False) s₂) (fun _ _=>False) s₀) (fun _ _=>False) s₁) (fun _ _=>False) s)
  (n:Nat) (h:I n s) :
  codeAny (model prog w) A (.compLoop (.ListComp elt [⟨target,iter,ifs,0⟩] scope pos) 0 it acc env) R s:=by
 refine codeAny_loop rfl I (fun n s hI=>?_) n h;show wpAny _ A ((compTurn (.ListComp elt [⟨target,iter,ifs,0⟩] scope pos) 0 it acc env).onRaise (fun x=>do noteFrame x env;theTreesLotGoes x)) _ _ s;refine wpAny_noted ?_;rw[compTurn_list];refine IC (wpAny_standAt (IC (KH (turn n s hI) (fun r s₁ h₁=>?_) fun _ _ h'=>h'.elim)));cases r with
 | none=>exact IH h₁
 | some v =>
  refine IC (KH h₁ (fun _ s₀ h₀=>?_) fun _ _ h'=>h'.elim);refine IC (KH h₀ (fun _ s₂ h₂=>IC (KH h₂ (fun ok s₃ h₃=>?_) fun _ _ h'=>h'.elim)) fun _ _ h'=>h'.elim);cases ok with
  | false=>exact IH ⟨rfl,h₃⟩
  | true =>
   exact IC (IC (KH h₃ (fun x s₄ h₄=>IC (KH h₄ (fun _ s₅ h₅=>IH (IH ⟨rfl,h₅⟩)) fun _ _ h'=>h'.elim)) fun _ _ h'=>h'.elim))
section
variable {X:Cx}{pins:List (Addr×Obj)}{σ:St}{H:Hp}{s:Shared}{N2:List Str}{nt:Nat}{js:List Nat}{scope sc:Scope}{cl:List (Str×Addr)}{fp:List Addr}{elt iter tg:Expr}{ifs:List Expr}{pos:Pos}
 {wi:TI} {g:TG} {tt:TT} {te:TE}
theorem lZ(O:b8 X N2 nt js scope cl sc)(hc:X.calm=true)(B:∀(s0:Shared) (H0:Hp) (fp:List Addr) (ps:List (Addr×Obj)),vd (cn X N2 scope cl s0 H0 fp ps) tg ifs elt g tt te)
  {it:Addr} {tn:Nat->Heap->Prop} {J:It} {E:Value->Shared->Prop} {Q:VK} {RR:Value->Addr->Result->Shared->Prop}
  (I:Inv X pins σ H s) (T:Turn X.prog X.w X.K tg J fp it tn) (st:tn 0 s.heap) (hf:∀b∈fp,fR X pins H b)
  (h:∀acc,H acc=none->∃W:Nat->Nat->L2.St->Hp->Prop,(∃m,W 0 m (mz nt js σ) (upd H acc (.lst [])))/\∀i m σ0 H,W i m σ0 H->(J.stop i H/\Q (.ref acc) H)∨zm acc J g tt te W i m σ0 H)
  (hRR:∀(acc C:Addr) (s':Shared) (H':Hp) (m:Str->Option Value),s'.heap.Ns C m->Inv X pins σ H' s'->H' C=none->C≠X.env.locals->X.s₀.heap.objs.size≤C->(∀x c,X.env.cells.lookup x=some c->c≠C)->(∀p∈X.pn++pins,p.1≠C)->Q (.ref acc) H'->RR (.ref acc) C (.ok .next) s') :
  wpAny (model X.prog X.w) X.A (newList []) (fun acc s₃=>wpAny (model X.prog X.w) X.A (newFunctionEnv scope X.env.globals cl [] X.env.qual none .none (some X.env)) (fun cenv s₄ =>
   codeAny (model X.prog X.w) X.A (.compStart (.ListComp elt [⟨tg,iter,ifs,0⟩] scope pos) 0 (.ref it) acc { cenv with scope:=relabel scope X.env }) (RR acc cenv.locals) s₄) E s₃) E s:=by
 have hlt:∀b∈fp,b<s.heap.objs.size:=fun b hb=>by
  obtain⟨o,e,_⟩:=T.obj _ _ st b hb;exact IQ e
 have hnA:H s.heap.objs.size=none:=I.hok.fresh (IS _);obtain⟨W,⟨m0,w0⟩,turn⟩:=h s.heap.objs.size hnA;refine JI (wpAny_newFunctionEnv O.nocell (by intro y hy;simp at hy) (fun h₁ hns₁ hsb₁=>?_) O.kind);dsimp only at hns₁ hsb₁ ⊢;have I3:Inv X pins σ (upd H s.heap.objs.size (.lst [])) { s with heap:=s.heap.push { cls:=.type "list",dict:=none,data:=.seq ([]:List Value).toArray } } :=
  I.laid (t':=s.toks) (fun b u e=>IG _ e) (IS _) ⟨by show 0≤sizeLine;exact JW _,[],0,.nil,IT _ rfl⟩
 generalize hs3:({ s with heap:=s.heap.push { cls:=.type "list",dict:=none,data:=.seq ([]:List Value).toArray } }:Shared)=s3 at I3;have e3:s3.heap=s.heap.push { cls:=.type "list",dict:=none,data:=.seq ([]:List Value).toArray }:=by rw[←hs3]
 rw[←e3]at hns₁ hsb₁ ⊢;have et:s3.toks=s.toks:=by rw[←hs3]
 have hf3:∀b∈fp,fR X pins (upd H s.heap.objs.size (.lst [])) b:=fun b hb=>by
  obtain⟨f0,f⟩:=hf b hb;exact⟨by rw[aH (Jc (hlt b hb))];exact f0,f⟩
 have hlt3:∀b∈fp,b<s3.heap.objs.size:=fun b hb=>by rw[e3,Heap.size_push];exact J5 (hlt b hb)
 have hk4:∀b o,s3.heap.get? b=some o->h₁.get? b=some o:=fun b o e=>hsb₁.extBut b o (Jc (IQ e)) (IG _ e);have hns':h₁.Ns s3.heap.objs.size fun _=>none:=hns₁;have I4:=nU (t4:=s3.toks+([]:List (Str×Value)).length) O I3 hf3 hlt3 hns' hk4;have st4:tn 0 h₁:=T.keep _ _ _ st fun b hb o e=>hk4 b o (by rw[e3];exact IG _ e);have B4:=B s3 (upd H s.heap.objs.size (.lst [])) fp (X.pn++pins);generalize hY:cn X N2 scope cl s3 (upd H s.heap.objs.size (.lst [])) fp (X.pn++pins)=Y at I4 B4;have yP:Y.prog=X.prog:=by rw[←hY];rfl
 have yw:Y.w=X.w:=by rw[←hY];rfl
 have yK:Y.K=X.K:=by rw[←hY];rfl
 have yA:Y.A=X.A:=by rw[←hY];rfl
 have yc:Y.calm=true:=by rw[←hY];exact hc
 have yx:Y.xe=fun _ _=>False:=by rw[←hY];rfl
 have ye:Y.env=compEnvC scope cl s3.heap.objs.size X.env:=by rw[←hY];rfl
 have fpY:∀{H':Hp},(∀b∈fp,H' b=none)->∀b∈fp,fR Y [] H' b:=fun hn b hb=>by
  obtain⟨f0,f1,f2,f3,f4,f5⟩:=hf3 b hb;rw[←hY];refine⟨hn b hb,Jc (hlt3 b hb),fun hs=>?_,.inl hb,fun x c e=>f4 x c (O.sub x c e),fun p hp=>?_⟩
  ·rcases IY.mp (I3.stkSub b hs)with e | e
   ·exact f1 e
   ·exact f2 e
  ·have hp2:p∈(X.pn++pins)++[]:=hp;rw[Ji]at hp2;exact f5 p hp2
 have fin:∀{σ':St} {H':Hp} {s':Shared} {pl:List (Addr×Obj)},Inv Y pl σ' H' s'->Q (.ref s.heap.objs.size) H'->RR (.ref s.heap.objs.size) s3.heap.objs.size (.ok .next) s':=fun {σ' H' s' pl} I' q=>by
  have J':Inv X pins σ H' s':=uz I3 hf3 (hY▸I');obtain⟨m,hn,_⟩:=I'.loc;have hfr:=I'.free;rw[ye]at hn hfr;refine hRR _ _ s' H' m hn J' hfr (K6 I3.lt) I3.sz (fun x c e z=>?_) (fun p hp z=>?_) q
  ·obtain⟨v,q⟩:=I3.cell x c e;exact absurd (Jo q.lt (by rw[z];exact IS _)) (KQ _)
  ·exact absurd (Jo (IQ (I3.pin p hp).1) (by rw[z];exact IS _)) (KQ _)
 have loop:∀s4:Shared,s4={ s3 with heap:=h₁,toks:=s3.toks+([]:List (Str×Value)).length } ->
   codeAny (model X.prog X.w) X.A (.compLoop (.ListComp elt [⟨tg,iter,ifs,0⟩] scope pos) 0 (.ref it) (.ref s.heap.objs.size) (compEnvC scope cl s3.heap.objs.size X.env)) (RR (.ref s.heap.objs.size) s3.heap.objs.size) s4:=by
  rintro s4 rfl;refine kW (fun n s'=>∃i σ0 H',Inv Y [] σ0 H' s'/\tn i s'.heap/\(∀b∈fp,H' b=none)/\W i n σ0 H') ?_ m0
   ⟨0,_,_,I4,st4,fun b hb=>(hf3 b hb).1,w0⟩
  rintro n s5 ⟨i,σ5,H5,I5,st5,fr5,w5⟩;rcases turn i n σ5 H5 w5 with⟨stop,q⟩ |⟨go,step⟩
  ·have r:=T.done Y yP yw yK yc i [] s5 _ H5 (fun _ _=>False) I5 (fpY fr5) st5 stop;rw[yA]at r;refine thn r fun r s6 y_=>?_;obtain⟨hr,I6⟩:=y_;subst hr;exact fin I6 q
  ·have r:=T.item Y yP yw yK yc i [] s5 _ H5 (fun _ _=>False) I5 (fpY fr5) st5 go;rw[yA]at r;refine thn r fun r s6 y_=>?_;obtain⟨u,hr,h6⟩:=y_;subst hr;refine thn h6 fun _ s7 y_=>?_;obtain⟨x,H7,I7,r7,y7,st7,fr7⟩:=y_;have I7':=I7.pinned (fpY fr7) (T.obj _ _ st7);have r:=B4.tgt _ s7 _ H7 x u _ I7' r7 (step x H7 y7);rw[yP,yw,yA,yx,ye]at r;refine thn r fun _ s8 y_=>?_;obtain⟨σ8,H8,I8,q8⟩:=y_;have r:=B4.tst _ s8 σ8 H8 _ I8 q8;rw[yP,yw,yA,yx,ye]at r;refine thn r fun ok s9 y_=>?_;obtain⟨H9,I9,q9⟩:=y_;have back:∀{s':Shared} {H':Hp},Inv Y ([]++jw fp s7.heap) σ8 H' s'->(Inv Y [] σ8 H' s'/\tn (i+1) s'.heap/\∀b∈fp,H' b=none):=fun {s' H'} I'=>by
    refine⟨I'.unpinned,T.keep _ _ _ st7 fun b hb o e=>(I'.pin (b,o) (Jd _ (Jd _ (dJ hb e)))).1,fun b hb=>?_⟩;obtain⟨o,e,d⟩:=T.obj _ _ st7 b hb;exact(I'.pin (b,o) (Jd _ (Jd _ (dJ hb e)))).2.1
   cases ok with
   | false =>
    have q9':∃m',m'<n/\W (i+1) m' σ8 H9:=q9;obtain⟨m',hm,w9⟩:=q9';obtain⟨b1,b2,b3⟩:=back I9;show ∃m,m<n/\_;exact⟨m',hm,i+1,σ8,H9,b1,b2,b3,w9⟩
   | true =>
    have q9':te σ8 H9 fun y H4=>∃ys,H4 s.heap.objs.size=some (.lst ys)/\ys.length<sizeLine/\∃m',m'<n/\W (i+1) m' σ8 (upd H4 s.heap.objs.size (.lst (ys++[y]))):=q9;have r:=B4.elt _ s9 σ8 H9 _ I9 q9';rw[yP,yw,yA,yx,ye]at r;show wpAny _ _ (eval elt _) _ _ s9;refine thn r fun y s10 y_=>?_;obtain⟨yv,H10,I10,r10,q10⟩:=y_;obtain⟨ys,a1,a2,m',hm,w10⟩:=q10;have r:=bj (X:=Y) _ s10 σ8 H10 (.ref s.heap.objs.size) [yv] (.ref s.heap.objs.size) [y] (fun _ H'=>H'=upd H10 s.heap.objs.size (.lst (ys++[yv]))) I10 rfl (.cons r10 .nil) ⟨_,ys,yv,rfl,rfl,a1,a2,rfl⟩;rw[yP,yw,yA,yx]at r;refine thn r fun _ s11 y_=>?_;obtain⟨_,H11,I11,_,e11⟩:=y_;subst e11;obtain⟨b1,b2,b3⟩:=back I11;exact⟨m',hm,i+1,σ8,_,b1,b2,b3,w10⟩
 have st4':tn 0 ({ s3 with heap:=h₁,toks:=s3.toks+([]:List (Str×Value)).length }:Shared).heap:=st4;have hs4:({ s with heap:=h₁,toks:=s.toks+([]:List (Str×Value)).length }:Shared)={ s3 with heap:=h₁,toks:=s3.toks+([]:List (Str×Value)).length }:=by rw[←hs3]
 exact codeAny_compStart_list (loop _ hs4) (T.self _ 0 _ _ _ st4 (loop _ hs4))
theorem vm(O:b8 X N2 nt js scope cl sc)(hc:X.calm=true)(hi:PI X tg iter wi)(B:∀(s0:Shared) (H0:Hp) (fp:List Addr) (ps:List (Addr×Obj)),vd (cn X N2 scope cl s0 H0 fp ps) tg ifs elt g tt te)
  (hs:∀x,foldedSetIterable iter X.env x=pure x:=by intro _;rfl):PE X (.ListComp elt [⟨tg,iter,ifs,0⟩] scope pos) (sD nt js wi g tt te):=by
 intro pins s σ H Q I h;rw[eval_ListComp];refine wpAny_comprehension_free (use:=none) rfl hs O.clos O.kind O.loc (thn (hi pins s σ H _ I h) fun xv s1 h1=>thn h1 fun itv s2 h2=>?_);obtain⟨it,fp,tn,J,H2,e,I2,T,st2,f2,q⟩:=h2;subst e;refine lZ (RR:=fun acc C=>compPost (model X.prog X.w) X.A X.xe none (EP X pins σ Q) acc C) O hc B I2 T st2 f2 q ?_;intro acc C s' H' m hn J' c1 c2 c3 c4 c5 q';refine⟨m,hn,fun h' hsb=>⟨.ref acc,H',?_,rfl,q'⟩⟩;exact J'.turned (t':=s'.toks) (fun b o hb e=>hsb.extBut b o hb e) c1 (Ne.symm c2 |> fun z=>fun y=>z y.symm) (.inr c3) c4 c5
theorem u0{i:Nat}{y:Str}{py spos:Pos}(hN:X.N.Nodup)(hy:X.N[i]?=some y)(hl:Loc X.env.scope y)(O:b8 X N2 nt js scope cl sc)(hc:X.calm=true)(hi:PI X tg iter wi)
  (B:∀(s0:Shared) (H0:Hp) (fp:List Addr) (ps:List (Addr×Obj)),vd (cn X N2 scope cl s0 H0 fp ps) tg ifs elt g tt te)
  (hsw:swapsWith (.ListComp elt [⟨tg,iter,ifs,0⟩] scope pos) (some (.Name y py)) spos.line X.env=pure true:=by rfl)
  (hs:∀x,foldedSetIterable iter X.env x=pure x:=by intro _;rfl) (hfn:X.fn y=true∨X.env.scope.names.lookup y=some .local:=by first | exact .inl rfl | exact .inr rfl | assumption) :
  PS X (.Assign [.Name y py] (.ListComp elt [⟨tg,iter,ifs,0⟩] scope pos) spos) (yn (sD nt js wi g tt te) (qo i)):=by
 intro pins s σ H D I h;rw[exec_Assign_Name_used _ _ _ _ hsw];refine IC (wpAny_standAt (IC ?_));show wpAny _ X.A (do let _←comprehension (.ListComp elt [⟨tg,iter,ifs,0⟩] scope pos) scope X.env _ (newList []) false (eval iter X.env) (some (assign (.Name y py) X.env))) _ _ s;refine IC (KH (wpAny_comprehension_free (use:=some (assign (.Name y py) X.env)) (Q:=fun _ s'=>SP X pins D .next s') rfl hs O.clos O.kind O.loc
  (thn (hi pins s σ H _ I h) fun xv s1 h1=>thn h1 fun itv s2 h2=>?_)) (fun _ s' hq=>IH (IH hq)) fun _ _ e=>e)
 obtain⟨it,fp,tn,J,H2,e,I2,T,st2,f2,q⟩:=h2;subst e;refine lZ (Q:=fun v H1=>qo i v σ H1 D.nx) (RR:=fun acc C=>compPost (model X.prog X.w) X.A X.xe (some (assign (.Name y py) X.env)) (fun _ s'=>SP X pins D .next s') acc C) O hc B I2 T st2 f2 q ?_;intro acc C s' H' m hn J' c1 c2 c3 c4 c5 q';show wpAny _ X.A (assign (.Name y py) X.env (.ref acc)) _ _ _;refine wpAny_assign_Name (kl (v:=.ref acc) J' hN hy hl rfl (fun s2 I2' ⟨a,sb,ha⟩=>?_) hfn);have hCa:C≠a:=by
  rcases ha with ha | ha
  ·rw[ha];exact c2
  ·exact fun z=>c4 y a ha z.symm
 refine⟨m,hn.sameBut sb hCa,fun h' hsb=>⟨_,H',?_,q'⟩⟩;exact I2'.turned (t':=s2.toks) (fun b o hb e=>hsb.extBut b o hb e) c1 c2 (.inr c3) c4 c5
end
end
end L2
namespace U
open L2
section
variable {B:Bs}{X:Cx}{pos:Pos}
def xV(nt:Nat)(js:List Nat)(σ:St'):St':=List.replicate nt none++js.map fun j=>(σ[j]?).join
theorem SR.sig{K:PySem.W.Frag}(s:SR K B σ' H' σ H)(nt:Nat)(js:List Nat):SR K B (xV nt js σ') H' (mz nt js σ) H:=by
 refine⟨by simp[xV,mz],fun i v' e=>?_,s.hp,s.ev⟩;unfold xV at e;unfold mz;by_cases hi:i<nt
 ·rw[Kj (by simpa using hi),List.getElem?_replicate]at e;split at e<;>cases e
 ·rw[Kx (by simp;omega),Km,IV]at e ⊢;cases ej:js[i - nt]? with
  | none=>rw[ej]at e;cases e
  | some j =>
   rw[ej]at e;have e2:(σ'[j]?).join=some v':=Js e;cases q:σ'[j]? with
   | none=>rw[q]at e2;cases e2
   | some o =>
    rw[q]at e2;have e3:σ'[j]?=some (some v'):=by rw[q];exact congrArg some e2
    obtain⟨v,a,b⟩:=s.loc j v' e3;exact⟨v,by show some ((σ[j]?).join)=_;rw[a];rfl,b⟩
def cz(ok:PHp->Prop)(g:TG')(tt:TT')(te:TE')(acc:Addr)(Q:VK'):List PV->St'->PHp->Prop
 | [],σ,H=>ok H/\Q (.ref acc) H
 | x::r,σ,H=>ok H/\g x σ H fun σ3 H2=>tt σ3 H2 fun b H3=>cif b (te σ3 H3 fun y H4=>∃l,H4 acc=some (.lst l)/\l.length<sizeLine/\cz ok g tt te acc Q r σ3 (put H4 acc (.lst (l++[y])))) (cz ok g tt te acc Q r σ3 H3)
def h9(nt:Nat)(js:List Nat)(wi:TI')(g:TG')(tt:TT')(te:TE'):TE':=fun σ H Q=>wi σ H fun J H1=>∀acc,H1 acc=none->cz J.ok g tt te acc Q J.items (xV nt js σ) (put H1 acc (.lst []))
def A8(Y:Cx)(B:Bs)(ifs:List Expr)(t:TT'):Prop:=PIf Y ifs (nV Y.K B t)
def E7:TT':=fun _ H Q=>Q true H
theorem a9:A8 Y B [] E7:=fun pins s σ H Q I ⟨σ',H',Q',sr,h,k⟩=>yf pins s σ H Q I (k true H' H h sr (Ev.refl _ _))
theorem aV(h:PT' Y B c t):A8 Y B [c] t:=wV h
theorem kh{K:PySem.W.Frag}(h:low K B (h9 nt js wi g tt te) σ H Q) :
  sD nt js (yF K B wi) (lowG K B g) (nV K B tt) (low K B te) σ H Q:=by
 obtain⟨σ',H',Q',s,h,k⟩:=h;refine⟨σ',H',_,s,h,fun J' H1' J H1 h1 wk s1 e1 acc ha=>?_⟩;have h1:=h1 acc (s1.hp.free ha);have sn:SR K B σ' (put H1' acc (.lst [])) σ (upd H1 acc (.lst [])):=s1.new ha ⟨[],aR,RPs.nil _⟩;have en:Ev H1' H1 (put H1' acc (.lst [])) (upd H1 acc (.lst [])):=Ev.new ha;refine⟨fun i m σ2 H2=>i≤J'.items.length/\m=J'.items.length - i/\∃σ2' H2',SR K B σ2' H2' σ2 H2/\SR K B σ' H2' σ H2/\Ev H1' H1 H2' H2/\cz J'.ok g tt te acc Q' (J'.items.drop i) σ2' H2',
  ⟨J'.items.length,JW _,by simp,_,_,sn.sig nt js,sn,en,h1⟩,?_⟩
 rintro i m σ2 H2 ⟨hi,rfl,σ2',H2',s2,so,e2,h2⟩;have k2:=e2.kp s1.hp;by_cases hlt:i<J'.items.length
 ·obtain⟨x',hx⟩:∃x',J'.items[i]?=some x':=⟨_,ID hlt⟩;have hd:J'.items.drop i=x'::J'.items.drop (i+1):=by
   rw[List.drop_eq_getElem_cons hlt];rw[ID hlt]at hx;cases hx;rfl
  rw[hd]at h2;obtain⟨ok2,h2⟩:=(show J'.ok H2'/\_ from h2);refine .inr ⟨wk.go H2' H2 i k2 s2.hp ok2 hlt,fun x H3 y=>?_⟩;obtain⟨hr3,ev3,rx⟩:=wk.yld H2' H2 i x H3 k2 s2.hp ok2 y;have s2b:=s2.kp ev3 hr3;have sob:=so.kp ev3 hr3;have e2b:=e2.trans ev3;refine⟨x',σ2',H2',_,rx x' hx,s2b,h2,fun σ3' H3' σ3 H3 h3 s3 e3=>⟨σ3',H3',_,s3,h3,fun b H4' H4 h4 s4 e4=>?_⟩⟩;cases b with
  | false =>
   have e24:=e3.trans e4;exact mj ⟨J'.items.length - (i+1),by omega,hlt,rfl,σ3',H4',s4,sob.kp e24 s4.hp,e2b.trans e24,h4⟩
  | true =>
   refine mq ⟨σ3',H4',_,s4,h4,fun y' H5' y H5 h5 ry5 s5 e5=>?_⟩;obtain⟨l,a1,a2,h5⟩:=h5;have e25:=(e3.trans e4).trans e5;obtain⟨us,q1,q2⟩:=s5.hp _ _ a1;have wr:=wrL s5.hp a1 (RPs.append _ q2 (RPs.cons _ ry5 (RPs.nil _)));refine⟨us,q1,by rw[RPs.length _ q2];exact a2,J'.items.length - (i+1),by omega,hlt,rfl,σ3',_,s5.wr a1 wr,(sob.kp e25 s5.hp).wr a1 wr,(e2b.trans e25).trans (Ev.wr a1),h5⟩
 ·have hi':i=J'.items.length:=by omega
  subst hi';rw[List.drop_length]at h2;obtain⟨ok2,h2⟩:=(show J'.ok H2'/\_ from h2);exact .inl ⟨wk.stop H2' H2 k2 s2.hp ok2,k _ _ _ _ h2 (by simp[RP]) so (e1.trans e2)⟩
section
variable {N2:List Str}{nt:Nat}{js:List Nat}{scope sc:Scope}{cl:List (Str×Addr)}{elt iter tg:Expr}{ifs:List Expr}{wi:TI'}{g:TG'}{tt:TT'}{te:TE'}
structure gP (Y:Cx) (B:Bs) (tg:Expr) (ifs:List Expr) (elt:Expr) (g:TG') (tt:TT') (te:TE'):Prop where
 tgt:PG' Y B tg g
 tst:A8 Y B ifs tt
 elt:PE' Y B elt te
theorem m7(O:b8 X N2 nt js scope cl sc)(hc:X.calm=true)(hi:PIH X B tg iter wi)(b:∀(s0:Shared) (H0:Hp) (fp:List Addr) (ps:List (Addr×Obj)),gP (cn X N2 scope cl s0 H0 fp ps) B tg ifs elt g tt te)
  (hs:∀x,foldedSetIterable iter X.env x=pure x:=by intro _;rfl):PE' X B (.ListComp elt [⟨tg,iter,ifs,0⟩] scope pos) (h9 nt js wi g tt te) :=
 a7 (vm (g:=lowG X.K B g) (tt:=nV X.K B tt) (te:=low X.K B te) O hc hi (fun s0 H0 fp ps=>⟨(b s0 H0 fp ps).tgt,(b s0 H0 fp ps).tst,(b s0 H0 fp ps).elt⟩) hs) fun _ _ _ h=>kh h
theorem yi(O:b8 X N2 nt js scope cl sc)(hc:X.calm=true)(hi:PI' X B tg iter wi)(b:∀(s0:Shared) (H0:Hp) (fp:List Addr) (ps:List (Addr×Obj)),gP (cn X N2 scope cl s0 H0 fp ps) B tg ifs elt g tt te)
  (hs:∀x,foldedSetIterable iter X.env x=pure x:=by intro _;rfl):PE' X B (.ListComp elt [⟨tg,iter,ifs,0⟩] scope pos) (h9 nt js wi g tt te):=m7 O hc (oq hi) b hs
theorem va{i:Nat}{y:Str}{py spos:Pos}(hN:X.N.Nodup)(hy:X.N[i]?=some y)(hl:Loc X.env.scope y)(O:b8 X N2 nt js scope cl sc)(hc:X.calm=true)(hi:PIH X B tg iter wi)
  (b:∀(s0:Shared) (H0:Hp) (fp:List Addr) (ps:List (Addr×Obj)),gP (cn X N2 scope cl s0 H0 fp ps) B tg ifs elt g tt te)
  (hsw:swapsWith (.ListComp elt [⟨tg,iter,ifs,0⟩] scope pos) (some (.Name y py)) spos.line X.env=pure true:=by rfl)
  (hs:∀x,foldedSetIterable iter X.env x=pure x:=by intro _;rfl) (hfn:X.fn y=true∨X.env.scope.names.lookup y=some .local:=by first | exact .inl rfl | exact .inr rfl | assumption) :
  PS' X B (.Assign [.Name y py] (.ListComp elt [⟨tg,iter,ifs,0⟩] scope pos) spos) (lY (h9 nt js wi g tt te) (fj i)) :=
 dE (u0 (g:=lowG X.K B g) (tt:=nV X.K B tt) (te:=low X.K B te) hN hy hl O hc hi (fun s0 H0 fp ps=>⟨(b s0 H0 fp ps).tgt,(b s0 H0 fp ps).tst,(b s0 H0 fp ps).elt⟩) hsw hs hfn) fun D σ H y_=>by
  obtain⟨σ',H',D',s,h,d⟩:=y_;refine kh ⟨σ',H',_,s,h,fun v' H1' v H1 q r s1 e1=>?_⟩;exact d.nx _ _ _ _ q (s1.set r i) e1
theorem wN{i:Nat}{y:Str}{py spos:Pos}(hN:X.N.Nodup)(hy:X.N[i]?=some y)(hl:Loc X.env.scope y)(O:b8 X N2 nt js scope cl sc)(hc:X.calm=true)(hi:PI' X B tg iter wi)
  (b:∀(s0:Shared) (H0:Hp) (fp:List Addr) (ps:List (Addr×Obj)),gP (cn X N2 scope cl s0 H0 fp ps) B tg ifs elt g tt te)
  (hsw:swapsWith (.ListComp elt [⟨tg,iter,ifs,0⟩] scope pos) (some (.Name y py)) spos.line X.env=pure true:=by rfl)
  (hs:∀x,foldedSetIterable iter X.env x=pure x:=by intro _;rfl) (hfn:X.fn y=true∨X.env.scope.names.lookup y=some .local:=by first | exact .inl rfl | exact .inr rfl | assumption) :
  PS' X B (.Assign [.Name y py] (.ListComp elt [⟨tg,iter,ifs,0⟩] scope pos) spos) (lY (h9 nt js wi g tt te) (fj i)):=va hN hy hl O hc (oq hi) b hsw hs hfn
end
end
section
def qV(cs:List (Str×Addr)):List (Str×Addr)->Prop
 | []=>True
 | p::r=>cs.lookup p.1=some p.2/\qV cs r
theorem qV.mem{cs:List (Str×Addr)}:∀{l:List (Str×Addr)} {p:Str×Addr},qV cs l->p∈l->cs.lookup p.1=some p.2
 | q::r,p,h,m=>by
  rcases IY.mp m with rfl | m
  ·exact h.1
  ·exact qV.mem h.2 m
theorem cok(clos:closureFor scope X.env=pure cl)(sub:qV X.env.cells cl)(xsc:X.env.scope=sc)(kind:scope.kind=.function)
  (nocell:∀y∈scope.names,y.2≠.cell) (loc:∀y∈scope.names,y.2=.local->scope.names.lookup y.1=some .local) (names:cl.map (·.1)=((scope.names.filter (·.2==.free)).map (·.1)).reverse)
  (frs:∀x∈N2.drop nt,scope.names.lookup x=some .free/\sc.names.lookup x=some .cell) (len:N2.length=nt+js.length) (pl:js.map (fun j=>X.N[j]?)=(N2.drop nt).map some):b8 X N2 nt js scope cl sc :=
 ⟨clos,fun x c e=>sub.mem (lookup_mem e),xsc,kind,nocell,loc,fun y m f=>by rw[names];exact List.mem_reverse.mpr (List.mem_map_of_mem (Jm.mpr ⟨m,by rw[f];rfl⟩)),frs,len,fun k j e=>by
  have h:(js.map (fun j=>X.N[j]?))[k]?=((N2.drop nt).map some)[k]?:=by rw[pl]
  rw[IV,IV,e,List.getElem?_drop]at h;cases q:N2[nt+k]? with
  | none=>rw[q]at h;cases h
  | some x=>rw[q]at h;exact Js h⟩
end
section
end
end U
namespace L2
variable {X:Cx}{a b c d:Expr}{pos:Pos}{ta tb tc td:TE}
def yl(r r' r'':R2)(ta tb tc td:TE):TE:=fun σ H Q=>ta σ H fun x H1=>tb σ H1 fun y H2=>r x y H2 fun z H3=>∃k,z=.bl k /\
 (if k=true then tc σ H3 fun w' H4=>r' y w' H4 fun z' H5=>∃k',z'=.bl k'/\(if k'=true then td σ H5 fun v' H6=>r'' w' v' H6 Q else Q (.bl false) H5)else Q (.bl false) H3)
theorem qK{op op' op'':CmpOp}{r r' r'':R2}(ho:OpR X (compareOp op) r)(ho':OpR X (compareOp op') r')(ho'':OpR X (compareOp op'') r'')(ha:PE X a ta)(hb:PE X b tb)(hc:PE X c tc)(hd:PE X d td)
  (hm:lastMarks [op,op',op''] [b,c,d]=false:=by with_unfolding_all rfl):PE X (.Compare a [op,op',op''] [b,c,d] pos) (yl r r' r'' ta tb tc td):=by
 intro pins s σ H Q I h;refine Compare_chain (thn (ha pins s σ H _ I h) fun v s1 ⟨x,H1,I1,r1,q1⟩=>chain_link (thn (hb pins s1 σ H1 _ I1 q1) fun u s2 ⟨y,H2,I2,r2,q2⟩ =>
  thn (ho pins s2 σ H2 x y v u _ I2 r1 r2 q2) fun d s3 ⟨z,H3,I3,r3,k,e,q3⟩=>?_)) hm
 subst e;cases r3;refine J9 ?_;cases k with
 | false=>exact ite_ff ⟨.bl false,H3,I3,rfl,q3⟩
 | true =>
  refine ite_tt (chain_link (thn (hc pins s3 σ H3 _ I3 q3) fun w' s4 ⟨z',H4,I4,r4,q4⟩=>thn (ho' pins s4 σ H4 y z' u w' _ I4 r2 r4 q4) fun d' s5 y_=>?_));obtain⟨z5,H5,I5,r5,k5,e5,q5⟩:=y_;subst e5;cases r5;refine J9 ?_;cases k5 with
  | false=>exact ite_ff ⟨.bl false,H5,I5,rfl,q5⟩
  | true=>exact ite_tt (chain_last (thn (hd pins s5 σ H5 _ I5 q5) fun w6 s6 y_=>by obtain⟨z6,H6,I6,r6,q6⟩:=y_;exact ho'' pins s6 σ H6 z' z6 w' w6 Q I6 r4 r6 q6))
end L2
namespace U
open L2
variable {B:Bs}{X:Cx}{a b c d e o value:Expr}{pos pos' apos p:Pos}{ta tb tc td tv:TE'}{f m x:Str}{C g:Addr}
def ql(r r' r'':R2')(ta tb tc td:TE'):TE':=fun σ H Q=>ta σ H fun x H1=>tb σ H1 fun y H2=>r x y H2 fun z H3=>d7 z fun k=>cif k (tc σ H3 fun w' H4=>r' y w' H4 fun z' H5=>d7 z' fun k'=>cif k' (td σ H5 fun v' H6=>r'' w' v' H6 Q) (Q (.bl false) H5)) (Q (.bl false) H3)
theorem qM{op op' op'':CmpOp}{r1' r2' r3':R2'}{r1 r2 r3:R2}(ho:OpR X (compareOp op) r1)(v1:VR X.K B r1' r1)(ho':OpR X (compareOp op') r2)(v2:VR X.K B r2' r2)(ho'':OpR X (compareOp op'') r3)(v3:VR X.K B r3' r3)
  (ha:PE' X B a ta) (hb:PE' X B b tb) (hc:PE' X B c tc) (hd:PE' X B d td)
  (hm:lastMarks [op,op',op''] [b,c,d]=false:=by with_unfolding_all rfl):PE' X B (.Compare a [op,op',op''] [b,c,d] pos) (ql r1' r2' r3' ta tb tc td):=a7 (qK ho ho' ho'' ha hb hc hd hm) fun σ H Q y_=>by
 obtain⟨σ',H',Q',s,h,k⟩:=y_;refine⟨σ',H',_,s,h,fun x' H1' x H1 h1 rx s1 e1=>⟨σ',H1',_,s1,h1,fun y' H2' y H2 h2 ry s2 e2=>?_⟩⟩;refine v1 σ' σ H2' H2 x' y' x y _ _ s2 (RP.kp X.K (e2.kp s1.hp) rx) ry h2 fun z' H3' z H3 q rz s3 e3=>?_;obtain⟨b,rfl,q⟩:=q.ex;simp only[RP]at rz;refine⟨b,rz,?_⟩;cases b with
 | false=>exact mj (k _ _ _ _ q (by simp[RP]) s3 ((e1.trans e2).trans e3))
 | true =>
  refine mq ⟨σ',H3',_,s3,q,fun w' H4' w H4 h4 rw4 s4 e4=>?_⟩;refine v2 σ' σ H4' H4 y' w' y w _ _ s4 (RP.kp X.K ((e3.trans e4).kp s2.hp) ry) rw4 h4 fun z5' H5' z5 H5 q5 rz5 s5 e5=>?_;obtain⟨b5,rfl,q5⟩:=q5.ex;simp only[RP]at rz5;refine⟨b5,rz5,?_⟩;cases b5 with
  | false=>exact mj (k _ _ _ _ q5 (by simp[RP]) s5 ((((e1.trans e2).trans e3).trans e4).trans e5))
  | true =>
   refine mq ⟨σ',H5',_,s5,q5,fun v' H6' v H6 h6 rv s6 e6=>?_⟩;exact v3 σ' σ H6' H6 w' v' w v _ _ s6 (RP.kp X.K ((e5.trans e6).kp s4.hp) rw4) rv h6 fun z7' H7' z7 H7 q7 rz7 s7 e7=>k _ _ _ _ q7 rz7 s7 ((((((e1.trans e2).trans e3).trans e4).trans e5).trans e6).trans e7)
def yW(C:Addr)(f:Str)(x:PV)(H:PHp)(Q:VK'):Prop:=match x with
 | .ref a=>∃dx fs v,H a=some (.ins C dx fs)/\fs.lookup f=some v/\Q v H
 | _=>False
def DI(C:Addr)(f:Str)(ta:TE'):TE':=fun σ H Q=>ta σ H fun x H1=>yW C f x H1 Q
theorem mK{K:PySem.W.Frag}(h:fA K H fs gs)(e:fs.lookup f=some v):∃u,gs.lookup f=some u/\RP K H v u:=by
 induction h with
 | nil=>simp at e
 | @cons a b _ _ h t ih =>
  obtain⟨n,y⟩:=a;obtain⟨m,z⟩:=b;obtain⟨rfl,hr⟩:=h;dsimp only at hr;cases hx:f==n with
  | true =>
   simp only[JP,hx]at e ⊢;cases e;exact⟨z,rfl,hr⟩
  | false =>
   simp only[JP,hx]at e ⊢;exact ih e
theorem qR{K:PySem.W.Frag}(h:fA K H fs gs)(e:fs.lookup f=none):gs.lookup f=none:=by
 induction h with
 | nil=>rfl
 | @cons a b _ _ h t ih =>
  obtain⟨n,y⟩:=a;obtain⟨m,z⟩:=b;obtain⟨rfl,hr⟩:=h;cases hx:f==n with
  | true=>simp only[JP,hx]at e;cases e
  | false =>
   simp only[JP,hx]at e ⊢;exact ih e
theorem tL{K:PySem.W.Frag}{H:Hp}{gs:List (Str×V)}(h:fA K H fs gs):gs.length=fs.length:=by
 induction h with
 | nil=>rfl
 | cons _ _ ih=>simp[ih]
theorem bW(ha:PE' X B e ta)(cl:Cls X.K C)(n:cU X.K C f)(hb:attributeBase e f X.env (eval e X.env)=eval e X.env):PE' X B (.Attribute e f pos) (DI C f ta):=a7 (Ba ha hb) fun σ H Q y_=>by
 obtain⟨σ',H',Q',s,h,k⟩:=y_;refine⟨σ',H',_,s,h,fun x' H1' x H1 h1 rx s1 e1=>?_⟩;cases x' with
 | ref a =>
  obtain⟨dx,fs,v,ea,l,q⟩:=h1;simp only[RP]at rx;subst rx;obtain⟨gs,eg,fr⟩:=s1.hp _ _ ea;obtain⟨u,lu,ru⟩:=mK fr l;exact⟨a,C,dx,gs,u,rfl,eg,cl,n,lu,k _ _ _ _ q ru s1 e1⟩
 | _=>exact h1.elim
def jo(f:Str)(v:PV):List (Str×PV)->List (Str×PV)
 | []=>[(f,v)]
 |(g,x)::r=>if g=f then(g,v)::r else(g,x)::jo f v r
theorem tG{K:PySem.W.Frag}(rv:RP K H v u){fs:List (Str×PV)}{gs:List (Str×V)}(h:fA K H fs gs):fA K H (jo f v fs) (dC f u gs):=by
 induction h with
 | nil=>exact .cons ⟨rfl,rv⟩ .nil
 | @cons a b _ _ h t ih =>
  obtain⟨n,y⟩:=a;obtain⟨m,z⟩:=b;obtain⟨rfl,hr⟩:=h;unfold jo dC;by_cases hn:n=f
  ·rw[IZ hn,IZ hn];exact .cons ⟨rfl,rv⟩ t
  ·rw[IX hn,IX hn];exact .cons ⟨rfl,hr⟩ ih
def y8(C:Addr)(f:Str)(x y:PV)(H:PHp)(Q:PHp->Prop):Prop:=match x with
 | .ref a=>∃dx fs,H a=some (.ins C dx fs)/\fs.length<1000/\Q (put H a (.ins C dx (jo f y fs)))
 | _=>False
def vn(C:Addr)(f:Str)(ta tv:TE'):TS':=fun D σ H=>tv σ H fun y H1=>ta σ H1 fun x H2=>y8 C f x y H2 fun H3=>D.nx σ H3
theorem gT(ha:PE' X B o ta)(hv:PE' X B value tv)(cl:Cls X.K C)(n:cU X.K C f)(hs:swapsWith value (some (.Attribute o f pos')) pos.line X.env=pure false):PS' X B (.Assign [.Attribute o f pos'] value pos) (vn C f ta tv):=dE (Ab ha hv hs) fun D σ H y_=>by
 obtain⟨σ',H',D',s,h,dd⟩:=y_;refine⟨σ',H',_,s,h,fun y' H1' y H1 h1 ry s1 e1=>⟨σ',H1',_,s1,h1,fun x' H2' x H2 h2 rx s2 e2=>?_⟩⟩;cases x' with
 | ref a =>
  obtain⟨dx,fs,ea,l,q⟩:=h2;simp only[RP]at rx;subst rx;obtain⟨gs,eg,fr⟩:=s2.hp _ _ ea;have ry2:=RP.kp X.K (e2.kp s1.hp) ry;have new:OAt X.K (upd H2 a (.ins C dx (dC f y gs))) a (.ins C dx (jo f y' fs)):=⟨_,aR,fA.kp (s2.hp.kpw ea) (tG ry2 fr)⟩;exact⟨a,C,dx,gs,rfl,eg,cl,n,by rw[tL fr];exact l,dd.nx _ _ _ _ q (s2.wr ea new) ((e1.trans e2).trans (Ev.wr ea))⟩
 | _=>exact h2.elim
def isIn(C:Addr)(m:Str)(x:PV)(H:PHp):Prop:=match x with
 | .ref a=>∃dx fs,H a=some (.ins C dx fs)/\fs.lookup m=none
 | _=>False
def vE(C:Addr)(m:Str)(sp:Sp')(E':XK')(ta:TE')(t:TA'):TE':=fun σ H Q=>ta σ H fun x H1=>isIn C m x H1/\t σ H1 fun vs H2=>sp (x::vs) H2 Q E'
section
variable {k:Nat}{fd:FuncData}{ps:List Str}{sp:Sp'}{es:List Expr}{t:TA'}
theorem rT{K:PySem.W.Frag}(h:low K B (vE C m sp X0 ta t) σ H Q):za C m (fM K sp) [] E0 (low K B ta) (sP K B t) σ H Q:=by
 obtain⟨σ',H',Q',s,h,k⟩:=h;refine⟨σ',H',_,s,h,fun x' H1' x H1 h1 rx s1 e1=>?_⟩;obtain⟨hi,h1⟩:=h1;cases x' with
 | ref a =>
  obtain⟨dx,fs,ea,l⟩:=hi;simp only[RP]at rx;subst rx;obtain⟨gs,eg,fr⟩:=s1.hp _ _ ea;refine⟨a,dx,gs,rfl,eg,qR fr l,σ',H1',_,s1,h1,fun vs' H2' vs H2 h2 r2 s2 e2=>?_⟩;show fM K sp (V.ref a::(vs++[])) H2 Q E0;rw[Ji];exact⟨.ref a::vs',H2',Q',X0,RPs.cons _ (by simp[RP]) r2,s2.hp,h2,fun v' H3' v H3 q r3 h3 e3=>k v' H3' v H3 q r3 (s2.kp e3 h3) ((e1.trans e2).trans e3),fun _ _ _ _ z=>z.elim⟩
 | _=>exact hi.elim
theorem aZ{pl:Sem Bool}(he:PE' X B o ta)(cl:Cls X.K C)(hm:Meth X.K C m g)(F:aK X.prog X.w X.K X.mg X.base CX0 k g fd ps sp)(hr:bG k X.A)(hb:Binds X.K fd ps [])(ha:PA' X B (e::es) t)
  (hst:starEach (e::es) X.env=(false,eval e X.env)::starEach es X.env:=by rfl) (hpl:(backTo pos (starEach es X.env)).any (·.1)=false:=by rfl)
  (ht:eval (.Call (.Attribute o m apos) (e::es) [] pos) X.env=(do
   let ov←eval o X.env
   standAt apos.atName
   let (f,first)←holding [ov] (getMethod ov m pl)
   callWith pos f first (backTo pos (starEach (e::es) X.env)) (backToKw pos (keywordEach [] X.env))):=by rfl) :
  PE' X B (.Call (.Attribute o m apos) (e::es) [] pos) (vE C m sp X0 ta t):=a7 (wI he cl hm F hr hb .nil my ha hst hpl ht) fun _ _ _ h=>rT h
def yV(C:Addr)(sp:Sp')(E':XK')(t:TA'):TE':=fun σ H Q=>t σ H fun vs H1=>∀x dx,H1 x=none->H1 dx=none->dx≠x->sp (.ref x::vs) (put H1 x (.ins C dx [])) (fun v H2=>v=.non/\Q (.ref x) H2) E'
theorem lK(M:Mk X.K C g)(F:aK X.prog X.w X.K X.mg X.base CX0 k g fd ps sp)(hr:bG (k+1) X.A)(hg:Gl X x)(hm:X.mg x=some (.ref C))(hb:Binds X.K fd ps [])
  (ha:PA' X B (e::es) t) (hdb:(x==("__debug__":Str))=false:=by decide) (he:starEach (e::es) X.env=(false,eval e X.env)::starEach es X.env:=by rfl) (hpl:(backTo pos (starEach es X.env)).any (·.1)=false:=by rfl) :
  PE' X B (.Call (.Name x p) (e::es) [] pos) (yV C sp X0 t):=a7 (vR M F hr hg hm hb .nil my ha hdb he hpl) fun σ H Q y_=>by
 obtain⟨σ',H',Q',s,h,k⟩:=y_;refine⟨σ',H',_,s,h,fun vs' H1' vs H1 h1 r1 s1 e1=>?_⟩;intro x dx nx nd ne;have h2:=h1 x dx (s1.hp.free nx) (s1.hp.free nd) ne;have nx2:upd H1 dx (.own x) x=none:=by rw[aH (Ne.symm ne)];exact nx
 have sd:=s1.hid (o:=.own x) nd;have new:OAt X.K (upd (upd H1 dx (.own x)) x (.ins C dx [])) x (.ins C dx []):=⟨[],aR,.nil⟩;have s2:=sd.new nx2 new;have e2:Ev H1' H1 (put H1' x (.ins C dx [])) (upd (upd H1 dx (.own x)) x (.ins C dx [])):=(Ev.hid nd).trans (Ev.new nx2);show fM X.K sp (.ref x::(vs++[])) _ _ E0;rw[Ji];refine⟨.ref x::vs',_,_,X0,RPs.cons _ (by simp[RP]) (RPs.kp X.K (e2.kp s1.hp) r1),s2.hp,h2,fun v' H3' v H3 q r3 h3 e3=>?_,fun _ _ _ _ z=>z.elim⟩;obtain⟨rfl,q⟩:=q;simp only[RP]at r3;exact⟨r3,k _ _ _ _ q (by simp[RP]) (s2.kp e3 h3) ((e1.trans e2).trans e3)⟩
end
end U
namespace L2
variable {X:Cx}
def EO(K:PySem.W.Frag):List V->Hp->VK->Prop:=fun xs H Q=>∃(p:Addr) (bs:List Bool),xs=[.ref p]/\SqL K H p (bs.map V.bl)/\Q (.bl (bs.all id)) H
theorem ft:∀{bs:List Bool} {us:List Value},Vals (bs.map V.bl) us->us=bs.map Value.bool
 | [],_,.nil=>rfl
 | b::bs,_,.cons r t=>by rw[ft t];cases r;rfl
theorem uG(hc:X.calm=true):cf X (.builtin "all") (EO X.K):=by
 intro pins s σ H xs us Q I r h;obtain⟨a,bs,rfl,hq,q⟩:=h;obtain⟨u,rfl,ru⟩:=Vals.one r;cases ru;obtain⟨its,rv,p,hz⟩:=I.list hq;have e:=ft rv;subst e;have hl:s.heap.IsList a (bs.map Value.bool).toArray:=p.isList;have llt:a<s.heap.objs.size:=by obtain⟨o,e,_⟩:=hl;exact IQ e
 have hne:a≠s.heap.objs.size:=Jc llt;refine call_all_walk (wpAny_pyIter_list hl ?_);refine⟨s.heap.objs.size,[s.heap.objs.size,a],[s.heap.objs.size],(bs.map Value.bool).toArray.size,_,_,fun i=>bs.getD i false,rfl,Walks.list (by simpa using I.ok.hd hc) _ a hne _,⟨⟨_,IT _ rfl,rfl,rfl⟩,hl.at fun o e=>IG _ e⟩,?_,?_⟩
 ·intro i v s' Q' E' hv hQ;have:v=Value.bool (bs.getD i false):=by
   have hv':(bs.map Value.bool)[i]?=some v:=by simpa using hv
   rw[IV]at hv';cases hb:bs[i]? with
   | none=>rw[hb]at hv';cases hv'
   | some b=>rw[hb]at hv';cases hv';rw[IE,hb];rfl
  subst this;exact J9 hQ
 ·intro h' tk kp;have e:(List.range (bs.map Value.bool).toArray.size).all (fun i=>bs.getD i false)=bs.all id:=by
   have hs:(bs.map Value.bool).toArray.size=bs.length:=by simp
   rw[hs];rw[Kg,JO,JO];constructor
   ·intro h b hb;obtain⟨i,hi,e⟩:=List.getElem_of_mem hb;have:=h i (Jn.mpr hi);rw[IE,ID hi,e]at this;exact this
   ·intro h i hi;have hi:=Jn.mp hi;rw[IE,ID hi];exact h _ (Ju hi)
  rw[e];refine⟨.bl (bs.all id),H,I.kept (t':=tk) fun b o e=>?_,rfl,q⟩;exact kp b o (by simpa using Jc (IQ e)) (IG _ e)
theorem eO:∀{ns:List Int} {us:List Value},Vals (ns.map V.int) us->IntsAre us ns
 | [],_,.nil=>.nil
 | n::ns,_,.cons r t=>by obtain⟨k,rfl⟩:=r;exact .cons n k (eO t)
end L2
namespace U
open L2
variable {B:Bs}{X:Cx}
theorem gY{K:PySem.W.Frag}{H:Hp}:∀{bs:List Bool} {us:List V},RPs K H (bs.map PV.bl) us->us=bs.map V.bl
 | [],us,h=>by simpa[RPs]using h
 | b::bs,us,h=>by
  simp only[Jb,RPs,RP]at h;obtain⟨u,r,rfl,rfl,h2⟩:=h;rw[gY h2];rfl
theorem nH{K:PySem.W.Frag}{H:Hp}:∀{bs:List Int},RPs K H (bs.map PV.int) (bs.map V.int)
 | []=>RPs.nil _
 | b::bs=>RPs.cons _ (by simp[RP]) nH
def Ew:List PV->PHp->VK'->Prop:=cP fun x H Q=>match x with
 | .ref a=>∃bs:List Bool,H a=some (.lst (bs.map PV.bl))/\Q (.bl (bs.all id)) H
 | _=>False
theorem BO{K:PySem.W.Frag}:VC K B Ew (EO K):=by
 intro σ' σ H' H xs' xs Q' Q s r h k;obtain⟨x',x,rfl,rfl,rx,h⟩:=cP.ex h r;cases x' with
 | ref a =>
  obtain⟨bs,ea,q⟩:=h;simp only[RP]at rx;subst rx;obtain⟨us,e,r2⟩:=s.hp _ _ ea;rw[gY r2]at e;exact⟨a,bs,rfl,.inl (.inl e),k _ _ _ _ q (by simp[RP]) s (Ev.refl _ _)⟩
 | _=>exact h.elim
def BJ:List PV->PHp->VK'->Prop:=cP fun x H Q=>match x with
 | .ref a=>∃ns:List Int,H a=some (.lst (ns.map PV.int))/\ns.length<64/\∀(r:Addr) (ms:List Int),H r=none->ms.Perm ns->ms.Pairwise (·≤·)->Q (.ref r) (put H r (.lst (ms.map PV.int)))
 | _=>False
end U
namespace SP
def hs:List Int:=[-1950498447580522560,7204814214171964562,-3550055125485641917,-4734289103435588629,-1440771752368011620,
 8409376899596376432,1773351652666409796,-6333845781340707986,3516302870623680066,1079245023883434373,
 -3119722376306286570,173794974761290439,-8422800446983873125,7586885779985432798,-1009709641759730766]
def prs:List (Int×Int):=[(0,1),(0,2),(1,2),(0,3),(1,3),(2,3),(0,4),(1,4),(2,4),(3,4),(0,5),(1,5),(2,5),(3,5),(4,5)]
def hp(p:Int×Int):Int:=reduceHash (Builtin.Tuple.tupleHashOf [p.1,p.2])
theorem EC:prs.map hp=hs:=by decide +kernel
theorem oV(h:p∈prs):hp p∈hs:=by rw[←EC];exact IF.mpr ⟨p,h,rfl⟩
theorem AA:∀p∈prs,∀q∈prs,hp p=hp q->p=q:=by decide +kernel
theorem v5(h0:0≤u)(h1:u<v)(h2:v<6):(u,v)∈prs:=by
 have hv:v=1∨v=2∨v=3∨v=4∨v=5:=by omega
 have hu:u=0∨u=1∨u=2∨u=3∨u=4:=by omega
 rcases hv with rfl | rfl | rfl | rfl | rfl<;>rcases hu with rfl | rfl | rfl | rfl | rfl<;>first |(exfalso;omega) | decide
def qP(mask:Nat)(p:SetTable.Probe):SetTable.Probe :=
 if p.more>0 then { p with j:=p.j+1,more:=p.more - 1 }else
 let (i,perturb):=SetTable.leap mask p.i p.perturb
 { p with j:=i,more:=SetTable.runEnd mask i - i,i,perturb }
theorem AM(t:SetTable)(p:SetTable.Probe):t.advance p=qP t.mask p:=rfl
theorem rJ(mask:Nat)(p:SetTable.Probe):(qP mask p).dummy=p.dummy:=by unfold qP;split<;>rfl
def visit(mask:Nat):Nat->SetTable.Probe->List Nat
 | 0,_=>[]
 | f+1,p=>p.j::visit mask f (qP mask p)
def startM(mask:Nat)(h:Int):SetTable.Probe :=
 let i:=SetTable.bits h % (mask+1)
 { j:=i,more:=SetTable.runEnd mask i - i,i,perturb:=SetTable.bits h,dummy:=none }
theorem sI(t:SetTable)(h:Int):t.probeStart h=startM t.mask h:=rfl
theorem zF:∀h∈hs,∀j∈List.range 8,j∈visit 7 220 (startM 7 h):=by decide +kernel
theorem yr:∀h∈hs,∀j∈List.range 32,j∈visit 31 460 (startM 31 h):=by decide +kernel
theorem ui:∀(n:Nat) (l:List Nat),(∀j,j<n->j∈l)->n≤l.length
 | 0,_,_=>JW _
 | n+1,l,h=>by
  have hm:=h n (Nat.lt_succ_self n);have:=ui n (l.erase n) fun j hj=>(List.mem_erase_of_ne (by omega)).mpr (h j (by omega));rw[List.length_erase_of_mem hm]at this;have:0<l.length:=List.length_pos_of_mem hm;omega
theorem u9{l:List Nat}(h:l.length<n):∃j,j<n/\j∉l :=
 Classical.byContradiction fun c=>absurd (ui n l fun j hj=>Classical.byContradiction fun q=>c ⟨j,hj,q⟩) (by omega)
theorem slot_of{t:SetTable}(hd:t.dummies=#[])(j:Nat):t.slot j=.empty∨∃i,t.slot j=.live i/\i<t.place.size/\j∈t.place.toList:=by
 unfold SetTable.slot;dsimp only;split
 ·rename_i h;have h':=Kk.mp h;obtain⟨hi,e⟩:=Array.getElem?_eq_some_iff.mp h';refine .inr ⟨_,rfl,hi,?_⟩;rw[←e];exact Array.getElem_mem_toList hi
 ·left;have:SetTable.has t.dummies j=false:=by
   rw[hd];rfl
  rw[this];rfl
theorem mN{t:SetTable}{hashAt:Nat->Int}{h:Int}(hd:t.dummies=#[])(hn:∀i,i<t.place.size->hashAt i≠h):∀(fuel:Nat) (p:SetTable.Probe),p.dummy=none ->
  (∃j∈visit t.mask fuel p,j∉t.place.toList)->∃j,SetTable.probe.go t hashAt h fuel p=some (.empty j none)
 | 0,_,_,⟨_,hj,_⟩=>by simp[visit]at hj
 | f+1,p,hp,⟨j,hj,hjn⟩=>by
  unfold SetTable.probe.go;rcases slot_of hd p.j with e |⟨i,e,hi,hm⟩
  ·rw[e];dsimp only;exact⟨p.j,by rw[hp]⟩
  ·rw[e];dsimp only;rw[IX (by intro q;exact hn i hi (Kk.mp q)),AM];refine mN hd hn f (qP t.mask p) (by rw[rJ];exact hp) ⟨j,?_,hjn⟩;have hj':j=p.j∨j∈visit t.mask f (qP t.mask p):=IY.mp hj;rcases hj' with rfl | hj'
   ·exact absurd hm hjn
   ·exact hj'
theorem sF{t:SetTable}(hh:h∈hs)(hd:t.dummies=#[])(hn:∀i,i<t.place.size->hashAt i≠h)(hm:t.mask=7∨t.mask=31)(hsz:t.place.size≤t.mask) :
  ∃j,t.probe hashAt h (t.probeStart h)=some (.empty j none):=by
 unfold SetTable.probe;refine mN hd hn _ _ rfl ?_;obtain⟨j,hj,hjn⟩:=u9 (n:=t.mask+1) (l:=t.place.toList) (by simpa using Nat.lt_succ_of_le hsz);refine⟨j,?_,hjn⟩;rw[sI];rcases hm with e | e
 ·rw[e]at hj ⊢;exact zF h hh j (Jn.mpr hj)
 ·rw[e]at hj ⊢;exact yr h hh j (Jn.mpr hj)
theorem vH(t:SetTable)(j:Nat):(t.put j).1.place.size=t.place.size+1:=by
 unfold SetTable.put SetTable.insertAt;dsimp only;simp only[Array.size_append,Array.size_push,Array.size_extract];omega
theorem nJ{t:SetTable}(hd:t.dummies=#[])(j:Nat):(t.put j).1.dummies=#[]:=by
 unfold SetTable.put;dsimp only;rw[hd];rfl
theorem tu(t:SetTable)(j:Nat):(t.put j).1.mask=t.mask/\(t.put j).1.plain=t.plain:=⟨rfl,rfl⟩
theorem insertAt_perm(xs:Array α)(p:Nat)(x:α):(SetTable.insertAt xs p x).toList.Perm (x::xs.toList):=by
 unfold SetTable.insertAt;rw[Array.toList_append,Array.toList_push,Ka];have e:xs.toList=(xs.extract 0 p).toList++(xs.extract p xs.size).toList:=by
  rw[Array.toList_extract,Array.toList_extract];unfold List.extract;rw[List.drop_zero,Nat.sub_zero];have e2:(List.drop p xs.toList).take (xs.size - p)=List.drop p xs.toList:=Ky (by rw[KR];simp);rw[e2,List.take_append_drop]
 rw[e];exact List.perm_middle
def runs(mask:Nat):Nat->Nat->Nat->List Nat
 | 0,_,_=>[]
 | f+1,i,pt=>((List.range (SetTable.runEnd mask i+1 - i)).map (i+·))++runs mask f (SetTable.leap mask i pt).1 (SetTable.leap mask i pt).2
theorem zM:∀h∈hs,∀j∈List.range 32,j∈runs 31 46 (SetTable.bits h % 32) (SetTable.bits h):=by decide +kernel
theorem j2{mask:Nat}{owner:Array (Option Nat)}:∀(f i pt:Nat),(∃j∈runs mask f i pt,(owner.getD j (some 0)).isNone=true)->∃j,SetTable.layClean.free mask owner f i pt=some j/\(owner.getD j (some 0)).isNone=true
 | 0,_,_,⟨_,hj,_⟩=>by simp[runs]at hj
 | f+1,i,pt,⟨j,hj,hn⟩=>by
  unfold SetTable.layClean.free;cases e:(List.range (SetTable.runEnd mask i+1 - i)).find? fun k=>(owner.getD (i+k) (some 0)).isNone with
  | some k =>
   dsimp only;exact⟨i+k,rfl,by have:=List.find?_some e;exact this⟩
  | none =>
   dsimp only;rcases IU.mp hj with hj | hj
   ·obtain⟨k,hk,rfl⟩:=IF.mp hj;have:=List.find?_eq_none.mp e k hk;exact absurd hn this
   ·exact j2 f _ _ ⟨j,hj,hn⟩
theorem iU{α:Type}:∀(l:List (Option α)) (j:Nat) (k:α),l[j]?=some none->((l.set j (some k)).filterMap id).Perm (k::l.filterMap id)
 | [],_,_,h=>by simp at h
 | none::l,0,k,_=>by simp
 | some x::l,0,k,h=>by simp at h
 | none::l,j+1,k,h=>by
  have:=iU l j k (by simpa using h);simpa using this
 | some x::l,j+1,k,h=>by
  have:=iU l j k (by simpa using h);simp only[List.set_cons_succ,List.filterMap_cons_some (f:=id) rfl];exact(this.cons x).trans (List.Perm.swap k x _)
theorem de{α:Type}:∀(l:List (Option α)),(l.filterMap id).length<l.length->∃j:Nat,l[j]?=some none
 | [],h=>by simp at h
 | none::l,_=>⟨0,rfl⟩
 | some x::l,h=>by
  have h':(l.filterMap id).length<l.length:=by simpa using h
  obtain⟨j,e⟩:=de l h';exact⟨j+1,by simpa using e⟩
def iF(mask:Nat)(acc:Option (Array (Option Nat)×Nat))(h:Int):Option (Array (Option Nat)×Nat):=do
 let (owner,k)←acc
 let j←SetTable.layClean.free mask owner (SetTable.turns mask) (SetTable.bits h % (mask+1)) (SetTable.bits h)
 pure (owner.setIfInBounds j (some k),k+1)
theorem m8:∀(l:List Int) (owner:Array (Option Nat)) (k:Nat),(∀h∈l,h∈hs)->owner.size=32->(owner.toList.filterMap id).Perm (List.range k)->k+l.length≤32 ->
  ∃ow',l.foldl (iF 31) (some (owner,k))=some (ow',k+l.length)/\ow'.size=32/\(ow'.toList.filterMap id).Perm (List.range (k+l.length))
 | [],owner,k,_,hs,hp,_=>⟨owner,rfl,hs,hp⟩
 | h::l,owner,k,hh,hsz,hp,hl=>by
  have hlen:(owner.toList.filterMap id).length=k:=by rw[hp.length_eq,JH]
  obtain⟨j,hj⟩:=de owner.toList (by rw[hlen];simp only[Jg]at hl;rw[show owner.toList.length=32 by simpa using hsz];omega);have hjlt:j<32:=by
   have:=(IM.mp hj).1;simpa[hsz]using this
  have hnone:∀j,(owner.getD j (some 0)).isNone=true->owner.toList[j]?=some none:=fun j q=>by
   rw[JR];unfold Array.getD at q;split at q
   ·rename_i hlt;rw[Je hlt];cases e:owner[j]with
    | none=>rfl
    | some x =>
     have q':(owner[j]).isNone=true:=q;rw[e]at q';cases q'
   ·cases q
  obtain⟨j',ej,hn⟩:=j2 (mask:=31) (owner:=owner) 46 (SetTable.bits h % 32) (SetTable.bits h) ⟨j,zM h (hh h IK) j (Jn.mpr hjlt),by
   unfold Array.getD;rw[dif_pos (by rw[hsz];exact hjlt)];rw[JR,Je (by rw[hsz];exact hjlt)]at hj;have:=Js hj;show(owner[j]).isNone=true;rw[this];rfl⟩
  have est:iF 31 (some (owner,k)) h=some (owner.setIfInBounds j' (some k),k+1):=by
   unfold iF;show(SetTable.layClean.free 31 owner (SetTable.turns 31) (SetTable.bits h % 32) (SetTable.bits h) >>= fun j=>pure (owner.setIfInBounds j (some k),k+1))=_;rw[show SetTable.turns 31=46 from rfl,ej];rfl
  have hp':((owner.setIfInBounds j' (some k)).toList.filterMap id).Perm (List.range (k+1)):=by
   rw[Array.toList_setIfInBounds];refine(iU _ _ _ (hnone j' hn)).trans ?_;rw[List.range_succ];exact(hp.cons k).trans (List.perm_append_singleton k _).symm
  obtain⟨ow',e1,e2,e3⟩:=m8 l (owner.setIfInBounds j' (some k)) (k+1) (fun x hx=>hh x (IJ _ hx)) (by simpa using hsz) hp' (by simp only[Jg]at hl;omega);refine⟨ow',?_,e2,?_⟩
  ·rw[List.foldl_cons,est,e1];simp only[Jg];congr 2;omega
  ·rw[Jg,show k+(l.length+1)=k+1+l.length by omega];exact e3
theorem rL{t:SetTable}(hw:SetTable.sizeAbove wanted=32)(hh:∀h∈hashes.toList,h∈hs)(hl:hashes.size≤32) :
  ∃t' order,t.relaid hashes wanted=some (t',order)/\t'.mask=31/\t'.dummies=#[]/\t'.place.size=hashes.size/\order.toList.Perm (List.range hashes.size)/\t'.plain=t.plain:=by
 have e0:(Array.replicate 32 (none:Option Nat)).toList.filterMap id=[]:=by decide
 obtain⟨ow,e1,e2,e3⟩:=m8 hashes.toList (Array.replicate 32 none) 0 hh (by simp) (by rw[e0];exact Kn _) (by simpa using hl);rw[Nat.zero_add]at e1 e3;have hlc:SetTable.layClean 31 hashes=some ow:=by
  unfold SetTable.layClean;rw[←Array.foldl_toList];show Option.map (·.1) (hashes.toList.foldl (iF 31) (some (Array.replicate 32 none,0)))=_;rw[e1];rfl
 have live2:((List.range 32).filterMap fun j=>(ow.getD j none).map ((j,·):Nat->Nat×Nat)).map (·.2)=ow.toList.filterMap id:=by
  have gen:∀(l:List (Option Nat)) (n:Nat),((l.zipIdx n).filterMap (fun q=>q.1.map ((q.2,·):Nat->Nat×Nat))).map (·.2)=l.filterMap id:=by
   intro l
   induction l with
   | nil=>intro n;rfl
   | cons a l ih =>
    intro n;rw[List.zipIdx_cons];cases a with
    | none=>simpa using ih (n+1)
    | some x=>simpa using ih (n+1)
  rw[←gen ow.toList 0];congr 1;have ez:ow.toList.zipIdx 0=(List.range 32).map fun j=>(ow.getD j none,j):=by
   apply List.ext_getElem?;intro j;rw[List.getElem?_zipIdx,IV];by_cases hj:j<32
   ·rw[List.getElem?_range hj,JR,Je (by rw[e2];exact hj)];simp[Array.getD,e2,hj]
   ·rw[KC (show ow.toList.length≤j by simpa[e2]using Nat.le_of_not_lt hj),KC (show(List.range 32).length≤j by simpa using Nat.le_of_not_lt hj)];rfl
  rw[ez,List.filterMap_map];rfl
 have hlen:(ow.toList.filterMap id).length=hashes.size:=by rw[e3.length_eq,JH];simp
 refine⟨{ mask:=31,place:=(((List.range 32).filterMap fun j=>(ow.getD j none).map ((j,·):Nat->Nat×Nat)).map (·.1)).toArray,dummies:=#[],finger:=t.finger,led:=t.led,moves:=t.movedTo 31,plain:=t.plain },
  (((List.range 32).filterMap fun j=>(ow.getD j none).map ((j,·):Nat->Nat×Nat)).map (·.2)).toArray,by
  unfold SetTable.relaid SetTable.laid;rw[hw];show(SetTable.layClean 31 hashes >>= _)=_;rw[hlc];rfl,rfl,rfl,?_,?_,rfl⟩
 ·show(((List.range 32).filterMap fun j=>(ow.getD j none).map ((j,·):Nat->Nat×Nat)).map (·.1)).toArray.size=_;rw[IL,kb,← hlen,← live2,kb]
 ·show((((List.range 32).filterMap fun j=>(ow.getD j none).map ((j,·):Nat->Nat×Nat)).map (·.2)).toArray).toList.Perm _;rw[live2];have:hashes.size=hashes.toList.length:=by simp
  rw[this];exact e3
theorem oP{α:Type}{es:Array α}{order:Array Nat}(h:order.toList.Perm (List.range es.size)):(order.filterMap (es[·]?)).toList.Perm es.toList:=by
 have e:(order.filterMap (es[·]?)).toList=order.toList.filterMap (es[·]?):=by simp
 rw[e];refine(h.filterMap _).trans ?_;have:(List.range es.size).filterMap (es[·]?)=es.toList:=by
  apply List.ext_getElem?;intro i;have gen:∀n,n≤es.size->(List.range n).filterMap (es[·]?)=es.toList.take n:=by
   intro n
   induction n with
   | zero=>intro _;simp
   | succ n ih =>
    intro hn;rw[List.range_succ,List.filterMap_append,ih (by omega),Kb];simp[Je (show n<es.size by omega)]
  rw[gen es.size (IS _),Ky (by simp)]
 rw[this]
end SP
namespace SP
section
variable {prog:Program}{w:World}{A:Around}{E:Value->Shared->Prop}{s:Shared}
structure jC (h:Heap) (S:Addr) (done:List (Int × Int)):Prop where
 is:∃es ep t,h.get? S=some { cls:=.type "set",dict:=none,data:=.set es ep t }/\t.dummies=#[]/\t.place.size=es.size/\es.size=done.length/\((t.mask=7/\es.size≤4)∨(t.mask=31/\es.size≤18)) /\
  ∀e∈es.toList,∃p∈done,e.1=hp p
theorem fits_of{t:SetTable}(hd:t.dummies=#[])(h1:t.place.size=n)(h2:n≤t.mask):t.fits n=true:=by
 unfold SetTable.fits SetTable.fill;rw[hd];simp[h1,h2]
theorem qU(u v:Int)(h:(u,v)∈prs):tupleKeyHash (intKind prog w) [u,v]=hp (u,v):=by
 have key:∀p∈prs,hashInt p.1=p.1/\hashInt p.2=p.2:=by decide +kernel
 obtain⟨h1,h2⟩:=key _ h;show reduceHash (Builtin.Tuple.tupleHashOf [hashInt u,hashInt v])=reduceHash (Builtin.Tuple.tupleHashOf [u,v]);have h1':hashInt u=u:=h1;have h2':hashInt v=v:=h2;rw[h1',h2']
theorem yy(h:ItemsAre (intKind prog w) ks vs):∀x∈vs,∃i t,x=.int i t:=by
 induction h with
 | nil=>intro x hx;simp at hx
 | cons h1 _ ih =>
  intro x hx;rcases IY.mp hx with rfl | hx
  ·obtain⟨t,rfl⟩:=Value.isInt_shape h1;exact⟨_,t,rfl⟩
  ·exact ih x hx
theorem gR(hk:IsTupleKey (intKind prog w) s.heap [u,v] a)(h:Q true s):wpAny (model prog w) A (hashByValue 8 (.ref a)) Q E s:=by
 have hT:=hk.typeIs;obtain⟨o,items,n,ho,hc,hd,hi⟩:=hk;unfold hashByValue;refine IC (wpAny_specialOf hT F.slot_tuple_hash.lookup ?_);show wpAny _ _ (seqItems? (.ref a) >>= _) _ _ s;refine IC (wpAny_seqItems ho hd ?_);refine IC ?_;show wpAny _ _ (forIn items _ _) _ _ s;rw[←Array.forIn_toList];have hall:=yy hi;refine wpAny_forIn_list _ (fun rest r s'=>r.1=none/\s'=s/\∀v∈rest,∃i t,v=.int i t) _ ?_ ?_ _ _ ⟨rfl,rfl,hall⟩
 ·rintro v rest r s' ⟨hr,rfl,hall⟩;obtain⟨i,t,rfl⟩:=hall v IK;show wpAny _ _ (pure true >>= _) _ _ _;refine IC (IH ?_);simp only[Bool.not_true,Kr,if_false];exact IH ⟨rfl,rfl,fun u hu'=>hall u (IJ _ hu')⟩
 ·rintro⟨r1,r2⟩ s' ⟨hr,rfl,_⟩;simp only at hr;subst hr;exact IH h
theorem mO(hu:A.units<cLine)(hk:IsTupleKey (intKind prog w) s.heap [u,v] a)(hP:jC s.heap S done)(hin:(u,v)∈prs)(hd:∀p∈done,p∈prs)
  (hn:(u,v)∉done) (hlen:done.length<15)
  (h:∀h' tk,Heap.SameBut S s.heap h'->jC h' S (done++[(u,v)])->Q true { s with heap:=h',toks:=tk }):wpAny (model prog w) A (setAdd S (.ref a)) Q E s:=by
 obtain⟨es,ep,t,ho,htd,hts,hes,hm,hh⟩:=hP.is;have hsa:S≠a:=by
  rintro rfl;obtain⟨o,items,n,ho',hc,_⟩:=hk;rw[ho]at ho';cases ho';exact absurd (show Value.type "set"=Value.type "tuple" from hc) (by decide)
 unfold setAdd;refine JT (IC (wpAny_pyHash_tuple hu hk ?_));rw[qU u v hin];generalize hs':({ s with toks:=s.toks+([u,v].length+1) }:Shared)=s1;have e1:s1.heap=s.heap:=by rw[←hs']
 have ho1:s1.heap.get? S=some { cls:=.type "set",dict:=none,data:=.set es ep t }:=by rw[e1];exact ho
 have hk1:IsTupleKey (intKind prog w) s1.heap [u,v] a:=by rw[e1];exact hk
 have hmk:es.size≤t.mask:=by omega
 have hf:t.fits es.size=true:=fits_of htd hts hmk;unfold setAddHashed;refine JT ?_;show wpAny _ _ (setAddHashedIn S (.ref a) (hp (u,v)) (99999+1)) _ _ _;unfold setAddHashedIn;refine IC (Kz ho1 rfl hf ?_);dsimp only;have hbs:byScan (.ref a) es=false:=rfl;rw[hbs];simp only[Kr,if_false];obtain⟨j,hj⟩:=sF (t:=t) (hashAt:=fun i=>(es[i]?.map (·.1)).getD 0) (h:=hp (u,v)) (oV hin) htd (fun i hi q=>by
  rw[hts]at hi;rw[Je hi]at q;have q':(es[i]).1=hp (u,v):=q;obtain⟨p,hpd,e⟩:=hh es[i] (Array.getElem_mem_toList hi);rw[e]at q';exact hn (AA p (hd p hpd) _ hin q'▸hpd)) (by omega) (by omega)
 unfold setSearch;show wpAny _ _ (setSearchFrom S (.ref a) (hp (u,v)) true (99999+1) none >>= _) _ _ _;unfold setSearchFrom;refine IC (IC (Kz ho1 rfl hf ?_));dsimp only;have hgw:t.gaveWay=false:=by
  unfold SetTable.gaveWay;rcases hm with hm | hm<;>rw[hm.1]<;>rfl
 rw[hgw,IX (by decide)];generalize hX:t.probe _ (hp (u,v)) (none.getD (t.probeStart (hp (u,v))))=X0;have hX':X0=some (.empty j none):=by rw[←hX];exact hj
 subst hX';dsimp only;refine IH ?_;dsimp only;refine IC (Kz ho1 rfl hf ?_);dsimp only;have hps:=vH t j;have hpd:=nJ htd j;obtain⟨hpm,hpp⟩:=tu t j;have hip:=insertAt_perm es (t.put j).2 (hp (u,v),Value.ref a);have his:(SetTable.insertAt es (t.put j).2 (hp (u,v),Value.ref a)).size=es.size+1:=by
  have:=hip.length_eq;simpa using this
 have hash':∀e∈(SetTable.insertAt es (t.put j).2 (hp (u,v),Value.ref a)).toList,∃p∈done++[(u,v)],e.1=hp p:=fun e he=>by
  rcases IY.mp (hip.mem_iff.mp he)with rfl | he
  ·exact⟨(u,v),by simp,rfl⟩
  ·obtain⟨p,h1,h2⟩:=hh e he;exact⟨p,Jh _ h1,h2⟩
 have last:wpAny (model prog w) A (do
   storeSet S (SetTable.insertAt es (t.put j).2 (hp (u,v),Value.ref a)) (t.put j).1
   if (!false&&(t.put j).1.tooFull)=true then do
    setRelay S (SetTable.grown (es.size+1))
    pure true
   else pure true) Q E s1:=by
  refine IC (wpAny_storeSet_of ho1 rfl ?_ (by rw[his,Jt];omega));have hg:(s1.heap.update S (Obj.putSet (SetTable.insertAt es (t.put j).2 (hp (u,v),Value.ref a)) (t.put j).1)).get? S=some { cls:=.type "set",dict:=none,data:=.set (SetTable.insertAt es (t.put j).2 (hp (u,v),Value.ref a)) (ep+1) (t.put j).1 } :=
   JX _ ho1 rfl
  have sb1:Heap.SameBut S s.heap (s1.heap.update S (Obj.putSet (SetTable.insertAt es (t.put j).2 (hp (u,v),Value.ref a)) (t.put j).1)):=by rw[e1];exact J1 ..
  have hs1:∀hh':Heap,({ s1 with heap:=hh' }:Shared)={ s with heap:=hh',toks:=s1.toks }:=fun hh'=>by rw[←hs']
  by_cases hfull:(t.put j).1.tooFull=true
  ·rw[hfull,IZ (by rfl)];have hfu:((t.put j).1.place.size+(t.put j).1.dummies.size)*5≥(t.put j).1.mask*3:=by
    have q:=hfull;unfold SetTable.tooFull SetTable.fill at q;exact K2 q
   rw[hps,hpd,hpm,hts]at hfu;have hz:(#[]:Array Nat).size=0:=rfl;rw[hz]at hfu;have h5:t.mask=7/\es.size=4:=by omega
   have hw:SetTable.grown (es.size+1)=20:=by rw[h5.2];rfl
   rw[hw];have hf2:(t.put j).1.fits (SetTable.insertAt es (t.put j).2 (hp (u,v),Value.ref a)).size=true:=fits_of hpd (by rw[hps,his,hts]) (by rw[his,hpm];omega);obtain⟨t',order,r1,r2,r3,r4,r5,r6⟩:=rL (t:=(t.put j).1) (hashes:=(SetTable.insertAt es (t.put j).2 (hp (u,v),Value.ref a)).map (·.1)) (wanted:=20) rfl (fun h0 hm0=>by
    rw[Array.toList_map]at hm0;obtain⟨e,he,rfl⟩:=IF.mp hm0;obtain⟨p,hp1,hp2⟩:=hash' e he;rw[hp2];rcases IU.mp hp1 with q | q
    ·exact oV (hd p q)
    ·rw[IW.mp q];exact oV hin) (by rw[Array.size_map,his];omega)
   rw[Array.size_map]at r4 r5;have op:=oP r5;have osz:(order.filterMap ((SetTable.insertAt es (t.put j).2 (hp (u,v),Value.ref a))[·]?)).size=(SetTable.insertAt es (t.put j).2 (hp (u,v),Value.ref a)).size:=by
    rw[←J0,← J0];exact op.length_eq
   unfold setRelay;refine IC (IC (Kz hg rfl hf2 ?_));dsimp only;rw[IX (show ¬SetTable.sizeAbove 20>sizeLine by rw[Jt];decide)];refine IC ?_;rw[r1];show wpAny _ _ (if (Array.size (order.filterMap ((SetTable.insertAt es (t.put j).2 (hp (u,v),Value.ref a))[·]?)) !=(SetTable.insertAt es (t.put j).2 (hp (u,v),Value.ref a)).size)=true then _ else _) _ _ _;rw[IX (by rw[osz];simp)];refine IH ?_;dsimp only;refine wpAny_storeSet_of hg rfl ?_ (by rw[osz,his,Jt];omega);refine IH ?_;have hg3:=JX (Obj.putSet (order.filterMap ((SetTable.insertAt es (t.put j).2 (hp (u,v),Value.ref a))[·]?)) t') hg rfl;rw[hs1];refine h _ _ (sb1.trans (J1 ..)) ⟨_,_,_,hg3,r3,by rw[r4,osz],by rw[osz,his,hes];simp,.inr ⟨r2,by rw[osz,his];omega⟩,fun e he=>hash' e (op.mem_iff.mp he)⟩
  ·rw[Bool.not_eq_true]at hfull;rw[hfull,IX (by decide)];refine IH ?_;rw[hs1];refine h _ _ sb1 ⟨_,_,_,hg,hpd,by rw[hps,his,hts],by rw[his,hes];simp,?_,hash'⟩;have hfu:¬((t.put j).1.place.size+(t.put j).1.dummies.size)*5≥(t.put j).1.mask*3:=by
    have q:=hfull;unfold SetTable.tooFull SetTable.fill at q;exact of_decide_eq_false q
   rw[hps,hpd,hpm,hts]at hfu;have hz:(#[]:Array Nat).size=0:=rfl;rw[hz]at hfu;rw[his,hpm];omega
 by_cases hpl:(t.put j).1.plain=true
 ·rw[IZ hpl];refine IC (gR hk1 ?_);exact last
 ·rw[IX hpl];refine IC (IH ?_);exact last
def t9(h:Heap)(vs:List Value)(ps:List (Int×Int)):Prop:=∀(i:Nat) (v:Value),vs[i]?=some v->∃a p,v=.ref a/\ps[i]?=some p/\IsTupleKey (intKind prog w) h [p.1,p.2] a
theorem vp(x:IsTupleKey (intKind prog w) h [u,v] a)(ho:h.get? S=some { cls:=.type "set",dict:=none,data:=.set es ep t })
  (sb:∀b o,b≠S->h.get? b=some o->h'.get? b=some o):IsTupleKey (intKind prog w) h' [u,v] a:=by
 obtain⟨o,items,n,e,c,d,i⟩:=x;refine⟨o,items,n,sb a o ?_ e,c,d,i⟩;rintro rfl;rw[ho]at e;cases e;cases d
theorem qE(hu:A.units+1<cLine)(hh:A.in1.handled=none)(hlen:vs.length=ps.length)(hl15:ps.length≤15)(hnd:ps.Nodup)(hin:∀p∈ps,p∈prs)
  (hSI:S≠I) (hSl:S≠l) (hlI:l≠I):∀(k i:Nat) (s:Shared),ps.length - i=k->i≤ps.length->s.heap.IsListIter I l i->s.heap.IsList l vs.toArray->t9 (prog:=prog) (w:=w) s.heap vs ps->jC s.heap S (ps.take i) ->
   (∀h' tk,(∀b o,b≠S->b≠I->s.heap.get? b=some o->h'.get? b=some o)->jC h' S ps->R (.ok (.ret .none)) { s with heap:=h',toks:=tk }) ->
   codeAny (model prog w) A (.builtin "set.update.loop" ⟨[.ref S,.ref I],[]⟩) R s:=by
 intro k
 induction k with
 | zero =>
  intro i s hk hi hit hl hT hP hR;have e:i=ps.length:=by omega
  subst e;rw[Jv]at hP;refine Kh F.entry_set_update_loop ?_;rw[J6 Kv _];show wpAny _ A.in1 (pyNext (.ref I) >>= _) _ _ s;refine IC (wpAny_pyNext_list_end hh hit hl (by simp[hlen]) fun h' eb=>?_);show wpAny _ A.in1 (ret Value.none) _ _ _;refine IH (hR h' s.toks (fun b o _ hb e=>eb b o hb e) ?_);obtain⟨es,ep,t,ho,r⟩:=hP.is;exact⟨es,ep,t,eb S _ hSI ho,r⟩
 | succ k ih =>
  intro i s hk hi hit hl hT hP hR;have hlt:i<ps.length:=by omega
  have hvi:vs[i]?=some vs[i]:=ID (by omega);obtain⟨a,p,ev,ep,key⟩:=hT i _ hvi;refine Kh F.entry_set_update_loop ?_;rw[J6 Kv _];show wpAny _ A.in1 (pyNext (.ref I) >>= _) _ _ s;refine IC (wpAny_pyNext_list_item hit hl (x:=.ref a) (by rw[←ev];simp) fun h1 hit1 sb1=>?_);have k1:∀b o,b≠I->s.heap.get? b=some o->h1.get? b=some o:=fun b o hb e=>sb1.extBut b o hb e;obtain⟨es,epo,t,ho,r⟩:=id hP.is;have hP1:jC h1 S (ps.take i):=⟨es,epo,t,k1 S _ hSI ho,r⟩;have key1:IsTupleKey (intKind prog w) h1 [p.1,p.2] a:=by
   obtain⟨o,items,n,e,c,d,ii⟩:=key;refine⟨o,items,n,k1 a o ?_ e,c,d,ii⟩;rintro rfl;obtain⟨oi,hoi,hci,_⟩:=hit;rw[hoi]at e;cases e;rw[hci]at c;exact absurd c (by decide)
  show wpAny _ A.in1 (holding [Value.ref a] (setAdd S (.ref a)) >>= _) _ _ _;have hmem:p∈ps:=Ja ep;have hnot:p∉ps.take i:=fun hm=>by
   obtain⟨j,hj,e⟩:=List.mem_iff_getElem.mp hm;rw[List.getElem_take]at e;rw[JA]at hj;obtain⟨hi',e'⟩:=IM.mp ep;have:=(List.getElem_inj hnd (h₀:=by omega) (h₁:=hi')).mp (e.trans e'.symm);omega
  refine IC (JT (mO (u:=p.1) (v:=p.2) (A:=A.in1) (by show A.units+1<cLine;exact hu) key1 hP1 (hin p hmem) (fun q hq=>hin q (List.mem_of_mem_take hq)) hnot (by rw[JA];omega) fun h2 tk sb2 hP2=>?_));have k2:∀b o,b≠S->h1.get? b=some o->h2.get? b=some o:=fun b o hb e=>sb2.extBut b o hb e;have et:ps.take i++[p]=ps.take (i+1):=by rw[Kb,ep];rfl
  refine IH ⟨plainId_quiet Kv _,ih (i+1) { s with heap:=h2,toks:=tk } (by omega) (by omega) (hit1.extBut (fun b o hb e=>k2 b o hb e) (Ne.symm hSI)) ?_ ?_ (by rw[←et];exact hP2) ?_⟩
  ·exact(hl.extBut (fun b o hb e=>k1 b o hb e) hlI).extBut (fun b o hb e=>k2 b o hb e) (Ne.symm hSl)
  ·intro j v hv;obtain⟨a',p',e1',e2',key'⟩:=hT j v hv;refine⟨a',p',e1',e2',vp ?_ (k1 S _ hSI ho) k2⟩;obtain⟨o,items,n,e,c,d,ii⟩:=key';refine⟨o,items,n,k1 a' o ?_ e,c,d,ii⟩;rintro rfl;obtain⟨oi,hoi,hci,_⟩:=hit;rw[hoi]at e;cases e;rw[hci]at c;exact absurd c (by decide)
  ·intro h3 tk3 kp hP3;exact hR h3 tk3 (fun b o hb hb' e=>kp b o hb hb' (k2 b o hb (k1 b o hb' e))) hP3
set_option maxHeartbeats 4000000 in
theorem iR(hu:A.units+8<cLine)(hh:A.handled=none)(hl:s.heap.IsList l vs.toArray)(hlen:vs.length=ps.length)(hl15:ps.length≤15)
  (hnd:ps.Nodup) (hin:∀p∈ps,p∈prs) (hT:t9 (prog:=prog) (w:=w) s.heap vs ps)
  (h:∀h' tk,(∀b o,b<s.heap.objs.size->s.heap.get? b=some o->h'.get? b=some o)->jC h' s.heap.objs.size ps->Q (.ref s.heap.objs.size) { s with heap:=h',toks:=tk }) :
  wpAny (model prog w) A (call (.type "set") [.ref l]) Q E s:=by
 obtain⟨c0,tl0,mro0⟩:=F.called_set.mro;have made0:=F.called_set.made;have sub0:=F.called_set.sub;have nt0:=F.called_set.notType;have cc0:=F.called_set.canCreate;have tc0:=F.typeCall_set_1 (.ref l);refine wpAny_call (codeAny_of_tree ?_);show wpAny _ _ (callAny (.type "set") _) _ _ _;refine IH ⟨Code.quiet_builtin _ (by decide +kernel),Kh F.entry_type_call ?_⟩;rw[Around.under_plain (weight_type_call_type "set" [.ref l] []) rfl]
 repeat (any_goals (first | assumption | wp_step))
 refine KO (code_set_new_1 (.ref l) (E:=E) (Q₁:=fun obj s1=>∃led:Bool,obj=.ref s.heap.objs.size /\
  s1={ s with heap:=s.heap.push { cls:=.type "set",dict:=none,data:=.set #[] 0 (.fresh 0 0 led) } }) fun led=>⟨led,rfl,rfl⟩) fun r s1 hr=>?_
 cases r with
 | error e=>exact hr
 | ok fl =>
  cases fl with
  | ret obj =>
   obtain⟨led,rfl,rfl⟩:=hr;generalize hH:s.heap.push { cls:=.type "set",dict:=none,data:=.set #[] 0 (.fresh 0 0 led) }=H1;have hS:H1.get? s.heap.objs.size=some { cls:=.type "set",dict:=none,data:=.set #[] 0 (.fresh 0 0 led) }:=by rw[←hH];exact IT _ rfl
   have old:∀b o,s.heap.get? b=some o->H1.get? b=some o:=fun b o e=>by rw[←hH];exact IG _ e
   have hsz:H1.objs.size=s.heap.objs.size+1:=by rw[←hH,Heap.size_push]
   have tyS:Shared.TypeIs { s with heap:=H1 } (.ref s.heap.objs.size) "set":=⟨_,hS,rfl⟩;have li0:=F.called_set.init.lookup;have bi0:=F.called_set.init.bind (.ref s.heap.objs.size)
   repeat (any_goals (first | assumption | wp_step))
   refine KO (codeAny_call_builtin (R:=wants (fun r s2=>r=.none/\∃h' tk,s2={ s with heap:=h',toks:=tk }/\jC h' s.heap.objs.size ps /\
    (∀b o,b<s.heap.objs.size->s.heap.get? b=some o->h'.get? b=some o)) E) F.called_set.init.plain F.entry_set_init (check_set_init_1 tyS ?_)) fun r2 s2 hr2=>?_
   ·obtain⟨ol,hol,hcl,nl,hdl⟩:=hl;obtain⟨oc,od,oda,osl⟩:=ol;simp only at hcl hdl;subst hcl;subst hdl;have hol1:H1.get? l=some { cls:=.type "list",dict:=od,data:=.seq vs.toArray nl,slots:=osl }:=old _ _ hol;have sls:=F.sub_list_set;have slf:=F.sub_list_frozenset;have nld:(Value.type "list"==Value.type "dict")=false:=by decide
    have hl1:H1.IsList l vs.toArray:=⟨_,hol1,rfl,nl,rfl⟩;have llt:l<s.heap.objs.size:=IQ hol;unfold Builtin.«set.__init__» noKeywords Builtin.Frozenset.updateFrom;generalize hPI:pyIter=PI
    wp_walk
    subst hPI;refine wpAny_pyIter_list hl1 ?_;refine IC (wpAny_runValue ?_);generalize hH2:H1.push { cls:=.type "list_iterator",data:=.fields #[.ref l,.int 0 0] }=H2;have old2:∀b o,H1.get? b=some o->H2.get? b=some o:=fun b o e=>by rw[←hH2];exact IG _ e
    refine qE (l:=l) (ps:=ps) (vs:=vs) (by show A.units+1+1+1<cLine;omega) (by simp[hh]) hlen hl15 hnd hin (by show s.heap.objs.size≠H1.objs.size;rw[hsz];exact Jc (Nat.lt_succ_self _)) (K6 llt) (by show l≠H1.objs.size;rw[hsz];exact Jc (J5 llt)) ps.length 0 _ (by omega) (JW _) ?_ ?_ ?_ ?_ ?_
    ·rw[←hH2];exact⟨_,IT _ rfl,rfl,rfl⟩
    ·exact⟨_,old2 _ _ hol1,rfl,nl,rfl⟩
    ·intro i v hv;obtain⟨a,p,e1,e2,o,items,n,e,r⟩:=hT i v hv;exact⟨a,p,e1,e2,o,items,n,old2 _ _ (old _ _ e),r⟩
    ·exact⟨#[],0,.fresh 0 0 led,old2 _ _ hS,rfl,rfl,rfl,.inl ⟨rfl,by decide⟩,fun e he=>by simp at he⟩
    ·intro h' tk kp hP;show wpAny _ _ (pure ()) _ _ _;refine IH ?_;show wpAny _ _ (ret Value.none) _ _ _;refine IH ⟨rfl,h',tk,rfl,hP,fun b o hb e=>?_⟩;refine kp b o (Jc hb) ?_ (old2 _ _ (old _ _ e));show b≠H1.objs.size;rw[hsz];exact Jc (J5 hb)
   ·cases r2 with
    | error e=>exact hr2
    | ok f2 =>
     cases f2 with
     | ret r =>
      obtain⟨rfl,h',tk,rfl,hP,hk⟩:=hr2
      repeat (any_goals (first | assumption | wp_step))
      exact h _ _ hk hP
     | _=>exact hr2.elim
  | _=>exact hr.elim
end
end SP
namespace L2
variable {X:Cx}
def xl(S:Addr)(n:Nat):Heap->Prop:=fun h=>∃es ep t,h.get? S=some { cls:=.type "set",dict:=none,data:=.set es ep t }/\es.size=n/\t.fits es.size=true
def Prs(K:PySem.W.Frag)(H:Hp)(us:List V)(ps:List (Int×Int)):Prop:=Paired (fun(u:V) (p:Int×Int)=>∃t,u=.ref t/\SqT K H t [.int p.1,.int p.2]) us ps
theorem lJ{K:PySem.W.Frag}{H:Hp}:∀{us:List V} {ps:List (Int×Int)} {i:Nat} {u:V},Prs K H us ps->us[i]?=some u->∃p t,ps[i]?=some p/\u=.ref t/\SqT K H t [.int p.1,.int p.2]
 | [],_,i,u,_,e=>by simp at e
 | _::_,_::_,0,u,.cons h _,e=>by
  obtain⟨t,h1,h2⟩:=h;simp at e;subst e;exact⟨_,t,by simp,h1,h2⟩
 | _::_,_::_,i+1,u,.cons _ t,e=>by
  obtain⟨p,a,e1,e2⟩:=lJ (i:=i) (u:=u) t (by simpa using e);exact⟨p,a,by simpa using e1,e2⟩
theorem lE{K:PySem.W.Frag}(h:Prs K H us ps):us.length=ps.length:=Paired.length h
theorem rm(hc:X.calm=true)(hu:X.A.units+64<cLine):cf X (.type "set") (fun xs H Q=>∃(a:Addr) (us:List V) (ps:List (Int×Int)),xs=[.ref a]/\SqL X.K H a us/\Prs X.K H us ps/\ps.Nodup/\(∀p∈ps,p∈SP.prs)/\ps.length≤15/\∀S,H S=none->Q (.ref S) (upd H S (.ext (xl S ps.length)))):=by
 intro pins s σ H xs us Q I r h;obtain⟨a,ws,ps,rfl,hq,hP,nd,hin,h15,q⟩:=h;obtain⟨u,rfl,ru⟩:=Vals.one r;cases ru;obtain⟨its,rv,p,hz⟩:=I.list hq;have hlen:its.length=ps.length:=rv.length.symm.trans (lE hP);refine SP.iR (by omega) (I.ok.hd hc) p.isList hlen h15 nd hin ?_ fun h' tk kp P=>?_
 ·intro i v hv;have hi:i<ws.length:=by rw[rv.length];exact(IM.mp hv).1
  obtain⟨pr,t,e1,e2,hs⟩:=lJ (i:=i) hP (ID hi);obtain⟨u,eu,ru⟩:=rv.get (ID hi);rw[hv]at eu;cases eu;rw[e2]at ru;cases ru;obtain⟨is,r2,⟨o,ho,hcl,n,hd⟩,_⟩:=I.tuple hs;obtain⟨x,y,rfl,rx,ry⟩:=vals2 r2;obtain⟨t1,rfl⟩:=rx;obtain⟨t2,rfl⟩:=ry;exact⟨t,pr,rfl,e1,o,_,n,ho,hcl,hd,.cons (by simp[intKind,Value.isInt]) (.cons (by simp[intKind,Value.isInt]) .nil)⟩
 ·have hn:H s.heap.objs.size=none:=I.hok.fresh (IS _);obtain⟨es,ep,t,ho,hd,hp,hl,hm,_⟩:=P.is;have hf:t.fits es.size=true:=SP.fits_of hd hp (by rcases hm with⟨e,k⟩ |⟨e,k⟩<;>omega);refine⟨.ref s.heap.objs.size,_,I.laid (t':=tk) (o:=.ext (xl s.heap.objs.size ps.length)) (fun b o e=>kp b o (IQ e) e) (IS _) ?_,rfl,q _ hn⟩;exact⟨⟨es,ep,t,ho,hl,hf⟩,⟨_,ho⟩,fun h1 h2 y_ k=>by obtain⟨es,ep,t,e,l,f⟩:=y_;exact ⟨es,ep,t,k _ e,l,f⟩⟩
theorem qT:cf X (.builtin "len") (fun xs H Q=>∃(S:Addr) (n:Nat),xs=[.ref S]/\H S=some (.ext (xl S n))/\n<1000/\Q (.int n) H):=by
 intro pins s σ H xs us Q I r h;obtain⟨S,n,rfl,hS,hn,q⟩:=h;obtain⟨u,rfl,ru⟩:=Vals.one r;cases ru;obtain⟨⟨es,ep,t,ho,hl,hf⟩,_,_⟩:=(show bT X.prog X.w H s.heap S (.ext (xl S n))from I.hok S _ hS);subst hl;exact call_len_set ho ⟨rfl,rfl,rfl⟩ rfl hf (by omega) ⟨.int es.size,H,I.tok _,⟨_,rfl⟩,q⟩
end L2
namespace U
open L2
section
variable {B:Bs}{X:Cx}{e:Expr}{ta:TE'}{p p2 pos pos2:Pos}
def prV(p:Int×Int):PV:=.tup [.int p.1,.int p.2]
theorem oY{K:PySem.W.Frag}{H:Hp}:∀{ps:List (Int×Int)} {us:List V},RPs K H (ps.map prV) us->Prs K H us ps
 | [],us,h=>by
  have:us=[]:=by simpa[RPs]using h
  subst this;exact .nil
 | q::ps,us,h=>by
  simp only[Jb,RPs,RP,prV]at h;obtain⟨u,r,rfl,⟨t,ws,rfl,hs,w1,r1,rfl,rfl,w2,r2,rfl,rfl,rfl⟩,h2⟩:=h;exact .cons ⟨t,rfl,hs⟩ (oY h2)
def uM(x:PV)(H:PHp)(Q:VK'):Prop:=match x with
 | .ref a=>∃ps:List (Int×Int),H a=some (.lst (ps.map prV))/\ps.Nodup/\(∀p∈ps,p∈SP.prs)/\ps.length≤15/\Q (.int ps.length) H
 | _=>False
def pQ(ta:TE'):TE':=fun σ H Q=>ta σ H fun x H1=>uM x H1 Q
theorem oh(hc:X.calm=true)(hu:X.A.units+64<cLine)(hgl:Gl X "len")(hml:X.mg "len"=none)(hgs:Gl X "set")(hms:X.mg "set"=none)(bs:bootBuiltins "set"=some (.type "set"))(ha:PE' X B e ta)
  (he:starEach [.Call (.Name "set" p2) [e] [] pos2] X.env=[(false,eval (.Call (.Name "set" p2) [e] [] pos2) X.env)]:=by rfl) (he2:starEach [e] X.env=[(false,eval e X.env)]:=by rfl) :
  PE' X B (.Call (.Name "len" p) [.Call (.Name "set" p2) [e] [] pos2] [] pos) (pQ ta) :=
 a7 (dZ qT hgl hml Jf (b7 (eU (rm hc hu) hgs hms bs (b7 ha cT he2) (by decide) (by decide) he2 rfl) cT he) (by decide) (by decide) he rfl) fun σ H Q h=>by
  obtain⟨σ',H',Q',s,h,k⟩:=h;refine⟨σ',H',_,s,h,fun x' H1' x H1 h1 rx s1 e1=>?_⟩;cases x' with
  | ref a =>
   obtain⟨ps,ea,nd,hin,h15,q⟩:=h1;simp only[RP]at rx;subst rx;obtain⟨us,eg,r2⟩:=s1.hp _ _ ea;refine⟨a,us,ps,rfl,.inl (.inl eg),oY r2,nd,hin,h15,fun S hS=>?_⟩;exact⟨S,ps.length,rfl,aR,by omega,k _ _ _ _ q (by simp[RP]) (s1.hid hS) (e1.trans (Ev.hid hS))⟩
  | _=>exact h1.elim
end
section
variable {B:Bs}{X:Cx}{a b:Expr}{ta tb:TE'}{pos:Pos}
def ED:R2':=uI (fun _ j=>0≤j) fun i j=>.int (i / 2 ^ j.toNat)
def yH:R2':=uI0 fun i j=>.int (Builtin.bitAnd i j)
theorem uU(ha:PE' X B a ta)(hb:PE' X B b tb):PE' X B (.BinOp a .RShift b pos) (uOp ED ta tb):=fi AR (uF fun _ _ _=>by simp[RP]) ha hb
theorem pY(ha:PE' X B a ta)(hb:PE' X B b tb):PE' X B (.BinOp a .BitAnd b pos) (uOp yH ta tb):=fi BD (ja fun _ _ _=>by simp[RP]) ha hb
end
end U
namespace ST
open PySem.W
def key(K:Nat->Int)(p:Array Nat)(i:Nat):Int:=K ((p[i]?).getD 0)
structure Ok (n:Nat) (p:Array Nat):Prop where
 perm:p.toList.Perm (List.range n)
def S(K:Nat->Int)(p:Array Nat)(m:Nat):Prop:=∀i j,i<j->j<m->key K p i<key K p j
theorem Ok.size(h:Ok n p):p.size=n:=by
 have:=h.perm.length_eq;simpa using this
theorem Ok.lt(h:Ok n p)(h0:0<n)(i:Nat):p.getD i 0<n:=by
 rw[Array.getD_eq_getD_getElem?];cases e:p[i]? with
 | none=>exact h0
 | some x =>
  have:x∈p.toList:=by
   obtain⟨hi,rfl⟩:=Array.getElem?_eq_some_iff.mp e;simp
  exact Jn.mp (h.perm.mem_iff.mp this)
theorem Ok.of(h:Ok n p)(r:q.Perm p):Ok n q:=⟨(Array.perm_iff_toList_perm.mp r).trans h.perm⟩
section
variable {cmp:Nat->Nat->(Bool->Shared->Prop)->Shared->Prop}{s:Shared}{n:Nat}{K:Nat->Int}{p:Array Nat}
theorem Ok.ne(hK:∀i j,i<n->j<n->K i=K j->i=j)(h:Ok n p){i j:Nat}(hi:i<n)(hj:j<n)(hne:i≠j):key K p i≠key K p j:=by
 intro e;have hs:=h.size;have h0:0<n:=by omega
 unfold key at e;rw[Je (by omega),Je (by omega)]at e;simp only[Option.getD_some]at e;have nd:p.toList.Nodup:=(h.perm.nodup_iff).mpr List.nodup_range;have l1:p[i]<n:=by have:=h.lt h0 i;rwa [Array.getD_eq_getD_getElem?,Je (by omega)]at this
 have l2:p[j]<n:=by have:=h.lt h0 j;rwa [Array.getD_eq_getD_getElem?,Je (by omega)]at this
 have q:=hK _ _ l1 l2 e;have:i=j:=by
  exact(List.getElem_inj nd (h₀:=by simpa[hs]using hi) (h₁:=by simpa[hs]using hj)).mp (by simpa using q)
 exact hne this
theorem mm(K:Nat->Int)(p:Array Nat)(i:Nat):K (p.getD i 0)=key K p i:=by
 unfold key;rw[Array.getD_eq_getD_getElem?]
variable (hc:∀i j C,i<n->j<n->C (decide (K i<K j)) s->cmp i j C s)(hK:∀i j,i<n->j<n->K i=K j->i=j)
include hc
theorem jj(h0:0<n)(ok:Ok n p){i j:Nat}(h:G (decide (key K p i<key K p j)) s):cmp (p.getD i 0) (p.getD j 0) G s:=by
 refine hc _ _ _ (ok.lt h0 i) (ok.lt h0 j) ?_;rw[mm K p i,mm K p j];exact h
include hK
theorem gL(ok:Ok n p)(hi:i<n)(hj:j<n)(hne:i≠j)(h:¬key K p i<key K p j):key K p j<key K p i:=by
 have:=ok.ne hK hi hj hne;omega
theorem asc(ok:Ok n p):∀(f m:Nat) {G:Nat->Shared->Prop},1≤m->m+f≤n->S K p m ->
  (∀m',m≤m'->m'≤m+f->S K p m'->(m'<m+f->key K p m'<key K p (m' - 1))->G m' s)->(kas_asc p f m).kasWp cmp G s
 | 0,m,G,_,_,hS,h=>h m (IS _) (IS _) hS fun q=>absurd q (KQ _)
 | f+1,m,G,h1,hm,hS,h=>by
  refine jj hc (by omega) ok (G:=fun c s'=>(if c=true then KasT.ret m else kas_asc p f (m+1)).kasWp cmp G s') ?_;by_cases q:key K p m<key K p (m - 1)
  ·rw[JE q];show G m s;exact h m (IS _) (by omega) hS fun _=>q
  ·rw[J2 q];show(kas_asc p f (m+1)).kasWp cmp G s;have q':=gL hc hK ok (by omega) (by omega) (by omega) q;refine asc ok f (m+1) (by omega) (by omega) ?_ fun m' a b c d=>h m' (by omega) (by omega) c fun e=>d (by omega);intro i j hij hj;by_cases hjm:j<m
   ·exact hS i j hij hjm
   ·have:j=m:=by omega
    subst this;by_cases him:i=j - 1
    ·subst him;exact q'
    ·have:=hS i (j - 1) (by omega) (by omega);omega
theorem desc(ok:Ok n p):∀(f m:Nat) {G:Array Nat×Nat×Nat->Shared->Prop},1≤m->m+f≤n->(∀i j,i<j->j<m->key K p j<key K p i) ->
  (∀m',m≤m'->m'≤m+f->(∀i j,i<j->j<m'->key K p j<key K p i)->G (p,m',0) s)->(kas_desc f p m 0).kasWp cmp G s
 | 0,m,G,_,_,hS,h=>h m (IS _) (IS _) hS
 | f+1,m,G,h1,hm,hS,h=>by
  refine jj hc (by omega) ok (G:=fun c s'=>(if c=true then(if 0>0 then kas_desc f (kas_rev p (m - (0+1)) m) (m+1) 0 else kas_desc f p (m+1) 0)
   else KasT.ask (p.getD (m - 1) 0) (p.getD m 0) fun d=>if d=true then KasT.ret (p,m,0)else kas_desc f p (m+1) (0+1)).kasWp cmp G s') ?_
  by_cases q:key K p m<key K p (m - 1)
  ·rw[JE q,IZ rfl,IX (by omega)];refine desc ok f (m+1) (by omega) (by omega) ?_ fun m' a b c=>h m' (by omega) (by omega) c;intro i j hij hj;by_cases hjm:j<m
   ·exact hS i j hij hjm
   ·have:j=m:=by omega
    subst this;by_cases him:i=j - 1
    ·subst him;exact q
    ·have:=hS i (j - 1) (by omega) (by omega);omega
  ·rw[J2 q];have q':=gL hc hK ok (by omega) (by omega) (by omega) q;refine jj hc (by omega) ok (G:=fun d s'=>(if d=true then KasT.ret (p,m,0)else kas_desc f p (m+1) (0+1)).kasWp cmp G s') ?_;rw[JE q',IZ rfl];exact h m (IS _) (by omega) hS
theorem qb(ok:Ok n p)(hm:m≤n)(i:Nat):key K (kas_rev p 0 m) i=if i<m then key K p (m - 1 - i)else key K p i:=by
 unfold key kas_rev;rw[getElem?_mirror_all (by rw[ok.size];exact hm)];by_cases h:i<m
 ·rw[IZ ⟨JW _,h⟩,IZ h];congr 3;omega
 ·rw[IX (by omega),IX h]
theorem count(ok:Ok n p)(h1:1≤n)(h:∀m p',Ok n p'->1≤m->m≤n->S K p' m->G (m,p') s):(kas_count n p).kasWp cmp G s:=by
 unfold kas_count;rw[KasT.kasWp_bind];refine asc hc hK ok (n - 1) 1 (IS _) (by omega) (fun i j a b=>by omega) fun m' a b hS st=>?_;by_cases e:m'=n
 ·subst e;rw[IZ (by simp)];exact h _ _ ok (by omega) (IS _) hS
 ·rw[IX (by simpa using e)];by_cases e1:m'>1
  ·rw[IZ e1];refine jj hc (by omega) ok (G:=fun c s'=>(if c=true then KasT.ret (m',p)else kas_descPart m' n (kas_rev p 0 m')).kasWp cmp G s') ?_;rw[JE (hS 0 (m' - 1) (by omega) (by omega)),IZ rfl];exact h _ _ ok (by omega) (by omega) hS
  ·rw[IX e1];have:m'=1:=by omega
   subst this;unfold kas_descPart;rw[KasT.kasWp_bind];have st1:=st (by omega);refine desc hc hK ok (n - (1+1)) (1+1) (by omega) (by omega) (fun i j hij hj=>?_) fun m' a b hD=>?_
   ·have h1:j=1:=by omega
    have h2:i=0:=by omega
    subst h1;subst h2;exact st1
   ·rw[IX (by simp)];unfold kas_tail3;rw[KasT.kasWp_bind];have ok2:Ok n (kas_rev p 0 m'):=ok.of (mirror_perm _ _ _ _);refine asc hc hK ok2 (n - m') m' (by omega) (by omega) (fun i j hij hj=>?_) fun m2 a2 b2 hS2 _=>?_
    ·rw[qb hc hK ok (by omega),qb hc hK ok (by omega),IZ (by omega),IZ hj];exact hD _ _ (by omega) (by omega)
    ·exact h m2 _ ok2 (by omega) (by omega) hS2
theorem place(ok:Ok n p){k:Nat}(hk:k<n)(hS:S K p k):∀(f l r:Nat) {G:Nat->Shared->Prop},l≤r->r≤k->r - l≤f->(∀i,i<l->key K p i<key K p k)->(∀i,r≤i->i<k->key K p k<key K p i) ->
  (∀l',l'≤k->(∀i,i<l'->key K p i<key K p k)->(∀i,l'≤i->i<k->key K p k<key K p i)->G l' s)->(kas_place p k f l r).kasWp cmp G s
 | 0,l,r,G,h1,h2,h3,ha,hb,h=>h l (by omega) ha fun i x y=>hb i (by omega) y
 | f+1,l,r,G,h1,h2,h3,ha,hb,h=>by
  unfold kas_place;by_cases e:l≥r
  ·rw[IZ e];exact h l (by omega) ha fun i x y=>hb i (by omega) y
  ·rw[IX e];refine jj hc (by omega) ok (G:=fun c s'=>(if c=true then kas_place p k f l ((l+r) / 2)else kas_place p k f ((l+r) / 2+1) r).kasWp cmp G s') ?_;have hmid:(l+r) / 2<k:=by omega
   generalize hm:(l+r) / 2=mid at *;by_cases q:key K p k<key K p mid
   ·rw[JE q,IZ rfl];refine place ok hk hS f l mid (by omega) (by omega) (by omega) ha (fun i x y=>?_) h;by_cases z:i=mid
    ·subst z;exact q
    ·have:=hS mid i (by omega) y;omega
   ·rw[J2 q,IX (by simp)];have q':=gL hc hK ok hk (by omega) (by omega) q;refine place ok hk hS f (mid+1) r (by omega) h2 (by omega) (fun i x=>?_) hb h;by_cases z:i=mid
    ·subst z;exact q'
    ·have:=hS i mid (by omega) hmid;omega
theorem qa(ok:Ok n p)(hk:k<n)(hl:l≤k)(i:Nat):key K (bubble p k (k - l)) i=if i=l then key K p k else if l<i/\i≤k then key K p (i - 1)else key K p i:=by
 unfold key;rw[getElem?_bubble (by rw[ok.size];exact hk) _ (Nat.sub_le _ _)];rw[show k - (k - l)=l by omega];split
 ·rfl
 ·split<;>rfl
theorem bin:∀(f k:Nat) (p:Array Nat) {G:Array Nat->Shared->Prop},Ok n p->1≤k->k+f=n->S K p k->(∀p',Ok n p'->S K p' n->G p' s)->(kas_bin f p k).kasWp cmp G s
 | 0, k, p, G, ok, h1, h2, hS, h => h p ok (by have : k = n := by omega
                                               subst this; exact hS)
 | f+1,k,p,G,ok,h1,h2,hS,h=>by
  unfold kas_bin;rw[KasT.kasWp_bind];refine place hc hK ok (by omega) hS k 0 k (by omega) (IS _) (by omega) (fun i x=>by omega) (fun i x y=>by omega) fun l hl ha hb=>?_;refine bin f (k+1) _ (ok.of (bubble_perm _ _ _)) (by omega) (by omega) (fun i j hij hj=>?_) h;rw[qa hc hK ok (by omega) hl,qa hc hK ok (by omega) hl];by_cases c1:i=l
  ·rw[IZ c1];rw[IX (by omega),IZ (by omega)];exact hb _ (by omega) (by omega)
  ·rw[IX c1];by_cases c2:j=l
   ·rw[IZ c2,IX (by omega)];exact ha _ (by omega)
   ·rw[IX c2];by_cases c3:l<i/\i≤k
    ·rw[IZ c3,IZ (by omega)];exact hS _ _ (by omega) (by omega)
    ·rw[IX c3];by_cases c4:l<j/\j≤k
     ·rw[IZ c4];by_cases c5:i=j - 1
      ·omega
      ·exact hS _ _ (by omega) (by omega)
     ·rw[IX c4];exact hS _ _ hij (by omega)
theorem sorts(h1:1≤n)(h:∀p,Ok n p->S K p n->G p s):(kas_sort n).kasWp cmp G s:=by
 unfold kas_sort;rw[KasT.kasWp_bind];refine count hc hK (p:=(List.range n).toArray) ⟨by simp⟩ h1 fun m p' ok a b hS=>?_;show(if m<n then kas_bin (n - max m 1) p' (max m 1)else KasT.ret p').kasWp cmp G s;by_cases e:m<n
 ·rw[IZ e,show max m 1=m by omega];exact bin hc hK (n - m) m p' ok a (by omega) hS h
 ·rw[IX e];have:m=n:=by omega
  subst this;exact h p' ok hS
end
end ST
namespace ST
open PySem.W
def pk(p:Int×Int):Int:=6*p.1+p.2
def Tp(h:Heap)(v:Value)(p:Int×Int):Prop:=∃t o k u1 u2,v=.ref t/\h.get? t=some o/\o.cls=.type "tuple"/\o.data=.seq #[.int p.1 u1,.int p.2 u2] k
def Tps(h:Heap)(vs:List Value)(ps:List (Int×Int)):Prop:=vs.length=ps.length/\∀i v,vs[i]?=some v->Tp h v (ps.getD i (0,0))
theorem Tp.kp(x:Tp h v p)(k:∀b o,o.cls=.type "tuple"->h.get? b=some o->h'.get? b=some o):Tp h' v p:=by
 obtain⟨t,o,n,u1,u2,e,ho,hc,hd⟩:=x;exact⟨t,o,n,u1,u2,e,k _ _ hc ho,hc,hd⟩
section
variable {prog:Program}{w:World}{A:Around}{E:Value->Shared->Prop}{s:Shared}
theorem xF(hx:Tp s.heap x p)(hy:Tp s.heap y q)(bp:0≤p.2/\p.2<6)(bq:0≤q.2/\q.2<6)(h:C (decide (pk p<pk q)) s) :
  wpAny (model prog w) A (keyLt' (tuples' true) x y) C E s:=by
 obtain⟨t,o,n,u1,u2,rfl,ho,hc,hd⟩:=hx;obtain⟨t',o',n',w1,w2,rfl,ho',hc',hd'⟩:=hy;refine kat_lt ho hd ho' hd' ?_;show KatLex prog w A true (decide (2<2)) C [(.int p.1 u1,.int q.1 w1),(.int p.2 u2,.int q.2 w2)] 0 s;refine kat_cons (wpAny_eqBool_int ?_);refine kat_go (fun e1=>kat_yes (kat_cons (wpAny_eqBool_int ?_))) (fun e1=>kat_no ?_)
 ·have e1:p.1=q.1:=by simpa using e1
  refine kat_go (fun e2=>kat_yes (kat_nil ?_)) (fun e2=>kat_no ?_)
  ·have e2:p.2=q.2:=by simpa using e2
   have:decide (pk p<pk q)=decide (2<2):=by unfold pk;rw[e1,e2];simp
   rw[←this];exact h
  ·refine kat_one _ _ (PyProof.Rows.lt_int ?_);have:decide (pk p<pk q)=decide (p.2<q.2):=by
    rw[KS];unfold pk;omega
   show C (decide (p.2<q.2)) s;rw[←this];exact h
 ·have e1:¬p.1=q.1:=by simpa using e1
  refine oneLt_int ?_;have:decide (pk p<pk q)=decide (p.1<q.1):=by
   rw[KS];unfold pk;omega
  rw[←this];exact h
theorem pD{h:Heap}:∀{vs:List Value} {ps:List (Int×Int)},Tps h vs ps->∃fs,KatTups h vs fs/\fs.length=vs.length/\∀v∈fs,∃i t,v=.int i t
 | [],ps,_=>⟨[],KatTups.nil,rfl,by simp⟩
 | v::vs,[],x=>by have:=x.1;simp at this
 | v::vs,p::ps,x=>by
  obtain⟨fs,t,l,q⟩:=pD (h:=h) (vs:=vs) (ps:=ps) ⟨by have:=x.1;simpa using this,fun i v e=>by simpa using x.2 (i+1) v (by simpa using e)⟩;obtain⟨t0,o,n,u1,u2,rfl,ho,hc,hd⟩:=x.2 0 v (by simp);refine⟨.int _ u1::fs,KatTups.cons ho hc hd rfl t,by simp[l],?_⟩;intro z hz;rcases IY.mp hz with rfl | hz
  ·exact⟨_,_,rfl⟩
  ·exact q z hz
theorem jM(P0:Heap->Prop)(Kc:Nat->Int)(hkp:∀h h':Heap,P0 h->(∀b o,o.cls=.type "tuple"->h.get? b=some o->h'.get? b=some o)->P0 h')
  (hfs:∀h,P0 h->2≤vs.length->∃fs,KatTups h vs fs/\fs.length=vs.length/\∀v∈fs,∃i t,v=.int i t)
  (hlt:∀(s:Shared) (A:Around) (i j:Nat) (C:Bool->Shared->Prop),P0 s.heap->i<vs.length->j<vs.length->C (decide (Kc i<Kc j)) s->wpAny (model prog w) A (keyLt' (tuples' true) (vs.getD i Value.none) (vs.getD j Value.none)) C (fun _ _=>False) s)
  (hinj:∀i j,i<vs.length->j<vs.length->Kc i=Kc j->i=j) (ho:s.heap.get? a=some (seqObj "list" vs.toArray n)) (hT:P0 s.heap) (h64:vs.length<64)
  (h:∀q:List Nat,q.Perm (List.range vs.length)->q.Pairwise (fun x y=>Kc x<Kc y)->P (.done (.ret .none)) { s with heap:=sortedHeap s.heap a vs (q.map fun i=>vs.getD i Value.none).toArray }) :
  wpAny (model prog w) A (Builtin.«list.sort» ⟨[.ref a],[]⟩) P E s:=by
 rw[list_sort_plain];have hls:vs.length≤sizeLine:=by rw[Jt];omega
 refine IC (listItems_at ho rfl (IC ?_));refine(K5 ho rfl ?_ (by rw[IL];omega) (JW _));obtain⟨ea0,oa0⟩:∃ea0,(s.heap.update a (Obj.mapSeq fun _=>#[])).get? a=some (seqObj "list" #[] ea0):=⟨_,K1 ho (fun _=>#[])⟩;refine IC (seqEpoch_at oa0 rfl ?_);refine IC (wpAny_newTuple ?_ (by show vs.length≤_;omega));refine IC (wpAny_newList ?_ (JW _));refine JT ?_;have kq0:∀b o,b≠a->s.heap.get? b=some o->(((s.heap.update a (Obj.mapSeq fun _=>#[])).push (seqObj "tuple" vs.toArray 0)).push (seqObj "list" #[] 0)).get? b=some o:=fun b o hne q =>
  IG _ (IG _ (by rw[Kl _ _ _ _ hne];exact q))
 have og0:(((s.heap.update a (Obj.mapSeq fun _=>#[])).push (seqObj "tuple" vs.toArray 0)).push (seqObj "list" #[] 0)).get? a=some (seqObj "list" #[] ea0) :=
  IG _ (IG _ oa0)
 have hT6:P0 (((s.heap.update a (Obj.mapSeq fun _=>#[])).push (seqObj "tuple" vs.toArray 0)).push (seqObj "list" #[] 0)):=hkp _ _ hT fun b o hcl q=>kq0 b o (fun z=>by
  subst z;rw[ho]at q;cases q;exact absurd hcl (by simp[seqObj])) q
 show wpAny (model prog w) _ _ P _ { s with heap:=((s.heap.update a (Obj.mapSeq fun _=>#[])).push (seqObj "tuple" vs.toArray 0)).push (seqObj "list" #[] 0) };dsimp only;have zq0:vs.toArray.size=vs.length:=by simp
 by_cases hq2:vs.toArray.size<2
 ·rw[IZ hq2,IZ hq2];refine IC (IH ?_);rw[StateT.run_pure];refine IC (IH ?_);dsimp only;refine IC (seqEpoch_at og0 rfl ?_);refine IC (K5 og0 rfl ?_ (JW _) (by rw[Array.size_map];show(pairsOf vs).size≤_;rw[pairsOf_size];omega));simp only[bne_self_eq_false,Kr,if_false];have hq:=h (List.range vs.length) (Kn _) ?_
  ·have e:(arrOf (SortSt.mk' general' (vs.toArray.zip vs.toArray) #[] 7 none)).map (·.2)=((List.range vs.length).map fun i=>vs.getD i Value.none).toArray:=by
    show(vs.toArray.zip vs.toArray).map (·.2)=_
    match vs,hq2 with
    | [],_=>apply Array.toList_inj.mp;simp
    | [v],_=>apply Array.toList_inj.mp;simp[List.range_succ]
    | _::_::_,hq2=>exact absurd hq2 (by simp)
   refine IH ?_;rw[e];exact hq
  ·match vs,hq2 with
   | [],_=>exact List.Pairwise.nil
   | [v],_=>exact Kw _ _
   | _::_::_,hq2=>exact absurd hq2 (by simp)
 ·rw[IX hq2,IX hq2];rw[zq0]at hq2;obtain⟨fs,hfs,hfl,hfi⟩:=hfs _ hT6 (by omega);refine IC (kat_kind hfs (by omega) (T:=.type "int") (fun v hv=>?_) rfl ?_)
  ·obtain⟨i,t,rfl⟩:=hfi v hv;exact Looks.of_pure rfl
  ·show wpAny (model prog w) A _ P E _;refine IC (KH (kat_run (ks:=vs) (vs:=vs) (κ:=tuples' true)
    (Q:=fun st' s'=>s'={ s with heap:=((s.heap.update a (Obj.mapSeq fun _=>#[])).push (seqObj "tuple" vs.toArray 0)).push (seqObj "list" #[] 0) }/\∃p:Array Nat,Ok vs.length p/\S Kc p vs.length/\arrOf st'=p.map (kas_item (vs.toArray.zip vs.toArray))/\failedOf st'=none)
    (G:=fun p s'=>s'={ s with heap:=((s.heap.update a (Obj.mapSeq fun _=>#[])).push (seqObj "tuple" vs.toArray 0)).push (seqObj "list" #[] 0) }/\Ok vs.length p/\S Kc p vs.length)
    rfl (by omega) h64 (fun p st' s' a1 a2 a3 a4=>⟨a4.1,p,a4.2.1,a4.2.2,a2,a3⟩) ?run) ?post fun _ _ e=>e)
   case run =>
    refine sorts (n:=vs.length) (K:=Kc) (fun i j C hi hj hC=>?_) hinj (by omega) fun p ok sS=>⟨rfl,ok,sS⟩;unfold kas_ask;exact hlt _ _ i j C hT6 hi hj hC
   case post =>
    rintro⟨⟨⟩,st'⟩ s' ⟨rfl,p,ok,sS,har,hf⟩;dsimp only;have hout:=kat_snds (ks:=vs) (vs:=vs) rfl har;have hpz:(List.toArray (p.toList.map fun i=>vs.getD i Value.none)).size=vs.length:=by rw[IL,kb,J0,ok.size]
    rw[hout];refine IC (seqEpoch_at og0 rfl ?_);refine IC (K5 og0 rfl ?_ (JW _) (by omega));rw[hf];simp only[bne_self_eq_false,Kr,if_false];refine IH (h p.toList ok.perm ?_);rw[List.pairwise_iff_getElem];intro i j hi hj hij;have:=sS i j hij (by rw[←ok.size];simpa using hj);unfold key at this;have hi2:i<p.size:=by simpa using hi
    have hj2:j<p.size:=by simpa using hj
    rw[Je hi2,Je hj2]at this;simpa using this
theorem jb(P0:Heap->Prop)(Kc:Nat->Int)(hkp:∀h h':Heap,P0 h->(∀b o,o.cls=.type "tuple"->h.get? b=some o->h'.get? b=some o)->P0 h')
  (hfs:∀h,P0 h->2≤vs.length->∃fs,KatTups h vs fs/\fs.length=vs.length/\∀v∈fs,∃i t,v=.int i t)
  (hlt:∀(s:Shared) (A:Around) (i j:Nat) (C:Bool->Shared->Prop),P0 s.heap->i<vs.length->j<vs.length->C (decide (Kc i<Kc j)) s->wpAny (model prog w) A (keyLt' (tuples' true) (vs.getD i Value.none) (vs.getD j Value.none)) C (fun _ _=>False) s)
  (hinj:∀i j,i<vs.length->j<vs.length->Kc i=Kc j->i=j) (hl:s.heap.IsList l vs.toArray) (hT:P0 s.heap) (h64:vs.length<64)
  (h:∀q:List Nat,q.Perm (List.range vs.length)->q.Pairwise (fun x y=>Kc x<Kc y)->Q (.ref (s.heap.objs.size+1)) { s with heap:=sortedAll s.heap vs (q.map fun i=>vs.getD i Value.none).toArray }) :
  wpAny (model prog w) A (call (.builtin "sorted") [.ref l]) Q E s:=by
 refine Calls.call_function_entry kind_sorted plain_sorted entry_sorted (args_sorted1 _) ?_;unfold Builtin.«sorted»;refine IC (m:=checkCount "sorted" 1 1 _) (IH (IC (collect_list hl (IC (wpAny_newList ?_ (by rw[Jt];omega))) (by rw[Jt];omega))));have zq0:((s.heap.push (seqObj "list" #[] 0)).update s.heap.objs.size (Obj.mapSeq (·++vs.toArray))).objs.size=s.heap.objs.size+1:=by
  rw[Heap.size_update,size_push']
 have oq0:(((s.heap.push (seqObj "list" #[] 0)).update s.heap.objs.size (Obj.mapSeq (·++vs.toArray))).push (seqObj "list" vs.toArray 0)).get? (s.heap.objs.size+1)=some (seqObj "list" vs.toArray 0):=by
  rw[←zq0];exact IT _ rfl
 have kq0:∀b o,s.heap.get? b=some o->(((s.heap.push (seqObj "list" #[] 0)).update s.heap.objs.size (Obj.mapSeq (·++vs.toArray))).push (seqObj "list" vs.toArray 0)).get? b=some o:=fun b o q=>by
  have lq0:b<s.heap.objs.size:=IQ q;rw[Heap.get?_push_ne _ _ _ (by rw[zq0];exact Jc (J5 lq0)),Kl _ _ _ _ (Jc lq0),Heap.get?_push_ne _ _ _ (Jc lq0)];exact q
 show wpAny (model prog w) _ _ _ _ { s with heap:=((s.heap.push (seqObj "list" #[] 0)).update s.heap.objs.size (Obj.mapSeq (·++vs.toArray))).push (seqObj "list" vs.toArray 0) };rw[zq0];refine IC (JT (J4 slot_list_sort ⟨_,oq0,rfl⟩ entry_list_sort (jM P0 Kc hkp hfs hlt hinj oq0 (hkp _ _ hT fun b o _ q=>kq0 b o q) h64 fun q a1 a2=>⟨_,rfl,?_⟩) (args_list_sort _)));exact IH ⟨_,rfl,h q a1 a2⟩
theorem kB(hl:s.heap.IsList l vs.toArray)(hT:Tps s.heap vs ps)(nd:ps.Nodup)(hb:∀p∈ps,0≤p.2/\p.2<6)(h64:vs.length<64)
  (h:∀q:List Nat,q.Perm (List.range vs.length)->(q.map fun i=>ps.getD i (0,0)).Pairwise (fun x y=>pk x<pk y)->Q (.ref (s.heap.objs.size+1)) { s with heap:=sortedAll s.heap vs (q.map fun i=>vs.getD i Value.none).toArray }) :
  wpAny (model prog w) A (call (.builtin "sorted") [.ref l]) Q E s:=by
 refine jb (fun h=>Tps h vs ps) (fun i=>pk (ps.getD i (0,0))) (fun h h' x k=>⟨x.1,fun i v e=>(x.2 i v e).kp k⟩) (fun h x _=>pD x) (fun s A i j C hT6 hi hj hC=>?_) (fun i j hi hj e=>?_) hl hT h64 fun q a1 a2=>h q a1 (JQ.mpr a2)
 ·have hi':i<ps.length:=by rw[←hT.1];exact hi
  have hj':j<ps.length:=by rw[←hT.1];exact hj
  refine xF (hT6.2 i _ ?_) (hT6.2 j _ ?_) (hb _ ?_) (hb _ ?_) hC
  ·rw[IE,ID hi];rfl
  ·rw[IE,ID hj];rfl
  ·rw[IE,ID hi'];exact Ju hi'
  ·rw[IE,ID hj'];exact Ju hj'
 ·have hi':i<ps.length:=by rw[←hT.1];exact hi
  have hj':j<ps.length:=by rw[←hT.1];exact hj
  have g1:ps.getD i (0,0)=ps[i]:=by rw[IE,ID hi'];rfl
  have g2:ps.getD j (0,0)=ps[j]:=by rw[IE,ID hj'];rfl
  rw[g1,g2]at e;have b1:=hb _ (Ju hi');have b2:=hb _ (Ju hj');unfold pk at e;have e2:ps[i]=ps[j]:=Prod.ext (by omega) (by omega);exact(List.getElem_inj nd).mp e2
end
end ST
namespace L2
variable {X:Cx}
def sG(K:PySem.W.Frag):List V->Hp->VK->Prop:=fun xs H Q=>∃(a:Addr) (us:List V) (ps:List (Int×Int)),xs=[.ref a]/\SqL K H a us/\Prs K H us ps/\ps.Nodup/\(∀p∈ps,0≤p.2/\p.2<6)/\ps.length<64 /\
 ∀(r:Addr) (q:List Nat),H r=none->q.Perm (List.range ps.length)->(q.map fun i=>ps.getD i (0,0)).Pairwise (fun x y=>ST.pk x<ST.pk y)->Q (.ref r) (upd H r (.lst (q.map fun i=>us.getD i .non)))
theorem jQ{us:List V}{vs:List Value}(r:Vals us vs):∀(q:List Nat),(∀i∈q,i<us.length)->Vals (q.map fun i=>us.getD i .non) (q.map fun i=>vs.getD i Value.none)
 | [],_=>.nil
 | i::q,h=>by
  have hi:=h i IK;obtain⟨u,eu,ru⟩:=r.get (ID hi);refine .cons ?_ (jQ r q fun j hj=>h j (IJ _ hj));dsimp only;rw[IE,ID hi,IE,eu];exact ru
theorem dO:cf X (.builtin "sorted") (sG X.K):=by
 intro pins s σ H xs us Q I r h;obtain⟨a,ws,ps,rfl,hq,hP,nd,hb,h64,q⟩:=h;obtain⟨u,rfl,ru⟩:=Vals.one r;cases ru;obtain⟨its,rv,p,hz⟩:=I.list hq;have hlen:its.length=ps.length:=rv.length.symm.trans (lE hP);refine ST.kB (ps:=ps) p.isList ⟨hlen,fun i v hv=>?_⟩ nd hb (by omega) fun qs h1 h2=>?_
 ·have hi:i<ws.length:=by rw[rv.length];exact(IM.mp hv).1
  obtain⟨pr,t,e1,e2,hs⟩:=lJ (i:=i) hP (ID hi);obtain⟨u,eu,ru⟩:=rv.get (ID hi);rw[hv]at eu;cases eu;rw[e2]at ru;cases ru;obtain⟨is,r2,⟨o,ho,hcl,n,hd⟩,_⟩:=I.tuple hs;obtain⟨x,y,rfl,rx,ry⟩:=vals2 r2;obtain⟨t1,rfl⟩:=rx;obtain⟨t2,rfl⟩:=ry;refine⟨t,o,n,t1,t2,rfl,ho,hcl,?_⟩;rw[IE,e1];exact hd
 ·have hn:H (s.heap.objs.size+1)=none:=I.hok.fresh (Nat.le_succ _);obtain⟨e,he⟩:=sortedAll_at s.heap its (qs.map fun i=>its.getD i Value.none).toArray;rw[hlen]at h1;have hin:∀i∈qs,i<ws.length:=fun i hi=>by
   have:=Jn.mp (h1.mem_iff.mp hi);rw[lE hP];exact this
  have hv:=jQ rv qs hin;have hz2:(qs.map fun i=>ws.getD i V.non).length≤sizeLine:=by rw[kb,h1.length_eq,JH,Jt];omega
  refine⟨.ref (s.heap.objs.size+1),_,I.laid (t':=s.toks) (o:=.lst (qs.map fun i=>ws.getD i V.non)) (fun b o e=>sortedAll_old e) (Nat.le_succ _) ?_,rfl,q _ qs hn h1 h2⟩;exact⟨hz2,_,e,hv,he⟩
end L2
namespace U
open L2
section
variable {B:Bs}{X:Cx}{a b:Expr}{ta tb:TE'}{pos:Pos}
def uq:List PV->PHp->VK'->Prop:=cP fun x H Q=>match x with
 | .ref a=>∃ps:List (Int×Int),H a=some (.lst (ps.map prV))/\ps.Nodup/\(∀p∈ps,0≤p.2/\p.2<6)/\ps.length<64/\∀(r:Addr) (qs:List (Int×Int)),H r=none->qs.Perm ps->qs.Pairwise (fun x y=>ST.pk x<ST.pk y)->Q (.ref r) (put H r (.lst (qs.map prV)))
 | _=>False
theorem me{K:PySem.W.Frag}{H:Hp}{ps:List (Int×Int)}{us:List V}(r:RPs K H (ps.map prV) us):∀(q:List Nat),(∀i∈q,i<ps.length)->RPs K H ((q.map fun i=>ps.getD i (0,0)).map prV) (q.map fun i=>us.getD i V.non)
 | [],_=>RPs.nil _
 | i::q,h=>by
  have hi:=h i IK;obtain⟨u,eu,ru⟩:=RPs.get _ (i:=i) (x:=prV ps[i]) r (by rw[IV,ID hi];rfl);refine RPs.cons _ ?_ (me r q fun j hj=>h j (IJ _ hj));dsimp only;rw[IE,ID hi,IE,eu];exact ru
theorem eE{α:Type}(l:List α)(d:α){q:List Nat}(h:q.Perm (List.range l.length)):(q.map fun i=>l.getD i d).Perm l:=by
 refine(h.map _).trans ?_;have:(List.range l.length).map (fun i=>l.getD i d)=l:=by
  apply List.ext_getElem
  ·simp
  ·intro i h1 h2;simp[IE,ID h2]
 rw[this]
theorem gg{K:PySem.W.Frag}:VC K B uq (sG K):=by
 intro σ' σ H' H xs' xs Q' Q s r h k;obtain⟨x',x,rfl,rfl,rx,h⟩:=cP.ex h r;cases x' with
 | ref a =>
  obtain⟨ps,ea,nd,hb,h64,q⟩:=h;simp only[RP]at rx;subst rx;obtain⟨us,e,r2⟩:=s.hp _ _ ea;refine⟨a,us,ps,rfl,.inl (.inl e),oY r2,nd,hb,h64,fun r qs hr h1 h2=>?_⟩;have hin:∀i∈qs,i<ps.length:=fun i hi=>Jn.mp (h1.mem_iff.mp hi);exact k _ _ _ _ (q r _ (s.hp.free hr) (eE ps (0,0) h1) h2) (by simp[RP]) (s.new hr (mE hr (me r2 qs hin))) (Ev.new hr)
 | _=>exact h.elim
def ur:PV->List PV->PHp->VK'->Prop:=fun x vs H Q=>match x,vs with
 | .ref a,[]=>∃l,H a=some (.lst l)/\Q .non (put H a (.lst l.reverse))
 | _,_=>False
def i9:PV->List PV->PHp->VK'->Prop:=fun x vs H Q=>match x,vs with
 | .ref a,[]=>∃l,H a=some (.lst l)/\Q .non (put H a (.lst []))
 | _,_=>False
theorem nG{K:PySem.W.Frag}:VM K B i9 vB:=by
 intro σ' σ H' H x' xs' x xs Q' Q s rx r h k;unfold i9 at h;split at h
 ·rename_i a;obtain⟨l,e,h⟩:=h;obtain⟨us,q,r2⟩:=s.hp _ _ e;simp only[RP,RPs]at rx r;subst rx;subst r;exact⟨a,us,rfl,rfl,q,k _ _ _ _ h (by simp[RP]) (s.wr e (wrL s.hp e (RPs.nil _))) (Ev.wr e)⟩
 ·exact h.elim
theorem nD:∀x H Q,i9 x [] H Q->match x with | .ref a=>∃l,H a=some (.lst l) | _=>False:=by
 intro x H Q h;cases x with
 | ref a=>obtain⟨l,e,_⟩:=h;exact⟨l,e⟩
 | _=>exact h
def wD:PV->List PV->PHp->VK'->Prop:=fun x vs H Q=>match x,vs with
 | .ref a,[.int i,y]=>∃l,H a=some (.lst l)/\0≤i/\i.toNat≤l.length/\l.length<1000/\Q .non (put H a (.lst (l.take i.toNat++y::l.drop i.toNat)))
 | _,_=>False
theorem FN{a:Addr}:ur (.ref a) [] H Q=∃l,H a=some (.lst l)/\Q .non (put H a (.lst l.reverse)):=rfl
theorem Fu{a:Addr}:i9 (.ref a) [] H Q=∃l,H a=some (.lst l)/\Q .non (put H a (.lst [])):=rfl
theorem Fi{a:Addr}:wD (.ref a) [.int i,y] H Q=∃l,H a=some (.lst l)/\0≤i/\i.toNat≤l.length/\l.length<1000/\Q .non (put H a (.lst (l.take i.toNat++y::l.drop i.toNat))):=rfl
end
section
theorem gy{B:Bs}{X:Cx}{x:Str}{v':PV}{v:V}{pos:Pos}(hg:Gl X x)(h:∃u,X.mg x=some u/\RelV v u)(r':∀H,RP X.K H v' v)(hd:(x==("__debug__":Str))=false:=by decide):PE' X B (.Name x pos) (uC v'):=by
 obtain⟨u,hm,r⟩:=h;exact kN hg hm r r' hd
theorem aC(f:PV->PV)(pz:PV->Bool)(Iv:St'->Prop)(hlen:xs.length≤1000)(hok:∀l,ok (put H1 acc (.lst l)))
  (hs:∀x∈xs,∀(l:List PV) (σ:St') (R:St'->PHp->Prop),Iv σ->l.length<sizeLine->(pz x=true->∀σ3,Iv σ3->R σ3 (put H1 acc (.lst (l++[f x]))))->(pz x=false->∀σ3,Iv σ3->R σ3 (put H1 acc (.lst l))) ->
   g x σ (put H1 acc (.lst l)) fun σ3 H2=>tt σ3 H2 fun b H3=>cif b (te σ3 H3 fun y H4=>∃l',H4 acc=some (.lst l')/\l'.length<sizeLine/\R σ3 (put H4 acc (.lst (l'++[y])))) (R σ3 H3))
  (hq:Q (.ref acc) (put H1 acc (.lst ((xs.filter pz).map f)))) {σ:St'} (h0:Iv σ):cz ok g tt te acc Q xs σ (put H1 acc (.lst [])):=by
 have key:∀(r d:List PV) (σ:St'),xs=d++r->Iv σ->cz ok g tt te acc Q r σ (put H1 acc (.lst ((d.filter pz).map f))):=by
  intro r
  induction r with
  | nil =>
   intro d σ e hv;have:d=xs:=by rw[e,Ji]
   subst this;exact⟨hok _,hq⟩
  | cons x r ih =>
   intro d σ e hv;have hd:((d.filter pz).map f).length<sizeLine:=by
    have h1:d.length+(r.length+1)=xs.length:=by rw[e,II,Jg]
    have h2:=JD pz d;have:=aS (n:=1000) (by decide);rw[kb];omega
   refine⟨hok _,hs x (by rw[e];simp) _ σ _ hv hd (fun hp σ3 h3=>?_) (fun hp σ3 h3=>?_)⟩
   ·have:=ih (d++[x]) σ3 (by rw[e];simp) h3;rw[J7,IP]at this;simpa[hp]using this
   ·have:=ih (d++[x]) σ3 (by rw[e];simp) h3;rw[J7,IP]at this;simpa[hp]using this
 exact key xs [] σ rfl h0
end
section
theorem HS:yW C f (.ref a) H Q=∃dx fs v,H a=some (.ins C dx fs)/\fs.lookup f=some v/\Q v H:=rfl
theorem Il:y8 C f (.ref a) y H Q=∃dx fs,H a=some (.ins C dx fs)/\fs.length<1000/\Q (put H a (.ins C dx (jo f y fs))):=rfl
theorem Hy:isIn C m (.ref a) H=∃dx fs,H a=some (.ins C dx fs)/\fs.lookup m=none:=rfl
theorem Gp:Ew [.ref a] H Q=∃bs:List Bool,H a=some (.lst (bs.map PV.bl))/\Q (.bl (bs.all id)) H:=rfl
theorem Fq:uM (.ref a) H Q=∃ps:List (Int×Int),H a=some (.lst (ps.map prV))/\ps.Nodup/\(∀p∈ps,p∈SP.prs)/\ps.length≤15/\Q (.int ps.length) H:=rfl
theorem Ie:uq [.ref a] H Q=∃ps:List (Int×Int),H a=some (.lst (ps.map prV))/\ps.Nodup/\(∀p∈ps,0≤p.2/\p.2<6)/\ps.length<64/\∀(r:Addr) (qs:List (Int×Int)),H r=none->qs.Perm ps->qs.Pairwise (fun x y=>ST.pk x<ST.pk y)->Q (.ref r) (put H r (.lst (qs.map prV))):=rfl
end
end U
namespace SI
def subs:List (List Nat):=(List.range 64).map fun b=>(List.range 6).filter fun i=>b / 2 ^ i % 2==1
def tb(led:Bool)(L:List Nat):SetTable:={ mask:=if L.length≤4 then 7 else 31,place:=L.toArray,dummies:=#[],finger:=0,led:=led,moves:=if L.length≤4 then 0 else 1,plain:=true }
def pos(L:List Nat)(x:Nat):Nat:=(L.filter (·<x)).length
def ins(L:List Nat)(x:Nat):List Nat:=L.take (pos L x)++x::L.drop (pos L x)
def tp(led:Bool)(L:List Nat)(x:Nat):SetTable:={ tb led L with place:=(ins L x).toArray }
theorem F6:∀led∈[true,false],∀L∈subs,∀x∈List.range 6,x∉L->(tb led L).freeSlot x=some (x,false)/\(tb led L).put x=(tp led L x,pos L x):=by decide +kernel
theorem Fd:∀led∈[true,false],∀L∈subs,∀x∈List.range 6,x∉L->(tp led L x).fits (ins L x).length=true/\(if L.length=4 then(tp led L x).tooFull=true/\(tp led L x).relaid ((ins L x).map Int.ofNat).toArray 20=some (tb led (ins L x),#[0,1,2,3,4])else(tp led L x).tooFull=false/\tp led L x=tb led (ins L x)):=by decide +kernel
theorem jN:∀L∈subs,(∀x∈L,x<6)/\L.length≤6/\L.Nodup/\(∀x∈List.range 6,x∉L->ins L x∈subs):=by decide +kernel
theorem lW:∀L∈subs,∀led∈[true,false],(tb led L).fits L.length=true/\SetTable.below L.toArray 0=0/\∀i∈List.range L.length,SetTable.below L.toArray (L.getD i 0+1)=i+1:=by decide +kernel
def ent(i:Nat)(tk:Tok):Int×Value:=((i:Int),.int (i:Int) tk)
def c7(es:Array (Int×Value))(L:List Nat):Prop:=∃tks:List Tok,tks.length=L.length/\es.toList=List.zipWith ent L tks
theorem c7.size(h:c7 es L):es.size=L.length:=by
 obtain⟨tks,hl,e⟩:=h;rw[←J0,e,List.length_zipWith,hl,Nat.min_self]
theorem c7.get{es:Array (Int×Value)}{L:List Nat}(h:c7 es L){i:Nat}(hi:i<L.length):∃tk,es[i]?=some (ent (L.getD i 0) tk):=by
 obtain⟨tks,hl,e⟩:=h;refine⟨tks[i],?_⟩;rw[←JR,e,List.getElem?_zipWith,ID hi,ID (by omega),IE,ID hi];rfl
theorem c7.mem(h:c7 es L){e:Int×Value}(he:e∈es.toList):∃x∈L,∃tk,e=ent x tk:=by
 obtain⟨i,hi,rfl⟩:=List.mem_iff_getElem.mp he;have hi':i<L.length:=by rw[←h.size];simpa using hi
 obtain⟨tk,e⟩:=h.get hi';refine⟨L.getD i 0,by rw[IE,ID hi'];exact Ju hi',tk,?_⟩;rw[Je (by simpa using hi)]at e;simpa using Js e
theorem c7.of(h:c7 es L){x:Nat}(hx:x∈L):∃tk,ent x tk∈es.toList:=by
 obtain⟨i,hi,rfl⟩:=List.mem_iff_getElem.mp hx;obtain⟨tk,e⟩:=h.get hi;refine⟨tk,?_⟩;rw[IE,ID hi]at e;rw[←JR]at e;exact Ja e
theorem c7.ins{es:Array (Int×Value)}{L:List Nat}(h:c7 es L)(x:Nat)(tk:Tok):c7 (SetTable.insertAt es (pos L x) (ent x tk)) (SI.ins L x):=by
 obtain⟨tks,hl,e⟩:=h;refine⟨tks.take (pos L x)++tk::tks.drop (pos L x),?_,?_⟩
 ·unfold SI.ins;simp only[II,Jg,JA,KR];omega
 ·rw[SetTable.toList_insertAt,e];unfold SI.ins;rw[List.zipWith_append (by simp only[JA];omega),List.zipWith_cons_cons,List.take_zipWith,List.drop_zipWith]
structure jL (h:Heap) (S:Addr) (led:Bool) (L:List Nat):Prop where
 is:L∈subs/\∃es ep,h.get? S=some { cls:=.type "set",dict:=none,data:=.set es ep (tb led L) }/\c7 es L
theorem dq(led:Bool):led∈[true,false]:=by cases led<;>simp
theorem nM{α:Type}(es:Array α)(h:es.size=5):(#[0,1,2,3,4]:Array Nat).filterMap (es[·]?)=es:=by
 have e:=PySem.filterMap_getElem?_range es;rw[h]at e;apply Array.toList_inj.mp;rw[Array.toList_filterMap];exact e
section
variable {prog:Program}{w:World}{A:Around}{E:Value->Shared->Prop}{s:Shared}
theorem c7.elems(h:c7 es L)(hL:L∈subs):ElemsOf (intKind prog w) es.toList:=fun e he=>by
 obtain⟨x,hx,tk,rfl⟩:=h.mem he;refine⟨⟨(x:Int),intKind_is _ _ _ _,?_⟩,rfl⟩;have:x<6:=(jN L hL).1 x hx;have hh:∀y∈List.range 6,((y:Nat):Int)=(intKind prog w).hash ((y:Nat):Int):=by
  intro y hy;have:y=0∨y=1∨y=2∨y=3∨y=4∨y=5:=by have:=Jn.mp hy;omega
  rcases this with rfl | rfl | rfl | rfl | rfl | rfl<;>rfl
 exact hh x (Jn.mpr this)
theorem l9(hx:x<6):(intKind prog w).hash ((x:Nat):Int)=((x:Nat):Int):=by
 have:x=0∨x=1∨x=2∨x=3∨x=4∨x=5:=by omega
 rcases this with rfl | rfl | rfl | rfl | rfl | rfl<;>rfl
theorem ox(hP:jL s.heap S led L)(hx:x<6)
  (h:∀b h' tks,Heap.SameBut S s.heap h'->jL h' S led (if x∈L then L else ins L x)->Q b { s with heap:=h',toks:=tks }):wpAny (model prog w) A (setAdd S (.int (x:Int) tk)) Q E s:=by
 obtain⟨hL,es,ep,ho,he⟩:=hP.is;unfold setAdd;refine JT ?_;refine IC ((intKind prog w).pyHash (k:=(x:Int)) (intKind_is _ _ _ _) ?_);rw[l9 hx];generalize hs':({ s with toks:=s.toks+1 }:Shared)=s1;have e1:s1.heap=s.heap:=by rw[←hs']
 have hs1:∀hh':Heap,({ s1 with heap:=hh' }:Shared)={ s with heap:=hh',toks:=s1.toks }:=fun hh'=>by rw[←hs']
 have ho1:s1.heap.get? S=some { cls:=.type "set",dict:=none,data:=.set es ep (tb led L) }:=by rw[e1];exact ho
 have hf:(tb led L).fits es.size=true:=by rw[he.size];exact(lW L hL led (dq led)).1
 have hel:=he.elems (prog:=prog) (w:=w) hL;have h6:=(jN L hL).2.1;have hbd:es.size<scanBound:=by rw[he.size];unfold scanBound;omega
 have scan:∀{Q':ScanMet->Shared->Prop},Q' (match es.toList.findIdx? (fun e=>(intKind prog w).is ((x:Nat):Int) e.2)with | some j=>.found (0+j) | none=>.absent) s1->wpAny (model prog w) A (setScan S (.int ((x:Nat):Int) tk) ((x:Nat):Int) true es) Q' E s1:=by
  intro Q' hq;have:=wpAny_setScan_of (knd:=intKind prog w) (adding:=true) (x:=.int ((x:Nat):Int) tk) (k:=((x:Nat):Int)) (A:=A) (E:=E) (Q:=Q') (intKind_is _ _ _ _) ho1 rfl hf hel hq
  rwa [l9 hx]at this
 unfold setAddHashed setAddHashedIn;refine JT (IC (Kz ho1 rfl hf ?_));dsimp only;rw[byScan_of (knd:=intKind prog w) rfl hbd hel];simp only[↓reduceIte];unfold setAddByScan;refine IC ?_;refine IC (wpAny_rule ?_);refine IC (scan ?_);cases hr:List.findIdx? (fun e=>(intKind prog w).is ((x:Nat):Int) e.2) es.toList with
 | some j =>
  dsimp only;obtain⟨hj,hpj,_⟩:=List.findIdx?_eq_some_iff_getElem.mp hr;obtain⟨y,hy,tk',ee⟩:=he.mem (Ju hj);have hxy:x=y:=by
   rw[ee]at hpj;have q:(intKind prog w).is ((x:Nat):Int) (.int ((y:Nat):Int) tk')=true:=hpj;have:=(intKind prog w).inj _ _ _ q (intKind_is _ _ _ _);omega
  subst hxy;refine IH (IH ?_);have:=h false s.heap s1.toks (Heap.SameBut.refl S s.heap) (by rw[IZ hy];exact hP);have e:s1={ s with heap:=s.heap,toks:=s1.toks }:=by rw[←hs1];cases s1;simp only at e1;rw[e1]
  rw[e];exact this
 | none =>
  dsimp only;have hn:x∉L:=fun hm=>by
   obtain⟨tk',hm'⟩:=he.of hm;have:=List.findIdx?_eq_none_iff.mp hr _ hm';have q:(intKind prog w).is ((x:Nat):Int) (.int ((x:Nat):Int) tk')=true:=intKind_is _ _ _ _;have this':(intKind prog w).is ((x:Nat):Int) (.int ((x:Nat):Int) tk')=false:=this;rw[q]at this';cases this'
  obtain⟨f1,f2⟩:=F6 led (dq led) L hL x (Jn.mpr hx) hn;obtain⟨f3,f4⟩:=Fd led (dq led) L hL x (Jn.mpr hx) hn;have hins:=(jN L hL).2.2.2 x (Jn.mpr hx) hn;have hin2:=he.ins x tk;have hsz2:=hin2.size;have hln:(ins L x).length=L.length+1:=by unfold ins;simp only[II,Jg,JA,KR];omega
  have hlay:layNew (tb led L) es ((x:Nat):Int) (.int ((x:Nat):Int) tk)=(SetTable.insertAt es (pos L x) (ent x tk),tp led L x,false,false):=by
   unfold layNew;rw[f1];dsimp only;rw[f2];dsimp only;have e2:(tp led L x).fits (SetTable.insertAt es (pos L x) (ent x tk)).size=true:=by rw[hsz2];exact f3
   show(SetTable.insertAt es (pos L x) (ent x tk),(tp led L x).orStandIn (SetTable.insertAt es (pos L x) (ent x tk)).size,false,!(tp led L x).fits (SetTable.insertAt es (pos L x) (ent x tk)).size)=_;unfold SetTable.orStandIn;rw[IZ e2,e2];rfl
  rw[hlay];dsimp only;refine IC (IH ?_);have hpl:(tp led L x).plain=true:=rfl;rw[hpl];simp only[↓reduceIte];refine IC ?_;rw[hashByValue_scannable 8 (x:=.int ((x:Nat):Int) tk) rfl];refine IH ?_;have hpk:plainKind (.int ((x:Nat):Int) tk)=true:=rfl;rw[hpk];simp only[↓reduceIte];have hz:(SetTable.insertAt es (pos L x) (ent x tk)).size≤sizeLine:=by rw[hsz2,hln,Jt];omega
  refine IC (wpAny_storeSet_of ho1 rfl ?_ hz);have hg:(s1.heap.update S (Obj.putSet (SetTable.insertAt es (pos L x) (ent x tk)) (tp led L x))).get? S=some { cls:=.type "set",dict:=none,data:=.set (SetTable.insertAt es (pos L x) (ent x tk)) (ep+1) (tp led L x) } :=
   JX _ ho1 rfl
  have sb1:Heap.SameBut S s.heap (s1.heap.update S (Obj.putSet (SetTable.insertAt es (pos L x) (ent x tk)) (tp led L x))):=by rw[e1];exact J1 ..
  by_cases h4:L.length=4
  ·rw[IZ h4]at f4;rw[f4.1];simp only[Bool.not_false,Bool.and_self,↓reduceIte];have hw:SetTable.grown (SetTable.insertAt es (pos L x) (ent x tk)).size=20:=by rw[hsz2,hln,h4];rfl
   have hmp:(SetTable.insertAt es (pos L x) (ent x tk)).map (·.1)=((ins L x).map Int.ofNat).toArray:=by
    obtain⟨tks,q1,q2⟩:=hin2;apply Array.toList_inj.mp;rw[Array.toList_map,q2];have gen:∀(L:List Nat) (tks:List Tok),tks.length=L.length->(List.zipWith ent L tks).map (·.1)=L.map Int.ofNat:=by
     intro L
     induction L with
     | nil=>intro tks _;rfl
     | cons a L ih =>
      intro tks hl;cases tks with
      | nil=>simp at hl
      | cons b tks=>simp only[List.zipWith_cons_cons,Jb,ih tks (by simpa using hl)];rfl
    exact gen _ _ q1
   have h5:(SetTable.insertAt es (pos L x) (ent x tk)).size=5:=by rw[hsz2,hln,h4]
   have hrl:relayAll (tp led L x) (SetTable.insertAt es (pos L x) (ent x tk)) (SetTable.grown (SetTable.insertAt es (pos L x) (ent x tk)).size)=(SetTable.insertAt es (pos L x) (ent x tk),tb led (ins L x),false):=by
    unfold relayAll;rw[hw,hmp,f4.2];dsimp only;rw[nM _ h5];have c1:coversAll #[0,1,2,3,4] (SetTable.insertAt es (pos L x) (ent x tk)).size=true:=by rw[h5];decide +kernel
    have c2:(tb led (ins L x)).fits (SetTable.insertAt es (pos L x) (ent x tk)).size=true:=by rw[hsz2];exact(lW _ hins led (dq led)).1
    rw[c1,c2];rfl
   rw[hrl];dsimp only;refine IC (IH ?_);refine IC (wpAny_storeSet_of hg rfl ?_ hz);have hg3:=JX (Obj.putSet (SetTable.insertAt es (pos L x) (ent x tk)) (tb led (ins L x))) hg rfl;refine IH (IH ?_);rw[hs1];refine h true _ _ (sb1.trans (J1 ..)) ?_;rw[IX hn];exact⟨hins,_,_,hg3,hin2⟩
  ·rw[IX h4]at f4;rw[f4.1];simp only[Bool.not_false,Bool.and_false,Kr,↓reduceIte];refine IH (IH ?_);rw[hs1];refine h true _ _ sb1 ?_;rw[IX hn];rw[f4.2]at hg;rw[f4.2];exact⟨hins,_,_,hg,hin2⟩
end
end SI
namespace SI
theorem slot_next:Slot "set_iterator" "__next__" "set_iterator.__next__":=.of (owner:="set_iterator") (n:="__next__") (by rw[typeLookup_type,KD];kernel_rfl) (by decide +kernel) (by decide +kernel) (by decide +kernel) (by first | exact .inl (by decide +kernel) | exact .inr (by decide +kernel)) (by rw[KZ];kernel_rfl)
theorem o8:Slot "set_iterator" "__iter__" "set_iterator.__iter__":=.of (owner:="set_iterator") (n:="__iter__") (by rw[typeLookup_type,KD];kernel_rfl) (by decide +kernel) (by decide +kernel) (by decide +kernel) (by first | exact .inl (by decide +kernel) | exact .inr (by decide +kernel)) (by rw[KZ];kernel_rfl)
theorem entry_next:entryFor table "set_iterator.__next__"=some Builtin.«set_iterator.__next__»:=entryFor_of_tree (by kernel_rfl)
theorem uP:entryFor table "set_iterator.__iter__"=some Builtin.«dict_keyiterator.__iter__»:=entryFor_alias (id':="dict_keyiterator.__iter__") (by kernel_rfl) rfl (by decide +kernel) (by kernel_rfl)
theorem oN:entryFor table "set.__iter__"=some Builtin.«frozenset.__iter__»:=entryFor_alias (id':="frozenset.__iter__") (by kernel_rfl) rfl (by decide +kernel) (by kernel_rfl)
theorem jk{α:Type}:∀(l:List α) (i:Nat) (h:i<l.length),(l[i]::l.eraseIdx i).Perm l
 | x::l,0,_=>Kn _
 | x::l,i+1,h=>by
  have ih:=jk l i (by simpa using h);have h':i<l.length:=by simpa using h
  show(l[i]::x::l.eraseIdx i).Perm (x::l);exact(List.Perm.swap _ _ _).trans (ih.cons x)
theorem args_next(a:Value):argsOk "set_iterator.__next__" ⟨[a],[]⟩:=by unfold argsOk;kernel_rfl
theorem wB(a:Value):argsOk "set_iterator.__iter__" ⟨[a],[]⟩:=by unfold argsOk;kernel_rfl
def oT(h:Heap)(it S:Addr)(k i n ep:Nat):Prop:=h.get? it=some { cls:=.type "set_iterator",data:=.fields #[.int k 0,.int i 0,.ref S,.int n 0,.int ep 0] }
theorem oT.ty{s:Shared}(h:oT s.heap it S k i n ep):s.TypeIs (.ref it) "set_iterator":=⟨_,h,rfl⟩
theorem eE{α:Type}(next:Nat->Nat):∀(f k:Nat) (l:List α) (out:Array α),f=l.length->(pickOrder.go next f k l out).toList.Perm (out.toList++l)
 | 0,k,l,out,h=>by
  have:l=[]:=Kd.mp h.symm;subst this;show out.toList.Perm _;rw[Ji]
 | f+1,k,l,out,h=>by
  have hlt:next k % l.length<l.length:=Nat.mod_lt _ (by omega)
  unfold pickOrder.go;rw[ID hlt];dsimp only;refine(eE next f (k+1) _ _ (by rw[List.length_eraseIdx_of_lt hlt];omega)).trans ?_;rw[Array.toList_push,Ka];refine List.Perm.append_left _ ?_;exact jk l _ hlt
def walk(w:World)(S:Addr)(es:Array (Int×Value))(ep:Nat):Array (Int×Value):=if w.params.followText "set-order"=true then pickOrder (w.params.setOrder S ep) es else es
theorem kq(w:World)(S:Addr)(es:Array (Int×Value))(ep:Nat):(walk w S es ep).toList.Perm es.toList:=by
 unfold walk;split
 ·have:=eE (w.params.setOrder S ep) es.size 0 es.toList #[] (by simp);simpa[pickOrder]using this
 ·exact Kn _
theorem eo(w:World)(S:Addr)(es:Array (Int×Value))(ep:Nat):(walk w S es ep).size=es.size:=by
 have:=(kq w S es ep).length_eq;simpa using this
def slotAt(w:World)(L:List Nat)(i:Nat):Nat:=if w.params.followText "set-order"=true then 0 else if i=0 then 0 else L.getD (i - 1) 0+1
section
variable {prog:Program}{w:World}{A:Around}{E:Value->Shared->Prop}{s:Shared}
def bB(w:World):Bool:=!w.params.followText "set-order"
theorem below_at(hL:L∈subs)(hb:¬w.params.followText "set-order"=true){i:Nat}(hi:i≤L.length):SetTable.below L.toArray (slotAt w L i)=i:=by
 unfold slotAt;rw[IX hb];obtain⟨_,a,b⟩:=lW L hL true (by simp);cases i with
 | zero=>exact a
 | succ i =>
  rw[IX (by omega)];exact b i (Jn.mpr (by omega))
theorem sg(hL:L∈subs)(ho:s.heap.get? S=some { cls:=.type "set",dict:=none,data:=.set es ep (tb (bB w) L) })(he:c7 es L)
  (hQ:Q (.ref s.heap.objs.size) { s with heap:=s.heap.push { cls:=.type "set_iterator",data:=.fields #[.int 0 0,.int 0 0,.ref S,.int es.size 0,.int ep 0] } }):wpAny (model prog w) A (pyIter (.ref S)) Q E s:=by
 have ty:s.TypeIs (.ref S) "set":=⟨_,ho,rfl⟩;have hf:(tb (bB w) L).fits es.size=true:=by rw[he.size];exact(lW L hL _ (dq _)).1
 refine wpAny_pyIter_slot ty F.slot_set_iter (J4 F.slot_set_iter ty oN ?_ (F.args_set_iter_1 _));unfold Builtin.«frozenset.__iter__» Builtin.Frozenset.slot0;refine IC (IC (IH (IH ?_)));unfold Builtin.Frozenset.sizeOf;refine IC (IC (wpAny_setEntries_of ho rfl hf (IH ?_)));unfold setDrawn setsByText;refine IC (IC (Kz ho rfl hf ?_));dsimp only;refine IC (IC (wpAny_askSetting (IH (IH ?_))));refine KL (fun hx=>?_) (fun _=>IC (IH ?_))
 ·exfalso;have hx':(!(w.params.followText "set-order")&&(!(tb (bB w) L).plain&&decide (es.size>1)))=true:=hx;have hp:(tb (bB w) L).plain=true:=rfl;rw[hp]at hx';simp at hx'
 ·refine IC (wpAny_setEpoch_of ho rfl hf ?_);simp only[newFields];refine IC (JI (IH ⟨_,rfl,"set_iterator",_,⟨_,IT _ rfl,rfl⟩,slot_next.lookup,?_⟩));exact hQ
theorem nE(hL:L∈subs)(ho:s.heap.get? S=some { cls:=.type "set",dict:=none,data:=.set es ep (tb (bB w) L) })(he:c7 es L)(hi:i≤es.size)
  (hq:Q' (((walk w S es ep)[i]?).map fun e=>(e.2,slotAt w L (i+1))) s):wpAny (model prog w) A (setNext S (slotAt w L i) i ep) Q' E s:=by
 have hf:(tb (bB w) L).fits es.size=true:=by rw[he.size];exact(lW L hL _ (dq _)).1
 unfold setNext;refine IC (Kz ho rfl hf ?_);dsimp only;unfold setsByText;refine IC (IC (wpAny_askSetting (IH ?_)));refine KL (fun hb=>?_) (fun hb=>?_)
 ·have hb':w.params.followText "set-order"=true:=hb;refine KL (fun hx=>absurd hx (by simp)) (fun _=>?_);unfold setWalk setsByText;refine IC (IC (Kz ho rfl hf ?_));dsimp only;refine IC (IC (wpAny_askSetting (IH ?_)));refine KL (fun _=>?_) (fun hc=>absurd hb hc);refine IC (wpAny_askSetting (IH (IH ?_)));unfold walk slotAt at hq;rw[IZ hb',IZ hb']at hq;unfold slotAt;rw[IZ hb'];exact hq
 ·have hb':¬w.params.followText "set-order"=true:=hb;refine KL (fun hx=>?_) (fun _=>?_)
  ·exfalso;have hx':(!(tb (bB w) L).plain&&decide (es.size>1))=true:=hx;have hp:(tb (bB w) L).plain=true:=rfl;rw[hp]at hx';simp at hx'
  ·have hled:bB w=true:=by unfold bB;simpa using hb'
   refine IC ?_;refine(show wpAny (model prog w) A (if (!(tb (bB w) L).led&&!es.isEmpty)=true then unsupported "set:maker-not-led" else pure ()) _ E s from ?_);refine KL (fun hx=>?_) (fun _=>IH (IH ?_))
   ·exfalso;have hl2:(tb (bB w) L).led=true:=hled;rw[hl2]at hx;simp at hx
   ·have hbl:=below_at (w:=w) hL hb' (i:=i) (by rw[←he.size];exact hi);have hpl:(tb (bB w) L).place=L.toArray:=rfl;rw[hpl,hbl];unfold walk at hq;rw[IX hb']at hq;by_cases hlt:i<es.size
    ·have hlt2:i<L.length:=by rw[←he.size];exact hlt
     rw[Je hlt]at hq ⊢;have e2:L.toArray[i]?=some L[i]:=by simp[hlt2]
     rw[e2];unfold slotAt at hq;rw[IX hb',IX (by omega),Nat.add_sub_cancel,IE,ID hlt2]at hq;exact hq
    ·rw[KP (by omega)]at hq ⊢;exact hq
theorem next_item{it S:Addr}{L:List Nat}{es:Array (Int×Value)}{ep i:Nat}{e:Int×Value}{Q:Option Value->Shared->Prop}(hL:L∈subs)(ho:s.heap.get? S=some { cls:=.type "set",dict:=none,data:=.set es ep (tb (bB w) L) })(he:c7 es L)
  (hit:oT s.heap it S (slotAt w L i) i es.size ep) (hx:(walk w S es ep)[i]?=some e)
  (hQ:∀h',oT h' it S (slotAt w L (i+1)) (i+1) es.size ep->Heap.SameBut it s.heap h'->Q (some e.2) { s with heap:=h' }):wpAny (model prog w) A (pyNext (.ref it)) Q E s:=by
 have hf:(tb (bB w) L).fits es.size=true:=by rw[he.size];exact(lW L hL _ (dq _)).1
 have hi:i<es.size:=by
  rw[←eo w S es ep];exact(Array.getElem?_eq_some_iff.mp hx).1
 unfold pyNext;refine IC (wpAny_attempt (Kt (name:=Str.ofString "__next__") hit.ty slot_next (J4 slot_next hit.ty entry_next ?_ (args_next _))));unfold Builtin.«set_iterator.__next__»;refine IC (IH ?_);refine IC (wpAny_fieldsOf hit rfl ?_);dsimp only;refine IC (wpAny_setEntries_of ho rfl hf ?_);rw[IX (by simp)];simp only[Jq];refine IC (nE hL ho he (by omega) ?_);rw[hx];dsimp only[Option.map_some];refine IC (wpAny_setField hit rfl (by simp) ?_);have h1:=JX (Obj.mapFields (·.setIfInBounds 0 (rawInt ((slotAt w L (i+1):Nat):Int)))) hit rfl;refine IC (wpAny_setField h1 rfl (by simp[Obj.mapFields]) ?_);have h2:=JX (Obj.mapFields (·.setIfInBounds 1 (rawInt ((i:Nat)+1:Int)))) h1 rfl;refine IH ⟨_,rfl,IH (hQ _ ?_ ((J1 ..).trans (J1 ..)))⟩;exact h2
theorem next_end{it S:Addr}{L:List Nat}{es:Array (Int×Value)}{ep:Nat}{Q:Option Value->Shared->Prop}(hh:A.handled=none)(hL:L∈subs)(ho:s.heap.get? S=some { cls:=.type "set",dict:=none,data:=.set es ep (tb (bB w) L) })(he:c7 es L)
  (hit:oT s.heap it S (slotAt w L es.size) es.size es.size ep) (hQ:∀h',Heap.ExtBut it s.heap h'->Q none { s with heap:=h' }):wpAny (model prog w) A (pyNext (.ref it)) Q E s:=by
 have hf:(tb (bB w) L).fits es.size=true:=by rw[he.size];exact(lW L hL _ (dq _)).1
 unfold pyNext;refine IC (wpAny_attempt (Kt (name:=Str.ofString "__next__") hit.ty slot_next (J4 slot_next hit.ty entry_next ?_ (args_next _))));unfold Builtin.«set_iterator.__next__»;refine IC (IH ?_);refine IC (wpAny_fieldsOf hit rfl ?_);dsimp only;refine IC (wpAny_setEntries_of ho rfl hf ?_);rw[IX (by simp)];simp only[Jq];refine IC (nE hL ho he (IS _) ?_);rw[KP (by rw[eo];exact IS _)];dsimp only[Option.map_none];refine IC (wpAny_setField hit rfl (by simp) ?_);refine IC ?_;simp only[newExc,newTuple];refine IC (JI (IC (m:=firstArgMember _ _) (wpAny_of_eq (a:=Value.none) (by first | rfl |(simp only[firstArgMember];rfl)) (JI ?_ (by size_fits)))) (by size_fits));simp only[raiseNew];refine IC (wpAny_handled ?_);have hh1:A.in1.handled=none:=hh;rw[hh1];refine IC (IH (wpAny_throw ?_));refine IC (wpAny_isInstance (T:="StopIteration") (b:=true) ⟨_,IT _ rfl,rfl⟩ isSubtype_stop (IH (hQ _ (((J1 ..).extBut.push _).push _))))
theorem qF(hh:A.handled=none){I S:Addr}{L:List Nat}{es:Array (Int×Value)}{ep:Nat}(hne:S≠I)(hL:L∈subs)(he:c7 es L) :
  Walks prog w A I [I,S] [I] es.size (fun i v=>∃e,(walk w S es ep)[i]?=some e/\v=e.2) (fun i h=>oT h I S (slotAt w L i) i es.size ep/\h.get? S=some { cls:=.type "set",dict:=none,data:=.set es ep (tb (bB w) L) }) where
 sub:=fun b hb=>by simp at hb;simp[hb]
 frame:=fun _ _ _ st hk=>⟨hk I (by simp) _ st.1,hk S (by simp) _ st.2⟩
 item:=fun i s Q E hi st hQ=>by
  have hw:i<(walk w S es ep).size:=by rw[eo];exact hi
  have hx:(walk w S es ep)[i]?=some (walk w S es ep)[i]:=Je hw;refine next_item hL st.2 he st.1 hx fun h' it' sb=>?_;exact hQ _ h' s.toks ⟨_,hx,rfl⟩ ⟨it',sb.extBut S _ hne st.2⟩ fun b o hb e=>sb.extBut b o (fun h=>hb (by simp[h])) e
 done:=fun s Q E st hQ=>next_end hh hL st.2 he st.1 fun h' eb=>hQ h' s.toks fun b o hb e=>eb b o (fun h=>hb (by simp[h])) e
 self:=fun i s Q E st hQ=>by
  refine wpAny_pyIter_slot st.1.ty o8 (J4 o8 st.1.ty uP ?_ (wB _));show wpAny _ _ (ret (.ref I)) _ _ s;exact IH ⟨_,rfl,"set_iterator",_,st.1.ty,slot_next.lookup,hQ⟩
def add(L:List Nat)(x:Nat):List Nat:=if x∈L then L else ins L x
def lof(ns:List Nat):List Nat:=ns.foldl add []
theorem xx:y∈ins L x↔y=x∨y∈L:=by
 unfold ins;rw[IU,IY];have:y∈L↔y∈L.take (pos L x)∨y∈L.drop (pos L x):=by
  rw[←IU,List.take_append_drop]
 rw[this];constructor
 ·rintro(h | h | h)
  ·exact .inr (.inl h)
  ·exact .inl h
  ·exact .inr (.inr h)
 ·rintro(h | h | h)
  ·exact .inr (.inl h)
  ·exact .inl h
  ·exact .inr (.inr h)
theorem we:y∈add L x↔y=x∨y∈L:=by
 unfold add;split
 ·rename_i h;exact⟨.inr,fun q=>q.elim (fun e=>e▸h) id⟩
 ·exact xx
theorem r9(hL:L∈subs)(hx:x<6):add L x∈subs:=by
 unfold add;split
 ·exact hL
 ·rename_i h;exact(jN L hL).2.2.2 x (Jn.mpr hx) h
theorem m5{y:Nat}:∀(ns L:List Nat),y∈ns.foldl add L↔y∈ns∨y∈L
 | [],L=>by simp
 | n::ns,L=>by
  rw[List.foldl_cons,m5 ns,we,IY];constructor
  ·rintro(h | h | h)
   ·exact .inl (.inr h)
   ·exact .inl (.inl h)
   ·exact .inr h
  ·rintro((h | h) | h)
   ·exact .inr (.inl h)
   ·exact .inl h
   ·exact .inr (.inr h)
theorem jW:∀(ns L:List Nat),L∈subs->(∀n∈ns,n<6)->ns.foldl add L∈subs
 | [],L,h,_=>h
 | n::ns,L,h,hn=>jW ns _ (r9 h (hn n IK)) fun m hm=>hn m (IJ _ hm)
theorem mS:[]∈subs:=by decide +kernel
theorem nA(h:∀n∈ns,n<6):lof ns∈subs:=jW ns [] mS h
theorem pC:y∈lof ns↔y∈ns:=by
 unfold lof;rw[m5];simp
theorem sy{ns:List Nat}(h:i<ns.length):lof (ns.take (i+1))=add (lof (ns.take i)) ns[i]:=by
 unfold lof;rw[Kb,ID h,K3];rfl
end
end SI
namespace SI
section
variable {prog:Program}{w:World}{A:Around}{E:Value->Shared->Prop}{s:Shared}
def uD(vs:List Value)(ns:List Nat):Prop:=vs.length=ns.length/\∀(i:Nat) (v:Value),vs[i]?=some v->∃tk,v=Value.int ((ns.getD i 0:Nat):Int) tk
theorem Dw(hh:A.in1.handled=none)(hT:uD vs ns)(hin:∀n∈ns,n<6)(hSI:S≠I)(hSl:S≠l)(hlI:l≠I) :
  ∀(k i:Nat) (s:Shared),ns.length - i=k->i≤ns.length->s.heap.IsListIter I l i->s.heap.IsList l vs.toArray->jL s.heap S led (lof (ns.take i)) ->
   (∀h' tk,(∀b o,b≠S->b≠I->s.heap.get? b=some o->h'.get? b=some o)->jL h' S led (lof ns)->R (.ok (.ret .none)) { s with heap:=h',toks:=tk }) ->
   codeAny (model prog w) A (.builtin "set.update.loop" ⟨[.ref S,.ref I],[]⟩) R s:=by
 intro k
 induction k with
 | zero =>
  intro i s hk hi hit hl hP hR;have e:i=ns.length:=by omega
  subst e;rw[Jv]at hP;refine Kh F.entry_set_update_loop ?_;rw[J6 Kv _];show wpAny _ A.in1 (pyNext (.ref I) >>= _) _ _ s;refine IC (wpAny_pyNext_list_end hh hit hl (by simp[hT.1]) fun h' eb=>?_);show wpAny _ A.in1 (ret Value.none) _ _ _;refine IH (hR h' s.toks (fun b o _ hb e=>eb b o hb e) ?_);obtain⟨hL,es,ep,ho,r⟩:=hP.is;exact⟨hL,es,ep,eb S _ hSI ho,r⟩
 | succ k ih =>
  intro i s hk hi hit hl hP hR;have hlt:i<ns.length:=by omega
  have hvl:i<vs.length:=by rw[hT.1];exact hlt
  have hvi:vs[i]?=some vs[i]:=ID hvl;obtain⟨tk,ev⟩:=hT.2 i _ hvi;have en:ns.getD i 0=ns[i]:=by rw[IE,ID hlt];rfl
  rw[en]at ev;refine Kh F.entry_set_update_loop ?_;rw[J6 Kv _];show wpAny _ A.in1 (pyNext (.ref I) >>= _) _ _ s;refine IC (wpAny_pyNext_list_item hit hl (x:=Value.int ((ns[i]:Nat):Int) tk) (by rw[←ev];simp) fun h1 hit1 sb1=>?_);have k1:∀b o,b≠I->s.heap.get? b=some o->h1.get? b=some o:=fun b o hb e=>sb1.extBut b o hb e;have hP1:jL h1 S led (lof (ns.take i)):=by
   obtain⟨hL,es,epo,ho,r⟩:=hP.is;exact⟨hL,es,epo,k1 S _ hSI ho,r⟩
  show wpAny _ A.in1 (holding [Value.int ((ns[i]:Nat):Int) tk] (setAdd S (Value.int ((ns[i]:Nat):Int) tk)) >>= _) _ _ _;refine IC (JT (ox (A:=A.in1) hP1 (hin _ (Ju hlt)) fun b h2 tk2 sb2 hP2=>?_));have k2:∀b o,b≠S->h1.get? b=some o->h2.get? b=some o:=fun b o hb e=>sb2.extBut b o hb e;have hP3:jL h2 S led (lof (ns.take (i+1))):=by rw[sy hlt];exact hP2
  refine IH ⟨plainId_quiet Kv _,ih (i+1) { s with heap:=h2,toks:=tk2 } (by omega) (by omega) (hit1.extBut (fun b o hb e=>k2 b o hb e) (Ne.symm hSI)) ?_ hP3 ?_⟩
  ·exact(hl.extBut (fun b o hb e=>k1 b o hb e) hlI).extBut (fun b o hb e=>k2 b o hb e) (Ne.symm hSl)
  ·intro h3 tk3 kp hP4;exact hR h3 tk3 (fun b o hb hb' e=>kp b o hb hb' (k2 b o hb (k1 b o hb' e))) hP4
theorem wc(a:Value){Q₁:Value->Shared->Prop}(h:Q₁ (.ref s.heap.objs.size) { s with heap:=s.heap.push { cls:=.type "set",dict:=none,data:=.set #[] 0 (.fresh 0 0 (bB w)) } }) :
  codeAny (model prog w) A (.call (.builtin "set.__new__") ⟨[.type "set",a],[]⟩) (wants Q₁ E) s:=by
 refine codeAny_of_tree ?_;show wpAny (model prog w) A.in1 (do checkBuiltinCall "set.__new__" ⟨[.type "set",a],[]⟩;again (.builtin "set.__new__" ⟨[.type "set",a],[]⟩)) _ _ _;refine IC (wpAny_of_eq (F.newCall_set_1 a) (IH ⟨plainId_quiet F.plain_set_new _,?_⟩));refine Kh F.entry_set_new ?_;rw[J6 F.plain_set_new _];unfold Builtin.«set.__new__»;unfold Builtin.Frozenset.newClass;have sub1:=sub_set_self;obtain⟨hp,g,d,tk,os⟩:=s;dsimp only
 wp_walk
 refine wpAny_askSetting (IH ?_);dsimp only;simp only[newObj];refine IC (wpAny_alloc (IH (IH ?_)));exact h
set_option maxHeartbeats 4000000 in
theorem jJ(hh:A.handled=none)(hl:s.heap.IsList l vs.toArray)(hT:uD vs ns)(hin:∀n∈ns,n<6)
  (h:∀h' tk,(∀b o,b<s.heap.objs.size->s.heap.get? b=some o->h'.get? b=some o)->jL h' s.heap.objs.size (bB w) (lof ns)->Q (.ref s.heap.objs.size) { s with heap:=h',toks:=tk }) :
  wpAny (model prog w) A (call (.type "set") [.ref l]) Q E s:=by
 obtain⟨c0,tl0,mro0⟩:=F.called_set.mro;have made0:=F.called_set.made;have sub0:=F.called_set.sub;have nt0:=F.called_set.notType;have cc0:=F.called_set.canCreate;have tc0:=F.typeCall_set_1 (.ref l);refine wpAny_call (codeAny_of_tree ?_);show wpAny (model prog w) _ (callAny (.type "set") _) _ _ _;refine IH ⟨Code.quiet_builtin _ (by decide +kernel),Kh F.entry_type_call ?_⟩;rw[Around.under_plain (weight_type_call_type "set" [.ref l] []) rfl]
 repeat (any_goals (first | assumption | wp_step))
 refine KO (wc (.ref l) (E:=E) (Q₁:=fun obj s1=>obj=.ref s.heap.objs.size /\
  s1={ s with heap:=s.heap.push { cls:=.type "set",dict:=none,data:=.set #[] 0 (.fresh 0 0 (bB w)) } }) ⟨rfl,rfl⟩) fun r s1 hr=>?_
 cases r with
 | error e=>exact hr
 | ok fl =>
  cases fl with
  | ret obj =>
   obtain⟨rfl,rfl⟩:=hr;generalize hH:s.heap.push { cls:=.type "set",dict:=none,data:=.set #[] 0 (.fresh 0 0 (bB w)) }=H1;have hS:H1.get? s.heap.objs.size=some { cls:=.type "set",dict:=none,data:=.set #[] 0 (.fresh 0 0 (bB w)) }:=by rw[←hH];exact IT _ rfl
   have old:∀b o,s.heap.get? b=some o->H1.get? b=some o:=fun b o e=>by rw[←hH];exact IG _ e
   have hsz:H1.objs.size=s.heap.objs.size+1:=by rw[←hH,Heap.size_push]
   have tyS:Shared.TypeIs { s with heap:=H1 } (.ref s.heap.objs.size) "set":=⟨_,hS,rfl⟩;have li0:=F.called_set.init.lookup;have bi0:=F.called_set.init.bind (.ref s.heap.objs.size)
   repeat (any_goals (first | assumption | wp_step))
   refine KO (codeAny_call_builtin (R:=wants (fun r s2=>r=.none/\∃h' tk,s2={ s with heap:=h',toks:=tk }/\jL h' s.heap.objs.size (bB w) (lof ns) /\
    (∀b o,b<s.heap.objs.size->s.heap.get? b=some o->h'.get? b=some o)) E) F.called_set.init.plain F.entry_set_init (check_set_init_1 tyS ?_)) fun r2 s2 hr2=>?_
   ·obtain⟨ol,hol,hcl,nl,hdl⟩:=hl;obtain⟨oc,od,oda,osl⟩:=ol;simp only at hcl hdl;subst hcl;subst hdl;have hol1:H1.get? l=some { cls:=.type "list",dict:=od,data:=.seq vs.toArray nl,slots:=osl }:=old _ _ hol;have sls:=F.sub_list_set;have slf:=F.sub_list_frozenset;have nld:(Value.type "list"==Value.type "dict")=false:=by decide
    have hl1:H1.IsList l vs.toArray:=⟨_,hol1,rfl,nl,rfl⟩;have llt:l<s.heap.objs.size:=IQ hol;unfold Builtin.«set.__init__» noKeywords Builtin.Frozenset.updateFrom;generalize hPI:pyIter=PI
    wp_walk
    subst hPI;refine wpAny_pyIter_list hl1 ?_;refine IC (wpAny_runValue ?_);generalize hH2:H1.push { cls:=.type "list_iterator",data:=.fields #[.ref l,.int 0 0] }=H2;have old2:∀b o,H1.get? b=some o->H2.get? b=some o:=fun b o e=>by rw[←hH2];exact IG _ e
    refine Dw (l:=l) (ns:=ns) (vs:=vs) (led:=bB w) (by simp[hh]) hT hin (by show s.heap.objs.size≠H1.objs.size;rw[hsz];exact Jc (Nat.lt_succ_self _)) (K6 llt) (by show l≠H1.objs.size;rw[hsz];exact Jc (J5 llt)) ns.length 0 _ (by omega) (JW _) ?_ ?_ ?_ ?_
    ·rw[←hH2];exact⟨_,IT _ rfl,rfl,rfl⟩
    ·exact⟨_,old2 _ _ hol1,rfl,nl,rfl⟩
    ·refine⟨mS,#[],0,old2 _ _ hS,[],rfl,rfl⟩
    ·intro h' tk kp hP;show wpAny _ _ (pure ()) _ _ _;refine IH ?_;show wpAny _ _ (ret Value.none) _ _ _;refine IH ⟨rfl,h',tk,rfl,hP,fun b o hb e=>?_⟩;refine kp b o (Jc hb) ?_ (old2 _ _ (old _ _ e));show b≠H1.objs.size;rw[hsz];exact Jc (J5 hb)
   ·cases r2 with
    | error e=>exact hr2
    | ok f2 =>
     cases f2 with
     | ret r =>
      obtain⟨rfl,h',tk,rfl,hP,hk⟩:=hr2
      repeat (any_goals (first | assumption | wp_step))
      exact h _ _ hk hP
     | _=>exact hr2.elim
  | _=>exact hr.elim
theorem sJ(hT:s.TypeIs (.ref r) "set")(h:Q false s):wpAny (model prog w) A (Builtin.List.listLengthHint (.ref r)) Q E s:=by
 unfold Builtin.List.listLengthHint;refine IC (wpAny_specialOf hT PySem.F.slot_set_len.lookup ?_);generalize hid:("set.__len__":String)=id0
 wp_delta
 rw[show splitId id0=some ("set","__len__")from by subst hid;decide +kernel];subst hid;refine IC (wpAny_isInstance (T:="set") (b:=true) hT (by rw[KZ];kernel_rfl) (KL (fun hab=>absurd hab (by decide)) (fun _=>KL (fun _=>?_) (fun hab=>absurd (by decide +kernel) hab))));exact IC (wpAny_typeOf hT (IH h))
theorem v8(hL:L∈subs)(he:c7 es L) :
  PySem.W.KdlSrc prog w "set" S S es.size (fun i v=>∃e,(walk w S es ep)[i]?=some e/\v=e.2) (fun h=>h.get? S=some { cls:=.type "set",dict:=none,data:=.set es ep (tb (bB w) L) }) where
 type:=fun s ho=>⟨_,ho,rfl⟩
 there:=fun h ho=>⟨IQ ho,IQ ho⟩
 keep:=fun h h' ho k=>k S (.inl rfl) _ ho
 notList:=by decide
 notTuple:=by decide
 hint:=fun A E s Q ho q=>sJ ⟨_,ho,rfl⟩ q
 iter:=fun A s hh ho=>⟨_,_,fun E Q q=>sg hL ho he q,qF hh (Jc (IQ ho)) hL he,⟨by
  show oT _ _ _ (slotAt w L 0) 0 _ _;have:slotAt w L 0=0:=by unfold slotAt;split<;>rfl
  rw[this];exact IT _ rfl,IG _ ho⟩⟩
theorem mQ(hh:A.handled=none)(hL:L∈subs)(he:c7 es L)(ho:s.heap.get? S=some { cls:=.type "set",dict:=none,data:=.set es ep (tb (bB w) L) })
  (h:∀h' tk,s.heap.objs.size<h'.objs.size->(∀b o,s.heap.get? b=some o->h'.get? b=some o)->Q ((walk w S es ep).toList.map (·.2)) { s with heap:=h',toks:=tk }):wpAny (model prog w) A (collect (.ref S)) Q E s:=by
 have hlt:S<s.heap.objs.size:=IQ ho;have h6:=(jN L hL).2.1;generalize hN:s.heap.objs.size=N;have hNS:N≠S:=by rw[←hN];exact K6 hlt
 have key:∀R:Result->Shared->Prop,(∀h' tk acc c,(∀b o,s.heap.get? b=some o->h'.get? b=some o)->h'.get? N=some { cls:=.type "list",dict:=none,data:=.seq acc c,slots:=#[] } ->
   ItemsOf (fun i v=>∃e,(walk w S es ep)[i]?=some e/\v=e.2) acc es.size->R (.ok (.ret (.ref N))) { s with heap:=h',toks:=tk })->codeAny (model prog w) A (.builtin "proto.collect" ⟨[.ref S],[]⟩) R s:=by
  intro R hR;refine Kh PyProof.Rows.entry_proto_collect' ?_;rw[J6 PySem.F.plain_proto_collect _];show wpAny (model prog w) A.in1 (newList [] >>= fun l=>again (.builtin "list.__iadd__" ⟨[l,.ref S],[]⟩)) _ _ s;refine IC (JI ?_);refine IH ⟨plainId_quiet PySem.F.plain_list_iadd _,Kh PySem.F.entry_list_iadd ?_⟩;rw[J6 PySem.F.plain_list_iadd _];rw[hN];show wpAny (model prog w) A.in1 (Builtin.List.listExtendWith (.ref N) (.ref S) (.ref N)) _ _ _;have hS:(s.heap.push { cls:=.type "list",data:=.seq ([]:List Value).toArray }).get? N=some { cls:=.type "list",data:=.seq #[] 0 }:=by rw[←hN];exact IT _ rfl
  refine PySem.W.kdl_extend (s:={ s with heap:=s.heap.push { cls:=.type "list",data:=.seq ([]:List Value).toArray } }) (v8 (ep:=ep) hL he) (by simpa using hh) (IG _ ho) N hNS hNS (.ref N) 0 hS (fun h' tk acc c kp hS' hacc=>?_) (by rw[he.size,Jt];omega);exact hR h' tk acc c (fun b o q=>kp b o (by rw[←hN];exact Jc (IQ q)) (IG _ q)) hS' hacc
 unfold collect;refine IC (wpAny_runValue (key _ fun h' tk acc c kp hS' hacc=>?_));show wpAny (model prog w) A (load N >>= _) _ _ _;refine IC (wpAny_load hS' ?_);refine IH ?_;have e:acc.toList=(walk w S es ep).toList.map (·.2):=by
  apply List.ext_getElem?;intro j;by_cases hj:j<acc.size
  ·obtain⟨e,e1,e2⟩:=hacc.2 j _ (Je hj);rw[JR,Je hj,IV,JR,e1,e2];rfl
  ·have hz:(walk w S es ep).size≤j:=by rw[eo];have:=hacc.1;omega
   rw[JR,KP (by omega),IV,JR,KP hz];rfl
 show Q acc.toList _;rw[e];exact h h' tk (by rw[hN];exact IQ hS') kp
theorem oC(hh:A.handled=none)(hP:jL s.heap S (bB w) L)
  (h:∀(r:Addr) (h':Heap) (tk n:Nat) (out:List Value) (ms:List Int),s.heap.objs.size≤r->(∀b o,s.heap.get? b=some o->h'.get? b=some o)->h'.get? r=some (seqObj "list" out.toArray n)->IntsAre out ms->ms.Pairwise (·≤·)->ms.Perm (L.map fun(i:Nat)=>(i:Int))->Q (.ref r) { s with heap:=h',toks:=tk }) :
  wpAny (model prog w) A (call (.builtin "sorted") [.ref S]) Q E s:=by
 obtain⟨hL,es,ep,ho,he⟩:=hP.is;have h6:=(jN L hL).2.1;refine Calls.call_function_entry kind_sorted plain_sorted entry_sorted (args_sorted1 _) ?_;unfold Builtin.«sorted»;refine IC (m:=checkCount "sorted" 1 1 _) (IH ?_);refine IC (mQ (by simpa using hh) hL he ho fun h1 tk1 hgt k1=>?_);have hil:∃ns:List Int,IntsAre ((walk w S es ep).toList.map (·.2)) ns/\ns.Perm (L.map fun(i:Nat)=>(i:Int)):=by
  have hp:=kq w S es ep;obtain⟨tks,q1,q2⟩:=he;have gen:∀(l:List (Int×Value)),(∀e∈l,∃x tk,e=ent x tk)->IntsAre (l.map (·.2)) (l.map (·.1)):=by
   intro l
   induction l with
   | nil=>intro _;exact .nil
   | cons e l ih =>
    intro hm;obtain⟨x,tk,rfl⟩:=hm e IK;exact .cons _ _ (ih fun e he=>hm e (IJ _ he))
  refine⟨(walk w S es ep).toList.map (·.1),gen _ fun e hm=>?_,?_⟩
  ·obtain⟨x,_,tk,e⟩:=c7.mem ⟨tks,q1,q2⟩ (hp.mem_iff.mp hm);exact⟨x,tk,e⟩
  ·refine(hp.map _).trans ?_;rw[q2];have gen2:∀(L:List Nat) (tks:List Tok),tks.length=L.length->(List.zipWith ent L tks).map (·.1)=L.map fun(i:Nat)=>(i:Int):=by
    intro L
    induction L with
    | nil=>intro tks _;rfl
    | cons a L ih =>
     intro tks hl;cases tks with
     | nil=>simp at hl
     | cons b tks=>simp only[List.zipWith_cons_cons,Jb,ih tks (by simpa using hl)];rfl
   rw[gen2 L tks q1]
 obtain⟨ns,hi,hpm⟩:=hil;generalize (walk w S es ep).toList.map (·.2)=vs at hi ⊢;have hlen:vs.length=L.length:=by
  have a:=hpm.length_eq;have b:=IntsAre.length hi;rw[kb]at a;omega
 refine IC (wpAny_newList ?_ (by rw[hlen,Jt];omega));have hoL:(h1.push (seqObj "list" vs.toArray 0)).get? h1.objs.size=some (seqObj "list" vs.toArray 0):=IT _ rfl;show wpAny (model prog w) _ _ _ _ { s with heap:=h1.push (seqObj "list" vs.toArray 0),toks:=tk1 };refine IC (JT (J4 slot_list_sort ⟨_,hoL,rfl⟩ entry_list_sort (list_sort_tree hoL hi (by omega) fun out ms a1 a2 a3=>⟨_,rfl,?_⟩) (args_list_sort _)));refine IH ⟨_,rfl,?_⟩;obtain⟨e,he2⟩:=sortedHeap_at (out:=out) hoL;have hge:s.heap.objs.size≤h1.objs.size:=Nat.le_of_lt hgt;refine h h1.objs.size (sortedHeap (h1.push (seqObj "list" vs.toArray 0)) h1.objs.size vs out) tk1 e out.toList ms hge (fun b o q=>?_) (by simpa using he2) a1 a3 (a2.trans hpm);rw[sortedHeap_old (Jc (IQ (k1 b o q))) (by rw[Heap.size_push];exact J5 (IQ (k1 b o q)))];exact IG _ (k1 b o q)
end
end SI
namespace L2
variable {X:Cx}
def k3(w:World)(S:Addr)(L:List Nat):Heap->Prop:=fun h=>SI.jL h S (SI.bB w) L
def zX(n:Nat):V:=.int (n:Int)
theorem kj:∀{ns:List Nat} {us:List Value},Vals (ns.map zX) us->SI.uD us ns
 | [],_,.nil=>⟨rfl,fun i v h=>by simp at h⟩
 | n::ns,_,.cons r t=>by
  obtain⟨tk,rfl⟩:=r;obtain⟨a,b⟩:=kj t;refine⟨by simp[a],fun i v h=>?_⟩;cases i with
  | zero=>simp at h;exact⟨tk,h.symm⟩
  | succ i=>simpa using b i v (by simpa using h)
theorem jO(hc:X.calm=true):cf X (.type "set") (fun xs H Q=>∃(a:Addr) (ns:List Nat),xs=[.ref a]/\SqL X.K H a (ns.map zX)/\(∀n∈ns,n<6)/\∀S,H S=none->Q (.ref S) (upd H S (.ext (k3 X.w S (SI.lof ns))))):=by
 intro pins s σ H xs us Q I r h;obtain⟨a,ns,rfl,hq,hin,q⟩:=h;obtain⟨u,rfl,ru⟩:=Vals.one r;cases ru;obtain⟨its,rv,p,hz⟩:=I.list hq;refine SI.jJ (ns:=ns) (I.ok.hd hc) p.isList (kj rv) hin fun h' tk kp P=>?_;have hn:H s.heap.objs.size=none:=I.hok.fresh (IS _);refine⟨.ref s.heap.objs.size,_,I.laid (t':=tk) (o:=.ext (k3 X.w s.heap.objs.size (SI.lof ns))) (fun b o e=>kp b o (IQ e) e) (IS _) ?_,rfl,q _ hn⟩;obtain⟨hL,es,ep,ho,he⟩:=P.is;exact⟨P,⟨_,ho⟩,fun h1 h2 x k=>by obtain⟨a,es,ep,e,l⟩:=x.is;exact⟨a,es,ep,k _ e,l⟩⟩
theorem oe(hc:X.calm=true):cf X (.builtin "sorted") (fun xs H Q=>∃(S:Addr) (L:List Nat),xs=[.ref S]/\H S=some (.ext (k3 X.w S L))/\∀(r:Addr) (ms:List Int),H r=none->ms.Pairwise (·≤·)->ms.Perm (L.map fun(i:Nat)=>(i:Int))->Q (.ref r) (upd H r (.lst (ms.map V.int)))):=by
 intro pins s σ H xs us Q I r h;obtain⟨S,L,rfl,hS,q⟩:=h;obtain⟨u,rfl,ru⟩:=Vals.one r;cases ru;obtain⟨P,_,_⟩:=(show bT X.prog X.w H s.heap S (.ext (k3 X.w S L))from I.hok S _ hS);have h6:=(SI.jN L P.is.1).2.1;refine SI.oC (I.ok.hd hc) P fun r h' tk n out ms hge kp ho hi hs hp=>?_;have hn:H r=none:=I.hok.fresh hge;have hl:ms.length≤6:=by have:=hp.length_eq;rw[kb]at this;omega
 refine⟨.ref r,_,I.laid (t':=tk) (o:=.lst (ms.map V.int)) (fun b o e=>kp b o e) hge ?_,rfl,q r ms hn hs hp⟩;exact⟨by rw[kb,Jt];omega,out,n,eX hi,ho⟩
def mX(K:PySem.W.Frag):V->List V->Hp->VK->Prop:=fun x vs H Q=>∃l b xs zs,x=.ref l/\vs=[.ref b]/\H l=some (.lst xs)/\SqT K H b zs/\xs.length+zs.length≤sizeLine/\Q .non (upd H l (.lst (xs++zs)))
end L2
namespace U
open L2
variable {B:Bs}{X:Cx}{e:Expr}{ta:TE'}{p p2 pos pos2:Pos}
def jr(n:Nat):PV:=.int (n:Int)
theorem i5{K:PySem.W.Frag}{H:Hp}:∀{ns:List Nat} {us:List V},RPs K H (ns.map jr) us->us=ns.map zX
 | [],us,h=>by simpa[RPs]using h
 | b::bs,us,h=>by
  simp only[Jb,RPs,RP,jr]at h;obtain⟨u,r,rfl,rfl,h2⟩:=h;rw[i5 h2];rfl
def qi(x:PV)(H:PHp)(Q:VK'):Prop:=match x with
 | .ref a=>∃ns:List Nat,H a=some (.lst (ns.map jr))/\(∀n∈ns,n<6)/\∀(r:Addr) (ms:List Nat),H r=none->ms.Pairwise (·<·)->(∀x,x∈ms↔x∈ns)->Q (.ref r) (put H r (.lst (ms.map jr)))
 | _=>False
theorem GA:qi (.ref a) H Q=∃ns:List Nat,H a=some (.lst (ns.map jr))/\(∀n∈ns,n<6)/\∀(r:Addr) (ms:List Nat),H r=none->ms.Pairwise (·<·)->(∀x,x∈ms↔x∈ns)->Q (.ref r) (put H r (.lst (ms.map jr))):=rfl
def mC(ta:TE'):TE':=fun σ H Q=>ta σ H fun x H1=>qi x H1 Q
theorem lX{L:List Nat}:∀{ms:List Int},(∀x∈ms,∃n∈L,x=((n:Nat):Int))->ms=(ms.map Int.toNat).map fun(n:Nat)=>(n:Int)
 | [],_=>rfl
 | x::ms,h=>by
  obtain⟨n,_,rfl⟩:=h x IK;rw[Jb,Jb,← lX (ms:=ms) fun y hy=>h y (IJ _ hy)];rfl
theorem fg(hc:X.calm=true)(hu:X.A.units+64<cLine)(hgl:Gl X "sorted")(hml:X.mg "sorted"=none)(hgs:Gl X "set")(hms:X.mg "set"=none)(bs:bootBuiltins "set"=some (.type "set"))(ha:PE' X B e ta)(bo:bootBuiltins "sorted"=some (.builtin "sorted"):=by decide +kernel)
  (he:starEach [.Call (.Name "set" p2) [e] [] pos2] X.env=[(false,eval (.Call (.Name "set" p2) [e] [] pos2) X.env)]:=by rfl) (he2:starEach [e] X.env=[(false,eval e X.env)]:=by rfl) :
  PE' X B (.Call (.Name "sorted" p) [.Call (.Name "set" p2) [e] [] pos2] [] pos) (mC ta) :=
 a7 (dZ (oe hc) hgl hml bo (b7 (eU (jO hc) hgs hms bs (b7 ha cT he2) (by decide) (by decide) he2 rfl) cT he) (by decide) (by decide) he rfl) fun σ H Q h=>by
  obtain⟨σ',H',Q',s,h,k⟩:=h;refine⟨σ',H',_,s,h,fun x' H1' x H1 h1 rx s1 e1=>?_⟩;cases x' with
  | ref a =>
   obtain⟨ns,ea,hin,q⟩:=h1;simp only[RP]at rx;subst rx;obtain⟨us,eg,r2⟩:=s1.hp _ _ ea;rw[i5 r2]at eg;refine⟨a,ns,rfl,.inl (.inl eg),hin,fun S hS=>⟨S,SI.lof ns,rfl,aR,fun r ms hr hs hp=>?_⟩⟩;have s2:=s1.hid (o:=.ext (k3 X.w S (SI.lof ns))) hS;have e2:Ev H1' H1 H1' (upd H1 S (.ext (k3 X.w S (SI.lof ns)))):=Ev.hid hS;have nd:=(SI.jN _ (SI.nA hin)).2.2.1;have hm:∀x∈ms,∃n∈SI.lof ns,x=((n:Nat):Int):=fun x hx=>by
    obtain⟨n,h1,h2⟩:=IF.mp (hp.mem_iff.mp hx);exact⟨n,h1,h2.symm⟩
   have em:=lX hm;generalize ms.map Int.toNat=ks at em;subst em;have pk:ks.Perm (SI.lof ns):=by
    have:=hp.map Int.toNat
    simpa[Jj,Function.comp_def]using this
   have ndk:ks.Nodup:=pk.nodup_iff.mpr nd;have hsk:ks.Pairwise (·<·):=by
    rw[JQ]at hs;refine List.Pairwise.imp₂ (fun a b h1 h2=>?_) hs ndk;have:a≠b:=h2;omega
   have hq:=q r ks (s2.hp.free hr) hsk fun x=>pk.mem_iff.trans SI.pC;have rr:RPs X.K (upd H1 S (.ext (k3 X.w S (SI.lof ns)))) (ks.map jr) ((ks.map fun(n:Nat)=>(n:Int)).map V.int):=by
    have e3:ks.map jr=(ks.map fun(n:Nat)=>(n:Int)).map PV.int:=by rw[Jj];rfl
    rw[e3];exact nH
   exact k _ _ _ _ hq (by simp[RP]) (s2.new hr (mE hr rr)) ((e1.trans e2).trans (Ev.new hr))
  | _=>exact h1.elim
end U
namespace L2
variable {X:Cx}{tg:Expr}
theorem fB:MtM X "list.extend" (mX X.K):=by
 intro pins s σ H x vs v us Q I rx rv h;obtain⟨l,b,xs,zs,rfl,rfl,hH,hB,hz,q⟩:=h;cases rx;obtain⟨u,rfl,ru⟩:=rv.one;cases ru;obtain⟨z,its,n,r,hl,e⟩:=I.lstM hH;obtain⟨is2,r2,⟨o2,ho2,hc2,n2,hd2⟩,hz2⟩:=I.tuple hB;have hne:l≠b:=by
  rintro rfl;rw[e]at ho2;cases ho2;exact absurd (show Value.type "list"=Value.type "tuple" from hc2) (by decide)
 have hlen2:=r2.length;refine J4 F.slot_list_extend ⟨_,e,rfl⟩ F.entry_list_extend ?_ (F.args_list_extend_2 _ _);show wpAny _ _ (Builtin.List.listExtendWith (.ref l) (.ref b) .none) _ _ _;unfold Builtin.List.listExtendWith;refine IC (wpAny_typeOf (T:="tuple") ⟨o2,ho2,hc2⟩ ?_);rw[IZ (by rw[show(Value.type "tuple"==Value.type "tuple")=true from rfl];simp)];refine IC (listItems_at ho2 hd2 ?_);refine IC (listItems_at (xs:=its.toArray) (n:=n) e rfl ?_);have hsz:its.toArray.size+is2.toArray.size≤sizeLine:=by rw[IL,IL];omega
 rw[IX (by rw[mV hsz,Bool.and_false];exact KW)];refine IC (K5 (xs:=its.toArray) (n:=n) e rfl ?_ (by rw[IL];omega) (by show(its.toArray++is2.toArray).size≤_;rw[Array.size_append];omega));refine IH ⟨_,rfl,?_⟩;refine⟨.non,_,I.lset (its':=its++is2) hH e (by simp) (r.append r2) ?_,rfl,q⟩;rw[II];omega
def Itd(lo:Int)(n:Nat):It:=⟨fun i _=>i<n,fun i H x H'=>H'=H/\x=.int (lo - i),fun i _=>n≤i⟩
theorem rF{K:PySem.W.Frag}(it:Addr)(lo:Int)(n:Nat):Turn P w K tg (Itd lo n) [it] it (fun i h=>IsRangeIter h it (lo+(i:Nat)*(-1)) ((n:Int) - (i:Nat)) (-1)) where
 mem:=by simp
 obj:=fun i h st b hb=>by
  have q:b=it:=by simpa using hb
  subst q;exact⟨_,st,fun v z=>by
   have z':Data.fields _=Data.cell v:=z;cases z'⟩
 keep:=fun i h h' st k=>k it (by simp) _ st
 item:=by
  intro X hP hw hK hc i pins s σ H E I hf st hg;subst hP hw hK;obtain⟨f0,f1,f2,f3,f4,f5⟩:=hf it (by simp);have W:=Walks.range (prog:=X.prog) (w:=X.w) (I.ok.hd hc) it lo (-1) n;refine W.item i s _ _ hg st fun v h' tk hv st' kk=>?_;obtain⟨t,rfl⟩:=hv;have J:Inv X pins σ H { s with heap:=h',toks:=tk }:=I.turned (fun b o hb e=>kk b o (by simpa using hb) e) f0 f1 f3 f4 f5;refine⟨_,rfl,mJ (s:={ s with heap:=h',toks:=tk }) (n:="range_iterator") st' rfl rfl (by decide) ⟨.int (lo - i),H,J,⟨t,?_⟩,⟨rfl,rfl⟩,st',fun b hb=>(hf b hb).1⟩⟩;congr 1;omega
 done:=by
  intro X hP hw hK hc i pins s σ H E I hf st hg;subst hP hw hK;obtain⟨f0,f1,f2,f3,f4,f5⟩:=hf it (by simp);exact wpAny_pyNext_range_end (I.ok.hd hc) st (by have q:n≤i:=hg;omega) fun h' eb=>⟨rfl,I.turned (t':=s.toks) (fun b o hb e=>eb b o hb e) f0 f1 f3 f4 f5⟩
 self:=fun _ _ _ _ _ st h=>wpAny_pyIter_rangeiter st h
def Ej(ta:TA):TI:=fun σ H R=>ta σ H fun vs H1=>∃j:Int,vs=[.int j,.int (-1),.int (-1)]/\-1≤j/\j<1000/\R (Itd j (j+1).toNat) H1
theorem jX(h:-1≤j):Builtin.Range.rangeSize j (-1) (-1)=j+1:=by
 unfold Builtin.Range.rangeSize;rw[IX (by decide)];have e:-(-1:Int)=1:=rfl;rw[e,Int.ediv_one];split<;>omega
theorem om(h:-1≤j)(h2:j<1000):Builtin.Range.small j (-1) (-1)=true:=by
 unfold Builtin.Range.small;rw[jX h];simp only[Builtin.Range.rangeFitsLong,Ku,Bool.or_eq_true,JB,Kk];refine⟨⟨⟨⟨by omega,by decide⟩,by decide⟩,by omega⟩,.inr (by decide)⟩
theorem xK{a b c:Expr}{ta:TA}{p pos:Pos}(hg:Gl X "range")(hm:X.mg "range"=none)(ha:PA X [a,b,c] ta)(hs:starEach [a,b,c] X.env=[(false,eval a X.env),(false,eval b X.env),(false,eval c X.env)]:=by rfl)
  (hs2:starEach [b,c] X.env=[(false,eval b X.env),(false,eval c X.env)]:=by rfl):PI X tg (.Call (.Name "range" p) [a,b,c] [] pos) (Ej ta):=by
 intro pins s σ H R I h;refine Call_ (cO I hg hm boot_range (JJ (thn (ha pos pins s σ H _ I h) fun us s1 ⟨vs,H1,I1,r1,q1⟩=>?_) (by rw[hs,hs2]) (by rw[hs2];rfl)));obtain⟨j,e,q1,q2,q⟩:=q1;subst e;cases r1 with
 | cons r rr =>
  cases rr with
  | cons r' rr =>
   cases rr with
   | cons r'' rr =>
    cases rr;obtain⟨t,rfl⟩:=r;obtain⟨t',rfl⟩:=r';obtain⟨t'',rfl⟩:=r'';refine call_range_3 (by decide) ?_ (Or.inl (PyProof.noPylong_of_log2 (by decide +kernel)));generalize hh:s1.heap.push { cls:=.type "range",data:=.fields #[.int j t,.int (-1) t',.int (-1) t''] }=h2;have I2:Inv X pins σ H1 { s1 with heap:=h2 }:=by rw[←hh];exact I1.kept (t':=s1.toks) fun b o e=>IG _ e
    refine wpAny_pyIter_range (s:={ s1 with heap:=h2,toks:=s1.toks }) (by rw[←hh];exact IsRange.new ..) (om q1 q2) ?_;refine⟨h2.objs.size,[h2.objs.size],_,_,H1,rfl,I2.kept (t':=s1.toks) fun b o e=>IG _ e,rF _ j (j+1).toNat,?_,fun b hb=>?_,q⟩
    ·show IsRangeIter _ _ (j+((0:Nat):Int)*(-1)) ((((j+1).toNat:Nat):Int) - ((0:Nat):Int)) (-1);have e1:j+((0:Nat):Int)*(-1)=j:=by simp
     have e2:(((j+1).toNat:Nat):Int) - ((0:Nat):Int)=Builtin.Range.rangeSize j (-1) (-1):=by rw[jX q1];omega
     rw[e1,e2];exact IT _ rfl
    ·have e:b=h2.objs.size:=by simpa using hb
     subst e;exact I2.fpOk (IS _) (I2.hok.fresh (IS _))
end L2
namespace U
open L2
section
variable {B:Bs}{X:Cx}{a b c:Expr}{pos:Pos}
def vI:PV->List PV->PHp->VK'->Prop:=fun x vs H Q=>match x,vs with
 | .ref a,[.tup m]=>∃l,H a=some (.lst l)/\l.length+m.length≤sizeLine/\Q .non (put H a (.lst (l++m)))
 | _,_=>False
theorem Fl{a:Addr}:vI (.ref a) [.tup m] H Q=∃l,H a=some (.lst l)/\l.length+m.length≤sizeLine/\Q .non (put H a (.lst (l++m))):=rfl
theorem kL{K:PySem.W.Frag}:VM K B vI (mX K):=by
 intro σ' σ H' H x' xs' x xs Q' Q s rx r h k;unfold vI at h;split at h
 ·rename_i a m;obtain⟨l,e,hl,h⟩:=h;obtain⟨us,q,r2⟩:=s.hp _ _ e;simp only[RP,RPs]at rx r;obtain⟨u,r1,rfl,⟨b,ws,rfl,hb,r3⟩,rfl⟩:=r;subst rx;exact⟨a,b,us,ws,rfl,rfl,q,hb,by rw[RPs.length _ r2,RPs.length _ r3];exact hl,k _ _ _ _ h (by simp[RP]) (s.wr e (wrL s.hp e (RPs.append _ r2 r3))) (Ev.wr e)⟩
 ·exact h.elim
def nC(lo:Int)(n:Nat):List PV:=(List.range n).map fun k=>PV.int (lo - (k:Nat))
theorem qL{K:PySem.W.Frag}{lo:Int}:Walks K H1 (Itd lo n) ⟨nC lo n,fun _=>True⟩ where
 go:=fun H' H i _ _ _ hi=>by
  have q:i<n:=by simpa[nC]using hi
  exact q
 yld:=fun H' H i x H2 _ _ _ y=>by
  obtain⟨rfl,rfl⟩:=y;refine⟨rfl,fun x' hx=>?_⟩;unfold nC at hx;rw[IV]at hx;cases q:(List.range n)[i]? with
  | none=>rw[q]at hx;cases hx
  | some j =>
   rw[q]at hx;have:j=i:=by
    have:=(IM.mp q).2;simpa using this.symm
   subst this;cases hx;simp[RP]
 stop:=fun H' H i _ _ _ hi=>by
  have q:n≤i:=by simpa[nC]using hi
  exact q
def sW(vs:List PV)(H1:PHp)(R:It'->PHp->Prop):Prop:=match vs with
 | [.int j,.int e,.int f]=>e=-1/\f=-1/\-1≤j/\j<1000/\R ⟨nC j (j+1).toNat,fun _=>True⟩ H1
 | _=>False
theorem Gm:sW [.int j,.int e,.int f] H1 R=(e=-1/\f=-1/\-1≤j/\j<1000/\R ⟨nC j (j+1).toNat,fun _=>True⟩ H1):=rfl
def yI(t:TA'):TI':=fun σ H R=>t σ H fun vs H1=>sW vs H1 R
theorem rP{tg:Expr}{t:TA'}{p:Pos}(hg:Gl X "range")(hm:X.mg "range"=none)(ha:PA' X B [a,b,c] t)(hs:starEach [a,b,c] X.env=[(false,eval a X.env),(false,eval b X.env),(false,eval c X.env)]:=by rfl)
  (hs2:starEach [b,c] X.env=[(false,eval b X.env),(false,eval c X.env)]:=by rfl):PI' X B tg (.Call (.Name "range" p) [a,b,c] [] pos) (yI t) :=
 fx (xK hg hm ha hs hs2) fun σ H R y_=>by
  obtain⟨σ',H',R',s,h,k⟩:=y_;refine⟨σ',H',_,s,h,fun vs' H1' vs H1 h1 r1 s1 e1=>?_⟩;unfold sW at h1;split at h1
  ·rename_i j e f;obtain⟨rfl,rfl,h2,h3,q⟩:=h1;simp only[RPs,RP]at r1;obtain⟨u,r,rfl,rfl,u2,r2,rfl,rfl,u3,r3,rfl,rfl,rfl⟩:=r1;exact⟨j,rfl,h2,h3,k _ _ _ _ q qL s1 e1⟩
  ·exact h1.elim
end
section
variable {B:Bs}{X:Cx}{a b:Expr}{ta tb:TE'}{pos:Pos}
def tE:R2':=fun x y H Q=>match x,y with
 | .ref a,.ref b=>∃l m,H a=some (.lst l)/\H b=some (.lst m)/\l.length+m.length≤sizeLine/\∀p,H p=none->Q (.ref p) (put H p (.lst (l++m)))
 | _,_=>False
theorem FH{a b:Addr}:tE (.ref a) (.ref b) H Q=∃l m,H a=some (.lst l)/\H b=some (.lst m)/\l.length+m.length≤sizeLine/\∀p,H p=none->Q (.ref p) (put H p (.lst (l++m))):=rfl
theorem BA{K:PySem.W.Frag}:VR K B tE DN:=by
 intro σ' σ H' H x' y' x y Q' Q s rx ry h k;unfold tE at h;split at h
 ·rename_i a b;obtain⟨l,m,e1,e2,hl,h⟩:=h;simp only[RP]at rx ry;subst rx;subst ry;obtain⟨us,q1,r1⟩:=s.hp _ _ e1;obtain⟨ws,q2,r2⟩:=s.hp _ _ e2;refine⟨a,b,us,ws,rfl,rfl,q1,q2,by rw[RPs.length _ r1,RPs.length _ r2];exact hl,fun p hp=>?_⟩;exact k _ _ _ _ (h p (s.hp.free hp)) (by simp[RP]) (s.new hp (mE hp (RPs.append _ r1 r2))) (Ev.new hp)
 ·exact h.elim
theorem cx(ha:PE' X B a ta)(hb:PE' X B b tb):PE' X B (.BinOp a .Add b pos) (uOp tE ta tb):=fi BZ BA ha hb
theorem Ib{a:Addr}:BJ [.ref a] H Q=∃ns:List Int,H a=some (.lst (ns.map PV.int))/\ns.length<64/\∀(r:Addr) (ms:List Int),H r=none->ms.Perm ns->ms.Pairwise (·≤·)->Q (.ref r) (put H r (.lst (ms.map PV.int))):=rfl
theorem m4(ns:List Int)(lo hi:Option Int):∃ms:List Int,cY (ns.map PV.int) lo hi=ms.map PV.int/\ms.length≤ns.length:=by
 unfold cY;refine⟨(ns.drop (HT.sIx (ns.map PV.int).length 0 lo)).take (HT.sIx (ns.map PV.int).length (ns.map PV.int).length hi - HT.sIx (ns.map PV.int).length 0 lo),?_,?_⟩
 ·rw[List.map_take,List.map_drop]
 ·rw[JA,KR];omega
theorem ll{F:List Int}(h:∀x∈F,0≤x/\x<6):F.map PV.int=(F.map Int.toNat).map jr:=by
 rw[Jj];refine J8 fun x hx=>?_;have:=h x hx;show PV.int x=PV.int ((x.toNat:Nat):Int);congr 1;omega
end
end U
set_option Elab.async false
namespace L2
section
variable {κ:Type}[DecidableEq κ]
end
section
variable {P:Program}{w:World}{H:Hp}{h:Heap}{a:Addr}
end
section
variable {X:Cx}{pins:List (Addr×Obj)}{σ:St}{H:Hp}{s:Shared}{a:Addr}{y v:V}{u r:Value}{o:Option V}{A:Around}{E:Value->Shared->Prop}
end
section
variable {X:Cx}{pins:List (Addr×Obj)}{σ:St}{H:Hp}{s:Shared}{a:Addr}{kvs:List (Key×V)}{k:Key}{u:Value}{A:Around}{E:Value->Shared->Prop}
end
section
variable {X:Cx}{o i e value:Expr}{pos pos' tpos:Pos}{td ty tv:TE}
end
section
variable {X:Cx}{pos:Pos}
end
end L2
namespace SI
section
variable {prog:Program}{w:World}{A:Around}{E:Value->Shared->Prop}{s:Shared}{T:String}{r d:Addr}{n:Nat}{P:Nat->Value->Prop}{OK:Heap->Prop}
end
end SI
namespace L2
variable {X:Cx}
end L2
namespace U
open L2
section
variable {B:Bs}{X:Cx}{a b o i value:Expr}{ta tb td ty:TE'}{pos pos':Pos}
def dkP(ks:List Int):PO:=.dK (ks.map fun n=>(Sum.inl n,PV.bl true))
def GY(y x:PV)(H:PHp)(Q:VK'):Prop:=match y,x with
 | .int n,.ref a=>∃ks,H a=some (dkP ks)/\Q (.bl (!decide (n∈ks))) H
 | _,_=>False
def GI:List PV->PHp->VK'->Prop:=cP fun x H Q=>match x with
 | .ref a=>∃ks:List Int,H a=some (dkP ks)/\ks.length<64/\∀(r:Addr) (ms:List Int),H r=none->ms.Pairwise (·≤·)->ms.Perm ks->Q (.ref r) (put H r (.lst (ms.map PV.int)))
 | _=>False
end
section
theorem AU:∀x H Q,xX x [] H Q->match x with | .ref a=>∃l,H a=some (.lst l) | _=>False:=by
 intro x H Q h;cases x with
 | ref a=>obtain⟨l,y,e,_⟩:=h;exact⟨l,e⟩
 | _=>exact h
end
end U
namespace L2
variable {X:Cx}
def D2(K:PySem.W.Frag):List V->Hp->VK->Prop:=fun xs H Q=>∃(p:Addr) (bs:List Bool),xs=[.ref p]/\SqL K H p (bs.map V.bl)/\Q (.bl (bs.any id)) H
theorem fZ(hc:X.calm=true):cf X (.builtin "any") (D2 X.K):=by
 intro pins s σ H xs us Q I r h;obtain⟨a,bs,rfl,hq,q⟩:=h;obtain⟨u,rfl,ru⟩:=Vals.one r;cases ru;obtain⟨its,rv,p,hz⟩:=I.list hq;have e:=ft rv;subst e;have hl:s.heap.IsList a (bs.map Value.bool).toArray:=p.isList;have llt:a<s.heap.objs.size:=by obtain⟨o,e,_⟩:=hl;exact IQ e
 have hne:a≠s.heap.objs.size:=Jc llt;refine call_any_walk (wpAny_pyIter_list hl ?_);refine⟨s.heap.objs.size,[s.heap.objs.size,a],[s.heap.objs.size],(bs.map Value.bool).toArray.size,_,_,fun i=>bs.getD i false,rfl,Walks.list (by simpa using I.ok.hd hc) _ a hne _,⟨⟨_,IT _ rfl,rfl,rfl⟩,hl.at fun o e=>IG _ e⟩,?_,?_⟩
 ·intro i v s' Q' E' hv hQ;have:v=Value.bool (bs.getD i false):=by
   have hv':(bs.map Value.bool)[i]?=some v:=by simpa using hv
   rw[IV]at hv';cases hb:bs[i]? with
   | none=>rw[hb]at hv';cases hv'
   | some b=>rw[hb]at hv';cases hv';rw[IE,hb];rfl
  subst this;exact J9 hQ
 ·intro h' tk kp;have e:(List.range (bs.map Value.bool).toArray.size).any (fun i=>bs.getD i false)=bs.any id:=by
   have hs:(bs.map Value.bool).toArray.size=bs.length:=by simp
   rw[hs];rw[Kg,KI,KI];constructor
   ·rintro⟨i,hi,h⟩;have hi:=Jn.mp hi;rw[IE,ID hi]at h;exact⟨_,Ju hi,h⟩
   ·rintro⟨b,hb,h⟩;obtain⟨i,hi,e⟩:=List.getElem_of_mem hb;refine⟨i,Jn.mpr hi,?_⟩;rw[IE,ID hi,e];exact h
  rw[e];refine⟨.bl (bs.any id),H,I.kept (t':=tk) fun b o e=>?_,rfl,q⟩;exact kp b o (by simpa using Jc (IQ e)) (IG _ e)
theorem x6(hin:∀n∈ns,n<6)(nd:ns.Nodup):(SI.lof ns).length=ns.length:=by
 have h1:=(SI.jN _ (SI.nA hin)).2.2.1;exact((List.perm_ext_iff_of_nodup h1 nd).mpr fun x=>SI.pC).length_eq
theorem rg:cf X (.builtin "len") (fun xs H Q=>∃(S:Addr) (L:List Nat),xs=[.ref S]/\H S=some (.ext (k3 X.w S L))/\Q (.int L.length) H):=by
 intro pins s σ H xs us Q I r h;obtain⟨S,L,rfl,hS,q⟩:=h;obtain⟨u,rfl,ru⟩:=Vals.one r;cases ru;obtain⟨P,_,_⟩:=(show bT X.prog X.w H s.heap S (.ext (k3 X.w S L))from I.hok S _ hS);obtain⟨hL,es,ep,ho,he⟩:=P.is;have h6:=(SI.jN L hL).2.1;have hz:=he.size;have hf:=(SI.lW L hL _ (SI.dq (SI.bB X.w))).1;rw[←hz]at hf q h6;exact call_len_set ho ⟨rfl,rfl,rfl⟩ rfl hf (by omega) ⟨.int es.size,H,I.tok _,⟨_,rfl⟩,q⟩
end L2
namespace U
open L2
variable {B:Bs}{X:Cx}{a b e:Expr}{ta tb:TE'}{p p2 pos pos2:Pos}
def Dn:R2':=uI EG fun i j=>.int (i*2 ^ j.toNat)
theorem zA(ha:PE' X B a ta)(hb:PE' X B b tb):PE' X B (.BinOp a .LShift b pos) (uOp Dn ta tb):=fi Ar (uF fun _ _ _=>by simp[RP]) ha hb
def CW:List PV->PHp->VK'->Prop:=cP fun x H Q=>match x with
 | .ref a=>∃bs:List Bool,H a=some (.lst (bs.map PV.bl))/\Q (.bl (bs.any id)) H
 | _=>False
theorem Hl{a:Addr}:CW [.ref a] H Q=∃bs:List Bool,H a=some (.lst (bs.map PV.bl))/\Q (.bl (bs.any id)) H:=rfl
theorem lg{K:PySem.W.Frag}:VC K B CW (D2 K):=by
 intro σ' σ H' H xs' xs Q' Q s r h k;obtain⟨x',x,rfl,rfl,rx,h⟩:=cP.ex h r;cases x' with
 | ref a =>
  obtain⟨bs,ea,q⟩:=h;simp only[RP]at rx;subst rx;obtain⟨us,e,r2⟩:=s.hp _ _ ea;rw[gY r2]at e;exact⟨a,bs,rfl,.inl (.inl e),k _ _ _ _ q (by simp[RP]) s (Ev.refl _ _)⟩
 | _=>exact h.elim
def qC(x:PV)(H:PHp)(Q:VK'):Prop:=match x with
 | .ref a=>∃ns:List Nat,H a=some (.lst (ns.map jr))/\(∀n∈ns,n<6)/\ns.Nodup/\Q (.int ns.length) H
 | _=>False
theorem Hn{a:Addr}:qC (.ref a) H Q=∃ns:List Nat,H a=some (.lst (ns.map jr))/\(∀n∈ns,n<6)/\ns.Nodup/\Q (.int ns.length) H:=rfl
def mY(ta:TE'):TE':=fun σ H Q=>ta σ H fun x H1=>qC x H1 Q
theorem lQ(hc:X.calm=true)(hgl:Gl X "len")(hml:X.mg "len"=none)(hgs:Gl X "set")(hms:X.mg "set"=none)(bs:bootBuiltins "set"=some (.type "set"))(ha:PE' X B e ta)
  (he:starEach [.Call (.Name "set" p2) [e] [] pos2] X.env=[(false,eval (.Call (.Name "set" p2) [e] [] pos2) X.env)]:=by rfl) (he2:starEach [e] X.env=[(false,eval e X.env)]:=by rfl) :
  PE' X B (.Call (.Name "len" p) [.Call (.Name "set" p2) [e] [] pos2] [] pos) (mY ta) :=
 a7 (dZ rg hgl hml Jf (b7 (eU (jO hc) hgs hms bs (b7 ha cT he2) (by decide) (by decide) he2 rfl) cT he) (by decide) (by decide) he rfl) fun σ H Q h=>by
  obtain⟨σ',H',Q',s,h,k⟩:=h;refine⟨σ',H',_,s,h,fun x' H1' x H1 h1 rx s1 e1=>?_⟩;cases x' with
  | ref a =>
   obtain⟨ns,ea,hin,nd,q⟩:=h1;simp only[RP]at rx;subst rx;obtain⟨us,eg,r2⟩:=s1.hp _ _ ea;rw[i5 r2]at eg;refine⟨a,ns,rfl,.inl (.inl eg),hin,fun S hS=>⟨S,SI.lof ns,rfl,aR,?_⟩⟩;rw[←x6 hin nd]at q;exact k _ _ _ _ q (by simp[RP]) (s1.hid hS) (e1.trans (Ev.hid hS))
  | _=>exact h1.elim
end U
namespace L2
variable {X:Cx}{pos:Pos}
def HZ(K:PySem.W.Frag)(n:Nat)(t:TGs):TG:=fun v σ H Q=>∃a xs,v=.ref a/\SqL K H a xs/\xs.length=n/\t xs σ H Q
theorem zx{es:List Expr}{k:Nat}{t:TGs}{n:Nat}(hc:X.calm=true)(h:PGs X es t)(hn:(assignEach es X.env).length=n:=by rfl)(hst:(assignEach es X.env).findIdx? (·.1)=none:=by rfl) :
  PG X (.Tuple es k pos) (HZ X.K n t):=by
 intro pins s σ H v u Q I r hw;obtain⟨a,xs,e1,hq,hl,hw⟩:=hw;subst e1;cases r;obtain⟨its,rv,p,hz⟩:=I.list hq;rw[assign_Tuple];refine IC (wpAny_standAt ?_);unfold unpack;rw[hst,show(assignEach es X.env).length=its.toArray.size by simp[hn,← hl,rv.length]];refine IC (JT (PySem.W.kun_itemsOf (I.ok.hd hc) p.isList fun h' hx=>?_));have I1:Inv X pins σ H { s with heap:=h' }:=I.kept (t':=s.toks) fun b o e=>hx b o (Jc (IQ e)) e;exact h pins _ σ H xs _ Q I1 (by simpa using rv) hw
end L2
namespace U
open L2
variable {B:Bs}{X:Cx}{es:List Expr}{pos:Pos}
def Ca(n:Nat)(t:gS):TG':=fun v σ H Q=>match v with
 | .ref a=>∃l,H a=some (.lst l)/\l.length=n/\t l σ H Q
 | _=>False
theorem HJ:Ca n t (.ref a) σ H Q=∃l,H a=some (.lst l)/\l.length=n/\t l σ H Q:=rfl
theorem BL{k:Nat}{t:gS}{n:Nat}(hc:X.calm=true)(h:uS X B es t)(hn:(assignEach es X.env).length=n:=by rfl)(hst:(assignEach es X.env).findIdx? (·.1)=none:=by rfl):PG' X B (.Tuple es k pos) (Ca n t) :=
 lC (zx hc h hn hst) fun v σ H Q y_=>by
 obtain⟨v',σ',H',Q',r,s,h,k⟩:=y_;cases v' with
 | ref a =>
  obtain⟨l,e,hl,h⟩:=h;simp only[RP]at r;subst r;obtain⟨us,q,r⟩:=s.hp _ _ e;exact⟨a,us,rfl,.inl (.inl q),by rw[RPs.length _ r];exact hl,l,σ',H',Q',r,s,h,k⟩
 | _=>exact h.elim
end U
namespace EN
section
variable {prog:Program}{w:World}{A:Around}{E:Value->Shared->Prop}{s:Shared}
end
end EN
namespace L2
section
variable {X:Cx}
end
end L2
namespace U
open L2
variable {B:Bs}{X:Cx}{pos:Pos}
def CQ(l:List PV):List PV:=l.mapIdx fun i x=>.tup [.int (i:Nat),x]
def en1(vs:List PV)(H1:PHp)(R:It'->PHp->Prop):Prop:=match vs with
 | [.tup l]=>R ⟨CQ l,fun _=>True⟩ H1
 | _=>False
theorem Gq:en1 [.tup l] H R=R ⟨CQ l,fun _=>True⟩ H:=rfl
def uEn(t:TA'):TI':=fun σ H R=>t σ H fun vs H1=>en1 vs H1 R
end U
namespace L2
section
variable {X:Cx}{pins:List (Addr×Obj)}{σ:St}{H:Hp}{s:Shared}{h':Heap}
theorem Inv.turnedN{ch:List Addr}(I:Inv X pins σ H s)(k:∀b o,b∉ch->s.heap.get? b=some o->h'.get? b=some o)(hf:∀b∈ch,fR X pins H b):Inv X pins σ H { s with heap:=h',toks:=t' }:=by
 have nit:∀b u,H b=some u->b∉ch:=fun b u e z=>by rw[(hf b z).1]at e;cases e
 refine I.step (g':=s.gens) (d':=s.drawn) (ch:=ch) (fun b hb=>?_) (fun b o _ _ hc e _=>k b o hc e) (fun b o _ _ hc e _=>⟨o.slots,k b o hc e⟩) (fun _ _ _ _ n=>n)
  (fun b o hc e=>⟨o,k b o hc e⟩) (fun _ _ e=>e) (fun _ _ _ e=>e) (fun b ps e=>⟨#[],by rw[e];simp⟩) (fun m hm=>?_) (fun b u e=>?_) I.bare
 ·have f:=hf b hb;exact⟨f.2.2.2.1,f.2.1,f.2.2.2.2.1,f.2.2.2.2.2⟩
 ·obtain⟨o,es,ep,ho,r⟩:=hm;exact⟨o,es,ep,k _ o (fun z=>(hf _ z).2.1 rfl) ho,r⟩
 ·refine(I.hok b u e).stay (fun c z hc q2=>?_) (fun c q2=>q2) fun c ys q2=>q2;have nn:c∉ch:=by
   rcases hc with z | z
   ·rw[z];exact nit b u e
   ·exact nit c _ z
  exact k c z nn q2
end
def Itz(K:PySem.W.Frag)(a b:Addr):It :=
 ⟨fun i H=>∃xs ys x y,SqL K H a xs/\SqL K H b ys/\xs[i]?=some x/\ys[i]?=some y,fun i H x H'=>∃T u v,H T=none/\x=.ref T/\H'=upd H T (.tup [u,v])/\∀xs ys,SqL K H a xs->SqL K H b ys->xs[i]?=some u/\ys[i]?=some v,
  fun i H=>∃xs ys,SqL K H a xs/\SqL K H b ys/\(xs[i]?=none∨ys[i]?=none)⟩
theorem j9:∀{xs:List V} {its:List Value} {i:Nat},Vals xs its->xs[i]?=none->its[i]?=none:=fun {xs its i} r h=>by
 have hl:=r.length;rw[List.getElem?_eq_none_iff]at h ⊢;omega
theorem sf{K:PySem.W.Frag}(z TI TO i1 i2 a b:Addr)(D:ZipApart z TI TO i1 i2 a b):Turn P w K (.Tuple elts k1 tpos) (Itz K a b) [z,TI,TO,i1,i2] z
  (fun i h=>IsZip h z TI TO .none/\IsPair h TI (.ref i1) (.ref i2)/\(∃x y,IsPair h TO x y)/\h.IsListIter i1 a i/\h.IsListIter i2 b i) where
 mem:=by simp
 obj:=fun i h st c hc=>by
  obtain⟨hz,hI,⟨x,y,hO⟩,⟨o1,e1,c1,d1⟩,⟨o2,e2,c2,d2⟩⟩:=st;simp only[IY,Ki,or_false]at hc;rcases hc with rfl | rfl | rfl | rfl | rfl
  ·exact⟨_,hz,fun v q=>by cases (show Data.fields _=Data.cell v from q)⟩
  ·exact⟨_,hI,fun v q=>by cases (show Data.seq _ _=Data.cell v from q)⟩
  ·exact⟨_,hO,fun v q=>by cases (show Data.seq _ _=Data.cell v from q)⟩
  ·exact⟨_,e1,fun v q=>by rw[d1]at q;cases q⟩
  ·exact⟨_,e2,fun v q=>by rw[d2]at q;cases q⟩
 keep:=fun i h h' st k=>by
  obtain⟨hz,hI,⟨x,y,hO⟩,h1,h2⟩:=st;exact⟨k z (by simp) _ hz,k TI (by simp) _ hI,⟨x,y,k TO (by simp) _ hO⟩,h1.at fun o e=>k i1 (by simp) o e,h2.at fun o e=>k i2 (by simp) o e⟩
 item:=by
  intro X hP hw hK hc i pins s σ H E I hf st hg;subst hP hw hK;obtain⟨xs,ys,x,y,qx,qy,hx,hy⟩:=hg;obtain⟨its,rv,p,_⟩:=I.list qx;obtain⟨jts,rw',p',_⟩:=I.list qy;obtain⟨u,hu,ru⟩:=rv.get hx;obtain⟨v,hv,rv2⟩:=rw'.get hy;obtain⟨hz,hI,⟨x0,y0,hO⟩,h1,h2⟩:=st;refine wpAny_pyNext_zip_item D hz hI hO h1 h2 p.isList p'.isList (show its.toArray[i]?=some u by simpa using hu) (show jts.toArray[i]?=some v by simpa using hv) fun h' a1 a2 a3 a4 a5 a6 hk=>?_;refine⟨_,rfl,wpAny_letOwnedTupleGo_zip (s:={ s with heap:=h' }) a1 fun h2 hz2 sb=>?_⟩;have sb2:Heap.SameBut z h' h2:=sb;have hzlt:z<s.heap.objs.size:=IQ hz;have hT2:h2.get? s.heap.objs.size=some { cls:=.type "tuple",data:=.seq #[u,v] }:=(sb2.2 _ (K6 hzlt)).trans a5;have kk:∀c o,c∉[z,TO,i1,i2]->s.heap.get? c=some o->h2.get? c=some o:=fun c o n q=>by
   simp only[IY,Ki,or_false,not_or]at n;exact(sb2.2 c n.1).trans (hk c o n.1 n.2.1 n.2.2.1 n.2.2.2 q)
  have hn:H s.heap.objs.size=none:=I.hok.fresh (IS _);have hf4:∀c∈[z,TO,i1,i2],fR X pins H c:=fun c hc=>hf c (by simp only[IY,Ki,or_false]at hc ⊢;rcases hc with e | e | e | e<;>simp[e]);have nit:∀c v,H c=some v->c∉[z,TO,i1,i2]:=fun c v q zc=>by rw[(hf4 c zc).1]at q;cases q
  have ltT:∀{c o},s.heap.get? c=some o->c≠s.heap.objs.size:=fun e=>Jc (IQ e);have up:∀{c o},c≠z->h'.get? c=some o->h2.get? c=some o:=fun {c o} n e=>(sb2.2 c n).trans e;refine⟨.ref s.heap.objs.size,upd H s.heap.objs.size (.tup [x,y]),?_,rfl,⟨_,x,y,hn,rfl,rfl,fun zs ws q1 q2=>⟨by rw[I.list_inj q1 qx];exact hx,by rw[I.list_inj q2 qy];exact hy⟩⟩,?_,fun c hc=>?_⟩
  ·show Inv X pins σ _ { s with heap:=h2,toks:=s.toks };refine I.step (h':=h2) (g':=s.gens) (d':=s.drawn) (t':=s.toks) (ch:=[z,TO,i1,i2]) (fun c hc=>?_) (fun c o _ _ hc q _=>kk c o hc q) (fun c o _ _ hc q _=>⟨o.slots,kk c o hc q⟩)
    (fun c o _ q n=>by rw[aH (ltT q)];exact n) (fun c o hc q=>⟨o,kk c o hc q⟩) (fun c ys q=>by rw[aH (aT q hn)];exact q) (fun c o v q=>by rw[aH (aT q hn)];exact q)
    (fun c ps q=>⟨#[],by rw[aH (aT q hn),q];simp⟩) (fun m hm=>?_) (fun c v' q=>?_) I.bare
   ·have f:=hf4 c hc;exact⟨f.2.2.2.1,f.2.1,f.2.2.2.2.1,f.2.2.2.2.2⟩
   ·obtain⟨o,es,ep,q,r⟩:=hm;exact⟨o,es,ep,kk _ o (fun zc=>(hf4 _ zc).2.1 rfl) q,r⟩
   ·by_cases hb:c=s.heap.objs.size
    ·subst hb;rw[aR]at q;cases q;exact⟨by show 2≤sizeLine;rw[Jt];omega,[u,v],.cons ru (.cons rv2 .nil),⟨_,hT2,rfl,_,rfl⟩⟩
    ·rw[aH hb]at q;refine(I.hok c v' q).stay (fun d zd hd q2=>?_) (fun d q2=>by rw[aH (aT q2 hn)];exact q2) fun d ys q2=>by rw[aH (aT q2 hn)];exact q2
     have nn:d∉[z,TO,i1,i2]:=by
      rcases hd with e | e
      ·rw[e];exact nit c v' q
      ·exact nit d _ e
     exact kk d zd nn q2
  ·refine⟨hz2,?_,⟨_,_,up D.TOz a2⟩,a3.at fun o e=>up D.i1z e,a4.at fun o e=>up D.i2z e⟩;exact up D.TIz (hk _ _ D.TIz D.TITO D.TIi1 D.TIi2 hI)
  ·have hc2:c<s.heap.objs.size:=by
    simp only[IY,Ki,or_false]at hc;rcases hc with rfl | rfl | rfl | rfl | rfl
    ·exact hzlt
    ·exact IQ hI
    ·exact IQ hO
    ·obtain⟨_,e,_⟩:=h1;exact IQ e
    ·obtain⟨_,e,_⟩:=h2;exact IQ e
   rw[aH (Jc hc2)];exact(hf c hc).1
 done:=by
  intro X hP hw hK hc i pins s σ H E I hf st hg;subst hP hw hK;obtain⟨xs,ys,qx,qy,hend⟩:=hg;obtain⟨its,rv,p,_⟩:=I.list qx;obtain⟨jts,rw',p',_⟩:=I.list qy;obtain⟨hz,hI,⟨x0,y0,hO⟩,h1,h2⟩:=st;have hend':its.toArray[i]?=none∨jts.toArray[i]?=none:=by
   rcases hend with e | e
   ·exact .inl (by simpa using j9 rv e)
   ·exact .inr (by simpa using j9 rw' e)
  refine wpAny_pyNext_zip_end (I.ok.hd hc) D hz hI hO h1 h2 p.isList p'.isList hend' fun h' hk=>⟨rfl,I.turnedN (t':=s.toks) (ch:=[z,TO,i1,i2]) (fun c o n q=>?_) fun c hc=>hf c ?_⟩
  ·simp only[IY,Ki,or_false,not_or]at n;exact hk c o n.1 n.2.1 n.2.2.1 n.2.2.2 q
  ·simp only[IY,Ki,or_false]at hc ⊢;rcases hc with e | e | e | e<;>simp[e]
 self:=fun _ _ _ _ _ st h=>wpAny_pyIter_zip st.1 h
section
variable {X:Cx}
def Gx(K:PySem.W.Frag)(ta:TA):TI:=fun σ H R=>ta σ H fun vs H1=>∃a b,vs=[.ref a,.ref b]/\(∃xs,SqL K H1 a xs)/\(∃ys,SqL K H1 b ys)/\R (Itz K a b) H1
theorem BQ{elts:List Expr}{k1}{tpos:Pos}{c d:Expr}{ta:TA}{p pos:Pos}(hg:Gl X "zip")(hm:X.mg "zip"=none)(ha:PA X [c,d] ta)(hs:starEach [c,d] X.env=[(false,eval c X.env),(false,eval d X.env)]:=by rfl)(hs2:starEach [d] X.env=[(false,eval d X.env)]:=by rfl) :
  PI X (.Tuple elts k1 tpos) (.Call (.Name "zip" p) [c,d] [] pos) (Gx X.K ta):=by
 intro pins s σ H R I h;refine Call_ (cO I hg hm PyProof.Rows.boot_zip (JJ (thn (ha pos pins s σ H _ I h) fun us s1 ⟨vs,H1,I1,r1,q1⟩=>?_) (by rw[hs,hs2]) (by rw[hs2];rfl)));obtain⟨a,b,e,⟨xs,qx⟩,⟨ys,qy⟩,q⟩:=q1;subst e;cases r1 with
 | cons r rr =>
  cases rr with
  | cons r' rr =>
   cases rr;cases r;cases r';obtain⟨its,rv,p,_⟩:=I1.list qx;obtain⟨jts,rw',p',_⟩:=I1.list qy;obtain⟨_,ea,_⟩:=id p.isList;obtain⟨_,eb,_⟩:=id p'.isList;refine call_zip_2 p.isList p'.isList fun h1 hz hI hO l1 l2 hsz kk=>wpAny_pyIter_zip hz ?_;refine⟨_,_,_,_,H1,rfl,I1.kept (t':=s1.toks) kk,sf _ _ _ _ _ a b (PyProof.Rows.zipApart_new (IQ ea) (IQ eb)),⟨hz,hI,⟨_,_,hO⟩,l1,l2⟩,fun c hc=>?_,q⟩;have hb2:s1.heap.objs.size≤c:=by
    simp only[IY,Ki,or_false]at hc;rcases hc with rfl | rfl | rfl | rfl | rfl
    ·exact Nat.le_add_right _ _
    ·exact Nat.le_add_right _ _
    ·exact Nat.le_add_right _ _
    ·exact IS _
    ·exact Nat.le_add_right _ _
   exact I1.fpOk hb2 (I1.hok.fresh hb2)
end
end L2
namespace U
open L2
variable {B:Bs}{X:Cx}{pos:Pos}
def d6:List PV->List PV->List PV
 | x::xs,y::ys=>.tup [x,y]::d6 xs ys
 | _,_=>[]
theorem iP:∀(l m:List PV),(d6 l m).length=min l.length m.length
 | [],_=>by simp[d6]
 | _::_,[]=>by simp[d6]
 | x::l,y::m=>by simp[d6,iP l m]
theorem fW:∀{l m:List PV} {i:Nat} {z:PV},(d6 l m)[i]?=some z->∃x y,l[i]?=some x/\m[i]?=some y/\z=.tup [x,y]
 | [],_,i,z,h=>by simp[d6]at h
 | _::_,[],i,z,h=>by simp[d6]at h
 | x::l,y::m,0,z,h=>⟨x,y,rfl,rfl,by simpa[d6]using h.symm⟩
 | x::l,y::m,i+1,z,h=>by
  have:=fW (l:=l) (m:=m) (i:=i) (z:=z) (by simpa[d6]using h);simpa using this
def zip2(vs:List PV)(H1:PHp)(R:It'->PHp->Prop):Prop:=match vs with
 | [.ref a,.ref b]=>∃l m,H1 a=some (.lst l)/\H1 b=some (.lst m)/\R ⟨d6 l m,fun H=>H a=some (.lst l)/\H b=some (.lst m)⟩ H1
 | _=>False
theorem F8:zip2 [.ref a,.ref b] H R=∃l m,H a=some (.lst l)/\H b=some (.lst m)/\R ⟨d6 l m,fun H=>H a=some (.lst l)/\H b=some (.lst m)⟩ H:=rfl
def C3(t:TA'):TI':=fun σ H R=>t σ H fun vs H1=>zip2 vs H1 R
theorem Bc{elts:List Expr}{k1}{tpos:Pos}{c d:Expr}{t:TA'}{p:Pos}(hg:Gl X "zip")(hm:X.mg "zip"=none)(ha:PA' X B [c,d] t)(hs:starEach [c,d] X.env=[(false,eval c X.env),(false,eval d X.env)]:=by rfl)(hs2:starEach [d] X.env=[(false,eval d X.env)]:=by rfl) :
  PIH X B (.Tuple elts k1 tpos) (.Call (.Name "zip" p) [c,d] [] pos) (C3 t):=fx (BQ hg hm ha hs hs2) fun σ H R y_=>by
 obtain⟨σ',H',R',s,h,k⟩:=y_;refine⟨σ',H',_,s,h,fun vs' H1' vs H1 h1 r1 s1 e1=>?_⟩;unfold zip2 at h1;split at h1
 ·rename_i a b;simp only[RPs,RP]at r1;obtain⟨u,r,rfl,rfl,u2,r2,rfl,rfl,rfl⟩:=r1;obtain⟨l,m,ha,hb,h1⟩:=h1;obtain⟨us,q1,_⟩:=s1.hp _ _ ha;obtain⟨ws,q2,_⟩:=s1.hp _ _ hb;have lk:∀H2' H2,HR X.K H2' H2->H2' a=some (.lst l)/\H2' b=some (.lst m)->∃us ws,SqL X.K H2 a us/\SqL X.K H2 b ws/\RPs X.K H2 l us/\RPs X.K H2 m ws:=fun H2' H2 hr o=>by
   obtain⟨us,a1,a2⟩:=hr _ _ o.1;obtain⟨ws,b1,b2⟩:=hr _ _ o.2;exact⟨us,ws,SqL.of a1,SqL.of b1,a2,b2⟩
  refine⟨a,b,rfl,⟨us,SqL.of q1⟩,⟨ws,SqL.of q2⟩,k _ H1' _ H1 h1 ⟨fun H2' H2 i k2 hr o hi=>?_,fun H2' H2 i x H3 k2 hr o y=>?_,fun H2' H2 k2 hr o=>?_⟩ s1 e1⟩
  ·obtain⟨us,ws,c1,c2,d1,d2⟩:=lk _ _ hr o;obtain⟨x,y,e1,e2,_⟩:=fW (ID hi);obtain⟨u,f1,_⟩:=RPs.get _ d1 e1;obtain⟨v,f2,_⟩:=RPs.get _ d2 e2;exact⟨us,ws,u,v,c1,c2,f1,f2⟩
  ·obtain⟨T,u,v,hT,rfl,rfl,hy⟩:=y;obtain⟨us,ws,c1,c2,d1,d2⟩:=lk _ _ hr o;refine⟨hr.hid hT,Ev.hid hT,fun x' hx=>?_⟩;obtain⟨x,y,e1,e2,rfl⟩:=fW hx;obtain⟨u',f1,g1⟩:=RPs.get _ d1 e1;obtain⟨v',f2,g2⟩:=RPs.get _ d2 e2;obtain⟨y1,y2⟩:=hy us ws c1 c2;rw[f1]at y1;cases y1;rw[f2]at y2;cases y2;exact oX hT (RPs.cons _ g1 (RPs.cons _ g2 (RPs.nil _)))
  ·obtain⟨us,ws,c1,c2,d1,d2⟩:=lk _ _ hr o;refine⟨us,ws,c1,c2,?_⟩;show us[(d6 l m).length]?=none∨ws[(d6 l m).length]?=none;rw[iP,List.getElem?_eq_none_iff,List.getElem?_eq_none_iff,RPs.length _ d1,RPs.length _ d2];omega
 ·exact h1.elim
end U
namespace TR
section
variable {prog:Program}{w:World}{A:Around}{E:Value->Shared->Prop}{s:Shared}
theorem jI{n:Nat}(hh:A.handled=none)(hr:IsRange s.heap r a b c t u v)(hs:Builtin.Range.small a b c=true)(hn:Builtin.Range.rangeSize a b c=n)(hl:n≤2 ^ 24)
  (q:∀(h':Heap) tk acc,(∀b o,s.heap.get? b=some o->h'.get? b=some o)->ItemsOf (fun i v=>∃t,v=.int (a+i*c) t) acc n->Q acc.toList { s with heap:=h',toks:=tk }):wpAny (model prog w) A (collect (.ref r)) Q E s:=by
 unfold collect;refine IC (wpAny_runValue (Kh F.entry_proto_collect ?go))
 case go =>
  rw[J6 F.plain_proto_collect _];show wpAny _ A.in1 (newList [] >>= fun l=>again (.builtin "list.__iadd__" ⟨[l,.ref r],[]⟩)) _ _ s;refine IC (JI (IH ⟨plainId_quiet F.plain_list_iadd _,Kh F.entry_list_iadd ?_⟩));rw[J6 F.plain_list_iadd _];show wpAny _ A.in1 (Builtin.List.listExtendWith (.ref s.heap.objs.size) (.ref r) (.ref s.heap.objs.size)) _ _ _;have hS0:(s.heap.push { cls:=.type "list",data:=.seq ([]:List Value).toArray }).get? s.heap.objs.size=some { cls:=.type "list",data:=.seq #[] }:=IT _ rfl;refine wpAny_extend_range (R:=fun r s'=>match r with | .ok (.ret v)=>wpAny (model prog w) A (match v with | .ref a=>(do match (← load a).data with | .seq xs _=>pure xs.toList | _=>unsupported "internal:collect") | _=>unsupported "internal:collect") Q E s' | .ok _=>False | .error e=>E e s') (s:={ s with heap:=s.heap.push { cls:=.type "list",data:=.seq ([]:List Value).toArray } }) hh (IG _ hr) hs hn hl _ _ 0 hS0 fun h' tk acc c' hk hS hacc=>?_;show wpAny _ A (load s.heap.objs.size >>= _) _ _ _;exact IC (wpAny_load hS (IH (q h' tk acc (fun b o e=>hk b o (Jc (IQ e)) (IG _ e)) hacc)))
end
open AutoSeq1 (wpAny_loadPart')
theorem g5{r:Addr}{a b c:Int}{t u v:Tok}{n:Nat}(hs:Builtin.Range.small a b c=true)(hn:Builtin.Range.rangeSize a b c=n)(hl:n≤2 ^ 24) :
  Meets (Builtin.«tuple.__new__» ⟨[.type "tuple",.ref r],[]⟩)
   (fun A R s=>A.handled=none/\IsRange s.heap r a b c t u v/\∀(h':Heap) tk acc,(∀b o,s.heap.get? b=some o->h'.get? b=some o)->ItemsOf (fun i v=>∃t,v=.int (a+i*c) t) acc n ->
    R (.ok (.ret (.ref h'.objs.size))) { s with heap:=h'.push { cls:=.type "tuple",data:=.seq acc },toks:=tk }) :=
 .of_wp fun prog w A R s h=>by
  obtain⟨hh,hr,h⟩:=h;have hsub:=sub_tuple_self;have hinit:=init_tuple_lookup;have hmh:=madeHere_tuple;have hT:s.TypeIs (.ref r) "range":=⟨_,hr,rfl⟩;have hh1:A.in1.handled=none:=hh
  wp_walk using wpAny_typeOf hT,jI hh1 hr hs hn hl
  intro h' tk acc hk hacc;show wpAny _ _ (Builtin.Tuple.tupleExact acc.toList.toArray >>= fun v=>ret v) _ _ _;unfold Builtin.Tuple.tupleExact;have e:acc.toList.toArray=acc:=by simp
  rw[e];refine IC (JI (IH ⟨_,rfl,h h' tk acc hk hacc⟩) (show acc.size≤sizeLine by rw[hacc.1,Jt];omega))
section
variable {prog:Program}{w:World}{A:Around}{E:Value->Shared->Prop}{s:Shared}
theorem gZ{n:Nat}(hh:A.handled=none)(hr:IsRange s.heap r a b c t u v)(hs:Builtin.Range.small a b c=true)(hn:Builtin.Range.rangeSize a b c=n)(hl:n≤2 ^ 24)
  (q:∀(h':Heap) tk acc,(∀b o,s.heap.get? b=some o->h'.get? b=some o)->ItemsOf (fun i v=>∃t,v=.int (a+i*c) t) acc n->Q (.ref h'.objs.size) { s with heap:=h'.push { cls:=.type "tuple",data:=.seq acc },toks:=tk }) :
  wpAny (model prog w) A (call (.type "tuple") [.ref r]) Q E s :=
 callType_new F.called_tuple (by decide) (F.typeCall_tuple_1 _) (F.newCall_tuple_1 _) (fun obj=>F.args_object_init_2 obj _) F.entry_tuple_new
  (g5 (r:=r) (t:=t) (u:=u) (v:=v) hs hn hl) ⟨hh,hr,fun h' tk acc hk hacc=>⟨⟨_,IT _ rfl,rfl⟩,q h' tk acc hk hacc⟩⟩
end
end TR
namespace L2
variable {X:Cx}{a:Expr}{ta:TE}{p p2 pos pos2:Pos}
def lO(n:Nat):List V:=(List.range n).map fun k=>V.int ((k:Nat):Int)
theorem vo{n:Nat}(h:n<1000):Builtin.Range.rangeSize 0 (n:Int) 1=(n:Nat)/\Builtin.Range.small 0 (n:Int) 1=true:=by
 have e:Builtin.Range.rangeSize 0 (n:Int) 1=(n:Nat):=by
  unfold Builtin.Range.rangeSize;rw[IZ (by decide)];split<;>omega
 refine⟨e,?_⟩;unfold Builtin.Range.small;rw[e];have hn:((n:Nat):Int)≤1000:=by omega
 have h0:(0:Int)≤((n:Nat):Int):=by omega
 generalize ((n:Nat):Int)=m at *;simp only[Builtin.Range.rangeFitsLong,Ku,Bool.or_eq_true,JB,Kk];refine⟨⟨⟨⟨by omega,by omega⟩,by decide⟩,by omega⟩,?_⟩;refine .inr ?_;rw[IZ (by decide),Ku,JB,JB];exact⟨by omega,by omega⟩
theorem sR(h:ItemsOf (fun i v=>∃t,v=Value.int (0+i*1) t) acc n):Vals (lO n) acc.toList:=by
 obtain⟨h1,h2⟩:=h;have key:∀(l:List Value) (k:Nat),(∀j v,l[j]?=some v->∃t,v=Value.int ((k+j:Nat):Int) t)->Vals ((List.range l.length).map fun j=>V.int ((k+j:Nat):Int)) l:=by
  intro l
  induction l with
  | nil=>intro k _;exact .nil
  | cons v l ih =>
   intro k hh;rw[Jg,List.range_succ_eq_map,Jb,Jj];obtain⟨t,e⟩:=hh 0 v rfl;have:=ih (k+1) fun j v hj=>by
    have:=hh (j+1) v (by simpa using hj);rw[show k+1+j=k+(j+1) by omega];exact this
   refine .cons ⟨t,e⟩ ?_;have ee:((fun j=>V.int ((k+j:Nat):Int)) ∘ Nat.succ)=fun j=>V.int ((k+1+j:Nat):Int):=by
    funext j;show V.int ((k+(j+1):Nat):Int)=_;rw[show k+(j+1)=k+1+j by omega]
   rw[ee];exact this
 have:=key acc.toList 0 fun j v hj=>by
  obtain⟨t,e⟩:=h2 j v (by simpa using hj);exact⟨t,by rw[e];congr 1;omega⟩
 rw[J0,h1]at this;unfold lO;simpa using this
def Di(ta:TE):TE:=fun σ H Q=>ta σ H fun x H1=>∃n:Nat,[x]=[V.int (n:Nat)]/\n<1000/\∀q,H1 q=none->Q (.ref q) (upd H1 q (.tup (lO n)))
theorem x9(hc:X.calm=true)(hg:Gl X "tuple")(hm:X.mg "tuple"=none)(hg2:Gl X "range")(hm2:X.mg "range"=none)(b1:bootBuiltins "tuple"=some (.type "tuple"))(ha:PE X a ta)
  (he:starEach [.Call (.Name "range" p2) [a] [] pos2] X.env=[(false,eval (.Call (.Name "range" p2) [a] [] pos2) X.env)]:=by rfl) (he2:starEach [a] X.env=[(false,eval a X.env)]:=by rfl) (hpl:(backTo pos (starEach [] X.env)).any (·.1)=false:=by rfl) (hpl2:(backTo pos2 (starEach [] X.env)).any (·.1)=false:=by rfl) :
  PE X (.Call (.Name "tuple" p) [.Call (.Name "range" p2) [a] [] pos2] [] pos) (Di ta):=by
 intro pins s σ H Q I h;refine Kq (cO I hg hm b1 ?_ (by decide) (by decide));refine JJ ?_ he hpl;rw[he];show wpAny _ _ (spliced ((false,eval (.Call (.Name "range" p2) [a] [] pos2) X.env)::[])) _ _ s;refine Calls.spliced_cons ?_;refine Kq (cO I hg2 hm2 boot_range ?_ (by decide) (by decide));refine JJ ?_ he2 hpl2;refine thn (b7 ha cT he2 pos2 pins s σ H (fun xs H1=>∃n:Nat,xs=[.int (n:Nat)]/\n<1000/\∀q,H1 q=none->Q (.ref q) (upd H1 q (.tup (lO n)))) I h) fun us s1 y_=>?_;obtain⟨vs,H1,I1,r1,q1⟩:=y_;obtain⟨n,rfl,hn,q⟩:=q1;obtain⟨u,rfl,t,rfl⟩:=vals1 r1;obtain⟨e1,e2⟩:=vo hn;refine call_range_1 ?_;refine Calls.spliced_nil ?_;refine TR.gZ (I.ok.hd hc) (IsRange.new ..) e2 e1 (by omega) fun h' tk acc kp hacc=>?_;have k2:∀b o,s1.heap.get? b=some o->h'.get? b=some o:=fun b o e=>kp b o (IG _ e);have I2:Inv X pins σ H1 { s1 with heap:=h',toks:=tk }:=I1.kept (t':=tk) k2;refine⟨.ref _,_,I2.laid (t':=tk) (o:=.tup (lO n)) (fun b o e=>IG _ e) (IS _) ?_,rfl,q _ (I2.hok.fresh (IS _))⟩;refine⟨by unfold lO;rw[kb,JH,Jt];omega,acc.toList,sR hacc,?_⟩;have e:acc.toList.toArray=acc:=by simp
 rw[e];exact IsTup.new _ _
end L2
namespace U
open L2
variable {B:Bs}{X:Cx}{a:Expr}{ta:TE'}{p p2 pos pos2:Pos}
def CH(x:PV)(H:PHp)(Q:VK'):Prop:=match x with
 | .int i=>0≤i/\i<1000/\Q (.tup (bX 0 i.toNat)) H
 | _=>False
theorem Fv:CH (.int i) H Q=(0≤i/\i<1000/\Q (.tup (bX 0 i.toNat)) H):=rfl
def y3(ta:TE'):TE':=fun σ H Q=>ta σ H fun x H1=>CH x H1 Q
theorem vU{K:PySem.W.Frag}:RPs K H (bX 0 n) (lO n):=by
 have e1:bX 0 n=((List.range n).map fun k=>((k:Nat):Int)).map PV.int:=by
  unfold bX;rw[Jj];refine J8 fun k _=>?_;show PV.int (0+((k:Nat):Int))=PV.int ((k:Nat):Int);rw[K4]
 have e2:lO n=((List.range n).map fun k=>((k:Nat):Int)).map V.int:=by unfold lO;rw[Jj];rfl
 rw[e1,e2];exact RPs.ints K _
theorem xw(hc:X.calm=true)(hg:Gl X "tuple")(hm:X.mg "tuple"=none)(hg2:Gl X "range")(hm2:X.mg "range"=none)(b1:bootBuiltins "tuple"=some (.type "tuple"))(ha:PE' X B a ta)
  (he:starEach [.Call (.Name "range" p2) [a] [] pos2] X.env=[(false,eval (.Call (.Name "range" p2) [a] [] pos2) X.env)]:=by rfl) (he2:starEach [a] X.env=[(false,eval a X.env)]:=by rfl) (hpl:(backTo pos (starEach [] X.env)).any (·.1)=false:=by rfl) (hpl2:(backTo pos2 (starEach [] X.env)).any (·.1)=false:=by rfl) :
  PE' X B (.Call (.Name "tuple" p) [.Call (.Name "range" p2) [a] [] pos2] [] pos) (y3 ta) :=
 a7 (x9 hc hg hm hg2 hm2 b1 ha he he2 hpl hpl2) fun σ H Q h=>by
  obtain⟨σ',H',Q',s,h,k⟩:=h;refine⟨σ',H',_,s,h,fun x' H1' x H1 h1 rx s1 e1=>?_⟩;cases x' with
  | int i =>
   obtain⟨h0,h3,q⟩:=h1;simp only[RP]at rx;refine⟨i.toNat,by rw[rx,Int.toNat_of_nonneg h0],by omega,fun q' hq=>?_⟩;exact k _ _ _ _ q (oX hq vU) (s1.hid hq) (e1.trans (Ev.hid hq))
  | _=>exact h1.elim
end U
namespace RT
theorem pV:Manifest.owners.lookup (String.ofList ['d','e','s','r','e','v','e','r'].reverse)=some Manifest.sig_reversed:=by kernel_rfl
theorem i0:Slot "reversed" "__next__" "reversed.__next__" :=
 .of (owner:="reversed") (n:="__next__") (by rw[typeLookup_type,KD];kernel_rfl) (by decide +kernel) (by decide +kernel) (by decide +kernel) (by first | exact .inl (by decide +kernel) | exact .inr (by decide +kernel)) (by rw[KZ];kernel_rfl)
theorem pE:entryFor table "reversed.__next__"=some Builtin.«reversed.__next__»:=entryFor_of_tree (by kernel_rfl)
theorem vy(a:Value):argsOk "reversed.__next__" ⟨[a],[]⟩:=by
 unfold argsOk;rw[signature?_of (id:="reversed.__next__") (n:=['_','_','t','x','e','n','_','_']) (o:=['d','e','s','r','e','v','e','r']) (by kernel_rfl) pV]
 kernel_rfl
theorem tP:Slot "reversed" "__iter__" "reversed.__iter__" :=
 .of (owner:="reversed") (n:="__iter__") (by rw[typeLookup_type,KD];kernel_rfl) (by decide +kernel) (by decide +kernel) (by decide +kernel) (by first | exact .inl (by decide +kernel) | exact .inr (by decide +kernel)) (by rw[KZ];kernel_rfl)
theorem zC(a:Value):argsOk "reversed.__iter__" ⟨[a],[]⟩:=by
 unfold argsOk;rw[signature?_of (id:="reversed.__iter__") (n:=['_','_','r','e','t','i','_','_']) (o:=['d','e','s','r','e','v','e','r']) (by kernel_rfl) pV]
 kernel_rfl
theorem zO:typeLookup (.type "tuple") "__reversed__"=pure none:=by rw[typeLookup_type,KD];kernel_rfl
theorem wq:entryFor table "reversed.__iter__"=some Builtin.«dict_keyiterator.__iter__» :=
 entryFor_alias (id':="dict_keyiterator.__iter__") (by kernel_rfl) (by first | rfl | decide +kernel |(unfold String.splitOn;simp +decide [String.splitOnAux])) (by decide +kernel) (by kernel_rfl)
theorem rA:Slot "reversed" "__init__" "object.__init__" :=
 .of (owner:="object") (n:="__init__") (by rw[typeLookup_type,KD];kernel_rfl) (by decide +kernel) (by decide +kernel) (by decide +kernel) (by first | exact .inl (by decide +kernel) | exact .inr (by decide +kernel)) (by rw[KZ];kernel_rfl)
theorem called:TypeCalled "reversed" "reversed.__new__" "object.__init__" :=
 ⟨by decide +kernel,by decide +kernel,⟨_,_,F.mro_reversed⟩,F.made_reversed,by decide +kernel,by rw[KZ];kernel_rfl,rA⟩
def rv(t:Addr)(i:Int):Obj:={ cls:=.type "reversed",data:=.fields #[.ref t,rawInt i] }
theorem ya:isSubtype (.type "tuple") (.type "dict")=pure false:=by rw[KZ];kernel_rfl
theorem g5(t:Addr)(its:Array Value):Meets (Builtin.«reversed.__new__» ⟨[.type "reversed",.ref t],[]⟩) (fun A R s=>IsTup s.heap t its/\(its.size:Int)<2 ^ 63/\R (.ok (.ret (.ref s.heap.objs.size))) { s with heap:=s.heap.push (rv t ((its.size:Int) - 1)),toks:=s.toks+1+1 }) :=
 .of_wp fun prog w A R s h=>by
  obtain⟨ht,hz,h⟩:=h;unfold Builtin.«reversed.__new__»;refine IC (wpAny_of_eq (newClass_reversed _) ?_)
  try dsimp only
  refine IC (wpAny_of_eq (a:=()) (by first | rfl | kernel_rfl) ?_);refine IC (wpAny_of_eq (a:=()) (by first | rfl | kernel_rfl) ?_)
  try dsimp only
  refine IC (wpAny_specialOf ht.typeIs zO ?_)
  try dsimp only
  refine IC ?_
  wp_delta
  refine IC (wpAny_isInstance (T:="tuple") (b:=false) ht.typeIs ya ?_);rw[IX (by decide)];refine IC (wpAny_specialOf ht.typeIs slot_tuple_getitem.lookup ?_);dsimp only;rw[IZ (by decide +kernel)];refine IH ?_;rw[IX (by decide)];refine IC (len_tuple ht hz ?_);refine IC (m:=asInt? _) (IH ?_);dsimp only;refine IC ?_;unfold Builtin.SmallTypes.newRecord;exact JI (IH ⟨_,rfl,h⟩)
def ip(h:Heap)(a t:Addr)(i:Int):Prop:=∃o,h.get? a=some o/\o.cls=.type "reversed"/\o.data=.fields #[.ref t,rawInt i]
theorem ip.at(x:ip h a t i)(e:∀o,h.get? a=some o->h'.get? a=some o):ip h' a t i:=let ⟨o,ho,r⟩:=x;⟨o,e _ ho,r⟩
section
variable {prog:Program}{w:World}{A:Around}{E:Value->Shared->Prop}{s:Shared}{it t:Addr}{its:Array Value}
theorem ip.ty(x:ip s.heap it t i):s.TypeIs (.ref it) "reversed":=let ⟨o,ho,hc,_⟩:=x;⟨o,ho,hc⟩
theorem vf(ht:IsTup s.heap t its)(hz:(its.size:Int)<2 ^ 63)(h:Q (.ref s.heap.objs.size) { s with heap:=s.heap.push (rv t ((its.size:Int) - 1)),toks:=s.toks+1+1 }) :
  wpAny (model prog w) A (call (.type "reversed") [.ref t]) Q E s :=
 callType_new called (by decide) (F.typeCall_reversed_1 _) (F.newCall_reversed_1 _) (fun obj=>F.args_object_init_2 obj _) F.entry_reversed_new (g5 t its) ⟨ht,hz,⟨⟨_,IT _ rfl,rfl⟩,h⟩⟩
theorem zy(h:i<n):seqIndex? ((i:Nat):Int) n=some i:=by
 unfold seqIndex?;simp only[show ¬(((i:Nat):Int)<0) by omega,if_false];rw[IZ (by simp;omega),Jq]
theorem next_item{i:Nat}{x:Value}{Q:Option Value->Shared->Prop}(hit:ip s.heap it t ((i:Nat):Int))(ht:IsTup s.heap t its)(hx:its[i]?=some x)(hz:its.size<2 ^ 62)
  (hQ:∀h' tk,ip h' it t (((i:Nat):Int) - 1)->Heap.SameBut it s.heap h'->Q (some x) { s with heap:=h',toks:=tk }):wpAny (model prog w) A (pyNext (.ref it)) Q E s:=by
 obtain⟨o,ho,hc,hd⟩:=id hit;have hi:i<its.size:=by
  rcases Nat.lt_or_ge i its.size with q | q
  ·exact q
  ·rw[KP q]at hx;cases hx
 unfold pyNext;refine IC (wpAny_attempt (Kt (name:=Str.ofString "__next__") hit.ty i0 (J4 i0 hit.ty pE ?_ (vy _))));unfold Builtin.«reversed.__next__»;refine IC (wpAny_of_eq (a:=(Value.ref it,[])) rfl ?_);dsimp only;refine IC (wpAny_field ho hd (x:=.ref t) rfl ?_);refine IC (wpAny_field ho hd (x:=rawInt ((i:Nat):Int)) rfl ?_);show wpAny _ _ (if ((i:Nat):Int)<0 then _ else _) _ _ s;rw[IX (by omega)];refine IC (wpAny_specialOf ht.typeIs slot_tuple_getitem.lookup ?_);rw[IX (by decide)];refine IC (wpAny_mkInt ?_);refine IC (wpAny_attempt (getItem_tuple (j:=i) (x:=x) (s:={ s with toks:=s.toks+1 }) ht (by omega) (by omega) (zy hi) hx ?_));dsimp only;refine IC (wpAny_field ho hd (x:=rawInt ((i:Nat):Int)) rfl ?_);refine IC (wpAny_setField (s:={ s with toks:=s.toks+1 }) ho hd (by simp) ?_);refine IH ⟨x,rfl,IH (hQ _ _ ?_ (J1 ..))⟩;refine⟨_,JX _ ho (Obj.isFreed_of_fields (Obj.data_mapFields hd _)),(Obj.cls_mapFields ..).trans hc,?_⟩;rw[Obj.data_mapFields hd];simp
theorem next_end{Q:Option Value->Shared->Prop}(hA:A.handled=none)(hit:ip s.heap it t (-1))(hQ:∀h',Heap.ExtBut it s.heap h'->Q none { s with heap:=h' }):wpAny (model prog w) A (pyNext (.ref it)) Q E s:=by
 obtain⟨o,ho,hc,hd⟩:=id hit;unfold pyNext;refine IC (wpAny_attempt (Kt (name:=Str.ofString "__next__") hit.ty i0 (J4 i0 hit.ty pE ?_ (vy _))));unfold Builtin.«reversed.__next__»;refine IC (wpAny_of_eq (a:=(Value.ref it,[])) rfl ?_);dsimp only;refine IC (wpAny_field ho hd (x:=.ref t) rfl ?_);refine IC (wpAny_field ho hd (x:=rawInt (-1)) rfl ?_);show wpAny _ _ (if (-1:Int)<0 then _ else _) _ _ s;rw[IZ (by decide)];refine IC (wpAny_rule ?_);refine IC ?_
 wp_delta
 refine IC (wpAny_setField ho hd (by simp) ?_);have d2:=Obj.data_mapFields hd fun vs=>vs.set! 1 (rawInt (-1));have o2:=JX _ ho (Obj.isFreed_of_fields d2);refine wpAny_setField (s:={ s with heap:=s.heap.update it _ }) o2 d2 (by simp) ?_;show wpAny _ _ (Builtin.SmallTypes.stopIteration >>= _) _ _ _;refine IC ?_;show wpAny _ _ (newExc (Value.type "StopIteration") [] >>= _) _ _ _;refine IC (?_);simp only[newTuple,newExc];refine IC (JI (?_) (by size_fits));refine IC (m:=firstArgMember _ _) (wpAny_of_eq (a:=Value.none) (by first | rfl |(simp only[firstArgMember];rfl)) (?_));refine JI (?_) (by size_fits);simp only[raiseNew,bind_assoc];refine IC (wpAny_handled (?_))
 first | rw[show A.in1.handled=none from hA] | rw[hA]
 refine IC (IH (wpAny_throw (?_)));refine IC (wpAny_isInstance (T:="StopIteration") (b:=true) ⟨_,IT _ rfl,rfl⟩ isSubtype_stop ?_);exact IH (hQ _ ((((J1 ..).trans (J1 ..)).extBut.push _).push _))
theorem gX(hit:ip s.heap it t i)(h:Q (.ref it) s):wpAny (model prog w) A (pyIter (.ref it)) Q E s:=by
 refine wpAny_pyIter_slot hit.ty tP (J4 tP hit.ty wq ?_ (zC _));show wpAny _ _ (ret (Value.ref it)) _ _ s;exact IH ⟨_,rfl,"reversed",_,hit.ty,i0.lookup,h⟩
end
section
variable {prog:Program}{w:World}{A:Around}{E:Value->Shared->Prop}{s:Shared}{it t:Addr}{its:Array Value}
end
end RT
namespace RT
end RT
namespace L2
variable {X:Cx}{a:Expr}{ta:TE}{p p2 pos pos2:Pos}
theorem vt{R:α->β->Prop}{l l2:List α}{m m2:List β}(h:Paired R l m)(h2:Paired R l2 m2):Paired R (l++l2) (m++m2):=by
 induction h with
 | nil=>exact h2
 | cons a _ ih=>exact .cons a ih
end L2
namespace U
open L2
variable {B:Bs}{X:Cx}{a:Expr}{ta:TE'}{p p2 pos pos2:Pos}
theorem sZ:bootBuiltins "reversed"=some (.type "reversed"):=by decide +kernel
end U
namespace L2
def Itv(K:PySem.W.Frag)(a:Addr)(n:Nat):It :=
 ⟨fun i H=>∃xs x,SqT K H a xs/\xs.length=n/\n<2 ^ 20/\i<n/\xs[n - 1 - i]?=some x,fun i H x H'=>H'=H/\∀xs,SqT K H a xs->xs[n - 1 - i]?=some x,fun i H=>i=n⟩
theorem vY{K:PySem.W.Frag}(a it:Addr)(n:Nat):Turn P w K tg (Itv K a n) [it] it (fun i h=>RT.ip h it a ((n:Int) - 1 - (i:Nat))) where
 mem:=by simp
 obj:=fun i h st b hb=>by
  have e:b=it:=by simpa using hb
  subst e;obtain⟨o,e,c,d⟩:=st;exact⟨o,e,fun v z=>by rw[d]at z;cases z⟩
 keep:=fun i h h' st k=>st.at fun o e=>k it (by simp) o e
 item:=by
  intro X hP hw hK hc i pins s σ H E I hf st hg;subst hP hw hK;obtain⟨xs,x,hq,hn,hn2,hi,hx⟩:=hg;obtain⟨its,rv,p,hz⟩:=I.tuple hq;obtain⟨u,hu,ru⟩:=rv.get hx;obtain⟨f0,f1,f2,f3,f4,f5⟩:=hf it (by simp);have hl:=rv.length;have hsz:its.toArray.size<2 ^ 62:=by
   show its.length<2 ^ 62;have:(2:Nat) ^ 20≤2 ^ 62:=JV (by decide) (by decide);omega
  have ei:(n:Int) - 1 - (i:Nat)=((n - 1 - i:Nat):Int):=by omega
  rw[ei]at st;refine RT.next_item st (show IsTup s.heap a its.toArray from p) (x:=u) (by simpa using hu) hsz fun h' tk st' sb=>?_;have I1:Inv X pins σ H { s with heap:=h',toks:=tk }:=I.turned (t':=tk) (fun b o hb e=>(sb.2 b hb).trans e) f0 f1 f3 f4 f5;obtain⟨o,e,c,d⟩:=id st';refine⟨u,rfl,mJ (s:={ s with heap:=h',toks:=tk }) e c d (by decide) ⟨x,H,I1,ru,⟨rfl,fun ys hy=>by rw[I.tuple_inj hy hq];exact hx⟩,?_,fun b hb=>(hf b hb).1⟩⟩;have e2:(n:Int) - 1 - ((i+1:Nat):Int)=((n - 1 - i:Nat):Int) - 1:=by omega
  rw[e2];exact st'
 done:=by
  intro X hP hw hK hc i pins s σ H E I hf st hg;subst hP hw hK;have hg:i=n:=hg;subst hg;obtain⟨f0,f1,f2,f3,f4,f5⟩:=hf it (by simp);rw[show(i:Int) - 1 - (i:Nat)=-1 by omega]at st;exact RT.next_end (I.ok.hd hc) st fun h' eb=>⟨rfl,I.turned (t':=s.toks) (fun b o hb e=>eb b o hb e) f0 f1 f3 f4 f5⟩
 self:=fun _ _ _ _ _ st h=>RT.gX st h
section
variable {X:Cx}
def iRv(K:PySem.W.Frag)(ta:TA):TI:=fun σ H R=>ta σ H fun vs H1=>∃a us,vs=[.ref a]/\SqT K H1 a us/\us.length≤1000/\R (Itv K a us.length) H1
theorem Dg{tg:Expr}{c:Expr}{ta:TA}{p pos:Pos}(hg:Gl X "reversed")(hm:X.mg "reversed"=none)(b2:bootBuiltins "reversed"=some (.type "reversed"))(ha:PA X [c] ta)(hs:starEach [c] X.env=[(false,eval c X.env)]:=by rfl) :
  PI X tg (.Call (.Name "reversed" p) [c] [] pos) (iRv X.K ta):=by
 intro pins s σ H R I h;refine Call_ (cO I hg hm b2 (JJ (thn (ha pos pins s σ H _ I h) fun us s1 ⟨vs,H1,I1,r1,q1⟩=>?_) hs rfl));obtain⟨a,xs,e,hq,hl,q⟩:=q1;subst e;cases r1 with
 | cons r rr =>
  cases rr;cases r;obtain⟨its,rv,p,hz⟩:=I1.tuple hq;have hlen:=rv.length;have hs:its.toArray.size=xs.length:=by simp;omega
  refine RT.vf p (by rw[hs];omega) ?_;have st:RT.ip (s1.heap.push (RT.rv a ((its.toArray.size:Int) - 1))) s1.heap.objs.size a ((xs.length:Int) - 1 - ((0:Nat):Int)):=by
   rw[hs,show(xs.length:Int) - 1 - ((0:Nat):Int)=(xs.length:Int) - 1 by omega];exact⟨_,IT _ rfl,rfl,rfl⟩
  refine RT.gX (s:={ s1 with heap:=s1.heap.push (RT.rv a ((its.toArray.size:Int) - 1)),toks:=s1.toks+1+1 }) st ?_;refine⟨s1.heap.objs.size,[s1.heap.objs.size],_,_,H1,rfl,I1.kept (t':=s1.toks+1+1) fun b o e=>IG _ e,vY a _ xs.length,st,fun b hb=>?_,q⟩;have e:b=s1.heap.objs.size:=by simpa using hb
  subst e;exact I1.fpOk (IS _) (I1.hok.fresh (IS _))
end
end L2
namespace U
open L2
variable {B:Bs}{X:Cx}{pos:Pos}
def rv1(vs:List PV)(H1:PHp)(R:It'->PHp->Prop):Prop:=match vs with
 | [.tup l]=>l.length≤1000/\R ⟨l.reverse,fun _=>True⟩ H1
 | _=>False
theorem Du:rv1 [.tup l] H R=(l.length≤1000/\R ⟨l.reverse,fun _=>True⟩ H):=rfl
def DE(t:TA'):TI':=fun σ H R=>t σ H fun vs H1=>rv1 vs H1 R
theorem CN{tg:Expr}{c:Expr}{t:TA'}{p:Pos}(hg:Gl X "reversed")(hm:X.mg "reversed"=none)(ha:PA' X B [c] t)(hs:starEach [c] X.env=[(false,eval c X.env)]:=by rfl) :
  PIH X B tg (.Call (.Name "reversed" p) [c] [] pos) (DE t):=fx (Dg hg hm sZ ha hs) fun σ H R y_=>by
 obtain⟨σ',H',R',s,h,k⟩:=y_;refine⟨σ',H',_,s,h,fun vs' H1' vs H1 h1 r1 s1 e1=>?_⟩;unfold rv1 at h1;split at h1
 ·rename_i l;simp only[RPs,RP]at r1;obtain⟨u,r,rfl,⟨a,us,rfl,q,rl⟩,rfl⟩:=r1;obtain⟨hl,h1⟩:=h1;have hlen:=RPs.length _ rl;refine⟨a,us,rfl,q,by omega,k _ H1' _ H1 h1 ⟨fun H2' H2 i k2 hr _ hi=>?_,fun H2' H2 i x H3 k2 hr _ y=>?_,fun H2' H2 k2 hr _=>?_⟩ s1 e1⟩
  ·have hi':i<l.length:=by simpa using hi
   have hj:us.length - 1 - i<us.length:=by omega
   exact⟨us,_,k2.sqT q,rfl,by omega,by omega,ID hj⟩
  ·obtain⟨rfl,y⟩:=y;refine⟨hr,Ev.refl _ _,fun x' hx=>?_⟩;have hi:i<l.length:=by
    have:=(IM.mp hx).1;simpa using this
   rw[List.getElem?_reverse hi]at hx;obtain⟨u,e,ru⟩:=RPs.get _ (RPs.kp _ k2 rl) hx;have ey:=y us (k2.sqT q);rw[hlen,e]at ey;cases ey;exact ru
  ·show l.reverse.length=us.length;rw[List.length_reverse,hlen]
 ·exact h1.elim
end U
namespace L2
end L2
namespace U
open L2
variable {B:Bs}{X:Cx}{a b e:Expr}{ta tb:TE'}{p p2 pos pos2:Pos}
end U
namespace SI
section
variable {prog:Program}{w:World}{A:Around}{E:Value->Shared->Prop}{s:Shared}
end
end SI
namespace L2
variable {X:Cx}
end L2
namespace U
open L2
section
variable {B:Bs}{X:Cx}{a b e:Expr}{ta tb:TE'}{p p2 pos pos2:Pos}
end
section
variable {B:Bs}
section
variable {X:Cx}{k:Nat}{f C:Addr}{fd:FuncData}{ps:List Str}{sp:Sp'}{E:XK}{E':XK'}{x m:Str}{p pos apos:Pos}{e o:Expr}{es:List Expr}{ta:TE'}{t:TA'}
end
end
end U
namespace L2
section
variable {prog:Program}{w:World}{A:Around}{E:Value->Shared->Prop}{s:Shared}
theorem eY{lo hi:Option Int}(tA:IsTup s.heap t items)(sA:s.heap.IsSliceOf sl vl vu .none)(pA:IsPart vl lo)(pB:IsPart vu hi)
  (hw:HT.sIx items.size 0 lo=0/\HT.sIx items.size items.size hi=items.size) (h:Q (.ref t) s):wpAny (model prog w) A (getItem (.ref t) (.ref sl)) Q E s:=by
 obtain⟨os,hos,hcs,hds⟩:=id sA;have tB:s.TypeIs (.ref sl) "slice":=⟨os,hos,hcs⟩;unfold getItem
 try with_reducible refine JT ?_
 first | refine IC (IH ?_) | skip
 refine IC (wpAny_sequenceKey tA.typeIs (by decide) ?_);refine IC (Kt (name:=Str.ofString "__getitem__") tA.typeIs PyProof.Rows.slot_tuple_getitem
  (J4 PyProof.Rows.slot_tuple_getitem tA.typeIs entry_tuple_getitem ?_ (args_tuple_getitem _ _)))
 show wpAny _ _ (Builtin.Tuple.tupleItemsOf (.ref t) >>= _) _ _ s;refine IC (tupleItemsOf_ tA ?_);refine IC (wpAny_typeOf tB ?_);rw[IZ (by decide)];refine IC (HT.dj sA pA pB ?_);have hyes:(((HT.sIx items.size 0 lo:Nat):Int)==0&&(1:Int)==1&&(HT.sIx items.size items.size hi - HT.sIx items.size 0 lo)==items.size)=true:=by
  rw[hw.1,hw.2];simp
 show wpAny _ _ (if (((HT.sIx items.size 0 lo:Nat):Int)==0&&(1:Int)==1&&(HT.sIx items.size items.size hi - HT.sIx items.size 0 lo)==items.size)=true then _ else _) _ _ s;rw[IZ hyes];unfold Builtin.Tuple.tupleIsExact;have hT:=tA.typeIs
 wp_walk
 exact⟨_,rfl,IH h⟩
end
variable {X:Cx}
def Ht(K:PySem.W.Frag):V->Option Int->Option Int->Hp->VK->Prop:=fun x lo hi H Q=>∃a xs,x=.ref a/\SqT K H a xs /\
 ((HT.sIx xs.length 0 lo=0/\HT.sIx xs.length xs.length hi=xs.length)->Q (.ref a) H)/\(¬(HT.sIx xs.length 0 lo=0/\HT.sIx xs.length xs.length hi=xs.length)->∀p,H p=none->Q (.ref p) (upd H p (.tup (k6 xs lo hi))))
theorem wz:SlR X (Ht X.K):=by
 intro pins s σ H x v vl vu lo hi sl Q I rx hs pl pu h;obtain⟨a,xs,rfl,hx,q1,q2⟩:=h;by_cases hw:HT.sIx xs.length 0 lo=0/\HT.sIx xs.length xs.length hi=xs.length
 ·cases rx;obtain⟨its,r,ht,hz⟩:=I.tuple hx;have hlen:its.toArray.size=xs.length:=by rw[IL];exact r.length.symm
  refine⟨"tuple",_,PyProof.Rows.slot_tuple_getitem.lookup,ht.typeIs,?_⟩;exact eY ht hs pl pu (by rw[hlen];exact hw) ⟨.ref a,H,I,rfl,q1 hw⟩
 ·exact uZ pins s σ H _ v vl vu lo hi sl Q I rx hs pl pu ⟨a,xs,rfl,hx,hw,q2 hw⟩
end L2
namespace U
open L2
variable {B:Bs}{X:Cx}{e:Expr}{ta:TE'}{pos:Pos}
def ub(x:PV)(lo hi:Option Int)(H3:PHp)(Q:VK'):Prop:=match x with
 | .tup l=>Q (.tup (cY l lo hi)) H3
 | _=>False
theorem F9{lo hi:Option Int}:ub (.tup l) lo hi H Q=Q (.tup (cY l lo hi)) H:=rfl
def o9(ta:TE')(tl th:TO'):TE':=fun σ H Q=>ta σ H fun x H1=>tl σ H1 fun lo H2=>th σ H2 fun hi H3=>ub x lo hi H3 Q
theorem jS{lo hi:Option Expr}(he:PE' X B e ta)(hl:PO' X B lo tl)(hu:PO' X B hi th):PE' X B (.Subscript e (.Slice lo hi none p2) pos) (o9 ta tl th) :=
 a7 (nh wz he hl hu) fun σ H Q y_=>by
 obtain⟨σ',H',Q',s,h,k⟩:=y_;refine⟨σ',H',_,s,h,fun x H1' v H1 h1 r1 s1 e1=>⟨σ',H1',_,s1,h1,fun l H2' H2 h2 s2 e2=>⟨σ',H2',_,s2,h2,fun u H3' H3 h3 s3 e3=>?_⟩⟩⟩;have r3:=RP.kp _ (e3.kp s2.hp) (RP.kp _ (e2.kp s1.hp) r1);have e123:=e1.trans (e2.trans e3);cases x with
 | tup xs =>
  have r3':=r3;simp only[RP]at r3;obtain⟨a,us,e,q,r⟩:=r3;refine⟨a,us,e,q,fun hw=>?_,fun _ p n=>?_⟩
  ·have ex:cY xs l u=xs:=by
    unfold cY;rw[RPs.length _ r]at hw;rw[hw.1,hw.2,List.drop_zero,Nat.sub_zero,Jv]
   have h4:Q' (.tup (cY xs l u)) H3':=h3;rw[ex]at h4;rw[←e];exact k _ _ _ _ h4 r3' s3 e123
  ·exact k _ _ _ _ h3 (oX n (kM r)) (s3.hid n) (e123.trans (Ev.hid n))
 | _=>exact h3.elim
end U
namespace L2
variable {X:Cx}
end L2
namespace U
open L2
variable {B:Bs}{X:Cx}{a b:Expr}{ta tb:TE'}{pos:Pos}
def Hq:List PV->PHp->VK'->Prop:=fun xs H Q=>match xs with
 | [.int i,.int j]=>Q (.int (if j<i then j else i)) H
 | _=>False
theorem Fz:Hq [.int i,.int j] H Q=Q (.int (if j<i then j else i)) H:=rfl
end U
namespace L2
variable {X:Cx}
theorem uQ{ws:List Value}(ht:IsTup s.heap t ([]:List Value).toArray)(hb:IsTup s.heap b ws.toArray)(h:Q (.ref b) s):wpAny (model prog w) A (binaryOp .Add (.ref t) (.ref b)) Q E s:=by
 obtain⟨⟨cls,dd,data,sl⟩,g,hc,n,g2⟩:=id ht;obtain⟨⟨cls2,dd2,data2,sl2⟩,k,hc2,n2,k2⟩:=id hb;simp only at hc g2 hc2 k2;subst hc g2 hc2 k2;exact concat_meets ⟨_,g,rfl⟩ ⟨_,k,rfl⟩ noFill_tuple_add seq_tuple_add PySem.F.slot_tuple_add PySem.F.entry_tuple_add (PySem.F.args_tuple_add_2 _ _) (tuple_addW0 t b _ ws.toArray n n2 dd dd2 sl sl2 rfl) ⟨g,k,h⟩
def yU(K:PySem.W.Frag):R2:=fun x y H Q=>∃a b xs ys,x=.ref a/\y=.ref b/\SqT K H a xs/\SqT K H b ys/\xs.length+ys.length≤sizeLine/\(xs=[]->Q (.ref b) H)/\(ys=[]->Q (.ref a) H)/\(ys≠[]->∀p,H p=none->Q (.ref p) (upd H p (.tup (xs++ys))))
theorem xG:OpR X (binaryOp .Add) (yU X.K):=by
 intro pins s σ H x y v u Q I rx ry h;obtain⟨a,b,xs,ys,rfl,rfl,ha,hb,hz,q0,q1,q2⟩:=h;by_cases e:xs=[]
 ·cases rx;cases ry;subst e;obtain⟨its,r1,p1,_⟩:=I.tuple ha;obtain⟨its2,r2,p2,_⟩:=I.tuple hb;cases r1;exact uQ p1 p2 ⟨.ref b,H,I,rfl,q0 rfl⟩
 ·exact xo pins s σ H _ _ v u Q I rx ry ⟨a,b,xs,ys,rfl,rfl,ha,hb,e,hz,q1,q2⟩
end L2
namespace U
open L2
section
variable {B:Bs}{X:Cx}{a b:Expr}{ta tb:TE'}{pos:Pos}
def mw:R2':=fun x y H Q=>match x,y with
 | .tup l,.tup m=>l.length+m.length≤sizeLine/\Q (.tup (l++m)) H
 | _,_=>False
theorem He:mw (.tup l) (.tup m) H Q=(l.length+m.length≤sizeLine/\Q (.tup (l++m)) H):=rfl
theorem xr{K:PySem.W.Frag}:VR K B mw (yU K):=by
 intro σ' σ H' H x' y' x y Q' Q s rx ry h k;unfold mw at h;split at h
 ·rename_i l m;obtain⟨hl,q⟩:=h;have rx':=rx;have ry':=ry;simp only[RP]at rx ry;obtain⟨a,us,rfl,ha,r1⟩:=rx;obtain⟨b,ws,rfl,hb,r2⟩:=ry;have l1:=RPs.length _ r1;have l2:=RPs.length _ r2;refine⟨a,b,us,ws,rfl,rfl,ha,hb,by rw[l1,l2];exact hl,fun e=>?_,fun e=>?_,fun e p hp=>?_⟩
  ·have:l=[]:=Kd.mp (by rw[←l1,e];rfl);rw[this,List.nil_append]at q;exact k _ _ _ _ q ry' s (Ev.refl _ _)
  ·have:m=[]:=Kd.mp (by rw[←l2,e];rfl);rw[this,Ji]at q;exact k _ _ _ _ q rx' s (Ev.refl _ _)
  ·exact k _ _ _ _ q (oX hp (RPs.append _ r1 r2)) (s.hid hp) (Ev.hid hp)
 ·exact h.elim
theorem lz(ha:PE' X B a ta)(hb:PE' X B b tb):PE' X B (.BinOp a .Add b pos) (uOp mw ta tb):=fi xG xr ha hb
end
section
variable {B:Bs}{X:Cx}
theorem two{x y:V}{its:List Value}(h:Paired R [x,y] its):∃u v,its=[u,v]/\R x u/\R y v:=by
 cases h with
 | cons a h=>cases h with
  | cons b h=>cases h;exact⟨_,_,rfl,a,b⟩
end
section
variable {B:Bs}{X:Cx}
end
end U
namespace L2
variable {X:Cx}
def sT(l:List Nat):Str:=⟨l.toArray⟩
end L2
namespace U
open L2
variable {B:Bs}{X:Cx}{a b o e:Expr}{es:List Expr}{ta tb to:TE'}{t:TA'}{pos apos cpos:Pos}{name:Str}
abbrev tx(l:List Nat):PV:=.str (sT l)
def IB:R2':=fun x y H Q=>match x,y with
 | .str z,.int i=>z.length≤sizeLine/\∃c,atI z.cps.toList i=some c/\Q (.str ⟨#[c]⟩) H
 | _,_=>False
def IA:PV->List PV->PHp->VK'->Prop:=fun x vs H Q=>match x,vs with
 | .str z,[.ref a]=>∃ys:List Str,H a=some (.lst (ys.map PV.str))/\z.length≤16/\(ys.map (·.length)).sum+ys.length≤1048576/\Q (.str (Txt.join z ys)) H
 | _,_=>False
def A3(o i v:PV)(H:PHp)(Q:PHp->Prop):Prop:=match o,i with
 | .ref a,.int k=>∃l j,H a=some (.lst l)/\ixN l.length k=some j/\Q (put H a (.lst (l.set j v)))
 | _,_=>False
theorem Hw{a:Addr}:A3 (.ref a) (.int k) v H Q=∃l j,H a=some (.lst l)/\ixN l.length k=some j/\Q (put H a (.lst (l.set j v))):=rfl
def D8(to ti:TE'):TG':=fun v σ H Q=>to σ H fun o H1=>ti σ H1 fun i H2=>A3 o i v H2 fun H3=>Q σ H3
theorem ug{i:Expr}{ti:TE'}(ho:PE' X B o to)(hi:PE' X B i ti) (ha:∀v,assign (.Subscript o i pos) X.env v=(do
   let ov←holding [v] (eval o X.env)
   let iv←holding [v,ov] (eval i X.env)
   standAt pos
   holding [v,ov,iv] (setItem ov iv v)
   release [v,ov,iv] []):=by intro _;rfl):PG' X B (.Subscript o i pos) (D8 to ti):=lC (AL ho hi set_list ha) fun v σ H Q h=>by
 obtain⟨v',σ',H',Q',rv,s,h,k⟩:=h;refine⟨σ',H',_,s,h,fun o' H1' o H1 h1 ro s1 e1=>⟨σ',H1',_,s1,h1,fun i' H2' i H2 h2 ri s2 e2=>?_⟩⟩;unfold A3 at h2;split at h2
 ·rename_i a n;obtain⟨l,j,ea,ej,q⟩:=h2;have ro2:=RP.kp X.K (e2.kp s1.hp) ro;have rv2:=RP.kp X.K ((e1.trans e2).kp s.hp) rv;simp only[RP]at ro2 ri;obtain⟨us,eg,r⟩:=s2.hp _ _ ea;have new:OAt X.K (upd H2 a (.lst (us.set j v))) a (.lst (l.set j v')):=⟨_,aR,RPs.kp X.K (s2.hp.kpw ea) (RPs.set X.K rv2 j r)⟩;exact⟨a,us,n,j,ro2,ri,eg,by rw[RPs.length _ r];exact ej,k _ _ _ _ q (s2.wr ea new) ((e1.trans e2).trans (Ev.wr ea))⟩
 ·exact h2.elim
end U
namespace L2
variable {X:Cx}
section
variable {e e3:Expr}{te:TE}{ts:TO}{pos p2:Pos}
end
end L2
namespace U
open L2
variable {B:Bs}{X:Cx}{a b o e e3:Expr}{es:List Expr}{ta tb to:TE'}{t:TA'}{pos p2 apos cpos:Pos}{name:Str}
def GH:List PV->PHp->VK'->Prop:=fun xs H Q=>match xs with
 | [.int i,.int j]=>Q (.int (if j>i then j else i)) H
 | _=>False
theorem Gi:GH [.int i,.int j] H Q=Q (.int (if j>i then j else i)) H:=rfl
end U
namespace ST2
section
variable {prog:Program}{w:World}{A:Around}{E:Value->Shared->Prop}{s:Shared}
end
end ST2
namespace L2
variable {X:Cx}
end L2
namespace U
open L2
section
variable {B:Bs}{X:Cx}
def AF:List PV->PHp->VK'->Prop:=cP fun x H Q=>match x with
 | .tup l=>∃ns:List Int,l=ns.map PV.int/\ns.length<64/\∀(r:Addr) (ms:List Int),H r=none->ms.Perm ns->ms.Pairwise (·≤·)->Q (.ref r) (put H r (.lst (ms.map PV.int)))
 | _=>False
theorem Hr:AF [.tup l] H Q=∃ns:List Int,l=ns.map PV.int/\ns.length<64/\∀(r:Addr) (ms:List Int),H r=none->ms.Perm ns->ms.Pairwise (·≤·)->Q (.ref r) (put H r (.lst (ms.map PV.int))):=rfl
end
section
variable {B:Bs}{X:Cx}{pos:Pos}{x:Str}{a b e:Expr}{ta tb te:TE'}
theorem gN(i:Nat)(hN:X.N.Nodup)(hi:X.N[i]?=some x:=by rfl)(hx:Loc X.env.scope x:=by first | exact Or.inl rfl | exact Or.inr rfl)(hf:X.fn x=true∨X.env.scope.names.lookup x=some .local:=by first | exact .inl rfl | exact .inr rfl | assumption):PG' X B (.Name x pos) (fj i):=vX hN hi hx hf
theorem sN{pos':Pos}(i:Nat)(hN:X.N.Nodup)(he:PE' X B e te)(hi:X.N[i]?=some x:=by rfl)(hx:Loc X.env.scope x:=by first | exact Or.inl rfl | exact Or.inr rfl)(hs:swapsWith e (some (.Name x pos')) pos.line X.env=pure false:=by rfl)(hf:X.fn x=true∨X.env.scope.names.lookup x=some .local:=by first | exact .inl rfl | exact .inr rfl | assumption):PS' X B (.Assign [.Name x pos'] e pos) (lY te (fj i)):=Ac hN hi hx he hs hf
theorem iX(ha:PE' X B a ta)(hb:PE' X B b tb)(hs:lr b:=by exact fun _ _=>rfl):PE' X B (.Subscript a b pos) (uOp uIx ta tb):=EW ha hb hs
theorem cW{op:CmpOp}{r':R2'}{r:R2}(ho:OpR X (compareOp op) r)(v:VR X.K B r' r)(ha:PE' X B a ta)(hb:PE' X B b tb)(hm:behindInMarks op b=false:=by with_unfolding_all rfl):PT' X B (.Compare a [op] [b] pos) (hU (uOp r' ta tb)):=uO ho v ha hb hm
theorem cN{op:CmpOp}{r':R2'}{r:R2}(ho:OpR X (compareOp op) r)(v:VR X.K B r' r)(ha:PE' X B a ta)(hb:PE' X B b tb)(h1:op≠.In:=by decide)(h2:op≠.NotIn:=by decide):PT' X B (.Compare a [op] [b] pos) (hU (uOp r' ta tb)):=uO ho v ha hb (bS _ h1 h2)
section
variable {N2:List Str}{nt:Nat}{js:List Nat}{scope sc:Scope}{cl:List (Str×Addr)}{elt iter tg:Expr}{ifs:List Expr}{wi:TI'}{g:TG'}{tt:TT'}{y:Str}{py spos:Pos}
theorem cE(O:b8 X N2 nt js scope cl sc)(hi:PI' X B tg iter wi)(b:∀(s0:Shared) (H0:Hp) (fp:List Addr) (ps:List (Addr×Obj)),gP (cn X N2 scope cl s0 H0 fp ps) B tg ifs elt g tt te)(hc:X.calm=true:=by rfl)(hs:∀x,foldedSetIterable iter X.env x=pure x:=by intro _;rfl) :
  PE' X B (.ListComp elt [⟨tg,iter,ifs,0⟩] scope pos) (h9 nt js wi g tt te):=yi O hc hi b hs
theorem sC(i:Nat)(hN:X.N.Nodup)(O:b8 X N2 nt js scope cl sc)(hi:PI' X B tg iter wi)(b:∀(s0:Shared) (H0:Hp) (fp:List Addr) (ps:List (Addr×Obj)),gP (cn X N2 scope cl s0 H0 fp ps) B tg ifs elt g tt te)
  (hy:X.N[i]?=some y:=by rfl) (hl:Loc X.env.scope y:=by first | exact Or.inl rfl | exact Or.inr rfl) (hc:X.calm=true:=by rfl) (hsw:swapsWith (.ListComp elt [⟨tg,iter,ifs,0⟩] scope pos) (some (.Name y py)) spos.line X.env=pure true:=by rfl) (hs:∀x,foldedSetIterable iter X.env x=pure x:=by intro _;rfl)
  (hf:X.fn y=true∨X.env.scope.names.lookup y=some .local:=by first | exact .inl rfl | exact .inr rfl | assumption):PS' X B (.Assign [.Name y py] (.ListComp elt [⟨tg,iter,ifs,0⟩] scope pos) spos) (lY (h9 nt js wi g tt te) (fj i)):=wN hN hy hl O hc hi b hsw hs hf
end
theorem _root_.L2.bG.mo{j k:Nat}{A:Around}(r:bG k A)(h:j≤k:=by decide):bG j A:=r.mono h
end
section
variable {B:Bs}{X:Cx}
def Cr:R2:=fun x y H Q=>(∃i j,x=.int i/\y=.int j/\Q (.bl (!(i==j))) H)∨(∃a b,x=.bl a/\y=.bl b/\Q (.bl (!(a==b))) H)∨∃a b,x=.str a/\y=.str b/\Q (.bl (!(a==b))) H
open SeqAt in
theorem gK:OpR X (compareOp .NotEq) Cr:=by
 intro pins s σ H x y v u Q I rx ry h;rcases h with⟨i,j,rfl,rfl,q⟩ |⟨i,j,rfl,rfl,q⟩ |⟨i,j,rfl,rfl,q⟩
 ·obtain⟨t,rfl⟩:=rx;obtain⟨t',rfl⟩:=ry;exact RcNeAt.int_int i t j t' _ _ _ _ ⟨.bl _,H,I,rfl,q⟩
 ·cases rx;cases ry;exact RcNeAt.bool_bool i j _ _ _ _ ⟨.bl _,H,I,rfl,q⟩
 ·obtain⟨t,rfl⟩:=rx;obtain⟨t',rfl⟩:=ry;exact RcNeAt.str_str i t j t' _ _ _ _ ⟨.bl _,H,I,rfl,q⟩
def si:R2':=fun x y H Q=>match x,y with
 | .int i,.int j=>Q (.bl (!(i==j))) H
 | .bl i,.bl j=>Q (.bl (!(i==j))) H
 | .str i,.str j=>Q (.bl (!(i==j))) H
 | _,_=>False
theorem FG:si (.int i) (.int j) H Q=Q (.bl (!(i==j))) H:=rfl
theorem GK:si (.bl i) (.bl j) H Q=Q (.bl (!(i==j))) H:=rfl
theorem Fm:si (.str i) (.str j) H Q=Q (.bl (!(i==j))) H:=rfl
theorem g7{K:PySem.W.Frag}:VR K B si Cr:=by
 intro σ' σ H' H x' y' x y Q' Q s rx ry h k;unfold si at h;split at h
 ·simp only[RP]at rx ry;exact .inl ⟨_,_,rx,ry,k _ H' _ H h (by simp[RP]) s (Ev.refl _ _)⟩
 ·simp only[RP]at rx ry;exact .inr (.inl ⟨_,_,rx,ry,k _ H' _ H h (by simp[RP]) s (Ev.refl _ _)⟩)
 ·simp only[RP]at rx ry;exact .inr (.inr ⟨_,_,rx,ry,k _ H' _ H h (by simp[RP]) s (Ev.refl _ _)⟩)
 ·exact h.elim
end
end U
namespace L2
theorem sX{K:PySem.W.Frag}
           
  (S:ax N ps scope) (hr:bG (k+1) A) (e0:ir P w K mg base A outer s H) (ho:s.heap.get? f=some (PySem.W.kla_obj name qual params body scope [] pm c' ctv)) (hcd:s.heap.CodeRec (.ref c') qual)
  (hb:BindsTo s (PySem.W.kla_fn name qual params body scope [] pm (.ref c') ctv) args (ps.zip us)) (hl:vs.length=ps.length) (r:Vals vs us)
  (ht:bG k (A.deeper (envOfC qual scope s.heap.objs.size f (.ref c')))->PE (jF CX P w K mg base N qual scope f (.ref c') A outer s H E) body t) (hq:t (start N vs) H Q) :
  codeAny (model P w) A (.call (.ref f) args) (CR CX outer P w H s Q E) s:=by
 have KX:K.In s.heap:=e0.mod.kin.keeps fun b o e=>(e0.bs b o e).1;have lim:s.heap.NoLimit:=e0.mod.nolimit.keeps fun b o e=>(e0.bs b o e).1;have hkind:∀y∈ps.zip us,scope.names.lookup y.1=some .local∨(scope.names.lookup y.1=some .cell/\((cellsFrom (s.heap.objs.size+1) scope.names []).lookup y.1).isSome=true):=fun y_ hy=>by
  obtain⟨n,v⟩:=y_;rcases S.par n (List.of_mem_zip hy).1 with q | q
  ·exact .inl q
  ·exact .inr ⟨q,PySem.W.cellsFrom_some _ _ _ (.inl q)⟩
 refine PySem.W.kla_callFunE hr.depth ho rfl S.co S.gen rfl hcd (hb _ _ _ _ ?_);refine wpAny_newFunctionEnv_cells S.kind hkind fun env he s1 x=>?_;subst he;refine⟨lim.keeps x.toInCall.keep,PySem.W.kla_codeExpr ?_⟩;have I:Inv (jF CX P w K mg base N qual scope f (.ref c') A outer s H E) [] (start N vs) H s1:=jP S hr.hd e0 hl r x;refine KH (ht (hr.deeper _) [] s1 (start N vs) H _ I hq) (fun u s' hs=>?_) fun e s' hs=>hs;obtain⟨v,H',J,rv,q⟩:=hs;exact⟨v,H',J.os,J.bare,J.base,J.hok,rv,q⟩
end L2
namespace L2
open PySem.W
section
structure zb (H H2:Hp) (P:Addr) (pos:Pos) (q:Str):Prop where
 old:∀b o,H b=some o->b≠P->H2 b=some o
 tab:∃ps,H2 P=some (.tbl ps)/\U.ux H2 pos q ps
structure Eb (X:Cx) (c P:Addr):Prop where
 code:X.env.code=.ref c
 hd:CodeHd X.base c P
 blt:∃bm o,X.mg "__builtins__"=some (.ref bm)/\bm≠builtinsNs/\bm≠mainGlobals/\X.base.get? bm=some o/\o.cls=.type "module"/\o.dict=some builtinsNs/\o.data=.plain
def uf(H:Hp)(f:Addr)(qual:Str)(params:Arguments)(body:Expr)(scope:Scope):Prop :=
 ∃(c:Addr) (oc:Obj) (vs:Array Value) (t:Tok) (pm ctv:Value),H f=some (.frz (kla_obj "<lambda>" qual params body scope [] pm c ctv) (.own 0))/\H c=some (.frz oc (.own 0))/\oc.data=.fields vs/\vs[1]?=some (.str qual t)
def Iz(P:Addr)(pos:Pos)(q:Str)(params:Arguments)(body:Expr)(scope:Scope):TE:=fun _ H Q =>
 (∃ps,H P=some (.tbl ps)/\U.ux H pos q ps)/\∀f H2,H f=none->uf H2 f q params body scope->zb H H2 P pos q->Q (.ref f) H2
theorem zr(L:Eb X c P)(hq:X.env.qual++"<lambda>"=q)(hdef:defaultsOf params X.env=([],[]))(hcl:closureFor scope X.env=pure []) :
  PE X (.Lambda params body scope pos) (Iz P pos q params body scope):=by
 rintro pins s σ H Q I ⟨⟨ps,hP,hT⟩,h⟩;subst hq;have hPs:s.heap.get? P=some (tabObj ps):=I.hok P _ hP;have hbase:∀{b:Addr} {o:Obj},X.base.get? b=some o->b≠P:=fun {b o} e z=>by
  have:=(I.bs b o e).2;rw[z,hP]at this;cases this
 have hg:s.heap.Ns mainGlobals X.mg:=by
  obtain⟨o,es,ep,e,r⟩:=I.ok.mod.glob;exact⟨o,es,ep,I.bk _ _ e,r⟩
 have hgP:mainGlobals≠P:=by
  obtain⟨o,es,ep,e,r⟩:=I.ok.mod.glob;exact hbase e
 obtain⟨bm,ob,b1,b2,b3,b4,b5⟩:=L.blt;have hB:s.heap.BuiltinsAt X.mg P:=⟨bm,ob,b1,b2,b3,hbase b4,I.bk _ _ b4,b5⟩;have hC:CodeHd s.heap c P:=L.hd.keeps I.bk;refine kla_eval hdef ?_;rcases hT with rfl |⟨c',oc,vs,t,rfl,hc',hd',hv'⟩
 ·refine kla_makeFunction (mg:=X.mg) hcl I.ok.glob hg L.code hC hPs trivial rfl hgP hB fun c' ctv h' tk hx hge hlt hrec htb=>?_;obtain⟨c₂,oc,vs,t,e2,hoc,hd,hv⟩:=hrec;cases e2;have hsz:s.heap.objs.size≤h'.objs.size:=Jl hge (Nat.le_of_lt hlt);have fc:H c'=none:=I.hok.fresh hge;have ff:H h'.objs.size=none:=I.hok.fresh hsz;have ncf:c'≠h'.objs.size:=Jc hlt;have nPc:P≠c':=fun z=>by rw[z,fc]at hP;cases hP
  have nPf:P≠h'.objs.size:=fun z=>by rw[z,ff]at hP;cases hP
  let fo:Obj:=kla_obj "<lambda>" (X.env.qual++"<lambda>") params body scope [] ((X.mg "__name__").getD .none) c' ctv
  let H2:Hp:=upd (upd (upd H P (.tbl (#[]++#[rawInt pos.line,rawInt pos.col,.ref c']))) c' (.frz oc (.own 0))) h'.objs.size (.frz fo (.own 0))
  have e_f:H2 h'.objs.size=some (.frz fo (.own 0)):=aR;have e_c:H2 c'=some (.frz oc (.own 0)):=by show upd _ _ _ _=_;rw[aH ncf,aR]
  have e_P:H2 P=some (.tbl (#[]++#[rawInt pos.line,rawInt pos.col,.ref c'])):=by show upd _ _ _ _=_;rw[aH nPf,aH nPc,aR]
  have e_o:∀b,b≠P->b≠c'->b≠h'.objs.size->H2 b=H b:=fun b n1 n2 n3=>by show upd _ _ _ _=_;rw[aH n3,aH n2,aH n1]
  have old:∀b o,H b=some o->b≠P->H2 b=some o:=fun b o e n=>by
   rw[e_o b n (fun z=>by rw[z,fc]at e;cases e) (fun z=>by rw[z,ff]at e;cases e)];exact e
  have kp:∀b o,b≠P->s.heap.get? b=some o->(h'.push fo).get? b=some o:=fun b o n e=>IG _ (hx b o n e);have kP:(h'.push fo).get? P=some (tabObj (#[]++#[rawInt pos.line,rawInt pos.col,.ref c'])):=IG _ htb;have nun:∀b o,s.heap.get? b=some o->H b=none->b≠P:=fun b o _ n z=>by rw[z,hP]at n;cases n
  have ne2:∀b o,s.heap.get? b=some o->b≠c'/\b≠h'.objs.size:=fun b o e=>⟨Jc (Jo (IQ e) hge),Jc (Jo (IQ e) hsz)⟩;have ntb:∀b o,H b=some o->(∀ps,o≠.tbl ps)->b≠P:=fun b o e n z=>by rw[z,hP]at e;cases e;exact n _ rfl
  have there2:∀b o,s.heap.get? b=some o->b∉([]:List Addr)->∃o',(h'.push fo).get? b=some o':=fun b o e _=>by
   by_cases hb:b=P
   ·subst hb;exact⟨_,kP⟩
   ·exact⟨o,kp b o hb e⟩
  have tbls2:∀b qs,H b=some (.tbl qs)->∃more,H2 b=some (.tbl (qs++more)):=fun b qs e=>by
   by_cases hb:b=P
   ·subst hb;rw[hP]at e;cases e;exact⟨_,e_P⟩
   ·exact⟨#[],by rw[old b _ e hb];simp⟩
  have hun:Un X.fs [] H H2 s.heap (h'.push fo) :=
   ⟨fun b o e n _ _=>kp b o (nun b o e n) e,fun b o e n _ _=>⟨o.slots,kp b o (nun b o e n) e⟩,
    fun b o e n _=>(e_o b (nun b o e n) (ne2 b o e).1 (ne2 b o e).2).trans n,there2,fun b xs e=>old b _ e (ntb b _ e (by nofun)),fun b o u e=>old b _ e (ntb b _ e (by nofun)),tbls2⟩
  have hok:HOk X.prog X.w H2 (h'.push fo):=fun b u e=>by
   by_cases h1:b=h'.objs.size
   ·subst h1;rw[e_f]at e;cases e;exact⟨IT _ rfl,_,IT _ rfl⟩
   ·by_cases h2:b=c'
    ·subst h2;rw[e_c]at e;cases e;exact⟨IG _ hoc,_,IG _ hoc⟩
    ·by_cases h3:b=P
     ·subst h3;rw[e_P]at e;cases e;exact kP
     ·rw[e_o b h3 h2 h1]at e;refine(I.hok b u e).stay (fun d v hd q=>kp d v ?_ q) (fun d q=>old d _ q (ntb d _ q (by nofun))) fun d xs q=>old d _ q (ntb d _ q (by nofun));rcases hd with z | z
      ·rw[z];exact h3
      ·intro y;rw[y,hP]at z;cases z
  refine⟨.ref h'.objs.size,H2,I.un hun hok,rfl,h _ H2 ff ⟨c',oc,vs,t,_,ctv,e_f,e_c,hd,hv⟩ ⟨old,_,e_P,.inr ⟨c',oc,vs,t,by simp,e_c,hd,hv⟩⟩⟩
 ·have hoc:s.heap.get? c'=some oc:=(I.hok c' _ hc').1;refine kla_makeFunctionHit (mg:=X.mg) (cv:=.ref c') hcl I.ok.glob hg L.code hC hPs trivial ?_ hB fun ctv h' tk hk hsz=>?_
  ·show codeAmong pos [rawInt pos.line,rawInt pos.col,.ref c']=_;exact codeAmong_snoc [] trivial rfl
  ·have ff:H h'.objs.size=none:=I.hok.fresh hsz
   let fo:Obj:=kla_obj "<lambda>" (X.env.qual++"<lambda>") params body scope [] ((X.mg "__name__").getD .none) c' ctv
   have old:∀b o,H b=some o->upd H h'.objs.size (.frz fo (.own 0)) b=some o:=fun b o e=>by rw[aH (fun z=>by rw[z,ff]at e;cases e)];exact e
   refine⟨.ref h'.objs.size,upd H h'.objs.size (.frz fo (.own 0)),I.laid (fun b u e=>IG _ (hk b u e)) hsz ⟨IT _ rfl,_,IT _ rfl⟩,rfl,
    h _ _ ff ⟨c',oc,vs,t,_,ctv,aR,old _ _ hc',hd',hv'⟩ ⟨fun b o e _=>old b o e,_,old _ _ hP,.inr ⟨c',oc,vs,t,rfl,old _ _ hc',hd',hv'⟩⟩⟩
end
section
def kLt(l1:Int)(t1:List Int)(l2:Int)(t2:List Int):Bool:=if l1=l2 then HT.lexLt t1 t2 else decide (l1<l2)
theorem iO:∀t:List Int,HT.lexLt t t=false
 | []=>rfl
 | x::xs=>by rw[HT.dN,IZ rfl];exact iO xs
section
variable {X:Cx}{pins:List (Addr×Obj)}{σ:St}{H:Hp}{s:Shared}
theorem wM(I:Inv X pins σ H s){A:Around}{a b:Addr}{t1 t2:List Int}(hu:A.units+4<cLine)(h1:SqT X.K H a (t1.map V.int))(h2:SqT X.K H b (t2.map V.int)):SeqAt.EqAt A s (.ref a) (.ref b) (decide (t1=t2)):=by
 have fl:∀t:List Int,U.flat 4 (.tup (t.map U.PV.int))=true:=fun t=>by
  simp only[U.flat,List.all_map]
  induction t with
  | nil=>rfl
  | cons x t ih=>simpa[U.flat]using ih
 have rd:∀{c:Addr} {t:List Int},SqT X.K H c (t.map V.int)->U.RD X.K H (.tup (t.map U.PV.int)) (.ref c):=fun {c t} q=>by
  refine(show U.RR X.K H (.tup (t.map U.PV.int)) (.ref c)from⟨.ref c,?_,rfl⟩);simp only[U.RP];exact⟨c,_,rfl,q,U.RPs.ints X.K t⟩
 have e:=(U.kG I 4 hu (fl t1) (fl t2) (rd h1) (rd h2)).1;have:U.deq (.tup (t1.map U.PV.int)) (.tup (t2.map U.PV.int))=decide (t1=t2):=by
  simp only[U.deq];clear e fl rd h1 h2
  induction t1 generalizing t2 with
  | nil=>cases t2<;>simp[U.eZ]
  | cons x t ih =>
   cases t2 with
   | nil=>simp[U.eZ]
   | cons y t'=>simp only[Jb,U.eZ,U.deq,ih];by_cases h:x=y<;>simp[h]
 rw[this]at e;exact e
theorem Af(I:Inv X pins σ H s){prog:Program}{w:World}{A:Around}{E:Value->Shared->Prop}{k1 k2 b1 b2:Addr}{l1 l2:Int}{t1 t2:List Int}{C:Bool->Shared->Prop}(hu:A.units+4<cLine)
  (q1:SqT X.K H k1 [.int l1,.ref b1]) (q2:SqT X.K H k2 [.int l2,.ref b2]) (h1:SqT X.K H b1 (t1.map V.int)) (h2:SqT X.K H b2 (t2.map V.int)) (h:C (kLt l1 t1 l2 t2) s) :
  wpAny (model prog w) A (keyLt' (tuples' true) (.ref k1) (.ref k2)) C E s:=by
 obtain⟨its1,r1,⟨o1,e1,c1,n1,d1⟩,_⟩:=I.tuple q1;obtain⟨its2,r2,⟨o2,e2,c2,n2,d2⟩,_⟩:=I.tuple q2;obtain⟨x1,y1,rfl,rx1,ry1⟩:=Vals.two r1;obtain⟨x2,y2,rfl,rx2,ry2⟩:=Vals.two r2;obtain⟨u1,rfl⟩:=rx1;obtain⟨u2,rfl⟩:=rx2;cases ry1;cases ry2;refine kat_lt e1 d1 e2 d2 ?_;show KatLex prog w A true (decide (2<2)) C [(.int l1 u1,.int l2 u2),(.ref b1,.ref b2)] 0 s;refine kat_cons (wpAny_eqBool_int ?_);refine kat_go (fun e1=>kat_yes (kat_cons (wM I hu h1 h2 prog w _ _ ?_))) (fun e1=>kat_no ?_)
 ·have e1:l1=l2:=by simpa using e1
  refine kat_go (fun e2=>kat_yes (kat_nil ?_)) (fun e2=>kat_no ?_)
  ·have e2:t1=t2:=by simpa using e2
   have:kLt l1 t1 l2 t2=decide (2<2):=by unfold kLt;rw[IZ e1,e2,iO];rfl
   rw[←this];exact h
  ·refine kat_one _ _ ?_;obtain⟨i1,v1,p1,_⟩:=I.tuple h1;obtain⟨i2,v2,p2,_⟩:=I.tuple h2;refine HT.oE p1 p2 (by simpa using eO v1) (by simpa using eO v2) (by omega) ?_;have:kLt l1 t1 l2 t2=HT.lexLt t1 t2:=by unfold kLt;rw[IZ e1]
   show C (HT.lexLt t1 t2) s;rw[←this];exact h
 ·have e1:¬l1=l2:=by simpa using e1
  refine oneLt_int ?_;have:kLt l1 t1 l2 t2=decide (l1<l2):=by unfold kLt;rw[IX e1]
  rw[←this];exact h
theorem Inv.cell_ne(I:Inv X pins σ H s){a:Addr}{o:Obj}(e:s.heap.get? a=some o)(hd:∀v,o.data≠.cell v):∀x c,X.env.cells.lookup x=some c->c≠a:=fun x c h z=>by
 obtain⟨v,o',e',d⟩:=I.cell x c h;rw[z,e]at e';cases e';exact hd _ d
theorem Inv.seen{a:Addr}(I:Inv X pins σ H s)(h0:X.s₀.heap.objs.size≤a)(hn:H a=none)(hL:a≠X.env.locals)(hc:∀x c,X.env.cells.lookup x=some c->c≠a)
  (hp:∀p∈X.pn++pins,p.1≠a) (k:∀b o,b≠a->s.heap.get? b=some o->h'.get? b=some o) (hz:xs.length≤sizeLine) (rv:Vals xs its) (ha:h'.get? a=some (seqObj "list" its.toArray e)) :
  Inv X pins σ (upd H a (.lst xs)) { s with heap:=h',toks:=t' }:=by
 have nz:∀b u,H b=some u->b≠a:=fun b u q z=>by rw[z,hn]at q;cases q
 refine I.step (g':=s.gens) (d':=s.drawn) (ch:=[a]) (fun b hb=>?_) (fun b o _ _ c e _=>k b o (fun z=>c (by simp[z])) e) (fun b o _ _ c e _=>⟨o.slots,k b o (fun z=>c (by simp[z])) e⟩) (fun b o c e n=>by rw[aH (fun z=>c (by simp[z]))];exact n)
  (fun b o c e=>⟨o,k b o (fun z=>c (by simp[z])) e⟩) (fun b xs q=>by rw[aH (nz b _ q)];exact q) (fun b o u q=>by rw[aH (nz b _ q)];exact q) (fun b ps q=>⟨#[],by rw[aH (nz b _ q),q];simp⟩) (fun m hm=>?_) (fun b u q=>?_) I.bare
 ·have z:b=a:=by simpa using hb
  subst z;exact⟨.inr h0,hL,hc,hp⟩
 ·obtain⟨o,es,ep,ho,r⟩:=hm;exact⟨o,es,ep,k _ o (Ne.symm hL) ho,r⟩
 ·by_cases hb:b=a
  ·subst hb;rw[aR]at q;cases q;exact⟨hz,its,e,rv,ha⟩
  ·rw[aH hb]at q;refine(I.hok b u q).stay (fun c v hc q=>k c v ?_ q) (fun c z=>by rw[aH (nz c _ z)];exact z) fun c ys z=>by rw[aH (nz c _ z)];exact z
   rcases hc with z | z
   ·rw[z];exact hb
   ·exact nz c _ z
theorem tM{st:SortSt}{xs os:List V}(I:Inv X ((a2,seqObj "list" #[] e1)::pins) σ H s)
  (h0:X.s₀.heap.objs.size≤a2) (hp:∀p∈X.pn++pins,p.1≠a2) (hk:H kS=some (.lst xs)) (hq:(arrOf st).map (·.2)=out.toArray) (hf:failedOf st=none) (rv:Vals os out) (hz:os.length≤sizeLine)
  (h:∀s',Inv X pins σ (upd (upd H kS (.lst [])) a2 (.lst os)) s'->P (.done (.ret .none)) s'):wpAny M A (ksk_tail a2 false e1 (.ref kS) st) P E s:=by
 obtain⟨pa,pn,pL,pf,pd⟩:=I.pin (a2,seqObj "list" #[] e1) (Jd _ IK);obtain⟨zk,its,n,rk,ek⟩:=I.hok kS _ hk;have hne:a2≠kS:=fun z=>by rw[←z]at hk;rw[show H a2=none from pn]at hk;cases hk
 have I1:Inv X ((a2,seqObj "list" #[] e1)::pins) σ (upd H kS (.lst [])) { s with heap:=s.heap.update kS (Obj.mapSeq fun _=>(#[]:Array Value)) } :=
  I.write (t':=s.toks) (x:=kS) (e:=kS) (by rw[hk];trivial) (.inl rfl) (fun b u hb q=>by rw[Kl _ _ _ _ hb];exact q) ⟨_,K1 ek _⟩ ⟨JW _,[],_,.nil,K1 ek _⟩
 have pa1:(s.heap.update kS (Obj.mapSeq fun _=>(#[]:Array Value))).get? a2=some (seqObj "list" #[] e1):=by rw[Kl _ _ _ _ hne];exact pa
 have hl:out.length≤sizeLine:=by rw[←rv.length];exact hz
 unfold ksk_tail
 try dsimp only
 refine IC (K5 ek rfl ?_ (by rw[IL,← rk.length];exact zk) (JW _));refine IC (wpAny_letGo ?_);refine IC (seqEpoch_at pa1 rfl ?_);rw[hq];refine IC (K5 pa1 rfl ?_ (JW _) (by simp only[Kr,if_false,IL];exact Nat.le_succ_of_le hl));rw[hf];simp only[bne_self_eq_false,Kr,if_false];have I2:Inv X pins σ (upd H kS (.lst [])) { s with heap:=s.heap.update kS (Obj.mapSeq fun _=>(#[]:Array Value)) } :=
  I1.pins_of fun p hp=>I1.pin p (Jd _ (IJ _ hp))
 refine IH (h _ ?_);obtain⟨c2,hc2⟩:∃c2,((s.heap.update kS (Obj.mapSeq fun _=>(#[]:Array Value))).update a2 (Obj.mapSeq fun _=>out.toArray)).get? a2=some (seqObj "list" out.toArray c2):=⟨_,K1 pa1 _⟩;exact I2.seen (t':=s.toks) h0 (by rw[aH hne];exact pn) pL (I1.cell_ne pa1 (by nofun)) hp (fun b o hb q=>by rw[Kl _ _ _ _ hb];exact q) hz rv hc2
end
end
section
def tc:List Int->Int
 | []=>0
 | x::r=>x*8 ^ r.length+tc r
def Dig(t:List Int):Prop:=∀x∈t,0≤x/\x<8
theorem qt:∀{t:List Int},Dig t->0≤tc t/\tc t<8 ^ t.length
 | [],_=>by simp[tc]
 | x::r,h=>by
  have ⟨a,b⟩:=qt (t:=r) fun y hy=>h y (IJ _ hy);have ⟨c,d⟩:=h x IK;have pp:(0:Int)<8 ^ r.length:=Int.pow_pos (by decide);have e:(8:Int) ^ (x::r).length=8*8 ^ r.length:=by rw[Jg,Int.pow_succ,Int.mul_comm]
  have f1:0≤x*8 ^ r.length:=Int.mul_nonneg c (Int.le_of_lt pp);have f2:x*8 ^ r.length≤7*8 ^ r.length:=Int.mul_le_mul_of_nonneg_right (by omega) (Int.le_of_lt pp);rw[e];show 0≤x*8 ^ r.length+tc r/\x*8 ^ r.length+tc r<_;omega
theorem iQ:∀{t u:List Int},Dig t->Dig u->t.length=u.length->HT.lexLt t u=decide (tc t<tc u)/\(tc t=tc u->t=u)
 | [],[],_,_,_=>by simp[HT.lexLt,tc]
 | [],_::_,_,_,h=>by simp at h
 | _::_,[],_,_,h=>by simp at h
 | x::t,y::u,ht,hu,h=>by
  have hl:t.length=u.length:=by simpa using h
  have dt:Dig t:=fun z hz=>ht z (IJ _ hz);have du:Dig u:=fun z hz=>hu z (IJ _ hz);have ⟨i1,i2⟩:=iQ dt du hl;have ⟨a,b⟩:=qt dt;have ⟨c,d⟩:=qt du;rw[←hl]at d;have pp:(0:Int)<8 ^ t.length:=Int.pow_pos (by decide);have e1:tc (x::t)=x*8 ^ t.length+tc t:=rfl;have e2:tc (y::u)=y*8 ^ t.length+tc u:=by rw[hl];rfl
  rw[HT.dN,e1,e2];by_cases q:x=y
  ·subst q;rw[IZ rfl,i1];refine⟨by rw[KS];omega,fun z=>by rw[i2 (by omega)]⟩
  ·rw[IX q];rcases Int.lt_or_gt_of_ne q with q1 | q1
   ·have:(x+1)*8 ^ t.length≤y*8 ^ t.length:=Int.mul_le_mul_of_nonneg_right (by omega) (Int.le_of_lt pp);rw[Int.add_mul]at this;refine⟨?_,fun z=>by omega⟩;rw[KS];constructor<;>intro _<;>omega
   ·have:(y+1)*8 ^ t.length≤x*8 ^ t.length:=Int.mul_le_mul_of_nonneg_right (by omega) (Int.le_of_lt pp);rw[Int.add_mul]at this;refine⟨?_,fun z=>by omega⟩;rw[KS];constructor<;>intro _<;>omega
def kc(t:List Int):Int:=(t.length:Int)*8 ^ 8+tc t
theorem fy(h:Dig t)(hl:t.length≤8):0≤tc t/\tc t<8 ^ 8:=by
 have ⟨a,b⟩:=qt h;have:(8:Int) ^ t.length≤8 ^ 8:=by have:=JV (show 0<8 by decide) hl;exact_mod_cast this
 exact⟨a,by omega⟩
theorem G1(ht:Dig t)(hu:Dig u)(lt:t.length≤8)(lu:u.length≤8):kLt t.length t u.length u=decide (kc t<kc u):=by
 have ⟨a,b⟩:=fy ht lt;have ⟨c,d⟩:=fy hu lu;unfold kLt kc;have e8:(8:Int) ^ 8=16777216:=by decide
 rw[e8]at *;by_cases q:(t.length:Int)=u.length
 ·rw[IZ q,(iQ ht hu (by omega)).1,KS,q];omega
 ·rw[IX q,KS];omega
theorem zY(ht:Dig t)(hu:Dig u)(lt:t.length≤8)(lu:u.length≤8)(e:kc t=kc u):t=u:=by
 have ⟨a,b⟩:=fy ht lt;have ⟨c,d⟩:=fy hu lu;unfold kc at e;have e8:(8:Int) ^ 8=16777216:=by decide
 rw[e8]at *;have q:t.length=u.length:=by omega
 rw[q]at e;exact(iQ ht hu q).2 (by omega)
section
variable {X:Cx}{pins:List (Addr×Obj)}{σ:St}{H:Hp}{s:Shared}{bs ks:List Addr}{ts:List (List Int)}
structure Srt (K:PySem.W.Frag) (H:Hp) (bs:List Addr) (ts:List (List Int)):Prop where
 len:ts.length=bs.length
 at_:∀i b,bs[i]?=some b->SqT K H b ((ts.getD i []).map V.int)
 dig:∀t∈ts,Dig t/\t.length≤8
 nd:ts.Nodup
def Al(K:PySem.W.Frag)(H:Hp)(bs ks:List Addr)(ts:List (List Int)):Prop:=∀i k,ks[i]?=some k->SqT K H k [.int (ts.getD i []).length,.ref (bs.getD i 0)]
theorem getD_mem{α:Type}{l:List α}{d:α}(h:i<l.length):l.getD i d∈l:=by
 rw[IE,ID h];exact Ju h
theorem BB(I:Inv X pins σ H s)(hk:Al X.K H bs ks ts):∃fs,KatTups s.heap (ks.map Value.ref) fs/\fs.length=ks.length/\∀v∈fs,∃i t,v=.int i t:=by
 have:∀(l:List Addr) (n:Nat),(∀i k,l[i]?=some k->SqT X.K H k [.int (ts.getD (n+i) []).length,.ref (bs.getD (n+i) 0)])->∃fs,KatTups s.heap (l.map Value.ref) fs/\fs.length=l.length/\∀v∈fs,∃i t,v=.int i t:=by
  intro l
  induction l with
  | nil=>intro n _;exact⟨[],KatTups.nil,rfl,by simp⟩
  | cons k l ih =>
   intro n h;obtain⟨fs,t,q,r⟩:=ih (n+1) fun i k e=>by have:=h (i+1) k (by simpa using e);rw[show n+(i+1)=n+1+i by omega]at this;exact this
   obtain⟨its,rv,⟨o,ho,hc,m,hd⟩,_⟩:=I.tuple (h 0 k (by simp));obtain⟨x,y,rfl,rx,ry⟩:=Vals.two rv;obtain⟨u,rfl⟩:=rx;refine⟨.int _ u::fs,KatTups.cons ho hc hd rfl t,by simp[q],fun v hv=>?_⟩;rcases IY.mp hv with rfl | hv
   ·exact⟨_,_,rfl⟩
   ·exact r v hv
 exact this ks 0 fun i k e=>by rw[Nat.zero_add];exact hk i k e
theorem Em(I:Inv X ((a2,seqObj "list" #[] e1)::pins) σ H s)(hu:A.units+4<cLine)
  (h0:X.s₀.heap.objs.size≤a2) (hp:∀p∈X.pn++pins,p.1≠a2) (hS:H kS=some (.lst (ks.map V.ref))) (hk:Al X.K H bs ks ts) (hkl:ks.length=bs.length) (hB:Srt X.K H bs ts) (h64:bs.length<64)
  (h:∀(q:List Nat) s',q.Perm (List.range bs.length)->(q.map fun i=>ts.getD i []).Pairwise (fun x y=>kc x<kc y)->Inv X pins σ (upd (upd H kS (.lst [])) a2 (.lst (q.map fun i=>V.ref (bs.getD i 0)))) s'->P (.done (.ret .none)) s') :
  wpAny (model X.prog X.w) A (ksk_end a2 false (bs.map Value.ref).toArray e1 (.ref kS) (ks.map Value.ref).toArray) P E s:=by
 have vals:∀q:List Nat,Vals (q.map fun i=>V.ref (bs.getD i 0)) (q.map fun i=>Value.ref (bs.getD i 0)):=fun q=>by
  induction q with
  | nil=>exact .nil
  | cons i q ih=>exact .cons rfl ih
 have hkl':(ks.map Value.ref).length=(bs.map Value.ref).length:=by simpa using hkl
 unfold ksk_end
 try dsimp only
 simp only[Kr,if_false];have zs:(bs.map Value.ref).toArray.size=bs.length:=by simp
 rw[zs];by_cases h2:bs.length<2
 ·rw[IZ h2,IZ h2];refine IC (IH ?_);rw[StateT.run_pure];refine IC (IH ?_)
  try dsimp only
  refine tM (out:=(List.range bs.length).map fun i=>Value.ref (bs.getD i 0)) (os:=(List.range bs.length).map fun i=>V.ref (bs.getD i 0)) I h0 hp hS ?_ rfl (vals _) (by rw[kb,JH,Jt];omega) fun s' I'=>h _ s' (Kn _) ?_ I'
  ·show((ks.map Value.ref).toArray.zip (bs.map Value.ref).toArray).map (·.2)=_
   match bs,ks,hkl,h2 with
   | [],[],_,_=>apply Array.toList_inj.mp;simp
   | [b],[k],_,_=>apply Array.toList_inj.mp;simp[List.range_succ]
   | _::_::_,_,_,h2=>exact absurd h2 (by simp)
  ·match bs,h2 with
   | [],_=>exact List.Pairwise.nil
   | [v],_=>exact Kw _ _
   | _::_::_,h2=>exact absurd h2 (by simp)
 ·rw[IX h2,IX h2];obtain⟨fs,hfs,hfl,hfi⟩:=BB I hk;refine IC (kat_kind hfs (by omega) (T:=.type "int") (fun v hv=>?_) rfl ?_)
  ·obtain⟨i,t,rfl⟩:=hfi v hv;exact Looks.of_pure rfl
  ·have dg:∀i,i<bs.length->Dig (ts.getD i [])/\(ts.getD i []).length≤8:=fun i hi=>hB.dig _ (getD_mem (by rw[hB.len];exact hi));have hinj:∀i j,i<bs.length->j<bs.length->kc (ts.getD i [])=kc (ts.getD j [])->i=j:=by
    intro i j hi hj e;have e2:=zY (dg i hi).1 (dg j hj).1 (dg i hi).2 (dg j hj).2 e;have hi':i<ts.length:=by rw[hB.len];exact hi
    have hj':j<ts.length:=by rw[hB.len];exact hj
    rw[IE,ID hi',IE,ID hj']at e2;exact(List.getElem_inj hB.nd).mp e2
   have zl:(bs.map Value.ref).length=bs.length:=by simp
   show wpAny (model X.prog X.w) A (do let ((),s)←(sortRuns').run (SortSt.mk' (tuples' true) ((ks.map Value.ref).toArray.zip (bs.map Value.ref).toArray) #[] 7 none);ksk_tail a2 false e1 (.ref kS) s) P E s;refine IC (KH (kat_run (ks:=ks.map Value.ref) (vs:=bs.map Value.ref) (κ:=tuples' true)
    (Q:=fun st' s'=>s'=s/\∃p:Array Nat,ST.Ok bs.length p/\ST.S (fun i=>kc (ts.getD i [])) p bs.length/\arrOf st'=p.map (kas_item ((ks.map Value.ref).toArray.zip (bs.map Value.ref).toArray))/\failedOf st'=none)
    (G:=fun p s'=>s'=s/\ST.Ok bs.length p/\ST.S (fun i=>kc (ts.getD i [])) p bs.length)
    hkl' (by omega) (by omega) (fun p st' s' a1 a2 a3 a4=>⟨a4.1,p,a4.2.1,a4.2.2,a2,a3⟩) ?run) ?post fun _ _ e=>e)
   case run =>
    rw[zl];refine ST.sorts (n:=bs.length) (K:=fun i=>kc (ts.getD i [])) (fun i j C hi hj hC=>?_) hinj (by omega) fun p ok sS=>⟨rfl,ok,sS⟩;unfold kas_ask;have gk:∀i,i<bs.length->∃k b,ks[i]?=some k/\bs[i]?=some b:=fun i hi=>⟨_,_,ID (by omega),ID hi⟩;obtain⟨k1,b1,u1,v1⟩:=gk i hi;obtain⟨k2,b2,u2,v2⟩:=gk j hj;have g1:(ks.map Value.ref).getD i Value.none=.ref k1:=by rw[IE,IV,u1];rfl
    have g2:(ks.map Value.ref).getD j Value.none=.ref k2:=by rw[IE,IV,u2];rfl
    have f1:bs.getD i 0=b1:=by rw[IE,v1];rfl
    have f2:bs.getD j 0=b2:=by rw[IE,v2];rfl
    have q1:=hk i k1 u1;have q2:=hk j k2 u2;rw[f1]at q1;rw[f2]at q2;rw[g1,g2];refine Af I hu q1 q2 (hB.at_ i b1 v1) (hB.at_ j b2 v2) ?_;rw[G1 (dg i hi).1 (dg j hj).1 (dg i hi).2 (dg j hj).2];exact hC
   case post =>
    rintro⟨⟨⟩,st'⟩ s' ⟨rfl,p,ok,sS,har,hf⟩
    try dsimp only
    have hout:=kat_snds hkl' har;have e:(p.toList.map fun i=>(bs.map Value.ref).getD i Value.none)=p.toList.map fun i=>Value.ref (bs.getD i 0):=by
     refine J8 fun i hi=>?_;have:i<bs.length:=by have:=(ok.perm.mem_iff).mp hi;simpa using this
     rw[IE,IV,IE,ID this];rfl
    rw[e]at hout;refine tM I h0 hp hS hout hf (vals _) (by rw[kb,J0,ok.size,Jt];omega) fun s' I'=>h _ s' ok.perm ?_ I';rw[JQ,List.pairwise_iff_getElem];intro i j hi hj hij;have:=sS i j hij (by rw[←ok.size];simpa using hj);unfold ST.key at this;have hi2:i<p.size:=by simpa using hi
    have hj2:j<p.size:=by simpa using hj
    rw[Je hi2,Je hj2]at this;simpa using this
end
end
section
theorem SqT.kp'{K:PySem.W.Frag}(k:∀b o,H b=some o->(∀l,o≠.lst l)->H' b=some o)(h:SqT K H a xs):SqT K H' a xs:=by
 rcases h with(h |⟨o,h⟩) | h
 ·exact .inl (.inl (k _ _ h (by nofun)))
 ·exact .inl (.inr ⟨o,k _ _ h (by nofun)⟩)
 ·exact .inr h
section
variable {X:Cx}{pins:List (Addr×Obj)}{σ:St}{H:Hp}{s:Shared}{bs:List Addr}{ts:List (List Int)}{A:Around}
def vz(X:Cx)(σ:St)(H:Hp)(A:Around)(f:Addr)(bs:List Addr)(ts:List (List Int)):Prop :=
 ∀(H':Hp) (s':Shared) (pins':List (Addr×Obj)) (i:Nat) (b:Addr),bs[i]?=some b->(∀b o,H b=some o->(∀l,o≠.lst l)->H' b=some o)->Inv X pins' σ H' s' ->
  wpAny (model X.prog X.w) A (call (.ref f) [.ref b]) (fun u s''=>∃k,u=.ref k/\H' k=none/\Inv X pins' σ (upd H' k (.tup [.int (ts.getD i []).length,.ref b])) s'') (fun _ _=>False) s'
theorem AI(I:Inv X ((a2,seqObj "list" #[] e1)::pins) σ H s)(hu:A.units+4<cLine)
  (h0:X.s₀.heap.objs.size≤a2) (hp:∀p∈X.pn++pins,p.1≠a2) (hS:H kS=some (.lst [])) (hB:Srt X.K H bs ts) (h64:bs.length<64) (ht:vz X σ H A f bs ts)
  (h:∀(q:List Nat) s' H',q.Perm (List.range bs.length)->(q.map fun i=>ts.getD i []).Pairwise (fun x y=>kc x<kc y)->(∀b o,H b=some o->b≠kS->H' b=some o)->H' a2=none->Inv X pins σ (upd H' a2 (.lst (q.map fun i=>V.ref (bs.getD i 0)))) s'->P (.done (.ret .none)) s') :
  wpAny (model X.prog X.w) A (ksk_rest a2 (.ref f) false (bs.map Value.ref).toArray e1 (.ref kS)) P E s:=by
 unfold ksk_rest;refine IC (wpAny_rule ?_);rw[List.forIn_toArray];have nl:∀{H':Hp},(∀b o,H b=some o->b≠kS->H' b=some o)->∀b o,H b=some o->(∀l,o≠.lst l)->H' b=some o:=fun {H'} w b o e n=>w b o e fun z=>by rw[z,hS]at e;cases e;exact n _ rfl
 refine IC (ksk_fold (fun i s'=>∃H' ks,Inv X ((a2,seqObj "list" #[] e1)::pins) σ H' s'/\ks.length=i/\H' kS=some (.lst (ks.map V.ref))/\Al X.K H' bs ks ts/\∀b o,H b=some o->b≠kS->H' b=some o) (bs.map Value.ref) 0 s
  ⟨H,[],I,rfl,hS,(fun i k e=>by simp at e),fun b o e _=>e⟩ ?step ?done)
 case step =>
  rintro j x s' hx ⟨H',ks,I',hl,hS',hk,old⟩;simp only[Nat.zero_add]at hl ⊢;rw[IV]at hx;obtain⟨b,hb,rfl⟩:∃b,bs[j]?=some b/\x=.ref b:=by
   cases e:bs[j]? with
   | none=>rw[e]at hx;cases hx
   | some b=>rw[e]at hx;cases hx;exact⟨b,rfl,rfl⟩
  refine IC (wpAny_attempt (KH (ht H' s' _ j b hb (nl old) I') (fun v s'' he=>?_) fun _ _ hF=>hF.elim));obtain⟨k,rfl,hkn,I2⟩:=he
  try dsimp only
  have nk:kS≠k:=fun z=>by rw[←z,hS']at hkn;cases hkn
  have hS2:upd H' k (.tup [.int (ts.getD j []).length,.ref b]) kS=some (.lst (ks.map V.ref)):=by rw[aH nk];exact hS'
  obtain⟨zk,its,n,rk,ek⟩:=I2.hok kS _ hS2;have hj:j<bs.length:=(IM.mp hb).1;have hil:its.length=j:=by rw[←rk.length,kb,hl]
  have I3:Inv X ((a2,seqObj "list" #[] e1)::pins) σ (upd (upd H' k (.tup [.int (ts.getD j []).length,.ref b])) kS (.lst ((ks++[k]).map V.ref))) { s'' with heap:=s''.heap.update kS (Obj.mapSeq (·.push (.ref k))) } :=
   I2.write (t':=s''.toks) (x:=kS) (e:=kS) (by rw[hS2];trivial) (.inl rfl) (fun b u hb q=>by rw[Kl _ _ _ _ hb];exact q) ⟨_,K1 ek _⟩
    ⟨by simp only[kb,II,JG];rw[hl,Jt];omega,its++[.ref k],_,by rw[IP];exact rk.append (.cons rfl .nil),by rw[K1 ek];simp;rfl⟩
  have kp3:∀b' o,H' b'=some o->(∀l,o≠.lst l)->upd (upd H' k (.tup [.int (ts.getD j []).length,.ref b])) kS (.lst ((ks++[k]).map V.ref)) b'=some o:=fun b' o e n=>by
   rw[aH (fun z=>by rw[z,hS']at e;cases e;exact n _ rfl),aH (fun z=>by rw[z,hkn]at e;cases e)];exact e
  refine IC (K5 ek rfl ?_ (by rw[IL,hil,Jt];omega) (by rw[Array.size_push,IL,hil,Jt];omega));refine IH ⟨rfl,_,ks++[k],I3,by simp[hl],aR,fun i k' e=>?_,fun b' o e n=>?_⟩
  ·by_cases hi:i<ks.length
   ·rw[Kj hi]at e;exact(hk i k' e).kp' kp3
   ·rw[Kx (by omega)]at e;have:i=j:=by have:=(IM.mp e).1;simp at this;omega
    subst this;rw[hl,Nat.sub_self]at e;cases e;refine .inl (.inl ?_);rw[aH (Ne.symm nk),aR,show bs.getD i 0=b by rw[IE,hb];rfl]
  ·rw[aH n,aH (fun z=>by rw[z]at e;rw[old _ _ e (fun y=>nk y.symm)]at hkn;cases hkn)];exact old b' o e n
 case done =>
  rintro s' ⟨H',ks,I',hl,hS',hk,old⟩;simp only[Nat.zero_add,kb]at hl;obtain⟨zk,its,n,rk,ek⟩:=I'.hok kS _ hS';have hits:its=ks.map Value.ref:=by
   clear hS' hk ek zk hl
   induction ks generalizing its with
   | nil=>cases rk;rfl
   | cons k ks ih=>cases rk with | cons a b=>cases a;rw[ih _ b];rfl
  subst hits;refine IC (listItems_at ek rfl ?_);refine Em I' hu h0 hp hS' hk hl ⟨hB.len,fun i b e=>(hB.at_ i b e).kp' (nl old),hB.dig,hB.nd⟩ h64 fun q s'' a1 a3 I''=>h q s'' _ a1 a3 (fun b o e n=>?_) ?_ I''
  ·rw[aH n];exact old b o e n
  ·obtain⟨_,pn,_⟩:=I'.pin (a2,seqObj "list" #[] e1) (Jd _ IK);rw[aH (fun z=>by rw[←z]at hS';rw[show H' a2=none from pn]at hS';cases hS')];exact pn
end
end
section
section
variable {X:Cx}{pins:List (Addr×Obj)}{σ:St}{H:Hp}{s:Shared}{bs:List Addr}{ts:List (List Int)}
theorem vD(I:Inv X pins σ H s)(hu:X.A.units+8<cLine)(hl:SqL X.K H l (bs.map V.ref))(hB:Srt X.K H bs ts)(h64:bs.length<64)(ht:vz X σ H X.A.in1.in1 f bs ts)
  (h:∀(q:List Nat) (r:Addr) (H':Hp),q.Perm (List.range bs.length)->(q.map fun i=>ts.getD i []).Pairwise (fun x y=>kc x<kc y)->(∀b o,H b=some o->H' b=some o)->H' r=none->H r=none->Q (.ref r) (upd H' r (.lst (q.map fun i=>V.ref (bs.getD i 0))))) :
  wpAny (model X.prog X.w) X.A (call (.builtin "sorted") [.ref l] [(Str.ofString "key",.ref f)]) (EP X pins σ Q) E s:=by
 obtain⟨vs,rv,hp,hz⟩:=I.list hl;have hvs:vs=bs.map Value.ref:=by
  clear hl hB h64 ht h hz hp
  induction bs generalizing vs with
  | nil=>cases rv;rfl
  | cons k ks ih=>cases rv with | cons a b=>cases a;rw[ih _ b];rfl
 subst hvs;refine call_function_entry_kw kind_sorted plain_sorted entry_sorted (ksk_s1 _ _) ?_;unfold Builtin.«sorted»;refine IC (m:=checkCount "sorted" 1 1 _) (IH ?_);have hL:s.heap.IsList l (bs.map Value.ref).toArray:=hp.isList;refine IC (collect_list hL ?_ (by rw[kb,Jt];omega));refine IC (wpAny_newList ?_ (by rw[kb,Jt];omega));have hsz:((s.heap.push (seqObj "list" #[] 0)).update s.heap.objs.size (Obj.mapSeq (·++(bs.map Value.ref).toArray))).objs.size=s.heap.objs.size+1:=by
  rw[Heap.size_update,size_push']
 have hoL:(((s.heap.push (seqObj "list" #[] 0)).update s.heap.objs.size (Obj.mapSeq (·++(bs.map Value.ref).toArray))).push (seqObj "list" (bs.map Value.ref).toArray 0)).get? (s.heap.objs.size+1)=some (seqObj "list" (bs.map Value.ref).toArray 0):=by
  rw[←hsz];exact IT _ rfl
 have keep:∀b o,s.heap.get? b=some o->(((s.heap.push (seqObj "list" #[] 0)).update s.heap.objs.size (Obj.mapSeq (·++(bs.map Value.ref).toArray))).push (seqObj "list" (bs.map Value.ref).toArray 0)).get? b=some o:=fun b o q=>by
  have hlt:b<s.heap.objs.size:=IQ q;rw[Heap.get?_push_ne _ _ _ (by rw[hsz];exact Jc (J5 hlt)),Kl _ _ _ _ (Jc hlt),Heap.get?_push_ne _ _ _ (Jc hlt)];exact q
 show wpAny _ _ _ _ _ { s with heap:=((s.heap.push (seqObj "list" #[] 0)).update s.heap.objs.size (Obj.mapSeq (·++(bs.map Value.ref).toArray))).push (seqObj "list" (bs.map Value.ref).toArray 0) };rw[hsz];generalize ((s.heap.push (seqObj "list" #[] 0)).update s.heap.objs.size (Obj.mapSeq (·++(bs.map Value.ref).toArray))).push (seqObj "list" (bs.map Value.ref).toArray 0)=h3 at hoL keep ⊢;refine IC (JT (wpAny_call_entry_kw slot_list_sort ⟨_,hoL,rfl⟩ entry_list_sort ?body (ksk_l1 _ _)))
 case body =>
  show wpAny (model X.prog X.w) X.A.in1.in1 (Builtin.«list.sort» ⟨[.ref (s.heap.objs.size+1)],[(Str.ofString "key",.ref f)]⟩) _ _ _;rw[ksk_t1];have hsz3:s.heap.objs.size+1<h3.objs.size:=IQ hoL;obtain⟨e1,ho1⟩:∃e1,(h3.update (s.heap.objs.size+1) (Obj.mapSeq fun _=>(#[]:Array Value))).get? (s.heap.objs.size+1)=some (seqObj "list" #[] e1):=⟨_,K1 hoL fun _=>#[]⟩;unfold ksk_tree;refine IC (listItems_at hoL rfl ?_);refine IC (K5 hoL rfl ?_ (by rw[IL,kb,Jt];omega) (JW _));refine IC (seqEpoch_at ho1 rfl ?_);refine IC (wpAny_newTuple ?_ (by show(bs.map Value.ref).length≤_;rw[kb,Jt];omega));refine IC (wpAny_newList ?_ (JW _));refine JT ?_;have hn2:H (s.heap.objs.size+1)=none:=I.hok.fresh (Nat.le_succ _);have k4:∀b o,s.heap.get? b=some o->((h3.update (s.heap.objs.size+1) (Obj.mapSeq fun _=>(#[]:Array Value))).push (seqObj "tuple" (bs.map Value.ref).toArray 0)).get? b=some o:=fun b o q =>
   IG _ (by rw[Kl _ _ _ _ (Jc (J5 (IQ q)))];exact keep b o q)
  have g4:((h3.update (s.heap.objs.size+1) (Obj.mapSeq fun _=>(#[]:Array Value))).push (seqObj "tuple" (bs.map Value.ref).toArray 0)).get? (s.heap.objs.size+1)=some (seqObj "list" #[] e1):=IG _ ho1;have I4:=I.kept (t':=s.toks) k4;have I4p:Inv X ((s.heap.objs.size+1,seqObj "list" #[] e1)::pins) σ H { s with heap:=(h3.update (s.heap.objs.size+1) (Obj.mapSeq fun _=>(#[]:Array Value))).push (seqObj "tuple" (bs.map Value.ref).toArray 0) } :=
   I4.pins_of fun p hp=>by
    rcases IY.mp hp with rfl | hp
    ·exact⟨g4,hn2,K6 (J5 I.lt),I.nofs (Nat.le_succ _),by nofun⟩
    ·exact I4.pin p (Jd _ hp)
  have I5:=I4p.laid (t':=s.toks) (a:=((h3.update (s.heap.objs.size+1) (Obj.mapSeq fun _=>(#[]:Array Value))).push (seqObj "tuple" (bs.map Value.ref).toArray 0)).objs.size) (o:=.lst []) (fun b u q=>IG (seqObj "list" #[] 0) q) (IS _)
   ⟨JW _,[],0,.nil,IT _ rfl⟩
  generalize hkS:((h3.update (s.heap.objs.size+1) (Obj.mapSeq fun _=>(#[]:Array Value))).push (seqObj "tuple" (bs.map Value.ref).toArray 0)).objs.size=kS at I5 ⊢;have hk0:H kS=none:=by rw[←hkS];exact I4.hok.fresh (IS _)
  have nS:∀b o,H b=some o->b≠kS:=fun b o e z=>by rw[z,hk0]at e;cases e
  have old:∀b o,H b=some o->upd H kS (.lst []) b=some o:=fun b o e=>by rw[aH (nS b o e)];exact e
  refine AI (H:=upd H kS (.lst [])) I5 (by show X.A.units+1+1+4<_;omega) (Jl I.sz (Nat.le_succ _)) (fun p hp=>Jc (J5 (IQ (I.pin p hp).1))) aR
   ⟨hB.len,fun i b e=>(hB.at_ i b e).kp' fun c o q _=>old c o q,hB.dig,hB.nd⟩ h64 (fun H' s' pins' i b e q I'=>ht H' s' pins' i b e (fun c o e2 n=>q c o (old c o e2) n) I') fun q s' H' a1 a3 a4 a5 I'=>⟨_,rfl,?_⟩
  exact IH ⟨_,rfl,.ref _,_,I',rfl,h q _ H' a1 a3 (fun b o e=>a4 b o (old b o e) (nS b o e)) a5 hn2⟩
end
end
section
section
variable {X:Cx}{pins:List (Addr×Obj)}{σ:St}{H:Hp}{s:Shared}{bs:List Addr}{ts:List (List Int)}
theorem rC(hr:bG 4 X.A)(hm:X.mg "len"=none)(S:ax ["part"] ["part"] scope)(hv:scope.names.lookup (Str.ofString "part")=some .local)(hg:scope.names.lookup (Str.ofString "len")=some .globalImplicit)
  (hb:∀(pm cd ct u:Value) (s:Shared),BindsTo s (kla_fn "<lambda>" q params (.Tuple [.Call (.Name "len" p1) [.Name "part" p2] [] p3,.Name "part" p4] x1 p5) scope [] pm cd ct) ⟨[u],[]⟩ [("part",u)])
  (hL:uf H f q params (.Tuple [.Call (.Name "len" p1) [.Name "part" p2] [] p3,.Name "part" p4] x1 p5) scope) (hB:Srt X.K H bs ts):vz X σ H X.A.in1.in1 f bs ts:=by
 intro H' s' pins' i b hi kp I';obtain⟨c,oc,vs,t,pm,ctv,e1,e2,e3,e4⟩:=hL;have f1:=kp f _ e1 (by nofun);have f2:=kp c _ e2 (by nofun);have hsq:SqT X.K H' b ((ts.getD i []).map V.int):=(hB.at_ i b hi).kp' kp;have ho:=(I'.hok f _ f1).1;have hc:s'.heap.CodeRec (.ref c) q:=⟨c,oc,vs,t,rfl,(I'.hok c _ f2).1,e3,e4⟩;have hr2:bG (1+1) X.A.in1.in1:=hr.in1.in1;refine wpAny_call (KO (sX (CX:=CX0) (E:=E0) (k:=1) (t:=Eo (pJ (tCB (fun xs H Q=>∃x n,xs=[x]/\E2 X.K x H n/\Q (.int n) H) (pJ (rj 0) Ax)) (pJ (rj 0) Ax)))
  (Q:=fun v H2=>∃k,v=.ref k/\H' k=none/\H2=upd H' k (.tup [.int (ts.getD i []).length,.ref b])) S hr2 I'.env0.in1.in1 ho hc (us:=[.ref b]) (vs:=[.ref b]) (hb _ _ _ _ _) rfl (.cons rfl .nil) (fun _=>?_) ?_) fun r s'' hq=>?_)
 ·refine uv (b7 (dZ vA hg hm (by rfl) (b7 (oQ rfl (.inl hv)) cT)) (b7 (oQ rfl (.inl hv)) cT))
 ·refine⟨.ref b,rfl,.ref b,(ts.getD i []).length,rfl,.inr ⟨_,hsq,by simp⟩,.ref b,rfl,by rw[Jt];simp,fun p hp=>⟨p,rfl,hp,rfl⟩⟩
 ·cases r with
  | error e=>exact False.elim hq
  | ok fl =>
   cases fl with
   | ret u =>
    obtain⟨v,H2,I2,rv,k,rfl,hk,rfl⟩:=I'.after hq;cases rv;exact⟨k,rfl,hk,I2⟩
   | next=>exact False.elim hq
   | brk=>exact False.elim hq
   | cont=>exact False.elim hq
end
end
section
def dS(mg:Str->Option Value)(base:Heap):Prop:=∃bm o,mg "__builtins__"=some (.ref bm)/\bm≠builtinsNs/\bm≠mainGlobals/\base.get? bm=some o/\o.cls=.type "module"/\o.dict=some builtinsNs/\o.data=.plain
end
end L2
namespace U
open L2
def tI(t:List Int):PV:=.tup (t.map PV.int)
def tJ(P:Addr)(pos:Pos)(q:Str)(ta:TE'):TE':=fun σ H Q=>ta σ H fun x H1=>∃a,∃ts:List (List Int),x=.ref a/\H1 a=some (.lst (ts.map tI))/\H1 P=some (.tbl pos q)/\ts.length<64/\ts.Nodup/\(∀t∈ts,Dig t/\t.length≤8) /\
 ∀r,∀us:List (List Int),us.Perm ts->us.Pairwise (fun x y=>kc x<kc y)->H1 r=none->Q (.ref r) (put H1 r (.lst (us.map tI)))
theorem Cq{K:PySem.W.Frag}(h:RP K H (tI t) v):∃b,v=.ref b/\SqT K H b (t.map V.int):=by
 unfold tI at h;simp only[RP]at h;obtain⟨b,us,e,q,r⟩:=h;have:=RPs.ints_eq K r;subst this;exact⟨b,e,q⟩
theorem oU{K:PySem.W.Frag}{H:Hp}:∀{ts:List (List Int)} {us:List V},RPs K H (ts.map tI) us->∃bs:List Addr,us=bs.map V.ref/\ts.length=bs.length/\∀i b,bs[i]?=some b->SqT K H b ((ts.getD i []).map V.int)
 | [],us,h=>by simp only[List.map_nil,RPs]at h;subst h;exact⟨[],rfl,rfl,fun i b e=>by simp at e⟩
 | t::ts,us,h=>by
  simp only[Jb,RPs]at h;obtain⟨u,r,rfl,a,b⟩:=h;obtain⟨b0,rfl,q⟩:=Cq a;obtain⟨bs,rfl,hl,hb⟩:=oU b;refine⟨b0::bs,rfl,by simp[hl],fun i c e=>?_⟩;cases i with
  | zero=>simp at e;subst e;simpa using q
  | succ i=>simpa using hb i c (by simpa using e)
theorem oS{K:PySem.W.Frag}{H:Hp}{ts:List (List Int)}{bs:List Addr}(hb:∀i b,bs[i]?=some b->SqT K H b ((ts.getD i []).map V.int)):∀(q:List Nat),(∀i∈q,i<bs.length)->RPs K H ((q.map fun i=>ts.getD i []).map tI) (q.map fun i=>V.ref (bs.getD i 0))
 | [],_=>RPs.nil K
 | i::q,h=>by
  refine RPs.cons K ?_ (oS hb q fun j hj=>h j (IJ _ hj));have hi:=h i IK;unfold tI;simp only[RP];refine⟨_,_,rfl,hb i _ ?_,RPs.ints K _⟩;rw[IE,ID hi];rfl
theorem kr{α:Type}{ts:List α}{d:α}{q:List Nat}(hn:ts.length=n)(p:q.Perm (List.range n)):(q.map fun i=>ts.getD i d).Perm ts:=by
 have:=p.map fun i=>ts.getD i d;have e:(List.range n).map (fun i=>ts.getD i d)=ts:=by
  subst hn;refine List.ext_getElem (by simp) fun i h1 h2=>?_;rw[List.getElem_map,List.getElem_range,IE,ID h2];rfl
 rw[e]at this;exact this
variable {B:Bs}
section
variable {X:Cx}{c P:Addr}{a:Expr}{ta:TE'}{params:Arguments}{scope:Scope}{p pos lpos kp p1 p2 p3 p4 p5:Pos}{x1:Nat}{q:Str}
theorem tY(hcode:X.env.code=.ref c)(hd:PySem.W.codeHdIn X.K c P=true)(hB:dS X.mg X.base)(hr:bG 4 X.A)(hm:X.mg "len"=none)(hg':Gl X "sorted")(hms:X.mg "sorted"=none)(hq:X.env.qual++"<lambda>"=q)
  (hdef:defaultsOf params X.env=([],[])) (hcl:closureFor scope X.env=pure []) (S:ax ["part"] ["part"] scope) (hv:scope.names.lookup (Str.ofString "part")=some .local) (hg:scope.names.lookup (Str.ofString "len")=some .globalImplicit)
  (hb:∀(pm cd ct u:Value) (s:Shared),BindsTo s (PySem.W.kla_fn "<lambda>" q params (.Tuple [.Call (.Name "len" p1) [.Name "part" p2] [] p3,.Name "part" p4] x1 p5) scope [] pm cd ct) ⟨[u],[]⟩ [("part",u)])
  (ha:PE' X B a ta) (hs:starEach [a] X.env=[(false,eval a X.env)]:=by rfl) (he:backTo pos (starEach [a] X.env)=(false,eval a X.env)::backTo pos (starEach [] X.env):=by rfl) (hpl:(backTo pos (starEach [a] X.env)).any (·.1)=false:=by rfl) :
  PE' X B (.Call (.Name "sorted" p) [a] [⟨some "key",.Lambda params (.Tuple [.Call (.Name "len" p1) [.Name "part" p2] [] p3,.Name "part" p4] x1 p5) scope lpos,kp⟩] pos) (tJ P lpos q ta):=by
 intro pins s σ H Q I h;obtain⟨σ',H',Q',sr,h,k⟩:=h;have LK:Eb X c P:=⟨hcode,PySem.W.codeHd_of_K I.ok.mod.kin hd,hB⟩;refine Kq (cO I hg' hms (u:=.builtin "sorted") (by decide +kernel) ?_ (by decide) (by decide));refine PyProof.Rows.callWith_kw ?_ he hpl rfl rfl;refine thn ((b7 ha cT hs) pos pins s σ H (fun vs H1=>∃x' H1' x,vs=[x]/\(∃a,∃ts:List (List Int),x'=.ref a/\H1' a=some (.lst (ts.map tI))/\H1' P=some (.tbl lpos q)/\ts.length<64/\ts.Nodup/\(∀t∈ts,Dig t/\t.length≤8) /\
  ∀r,∀us:List (List Int),us.Perm ts->us.Pairwise (fun x y=>kc x<kc y)->H1' r=none->Q' (.ref r) (put H1' r (.lst (us.map tI))))/\RP X.K H1 x' x/\SR X.K B σ' H1' σ H1/\Ev H' H H1' H1) I ⟨σ',H',_,sr,h,fun x' H1' x H1 h1 rx s1 e1=>⟨x',H1',x,rfl,h1,rx,s1,e1⟩⟩) fun us s1 q1=>?_
 obtain⟨vs,H1,I1,r1,x',H1',x,rfl,⟨l,ts,rfl,hl,hP,h64,nd,dig,hQ⟩,rx,s1r,ev1⟩:=q1;simp only[RP]at rx;subst rx;obtain⟨ul,hlU,rl⟩:=s1r.hp _ _ hl;obtain⟨bs,rfl,hlen,hat⟩:=oU rl;obtain⟨ps,hPs,hTb⟩:=s1r.hp _ _ hP;have nl:l≠P:=fun z=>by rw[z,hP]at hl;cases hl
 refine PyProof.Rows.kws_cons (thn (zr LK hq hdef hcl pins s1 σ H1 (fun v H2=>∃f,v=.ref f/\H1 f=none/\uf H2 f q params _ scope/\zb H1 H2 P lpos q) I1 ⟨⟨ps,hPs,hTb⟩,fun f H2 h1 h2 h3=>⟨f,rfl,h1,h2,h3⟩⟩) fun v s2 q2=>PyProof.Rows.kws_nil ?_);obtain⟨fv,H2,I2,rv,f,rfl,hf,hL,hX⟩:=q2;cases rv;cases r1 with
 | cons ra rb =>
  cases ra;cases rb;have kp12:Kp H1 H2:=⟨fun a us q=>hX.old a _ q (fun z=>by rw[z,hPs]at q;cases q),fun a o u q=>hX.old a _ q (fun z=>by rw[z,hPs]at q;cases q)⟩;have hB:L2.Srt X.K H2 bs ts:=⟨hlen,fun i b e=>kp12.sqT (hat i b e),dig,nd⟩;refine vD I2 (by have:=hr.units;omega) (.inl (.inl (hX.old _ _ hlU nl))) hB (by omega) (rC hr hm S hv hg hb hL hB) fun qs r H3 pq pw old n1 n2=>?_;obtain⟨ps2,hP2,hT2⟩:=hX.tab;have hr1:H1 r=none:=by
   cases z:H1 r with
   | none=>rfl
   | some o =>
    by_cases hp:r=P
    ·rw[hp,hP2]at n2;cases n2
    ·rw[hX.old r o z hp]at n2;cases n2
  have k2:∀b o,H2 b=some o->upd H3 r (.lst (qs.map fun i=>V.ref (bs.getD i 0))) b=some o:=fun b o e=>by
   rw[aH (aT e n2)];exact old b o e
  have k1:∀b o,H1 b=some o->b≠P->upd H3 r (.lst (qs.map fun i=>V.ref (bs.getD i 0))) b=some o:=fun b o e n=>k2 b o (hX.old b o e n);have kp13:Kp H1 (upd H3 r (.lst (qs.map fun i=>V.ref (bs.getD i 0)))):=kp12.trans ⟨fun a us q=>k2 _ _ q,fun a o u q=>k2 _ _ q⟩;have hqs:∀i∈qs,i<bs.length:=fun i hi=>Jn.mp (pq.mem_iff.mp hi);have ev:Ev H1' H1 (put H1' r (.lst ((qs.map fun i=>ts.getD i []).map tI))) (upd H3 r (.lst (qs.map fun i=>V.ref (bs.getD i 0)))):=fun b o e n=>by
   refine⟨k1 b o e fun z=>?_,?_⟩
   ·rw[z,hP]at n;cases n
   ·rw[aq (aT e hr1)];exact n
  have hrr:HR X.K (put H1' r (.lst ((qs.map fun i=>ts.getD i []).map tI))) (upd H3 r (.lst (qs.map fun i=>V.ref (bs.getD i 0)))):=fun b o e=>by
   by_cases hb:b=r
   ·subst hb;rw[ah]at e;cases e;exact⟨_,aR,oS (fun i b e=>kp13.sqT (hat i b e)) qs hqs⟩
   ·rw[aq hb]at e;by_cases hbP:b=P
    ·subst hbP;rw[hP]at e;cases e;exact⟨ps2,k2 _ _ hP2,hT2.elim .inl fun y_=>by obtain⟨c,oc,vs,t,x,y,z⟩:=y_;exact .inr ⟨c,oc,vs,t,x,k2 _ _ y,z⟩⟩
    ·have oa:=s1r.hp b o e;obtain⟨u,e1,_⟩:=oa.some;exact oa.keep kp13 ((k1 b u e1 hbP).trans e1.symm)
  exact k _ _ _ _ (hQ r _ (kr hlen pq) pw (s1r.hp.free hr1)) (by simp[RP]) (s1r.kp ev hrr) (ev1.trans ev)
end
end U
namespace L2
open PySem.W
def mI(P:Addr)(H:Hp):Prop:=H P=some (.tbl #[])/\∀b,b≠P->H b=none∨∃o xs,H b=some (.frz o (.lst xs))
theorem rG{K:PySem.W.Frag}
  (KX:K.In s₁.heap) (hns:s₁.heap.Ns mainGlobals mg) (hb:s₁.heap.Ns builtinsNs mb) (hbb:∀x:Str,x≠"__name__"->mb x=bootBuiltins x) (hlim:s₁.heap.NoLimit) (hg:s₁.gens=#[])
  (ha:s₁.heap.get? a=some { cls:=.type "list",data:=.seq vs.toArray }) (hi:IntsAre vs ns) (hl:ns.length≤sizeLine) (hr:bG k callerA)
  (hC:CodeHd s₁.heap c T) (hT:s₁.heap.get? T=some (tabObj #[])) (hKT:K.lookup T=none)
  (hBl:dS mg s₁.heap) (F:∀base:Heap,dS mg base->f9 P w K mg base CX k fa fd [x] sp) (hbind:∀(s:Shared) (u:Value),BindsTo s fd ⟨[u],[]⟩ [(x,u)])
  (hsp:∀H:Hp,mI T H->SqL K H a (ns.map V.int)->sp [.ref a] H (fun v _=>v=.bl true) fun _ _ _=>False)
  (hCX:∀H e s',CX [] H s₁ (fun _ _ _=>False) e s'->False) :
  codeAny (model P w) callerA (.call (.ref fa) ⟨[.ref a],[]⟩) (fun r s'=>r=.ok (.ret (.bool true))/\OldK s₁.heap s'.heap/\s'.os=s₁.os/\AllBare s'.gens) s₁:=by
 have rv:=eX hi;have lenV:=hi.length;have naT:a≠T:=fun z=>by rw[z,hT]at ha;cases ha
 have core:∀H:Hp,mI T H->SqL K H a (ns.map V.int)->HOk P w H s₁.heap->(∀b,H b≠none->b=a∨b=T)->(H a≠none->K.lookup a=none) ->
   codeAny (model P w) callerA (.call (.ref fa) ⟨[.ref a],[]⟩) (fun r s'=>r=.ok (.ret (.bool true))/\OldK s₁.heap s'.heap/\s'.os=s₁.os/\AllBare s'.gens) s₁:=by
  intro H hO hS hok hA hK;have base_of:∀{b:Addr} {o:Obj},s₁.heap.get? b=some o->H b=none->(fq s₁.heap H).get? b=some o:=fun e n=>m9 e n;have noA:∀{b:Addr} {o:Obj} {es:Array DictEntry} {ep:Nat},s₁.heap.get? b=some o->o.data=.dict es ep->H b=none:=fun {b o es ep} e d=>by
   cases q:H b with
   | none=>rfl
   | some u =>
    rcases hA b (by rw[q];simp)with e' | e'
    ·rw[e',ha]at e;cases e;have d':Data.seq vs.toArray _=Data.dict es ep:=d;cases d'
    ·rw[e',hT]at e;cases e;cases d
  have nsK:∀{b:Addr} {m:Str->Option Value},s₁.heap.Ns b m->(fq s₁.heap H).Ns b m:=fun {b m} ⟨o,es,ep,e,d,r⟩=>⟨o,es,ep,base_of e (noA e d),d,r⟩;have hKb:K.In (fq s₁.heap H):=fun b o e=>base_of (KX b o e) (by
   cases q:H b with
   | none=>rfl
   | some u =>
    rcases hA b (by rw[q];simp)with e' | e'
    ·subst e';rw[hK (by rw[q];simp)]at e;cases e
    ·subst e';rw[hKT]at e;cases e)
  have hB2:dS mg (fq s₁.heap H):=by
   obtain⟨bm,o,b1,b2,b3,b4,b5,b6⟩:=hBl;refine⟨bm,o,b1,b2,b3,base_of b4 ?_,b5,b6⟩;cases q:H bm with
   | none=>rfl
   | some u =>
    rcases hA bm (by rw[q];simp)with e' | e'
    ·rw[e',ha]at b4;cases b4;injection b5 with q5;exact absurd q5 (by decide)
    ·rw[e',hT]at b4;cases b4;cases b5
  have hM:Mod K mg (fq s₁.heap H):=⟨hKb,nsK hns,⟨mb,nsK hb,hbb⟩,let ⟨mc,h1,h2⟩:=hlim;⟨mc,nsK h1,h2⟩⟩;have e0:ir P w K mg (fq s₁.heap H) callerA [] s₁ H:=⟨rfl,hM,fun b o e=>qe e,Nat.le_of_eq (jT _ _),trivial,fun b hb=>absurd (show b∈([]:List Addr)from hb) (by simp),hok,.of_eq hg⟩;refine KO ((F _ hB2).run callerA [] s₁ H ⟨[.ref a],[]⟩ [.ref a] [.ref a] _ _ hr e0 (hbind s₁ (.ref a)) (.cons rfl .nil) (hsp H hO hS)) fun r s' h=>?_;cases r with
  | error e=>exact(hCX H e s' h).elim
  | ok fl =>
   cases fl with
   | next=>exact False.elim h
   | brk=>exact False.elim h
   | cont=>exact False.elim h
   | ret u =>
    obtain⟨v,H',os,bare,un,hok',r',q⟩:=h;have q':v=.bl true:=q;subst q';obtain rfl:u=Value.bool true:=r';obtain⟨more,hmT⟩:=un.tbls T #[] hO.1;have tT:s'.heap.get? T=some (tabObj (#[]++more)):=hok' T _ hmT;have kp:∀b o,s₁.heap.get? b=some o->b≠T->s'.heap.get? b=some o:=fun b o e n=>by
     cases q:H b with
     | none=>exact un.keep b o e q (by intro z;exact absurd (show b∈([]:List Addr)from z) (by simp)) (by simp)
     | some u =>
      rcases hO.2 b n with z |⟨ob,xs,z⟩
      ·rw[q]at z;cases z
      ·have z2:=un.frzs b ob _ z;obtain⟨e1,_⟩:=hok b _ z;obtain⟨e2,_⟩:=hok' b _ z2;rw[e]at e1;cases e1;exact e2
    refine⟨rfl,⟨fun b o e=>?_,fun b o e=>?_⟩,os,bare⟩
    ·by_cases hb:b=T
     ·subst hb;rw[hT]at e;cases e;exact .inr (.inl ⟨(hC.tab hT).isCodeTable,rfl,#[],more,rfl,tT⟩)
     ·exact .inl (kp b o e hb)
    ·by_cases hb:b=T
     ·subst hb;exact⟨_,tT⟩
     ·exact⟨o,kp b o e hb⟩
 cases hk:K.lookup a with
 | some o =>
  have e:=KX a o hk;rw[ha]at e;cases e;refine core (fun b=>if b=T then some (.tbl #[])else none) ⟨IZ rfl,fun b n=>.inl (IX n)⟩ (.inr ⟨_,vs.toArray,_,hk,rfl,rfl,rfl,by rw[IL,lenV];exact hl,by simpa using rv⟩) (fun b u z=>?_) (fun b z=>?_) fun z=>absurd (IX naT) z
  ·by_cases hb:b=T
   ·have z':=(IZ hb).symm.trans z;cases z';subst hb;exact hT
   ·have z':=(IX hb).symm.trans z;cases z'
  ·by_cases hb:b=T
   ·exact .inr hb
   ·exact absurd (IX hb) z
 | none =>
  refine core (fun b=>if b=T then some (.tbl #[])else if b=a then some (.frz { cls:=.type "list",data:=.seq vs.toArray } (.lst (ns.map V.int)))else none) ⟨IZ rfl,fun b n=>?_⟩ (.inl (.inr ⟨{ cls:=.type "list",data:=.seq vs.toArray },?_⟩)) (fun b u z=>?_) (fun b z=>?_) fun _=>hk
  ·by_cases hb:b=a
   ·exact .inr ⟨_,_,by dsimp only;rw[IX n,IZ hb]⟩
   ·exact .inl (by dsimp only;rw[IX n,IX hb])
  ·dsimp only;rw[IX naT,IZ rfl]
  ·dsimp only at z;by_cases hbT:b=T
   ·rw[IZ hbT]at z;cases z;subst hbT;exact hT
   ·rw[IX hbT]at z;by_cases hb:b=a
    ·rw[IZ hb]at z;cases z;subst hb;exact⟨ha,by rw[kb];exact hl,vs,_,rv,ha⟩
    ·rw[IX hb]at z;cases z
  ·by_cases hbT:b=T
   ·exact .inr hbT
   ·by_cases hb:b=a
    ·exact .inl hb
    ·rw[IX hbT,IX hb]at z;exact absurd rfl z
theorem vc{l:PySem.W.OpenLaw}{K:Params->PySem.W.Frag}{sp:Addr->PySem.W.Frag->Sp}(c T:Addr)
  (hn:l.most=some n) (hn2:n≤sizeLine) (hdf:d.params.defaults=[]) (hr:bG k callerA)
  (hY:∀(w:World) (h:Heap),YP w h->(K w.params).In h) (hT:∀(w:World) (h:Heap),YP w h->h.get? T=some (tabObj #[]))
  (hC:∀p,codeHdIn (K p) c T=true) (hK:∀p,(K p).lookup T=none)
  (F:∀(w:World) (mg:Str->Option Value) (fa:Addr) (h:Heap),(K w.params).In h->h.Ns mainGlobals mg->mg d.name=some (.ref fa) ->
   ∃fd:FuncData,(∀(s:Shared) (u:Value),BindsTo s fd ⟨[u],[]⟩ [(x,u)]) /\
    ∀base:Heap,dS mg base->f9 l.prog w (K w.params) mg base CX k fa fd [x] (sp T (K w.params)))
  (hsp:∀(K:PySem.W.Frag) (H:Hp) (a:Addr) (ns:List Int),ns.length≤n->mI T H->SqL K H a (ns.map V.int)->sp T K [.ref a] H (fun v _=>v=.bl true) fun _ _ _=>False)
  (hCX:∀(H:Hp) (s:Shared) (e:Value) (s':Shared),CX [] H s (fun _ _ _=>False) e s'->False) :
  PySem.W.WalkO q loose XP YP l.row.toRowW d [] (fun f vs=>PySem.call f vs):=by
 refine Att.hV hn hdf fun w s₀ s₁ mg mb fa o pm cd doc a vs ns G Y ho hd hcd hmg hobj hints hlen hg=>?_;have KX:=hY w _ Y;obtain⟨fd,hb,hF⟩:=F w mg fa _ KX G.T.g hmg;have hBl:dS mg s₁.heap:=by
  obtain⟨bm,o,b1,b2,b3,b4,b5,b6⟩:=G.T.bmain;refine⟨bm,o,b1,b2,fun z=>?_,b3,b4,b5,b6⟩;obtain⟨o',es,ep,e,d,_⟩:=G.T.g;rw[←z,b3]at e;cases e;rw[b6]at d;cases d
 exact rG KX G.T.g G.T.b G.T.builtins G.T.nolimit hg hobj hints (Jl hlen hn2) hr (codeHd_of_K KX (hC w.params)) (hT w _ Y) (hK w.params) hBl hF hb (fun H hO hS=>hsp _ H a ns hlen hO hS) fun H e s'=>hCX H s₁ e s'
end L2
namespace U
open L2
theorem Bl{K:PySem.W.Frag}(o:mI T H)(h:SqL K H a xs):FzL K H a xs:=by
 rcases h with(h | h) | h
 ·by_cases n:a=T
  ·rw[n,o.1]at h;cases h
  ·rcases o.2 a n with z |⟨ob,ys,z⟩
   ·rw[z]at h;cases h
   ·rw[z]at h;cases h
 ·exact .inl h
 ·exact .inr h
def uo(T:Addr)(pos:Pos)(q:Str):Sp':=fun vs H Q _=>match vs with
 | [.fls l]=>∃ns:List Int,l=ns.map PV.int/\ns.length≤63/\H T=some (.tbl pos q)/\Q (.bl true) H
 | _=>False
theorem nW{K:PySem.W.Frag}{ns:List Int}(hl:ns.length≤63)(o:mI T H)(h:SqL K H a (ns.map V.int)):fM K (uo T pos q) [.ref a] H (fun v _=>v=.bl true) fun _ _ _=>False:=by
 refine⟨[.fls (ns.map PV.int)],fun b=>if b=T then some (.tbl pos q)else none,fun v _=>v=.bl true,X0,?_,fun b u z=>?_,⟨ns,rfl,hl,IZ rfl,rfl⟩,fun v' _ v _ q r _ _=>?_,fun _ _ _ _ z=>z.elim⟩
 ·refine RPs.cons _ ?_ (RPs.nil _);simp only[RP];exact⟨a,_,rfl,Bl o h,RPs.ints _ _⟩
 ·by_cases hb:b=T
  ·have z':=(IZ hb).symm.trans z;cases z';subst hb;exact⟨#[],o.1,.inl rfl⟩
  ·have z':=(IX hb).symm.trans z;cases z'
 ·subst q;simpa[RP]using r
section
variable {P:Program}{w:World}{K:PySem.W.Frag}{mg:Str->Option Value}{base:Heap}
theorem GN{st:Stmt}(hc:fd.code=cv)(F:Fun K x qual st f fd)(S:ax N ps (ai st))(len:∀vs H Q E,sp vs H Q E->vs.length=ps.length)
  (hbody:∀(A:Around) (outer:List Env) (s:Shared) (H:Hp) (E:XK) (B:Bs),bG k (A.deeper (envOfC qual (ai st) s.heap.objs.size f cv)) ->
   ∃t,iu (jF CX0 P w K mg base N qual (ai st) f cv A outer s H E).nox B (cG st) t/\∀vs' H' Q' E',sp vs' H' Q' E'->t (ends Q') (d5 N vs') H'):aK P w K mg base CX0 (k+1) f fd ps sp:=by
 obtain⟨oc,od,kV,doc,pm,an,cdv,ct,osl,rfl,lk,hcd⟩:=F.ex;have hc':cdv=cv:=hc;subst hc';refine zg lk hcd S (fun vs H Q E zz=>?_) fun A outer s H vs Q E hr h=>?_
 ·obtain⟨vs',H',Q',E',r,hr,h,_⟩:=zz;rw[RPs.length _ r];exact len _ _ _ _ h
 ·obtain⟨vs',H',Q',E',r,hh,h,k1,k2⟩:=h;obtain⟨t,ht,hq⟩:=hbody A outer s H E (H',H) hr;refine⟨_,PSs.nox ht,d5 N vs',H',_,mZ r hh,hq vs' H' Q' E' h,?_,?_,?_,?_⟩
  ·rintro σ1' H1' σ1 H1 ⟨H3,sb,q⟩ s1 e1;exact k1 _ H3 _ H1 q (by simp[RP]) (s1.hp.sub sb) (e1.sub sb)
  ·rintro v' H1' v H1 ⟨H3,sb,q⟩ r1 s1 e1;exact k1 _ H3 _ H1 q r1 (s1.sub sb) (e1.sub sb)
  ·intro _ _ _ _ z;exact z.elim
  ·intro _ _ _ _ z;exact z.elim
end
end U
namespace L2
open PySem.W
section
variable {prog:Program}{w:World}{A:Around}{s:Shared}
theorem qf{C:Bool->Shared->Prop}:∀{us vs:List Value} {t u:List Int} (i:Nat),IntsAre us t->IntsAre vs u->t.length=u.length->C (HT.lexLt t u) s->KatLex prog w A true false C (us.zip vs) i s
 | _,_,_,_,i,.nil,.nil,_,h=>h
 | _,_,_,_,_,.nil,.cons _ _ _,l,_=>by simp at l
 | _,_,_,_,_,.cons _ _ _,.nil,l,_=>by simp at l
 | _,_,_,_,i,.cons x tx hx,.cons y ty hy,l,h=>by
  rw[List.zip_cons_cons];refine kat_cons (wpAny_eqBool_int ?_);rw[HT.dN]at h;refine kat_go (fun e=>kat_yes ?_) (fun e=>kat_no ?_)
  ·have e:x=y:=by simpa using e
   rw[IZ e]at h;exact qf (i+1) hx hy (by simpa using l) h
  ·have e:¬x=y:=by simpa using e
   rw[IX e]at h;cases i with
   | zero=>exact oneLt_int h
   | succ i=>exact kat_one _ _ (PyProof.Rows.lt_int h)
end
variable {X:Cx}
def uJ(K:PySem.W.Frag):List V->Hp->VK->Prop:=fun xs H Q=>∃(a:Addr) (bs:List Addr) (ts:List (List Int)) (m:Nat),xs=[.ref a]/\SqL K H a (bs.map V.ref)/\Srt K H bs ts/\bs.length<64/\(∀t∈ts,t.length=m)/\(2≤bs.length->m≠0) /\
 ∀(r:Addr) (q:List Nat),H r=none->q.Perm (List.range bs.length)->(q.map fun i=>ts.getD i []).Pairwise (fun x y=>tc x<tc y)->Q (.ref r) (upd H r (.lst (q.map fun i=>V.ref (bs.getD i 0))))
theorem ka:∀{bs:List Addr} {us:List Value},Vals (bs.map V.ref) us->us=bs.map Value.ref
 | [],_,.nil=>rfl
 | b::bs,_,.cons a r=>by cases a;rw[ka r];rfl
theorem kx:∀(q:List Nat) (bs:List Addr),Vals (q.map fun i=>V.ref (bs.getD i 0)) (q.map fun i=>Value.ref (bs.getD i 0))
 | [],_=>.nil
 | i::q,bs=>.cons rfl (kx q bs)
def E5(bs:List Addr)(ts:List (List Int))(h:Heap):Prop:=∀i b,bs[i]?=some b->∃o k its,h.get? b=some o/\o.cls=.type "tuple"/\o.data=.seq its k/\IntsAre its.toList (ts.getD i [])
theorem j7{h:Heap}:∀{bs:List Addr} {ts:List (List Int)},E5 bs ts h->ts.length=bs.length->(∀t∈ts,t≠[])->∃fs,KatTups h (bs.map Value.ref) fs/\fs.length=(bs.map Value.ref).length/\∀v∈fs,∃i t,v=.int i t
 | [],_,_,_,_=>⟨[],KatTups.nil,rfl,by simp⟩
 | b::bs,[],_,l,_=>by simp at l
 | b::bs,t::ts,x,l,n=>by
  obtain⟨fs,tt,e,q⟩:=j7 (h:=h) (bs:=bs) (ts:=ts) (fun i b e=>by simpa using x (i+1) b (by simpa using e)) (by simpa using l) fun t ht=>n t (IJ _ ht);obtain⟨o,k,its,ho,hc,hd,hi⟩:=x 0 b (by simp);have hi:IntsAre its.toList t:=by simpa using hi
  have nt:=n t IK;obtain⟨v,hv,y,tk,rfl⟩:∃v,its[0]?=some v/\∃y tk,v=.int y tk:=by
   obtain⟨l⟩:=its;cases hi with
   | nil=>exact absurd rfl nt
   | cons y tk r=>exact⟨_,rfl,y,tk,rfl⟩
  refine⟨.int y tk::fs,KatTups.cons ho hc hd hv tt,by simp[e],?_⟩;intro z hz;rcases IY.mp hz with rfl | hz
  ·exact⟨_,_,rfl⟩
  ·exact q z hz
theorem n6:cf X (.builtin "sorted") (uJ X.K):=by
 intro pins s σ H xs us Q I r h;obtain⟨a,bs,ts,m,rfl,hq,hB,h64,hm,hm0,q⟩:=h;obtain⟨u,rfl,ru⟩:=Vals.one r;cases ru;obtain⟨its,rv,p,hz⟩:=I.list hq;have e:=ka rv;subst e;have gD:∀{i:Nat},i<bs.length->ts.getD i []∈ts:=fun {i} hi=>getD_mem (by rw[hB.len];exact hi);have gB:∀{i:Nat},i<bs.length->bs[i]?=some (bs.getD i 0):=fun {i} hi=>by rw[IE,ID hi];rfl
 have gV:∀{i:Nat},i<bs.length->(bs.map Value.ref).getD i Value.none=.ref (bs.getD i 0):=fun {i} hi=>by
  rw[IE,IV,gB hi];rfl
 refine ST.jb (E5 bs ts) (fun i=>tc (ts.getD i [])) (fun h h' x k i b e=>?_) (fun h x l=>?_) (fun s A i j C hT hi hj hC=>?_) (fun i j hi hj e=>?_) p.isList (fun i b e=>?_) (by rw[kb];exact h64) fun qs h1 h2=>?_
 ·obtain⟨o,n,its,ho,hc,r⟩:=x i b e;exact⟨o,n,its,k b o hc ho,hc,r⟩
 ·rw[kb]at l;exact j7 x hB.len fun t ht z=>hm0 l (by rw[←hm t ht,z];rfl)
 ·rw[kb]at hi hj;rw[gV hi,gV hj];obtain⟨o,n,its,ho,hc,hd,hi1⟩:=hT i _ (gB hi);obtain⟨o2,n2,its2,ho2,hc2,hd2,hj1⟩:=hT j _ (gB hj);have l1:(ts.getD i []).length=(ts.getD j []).length:=(hm _ (gD hi)).trans (hm _ (gD hj)).symm;refine kat_lt ho hd ho2 hd2 ?_;have sz:decide (its.size<its2.size)=false:=by
   have a1:=hi1.length;have a2:=hj1.length;rw[J0]at a1 a2;rw[a1,a2,l1];simp
  rw[sz];refine qf 0 hi1 hj1 l1 ?_;rw[(iQ (hB.dig _ (gD hi)).1 (hB.dig _ (gD hj)).1 l1).1];exact hC
 ·rw[kb]at hi hj;have l1:(ts.getD i []).length=(ts.getD j []).length:=(hm _ (gD hi)).trans (hm _ (gD hj)).symm;have e2:=(iQ (hB.dig _ (gD hi)).1 (hB.dig _ (gD hj)).1 l1).2 e;have hi':i<ts.length:=by rw[hB.len];exact hi
  have hj':j<ts.length:=by rw[hB.len];exact hj
  rw[IE,ID hi',IE,ID hj']at e2;exact(List.getElem_inj hB.nd).mp e2
 ·obtain⟨is,r2,⟨o,ho,hcl,n,hd⟩,_⟩:=I.tuple (hB.at_ i b e);exact⟨o,n,_,ho,hcl,hd,by simpa using eO r2⟩
 ·have hn:H (s.heap.objs.size+1)=none:=I.hok.fresh (Nat.le_succ _);obtain⟨e,he⟩:=sortedAll_at s.heap (bs.map Value.ref) (qs.map fun i=>(bs.map Value.ref).getD i Value.none).toArray;rw[kb]at h1;have hin:∀i∈qs,i<bs.length:=fun i hi=>Jn.mp (h1.mem_iff.mp hi);have eq:(qs.map fun i=>(bs.map Value.ref).getD i Value.none)=qs.map fun i=>Value.ref (bs.getD i 0):=J8 fun i hi=>gV (hin i hi);rw[eq]at he ⊢;have hz2:(qs.map fun i=>V.ref (bs.getD i 0)).length≤sizeLine:=by rw[kb,h1.length_eq,JH,Jt];omega
  refine⟨.ref (s.heap.objs.size+1),_,I.laid (t':=s.toks) (o:=.lst (qs.map fun i=>V.ref (bs.getD i 0))) (fun b o e=>sortedAll_old e) (Nat.le_succ _) ?_,rfl,q _ qs hn h1 (JQ.mpr h2)⟩;exact⟨hz2,_,e,kx qs bs,he⟩
end L2
namespace U
open L2
variable {B:Bs}{X:Cx}
def vF:List PV->PHp->VK'->Prop:=cP fun x H Q=>match x with
 | .ref a=>∃ts:List (List Int),∃m:Nat,H a=some (.lst (ts.map tI))/\ts.Nodup/\(∀t∈ts,Dig t/\t.length≤8)/\ts.length<64/\(∀t∈ts,t.length=m)/\(2≤ts.length->m≠0)/\∀(r:Addr) (us:List (List Int)),H r=none->us.Perm ts->us.Pairwise (fun x y=>tc x<tc y)->Q (.ref r) (put H r (.lst (us.map tI)))
 | _=>False
theorem CD:vF [.ref a] H Q=(∃ts:List (List Int),∃m:Nat,H a=some (.lst (ts.map tI))/\ts.Nodup/\(∀t∈ts,Dig t/\t.length≤8)/\ts.length<64/\(∀t∈ts,t.length=m)/\(2≤ts.length->m≠0)/\∀(r:Addr) (us:List (List Int)),H r=none->us.Perm ts->us.Pairwise (fun x y=>tc x<tc y)->Q (.ref r) (put H r (.lst (us.map tI)))):=rfl
theorem rZ{K:PySem.W.Frag}:VC K B vF (uJ K):=by
 intro σ' σ H' H xs' xs Q' Q s r h k;obtain⟨x',x,rfl,rfl,rx,h⟩:=cP.ex h r;cases x' with
 | ref a =>
  obtain⟨ts,m,ea,nd,dig,h64,hm,hm0,q⟩:=h;simp only[RP]at rx;subst rx;obtain⟨us,e,r2⟩:=s.hp _ _ ea;obtain⟨bs,rfl,hl,hat⟩:=oU r2;refine⟨a,bs,ts,m,rfl,.inl (.inl e),⟨hl,hat,dig,nd⟩,by omega,hm,fun z=>hm0 (by omega),fun r qs hr h1 h2=>?_⟩;have hin:∀i∈qs,i<bs.length:=fun i hi=>Jn.mp (h1.mem_iff.mp hi);exact k _ _ _ _ (q r _ (s.hp.free hr) (kr hl h1) h2) (by simp[RP]) (s.new hr (mE hr (oS hat qs hin))) (Ev.new hr)
 | _=>exact h.elim
end U
namespace L2
theorem lV{X:Cx}{CX:CXT}{k i:Nat}{f:Addr}{fd:FuncData}{ps:List Str}{sp:Sp}{E:XK}{x:Str}{p pos:Pos}{e:Expr}{es:List Expr}{t:TA}(F:f9 X.prog X.w X.K X.mg X.base CX k f fd ps sp)(hr:bG k X.A)(hk:PySem.W.keepIn X.K (.ref f)=true)(hb:Binds X.K fd ps [])(hx:Passes CX X E)
  (hn:PE X (.Name x p) (rj i)) (ha:PA X (e::es) t) (he:starEach (e::es) X.env=(false,eval e X.env)::starEach es X.env:=by rfl) (hpl:(backTo pos (starEach es X.env)).any (·.1)=false:=by rfl) :
  PE X (.Call (.Name x p) (e::es) [] pos) (fun σ H Q=>σ[i]?=some (some (.ref f))/\vw sp [] E t σ H Q):=by
 intro pins s σ H Q I ⟨hi,h⟩;refine Kq (thn (hn pins s σ H (fun v H1=>v=.ref f/\H1=H) I ⟨_,hi,rfl,rfl⟩) fun u s0 q0=>?_);obtain⟨v,H0,I0,rv,rfl,rfl⟩:=q0;cases rv;refine PySem.W.callWith_K (h₀:=X.base) I0.ok.mod.kin hk (thn (ha pos pins s0 σ _ _ I0 h) fun us s1 ⟨vs,H1,I1,r,q⟩=>⟨I1.kIn,?_⟩) he hpl;exact n9 F hr hb .nil hx I1 r q
end L2
namespace U
open L2
variable {B:Bs}{X:Cx}{k i:Nat}{f f2:Addr}{fd fd2:FuncData}{ps ps2:List Str}{sp sp2:Sp'}{x:Str}{p pos:Pos}{e:Expr}{es:List Expr}{t:TA'}
def sv(i:Nat)(f:Addr)(sp:Sp')(f2:Addr)(sp2:Sp')(t:TA'):TE':=fun σ H Q=>ke σ[i]? fun v=>(v=.ref f/\t σ H fun vs H1=>sp vs H1 Q X0)∨(v=.ref f2/\t σ H fun vs H1=>sp2 vs H1 Q X0)
theorem rW(i:Nat)(F:aK X.prog X.w X.K X.mg X.base CX0 k f fd ps sp)(hk:PySem.W.keepIn X.K (.ref f)=true)(hb:Binds X.K fd ps [])(F2:aK X.prog X.w X.K X.mg X.base CX0 k f2 fd2 ps2 sp2)(hk2:PySem.W.keepIn X.K (.ref f2)=true)(hb2:Binds X.K fd2 ps2 [])(hr:bG k X.A)
  (hn:PE X (.Name x p) (rj i)) (ha:PA' X B (e::es) t) (he:starEach (e::es) X.env=(false,eval e X.env)::starEach es X.env:=by rfl) (hpl:(backTo pos (starEach es X.env)).any (·.1)=false:=by rfl) :
  PE' X B (.Call (.Name x p) (e::es) [] pos) (sv i f sp f2 sp2 t):=by
 intro pins s σ H Q I h;obtain⟨σ',H',Q',sr,h,kk⟩:=h;obtain⟨v,hv,h⟩:=h.ex;obtain⟨u,hu,ru⟩:=sr.loc i v hv;rcases h with⟨rfl,h⟩ |⟨rfl,h⟩<;>simp only[RP]at ru<;>subst ru
 ·exact lV F hr hk hb my hn ha he hpl pins s σ H Q I ⟨hu,gJ ⟨σ',H',Q',sr,h,kk⟩⟩
 ·exact lV F2 hr hk2 hb2 my hn ha he hpl pins s σ H Q I ⟨hu,gJ ⟨σ',H',Q',sr,h,kk⟩⟩
end U
namespace My
open L2 (kc tc Dig fy)
def rO(acc:List (List Int))(x:Int):List (List Int):=acc++acc.map (·++[x])
def subs(l:List Int):List (List Int):=l.foldl rO [[]]
theorem eQ(l:List Int)(x:Int):subs (l++[x])=rO (subs l) x:=by unfold subs;rw[K3];rfl
theorem rv{P:List Int->Prop}(h0:P [])(h1:∀l x,P l->P (l++[x]))(l:List Int):P l:=by
 have:∀m:List Int,P m.reverse:=fun m=>by
  induction m with
  | nil=>exact h0
  | cons x m ih=>rw[List.reverse_cons];exact h1 _ _ ih
 have:=this l.reverse
 rwa [List.reverse_reverse]at this
theorem f7(l:List Int):(subs l).length=2 ^ l.length:=by
 refine rv (P:=fun l=>(subs l).length=2 ^ l.length) rfl (fun l x ih=>?_) l;rw[eQ];unfold rO;rw[II,kb,ih,II];simp[Nat.pow_succ];omega
theorem sub_one{x:Int}:M.Sublist [x]↔M=[]∨M=[x]:=by
 constructor
 ·intro h;cases h with
  | cons _ h=>exact .inl (List.sublist_nil.mp h)
  | cons_cons _ h=>exact .inr (by rw[List.sublist_nil.mp h])
 ·rintro(rfl | rfl)
  ·exact List.nil_sublist _
  ·exact List.Sublist.refl _
theorem dh(l:List Int):∀{M:List Int},M∈subs l↔M.Sublist l:=by
 refine rv (P:=fun l=>∀{M:List Int},M∈subs l↔M.Sublist l) (fun {M}=>?_) (fun l x ih {M}=>?_) l
 ·show M∈[[]]↔_;rw[IW,List.sublist_nil]
 ·rw[eQ,rO,IU,IF,ih,List.sublist_append_iff];constructor
  ·rintro(h |⟨a,h,rfl⟩)
   ·exact⟨M,[],by simp,h,List.nil_sublist _⟩
   ·exact⟨a,[x],rfl,ih.mp h,List.Sublist.refl _⟩
  ·rintro⟨a,b,rfl,ha,hb⟩;rcases sub_one.mp hb with rfl | rfl
   ·rw[Ji];exact .inl ha
   ·exact .inr ⟨a,ih.mpr ha,rfl⟩
theorem kU(l:List Int):l.Nodup->(subs l).Nodup:=by
 refine rv (P:=fun l=>l.Nodup->(subs l).Nodup) (fun _=>?_) (fun l x ih nd=>?_) l
 ·show [[]].Nodup;simp
 ·obtain⟨n1,_,n3⟩:=Jz.mp nd;rw[eQ,rO];refine Jz.mpr ⟨ih n1,?_,?_⟩
  ·rw[Jr,JQ];exact(Jr.mp (ih n1)).imp fun h e=>h (List.append_cancel_right e)
  ·intro a ha b hb e;obtain⟨c,_,rfl⟩:=IF.mp hb;subst e;have:=((dh l).mp ha).subset (show x∈c++[x] by simp);exact n3 x this x (by simp) rfl
theorem pI{α:Type}{f:α->Int}:∀{L M:List α},L.Pairwise (fun x y=>f x<f y)->M.Pairwise (fun x y=>f x<f y)->(∀x,x∈L↔x∈M)->L=M
 | [],[],_,_,_=>rfl
 | [],y::M,_,_,h=>by have:=(h y).mpr IK;cases this
 | x::L,[],_,_,h=>by have:=(h x).mp IK;cases this
 | x::L,y::M,a,b,h=>by
  rw[Ks]at a b;have e:x=y:=by
   rcases IY.mp ((h x).mp IK)with e | e
   ·exact e
   ·rcases IY.mp ((h y).mpr IK)with e2 | e2
    ·exact e2.symm
    ·have:=b.1 x e;have:=a.1 y e2;omega
  subst e;have ih:=pI (f:=f) a.2 b.2 fun z=>⟨fun hz=>?_,fun hz=>?_⟩
  ·rw[ih]
  ·rcases IY.mp ((h z).mp (IJ _ hz))with e | e
   ·subst e;have:=a.1 z hz;omega
   ·exact e
  ·rcases IY.mp ((h z).mpr (IJ _ hz))with e | e
   ·subst e;have:=b.1 z hz;omega
   ·exact e
structure dG (l:List Int) (L:List (List Int)):Prop where
 st:L.Pairwise (fun x y=>kc x<kc y)
 iff:∀M,M∈L↔M.Sublist l
theorem dG.one(h:dG l L)(g:dG l M):L=M:=pI h.st g.st fun x=>(h.iff x).trans (g.iff x).symm
theorem dG.of(p:L.Perm (subs l))(s:L.Pairwise (fun x y=>kc x<kc y)):dG l L:=⟨s,fun M=>p.mem_iff.trans (dh l)⟩
theorem zo{L:List (List Int)}(s:L.Pairwise (fun x y=>kc x<kc y)):L.Nodup:=Jr.mpr (s.imp fun h e=>by subst e;omega)
theorem dG.len(h:dG l L)(nd:l.Nodup):L.length=2 ^ l.length:=by
 rw[←f7];exact((List.perm_ext_iff_of_nodup (zo h.st) (kU l nd)).mpr fun M=>(h.iff M).trans (dh l).symm).length_eq
def pick:List Int->Nat->List Int
 | [],_=>[]
 | x::l,b=>if b % 2=1 then x::pick l (b / 2)else pick l (b / 2)
theorem fP:∀(l:List Int) (b:Nat),(pick l b).Sublist l
 | [],_=>List.Sublist.refl _
 | x::l,b=>by
  unfold pick;split
  ·exact(fP l _).cons_cons _
  ·exact(fP l _).cons _
theorem iV:∀{l M:List Int},M.Sublist l->∃b,b<2 ^ l.length/\pick l b=M
 | _,_,.slnil=>⟨0,by simp,rfl⟩
 | x::l,M,.cons _ h=>by
  obtain⟨b,hb,e⟩:=iV h;refine⟨2*b,by rw[Jg,Nat.pow_succ];omega,?_⟩;unfold pick;rw[IX (by omega),show 2*b / 2=b by omega,e]
 | x::l,_::M,.cons_cons _ h=>by
  obtain⟨b,hb,e⟩:=iV h;refine⟨2*b+1,by rw[Jg,Nat.pow_succ];omega,?_⟩;unfold pick;rw[IZ (by omega),show(2*b+1) / 2=b by omega,e]
theorem mf:∀{l:List Int},l.Nodup->∀{a b:Nat},a<2 ^ l.length->b<2 ^ l.length->pick l a=pick l b->a=b
 | [],_,a,b,ha,hb,_=>by simp at ha hb;omega
 | x::l,nd,a,b,ha,hb,e=>by
  rw[Kf]at nd;rw[Jg,Nat.pow_succ]at ha hb;have no:∀c d,x::pick l c≠pick l d:=fun c d e=>nd.1 ((fP l d).subset (by rw[←e];simp));unfold pick at e;have ih:=fun q=>mf nd.2 (a:=a / 2) (b:=b / 2) (by omega) (by omega) q;split at e<;>split at e
  ·have:=ih (List.cons.inj e).2;omega
  ·exact absurd e (no _ _)
  ·exact absurd e.symm (no _ _)
  ·have:=ih e;omega
theorem uR(l:List Int)(b:Nat):((List.range l.length).filter fun k=>decide (b / 2 ^ k % 2=1)).map (fun k=>l.getD k 0)=pick l b:=by
 induction l generalizing b with
 | nil=>rfl
 | cons x l ih =>
  rw[Jg,List.range_succ_eq_map,JF];have e:((List.range l.length).map Nat.succ).filter (fun k=>decide (b / 2 ^ k % 2=1))=((List.range l.length).filter fun k=>decide (b / 2 / 2 ^ k % 2=1)).map Nat.succ:=by
   rw[List.filter_map];congr 1;refine List.filter_congr fun k _=>?_;show decide (b / 2 ^ (k+1) % 2=1)=_;rw[Nat.pow_succ,Nat.mul_comm,Nat.div_div_eq_div_mul]
  rw[e];unfold pick;rw[show b / 2 ^ 0=b by simp];by_cases h:b % 2=1
  ·rw[IZ (by simpa using h),IZ h,Jb,Jj,← ih];rfl
  ·rw[IX (by simpa using h),IX h,Jj,← ih];rfl
def picks(l:List Int)(m n:Nat):List (List Int):=((List.range n).map (pick l)).filter fun M=>decide (M.length=m)
theorem jq(l:List Int)(m n:Nat):picks l m (n+1)=picks l m n++(if (pick l n).length=m then [pick l n]else []):=by
 unfold picks;rw[List.range_succ,IP,J7];congr 1;by_cases h:(pick l n).length=m
 ·rw[IZ h];simp[h]
 ·rw[IX h];simp[h]
theorem uX(nd:l.Nodup){m n:Nat}(h:n≤2 ^ l.length):(picks l m n).Nodup:=by
 refine List.Nodup.sublist KA ?_;rw[Jr,JQ];refine KJ (fun {a b} ha hb hab e=>?_) (Jr.mp (List.nodup_range (n:=n)));have:=Jn.mp ha;have:=Jn.mp hb;exact hab (mf nd (by omega) (by omega) e)
theorem ki:M∈picks l m (2 ^ l.length)↔M.Sublist l/\M.length=m:=by
 unfold picks;rw[Jm,IF,JB];constructor
 ·rintro⟨⟨b,_,rfl⟩,h⟩;exact⟨fP l b,h⟩
 ·rintro⟨h,e⟩;obtain⟨b,hb,e2⟩:=iV h;exact⟨⟨b,Jn.mpr hb,e2⟩,e⟩
structure e9 (l:List Int) (m:Nat) (L:List (List Int)):Prop where
 st:L.Pairwise (fun x y=>kc x<kc y)
 iff:∀M,M∈L↔M.Sublist l/\M.length<m
theorem iJ(d:Dig l)(h:M.Sublist l):Dig M:=fun x hx=>d x (h.subset hx)
theorem e9.step{l:List Int}{m:Nat}{L U:List (List Int)}(d:Dig l)(l8:l.length≤8)(h:e9 l m L)(p:U.Perm (picks l m (2 ^ l.length)))(s:U.Pairwise (fun x y=>tc x<tc y)):e9 l (m+1) (L++U):=by
 have mU:∀M,M∈U↔M.Sublist l/\M.length=m:=fun M=>p.mem_iff.trans ki;have e8:(8:Int) ^ 8=16777216:=by decide
 refine⟨List.pairwise_append.mpr ⟨h.st,?_,?_⟩,fun M=>?_⟩
 ·refine KJ (fun {x y} hx hy e=>?_) s;unfold kc;rw[((mU x).mp hx).2,((mU y).mp hy).2];omega
 ·intro x hx y hy;obtain⟨a1,a2⟩:=(h.iff x).mp hx;obtain⟨b1,b2⟩:=(mU y).mp hy;have c1:=fy (iJ d a1) (by have:=a1.length_le;omega);have c2:=fy (iJ d b1) (by have:=b1.length_le;omega);unfold kc;rw[e8]at *;omega
 ·rw[IU,h.iff,mU];constructor
  ·rintro(⟨a,b⟩ |⟨a,b⟩)
   ·exact⟨a,by omega⟩
   ·exact⟨a,by omega⟩
  ·rintro⟨a,b⟩;by_cases e:M.length=m
   ·exact .inr ⟨a,e⟩
   ·exact .inl ⟨a,by omega⟩
theorem e9.all(h:e9 l (l.length+1) L):dG l L:=⟨h.st,fun M=>(h.iff M).trans ⟨fun z=>z.1,fun z=>⟨z,by have:=z.length_le;omega⟩⟩⟩
theorem e9.nil:e9 l 0 []:=⟨List.Pairwise.nil,fun M=>⟨fun z=>(by cases z),fun z=>by omega⟩⟩
theorem e9.len(h:e9 l m L)(nd:l.Nodup):L.length≤2 ^ l.length:=by
 rw[←f7,((List.perm_ext_iff_of_nodup (zo h.st) ((kU l nd).sublist (KA (p:=fun M=>decide (M.length<m))))).mpr fun M=>by rw[Jm,JB,dh];exact h.iff M).length_eq];exact JD _ _
def bC(d:List Int->Bool)(acc:List (List Int))(M:List Int):List (List Int):=if (∀D∈acc,¬∀x∈D,x∈M)/\d M=true then acc++[M]else acc
def least(d:List Int->Bool)(L:List (List Int)):List (List Int):=L.foldl (bC d) []
theorem dv(d:List Int->Bool):∀(L acc:List (List Int)),L.foldl (bC d) acc=(L.filter d).foldl (bC fun _=>true) acc
 | [],_=>rfl
 | M::L,acc=>by
  rw[List.foldl_cons,JF];by_cases h:d M=true
  ·rw[IZ h,List.foldl_cons,dv d L];congr 1;unfold bC;simp[h]
  ·rw[IX h,← dv d L];congr 1;unfold bC;rw[IX (fun z=>h z.2)]
end My
namespace DM
abbrev P2:=Int×Int
def pk(p:P2):Int:=6*p.1+p.2
structure Good (c:Int) (l:List P2):Prop where
 nd:l.Nodup
 lo:∀p∈l,0≤p.1/\p.1<p.2/\p.2<c
theorem j8{α:Type}(k:α->Int):∀{a b:List α},a.Pairwise (fun x y=>k x<k y)->b.Pairwise (fun x y=>k x<k y)->(∀x,x∈a↔x∈b)->a=b
 | [],[],_,_,_=>rfl
 | [],y::b,_,_,h=>by have:=(h y).mpr IK;simp at this
 | x::a,[],_,_,h=>by have:=(h x).mp IK;simp at this
 | x::a,y::b,ha,hb,h=>by
  obtain⟨h1,h2⟩:=Ks.mp ha;obtain⟨g1,g2⟩:=Ks.mp hb;have e:x=y:=by
   rcases IY.mp ((h x).mp IK)with e | m
   ·exact e
   ·rcases IY.mp ((h y).mpr IK)with e | m'
    ·exact e.symm
    ·have a1:=g1 x m;have a2:=h1 y m';omega
  subst e;congr 1;refine j8 k h2 g2 fun z=>⟨fun m=>?_,fun m=>?_⟩
  ·rcases IY.mp ((h z).mp (IJ _ m))with e | m'
   ·subst e;have:=h1 z m;omega
   ·exact m'
  ·rcases IY.mp ((h z).mpr (IJ _ m))with e | m'
   ·subst e;have:=g1 z m;omega
   ·exact m'
theorem eJ{a b l:List P2}(ha:a.Perm l)(sa:a.Pairwise (fun x y=>pk x<pk y))(hb:b.Perm l)(sb:b.Pairwise (fun x y=>pk x<pk y)):a=b :=
 j8 pk sa sb fun x=>ha.mem_iff.trans hb.mem_iff.symm
theorem Good.prs(g:Good c l)(hc:c≤6):∀p∈l,p∈SP.prs:=fun p hp=>by
 have:=g.lo p hp;exact SP.v5 (u:=p.1) (v:=p.2) this.1 this.2.1 (by omega)
theorem bI{α:Type}[BEq α][LawfulBEq α]{l m:List α}(nd:l.Nodup)(h:∀x∈l,x∈m):l.length≤m.length:=by
 induction l generalizing m with
 | nil=>simp
 | cons x l ih =>
  obtain⟨h1,h2⟩:=Kf.mp nd;have hx:=h x IK;have:=ih (m:=m.erase x) h2 fun y hy=>(List.mem_erase_of_ne (by rintro rfl;exact h1 hy)).mpr (h y (IJ _ hy));have e:=List.length_erase_of_mem hx;have:0<m.length:=List.length_pos_of_mem hx;simp only[Jg];omega
theorem Good.len(g:Good c l)(hc:c≤6):l.length≤15:=bI g.nd (g.prs hc)
end DM
namespace My
def gd(a b:Int):Int:=(Int.gcd a b:Nat)
abbrev ab(x:Int):Int:=if x<0 then -x else x
end My
namespace My
open U
def BN(n:Nat)(i:Int):Prop:=i.natAbs<2 ^ n
theorem BN.fit(h:BN n i)(hn:n≤9000):Fit i:=by
 unfold Fit;unfold BN at h;rcases Nat.eq_zero_or_pos i.natAbs with h0 | hp
 ·rw[h0,Nat.log2_zero];omega
 ·have:=(Nat.log2_lt (K6 hp)).mpr h;omega
theorem BN.of_le(h:BN n i)(g:j.natAbs≤i.natAbs):BN n j:=KY g h
end My
namespace My
abbrev P2:=Int×Int
inductive Reach (E:List P2) (S:List Int):Int→Prop where
 | base {x:Int} (h:x∈S):Reach E S x
 | step {a b:Int} (h:Reach E S a) (e:(a,b)∈E):Reach E S b
def outs(E:List P2)(a:Int):List Int:=(E.filter fun p=>decide (p.1=a)).map (·.2)
theorem gA:b∈outs E a↔(a,b)∈E:=by
 unfold outs;rw[IF];constructor
 ·rintro⟨⟨x,y⟩,h,rfl⟩;rw[Jm]at h;have:x=a:=K2 h.2;subst this;exact h.1
 ·intro h;exact⟨(a,b),Jm.mpr ⟨h,JE rfl⟩,rfl⟩
def bJ(E:List P2)(f:List Int)(n:Int):List Int:=if n∈f then f++outs E n else f
theorem rD(h:x∈f):x∈bJ E f n:=by
 unfold bJ;split
 ·exact Jh _ h
 ·exact h
theorem jV{E:List P2}:∀(L:List Int) {f:List Int} {x:Int},x∈f->x∈L.foldl (bJ E) f
 | [],_,_,h=>h
 | _::L,_,_,h=>jV L (rD h)
theorem ie{E:List P2}{S:List Int}:∀(L:List Int) {f:List Int},(∀x∈f,Reach E S x)->∀x∈L.foldl (bJ E) f,Reach E S x
 | [],_,h,x,hx=>h x hx
 | n::L,f,h,x,hx=>by
  refine ie L (f:=bJ E f n) (fun y hy=>?_) x hx;unfold bJ at hy;split at hy
  ·rename_i hn;rcases IU.mp hy with hy | hy
   ·exact h y hy
   ·exact .step (h n hn) (gA.mp hy)
  ·exact h y hy
def Fwd(E:List P2)(L:List Int):Prop:=∀a b,(a,b)∈E->∀L1 L2,L=L1++L2->b∈L1->a∈L1
theorem gF{E:List P2}:∀(L1 L2:List Int) {f:List Int},(∀a b,(a,b)∈E->a∈L1++L2)->(∀a b,(a,b)∈E->∀M1 M2,L1++L2=M1++M2->b∈M1->a∈M1)->(L1++L2).Nodup ->
  (∀a b,(a,b)∈E->a∈L1->a∈f->b∈f)->∀a b,(a,b)∈E->a∈L2.foldl (bJ E) f->b∈L2.foldl (bJ E) f
 | L1,[],f,hA,hF,hN,hc,a,b,e,ha=>by
  have:=hA a b e;rw[Ji]at this;exact hc a b e this ha
 | L1,n::L2,f,hA,hF,hN,hc,a,b,e,ha=>by
  have eq:L1++n::L2=(L1++[n])++L2:=by simp
  refine gF (L1++[n]) L2 (f:=bJ E f n) (by rw[←eq];exact hA) (by rw[←eq];exact hF) (by rw[←eq];exact hN) (fun a b e ha1 ha2=>?_) a b e ha;unfold bJ at ha2 ⊢;split
  ·rename_i hn;rw[IZ hn]at ha2;rcases IU.mp ha2 with hf | ho
   ·rcases IU.mp ha1 with h1 | h1
    ·exact Jh _ (hc a b e h1 hf)
    ·have:a=n:=by simpa using h1
     subst this;exact Jd _ (gA.mpr e)
   ·-- a is an out of n,so it stands behind n
    have en:=gA.mp ho;rcases IU.mp ha1 with h1 | h1
    ·have q:=hF n a en L1 (n::L2) rfl h1;rw[Jz]at hN;exact absurd rfl (hN.2.2 n q n (IK))
    ·have:a=n:=by simpa using h1
     subst this;exact Jd _ (gA.mpr e)
  ·rename_i hn;rw[IX hn]at ha2;rcases IU.mp ha1 with h1 | h1
   ·exact hc a b e h1 ha2
   ·have:a=n:=by simpa using h1
    subst this;exact absurd ha2 hn
theorem ku(hA:∀a b,(a,b)∈E->a∈L)(hF:Fwd E L)(hN:L.Nodup)(x:Int):x∈L.foldl (bJ E) S↔Reach E S x:=by
 constructor
 ·exact ie L (fun y hy=>.base hy) x
 ·intro h
  induction h with
  | base h=>exact jV L h
  | step h e ih=>exact gF [] L hA hF hN (fun a b e h=>absurd h (by simp)) _ _ e ih
def EK(f:List Int)(p:P2):List Int:=if p.1∈f/\p.2∉f then f++[p.2]else f
def EA(E:List P2)(f:List Int):List Int:=E.foldl EK f
def zJ(E:List P2):Nat->List Int->List Int
 | 0,f=>f
 | n+1,f=>zJ E n (EA E f)
theorem bI:∀(m:Nat) (f:List Int),f.Nodup->(∀x∈f,0≤x/\x<(m:Int))->f.length≤m
 | 0,f,_,h=>by
  cases f with
  | nil=>exact IS _
  | cons x f=>have:=h x IK;omega
 | m+1,f,hn,h=>by
  have q:=bI m (f.erase (m:Int)) (hn.erase _) (fun x hx=>by
   have hx':=List.mem_of_mem_erase hx;have:=h x hx';have ne:x≠(m:Int):=(List.Nodup.mem_erase_iff hn).mp hx |>.1
   omega)
  by_cases hm:(m:Int)∈f
  ·rw[List.length_erase_of_mem hm]at q;omega
  ·rw[List.erase_of_not_mem hm]at q;omega
theorem jy:∀{xs ys:List Int},xs.Pairwise (·<·)->ys.Pairwise (·<·)->(∀x,x∈xs↔x∈ys)->xs=ys
 | [],[],_,_,_=>rfl
 | [],y::ys,_,_,h=>absurd ((h y).mpr IK) (by simp)
 | x::xs,[],_,_,h=>absurd ((h x).mp IK) (by simp)
 | x::xs,y::ys,hx,hy,h=>by
  rw[Ks]at hx hy;have e:x=y:=by
   have h1:=(h x).mp IK;have h2:=(h y).mpr IK;rcases IY.mp h1 with h1 | h1
   ·exact h1
   ·rcases IY.mp h2 with h2 | h2
    ·exact h2.symm
    ·have:=hx.1 y h2;have:=hy.1 x h1;omega
  subst e;rw[jy hx.2 hy.2 fun z=>?_];constructor
  ·intro hz;rcases IY.mp ((h z).mp (IJ _ hz))with q | q
   ·have:=hx.1 z hz;omega
   ·exact q
  ·intro hz;rcases IY.mp ((h z).mpr (IJ _ hz))with q | q
   ·have:=hy.1 z hz;omega
   ·exact q
end My
namespace My
section
variable {α:Type}
def Chn(R:α->α->Prop):List α->Prop
 | a::b::l=>R a b/\Chn R (b::l)
 | _=>True
theorem bP{R:α->α->Prop}:∀{p q:List α},Chn R (p++q)↔Chn R p/\Chn R q/\∀a∈p.getLast?,∀b∈q.head?,R a b
 | [],q=>by simp[Chn]
 | [a],[]=>by simp[Chn]
 | [a],b::q=>by simp[Chn,and_comm]
 | a::b::p,q=>by
  have ih:=bP (R:=R) (p:=b::p) (q:=q);have e1:Chn R (a::b::p++q)↔R a b/\Chn R (b::p++q):=Iff.rfl;have e2:Chn R (a::b::p)↔R a b/\Chn R (b::p):=Iff.rfl;rw[e1,e2,ih,JS,and_assoc]
theorem cS:∀(p:List α) {s:α} {t:List α},(p++s::t).getLast?=(s::t).getLast?
 | [],_,_=>rfl
 | [a],s,t=>JS
 | a::b::p,s,t=>by
  show(a::b::(p++s::t)).getLast?=_;rw[JS];exact cS (b::p)
theorem kg{β:Type}[DecidableEq β](f:α->β):∀{l:List α},¬(l.map f).Nodup->∃p s q s' t,l=p++s::(q++s'::t)/\f s=f s'
 | [],h=>absurd List.nodup_nil h
 | a::l,h=>by
  by_cases m:f a∈l.map f
  ·obtain⟨s',hs,e⟩:=IF.mp m;obtain⟨q,t,rfl⟩:=List.append_of_mem hs;exact⟨[],a,q,s',t,rfl,e.symm⟩
  ·have:¬(l.map f).Nodup:=fun n=>h (by rw[Jb,Kf];exact⟨m,n⟩);obtain⟨p,s,q,s',t,rfl,e⟩:=kg f this;exact⟨a::p,s,q,s',t,rfl,e⟩
theorem dk{β:Type}{f:α->List β}{n:Nat}:∀{l:List α},(∀x∈l,(f x).length≤n)->(l.flatMap f).length≤l.length*n
 | [],_=>by simp
 | a::l,h=>by
  have:=dk (f:=f) (l:=l) fun x hx=>h x (IJ _ hx);have h1:=h a IK;rw[List.flatMap_cons,II,Jg,Nat.add_mul];omega
end
section
variable {κ:Type}[DecidableEq κ]
abbrev Stp(κ:Type):=Int×κ×Int
structure Lnk (dn up:κ) (G A:List Int) (s s':Stp κ):Prop where
 jn:s.2.2=s'.1
 mt:s.2.1≠up->s'.2.1≠dn->s.2.2∈A
 no:s.2.1=up∨s'.2.1=dn->s.2.2∉G
def nm(r:List (Stp κ)):List Int:=match r with
 | []=>[]
 | s::t=>s.1::(s::t).map (·.2.2)
structure Rd (Ed:Stp κ→Prop) (dn up:κ) (G A ones:List Int) (r:List (Stp κ)):Prop where
 hd:∃s∈r.head?,s.1∈ones
 ed:∀s∈r,Ed s
 ch:Chn (Lnk dn up G A) r
variable {Ed:Stp κ->Prop}{dn up:κ}{G A ones others:List Int}
theorem yY(ne:dn≠up)(hA:∀a b,Ed (a,dn,b)->b∈A->a∈A):∀{q:List (Stp κ)} {s e:Stp κ},(∀x∈s::q,Ed x)->Chn (Lnk dn up G A) (s::q)->s.2.1=dn->(s::q).getLast?=some e->e.2.1=up->s.1∈A
 | [],s,e,_,_,k,l,u=>by
  simp at l;subst l;exact absurd (k.symm.trans u) ne
 | s'::q,s,e,hd,c,k,l,u=>by
  have hs:Ed (s.1,dn,s.2.2):=by rw[←k];exact hd s IK
  refine hA _ _ hs ?_;by_cases k':s'.2.1=dn
  ·have:=yY ne hA (q:=q) (s:=s') (e:=e) (fun x hx=>hd x (IJ _ hx)) c.2 k' (by rw[←l,JS]) u;rw[c.1.jn];exact this
  ·exact c.1.mt (by rw[k];exact ne) k'
theorem short(ne:dn≠up)(hA:∀a b,Ed (a,dn,b)->b∈A->a∈A)(ap:∀x∈ones,x∉others):∀(n:Nat) (r:List (Stp κ)),r.length≤n->Rd Ed dn up G A ones r->(∃e∈r.getLast?,e.2.2∈others) ->
  ∃r',Rd Ed dn up G A ones r'/\(∃e∈r'.getLast?,e.2.2∈others)/\(nm r').Nodup
 | 0,r,hl,h,_=>by
  obtain⟨s,hs,_⟩:=h.hd;have:r=[]:=Kd.mp (by omega);subst this;cases hs
 | n+1,r,hl,h,hx=>by
  by_cases nd:(nm r).Nodup
  ·exact⟨r,h,hx,nd⟩
  obtain⟨s0,hs0,h0⟩:=h.hd;obtain⟨e,he,hb⟩:=hx;cases r with
  | nil=>cases hs0
  | cons s1 t1 =>
  have es:s1=s0:=by simpa using hs0
  subst es;have cut:(∃q s t,s1::t1=q++s::t/\s.2.2=s1.1)∨¬((s1::t1).map (·.2.2)).Nodup:=by
   by_cases m:s1.1∈(s1::t1).map (·.2.2)
   ·obtain⟨s,hs,e⟩:=IF.mp m;obtain⟨q,t,e2⟩:=List.append_of_mem hs;exact .inl ⟨q,s,t,e2,e⟩
   ·exact .inr fun n=>nd (Kf.mpr ⟨m,n⟩)
  rcases cut with⟨q,s,t,er,es⟩ | dup
  ·rw[er]at h hl he;have c:=bP.mp h.ch;cases t with
   | nil =>
    simp at he;subst he;exact absurd hb (by rw[es];exact ap _ h0)
   | cons s2 t =>
    have hl2:(s2::t).length≤n:=by simp at hl ⊢;omega
    refine short ne hA ap n (s2::t) hl2 ⟨⟨s2,rfl,?_⟩,fun x hx=>h.ed x (by simp at hx ⊢;grind),c.2.1.2⟩ ⟨e,?_,hb⟩
    ·rw[←c.2.1.1.jn,es];exact h0
    ·have:(q++s::s2::t).getLast?=(s2::t).getLast?:=by rw[cS,JS]
     rw[←this];exact he
  ·obtain⟨p,s,q,s',t,er,es⟩:=kg _ dup;rw[er]at h hl he;have c:=bP.mp h.ch;have c1:=c.2.1;have e1:s::(q++s'::t)=(s::q)++s'::t:=rfl;rw[e1]at c1;have c2:=bP.mp c1;have hds:∃z∈(p++[s]).head?,z.1∈ones:=by
    obtain⟨z,hz,hz1⟩:=h.hd;refine⟨z,?_,hz1⟩;cases p with
    | nil=>simpa using hz
    | cons _ _=>simpa using hz
   cases t with
   | nil =>
    refine short ne hA ap n (p++[s]) (by simp at hl ⊢;omega) ⟨hds,fun x hx=>h.ed x (by simp at hx ⊢;grind),?_⟩ ⟨s,by simp,?_⟩
    ·exact bP.mpr ⟨c.1,trivial,c.2.2⟩
    ·have:e=s':=by
      have:(p++s::(q++[s'])).getLast?=some s':=by rw[cS,← List.cons_append,cS];rfl
      rw[this]at he;exact(Js he).symm
     subst this;show s.2.2∈others;rw[show s.2.2=e.2.2 from es];exact hb
   | cons s2 t =>
    have l2:Lnk dn up G A s' s2:=c2.2.1.1;obtain⟨m,q',eq⟩:∃m q',q++[s']=m::q':=by
     cases q with
     | nil=>exact⟨s',[],rfl⟩
     | cons m q=>exact⟨m,q++[s'],rfl⟩
    have cm:Chn (Lnk dn up G A) (s::m::(q'++s2::t)):=by
     have:s::m::(q'++s2::t)=s::(q++s'::s2::t):=by
      have e3:q++s'::s2::t=(q++[s'])++s2::t:=by simp
      rw[e3,eq];rfl
     rw[this];exact c.2.1
    have l1:Lnk dn up G A s m:=cm.1;have inA:s.2.1≠up->s2.2.1≠dn->s.2.2∈A:=fun k1 k2=>by
     by_cases km:m.2.1=dn
     ·by_cases ks:s'.2.1=up
      ·rw[l1.jn];have cq:Chn (Lnk dn up G A) (m::q'):=((bP (p:=m::q') (q:=s2::t)).mp cm.2).1;refine yY ne hA (q:=q') (s:=m) (e:=s') (fun x hx=>h.ed x ?_) cq km (by rw[←eq];simp) ks;rw[←eq]at hx;simp at hx ⊢
       grind
      ·show s.2.2∈A;rw[show s.2.2=s'.2.2 from es];exact l2.mt ks k2
     ·exact l1.mt k1 km
    refine short ne hA ap n (p++s::s2::t) (by simp at hl ⊢;omega) ⟨?_,fun x hx=>h.ed x (by simp at hx ⊢;grind),bP.mpr ⟨c.1,⟨⟨?_,inA,?_⟩,c2.2.1.2⟩,c.2.2⟩⟩ ⟨e,?_,hb⟩
    ·obtain⟨z,hz,hz1⟩:=hds;refine⟨z,?_,hz1⟩;cases p with
     | nil=>simpa using hz
     | cons _ _=>simpa using hz
    ·rw[show s.2.2=s'.2.2 from es];exact l2.jn
    ·rintro(k | k)
     ·exact l1.no (.inl k)
     ·rw[show s.2.2=s'.2.2 from es];exact l2.no (.inr k)
    ·have h1:(p++s::s2::t).getLast?=(s2::t).getLast?:=by rw[cS,JS]
     have h2:(p++s::(q++s'::s2::t)).getLast?=(s2::t).getLast?:=by rw[cS,← List.cons_append,cS,JS]
     rw[h1,← h2];exact he
inductive RS (Ed:Stp κ→Prop) (dn up:κ) (G A ones:List Int):Int→Bool→Prop where
 | base {x:Int} (h:x∈ones):RS Ed dn up G A ones x false
 | step {n m:Int} {p:Bool} {k:κ} (h:RS Ed dn up G A ones n p) (e:Ed (n,k,m)) (h1:k=dn->n∉G) (h2:k≠dn->p=true->n∈A) (h3:k≠dn->p=false->n∉G):RS Ed dn up G A ones m (decide (k≠up))
theorem xB(gn:∀x∈ones,x∉G){x:Int}{p:Bool}(h:RS Ed dn up G A ones x p):(x∈ones/\p=false)∨∃r,Rd Ed dn up G A ones r/\∃e∈r.getLast?,e.2.2=x/\decide (e.2.1≠up)=p:=by
 induction h with
 | base h=>exact .inl ⟨h,rfl⟩
 | step h e h1 h2 h3 ih =>
  rename_i n m p k;refine .inr ?_;rcases ih with⟨ho,rfl⟩ |⟨r,rd,l,hl,rfl,hp⟩
  ·exact⟨[(n,k,m)],⟨⟨_,rfl,ho⟩,fun s hs=>by rw[IW.mp hs];exact e,trivial⟩,_,rfl,rfl,rfl⟩
  ·refine⟨r++[(l.2.2,k,m)],⟨?_,fun s hs=>?_,bP.mpr ⟨rd.ch,trivial,fun a ha b hb=>?_⟩⟩,(l.2.2,k,m),by simp,rfl,rfl⟩
   ·obtain⟨z,hz,h0⟩:=rd.hd;refine⟨z,?_,h0⟩;cases r with
    | nil=>cases hz
    | cons _ _=>simpa using hz
   ·rcases IU.mp hs with q | q
    ·exact rd.ed s q
    ·rw[IW.mp q];exact e
   ·have ea:a=l:=by rw[hl]at ha;exact(Js ha).symm
    have eb:b=(l.2.2,k,m):=by simpa using hb.symm
    subst ea;subst eb;refine⟨rfl,fun k1 k2=>h2 k2 (by rw[←hp];exact JE k1),?_⟩;rintro(z | z)
    ·by_cases kd:k=dn
     ·exact h1 kd
     ·exact h3 kd (by rw[←hp,z];simp)
    ·exact h1 z
theorem vM(ne:dn≠up)(hA:∀a b,Ed (a,dn,b)->b∈A->a∈A)(ap:∀x∈ones,x∉others)(gn:∀x∈ones,x∉G){x:Int}{p:Bool}(h:RS Ed dn up G A ones x p)(hx:x∈others) :
  ∃r,Rd Ed dn up G A ones r/\(∃e∈r.getLast?,e.2.2∈others)/\(nm r).Nodup:=by
 rcases xB gn h with⟨ho,_⟩ |⟨r,rd,e,he,rfl,_⟩
 ·exact absurd hx (ap x ho)
 ·exact short ne hA ap r.length r (IS _) rd ⟨e,he,hx⟩
end
theorem Ag{ts:List P2}(h:Reach (ts.map fun p=>(p.2,p.1)) G m):∃w,w.head?=some m/\Chn (fun a b=>(a,b)∈ts) w/\∃e∈w.getLast?,e∈G:=by
 induction h with
 | base h=>exact⟨[_],rfl,trivial,_,rfl,h⟩
 | step h e ih =>
  obtain⟨w,h1,h2,e1,h3,h4⟩:=ih;obtain⟨p,hp,ep⟩:=IF.mp e;cases ep;cases w with
  | nil=>cases h3
  | cons a w =>
   have:a=p.2:=by simpa using h1
   subst this;exact⟨p.1::p.2::w,rfl,⟨hp,h2⟩,e1,by rw[JS];exact h3,h4⟩
theorem nY{ts:List P2}(lt:∀a b,(a,b)∈ts->a<b):∀{w:List Int},Chn (fun a b=>(a,b)∈ts) w->w.Pairwise (·<·)
 | [],_=>.nil
 | [a],_=>Kw _ a
 | a::b::w,h=>by
  have ih:=nY lt h.2;have hab:=lt a b h.1;refine Ks.mpr ⟨fun x hx=>?_,ih⟩;rcases IY.mp hx with rfl | hx
  ·exact hab
  ·have:=(Ks.mp ih).1 x hx;omega
end My
namespace Lw
open L2 U
theorem boot_all:bootBuiltins "all"=some (.builtin "all"):=by decide +kernel
theorem boot_sorted:bootBuiltins "sorted"=some (.builtin "sorted"):=by decide +kernel
theorem boot_set:bootBuiltins "set"=some (.type "set"):=by decide +kernel
theorem AN{x y:PV}:atI [x,y] 0=some x:=rfl
theorem AB{x y:PV}:atI [x,y] 1=some y:=rfl
theorem boot_bool:bootBuiltins "bool"=some (.type "bool"):=by decide +kernel
theorem ck{X:Cx}{N2:List Str}{nt:Nat}{js:List Nat}{scope sc:Scope}{cl:List (Str×Addr)}(clos:closureFor scope X.env=pure cl:=by exact rfl)(sub:qV X.env.cells cl:=by repeat (first | exact trivial | refine⟨rfl,?_⟩))(xsc:X.env.scope=sc:=by rfl)(kind:scope.kind=.function:=by rfl)
  (nocell:∀y∈scope.names,y.2≠.cell:=by decide +kernel) (loc:∀y∈scope.names,y.2=.local->scope.names.lookup y.1=some .local:=by decide +kernel) (names:cl.map (·.1)=((scope.names.filter (·.2==.free)).map (·.1)).reverse:=by rfl)
  (frs:∀x∈N2.drop nt,scope.names.lookup x=some .free/\sc.names.lookup x=some .cell:=by decide +kernel) (len:N2.length=nt+js.length:=by rfl) (pl:js.map (fun j=>X.N[j]?)=(N2.drop nt).map some:=by rfl):b8 X N2 nt js scope cl sc:=cok clos sub xsc kind nocell loc names frs len pl
def top(i:Nat):Stmt:=PySem.Challenge.pw_doingbook_k71_doors.main.body.getD i (.Pass ⟨0,0,0,0⟩)
abbrev AO:Stmt:=top 11
local macro_rules | `(tactic| walk_at "q") => `(tactic| exact ⟨rfl, rfl, rfl, by decide +kernel, rfl, by decide +kernel, by decide +kernel⟩)
theorem Ex:ax ["count","pair"] ["count","pair"] (ai AO):=by walk_at "q"
abbrev xO:Stmt:=top 12
theorem Eg:ax ["count","pairs"] ["count","pairs"] (ai xO):=by walk_at "q"
abbrev zH:Stmt:=top 13
theorem qc:ax ["count","names","ahead","name"] ["count","names"] (ai zH):=by walk_at "q"
abbrev zR:Stmt:=top 14
theorem Ce:ax ["count"] ["count"] (ai zR):=by walk_at "q"
abbrev xP:Stmt:=top 15
theorem DY:ax ["names","others"] ["names","others"] (ai xP):=by walk_at "q"
abbrev oR:Stmt:=inClass (top 16) 0
theorem kn:ax ["self","count","ties","bows","own_ties","own_bows"] ["self","count","ties","bows"] (ai oR):=by walk_at "q"
abbrev zW:Stmt:=inClass (top 16) 2
theorem Ef:ax ["self","name"] ["self","name"] (ai zW):=by walk_at "q"
abbrev z0:Stmt:=inClass (top 16) 3
theorem DO:ax ["self","names"] ["self","names"] (ai z0):=by walk_at "q"
abbrev wx:Stmt:=inClass (top 16) 4
theorem C6:ax ["self","name"] ["self","name"] (ai wx):=by walk_at "q"
abbrev wX:Stmt:=inClass (top 16) 5
theorem EF:ax ["self","name"] ["self","name"] (ai wX):=by walk_at "q"
abbrev B7:Stmt:=inClass (top 16) 6
theorem uK:ax ["self","names","found","name"] ["self","names"] (ai B7):=by walk_at "q"
abbrev BM:Stmt:=inClass (top 16) 7
theorem sH:ax ["self","names","found","name"] ["self","names"] (ai BM):=by walk_at "q"
abbrev sM:Stmt:=inClass (top 16) 8
theorem u5:ax ["self","name","ahead","behind"] ["self","name"] (ai sM):=by walk_at "q"
abbrev vk:Stmt:=inClass (top 16) 11
theorem sV:ax ["self","names","ties","bows"] ["self","names"] (ai vk):=by walk_at "q"
abbrev xI:Stmt:=inClass (top 16) 13
theorem yS:ax ["self","names","ties"] ["self","names"] (ai xI):=by walk_at "q"
abbrev AW:Stmt:=top 17
theorem zf:ax ["drawing","sets","names"] ["drawing","sets"] (ai AW):=by walk_at "q"
abbrev zZ:Stmt:=top 18
theorem sm:ax ["sets","named","names"] ["sets"] (ai zZ):=by walk_at "q"
abbrev zG:Stmt:=top 20
theorem Cp:ax ["drawing","ones","others","given"] ["drawing","ones","others","given"] (ai zG):=by walk_at "q"
abbrev Am:Stmt:=top 21
theorem Df:ax ["step"] ["step"] (ai Am):=by walk_at "q"
abbrev A4:Stmt:=top 22
theorem D7:ax ["step"] ["step"] (ai A4):=by walk_at "q"
abbrev zL:Stmt:=top 23
theorem CK:ax ["step","behind"] ["step","behind"] (ai zL):=by walk_at "q"
abbrev rM:Stmt:=top 24
theorem pZ:ax ["drawing","name","down","up","bow"] ["drawing","name"] (ai rM):=by walk_at "q"
abbrev wa:Stmt:=top 25
theorem EH:ax ["road"] ["road"] (ai wa):=by walk_at "q"
abbrev wU:Stmt:=top 26
theorem CJ:ax ["road"] ["road"] (ai wU):=by walk_at "q"
abbrev BS:Stmt:=top 27
theorem Ck:ax ["step","behind","given","above"] ["step","behind","given","above"] (ai BS):=by walk_at "q"
abbrev qN:Stmt:=top 28
theorem qw:ax ["drawing","standing","given","above","name","pointed","asked"] ["drawing","standing","given","above"] (ai qN):=by walk_at "q"
abbrev wF:Stmt:=top 29
theorem nB:ax ["drawing","ones","given","above","waiting","told","standing"] ["drawing","ones","given"] (ai wF):=by walk_at "q"
abbrev xH:Stmt:=top 30
theorem tf:ax ["drawing","names","told","name"] ["drawing","names"] (ai xH):=by walk_at "q"
abbrev AX:Stmt:=top 31
theorem jR:ax ["drawing","roads","given","above","told","road","names","step"] ["drawing","roads","given"] (ai AX):=by walk_at "q"
abbrev ue:Stmt:=top 32
theorem mF:ax ["drawing","ones","others","given","roads","found"] ["drawing","ones","others","given"] (ai ue):=by walk_at "q"
abbrev rN:Stmt:=top 33
theorem jh:ax ["drawing","meeting","given","ways","found","longer","way"] ["drawing","meeting","given"] (ai rN):=by walk_at "q"
abbrev xR:Stmt:=top 34
theorem Cv:ax ["drawing","road","given"] ["drawing","road","given"] (ai xR):=by walk_at "q"
abbrev yb:Stmt:=top 35
theorem tD:ax ["drawing","ones","others","given","standings","road"] ["drawing","ones","others","given"] (ai yb):=by walk_at "q"
abbrev wO:Stmt:=top 37
theorem ze:ax ["drawing","one","other","door","below"] ["drawing","one","other","door"] (ai wO):=by walk_at "q"
abbrev xW:Stmt:=top 38
theorem ud:ax ["drawing","one","other","door","left","below"] ["drawing","one","other","door"] (ai xW):=by walk_at "q"
abbrev BW:Stmt:=top 39
theorem C8:ax ["drawing","one","other","door"] ["drawing","one","other","door"] (ai BW):=by walk_at "q"
abbrev oI:Stmt:=top 40
theorem qp:ax ["names","told","name"] ["names"] (ai oI):=by walk_at "q"
abbrev wj:Stmt:=top 41
theorem Dv:ax ["names","doors"] ["names","doors"] (ai wj):=by walk_at "q"
abbrev Bd:Stmt:=top 42
theorem rY:ax ["drawing","one","other","is_door","told","names"] ["drawing","one","other","is_door"] (ai Bd):=by walk_at "q"
abbrev zw:Stmt:=top 43
theorem DL:ax ["drawing","one","other"] ["drawing","one","other"] (ai zw):=by walk_at "q"
abbrev zt:Stmt:=top 44
theorem Ep:ax ["drawing","one","other"] ["drawing","one","other"] (ai zt):=by walk_at "q"
abbrev Bo:Stmt:=top 46
theorem C7:ax ["_law_script","_law_k"] ["_law_script","_law_k"] (ai Bo):=by walk_at "q"
abbrev zE:Stmt:=top 47
theorem sj:ax ["_law_cell","_law_place","_law_number"] ["_law_cell","_law_place"] (ai zE):=by walk_at "q"
abbrev Bg:Stmt:=top 48
theorem d3:ax ["_law_script","_law_at","_law_many","_law_ties","_law_bows","_law_cell","_law_number","_law_place","_law_one","_law_two","_law_kind"] ["_law_script","_law_at","_law_many"] (ai Bg):=by walk_at "q"
abbrev Br:Stmt:=top 49
theorem pS:ax ["_law_drawn","_law_names","_law_found","_law_one","_law_two"] ["_law_drawn","_law_names"] (ai Br):=by walk_at "q"
abbrev Bb:Stmt:=top 50
theorem qk:ax ["_law_drawn","_law_names","_law_found","_law_one","_law_two"] ["_law_drawn","_law_names"] (ai Bb):=by walk_at "q"
abbrev sO:Stmt:=top 51
theorem tR:ax ["_law_drawn","_law_into","_law_out","_law_ties","_law_bows"] ["_law_drawn","_law_into","_law_out"] (ai sO):=by walk_at "q"
abbrev oG:Stmt:=top 52
theorem h8:ax ["_law_drawn","_law_standing","_law_given","_law_above_here","_law_name","_law_pointed","_law_found"] ["_law_drawn","_law_standing","_law_given","_law_above_here"] (ai oG):=by walk_at "q"
abbrev wb:Stmt:=top 53
theorem jU:ax ["_law_drawn","_law_ones","_law_given","_law_above_here","_law_found","_law_at","_law_later"] ["_law_drawn","_law_ones","_law_given"] (ai wb):=by walk_at "q"
abbrev yo:Stmt:=top 54
theorem Cm:ax ["_law_drawn","_law_ones","_law_others","_law_given"] ["_law_drawn","_law_ones","_law_others","_law_given"] (ai yo):=by walk_at "q"
abbrev vq:Stmt:=top 55
theorem iT:ax ["_law_cell","_law_many","_law_kinds","_law_sets","_law_number","_law_name","_law_kind"] ["_law_cell","_law_many","_law_kinds"] (ai vq):=by walk_at "q"
abbrev By:Stmt:=top 56
theorem mM:ax ["_law_sets","_law_kind","_law_place","_law_k","_law_found"] ["_law_sets","_law_kind"] (ai By):=by walk_at "q"
abbrev xh:Stmt:=top 57
theorem yE:ax ["_law_drawn","_law_one","_law_other","_law_door","_law_below_here"] ["_law_drawn","_law_one","_law_other","_law_door"] (ai xh):=by walk_at "q"
abbrev xj:Stmt:=top 58
theorem Eh:ax ["_law_drawn","_law_one","_law_other","_law_door"] ["_law_drawn","_law_one","_law_other","_law_door"] (ai xj):=by walk_at "q"
abbrev xk:Stmt:=top 59
theorem ji:ax ["_law_names","_law_found","_law_size","_law_some","_law_bits","_law_picked"] ["_law_names"] (ai xk):=by walk_at "q"
abbrev Bj:Stmt:=top 60
theorem vi:ax ["_law_found","_law_due","_law_k"] ["_law_found","_law_due"] (ai Bj):=by walk_at "q"
abbrev ym:Stmt:=top 61
theorem qB:ax ["_law_doors","_law_found","_law_door","_law_inner"] ["_law_doors"] (ai ym):=by walk_at "q"
abbrev wd:Stmt:=top 62
theorem hJ:ax ["_law_drawn","_law_drawing","_law_one","_law_other","_law_backs","_law_fronts","_law_door","_law_back_here","_law_front_here","_law_found"] ["_law_drawn","_law_drawing","_law_one","_law_other"] (ai wd):=by walk_at "q"
abbrev BK:Stmt:=top 63
theorem ij:ax ["_law_script","_law_many","_law_drawn","_law_drawing","_law_cell","_law_one","_law_other","_law_rest"] ["_law_script"] (ai BK):=by walk_at "q"
set_option genInjectivity false
structure Ad where
 a_ye:Addr
 d_ye:FuncData
 a_zO:Addr
 d_zO:FuncData
 a_yf:Addr
 d_yf:FuncData
 a_zA:Addr
 d_zA:FuncData
 a_yc:Addr
 d_yc:FuncData
 a_zs:Addr
 d_zs:FuncData
 a_zc:Addr
 d_zc:FuncData
 a_zf:Addr
 d_zf:FuncData
 a_zg:Addr
 d_zg:FuncData
 a_zb:Addr
 d_zb:FuncData
 a_zd:Addr
 d_zd:FuncData
 a_za:Addr
 d_za:FuncData
 a_zm:Addr
 d_zm:FuncData
 a_zr:Addr
 d_zr:FuncData
 a_zh:Addr
 d_zh:FuncData
 a_zN:Addr
 d_zN:FuncData
 a_zJ:Addr
 d_zJ:FuncData
 a_zv:Addr
 d_zv:FuncData
 a_zx:Addr
 d_zx:FuncData
 a_zi:Addr
 d_zi:FuncData
 a_zL:Addr
 d_zL:FuncData
 a_zM:Addr
 d_zM:FuncData
 a_zX:Addr
 d_zX:FuncData
 a_yb:Addr
 d_yb:FuncData
 a_zR:Addr
 d_zR:FuncData
 a_zp:Addr
 d_zp:FuncData
 a_zI:Addr
 d_zI:FuncData
 a_zC:Addr
 d_zC:FuncData
 a_zt:Addr
 d_zt:FuncData
 a_zl:Addr
 d_zl:FuncData
 a_zz:Addr
 d_zz:FuncData
 a_zS:Addr
 d_zS:FuncData
 a_yg:Addr
 d_yg:FuncData
 a_zq:Addr
 d_zq:FuncData
 a_ze:Addr
 d_ze:FuncData
 a_zn:Addr
 d_zn:FuncData
 a_zD:Addr
 d_zD:FuncData
 a_zj:Addr
 d_zj:FuncData
 a_zE:Addr
 d_zE:FuncData
 a_zK:Addr
 d_zK:FuncData
 a_zF:Addr
 d_zF:FuncData
 a_zB:Addr
 d_zB:FuncData
 a_zW:Addr
 d_zW:FuncData
 a_zy:Addr
 d_zy:FuncData
 a_zU:Addr
 d_zU:FuncData
 a_zT:Addr
 d_zT:FuncData
 a_yd:Addr
 d_yd:FuncData
 a_zu:Addr
 d_zu:FuncData
 a_zH:Addr
 d_zH:FuncData
 a_zZ:Addr
 d_zZ:FuncData
 a_zP:Addr
 d_zP:FuncData
 a_zw:Addr
 d_zw:FuncData
 a_zY:Addr
 d_zY:FuncData
 a_zV:Addr
 d_zV:FuncData
 a_zG:Addr
 d_zG:FuncData
 a_ya:Addr
 d_ya:FuncData
 a_zQ:Addr
 d_zQ:FuncData
 a_zk:Addr
 d_zk:FuncData
 a_yj:Addr
 d_yj:FuncData
 a_A:Addr
 a_B:Addr
 c_B:Addr
def lx:Pos:=match (cG oI).getLast? with
 | some (.Return (some (.Call _ _ [⟨_,.Lambda _ _ _ p,_⟩] _)) _)=>p
 | _=>⟨0,0,0,0⟩
def Cu:Scope:=match (cG oI).getLast? with
 | some (.Return (some (.Call _ _ [⟨_,.Lambda _ _ sc _,_⟩] _)) _)=>sc
 | _=>ai oI
def yz:Str:="sets_within.<locals>.<lambda>"
theorem BF:ax ["part"] ["part"] Cu:=by walk_at "q"
abbrev kX1(K:PySem.W.Frag)(a b:Addr):=PySem.W.kitOne K (.ref a) (.ref b)=some false
abbrev nX1(K:PySem.W.Frag)(x:Str)(a:Addr):=PySem.W.nsIn K mainGlobals x=some (some (.ref a))
abbrev nX2(K:PySem.W.Frag)(x:Str):=PySem.W.nsIn K mainGlobals x=some none
abbrev fX1(K:PySem.W.Frag)(c:Addr)(x:Str)(a:Addr):=PySem.W.findIn K (.ref c) x=some (some (.ref a))
structure Tx (K:PySem.W.Frag) (mg:Str→Option Value) (t:Ad):Prop where
 F_ye:Fun K "is_pair" "is_pair" AO t.a_ye t.d_ye
 B_ye:Binds K t.d_ye ["count","pair"] []
 g_ye:mg "is_pair"=some (.ref t.a_ye)
 F_zO:Fun K "are_pairs" "are_pairs" xO t.a_zO t.d_zO
 B_zO:Binds K t.d_zO ["count","pairs"] []
 g_zO:mg "are_pairs"=some (.ref t.a_zO)
 F_yf:Fun K "is_set" "is_set" zH t.a_yf t.d_yf
 B_yf:Binds K t.d_yf ["count","names"] []
 g_yf:mg "is_set"=some (.ref t.a_yf)
 F_zA:Fun K "names_up_to" "names_up_to" zR t.a_zA t.d_zA
 B_zA:Binds K t.d_zA ["count"] []
 g_zA:mg "names_up_to"=some (.ref t.a_zA)
 F_yc:Fun K "without" "without" xP t.a_yc t.d_yc
 B_yc:Binds K t.d_yc ["names","others"] []
 g_yc:mg "without"=some (.ref t.a_yc)
 F_zs:Fun K "__init__" "Drawing.__init__" oR t.a_zs t.d_zs
 B_zs:Binds K t.d_zs ["self","count","ties","bows"] []
 F_zc:Fun K "need_name" "Drawing.need_name" zW t.a_zc t.d_zc
 B_zc:Binds K t.d_zc ["self","name"] []
 m_zc:Meth K t.a_A "need_name" t.a_zc
 F_zf:Fun K "need_set" "Drawing.need_set" z0 t.a_zf t.d_zf
 B_zf:Binds K t.d_zf ["self","names"] []
 m_zf:Meth K t.a_A "need_set" t.a_zf
 F_zg:Fun K "sources" "Drawing.sources" wx t.a_zg t.d_zg
 B_zg:Binds K t.d_zg ["self","name"] []
 m_zg:Meth K t.a_A "sources" t.a_zg
 F_zb:Fun K "followers" "Drawing.followers" wX t.a_zb t.d_zb
 B_zb:Binds K t.d_zb ["self","name"] []
 m_zb:Meth K t.a_A "followers" t.a_zb
 F_zd:Fun K "ancestors" "Drawing.ancestors" B7 t.a_zd t.d_zd
 B_zd:Binds K t.d_zd ["self","names"] []
 m_zd:Meth K t.a_A "ancestors" t.a_zd
 F_za:Fun K "descendants" "Drawing.descendants" BM t.a_za t.d_za
 B_za:Binds K t.d_za ["self","names"] []
 m_za:Meth K t.a_A "descendants" t.a_za
 F_zm:Fun K "bowed" "Drawing.bowed" sM t.a_zm t.d_zm
 B_zm:Binds K t.d_zm ["self","name"] []
 m_zm:Meth K t.a_A "bowed" t.a_zm
 F_zr:Fun K "part" "Drawing.part" vk t.a_zr t.d_zr
 B_zr:Binds K t.d_zr ["self","names"] []
 m_zr:Meth K t.a_A "part" t.a_zr
 F_zh:Fun K "cut_out" "Drawing.cut_out" xI t.a_zh t.d_zh
 B_zh:Binds K t.d_zh ["self","names"] []
 m_zh:Meth K t.a_A "cut_out" t.a_zh
 F_zN:Fun K "need_sets" "need_sets" AW t.a_zN t.d_zN
 B_zN:Binds K t.d_zN ["drawing","sets"] []
 g_zN:mg "need_sets"=some (.ref t.a_zN)
 F_zJ:Fun K "need_apart" "need_apart" zZ t.a_zJ t.d_zJ
 B_zJ:Binds K t.d_zJ ["sets"] []
 g_zJ:mg "need_apart"=some (.ref t.a_zJ)
 F_zv:Fun K "need_barring" "need_barring" zG t.a_zv t.d_zv
 B_zv:Binds K t.d_zv ["drawing","ones","others","given"] []
 g_zv:mg "need_barring"=some (.ref t.a_zv)
 F_zx:Fun K "points_at_to" "points_at_to" Am t.a_zx t.d_zx
 B_zx:Binds K t.d_zx ["step"] []
 g_zx:mg "points_at_to"=some (.ref t.a_zx)
 F_zi:Fun K "points_at_from" "points_at_from" A4 t.a_zi t.d_zi
 B_zi:Binds K t.d_zi ["step"] []
 g_zi:mg "points_at_from"=some (.ref t.a_zi)
 F_zL:Fun K "is_meeting" "is_meeting" zL t.a_zL t.d_zL
 B_zL:Binds K t.d_zL ["step","behind"] []
 g_zL:mg "is_meeting"=some (.ref t.a_zL)
 F_zM:Fun K "steps_from" "steps_from" rM t.a_zM t.d_zM
 B_zM:Binds K t.d_zM ["drawing","name"] []
 g_zM:mg "steps_from"=some (.ref t.a_zM)
 F_zX:Fun K "names_on" "names_on" wa t.a_zX t.d_zX
 B_zX:Binds K t.d_zX ["road"] []
 g_zX:mg "names_on"=some (.ref t.a_zX)
 F_yb:Fun K "meetings" "meetings" wU t.a_yb t.d_yb
 B_yb:Binds K t.d_yb ["road"] []
 g_yb:mg "meetings"=some (.ref t.a_yb)
 F_zR:Fun K "is_passed" "is_passed" BS t.a_zR t.d_zR
 B_zR:Binds K t.d_zR ["step","behind","given","above"] []
 g_zR:mg "is_passed"=some (.ref t.a_zR)
 F_zp:Fun K "asked_beside" "asked_beside" qN t.a_zp t.d_zp
 B_zp:Binds K t.d_zp ["drawing","standing","given","above"] []
 g_zp:mg "asked_beside"=some (.ref t.a_zp)
 F_zI:Fun K "least_shut" "least_shut" wF t.a_zI t.d_zI
 B_zI:Binds K t.d_zI ["drawing","ones","given"] []
 g_zI:mg "least_shut"=some (.ref t.a_zI)
 F_zC:Fun K "first_roads" "first_roads" xH t.a_zC t.d_zC
 B_zC:Binds K t.d_zC ["drawing","names"] []
 g_zC:mg "first_roads"=some (.ref t.a_zC)
 F_zt:Fun K "longer_roads" "longer_roads" AX t.a_zt t.d_zt
 B_zt:Binds K t.d_zt ["drawing","roads","given"] []
 g_zt:mg "longer_roads"=some (.ref t.a_zt)
 F_zl:Fun K "shortest_road" "shortest_road" ue t.a_zl t.d_zl
 B_zl:Binds K t.d_zl ["drawing","ones","others","given"] []
 g_zl:mg "shortest_road"=some (.ref t.a_zl)
 F_zz:Fun K "shortest_way" "shortest_way" rN t.a_zz t.d_zz
 B_zz:Binds K t.d_zz ["drawing","meeting","given"] []
 g_zz:mg "shortest_way"=some (.ref t.a_zz)
 F_zS:Fun K "ways_down" "ways_down" xR t.a_zS t.d_zS
 B_zS:Binds K t.d_zS ["drawing","road","given"] []
 g_zS:mg "ways_down"=some (.ref t.a_zS)
 F_yg:Fun K "barred" "barred" yb t.a_yg t.d_yg
 B_yg:Binds K t.d_yg ["drawing","ones","others","given"] []
 g_yg:mg "barred"=some (.ref t.a_yg)
 F_zq:Fun K "is_back_door" "is_back_door" wO t.a_zq t.d_zq
 B_zq:Binds K t.d_zq ["drawing","one","other","door"] []
 g_zq:mg "is_back_door"=some (.ref t.a_zq)
 F_ze:Fun K "stops_roads_down" "stops_roads_down" xW t.a_ze t.d_ze
 B_ze:Binds K t.d_ze ["drawing","one","other","door"] []
 g_ze:mg "stops_roads_down"=some (.ref t.a_ze)
 F_zn:Fun K "is_front_door" "is_front_door" BW t.a_zn t.d_zn
 B_zn:Binds K t.d_zn ["drawing","one","other","door"] []
 g_zn:mg "is_front_door"=some (.ref t.a_zn)
 F_zD:Fun K "sets_within" "sets_within" oI t.a_zD t.d_zD
 B_zD:Binds K t.d_zD ["names"] []
 g_zD:mg "sets_within"=some (.ref t.a_zD)
 F_zj:Fun K "has_one_within" "has_one_within" wj t.a_zj t.d_zj
 B_zj:Binds K t.d_zj ["names","doors"] []
 g_zj:mg "has_one_within"=some (.ref t.a_zj)
 F_zE:Fun K "least_doors" "least_doors" Bd t.a_zE t.d_zE
 B_zE:Binds K t.d_zE ["drawing","one","other","is_door"] []
 g_zE:mg "least_doors"=some (.ref t.a_zE)
 F_zK:Fun K "back_doors" "back_doors" zw t.a_zK t.d_zK
 B_zK:Binds K t.d_zK ["drawing","one","other"] []
 g_zK:mg "back_doors"=some (.ref t.a_zK)
 F_zF:Fun K "front_doors" "front_doors" zt t.a_zF t.d_zF
 B_zF:Binds K t.d_zF ["drawing","one","other"] []
 g_zF:mg "front_doors"=some (.ref t.a_zF)
 F_zB:Fun K "_law_cell_at" "_law_cell_at" Bo t.a_zB t.d_zB
 B_zB:Binds K t.d_zB ["_law_script","_law_k"] []
 g_zB:mg "_law_cell_at"=some (.ref t.a_zB)
 F_zW:Fun K "_law_mixed" "_law_mixed" zE t.a_zW t.d_zW
 B_zW:Binds K t.d_zW ["_law_cell","_law_place"] []
 g_zW:mg "_law_mixed"=some (.ref t.a_zW)
 F_zy:Fun K "_law_pairs_of" "_law_pairs_of" Bg t.a_zy t.d_zy
 B_zy:Binds K t.d_zy ["_law_script","_law_at","_law_many"] []
 g_zy:mg "_law_pairs_of"=some (.ref t.a_zy)
 F_zU:Fun K "_law_above" "_law_above" Br t.a_zU t.d_zU
 B_zU:Binds K t.d_zU ["_law_drawn","_law_names"] []
 g_zU:mg "_law_above"=some (.ref t.a_zU)
 F_zT:Fun K "_law_below" "_law_below" Bb t.a_zT t.d_zT
 B_zT:Binds K t.d_zT ["_law_drawn","_law_names"] []
 g_zT:mg "_law_below"=some (.ref t.a_zT)
 F_yd:Fun K "_law_cut" "_law_cut" sO t.a_yd t.d_yd
 B_yd:Binds K t.d_yd ["_law_drawn","_law_into","_law_out"] []
 g_yd:mg "_law_cut"=some (.ref t.a_yd)
 F_zu:Fun K "_law_asked_by" "_law_asked_by" oG t.a_zu t.d_zu
 B_zu:Binds K t.d_zu ["_law_drawn","_law_standing","_law_given","_law_above_here"] []
 g_zu:mg "_law_asked_by"=some (.ref t.a_zu)
 F_zH:Fun K "_law_reached" "_law_reached" wb t.a_zH t.d_zH
 B_zH:Binds K t.d_zH ["_law_drawn","_law_ones","_law_given"] []
 g_zH:mg "_law_reached"=some (.ref t.a_zH)
 F_zZ:Fun K "_law_bars" "_law_bars" yo t.a_zZ t.d_zZ
 B_zZ:Binds K t.d_zZ ["_law_drawn","_law_ones","_law_others","_law_given"] []
 g_zZ:mg "_law_bars"=some (.ref t.a_zZ)
 F_zP:Fun K "_law_roles" "_law_roles" vq t.a_zP t.d_zP
 B_zP:Binds K t.d_zP ["_law_cell","_law_many","_law_kinds"] []
 g_zP:mg "_law_roles"=some (.ref t.a_zP)
 F_zw:Fun K "_law_moved_to" "_law_moved_to" By t.a_zw t.d_zw
 B_zw:Binds K t.d_zw ["_law_sets","_law_kind"] []
 g_zw:mg "_law_moved_to"=some (.ref t.a_zw)
 F_zY:Fun K "_law_back" "_law_back" xh t.a_zY t.d_zY
 B_zY:Binds K t.d_zY ["_law_drawn","_law_one","_law_other","_law_door"] []
 g_zY:mg "_law_back"=some (.ref t.a_zY)
 F_zV:Fun K "_law_front" "_law_front" xj t.a_zV t.d_zV
 B_zV:Binds K t.d_zV ["_law_drawn","_law_one","_law_other","_law_door"] []
 g_zV:mg "_law_front"=some (.ref t.a_zV)
 F_zG:Fun K "_law_sets_of" "_law_sets_of" xk t.a_zG t.d_zG
 B_zG:Binds K t.d_zG ["_law_names"] []
 g_zG:mg "_law_sets_of"=some (.ref t.a_zG)
 F_ya:Fun K "_law_same" "_law_same" Bj t.a_ya t.d_ya
 B_ya:Binds K t.d_ya ["_law_found","_law_due"] []
 g_ya:mg "_law_same"=some (.ref t.a_ya)
 F_zQ:Fun K "_law_least" "_law_least" ym t.a_zQ t.d_zQ
 B_zQ:Binds K t.d_zQ ["_law_doors"] []
 g_zQ:mg "_law_least"=some (.ref t.a_zQ)
 F_zk:Fun K "_law_doors_hold" "_law_doors_hold" wd t.a_zk t.d_zk
 B_zk:Binds K t.d_zk ["_law_drawn","_law_drawing","_law_one","_law_other"] []
 g_zk:mg "_law_doors_hold"=some (.ref t.a_zk)
 F_yj:Fun K "law" "law" BK t.a_yj t.d_yj
 B_yj:Binds K t.d_yj ["_law_script"] []
 g_yj:mg "law"=some (.ref t.a_yj)
 g_A:mg "Drawing"=some (.ref t.a_A)
 cl_A:Cls K t.a_A
 mk_A:Mk K t.a_A t.a_zs
 b_all:mg "all"=none
 b_any:mg "any"=none
 b_bool:mg "bool"=none
 b_int:mg "int"=none
 b_isinstance:mg "isinstance"=none
 b_len:mg "len"=none
 b_list:mg "list"=none
 b_range:mg "range"=none
 b_reversed:mg "reversed"=none
 b_set:mg "set"=none
 b_sorted:mg "sorted"=none
 b_str:mg "str"=none
 b_tuple:mg "tuple"=none
 b_zip:mg "zip"=none
 c_MOST_BOWS:∃u,mg "MOST_BOWS"=some u/\RelV (.int 6) u
 c_MOST_NAMES:∃u,mg "MOST_NAMES"=some u/\RelV (.int 6) u
 nfA_bows:cU K t.a_A "bows"
 nfA_count:cU K t.a_A "count"
 nfA_ties:cU K t.a_A "ties"
 lam:PySem.W.codeHdIn K t.c_B t.a_B=true
 code:t.d_zD.code=.ref t.c_B
section
variable {P:Program}{w:World}{K:PySem.W.Frag}{mg:Str->Option Value}{base:Heap}{t:Ad}
open DM (P2 Good)
def DF(c:Int)(ts bs:List P2):List (Str×PV):=[("count",.int c),("ties",.tup (ts.map prV)),("bows",.tup (bs.map prV))]
def Srt(l:List P2):Prop:=l.Pairwise (fun x y=>ST.pk x<ST.pk y)
def Row(H:PHp)(y:PV)(p:P2):Prop:=y=prV p∨∃r,y=.ref r/\H r=some (.lst [.int p.1,.int p.2])
abbrev Rows(H:PHp):List PV->List P2->Prop:=Paired (Row H)
def eG:Sp':=fun vs H Q _=>match vs with
 | [.int c,.tup [.int u,.int v]]=>(0≤u/\u<v/\v<c)/\Q (.bl true) H
 | _=>False
theorem tS:eG [.int c,.tup [.int u,.int v]] H Q E=((0≤u/\u<v/\v<c)/\Q (.bl true) H):=rfl
def da:Sp':=fun vs H Q _=>match vs with
 | [.int c,.ref a]=>∃ps,H a=some (.lst (ps.map prV))/\Good c ps/\c≤6/\Q (.bl true) H
 | _=>False
def ix(t:Ad):Sp':=fun vs H Q _=>match vs with
 | [.ref x,.int c,.ref a,.ref b]=>∃dx ys zs ps qs,H x=some (.ins t.a_A dx [])/\H a=some (.lst ys)/\H b=some (.lst zs)/\Rows H ys ps/\Rows H zs qs/\Good c ps/\Good c qs/\(1≤c/\c≤6/\qs.length≤6) /\
  ∀ts bs,ts.Perm ps->Srt ts->bs.Perm qs->Srt bs->Q .non (put H x (.ins t.a_A dx (DF c ts bs)))
 | _=>False
theorem zD:ix t [.ref x,.int c,.ref a,.ref b] H Q E=∃dx ys zs ps qs,H x=some (.ins t.a_A dx [])/\H a=some (.lst ys)/\H b=some (.lst zs)/\Rows H ys ps/\Rows H zs qs/\Good c ps/\Good c qs/\(1≤c/\c≤6/\qs.length≤6) /\
  ∀ts bs,ts.Perm ps->Srt ts->bs.Perm qs->Srt bs->Q .non (put H x (.ins t.a_A dx (DF c ts bs))):=rfl
def dc(t:Ad):Sp':=fun vs H Q _=>match vs with
 | [.ref x,.int n]=>∃dx c ts bs,H x=some (.ins t.a_A dx (DF c ts bs))/\(0≤n/\n<c)/\Q .non H
 | _=>False
def fol(ts:List P2)(n:Int):List Int:=(ts.filter (fun p=>decide (p.1=n))).map (·.2)
def src(ts:List P2)(n:Int):List Int:=(ts.filter (fun p=>decide (p.2=n))).map (·.1)
def bwd(bs:List P2)(n:Int):List Int:=src bs n++fol bs n
def dD(t:Ad):Sp':=fun vs H Q _=>match vs with
 | [.ref x,.int n]=>∃dx c ts bs,H x=some (.ins t.a_A dx (DF c ts bs))/\(0≤n/\n<c)/\ts.length≤15/\Q (.tup ((src ts n).map PV.int)) H
 | _=>False
def cJ(t:Ad):Sp':=fun vs H Q _=>match vs with
 | [.ref x,.int n]=>∃dx c ts bs,H x=some (.ins t.a_A dx (DF c ts bs))/\(0≤n/\n<c)/\ts.length≤15/\Q (.tup ((fol ts n).map PV.int)) H
 | _=>False
def iy:Sp':=fun vs H Q _=>match vs with
 | [.fls l,.int k]=>(0≤k/\k<100)/\∃ns:List Int,l=ns.map PV.int/\Q (.int (ns.getD k.toNat 0)) H
 | _=>False
theorem cQ{l:List PV}(h:i<l.length):atI l ((i:Nat):Int)=some l[i]:=by
 unfold atI ixN;rw[IZ (by omega),IZ (by omega)];show l[((i:Nat):Int).toNat]?=_;rw[Jq,ID h]
theorem lI{α β:Type}{R:α->β->Prop}:∀{l:List α} {m:List β} {i:Nat},Paired R l m->(hi:i<l.length)->(hj:i<m.length)->R l[i] m[i]
 | _::_,_::_,0,.cons h _,_,_=>h
 | _::_,_::_,i+1,.cons _ t,hi,hj=>lI t (by simpa using hi) (by simpa using hj)
theorem i6{R:α->β->Prop}{x:α}{l:List α}{m:List β}(h:Paired R l m)(hx:x∈l):∃y∈m,R x y:=by
 induction h with
 | nil=>cases hx
 | cons h t ih =>
  rcases IY.mp hx with rfl | hx
  ·exact⟨_,IK,h⟩
  ·obtain⟨y,hy,r⟩:=ih hx;exact⟨y,IJ _ hy,r⟩
theorem fm{a b:Int}(h:0<b):0≤a.fmod b/\a.fmod b<b:=by
 rw[Int.fmod_eq_emod_of_nonneg _ (by omega)];exact⟨Int.emod_nonneg _ (by omega),Int.emod_lt_of_pos _ h⟩
theorem pP(s:U.Sub A B)(h:B x=some o):U.Sub (put A x o) B:=fun a u e=>by
 by_cases q:a=x
 ·subst q;rw[ah]at e;cases e;exact h
 ·rw[aq q]at e;exact s a u e
theorem lS(s:∀a u,a≠x->A a=some u->B a=some u)(h:B x=some o):U.Sub (put A x o) B:=fun a u e=>by
 by_cases q:a=x
 ·subst q;rw[ah]at e;cases e;exact h
 ·rw[aq q]at e;exact s a u q e
theorem dW{f:Str}{v:PV}:∀{fs:List (Str×PV)},(jo f v fs).length≤fs.length+1
 | []=>by simp[jo]
 |(g,y)::r=>by
  unfold jo;split
  ·simp
  ·have:=dW (f:=f) (v:=v) (fs:=r);simp only[Jg];omega
theorem zV(h:j≠0)(f:j.natAbs<2 ^ 64):uc i j:=⟨h,(show My.BN 64 j from f).fit (by decide)⟩
theorem zj(f:i.natAbs<2 ^ 64):Fit i:=(show My.BN 64 i from f).fit (by decide)
def mn(H:PHp)(y:PV):PV:=match y with
 | .ref r=>(match H r with | some (.lst l)=>.tup l | _=>.non)
 | y=>y
theorem di(h:H r=some (.lst l)):mn H (.ref r)=.tup l:=by
 unfold mn;dsimp only;rw[h]
theorem jc(h:Rows H ys ps):ys.map (mn H)=ps.map prV:=by
 induction h with
 | nil=>rfl
 | cons h t ih =>
  rw[Jb,Jb,ih];congr 1;rcases h with rfl |⟨r,rfl,hr⟩
  ·rfl
  ·exact di hr
theorem Rows.up(h:Rows H ys ps)(s:U.Sub H H1):Rows H1 ys ps:=Paired.mapP h fun y p r=>r.elim .inl fun⟨q,e,hq⟩=>.inr ⟨q,e,s _ _ hq⟩
theorem dm{H:PHp}:∀{ps:List P2},Rows H (ps.map prV) ps
 | []=>.nil
 | _::_=>.cons (.inl rfl) dm
def at1(n:Int)(y:PV):Bool:=match y with | .tup [.int _,.int v]=>decide (v=n) | _=>false
def at0(n:Int)(y:PV):Bool:=match y with | .tup [.int u,.int _]=>decide (u=n) | _=>false
def g0(y:PV):PV:=match y with | .tup [u,_]=>u | _=>.non
def g1(y:PV):PV:=match y with | .tup [_,v]=>v | _=>.non
theorem src_list{n:Int}:∀{ts:List P2},((ts.map prV).filter (at1 n)).map g0=((ts.filter (fun p=>decide (p.2=n))).map (·.1)).map PV.int
 | []=>rfl
 | p::ts=>by
  have e:at1 n (prV p)=decide (p.2=n):=rfl;rw[Jb,JF,JF,e];by_cases q:decide (p.2=n)=true
  ·rw[IZ q,IZ q,Jb,Jb,Jb,src_list];rfl
  ·rw[IX q,IX q,src_list]
theorem d4{n:Int}:∀{ts:List P2},((ts.map prV).filter (at0 n)).map g1=((ts.filter (fun p=>decide (p.1=n))).map (·.2)).map PV.int
 | []=>rfl
 | p::ts=>by
  have e:at0 n (prV p)=decide (p.1=n):=rfl;rw[Jb,JF,JF,e];by_cases q:decide (p.1=n)=true
  ·rw[IZ q,IZ q,Jb,Jb,Jb,d4];rfl
  ·rw[IX q,IX q,d4]
structure GJ (v j:Int) (l:List P2):Prop where
 nd:l.Nodup
 lo:∀p∈l,0≤p.1/\p.1<p.2/\(p.2<v∨(p.2=v/\p.1<j))
theorem GJ.app(h:GJ v j l)(h0:0≤j)(hj:j<v):GJ v (j+1) (l++[(j,v)]):=by
 refine⟨Jz.mpr ⟨h.nd,by simp,?_⟩,fun p hp=>?_⟩
 ·intro a ha b hb e;rw[IW]at hb;subst hb;subst e;have:=h.lo _ ha;simp only at this;omega
 ·rcases IU.mp hp with hp | hp
  ·have:=h.lo p hp;omega
  ·rw[IW]at hp;subst hp;exact⟨h0,hj,.inr ⟨rfl,Int.lt_succ j⟩⟩
theorem GJ.up(h:GJ v j l):GJ v (j+1) l:=⟨h.nd,fun p hp=>by have:=h.lo p hp;omega⟩
theorem GJ.of(h:Good v l):GJ v 0 l:=⟨h.nd,fun p hp=>by have:=h.lo p hp;omega⟩
theorem GJ.good(h:GJ v v l):Good (v+1) l:=⟨h.nd,fun p hp=>by have:=h.lo p hp;omega⟩
def lh(H:PHp):Nat->PV->PV->Prop
 | _+1,.int a,.int b=>a=b
 | _+1,.bl a,.bl b=>a=b
 | n+1,.tup l,.tup m=>l.length≤1000/\Paired (lh H n) l m
 | n+1,.ref a,.ref b=>∃l m,H a=some (.lst l)/\H b=some (.lst m)/\l.length≤1000/\Paired (lh H n) l m
 | _,_,_=>False
def cH(n:Nat):Sp':=fun vs H Q _=>match vs with
 | [x,y]=>lh H n x y/\Q (.bl true) H
 | _=>False
theorem AE:cH n [x,y] H Q E=(lh H n x y/\Q (.bl true) H):=rfl
theorem aE{l:List Int}:(l.map PV.int).all (flat 8)=true:=by
 rw[JO];intro z hz;obtain⟨p,_,rfl⟩:=IF.mp hz;rfl
theorem aO{l:List Int}:((l.map PV.int).any fun z=>deq z (.int n))=decide (n∈l):=by
 rw[Kg,KI,JB];constructor
 ·rintro⟨z,hz,e⟩;obtain⟨p,hp,rfl⟩:=IF.mp hz;have:p=n:=by simpa[deq]using e
  rw[←this];exact hp
 ·intro h;exact⟨_,IF.mpr ⟨_,h,rfl⟩,by simp[deq]⟩
def swp(p:P2):P2:=(p.2,p.1)
structure Nms (c:Int) (L:List Int):Prop where
 up:L.Pairwise (·<·)
 lo:∀x∈L,0≤x/\x<c
theorem Nms.nd(h:Nms c L):L.Nodup:=h.up.imp fun h=>by omega
theorem Nms.len(h:Nms c L)(hc:c≤6):L.length≤6:=My.bI 6 L h.nd fun x hx=>by have:=h.lo x hx;omega
def Ins(t:Ad)(H:PHp)(x:Addr)(c:Int)(ts:List P2):Prop:=∃dx bs,H x=some (.ins t.a_A dx (DF c ts bs))
theorem Ins.up(h:Ins t H x c ts)(s:U.Sub H H1):Ins t H1 x c ts:=by
 obtain⟨dx,bs,e⟩:=h;exact⟨dx,bs,s _ _ e⟩
def gC:Sp':=fun vs H Q _=>match vs with
 | [.int c,.tup l]=>∃L:List Int,l=L.map PV.int/\Nms c L/\Q (.bl true) H
 | _=>False
def dM(t:Ad):Sp':=fun vs H Q _=>match vs with
 | [.ref x,.tup l]=>∃c ts,∃L:List Int,Ins t H x c ts/\l=L.map PV.int/\Nms c L/\Q .non H
 | _=>False
def fC(t:Ad)(f:P2->P2):Sp':=fun vs H Q _=>match vs with
 | [.ref x,.tup l]=>∃c ts,∃L:List Int,Ins t H x c ts/\l=L.map PV.int/\Nms c L/\(1≤c/\c≤6)/\Good c ts/\∀M:List Int,M.Pairwise (·<·)->(∀y,y∈M↔My.Reach (ts.map f) L y)->Q (.tup (M.map PV.int)) H
 | _=>False
theorem Dd:fC t f [.ref x,.tup l] H Q E=∃c ts,∃L:List Int,Ins t H x c ts/\l=L.map PV.int/\Nms c L/\(1≤c/\c≤6)/\Good c ts/\∀M:List Int,M.Pairwise (·<·)->(∀y,y∈M↔My.Reach (ts.map f) L y)->Q (.tup (M.map PV.int)) H:=rfl
def HC(b:Bool):P2->P2:=if b then swp else fun p=>p
theorem kE{α:Type}{R:α->α->Prop}:∀{l:List α},(∀x∈l,R x x)->Paired R l l
 | [],_=>.nil
 | x::l,h=>.cons (h x IK) (kE fun y hy=>h y (IJ _ hy))
theorem same_ints{l:List Int}(h:l.length≤1000):lh H (n+2) (.tup (l.map PV.int)) (.tup (l.map PV.int)):=by
 unfold lh;refine⟨by rw[kb];exact h,kE fun x hx=>?_⟩;obtain⟨i,_,rfl⟩:=IF.mp hx;rfl
theorem mD{E:List P2}(hE:∀a b,(a,b)∈E->0≤b/\b<c)(hS:∀x∈S,0≤x/\x<c){y:Int}(r:My.Reach E S y):0≤y/\y<c:=by
 cases r with
 | base h=>exact hS _ h
 | step _ e=>exact hE _ _ e
def onI(q:Int->Bool)(y:PV):Bool:=match y with | .int u=>q u | _=>false
theorem yd:(bX 0 m).length=m:=by unfold bX;simp
def ulN(c:Int):List Int:=(List.range c.toNat).map fun k=>((k:Nat):Int)
def dlN(c:Int):List Int:=(List.range c.toNat).map fun k=>c - 1 - ((k:Nat):Int)
theorem jZ(c:Int):(ulN c).Pairwise (·<·):=by
 unfold ulN;rw[JQ];exact List.pairwise_lt_range.imp fun h=>by omega
theorem pW(c:Int):(dlN c).Pairwise (·>·):=by
 unfold dlN;rw[JQ];refine List.Pairwise.imp (fun {a b} h=>?_) (List.pairwise_lt_range (n:=c.toNat));show c - 1 - ((a:Nat):Int)>c - 1 - ((b:Nat):Int);omega
theorem b9:x∈ulN c↔0≤x/\x<c:=by
 unfold ulN;simp only[IF,Jn];constructor
 ·rintro⟨k,hk,rfl⟩;omega
 ·intro h;exact⟨x.toNat,by omega,by omega⟩
theorem lq:x∈dlN c↔0≤x/\x<c:=by
 unfold dlN;simp only[IF,Jn];constructor
 ·rintro⟨k,hk,rfl⟩;omega
 ·intro h;exact⟨(c - 1 - x).toNat,by omega,by omega⟩
theorem tj{E:List P2}(hp:L.Pairwise R)(as:∀a b,R a b->¬R b a)(hE:∀a b,(a,b)∈E->a∈L/\R a b):My.Fwd E L:=by
 intro a b e L1 L2 hl hb;obtain⟨ha,hr⟩:=hE a b e;rw[hl]at ha hp;rcases IU.mp ha with h | h
 ·exact h
 ·exact absurd ((List.pairwise_append.mp hp).2.2 b hb a h) (as _ _ hr)
theorem zP(g:Good c ts)(y:Int):y∈(ulN c).foldl (My.bJ (ts.map fun p=>p)) L↔My.Reach (ts.map fun p=>p) L y:=by
 rw[List.map_id'' (fun _=>rfl)];refine My.ku (fun a b e=>?_) (tj (jZ c) (fun a b h=>by omega) fun a b e=>?_) ((jZ c).imp fun h=>by omega) y
 ·have:=g.lo _ e;exact b9.mpr ⟨this.1,by simp only at this;omega⟩
 ·have:=g.lo _ e;exact⟨b9.mpr ⟨this.1,by simp only at this;omega⟩,this.2.1⟩
theorem px{ts:List P2}:(a,b)∈ts.map swp↔(b,a)∈ts:=by
 rw[IF];constructor
 ·rintro⟨p,hp,e⟩;unfold swp at e;cases e;exact hp
 ·intro h;exact⟨_,h,rfl⟩
theorem vv(g:Good c ts)(y:Int):y∈(dlN c).foldl (My.bJ (ts.map swp)) L↔My.Reach (ts.map swp) L y:=by
 refine My.ku (fun a b e=>?_) (tj (pW c) (fun a b h=>by omega) fun a b e=>?_) ((pW c).imp fun h=>by omega) y
 ·have:=g.lo _ (px.mp e);simp only at this;exact lq.mpr ⟨by omega,by omega⟩
 ·have:=g.lo _ (px.mp e);simp only at this;exact⟨lq.mpr ⟨by omega,by omega⟩,by omega⟩
theorem mR{n:Int}:∀{ts:List P2},My.outs (ts.map swp) n=(ts.filter (fun p=>decide (p.2=n))).map (·.1)
 | []=>rfl
 | p::ts=>by
  have ih:=mR (n:=n) (ts:=ts);unfold My.outs at ih ⊢;rw[Jb,JF,JF];by_cases h:decide (p.2=n)=true
  ·have h':decide ((swp p).1=n)=true:=h;rw[IZ h,IZ h',Jb,Jb,ih];rfl
  ·have h':¬decide ((swp p).1=n)=true:=h;rw[IX h,IX h',ih]
theorem wL{ts:List P2}:My.outs (ts.map fun p=>p) n=(ts.filter (fun p=>decide (p.1=n))).map (·.2):=by
 rw[List.map_id'' (fun _=>rfl)];rfl
theorem tm{E:List P2}:(My.outs E n).length≤E.length:=by
 unfold My.outs;rw[kb];exact JD _ _
theorem j3{E:List P2}:(My.bJ E f n).length≤f.length+E.length:=by
 unfold My.bJ;split
 ·rw[II];have:=tm (E:=E) (n:=n);omega
 ·omega
theorem g8{α β:Type}{f:β->α->β}{l:List α}{b:β}{x:α}(h:l[i]?=some x):(l.take (i+1)).foldl f b=f ((l.take i).foldl f b) x:=by
 rw[Kb,h,K3];rfl
theorem mh(g:Good c ps)(b:Bool):∀x y,(x,y)∈ps.map (HC b)->0≤y/\y<c:=by
 intro x y h;obtain⟨p,hp,e⟩:=IF.mp h;have:=g.lo p hp;cases b with
 | true=>have e':swp p=(x,y):=e;unfold swp at e';cases e';omega
 | false=>have e':p=(x,y):=e;subst e';simp only at this;omega
theorem jY{F:List Int}{ms:List Nat}{R:Int->Prop}(hc:c≤6)(hF:∀x∈F,0≤x/\x<c)(hR:∀y,y∈F↔R y)(hs:ms.Pairwise (·<·))(hm:∀x,x∈ms↔x∈F.map Int.toNat) :
  ((ms.map fun(n:Nat)=>(n:Int)).Pairwise (·<·))/\∀y,y∈(ms.map fun(n:Nat)=>(n:Int))↔R y:=by
 constructor
 ·rw[JQ];exact hs.imp fun h=>by omega
 ·intro y;rw[←hR,IF];constructor
  ·rintro⟨n,hn,rfl⟩;obtain⟨z,hz,e⟩:=IF.mp ((hm n).mp hn);have:=hF z hz;have:((n:Nat):Int)=z:=by omega
   rw[this];exact hz
  ·intro h;have:=hF y h;exact⟨y.toNat,(hm _).mpr (IF.mpr ⟨y,h,rfl⟩),by omega⟩
def fL(t:Ad):Sp':=fun vs H Q _=>match vs with
 | [.ref x,.int n]=>∃dx c ts bs,H x=some (.ins t.a_A dx (DF c ts bs))/\(0≤n/\n<c)/\bs.length≤15/\Q (.tup ((bwd bs n).map PV.int)) H
 | _=>False
def Es(bs:List P2)(L:List Int):List P2:=bs.filter fun p=>decide (p.1∈L)&&decide (p.2∈L)
def both(bs:List P2)(L:List Int):List P2:=Es bs L++(Es bs L).map swp
def tupI(M:List Int):PV:=.tup (M.map PV.int)
structure OkD (c:Int) (ts bs:List P2):Prop where
 c1:1≤c
 c6:c≤6
 gt:Good c ts
 gb:Good c bs
 st:Srt ts
 sb:Srt bs
 b6:bs.length≤6
def FT(k:Nat)(L:List Int)(p:P2):Bool:=match k with
 | 0=>decide (p.1∈L)&&decide (p.2∈L)
 | 1=>!decide (p.2∈L)
 | _=>!decide (p.1∈L)
def FB(k:Nat)(L:List Int)(p:P2):Bool:=match k with
 | 0=>decide (p.1∈L)&&decide (p.2∈L)
 | 1=>!decide (p.1∈L)&&!decide (p.2∈L)
 | _=>true
theorem hW(g:Good c ps)(f:P2->Bool):Good c (ps.filter f):=⟨g.nd.sublist KA,fun p hp=>g.lo p (Jm.mp hp).1⟩
theorem OkD.filter(h:OkD c ts bs)(f g:P2->Bool):OkD c (ts.filter f) (bs.filter g) :=
 ⟨h.c1,h.c6,hW h.gt f,hW h.gb g,List.Pairwise.sublist KA h.st,List.Pairwise.sublist KA h.sb,Jl (JD _ _) h.b6⟩
def Dr(t:Ad)(H:PHp)(x:Addr)(c:Int)(ts bs:List P2):Prop:=∃dx,H x=some (.ins t.a_A dx (DF c ts bs))
theorem Dr.up(h:Dr t H x c ts bs)(s:U.Sub H H1):Dr t H1 x c ts bs:=by
 obtain⟨dx,e⟩:=h;exact⟨dx,s _ _ e⟩
def shp(c:Int)(ts bs:List P2):PV:=.tup [.int c,.tup (ts.map prV),.tup (bs.map prV)]
abbrev Sd:=Int×Bool
def sdV(s:Sd):PV:=.tup [.int s.1,.bl s.2]
abbrev Sp3:=My.Stp Str
def stV(s:Sp3):PV:=.tup [.int s.1,.str s.2.1,.int s.2.2]
theorem dw:m∈fol ts n↔(n,m)∈ts:=by
 unfold fol;simp only[IF,Jm,JB];exact⟨fun y_=>by obtain⟨p,⟨h,e⟩,f⟩:=y_;subst e;subst f;exact h,fun h=>⟨_,⟨h,rfl⟩,rfl⟩⟩
theorem fS:m∈src ts n↔(m,n)∈ts:=by
 unfold src;simp only[IF,Jm,JB];exact⟨fun y_=>by obtain⟨p,⟨h,e⟩,f⟩:=y_;subst e;subst f;exact h,fun h=>⟨_,⟨h,rfl⟩,rfl⟩⟩
theorem k8:m∈bwd bs n↔(n,m)∈bs∨(m,n)∈bs:=by
 unfold bwd;rw[IU,fS,dw,or_comm]
def EdG(ts bs:List P2)(s:Sp3):Prop:=(s.2.1="down"/\(s.1,s.2.2)∈ts)∨(s.2.1="up"/\(s.2.2,s.1)∈ts)∨(s.2.1="bow"/\((s.1,s.2.2)∈bs∨(s.2.2,s.1)∈bs))
def stp(ts bs:List P2)(n:Int):List Sp3:=(fol ts n).map (fun m=>(n,("down":Str),m))++(src ts n).map (fun m=>(n,("up":Str),m))++(bwd bs n).map (fun m=>(n,("bow":Str),m))
theorem iI:s∈stp ts bs n↔s.1=n/\EdG ts bs s:=by
 obtain⟨a,k,b⟩:=s;unfold stp EdG;simp only[IU,IF,dw,fS,k8,Prod.mk.injEq];constructor
 ·rintro((⟨m,h,rfl,rfl,rfl⟩ |⟨m,h,rfl,rfl,rfl⟩) |⟨m,h,rfl,rfl,rfl⟩)
  ·exact⟨rfl,.inl ⟨rfl,h⟩⟩
  ·exact⟨rfl,.inr (.inl ⟨rfl,h⟩)⟩
  ·exact⟨rfl,.inr (.inr ⟨rfl,h⟩)⟩
 ·rintro⟨rfl,⟨rfl,h⟩ |⟨rfl,h⟩ |⟨rfl,h⟩⟩
  ·exact .inl (.inl ⟨_,h,rfl,rfl,rfl⟩)
  ·exact .inl (.inr ⟨_,h,rfl,rfl,rfl⟩)
  ·exact .inr ⟨_,h,rfl,rfl,rfl⟩
theorem uw(gt:Good c ts)(gb:Good c bs){s:Sp3}(h:EdG ts bs s):(0≤s.1/\s.1<c)/\0≤s.2.2/\s.2.2<c:=by
 rcases h with⟨_,h⟩ |⟨_,h⟩ |⟨_,h | h⟩
 ·have:=gt.lo _ h;simp only at this;omega
 ·have:=gt.lo _ h;simp only at this;omega
 ·have:=gb.lo _ h;simp only at this;omega
 ·have:=gb.lo _ h;simp only at this;omega
theorem tw(g:Good c ts)(n:Int):(fol ts n).Nodup:=by
 unfold fol;rw[Jr,JQ];refine KJ (fun {x y} hx hy hxy e=>hxy ?_) (Jr.mp (g.nd.sublist KA));simp only[Jm,JB]at hx hy;exact Prod.ext (hx.2.trans hy.2.symm) e
theorem um(g:Good c ts)(n:Int):(src ts n).Nodup:=by
 unfold src;rw[Jr,JQ];refine KJ (fun {x y} hx hy hxy e=>hxy ?_) (Jr.mp (g.nd.sublist KA));simp only[Jm,JB]at hx hy;exact Prod.ext e (hx.2.trans hy.2.symm)
theorem cp(g:Good c ts)(hc:c≤6)(n:Int):(fol ts n).length≤6:=My.bI 6 _ (tw g n) fun x hx=>by have:=g.lo _ (dw.mp hx);simp only at this;omega
theorem cC(g:Good c ts)(hc:c≤6)(n:Int):(src ts n).length≤6:=My.bI 6 _ (um g n) fun x hx=>by have:=g.lo _ (fS.mp hx);simp only at this;omega
theorem dH(g:Good c ts)(hc:c≤6)(n:Int):(bwd ts n).length≤6:=by
 refine My.bI 6 _ (Jz.mpr ⟨um g n,tw g n,fun x hx y hy e=>?_⟩) fun x hx=>?_
 ·subst e;have h1:=g.lo _ (fS.mp hx);have h2:=g.lo _ (dw.mp hy);simp only at h1 h2;omega
 ·rcases k8.mp hx with h | h
  ·have:=g.lo _ h;simp only at this;omega
  ·have:=g.lo _ h;simp only at this;omega
theorem iK(gt:Good c ts)(gb:Good c bs)(hc:c≤6)(n:Int):(stp ts bs n).length≤18:=by
 unfold stp;have h1:=cp gt hc n;have h2:=cC gt hc n;have h3:=dH gb hc n;simp only[II,kb];omega
def mtg(s s':Sp3):Bool:=!(s.2.1=="up")&&!(s'.2.1=="down")
def psd(G A:List Int)(s s':Sp3):Bool:=if mtg s s' then decide (s.2.2∈A)else !decide (s.2.2∈G)
abbrev LnG(G A:List Int):=My.Lnk ("down":Str) "up" G A
abbrev RdG(ts bs:List P2)(G A ones:List Int)(r:List Sp3):=My.Rd (EdG ts bs) ("down":Str) "up" G A ones r
abbrev RSG(ts bs:List P2)(G A ones:List Int):=My.RS (EdG ts bs) ("down":Str) "up" G A ones
theorem sE:("down":Str)≠"up":=by decide
theorem E3:decide (("down":Str)≠"up")=true:=by decide
theorem D5:decide (("up":Str)≠"up")=false:=by decide
theorem D3:decide (("bow":Str)≠"up")=true:=by decide
theorem gr:mtg s s'=true↔s.2.1≠"up"/\s'.2.1≠"down":=by
 unfold mtg;simp
theorem qu{s s':Sp3}:LnG G A s s'↔s.2.2=s'.1/\psd G A s s'=true:=by
 constructor
 ·intro h;refine⟨h.jn,?_⟩;unfold psd;split
  ·rename_i m;have:=gr.mp m;exact JE (h.mt this.1 this.2)
  ·rename_i m;have:s.2.2∉G:=h.no (by
    by_cases e:s.2.1="up"
    ·exact .inl e
    ·exact .inr (Classical.byContradiction fun z=>m (gr.mpr ⟨e,z⟩)))
   simpa using this
 ·rintro⟨j,h⟩;unfold psd at h;refine⟨j,fun a b=>?_,fun a=>?_⟩
  ·rw[IZ (gr.mpr ⟨a,b⟩)]at h;exact K2 h
  ·rw[IX (fun z=>by have:=gr.mp z;rcases a with a | a;exact this.1 a;exact this.2 a)]at h;simpa using h
def bes(ts bs:List P2)(G A:List Int)(s:Sd):List Sd :=
 (if s.1∈G then []else(fol ts s.1).map fun m=>(m,true))++(if (s.2=true/\s.1∈A)∨(s.2=false/\s.1∉G)then(src ts s.1).map (fun m=>(m,false))++(bwd bs s.1).map (fun m=>(m,true))else [])
theorem wg(gt:Good c ts)(gb:Good c bs)(hc:c≤6){G A:List Int}(s:Sd):(bes ts bs G A s).length≤18:=by
 have h1:=cp gt hc s.1;have h2:=cC gt hc s.1;have h3:=dH gb hc s.1;unfold bes;rw[II];have a:(if s.1∈G then []else(fol ts s.1).map fun m=>(m,true)).length≤6:=by split<;>simp<;>omega
 have b:(if (s.2=true/\s.1∈A)∨(s.2=false/\s.1∉G)then(src ts s.1).map (fun m=>(m,false))++(bwd bs s.1).map (fun m=>(m,true))else []).length≤12:=by split<;>simp<;>omega
 omega
theorem qg:z∈bes ts bs G A s↔(s.1∉G/\(s.1,z.1)∈ts/\z.2=true)∨(((s.2=true/\s.1∈A)∨(s.2=false/\s.1∉G))/\(((z.1,s.1)∈ts/\z.2=false)∨(((s.1,z.1)∈bs∨(z.1,s.1)∈bs)/\z.2=true))):=by
 obtain⟨x,p⟩:=z;unfold bes;rw[IU];refine or_congr ?_ ?_
 ·by_cases h:s.1∈G
  ·simp[h]
  ·simp only[IX h,IF,dw,Prod.mk.injEq];exact⟨fun y_=>by obtain⟨m,a,e,f⟩:=y_;subst e;exact⟨h,a,f.symm⟩,fun y_=>by obtain⟨_,a,f⟩:=y_;exact ⟨_,a,rfl,f.symm⟩⟩
 ·by_cases h:(s.2=true/\s.1∈A)∨(s.2=false/\s.1∉G)
  ·simp only[IZ h,IU,IF,fS,k8,Prod.mk.injEq];constructor
   ·rintro(⟨m,a,rfl,rfl⟩ |⟨m,a,rfl,rfl⟩)
    ·exact⟨h,.inl ⟨a,rfl⟩⟩
    ·exact⟨h,.inr ⟨a,rfl⟩⟩
   ·rintro⟨_,⟨a,rfl⟩ |⟨a,rfl⟩⟩
    ·exact .inl ⟨_,a,rfl,rfl⟩
    ·exact .inr ⟨_,a,rfl,rfl⟩
  ·rw[IX h];simp only[Ki,h,false_and]
theorem t8(h:RSG ts bs G A ones s.1 s.2)(hz:z∈bes ts bs G A s):RSG ts bs G A ones z.1 z.2:=by
 rcases qg.mp hz with⟨hg,e,hp⟩ |⟨hc,⟨e,hp⟩ |⟨e,hp⟩⟩
 ·have:=My.RS.step (k:=("down":Str)) (m:=z.1) h (.inl ⟨rfl,e⟩) (fun _=>hg) (fun k=>absurd rfl k) (fun k=>absurd rfl k);rw[hp];exact E3▸this
 ·have:=My.RS.step (k:=("up":Str)) (m:=z.1) h (.inr (.inl ⟨rfl,e⟩)) (fun k=>absurd k.symm sE) (fun _ hp=>hc.elim (fun q=>q.2) fun q=>by rw[hp]at q;exact absurd q.1 (by decide)) (fun _ hp=>hc.elim (fun q=>by rw[hp]at q;exact absurd q.1 (by decide)) fun q=>q.2);rw[hp];exact D5▸this
 ·have:=My.RS.step (k:=("bow":Str)) (m:=z.1) h (.inr (.inr ⟨rfl,e⟩)) (fun k=>absurd k (by decide)) (fun _ hp=>hc.elim (fun q=>q.2) fun q=>by rw[hp]at q;exact absurd q.1 (by decide)) (fun _ hp=>hc.elim (fun q=>by rw[hp]at q;exact absurd q.1 (by decide)) fun q=>q.2);rw[hp];exact D3▸this
theorem p8{L:List Sd}(h0:∀x∈ones,(x,false)∈L)(hs:∀s∈L,∀z∈bes ts bs G A s,z∈L){x:Int}{p:Bool}(h:RSG ts bs G A ones x p):(x,p)∈L:=by
 induction h with
 | base h=>exact h0 _ h
 | step h e h1 h2 h3 ih =>
  rename_i n m p k;have cond:k≠"down"->(p=true/\n∈A)∨(p=false/\n∉G):=fun kd=>by
   cases p with
   | true=>exact .inl ⟨rfl,h2 kd rfl⟩
   | false=>exact .inr ⟨rfl,h3 kd rfl⟩
  refine hs (n,p) ih _ (qg.mpr ?_);rcases e with⟨ek,e⟩ |⟨ek,e⟩ |⟨ek,e⟩
  ·have ek:k="down":=ek;subst ek;exact .inl ⟨h1 rfl,e,E3⟩
  ·have ek:k="up":=ek;subst ek;exact .inr ⟨cond (by decide),.inl ⟨e,D5⟩⟩
  ·have ek:k="bow":=ek;subst ek;exact .inr ⟨cond (by decide),.inr ⟨e,D3⟩⟩
def Bi(c:Int):List Sd:=(ulN c).flatMap fun x=>[(x,false),(x,true)]
theorem kZ(hc:c≤6){L:List Sd}(nd:L.Nodup)(h:∀s∈L,0≤s.1/\s.1<c):L.length≤12:=by
 have h1:L.length≤(Bi c).length:=DM.bI nd fun s hs=>by
  unfold Bi;obtain⟨x,p⟩:=s;rw[KU];refine⟨x,b9.mpr (h _ hs),?_⟩;cases p<;>simp
 have h2:(Bi c).length≤(ulN c).length*2:=My.dk fun x _=>by simp
 have h3:(ulN c).length≤6:=by unfold ulN;rw[kb,JH];omega
 omega
theorem mG(gt:Good c ts)(gb:Good c bs)(h1:∀x∈ones,0≤x/\x<c){x:Int}{p:Bool}(h:RSG ts bs G A ones x p):0≤x/\x<c:=by
 cases h with
 | base h=>exact h1 x h
 | step _ e _ _ _=>exact(uw gt gb e).2
def bb(H:PHp)(q:Addr)(vs:List PV)(ls:List (List PV)):Prop:=Paired (fun v l=>∃r,v=PV.ref r/\r≠q/\H r=some (.lst l)) vs ls
theorem bb.up(h:bb H q vs ls)(s:U.Sub H H1):bb H1 q vs ls:=Paired.mapP h fun _ _ ⟨r,e,n,hr⟩=>⟨r,e,n,s _ _ hr⟩
theorem bb.put(h:bb H q vs ls):bb (U.put H q o) q vs ls:=Paired.mapP h fun _ _ ⟨r,e,n,hr⟩=>⟨r,e,n,(aq n).trans hr⟩
theorem iM{α β:Type}{R:α->β->Prop}{a:α}{b:β}(r:R a b):∀{l:List α} {m:List β},Paired R l m->Paired R (l++[a]) (m++[b])
 | [],[],.nil=>.cons r .nil
 | _::_,_::_,.cons h t=>.cons h (iM r t)
theorem bb.snoc(h:bb H q vs ls)(n:r≠q)(e:H r=some (.lst l)):bb H q (vs++[.ref r]) (ls++[l]):=iM ⟨r,rfl,n,e⟩ h
theorem y9{α β:Type}{R:α->β->Prop}{v:α}:∀{l:List α} {m:List β} {i:Nat},Paired R l m->l[i]?=some v->∃w,m[i]?=some w/\R v w
 | _::_,_::_,0,.cons h _,e=>by cases e;exact⟨_,rfl,h⟩
 | _::_,_::_,i+1,.cons _ t,e=>by obtain⟨w,q,r⟩:=y9 (i:=i) t (by simpa using e);exact⟨w,by simpa using q,r⟩
 | [],[],i,.nil,e=>by simp at e
theorem bb.at{i:Nat}(h:bb H q vs ls)(e:vs[i]?=some v):∃l r,ls[i]?=some l/\v=.ref r/\r≠q/\H r=some (.lst l):=by
 obtain⟨l,hl,r,e,n,hr⟩:=y9 h e;exact⟨l,r,hl,e,n,hr⟩
theorem bb.len(h:bb H q vs ls):vs.length=ls.length:=Paired.length h
theorem bb.mv(h:bb H q vs ls)(s:U.Sub H H1)(n:H p=none):bb H1 p vs ls:=Paired.mapP h fun _ _ ⟨r,e,_,hr⟩=>⟨r,e,av hr n,s _ _ hr⟩
theorem bb.fr{H H0:PHp}{a q:Addr}{o:PO}(e:H0 q=some o):∀{vs:List PV} {ls:List (List PV)},bb H a vs ls->(∀v∈vs,∀b,v=.ref b->H0 b=none)->bb H q vs ls
 | [],[],_,_=>.nil
 | _::_,_::_,.cons ⟨r,er,_,hr⟩ t,f=>.cons ⟨r,er,(av e (f _ IK r er)).symm,hr⟩ (bb.fr e t fun v hv=>f v (IJ _ hv))
def Frs(H:PHp)(vs:List PV):Prop:=∀v∈vs,∀b,v=PV.ref b->H b=none
theorem Frs.nil:Frs H []:=fun _ h=>by cases h
theorem Frs.app(a:Frs H vs)(b:Frs H ws):Frs H (vs++ws):=fun v hv=>(IU.mp hv).elim (a v) (b v)
theorem Frs.one(h:H r=none):Frs H [.ref r]:=fun v hv b e=>by rw[IW]at hv;rw[hv]at e;cases e;exact h
theorem Frs.mono(s:U.Sub H H1)(h:Frs H1 vs):Frs H vs:=fun v hv b e=>s.free (h v hv b e)
theorem Frs.sub(h:Frs H vs)(k:∀v∈ws,v∈vs):Frs H ws:=fun v hv=>h v (k v hv)
theorem jA{y:PV}:atI (l++[y]) (-1)=some y:=by
 unfold atI ixN;rw[IX (by omega),II,JG,IZ (by omega),show(-1+((l.length+1:Nat):Int)).toNat=l.length by omega];simp
theorem m6(f:PV->PV)(pz:PV->Bool)(Iv:St'->Prop)(hlen:xs.length≤sizeLine)(hok:∀l,ok (put H1 acc (.lst l)))
  (hs:∀x∈xs,∀(l:List PV) (σ:St') (R:St'->PHp->Prop),Iv σ->l.length<sizeLine->(pz x=true->∀σ3,Iv σ3->R σ3 (put H1 acc (.lst (l++[f x]))))->(pz x=false->∀σ3,Iv σ3->R σ3 (put H1 acc (.lst l))) ->
   g x σ (put H1 acc (.lst l)) fun σ3 H2=>tt σ3 H2 fun b H3=>cif b (te σ3 H3 fun y H4=>∃l',H4 acc=some (.lst l')/\l'.length<sizeLine/\R σ3 (put H4 acc (.lst (l'++[y])))) (R σ3 H3))
  (hq:Q (.ref acc) (put H1 acc (.lst ((xs.filter pz).map f)))) {σ:St'} (h0:Iv σ):cz ok g tt te acc Q xs σ (put H1 acc (.lst [])):=by
 have key:∀(r d:List PV) (σ:St'),xs=d++r->Iv σ->cz ok g tt te acc Q r σ (put H1 acc (.lst ((d.filter pz).map f))):=by
  intro r
  induction r with
  | nil =>
   intro d σ e hv;have:d=xs:=by rw[e,Ji]
   subst this;exact⟨hok _,hq⟩
  | cons x r ih =>
   intro d σ e hv;have hd:((d.filter pz).map f).length<sizeLine:=by
    have h1:d.length+(r.length+1)=xs.length:=by rw[e,II,Jg]
    have h2:=JD pz d;rw[kb];omega
   refine⟨hok _,hs x (by rw[e];simp) _ σ _ hv hd (fun hp σ3 h3=>?_) (fun hp σ3 h3=>?_)⟩
   ·have:=ih (d++[x]) σ3 (by rw[e];simp) h3;rw[J7,IP]at this;simpa[hp]using this
   ·have:=ih (d++[x]) σ3 (by rw[e];simp) h3;rw[J7,IP]at this;simpa[hp]using this
 exact key xs [] σ rfl h0
theorem Dm{x y z:PV}:atI [x,y,z] 0=some x:=rfl
theorem D1{x y z:PV}:atI [x,y,z] 1=some y:=rfl
theorem Cb{x y z:PV}:atI [x,y,z] 2=some z:=rfl
theorem Io:flat n (.str k)=true:=by cases n<;>rfl
theorem nN{L:List Int}:((L.map PV.int).filter (fun _=>true)).map (fun y=>PV.tup [.int n,.str k,y])=(L.map fun m=>((n,k,m):Sp3)).map stV:=by
 rw[JC.mpr (fun _ _=>rfl),Jj,Jj];rfl
theorem fD{L:List Int}:((L.map PV.int).filter (fun _=>true)).map (fun y=>PV.tup [y,.bl b])=(L.map fun m=>((m,b):Sd)).map sdV:=by
 rw[JC.mpr (fun _ _=>rfl),Jj,Jj];rfl
def g32(y:PV):PV:=match y with | .tup [_,_,b]=>b | _=>.non
theorem Ek{road:List Sp3}:((road.map stV).filter (fun _=>true)).map g32=(road.map (·.2.2)).map PV.int:=by
 rw[JC.mpr (fun _ _=>rfl),Jj,Jj];rfl
theorem vh{α:Type}(f:α->PV)(l:List α):cY (l.map f) (some 1) none=l.tail.map f:=by
 unfold cY;rw[show(1:Int)=((1:Nat):Int)from rfl,HT.xE,HT.iY,kb];cases l with
 | nil=>rfl
 | cons a l =>
  rw[Nat.min_eq_left (by simp),Jb,List.drop_one,List.tail_cons,List.tail_cons];exact Ky (by simp)
theorem nF{α:Type}(f:α->PV)(l:List α):cY (l.map f) none (some (-1))=l.dropLast.map f:=by
 have e:HT.sIx (l.map f).length (l.map f).length (some (-1))=l.length - 1:=by
  unfold HT.sIx;rw[kb];simp;omega
 unfold cY;rw[e,HT.iY,List.drop_zero,Nat.sub_zero,List.dropLast_eq_take,List.map_take]
def mts:List Sp3->List Int
 | s::s'::r=>if mtg s s' then s.2.2::mts (s'::r)else mts (s'::r)
 | _=>[]
def mtF(y:PV):Bool:=match y with | .tup [.tup [.int a,.str k,.int b],.tup [.int a',.str k',.int b']]=>mtg (a,k,b) (a',k',b') | _=>false
def mtN(y:PV):PV:=match y with | .tup [.tup [_,_,b],_]=>b | _=>.non
theorem p9:∀(r:List Sp3),((d6 (r.dropLast.map stV) (r.tail.map stV)).filter mtF).map mtN=(mts r).map PV.int
 | []=>rfl
 | [s]=>rfl
 | s::s'::r=>by
  have ih:=p9 (s'::r);have e1:(s::s'::r).dropLast=s::(s'::r).dropLast:=rfl;have e2:(s::s'::r).tail.map stV=stV s'::(s'::r).tail.map stV:=rfl;have e3:mtF (.tup [stV s,stV s'])=mtg s s':=rfl;rw[e1,e2,Jb,d6,JF,e3];unfold mts;by_cases q:mtg s s'=true
  ·rw[IZ q,IZ q,Jb,Jb,ih];rfl
  ·rw[IX q,IX q,ih]
theorem wW:∀{l m:List PV} {z:PV},z∈d6 l m->∃x∈l,∃y∈m,z=.tup [x,y]:=fun {l m z} h=>by
 obtain⟨i,hi⟩:=List.getElem?_of_mem h;obtain⟨x,y,h1,h2,e⟩:=fW hi;exact⟨x,Ja h1,y,Ja h2,e⟩
theorem eC(h:∀R:TS',R=tb->k9 c R D σ H):k9 c tb D σ H:=h tb rfl
theorem yp{tb:TS'}{Pv:Nat->St'->PHp->Prop}(h:∀(N bk:St'->PHp->Prop),(∀σ' H',(∃m',m'<m/\Pv m' σ' H')->N σ' H')->tb { nx:=N,rt:=rt,bk:=bk,ct:=N } σ H1) :
  ∃N:St'->PHp->Prop,(∀σ' H',N σ' H'->∃m',m'<m/\Pv m' σ' H')/\tb { nx:=N,rt:=rt,bk:=bk,ct:=N } σ H1:=⟨fun σ' H'=>∃m',m'<m/\Pv m' σ' H',fun _ _ h=>h,h _ _ fun _ _ h=>h⟩
theorem qq{L:List Sd}:(L.map sdV).all (flat 8)=true:=by
 rw[JO];intro z hz;obtain⟨p,_,rfl⟩:=IF.mp hz;rfl
theorem tZ{L:List Sd}:((L.map sdV).any fun z=>deq z (.tup [.int n,.bl b]))=decide ((n,b)∈L):=by
 rw[Kg,KI,JB];constructor
 ·rintro⟨z,hz,e⟩;obtain⟨p,hp,rfl⟩:=IF.mp hz;simp only[sdV,deq,eZ,Bool.and_true,Ku,Kk]at e;obtain⟨p1,p2⟩:=p;simp only at e;rw[←e.1,← e.2];exact hp
 ·intro h;exact⟨_,IF.mpr ⟨_,h,rfl⟩,by simp[sdV,deq,eZ]⟩
structure LI (ts bs:List P2) (G A O:List Int) (W L:List Sd):Prop where
 nd:L.Nodup
 rl:∀s∈L,RSG ts bs G A O s.1 s.2
 rw:∀s∈W,RSG ts bs G A O s.1 s.2
 st:∀x∈O,(x,false)∈L∨(x,false)∈W
 sh:∀s∈L,∀z∈bes ts bs G A s,z∈L∨z∈W
theorem LI.iff(h:LI ts bs G A O [] L)(s:Sd):s∈L↔RSG ts bs G A O s.1 s.2:=by
 refine⟨h.rl s,fun r=>?_⟩;have:=p8 (L:=L) (fun x hx=>(h.st x hx).resolve_right (by simp)) (fun s hs z hz=>(h.sh s hs z hz).resolve_right (by simp)) r;exact this
theorem LI.old(h:LI ts bs G A O (W++[s]) L)(hs:s∈L):LI ts bs G A O W L:=by
 have go:∀z,z∈L∨z∈W++[s]->z∈L∨z∈W:=fun z hz=>by
  rcases hz with q | q
  ·exact .inl q
  ·rcases IU.mp q with q | q
   ·exact .inr q
   ·rw[IW.mp q];exact .inl hs
 exact⟨h.nd,h.rl,fun z hz=>h.rw z (Jh _ hz),fun x hx=>go _ (h.st x hx),fun z hz y hy=>go _ (h.sh z hz y hy)⟩
theorem LI.new(h:LI ts bs G A O (W++[s]) L)(hs:s∉L):LI ts bs G A O (W++bes ts bs G A s) (L++[s]):=by
 have go:∀z,z∈L∨z∈W++[s]->z∈L++[s]∨z∈W++bes ts bs G A s:=fun z hz=>by
  rcases hz with q | q
  ·exact .inl (Jh _ q)
  ·rcases IU.mp q with q | q
   ·exact .inr (Jh _ q)
   ·exact .inl (Jd _ q)
 have rs:RSG ts bs G A O s.1 s.2:=h.rw s (by simp);refine⟨Jz.mpr ⟨h.nd,by simp,fun x hx y hy e=>hs (by rw[IW.mp hy]at e;rw[←e];exact hx)⟩,fun z hz=>?_,fun z hz=>?_,fun x hx=>go _ (h.st x hx),fun z hz y hy=>?_⟩
 ·rcases IU.mp hz with q | q
  ·exact h.rl z q
  ·rw[IW.mp q];exact rs
 ·rcases IU.mp hz with q | q
  ·exact h.rw z (Jh _ q)
  ·exact t8 rs q
 ·rcases IU.mp hz with q | q
  ·exact go _ (h.sh z q y hy)
  ·rw[IW.mp q]at hy;exact .inr (Jd _ hy)
theorem d0(I:Nat->St'->PHp->Prop)
  (hs:∀(i:Nat) (x:PV) (σ:St') (H:PHp) (R:St'->PHp->Prop),xs[i]?=some x->I i σ H->(∀σ' H',I (i+1) σ' H'->R σ' H') ->
   ok H/\g x σ H fun σ3 H2=>tt σ3 H2 fun b H3=>cif b (te σ3 H3 fun y H4=>∃l',H4 acc=some (.lst l')/\l'.length<sizeLine/\R σ3 (put H4 acc (.lst (l'++[y])))) (R σ3 H3))
  (hq:∀σ H,I xs.length σ H->ok H/\Q (.ref acc) H) {σ:St'} {H:PHp} (h0:I 0 σ H):cz ok g tt te acc Q xs σ H:=by
 have key:∀(r d:List PV) (σ:St') (H:PHp),xs=d++r->I d.length σ H->cz ok g tt te acc Q r σ H:=by
  intro r
  induction r with
  | nil =>
   intro d σ H e hv;rw[Ji]at e;subst e;exact hq σ H hv
  | cons x r ih =>
   intro d σ H e hv;refine hs d.length x σ H _ (by rw[e];simp) hv fun σ' H' h'=>?_;exact ih (d++[x]) σ' H' (by rw[e];simp) (by rw[II];exact h')
 exact key xs [] σ H rfl h0
def c9(t:Ad):Sp':=fun vs H Q _=>match vs with
 | [.ref x,.ref a]=>∃c ts bs,∃Ls:List (List Int),Dr t H x c ts bs/\H a=some (.lst (Ls.map tupI))/\(∀L∈Ls,Nms c L)/\Q .non H
 | _=>False
def cF:Sp':=fun vs H Q _=>match vs with
 | [.ref a]=>∃Ls:List (List Int),H a=some (.lst (Ls.map tupI))/\(∀L∈Ls,∀x∈L,0≤x/\x<6)/\Ls.flatten.Nodup/\Q .non H
 | _=>False
structure Ap (c:Int) (A B G:List Int):Prop where
 a:Nms c A
 b:Nms c B
 g:Nms c G
 nd:(A++(B++(G++[]))).Nodup
 na:A≠[]
 nb:B≠[]
theorem Ap.ab(h:Ap c A B G):∀x∈A,x∉B:=fun x hx hb=>(Jz.mp h.nd).2.2 x hx x (Jh _ hb) rfl
theorem Ap.ag(h:Ap c A B G):∀x∈A,x∉G:=fun x hx hb=>(Jz.mp h.nd).2.2 x hx x (Jd _ (Jh _ hb)) rfl
def dA(t:Ad):Sp':=fun vs H Q _=>match vs with
 | [.ref x,.tup l,.tup m,.tup n]=>∃c ts bs,∃A B G:List Int,Dr t H x c ts bs/\c≤6/\l=A.map PV.int/\m=B.map PV.int/\n=G.map PV.int/\Ap c A B G/\Q .non H
 | _=>False
def kH:Sp':=fun vs H Q _=>match vs with
 | [.tup [_,.str k,_]]=>Q (.bl (!(k=="up"))) H
 | _=>False
theorem EX:kH [.tup [x,.str k,y]] H Q E=Q (.bl (!(k=="up"))) H:=rfl
def kK:Sp':=fun vs H Q _=>match vs with
 | [.tup [_,.str k,_]]=>Q (.bl (!(k=="down"))) H
 | _=>False
theorem DD:kK [.tup [x,.str k,y]] H Q E=Q (.bl (!(k=="down"))) H:=rfl
def iB:Sp':=fun vs H Q _=>match vs with
 | [x,y]=>∃s s':Sp3,x=stV s/\y=stV s'/\Q (.bl (mtg s s')) H
 | _=>False
def eP:Sp':=fun vs H Q _=>match vs with
 | [x,y,.tup l,.tup m]=>∃s s':Sp3,∃G A:List Int,x=stV s/\y=stV s'/\l=G.map PV.int/\m=A.map PV.int/\Q (.bl (psd G A s s')) H
 | _=>False
def gx(t:Ad):Sp':=fun vs H Q _=>match vs with
 | [.ref x,.int n]=>∃c ts bs,Dr t H x c ts bs/\OkD c ts bs/\(0≤n/\n<c)/\∀r H1,H r=none->U.Sub H H1->H1 r=some (.lst ((stp ts bs n).map stV))->Q (.ref r) H1
 | _=>False
def fO:Sp':=fun vs H Q _=>match vs with
 | [.ref a]=>∃road:List Sp3,H a=some (.lst (road.map stV))/\road≠[]/\road.length≤100/\∀r H1,H r=none->U.Sub H H1->H1 r=some (.lst ((My.nm road).map PV.int))->Q (.ref r) H1
 | _=>False
def fN:Sp':=fun vs H Q _=>match vs with
 | [.ref a]=>∃road:List Sp3,H a=some (.lst (road.map stV))/\road.length≤100/\∀r H1,H r=none->U.Sub H H1->H1 r=some (.lst ((mts road).map PV.int))->Q (.ref r) H1
 | _=>False
def d9(t:Ad):Sp':=fun vs H Q _=>match vs with
 | [.ref x,z,.tup l,.tup m]=>∃c ts bs,∃G A:List Int,∃n p,z=sdV (n,p)/\Dr t H x c ts bs/\OkD c ts bs/\(0≤n/\n<c)/\l=G.map PV.int/\m=A.map PV.int/\∀r H1,H r=none->U.Sub H H1->H1 r=some (.lst ((bes ts bs G A (n,p)).map sdV))->Q (.ref r) H1
 | _=>False
structure An (ts:List P2) (G A:List Int):Prop where
 up:A.Pairwise (·<·)
 iff:∀y,y∈A↔My.Reach (ts.map swp) G y
theorem An.one(h:An ts G A)(g:An ts G A'):A=A':=My.jy h.up g.up fun y=>(h.iff y).trans (g.iff y).symm
theorem An.shut(h:An ts G A):∀a b,(a,b)∈ts->b∈A->a∈A:=fun a b e hb=>(h.iff a).mpr (.step ((h.iff b).mp hb) (IF.mpr ⟨_,e,rfl⟩))
def fT(t:Ad):Sp':=fun vs H Q _=>match vs with
 | [.ref x,.tup l,.tup m]=>∃c ts bs,∃O G:List Int,Dr t H x c ts bs/\OkD c ts bs/\l=O.map PV.int/\m=G.map PV.int/\Nms c O/\Nms c G /\
  ∀r H1 A,∀L:List Sd,H r=none->U.Sub H H1->An ts G A->H1 r=some (.lst (L.map sdV))->L.Nodup->(∀s:Sd,s∈L↔RSG ts bs G A O s.1 s.2)->Q (.ref r) H1
 | _=>False
def je(ts bs:List P2)(ns:List Int):List (List Sp3):=ns.flatMap fun n=>(stp ts bs n).map fun s=>[s]
def lsS(r:List Sp3):Sp3:=r.getLastD (0,("":Str),0)
def il(ts bs:List P2)(G A:List Int)(r:List Sp3):List (List Sp3):=((stp ts bs (lsS r).2.2).filter fun s=>!decide (s.2.2∈My.nm r)&&psd G A (lsS r) s).map fun s=>r++[s]
abbrev rdV(rs:List (List Sp3)):List (List PV):=rs.map fun r=>r.map stV
theorem dX:lsS (p++[e])=e:=by unfold lsS;simp
theorem qr{r:List Sp3}(h:r≠[]):∃l,My.nm r=l++[(lsS r).2.2]:=by
 rcases JY r with rfl |⟨p,e,rfl⟩
 ·exact absurd rfl h
 ·rw[JZ,dX];cases p with
  | nil=>exact⟨[e.1],rfl⟩
  | cons a p=>exact⟨a.1::(a::p).map (·.2.2),by show a.1::List.map _ (a::(p++[e]))=_;simp⟩
theorem DA{r:List Sp3}(h:r≠[]):atI ((My.nm r).map PV.int) (-1)=some (.int (lsS r).2.2):=by
 obtain⟨l,e⟩:=qr h;rw[e,IP];exact jA
theorem uB(h:r≠[]):atI (r.map stV) (-1)=some (stV (lsS r)):=by
 rcases JY r with rfl |⟨p,e,rfl⟩
 ·exact absurd rfl h
 ·rw[JZ,dX,IP];exact jA
theorem qz(ok:OkD c ts bs){G A:List Int}(r:List Sp3):(il ts bs G A r).length≤18:=by
 unfold il;rw[kb];exact Jl (JD _ _) (iK ok.gt ok.gb ok.c6 _)
def fQ(t:Ad):Sp':=fun vs H Q _=>match vs with
 | [.ref x,.tup l]=>∃c ts bs,∃O:List Int,Dr t H x c ts bs/\OkD c ts bs/\l=O.map PV.int/\Nms c O/\∀r H1 us,H r=none->U.Sub H H1->H1 r=some (.lst us)->bb H1 r us (rdV (je ts bs O))->Frs H us->Q (.ref r) H1
 | _=>False
def eI(t:Ad):Sp':=fun vs H Q _=>match vs with
 | [.ref x,.ref a,.tup l]=>∃c ts bs,∃G:List Int,∃us,∃rs:List (List Sp3),Dr t H x c ts bs/\OkD c ts bs/\l=G.map PV.int/\Nms c G/\H a=some (.lst us)/\bb H a us (rdV rs)/\rs.length*18≤sizeLine/\(∀r∈rs,r≠[]/\r.length≤100/\0≤(lsS r).2.2/\(lsS r).2.2<c) /\
  ∀r H1 ws A,H r=none->U.Sub H H1->An ts G A->H1 r=some (.lst ws)->bb H1 r ws (rdV (rs.flatMap (il ts bs G A)))->Frs H ws->Q (.ref r) H1
 | _=>False
structure Opn (ts bs:List P2) (G A O:List Int) (r:List Sp3):Prop where
 rd:RdG ts bs G A O r
 nd:(My.nm r).Nodup
theorem yZ(ok:OkD c ts bs){r:List Sp3}(h:∀s∈r,EdG ts bs s):∀x∈My.nm r,0≤x/\x<c:=by
 cases r with
 | nil=>intro x hx;cases hx
 | cons s r =>
  intro x hx;rcases IY.mp hx with rfl | hx
  ·exact(uw ok.gt ok.gb (h s IK)).1
  ·obtain⟨z,hz,rfl⟩:=IF.mp hx;exact(uw ok.gt ok.gb (h z hz)).2
theorem B2{r:List Sp3}(h:r≠[]):(My.nm r).length=r.length+1:=by
 cases r with
 | nil=>exact absurd rfl h
 | cons s r=>simp[My.nm]
theorem Opn.ne(h:Opn ts bs G A O r):r≠[]:=fun e=>by
 obtain⟨s,hs,_⟩:=h.rd.hd;subst e;cases hs
theorem Opn.len(h:Opn ts bs G A O r)(ok:OkD c ts bs):r.length≤5:=by
 have h1:=My.bI 6 _ h.nd fun x hx=>by have:=yZ ok h.rd.ed x hx;have:=ok.c6;omega
 rw[B2 h.ne]at h1;omega
structure RdK (ts bs:List P2) (G A O:List Int) (tg:List Sp3) (k:Nat) (rs:List (List Sp3)):Prop where
 ok:∀r∈rs,Opn ts bs G A O r
 k1:1≤k/\k≤tg.length
 le:rs.length≤6*18 ^ k
 tg:tg.take k∈rs
theorem i8(h:Opn ts bs G A O (p++q))(ne:p≠[]):Opn ts bs G A O p:=by
 refine⟨⟨?_,fun s hs=>h.rd.ed s (Jh _ hs),(My.bP.mp h.rd.ch).1⟩,?_⟩
 ·obtain⟨s,hs,ho⟩:=h.rd.hd;refine⟨s,?_,ho⟩;cases p with
  | nil=>exact absurd rfl ne
  | cons a p=>simpa using hs
 ·have:=h.nd;cases p with
  | nil=>exact absurd rfl ne
  | cons a p =>
   have e:My.nm (a::p++q)=My.nm (a::p)++q.map (·.2.2):=by simp[My.nm]
   rw[e]at this;exact(Jz.mp this).1
theorem mT:Opn ts bs G A O (r++[s])/\r≠[]↔(Opn ts bs G A O r/\s∈stp ts bs (lsS r).2.2/\s.2.2∉My.nm r/\psd G A (lsS r) s=true):=by
 have enm:r≠[]->My.nm (r++[s])=My.nm r++[s.2.2]:=fun ne=>by
  cases r with
  | nil=>exact absurd rfl ne
  | cons a p=>simp[My.nm]
 constructor
 ·rintro⟨h,ne⟩;have nd:=h.nd;rw[enm ne]at nd;have nd2:=Jz.mp nd;have c:=(My.bP.mp h.rd.ch).2.2;have hl:lsS r∈r.getLast?:=by
   rcases JY r with rfl |⟨p,e,rfl⟩
   ·exact absurd rfl ne
   ·rw[JZ,dX];simp
  have lk:=qu.mp (c _ hl s rfl);exact⟨i8 h ne,iI.mpr ⟨lk.1.symm,h.rd.ed s (by simp)⟩,fun hm=>nd2.2.2 _ hm _ (by simp) rfl,lk.2⟩
 ·rintro⟨h,hs,hn,hp⟩;have ne:=h.ne;obtain⟨hs1,hs2⟩:=iI.mp hs;refine⟨⟨⟨?_,fun z hz=>?_,My.bP.mpr ⟨h.rd.ch,trivial,fun a ha b hb=>?_⟩⟩,?_⟩,ne⟩
  ·obtain⟨z,hz,ho⟩:=h.rd.hd;refine⟨z,?_,ho⟩;cases r with
   | nil=>exact absurd rfl ne
   | cons a p=>simpa using hz
  ·rcases IU.mp hz with q | q
   ·exact h.rd.ed z q
   ·rw[IW.mp q];exact hs2
  ·have eb:b=s:=by simpa using hb.symm
   have ea:a=lsS r:=by
    rcases JY r with rfl |⟨p,e,rfl⟩
    ·exact absurd rfl ne
    ·rw[JZ]at ha ⊢;rw[dX];simpa using ha.symm
   subst eb;subst ea;exact qu.mpr ⟨hs1.symm,hp⟩
  ·rw[enm ne];refine Jz.mpr ⟨h.nd,by simp,fun x hx y hy e=>?_⟩;rw[IW]at hy;exact hn (by rw[←hy,← e];exact hx)
theorem pe(lt:∀p∈ts,p.1<p.2)(lb:∀p∈bs,p.1<p.2):Opn ts bs G A O [s]↔s.1∈O/\EdG ts bs s:=by
 constructor
 ·intro h;obtain⟨z,hz,ho⟩:=h.rd.hd;have:z=s:=by simpa using hz.symm
  subst this;exact⟨ho,h.rd.ed z (by simp)⟩
 ·rintro⟨ho,he⟩;refine⟨⟨⟨s,rfl,ho⟩,fun z hz=>by rw[IW.mp hz];exact he,trivial⟩,?_⟩;have ne:s.1≠s.2.2:=by
   rcases he with⟨_,e⟩ |⟨_,e⟩ |⟨_,e | e⟩
   ·have:=lt _ e;simp only at this;omega
   ·have:=lt _ e;simp only at this;omega
   ·have:=lb _ e;simp only at this;omega
   ·have:=lb _ e;simp only at this;omega
  simp[My.nm,ne]
theorem xN(ok:OkD c ts bs)(hO:Nms c O){tg:List Sp3}(ht:Opn ts bs G A O tg):RdK ts bs G A O tg 1 (je ts bs O):=by
 have lt:∀p∈ts,p.1<p.2:=fun p hp=>(ok.gt.lo p hp).2.1;have lb:∀p∈bs,p.1<p.2:=fun p hp=>(ok.gb.lo p hp).2.1;refine⟨fun r hr=>?_,⟨IS _,?_⟩,?_,?_⟩
 ·unfold je at hr;obtain⟨n,hn,hr⟩:=KU.mp hr;obtain⟨s,hs,rfl⟩:=IF.mp hr;have:=iI.mp hs;exact(pe lt lb).mpr ⟨by rw[this.1];exact hn,this.2⟩
 ·have:=ht.ne;cases tg with
  | nil=>exact absurd rfl this
  | cons _ _=>simp
 ·have h1:(je ts bs O).length≤O.length*18:=My.dk fun n _=>by rw[kb];exact iK ok.gt ok.gb ok.c6 n
  have:=hO.len ok.c6;omega
 ·cases tg with
  | nil=>exact absurd rfl ht.ne
  | cons s t =>
   have h1:Opn ts bs G A O ([s]++t):=ht;have h2:=(pe lt lb).mp (i8 h1 (by simp));unfold je;exact KU.mpr ⟨s.1,h2.1,IF.mpr ⟨s,iI.mpr ⟨rfl,h2.2⟩,rfl⟩⟩
theorem vx(ok:OkD c ts bs){tg:List Sp3}(ht:Opn ts bs G A O tg){k:Nat}{rs:List (List Sp3)}(h:RdK ts bs G A O tg k rs)(hk:k<tg.length):RdK ts bs G A O tg (k+1) (rs.flatMap (il ts bs G A)):=by
 refine⟨fun r hr=>?_,⟨by omega,hk⟩,?_,?_⟩
 ·obtain⟨r0,h0,hr⟩:=KU.mp hr;obtain⟨s,hs,rfl⟩:=IF.mp hr;obtain⟨h1,h2⟩:=Jm.mp hs;simp only[Ku,Bool.not_eq_true',decide_eq_false_iff_not]at h2;exact(mT.mpr ⟨h.ok r0 h0,h1,h2.1,h2.2⟩).1
 ·have h1:(rs.flatMap (il ts bs G A)).length≤rs.length*18:=My.dk fun r _=>qz ok r;have:=h.le;rw[Nat.pow_succ];omega
 ·have e:tg.take (k+1)=tg.take k++[tg[k]]:=by rw[Ke,ID hk];rfl
  have h1:Opn ts bs G A O (tg.take k++[tg[k]]++tg.drop (k+1)):=by rw[←e,List.take_append_drop];exact ht
  have h2:=i8 h1 (fun z=>by cases (List.append_eq_nil_iff.mp z).2);have ne:tg.take k≠[]:=(h.ok _ h.tg).ne;obtain⟨_,a1,a2,a3⟩:=mT.mp ⟨h2,ne⟩;rw[e];exact KU.mpr ⟨_,h.tg,IF.mpr ⟨_,Jm.mpr ⟨a1,by simp[a2,a3]⟩,rfl⟩⟩
def i7(H:PHp)(B:List Int)(y:PV):Bool:=match y with
 | .ref r=>(match H r with
  | some (.lst l)=>(match atI l (-1)with
   | some (.tup [_,_,.int b])=>decide (b∈B)
   | _=>false)
  | _=>false)
 | _=>false
theorem jg(h:H r=some (.lst (road.map stV)))(ne:road≠[]):i7 H B (.ref r)=decide ((lsS road).2.2∈B):=by
 unfold i7;dsimp only;rw[h];dsimp only;rw[uB ne];rfl
theorem bb.mem(h:bb H q vs ls)(hv:v∈vs):∃l r,l∈ls/\v=.ref r/\r≠q/\H r=some (.lst l):=by
 obtain⟨i,hi⟩:=List.getElem?_of_mem hv;obtain⟨l,r,h1,h2⟩:=h.at hi;exact⟨l,r,Ja h1,h2⟩
theorem bb.of(h:bb H q vs ls)(hl:l∈ls):∃r,PV.ref r∈vs/\H r=some (.lst l):=by
 unfold bb at h
 induction h with
 | nil=>cases hl
 | cons a _ ih =>
  rcases IY.mp hl with rfl | hl
  ·obtain⟨r,e,_,hr⟩:=a;exact⟨r,by rw[e];exact IK,hr⟩
  ·obtain⟨r,h1,h2⟩:=ih hl;exact⟨r,IJ _ h1,h2⟩
def gm(t:Ad):Sp':=fun vs H Q _=>match vs with
 | [.ref x,.tup l,.tup m,.tup n]=>∃c ts bs,∃O B G A:List Int,Dr t H x c ts bs/\OkD c ts bs/\l=O.map PV.int/\m=B.map PV.int/\n=G.map PV.int/\Nms c O/\Nms c G/\An ts G A/\(∃r,Opn ts bs G A O r/\(lsS r).2.2∈B) /\
  ∀r H1 road,H r=none->U.Sub H H1->H1 r=some (.lst (road.map stV))->Opn ts bs G A O road->(lsS road).2.2∈B->road.length≤5->Q (.ref r) H1
 | _=>False
structure Wy (ts:List P2) (G:List Int) (m:Int) (w:List Int):Prop where
 hd:w.head?=some m
 ch:My.Chn (fun a b=>(a,b)∈ts) w
 lo:∀x∈w.dropLast,x∉G
 la:∃e∈w.getLast?,e∈G
def lsI(w:List Int):Int:=w.getLastD 0
theorem ma:lsI (p++[e])=e:=by unfold lsI;simp
theorem u6{w:List Int}(h:w≠[]):atI (w.map PV.int) (-1)=some (.int (lsI w)):=by
 rcases JY w with rfl |⟨p,e,rfl⟩
 ·exact absurd rfl h
 ·rw[JZ,ma,IP];exact jA
theorem nv{w:List Int}(h:w≠[]):w.getLast?=some (lsI w)/\w=w.dropLast++[lsI w]:=by
 rcases JY w with rfl |⟨p,e,rfl⟩
 ·exact absurd rfl h
 ·rw[JZ,ma];simp
def i3(H:PHp)(G:List Int)(y:PV):Bool:=match y with
 | .ref r=>(match H r with
  | some (.lst l)=>(match atI l (-1)with
   | some (.int b)=>decide (b∈G)
   | _=>false)
  | _=>false)
 | _=>false
theorem i4{w:List Int}(h:H r=some (.lst (w.map PV.int)))(ne:w≠[]):i3 H G (.ref r)=decide (lsI w∈G):=by
 unfold i3;dsimp only;rw[h];dsimp only;rw[u6 ne]
def nP(ts:List P2)(w:List Int):List (List Int):=(fol ts (lsI w)).map fun n=>w++[n]
structure WyO (ts:List P2) (G:List Int) (m:Int) (w:List Int):Prop where
 hd:w.head?=some m
 ch:My.Chn (fun a b=>(a,b)∈ts) w
 lo:∀x∈w.dropLast,x∉G
theorem WyO.ne{w:List Int}(h:WyO ts G m w):w≠[]:=fun e=>by have:=h.hd;rw[e]at this;cases this
structure WyK (ts:List P2) (G:List Int) (m:Int) (tg:List Int) (k:Nat) (ws:List (List Int)):Prop where
 ok:∀w∈ws,WyO ts G m w
 k1:1≤k/\k≤tg.length
 le:ws.length≤6 ^ k
 tg:tg.take k∈ws
theorem sL(ok:OkD c ts bs){G:List Int}{m:Int}{tg:List Int}(ht:My.Chn (fun a b=>(a,b)∈ts) tg){k:Nat}{ws:List (List Int)}(h:WyK ts G m tg k ws)(hk:k<tg.length)(no:∀w∈ws,lsI w∉G):WyK ts G m tg (k+1) (ws.flatMap (nP ts)):=by
 refine⟨fun w hw=>?_,⟨by omega,hk⟩,?_,?_⟩
 ·obtain⟨w0,h0,hw⟩:=KU.mp hw;obtain⟨n,hn,rfl⟩:=IF.mp hw;have o:=h.ok w0 h0;obtain⟨l1,l2⟩:=nv o.ne;refine⟨?_,My.bP.mpr ⟨o.ch,trivial,fun a ha b hb=>?_⟩,fun x hx=>?_⟩
  ·have:=o.hd;cases w0 with
   | nil=>cases this
   | cons a w0=>simpa using this
  ·rw[l1]at ha;have ea:lsI w0=a:=Js ha;have eb:n=b:=by simpa using hb
   rw[←ea,← eb];exact dw.mp hn
  ·have e:(w0++[n]).dropLast=w0:=by simp
   rw[e,l2]at hx;rcases IU.mp hx with q | q
   ·exact o.lo x q
   ·rw[IW.mp q];exact no w0 h0
 ·have h1:(ws.flatMap (nP ts)).length≤ws.length*6:=My.dk fun w _=>by unfold nP;rw[kb];exact cp ok.gt ok.c6 _
  have:=h.le;rw[Nat.pow_succ];omega
 ·have e:tg.take (k+1)=tg.take k++[tg[k]]:=by rw[Ke,ID hk];rfl
  have o:=h.ok _ h.tg;obtain⟨l1,l2⟩:=nv o.ne;have c1:My.Chn (fun a b=>(a,b)∈ts) (tg.take k++[tg[k]]++tg.drop (k+1)):=by rw[←e,List.take_append_drop];exact ht
  have c2:=(My.bP.mp (My.bP.mp c1).1).2.2 _ l1 _ rfl;rw[e];exact KU.mpr ⟨_,h.tg,IF.mpr ⟨_,dw.mpr c2,rfl⟩⟩
theorem j6{ts:List P2}{G:List Int}:∀{w:List Int},My.Chn (fun a b=>(a,b)∈ts) w->(∃e∈w.getLast?,e∈G)->∀x∈w,My.Reach (ts.map swp) G x
 | [],_,_,x,hx=>by cases hx
 | [a],_,⟨e,he,hg⟩,x,hx=>by
  have:a=e:=by simpa using he
  rw[IW.mp hx,this];exact .base hg
 | a::b::w,c,⟨e,he,hg⟩,x,hx=>by
  have ih:=j6 (w:=b::w) c.2 ⟨e,by rw[JS]at he;exact he,hg⟩;rcases IY.mp hx with rfl | hx
  ·exact .step (ih b IK) (IF.mpr ⟨_,c.1,rfl⟩)
  ·exact ih x hx
theorem An.lo(h:An ts G A)(g:Good c ts)(hG:Nms c G):∀x∈A,0≤x/\x<c:=fun x hx=>by
 cases (h.iff x).mp hx with
 | base h=>exact hG.lo x h
 | step _ e =>
  obtain⟨p,hp,ep⟩:=IF.mp e;have:=g.lo p hp;unfold swp at ep;cases ep;omega
theorem sk{c:Int}{ts:List P2}(g:Good c ts):∀{w:List Int},My.Chn (fun a b=>(a,b)∈ts) w->(∀m∈w.head?,0≤m/\m<c)->∀x∈w,0≤x/\x<c
 | [],_,_,x,hx=>by cases hx
 | [a],_,hm,x,hx=>by rw[IW.mp hx];exact hm a rfl
 | a::b::w,ch,hm,x,hx=>by
  rcases IY.mp hx with rfl | hx
  ·exact hm _ rfl
  ·refine sk g (w:=b::w) ch.2 (fun m hm=>?_) x hx;have e:b=m:=by simpa using hm
   have:=g.lo _ ch.1;simp only at this;omega
theorem pO(ok:OkD c ts bs){G:List Int}(hG:Nms c G){w:List Int}(h:My.Chn (fun a b=>(a,b)∈ts) w)(hl:∃e∈w.getLast?,e∈G):w.length≤6:=by
 have up:=My.nY (fun a b e=>(ok.gt.lo _ e).2.1) h;refine My.bI 6 _ (up.imp fun h=>by omega) fun x hx=>?_;have:=ok.c6;cases j6 h hl x hx with
 | base h=>have:=hG.lo x h;omega
 | step _ e =>
  obtain⟨p,hp,ep⟩:=IF.mp e;have:=ok.gt.lo p hp;unfold swp at ep;cases ep;omega
def kO(t:Ad):Sp':=fun vs H Q _=>match vs with
 | [.ref x,.int m,.tup l]=>∃c ts bs,∃G A:List Int,Dr t H x c ts bs/\OkD c ts bs/\l=G.map PV.int/\Nms c G/\An ts G A/\m∈A/\∀r H1,∀w:List Int,H r=none->U.Sub H H1->H1 r=some (.lst (w.map PV.int))->Wy ts G m w->w.length≤6->Q (.ref r) H1
 | _=>False
abbrev inV(ws:List (List Int)):List (List PV):=ws.map fun w=>w.map PV.int
def iH(t:Ad):Sp':=fun vs H Q _=>match vs with
 | [.ref x,.ref a,.tup l]=>∃c ts bs,∃G A:List Int,∃road:List Sp3,Dr t H x c ts bs/\OkD c ts bs/\l=G.map PV.int/\Nms c G/\An ts G A/\H a=some (.lst (road.map stV))/\road.length≤100/\(∀m∈mts road,m∈A) /\
  ∀r H1 us,∀ws:List (List Int),H r=none->U.Sub H H1->H1 r=some (.lst us)->bb H1 r us (inV ws)->Frs H us->Paired (Wy ts G) (mts road) ws->(∀w∈ws,w.length≤6)->Q (.ref r) H1
 | _=>False
structure Tld (ts bs:List P2) (O B G:List Int) (L:List Sd) (A:List Int):Prop where
 an:An ts G A
 nd:L.Nodup
 iff:∀s:Sd,s∈L↔RSG ts bs G A O s.1 s.2
 no:∀s∈L,s.1∉B
structure Rod (ts bs:List P2) (O B G:List Int) (road:List Sp3) (ws:List (List Int)) (A:List Int):Prop where
 an:An ts G A
 op:Opn ts bs G A O road
 la:(lsS road).2.2∈B
 l5:road.length≤5
 wy:Paired (Wy ts G) (mts road) ws
 w6:∀w∈ws,w.length≤6
 ex:∃x p,RSG ts bs G A O x p/\x∈B
theorem ot{G A:List Int}:∀{r:List Sp3},My.Chn (LnG G A) r->∀m∈mts r,m∈A
 | [],_,m,hm=>by cases hm
 | [_],_,m,hm=>by cases hm
 | s::s'::r,h,m,hm=>by
  unfold mts at hm;split at hm
  ·rename_i q;rcases IY.mp hm with rfl | hm
   ·have:=gr.mp q;exact h.1.mt this.1 this.2
   ·exact ot h.2 m hm
  ·exact ot h.2 m hm
theorem pj:∀(r:List Sp3),(mts r).length≤r.length
 | []=>by simp[mts]
 | [_]=>by simp[mts]
 | s::s'::r=>by
  have ih:=pj (s'::r);unfold mts;split<;>simp at ih ⊢<;>omega
theorem v9(ap:Ap c O B G)(an:An ts G A){x:Int}{p:Bool}(h:RSG ts bs G A O x p)(hx:x∈B):∃r,Opn ts bs G A O r/\(lsS r).2.2∈B:=by
 obtain⟨r,rd,⟨e,he,hb⟩,nd⟩:=My.vM sE (fun a b e hb=>an.shut a b (by
  rcases e with⟨_,e⟩ |⟨z,_⟩ |⟨z,_⟩
  ·exact e
  ·exact absurd z sE
  ·exact absurd (show("down":Str)="bow" from z) (by decide)) hb) ap.ab ap.ag h hx
 have op:Opn ts bs G A O r:=⟨rd,nd⟩;refine⟨r,op,?_⟩;rcases JY r with rfl |⟨q,z,rfl⟩
 ·exact absurd rfl op.ne
 ·rw[JZ]at he ⊢;rw[dX];have:z=e:=by simpa using he
  rw[this];exact hb
def EM(B:List Int)(y:PV):PV:=match y with | .tup [.int n,_]=>.bl (decide (n∈B)) | _=>.non
theorem DZ{a b:Int}(h:0<b)(hb:My.BN n b):My.BN n (a.fmod b):=by
 have:=fm (a:=a) h;exact hb.of_le (by omega)
structure GL (c i j:Int) (l:List P2):Prop where
 lo:∀p∈l,0≤p.1/\p.1<p.2/\p.2<c/\(p.1<i∨(p.1=i/\p.2<j))
 st:Srt l
theorem GL.nil:GL c i j []:=⟨fun p h=>(by cases h),List.Pairwise.nil⟩
theorem GL.up(h:GL c i j l)(hj:j≤j'):GL c i j' l:=⟨fun p hp=>by have:=h.lo p hp;omega,h.st⟩
theorem GL.nx(h:GL c i j l)(j':Int):GL c (i+1) j' l:=⟨fun p hp=>by have:=h.lo p hp;omega,h.st⟩
theorem GL.app(h:GL c i j l)(h0:0≤i)(hj:i<j)(hc:j<c)(c6:c≤6):GL c i (j+1) (l++[(i,j)]):=by
 refine⟨fun p hp=>?_,List.pairwise_append.mpr ⟨h.st,Kw _ _,fun p hp q hq=>?_⟩⟩
 ·rcases IU.mp hp with q | q
  ·have:=h.lo p q;omega
  ·rw[IW]at q;subst q;exact⟨h0,hj,hc,.inr ⟨rfl,by show j<j+1;omega⟩⟩
 ·rw[IW]at hq;subst hq;have:=h.lo p hp;show 6*p.1+p.2<6*i+j;omega
theorem GL.good(h:GL c i j l):Good c l:=⟨h.st.imp fun {a b} h e=>by subst e;exact absurd h (Int.lt_irrefl _),fun p hp=>by have:=h.lo p hp;omega⟩
def oZ:Sp':=fun vs H Q _=>match vs with
 | [.int u,.int k]=>(0≤k/\k<100)/\∀n:Int,Q (.int n) H
 | _=>False
def k7:Sp':=fun vs H Q _=>match vs with
 | [.fls l,.int k,.int c]=>(0≤k/\k<60)/\(1≤c/\c≤6)/\∃ns:List Int,l=ns.map PV.int/\∀ts bs,OkD c ts bs->Q (shp c ts bs) H
 | _=>False
def gu:Sp':=fun vs H Q _=>match vs with
 | [.tup l,.tup m]=>∃c ts bs,∃G:List Int,PV.tup l=shp c ts bs/\m=G.map PV.int/\OkD c ts bs/\Nms c G/\∀r H1,∀F A:List Int,H r=none->U.Sub H H1->H1 r=some (.lst (F.map PV.int))->An ts G A->(∀y,y∈F↔y∈A)->Q (.ref r) H1
 | _=>False
def gj:Sp':=fun vs H Q _=>match vs with
 | [.tup l,u,.tup m,.ref a]=>∃c ts bs,∃G F A:List Int,∃n p,u=sdV (n,p)/\PV.tup l=shp c ts bs/\m=G.map PV.int/\OkD c ts bs/\H a=some (.lst (F.map PV.int))/\(∀y,y∈F↔y∈A)/\∀r H1,∀L:List Sd,H r=none->U.Sub H H1->H1 r=some (.lst (L.map sdV))->(∀z,z∈L↔z∈bes ts bs G A (n,p))->L.length≤60->Q (.ref r) H1
 | _=>False
def dP:Sp':=fun vs H Q _=>match vs with
 | [.tup l,.tup m,.tup n]=>∃c ts bs,∃O G:List Int,PV.tup l=shp c ts bs/\m=O.map PV.int/\n=G.map PV.int/\OkD c ts bs/\Nms c O/\Nms c G/\∀r H1 A,∀L:List Sd,U.Sub H H1->An ts G A->H1 r=some (.lst (L.map sdV))->L.length≤12->(∀s:Sd,s∈L↔RSG ts bs G A O s.1 s.2)->Q (.ref r) H1
 | _=>False
def gH:Sp':=fun vs H Q _=>match vs with
 | [.tup l,.tup m,.tup k,.tup n]=>∃c ts bs,∃O B G:List Int,PV.tup l=shp c ts bs/\m=O.map PV.int/\k=B.map PV.int/\n=G.map PV.int/\OkD c ts bs/\Nms c O/\Nms c G/\∀b A,An ts G A->(b=true↔∀x p,RSG ts bs G A O x p->x∉B)->Q (.bl b) H
 | _=>False
structure Pt (n:Nat) (c:Int) (Ls:List (List Int)):Prop where
 len:Ls.length=n
 up:∀L∈Ls,L.Pairwise (·<·)
 pm:Ls.flatten.Perm (ulN c)
theorem Pt.nms(h:Pt n c Ls):∀L∈Ls,Nms c L:=fun L hL=>⟨h.up L hL,fun x hx=>b9.mp (h.pm.mem_iff.mp (List.mem_flatten.mpr ⟨L,hL,hx⟩))⟩
def fJ:Sp':=fun vs H Q _=>match vs with
 | [.int _,.int c,.int k]=>(1≤c/\c≤6)/\(1≤k/\k≤10)/\∀r H1,∀Ls:List (List Int),H r=none->U.Sub H H1->H1 r=some (.lst (Ls.map tupI))->Pt k.toNat c Ls->Q (.ref r) H1
 | _=>False
def fG:Sp':=fun vs H Q _=>match vs with
 | [.ref a,.int j]=>∃n c,∃Ls:List (List Int),H a=some (.lst (Ls.map tupI))/\Pt n c Ls/\(1≤c/\c≤6)/\n≤10/\(0≤j/\j<n)/\∀r H1,∀Ms:List (List Int),U.Sub H H1->H1 r=some (.lst (Ms.map tupI))->Pt n c Ms->Ms[j.toNat]?≠some []->Q (.ref r) H1
 | _=>False
def br(F:List Int)(p:P2):List Int:=if p.2∈F/\p.1∉F then F++[p.1]else F
theorem B3(h:x∈F):x∈br F p:=by
 unfold br;split
 ·exact Jh _ h
 ·exact h
theorem jd:∀(l:List P2) {F:List Int} {x:Int},x∈F->x∈l.foldl br F
 | [],_,_,h=>h
 | _::l,_,_,h=>jd l (B3 h)
theorem kC:∀(l:List P2) {F:List Int} {x:Int},x∈l.foldl br F->x∈F∨∃p∈l,p.1=x
 | [],_,_,h=>.inl h
 | p::l,F,x,h=>by
  rcases kC l (F:=br F p) h with q |⟨z,hz,e⟩
  ·unfold br at q;split at q
   ·rcases IU.mp q with q | q
    ·exact .inl q
    ·exact .inr ⟨p,IK,(IW.mp q).symm⟩
   ·exact .inl q
  ·exact .inr ⟨z,IJ _ hz,e⟩
theorem iZ{E:List P2}{G:List Int}:∀(l:List P2) {F:List Int},(∀p∈l,(p.2,p.1)∈E)->(∀x∈F,My.Reach E G x)->∀x∈l.foldl br F,My.Reach E G x
 | [],_,_,h,x,hx=>h x hx
 | p::l,F,he,h,x,hx=>by
  refine iZ l (F:=br F p) (fun q hq=>he q (IJ _ hq)) (fun y hy=>?_) x hx;unfold br at hy;split at hy
  ·rename_i c;rcases IU.mp hy with q | q
   ·exact h y q
   ·rw[IW.mp q];exact .step (h _ c.1) (he p IK)
  ·exact h y hy
theorem pG:∀(l:List P2),l.Pairwise (fun x y=>ST.pk y<ST.pk x)->(∀p∈l,0≤p.1/\p.1<p.2/\p.2<6)->∀{F:List Int} {a b:Int},(a,b)∈l->b∈l.foldl br F->a∈l.foldl br F
 | [],_,_,_,_,_,h,_=>by cases h
 | p::l,hs,hl,F,a,b,h,hb=>by
  rw[Ks]at hs;rcases IY.mp h with e | h
  ·subst e;refine jd l (F:=br F (a,b)) ?_;have h0:=hl (a,b) IK;simp only at h0;have bF:b∈F:=by
    rcases kC l (F:=br F (a,b)) hb with q |⟨z,hz,e⟩
    ·unfold br at q;split at q
     ·rcases IU.mp q with q | q
      ·exact q
      ·have:=IW.mp q;simp only at this;omega
     ·exact q
    ·have h1:6*z.1+z.2<6*a+b:=hs.1 z hz;have h2:=hl z (IJ _ hz);omega
   unfold br;by_cases ha:a∈F
   ·rw[IX (fun c=>c.2 ha)];exact ha
   ·rw[IZ ⟨bF,ha⟩];simp
  ·exact pG l hs.2 (fun q hq=>hl q (IJ _ hq)) (F:=br F p) h hb
theorem Bf(ok:OkD c ts bs){G:List Int}(x:Int):x∈ts.reverse.foldl br G↔My.Reach (ts.map swp) G x:=by
 have c6:=ok.c6;constructor
 ·exact fun h=>iZ ts.reverse (E:=ts.map swp) (G:=G) (fun p hp=>IF.mpr ⟨p,List.mem_reverse.mp hp,rfl⟩) (fun y hy=>.base hy) x h
 ·intro h
  induction h with
  | base h=>exact jd _ h
  | step _ e ih =>
   obtain⟨p,hp,ep⟩:=IF.mp e;unfold swp at ep;cases ep;refine pG ts.reverse (List.pairwise_reverse.mpr ok.st) (fun q hq=>?_) (b:=p.2) (List.mem_reverse.mpr hp) ih;have:=ok.gt.lo q (List.mem_reverse.mp hq);omega
theorem CG(ok:OkD c ts bs){G F:List Int}(hG:Nms c G)(h:∀x,x∈F↔My.Reach (ts.map swp) G x):∃A,An ts G A/\∀y,y∈F↔y∈A:=by
 have lo:∀y∈F,0≤y/\y<c:=fun y hy=>by
  cases (h y).mp hy with
  | base h=>exact hG.lo y h
  | step _ e =>
   obtain⟨p,hp,ep⟩:=IF.mp e;have:=ok.gt.lo p hp;unfold swp at ep;cases ep;omega
 have iff:∀y,y∈(ulN c).filter (fun y=>decide (y∈F))↔y∈F:=fun y=>by
  rw[Jm,JB];exact⟨fun z=>z.2,fun z=>⟨b9.mpr (lo y z),z⟩⟩
 exact⟨_,⟨(jZ c).filter _,fun y=>(iff y).trans (h y)⟩,fun y=>(iff y).symm⟩
theorem tN:((ts.map prV).filter (at0 n)).map (fun y=>PV.tup [g1 y,.bl b])=((fol ts n).map fun m=>((m,b):Sd)).map sdV:=by
 have e:(fun y=>PV.tup [g1 y,.bl b])=(fun z=>PV.tup [z,.bl b]) ∘ g1:=rfl;have fl:((ts.map prV).filter (at0 n)).map g1=(fol ts n).map PV.int:=d4;rw[e,← Jj,fl,Jj,Jj];rfl
theorem vb:((ts.map prV).filter (at1 n)).map (fun y=>PV.tup [g0 y,.bl b])=((src ts n).map fun m=>((m,b):Sd)).map sdV:=by
 have e:(fun y=>PV.tup [g0 y,.bl b])=(fun z=>PV.tup [z,.bl b]) ∘ g0:=rfl;have fl:((ts.map prV).filter (at1 n)).map g0=(src ts n).map PV.int:=src_list;rw[e,← Jj,fl,Jj,Jj];rfl
theorem or4{a b y w:Prop}:(((a∨b)∨y)∨w)↔(a∨(b∨(w∨y))):=⟨by rintro(((h | h) | h) | h)<;>simp[h],by rintro(h | h | h | h)<;>simp[h]⟩
structure RI (ts bs:List P2) (G A O:List Int) (L:List Sd) (k:Nat):Prop where
 nd:L.Nodup
 rl:∀s∈L,RSG ts bs G A O s.1 s.2
 st:∀x∈O,(x,false)∈L
 sh:∀s∈L.take k,∀z∈bes ts bs G A s,z∈L
theorem RI.iff(h:RI ts bs G A O L k)(hk:L.length≤k)(s:Sd):s∈L↔RSG ts bs G A O s.1 s.2:=by
 refine⟨h.rl s,fun r=>?_⟩;have e:L.take k=L:=Ky hk;have sh:=h.sh;rw[e]at sh;exact p8 h.st sh r
def uu(O:List Int):List Sd:=O.map fun m=>((m,false):Sd)
def inB(B:List Int)(y:PV):Bool:=match y with | .tup [.int n,_]=>decide (n∈B) | _=>false
theorem Gz:flat n (.int k)=true:=by cases n<;>rfl
theorem FA:flat n (.bl k)=true:=by cases n<;>rfl
structure Rl (H:PHp) (q:Addr) (rs:List Addr) (Ls:List (List Int)):Prop where
 nd:rs.Nodup
 at':Paired (fun r (L:List Int)=>r≠q/\H r=some (.lst (L.map PV.int))) rs Ls
theorem Rl.up(h:Rl H q rs Ls)(s:U.Sub H H1):Rl H1 q rs Ls:=⟨h.nd,Paired.mapP h.at' fun _ _ y_=>by obtain⟨a,b⟩:=y_;exact ⟨a,s _ _ b⟩⟩
theorem uL{H:PHp}{q:Addr}{M:List Int}:∀{rs:List Addr} {Ls:List (List Int)} {k:Nat} (hk:k<rs.length),rs.Nodup->Paired (fun r (L:List Int)=>r≠q/\H r=some (.lst (L.map PV.int))) rs Ls->Paired (fun r (L:List Int)=>r≠q/\put H rs[k] (.lst (M.map PV.int)) r=some (.lst (L.map PV.int))) rs (Ls.set k M)
 | r::rs,L::Ls,0,hk,nd,.cons h t=>by
  rw[Kf]at nd;refine .cons ⟨h.1,ah⟩ ?_;have:∀{rs:List Addr} {Ls:List (List Int)},r∉rs->Paired (fun r (L:List Int)=>r≠q/\H r=some (.lst (L.map PV.int))) rs Ls->Paired (fun z (L:List Int)=>z≠q/\put H r (.lst (M.map PV.int)) z=some (.lst (L.map PV.int))) rs Ls:=fun {rs Ls} hn p=>by
   induction p with
   | nil=>exact .nil
   | cons a _ ih=>exact .cons ⟨a.1,(aq fun e=>hn (by rw[e];exact IK)).trans a.2⟩ (ih fun z=>hn (IJ _ z))
  exact this nd.1 t
 | r::rs,L::Ls,k+1,hk,nd,.cons h t=>by
  rw[Kf]at nd;have hk':k<rs.length:=by simpa using hk
  exact .cons ⟨h.1,(aq fun e=>nd.1 (by rw[e];exact Ju hk')).trans h.2⟩ (uL hk' nd.2 t)
theorem gv{α:Type}:∀{Ls:List (List α)} {k:Nat} (hk:k<Ls.length) (X:List α),((Ls.set k X).flatten++Ls[k]).Perm (Ls.flatten++X)
 | L::Ls,0,_,X=>by
  simp only[List.set_cons_zero,List.flatten_cons,List.getElem_cons_zero];refine(KG (l₁:=X++Ls.flatten) (l₂:=L)).trans ?_;rw[Ka];exact List.Perm.append_left L KG
 | L::Ls,k+1,hk,X=>by
  simp only[List.set_cons_succ,List.flatten_cons,List.getElem_cons_succ,Ka];exact List.Perm.append_left L (gv (by simpa using hk) X)
theorem xC:ulN ((i+1:Nat):Int)=ulN (i:Nat)++[((i:Nat):Int)]:=by
 unfold ulN;rw[Jq,Jq,List.range_succ,IP];rfl
structure PtI (n:Nat) (i:Nat) (Ls:List (List Int)):Prop where
 len:Ls.length=n
 up:∀L∈Ls,L.Pairwise (·<·)
 pm:Ls.flatten.Perm (ulN (i:Nat))
theorem PtI.next(h:PtI n i Ls)(hk:k<Ls.length):PtI n (i+1) (Ls.set k (Ls[k]++[((i:Nat):Int)])):=by
 refine⟨by rw[List.length_set];exact h.len,fun L hL=>?_,?_⟩
 ·rcases List.mem_or_eq_of_mem_set hL with q | q
  ·exact h.up L q
  ·subst q;refine List.pairwise_append.mpr ⟨h.up _ (Ju hk),Kw _ _,fun x hx y hy=>?_⟩;rw[IW]at hy;subst hy;exact(b9.mp (h.pm.mem_iff.mp (List.mem_flatten.mpr ⟨_,Ju hk,hx⟩))).2
 ·have p:=gv hk (Ls[k]++[((i:Nat):Int)]);rw[xC];have p2:((Ls.set k (Ls[k]++[((i:Nat):Int)])).flatten++Ls[k]).Perm ((Ls.flatten++[((i:Nat):Int)])++Ls[k]):=by
   refine p.trans ?_;rw[Ka];exact List.Perm.append_left _ KG
  exact((List.perm_append_right_iff _).mp p2).trans (h.pm.append_right _)
theorem o4{H:PHp}{q:Addr}:∀{rs:List Addr} {Ls:List (List Int)},Paired (fun r (L:List Int)=>r≠q/\H r=some (.lst (L.map PV.int))) rs Ls->(rs.map PV.ref).map (mn H)=Ls.map tupI
 | [],[],.nil=>rfl
 | r::rs,L::Ls,.cons h t=>by rw[Jb,Jb,Jb,o4 t,di h.2];rfl
theorem xp{α:Type}(f:α->PV)(P:List α)(e:α):cY ((P++[e]).map f) (some (-1)) none=[f e]:=by
 have h:HT.sIx ((P++[e]).map f).length 0 (some (-1))=P.length:=by
  unfold HT.sIx;rw[kb];simp;omega
 unfold cY;rw[h,HT.iY,kb,IP,List.drop_append_of_le_length (by simp)];have:(P.map f).drop P.length=[]:=List.drop_of_length_le (by simp);rw[this];simp
theorem Pt.move(h:Pt n c Ls){j pl:Nat}(hj:j<Ls.length)(hp:pl<Ls.length){P:List Int}{e:Int}(ej:Ls[j]=[])(ep:Ls[pl]=P++[e]):Pt n c ((Ls.set j [e]).set pl P)/\((Ls.set j [e]).set pl P)[j]?=some [e]:=by
 have ne:pl≠j:=fun z=>by subst z;rw[ej]at ep;simp at ep
 have hp':pl<(Ls.set j [e]).length:=by rw[List.length_set];exact hp
 have eA:(Ls.set j [e])[pl]=P++[e]:=by rw[List.getElem_set_ne ne.symm];exact ep
 refine⟨⟨by rw[List.length_set,List.length_set];exact h.len,fun L hL=>?_,?_⟩,?_⟩
 ·rcases List.mem_or_eq_of_mem_set hL with q | q
  ·rcases List.mem_or_eq_of_mem_set q with q | q
   ·exact h.up L q
   ·subst q;exact Kw _ _
  ·subst q;have:=h.up _ (Ju hp);rw[ep]at this;exact(List.pairwise_append.mp this).1
 ·have p1:=gv hj [e];rw[ej,Ji]at p1;have p2:=gv hp' P;rw[eA]at p2;have p3:(((Ls.set j [e]).set pl P).flatten++(P++[e])).Perm (Ls.flatten++(P++[e])):=by
   refine p2.trans ((p1.append_right P).trans ?_);rw[Ka];exact List.Perm.append_left _ KG
  exact((List.perm_append_right_iff _).mp p3).trans h.pm
 ·rw[List.getElem?_set_ne ne,KN hj]
theorem mB{α:Type}{k:Nat}:∀{Ls:List (List α)},(∀L∈Ls,L.length≤k)->Ls.flatten.length≤Ls.length*k
 | [],_=>by simp
 | L::Ls,h=>by
  have:=mB (k:=k) (Ls:=Ls) fun M hM=>h M (IJ _ hM);have h1:=h L IK;rw[List.flatten_cons,II,Jg,Nat.add_mul];omega
theorem m4(ns:List Int)(lo hi:Option Int):∃m:List Int,cY (ns.map PV.int) lo hi=m.map PV.int/\m.length≤ns.length:=by
 unfold cY;refine⟨_,by rw[←List.map_drop,← List.map_take],?_⟩;rw[JA,KR];omega
theorem Pt.ap(h:Pt 4 c [O,B,G,R])(no:O≠[])(nb:B≠[]):Ap c O B G:=by
 have n:=h.nms;have nd:(O++(B++(G++(R++[])))).Nodup:=h.pm.nodup_iff.mpr ((jZ c).imp fun h=>by omega);refine⟨n O (by simp),n B (by simp),n G (by simp),nd.sublist ?_,no,nb⟩;exact Ko (Ko (Ko (List.nil_sublist _) G) B) O
def rn(ts bs:List P2)(G N A B:List Int):Prop:=∀x p,RSG ts bs G N A x p->x∉B
def dQ(t:Ad):Sp':=fun vs H Q _=>match vs with
 | [.ref x,.tup l,.tup m,.tup n]=>∃c ts bs,∃A B G:List Int,Dr t H x c ts bs/\OkD c ts bs/\l=A.map PV.int/\m=B.map PV.int/\n=G.map PV.int/\Ap c A B G/\∀b v H1 N,U.Sub H H1->An ts G N->(b=true↔rn ts bs G N A B)->Q (.tup [.bl b,v]) H1
 | _=>False
def onP(f:P2->Bool)(y:PV):Bool:=match y with | .tup [.int u,.int v]=>f (u,v) | _=>false
theorem eV{p:P2}:onP f (prV p)=f p:=rfl
theorem cj{f:P2->Bool}:∀{ts:List P2},((ts.map prV).filter (onP f)).map (fun y=>y)=(ts.filter f).map prV
 | []=>rfl
 | p::ts=>by
  have ih:=cj (f:=f) (ts:=ts);rw[Jb,JF,JF,eV];by_cases h:f p=true
  ·rw[IZ h,IZ h,Jb,Jb,ih]
  ·rw[IX h,IX h,ih]
theorem bU{q:Int->Bool}:∀{l:List Int},((l.map PV.int).filter (onI q)).map (fun y=>y)=(l.filter q).map PV.int
 | []=>rfl
 | k::l=>by
  have e:onI q (PV.int k)=q k:=rfl;rw[Jb,JF,JF,e];by_cases h:q k=true
  ·rw[IZ h,IZ h,Jb,Jb,bU]
  ·rw[IX h,IX h,bU]
theorem rK{α:Type}{l:List α}:l.filter (fun _=>true)=l:=JC.mpr fun _ _=>rfl
theorem fb2{bs:List P2}:bs.filter (FB 2 L)=bs:=rK
def dR:Sp':=fun vs H Q _=>match vs with
 | [.tup l,.tup m]=>∃A B:List Int,l=A.map PV.int/\m=B.map PV.int/\A.length≤1000/\Q (.tup ((A.filter fun y=>!decide (y∈B)).map PV.int)) H
 | _=>False
def ly(t:Ad)(k:Nat):Sp':=fun vs H Q _=>match vs with
 | [.ref x,.tup l]=>∃c ts bs,∃L:List Int,Dr t H x c ts bs/\l=L.map PV.int/\OkD c ts bs/\Nms c L/\∀y H1,U.Sub H H1->Dr t H1 y c (ts.filter (FT k L)) (bs.filter (FB k L))->Q (.ref y) H1
 | _=>False
theorem DS:ly t k [.ref x,.tup l] H Q E=(∃c ts bs,∃L:List Int,Dr t H x c ts bs/\l=L.map PV.int/\OkD c ts bs/\Nms c L/\∀y H1,U.Sub H H1->Dr t H1 y c (ts.filter (FT k L)) (bs.filter (FB k L))->Q (.ref y) H1):=rfl
def gz(t:Ad):Sp':=fun vs H Q _=>match vs with
 | [.ref x,.int c,.ref a,.tup l]=>∃dx ys ps qs,H x=some (.ins t.a_A dx [])/\H a=some (.lst ys)/\l=qs.map prV/\Rows H ys ps/\Good c ps/\Good c qs/\(1≤c/\c≤6/\qs.length≤6) /\
  ∀ts bs,ts.Perm ps->Srt ts->bs.Perm qs->Srt bs->Q .non (put H x (.ins t.a_A dx (DF c ts bs)))
 | _=>False
theorem wm:gz t [.ref x,.int c,.ref a,.tup l] H Q E=∃dx ys ps qs,H x=some (.ins t.a_A dx [])/\H a=some (.lst ys)/\l=qs.map prV/\Rows H ys ps/\Good c ps/\Good c qs/\(1≤c/\c≤6/\qs.length≤6) /\
  ∀ts bs,ts.Perm ps->Srt ts->bs.Perm qs->Srt bs->Q .non (put H x (.ins t.a_A dx (DF c ts bs))):=rfl
def RDr(k:Int)(ts bs:List P2)(S V N:List Int)(us cs:List P2):Prop :=
 (k=1->us=ts.filter (FT 1 S)/\cs=bs.filter (FB 1 S)) /\
 (k=2->us=(ts.filter (FT 1 S)).filter (FT 2 N)/\cs=bs.filter (FB 1 S)) /\
 (k=3->∃A,An (ts.filter (FT 1 S)) V A/\us=(ts.filter (FT 1 S)).filter (FT 1 (N.filter fun y=>!decide (y∈A)))/\cs=(bs.filter (FB 1 S)).filter (FB 1 (N.filter fun y=>!decide (y∈A))))
theorem RDr.one{S V N:List Int}(hk:1≤k/\k≤3)(h:RDr k ts bs S V N us cs)(g:RDr k ts bs S V N us' cs'):us=us'/\cs=cs':=by
 have hk:k=1∨k=2∨k=3:=by omega
 rcases hk with rfl | rfl | rfl
 ·obtain⟨a,b⟩:=h.1 rfl;obtain⟨c,d⟩:=g.1 rfl;exact⟨a.trans c.symm,b.trans d.symm⟩
 ·obtain⟨a,b⟩:=h.2.1 rfl;obtain⟨c,d⟩:=g.2.1 rfl;exact⟨a.trans c.symm,b.trans d.symm⟩
 ·obtain⟨A,i,a,b⟩:=h.2.2 rfl;obtain⟨B,j,c,d⟩:=g.2.2 rfl;have e:=i.one j;subst e;exact⟨a.trans c.symm,b.trans d.symm⟩
structure Stm (c:Int) (A S V N:List Int):Prop where
 a:Nms c A
 s:Nms c S
 v:Nms c V
 n:Nms c N
 nd:(A++(S++(V++(N++[])))).Nodup
 na:A≠[]
 nn:N≠[]
theorem Stm.ap{A S V N G:List Int}(h:Stm c A S V N)(g:Nms c G)(gi:∀x,x∈G↔x∈S∨x∈V):Ap c A N G:=by
 have n1:=Jz.mp h.nd;have n2:=Jz.mp n1.2.1;have n3:=Jz.mp n2.2.1;refine⟨h.a,h.n,g,?_,h.na,h.nn⟩;refine Jz.mpr ⟨h.a.nd,Jz.mpr ⟨h.n.nd,by rw[Ji];exact g.nd,fun x hx y hy e=>?_⟩,fun x hx y hy e=>?_⟩
 ·subst e;rw[Ji]at hy;rcases (gi x).mp hy with q | q
  ·exact n2.2.2 x q x (Jd _ (Jh _ hx)) rfl
  ·exact n3.2.2 x q x (Jh _ hx) rfl
 ·subst e;rw[Ji]at hy;rcases IU.mp hy with q | q
  ·exact n1.2.2 x hx x (Jd _ (Jd _ (Jh _ q))) rfl
  ·rcases (gi x).mp q with z | z
   ·exact n1.2.2 x hx x (Jh _ z) rfl
   ·exact n1.2.2 x hx x (Jd _ (Jh _ z)) rfl
def CT(I O:List Int)(p:P2):Bool:=!decide (p.2∈I)&&!decide (p.1∈O)
theorem ct1:CT I []=FT 1 I:=by funext p;simp[CT,FT]
theorem ct2:CT [] O=FT 2 O:=by funext p;simp[CT,FT]
theorem fb0{bs:List P2}:bs.filter (FB 1 [])=bs:=JC.mpr fun p _=>by simp[FB]
def iC:Sp':=fun vs H Q _=>match vs with
 | [.tup l,.tup m,.tup n]=>∃c ts bs,∃I O:List Int,PV.tup l=shp c ts bs/\m=I.map PV.int/\n=O.map PV.int/\OkD c ts bs/\Q (shp c (ts.filter (CT I O)) (bs.filter (FB 1 I))) H
 | _=>False
theorem uk:bX 0 c.toNat=(ulN c).map PV.int:=by
 unfold bX ulN;rw[Jj];refine J8 fun k _=>?_;show PV.int (0+(k:Int))=PV.int (k:Int);rw[K4]
theorem o5:∀(l:List P2),l.Pairwise (fun x y=>ST.pk x<ST.pk y)->(∀p∈l,0≤p.1/\p.1<p.2/\p.2<6)->∀{F:List Int} {a b:Int},(a,b)∈l->a∈(l.map swp).foldl br F->b∈(l.map swp).foldl br F
 | [],_,_,_,_,_,h,_=>by cases h
 | p::l,hs,hl,F,a,b,h,ha=>by
  rw[Ks]at hs;rcases IY.mp h with e | h
  ·subst e;refine jd (l.map swp) (F:=br F (b,a)) ?_;have h0:=hl (a,b) IK;simp only at h0;have aF:a∈F:=by
    rcases kC (l.map swp) (F:=br F (b,a)) ha with q |⟨z,hz,e⟩
    ·unfold br at q;split at q
     ·rcases IU.mp q with q | q
      ·exact q
      ·have:=IW.mp q;simp only at this;omega
     ·exact q
    ·obtain⟨y,hy,rfl⟩:=IF.mp hz;have h1:6*a+b<6*y.1+y.2:=hs.1 y hy;have h2:=hl y (IJ _ hy);have e:y.2=a:=e;omega
   unfold br;by_cases hb:b∈F
   ·rw[IX (fun c=>c.2 hb)];exact hb
   ·rw[IZ ⟨aF,hb⟩];simp
  ·exact o5 l hs.2 (fun q hq=>hl q (IJ _ hq)) (F:=br F (swp p)) h ha
theorem BP(ok:OkD c ts bs){G:List Int}(x:Int):x∈(ts.map swp).foldl br G↔My.Reach ts G x:=by
 have c6:=ok.c6;constructor
 ·exact fun h=>iZ (ts.map swp) (E:=ts) (G:=G) (fun p hp=>by obtain⟨q,hq,rfl⟩:=IF.mp hp;exact hq) (fun y hy=>.base hy) x h
 ·intro h
  induction h with
  | base h=>exact jd _ h
  | step _ e ih =>
   refine o5 ts ok.st (fun q hq=>?_) e ih;have:=ok.gt.lo q hq;omega
def gc:Sp':=fun vs H Q _=>match vs with
 | [.tup l,.tup m]=>∃c ts bs,∃G:List Int,PV.tup l=shp c ts bs/\m=G.map PV.int/\OkD c ts bs/\Nms c G/\∀r H1,∀F:List Int,H r=none->U.Sub H H1->H1 r=some (.lst (F.map PV.int))->(∀y,y∈F↔My.Reach ts G y)->F.length≤100->Q (.ref r) H1
 | _=>False
def nin(c:Int)(A:List Int):List Int:=(ulN c).filter fun y=>!decide (y∈A)
theorem qd:Nms c (nin c A):=⟨(jZ c).filter _,fun x hx=>b9.mp (Jm.mp hx).1⟩
theorem iA:x∈nin c A↔(0≤x/\x<c)/\x∉A:=by
 unfold nin;rw[Jm,b9];simp
def iz(t:Ad):Sp':=fun vs H Q _=>match vs with
 | [.ref x,.tup l]=>∃c ts bs,∃L:List Int,Dr t H x c ts bs/\l=L.map PV.int/\OkD c ts bs/\Nms c L/\∀y H1,U.Sub H H1->Dr t H1 y c (ts.filter (FT 0 L)) (bs.filter (FB 0 L))->Q (.ref y) H1
 | _=>False
def iG:Sp':=fun vs H Q _=>match vs with
 | [.int c]=>(0≤c/\c<1000)/\Q (.tup ((ulN c).map PV.int)) H
 | _=>False
def onB(W:List Int)(y:PV):PV:=match y with | .int u=>.bl (decide (u∈W)) | _=>.non
theorem mx{W l:List Int}:((l.map PV.int).filter (fun _=>true)).map (onB W)=(l.map fun x=>decide (x∈W)).map PV.bl:=by
 rw[JC.mpr (fun _ _=>rfl),Jj,Jj];rfl
theorem oK{W l:List Int}:(l.map fun x=>decide (x∈W)).any id=true↔∃x∈l,x∈W:=by
 rw[List.any_map,KI];simp
def gw(t:Ad):Sp':=fun vs H Q _=>match vs with
 | [.ref x,.tup l,.tup m,.tup n]=>∃c ts bs,∃A B G:List Int,Dr t H x c ts bs/\OkD c ts bs/\l=A.map PV.int/\m=B.map PV.int/\n=G.map PV.int/\Nms c A/\Nms c B/\Nms c G/\∀b:Bool,(b=true↔∀y∈B,¬My.Reach (ts.filter (FT 0 (nin c G))) A y)->Q (.bl b) H
 | _=>False
def ky(ts bs:List P2)(A B G:List Int):Prop:=(∀y∈G,¬My.Reach ts A y)/\∀N,An (ts.filter (FT 2 A)) G N->rn (ts.filter (FT 2 A)) (bs.filter (FB 2 A)) G N A B
def rB(ts bs:List P2)(L A B G:List Int):Prop:=∀N,An (ts.filter (FT 2 L)) G N->rn (ts.filter (FT 2 L)) (bs.filter (FB 2 L)) G N A B
def gI(c:Int)(ts bs:List P2)(A B G:List Int):Prop:=(∀y∈B,¬My.Reach (ts.filter (FT 0 (nin c G))) A y)/\(G=[]∨(rB ts bs A A G []/\rB ts bs G G B A))
theorem Ap.one(h:Ap c A B G)(ne:G≠[]):Ap c A G [] :=
 ⟨h.a,h.g,⟨List.Pairwise.nil,fun x hx=>by cases hx⟩,h.nd.sublist (Ko (by simp) A),h.na,ne⟩
theorem Ap.two(h:Ap c A B G)(ne:G≠[]):Ap c G B A:=by
 have nd:=h.nd;rw[Ji]at nd;have p:(A++(B++G)).Perm (G++(B++A)):=by
  rw[←Ka G B A];exact KG.trans (List.Perm.append_right A KG)
 exact⟨h.g,h.b,h.a,by rw[Ji];exact p.nodup_iff.mp nd,ne,h.nb⟩
theorem yM(an:An (ts.filter (FT 2 L)) G N)(hb:b=true↔∀x p,RSG (ts.filter (FT 2 L)) bs G N A x p->x∉B):b=true↔rB ts bs L A B G:=by
 unfold rB rn;rw[fb2];exact hb.trans ⟨fun z N' an'=>by rw[an'.one an];exact z,fun z=>z N an⟩
theorem qh:Nms c []:=⟨List.Pairwise.nil,fun x hx=>by cases hx⟩
def gE:Sp':=fun vs H Q _=>match vs with
 | [.tup l,.tup m,.tup k,.tup n]=>∃c ts bs,∃A B G:List Int,PV.tup l=shp c ts bs/\m=A.map PV.int/\k=B.map PV.int/\n=G.map PV.int/\OkD c ts bs/\Ap c A B G/\∀b:Bool,(b=true↔ky ts bs A B G)->Q (.bl b) H
 | _=>False
def eK:Sp':=fun vs H Q _=>match vs with
 | [.tup l,.tup m,.tup k,.tup n]=>∃c ts bs,∃A B G:List Int,PV.tup l=shp c ts bs/\m=A.map PV.int/\k=B.map PV.int/\n=G.map PV.int/\OkD c ts bs/\Ap c A B G/\∀b:Bool,(b=true↔gI c ts bs A B G)->Q (.bl b) H
 | _=>False
theorem mP(ok:OkD c ts bs){A G:List Int}(ag:∀x∈A,x∉G)(y:Int):My.Reach (ts.filter (FT 1 G)) A y↔My.Reach (ts.filter (FT 0 (nin c G))) A y:=by
 constructor
 ·intro h;have:y∉G/\My.Reach (ts.filter (FT 0 (nin c G))) A y:=by
   induction h with
   | base h=>exact⟨ag _ h,.base h⟩
   | @step a b _ e ih =>
    obtain⟨e1,e2⟩:=Jm.mp e;have lo:=ok.gt.lo _ e1;have nb:b∉G:=by simpa[FT]using e2
    refine⟨nb,.step ih.2 (Jm.mpr ⟨e1,?_⟩)⟩;have h1:a∈nin c G:=iA.mpr ⟨by simp only at lo;omega,ih.1⟩;have h2:b∈nin c G:=iA.mpr ⟨by simp only at lo;omega,nb⟩;simp[FT,h1,h2]
  exact this.2
 ·intro h
  induction h with
  | base h=>exact .base h
  | @step a b _ e ih =>
   obtain⟨e1,e2⟩:=Jm.mp e;refine .step ih (Jm.mpr ⟨e1,?_⟩);have:a∈nin c G/\b∈nin c G:=by simpa[FT]using e2
   have:=(iA.mp this.2).2;simp[FT,this]
theorem bZ{t R:TS'}(h:∀T1 R1:TS',T1=t->R1=R->qX (xY c T1 ph) R1 D σ H):qX (xY c t ph) R D σ H:=h t R rfl rfl
def iw(t:Ad):Sp':=fun vs H Q _=>match vs with
 | [.ref x,.tup l,.tup m,.tup n]=>∃c ts bs,∃A B G:List Int,Dr t H x c ts bs/\OkD c ts bs/\l=A.map PV.int/\m=B.map PV.int/\n=G.map PV.int/\Ap c A B G/\∀b:Bool,(b=true↔ky ts bs A B G)->Q (.bl b) H
 | _=>False
def gh(t:Ad):Sp':=fun vs H Q _=>match vs with
 | [.ref x,.tup l,.tup m,.tup n]=>∃c ts bs,∃A B G:List Int,Dr t H x c ts bs/\OkD c ts bs/\l=A.map PV.int/\m=B.map PV.int/\n=G.map PV.int/\Ap c A B G/\∀b:Bool,(b=true↔gI c ts bs A B G)->Q (.bl b) H
 | _=>False
def Tb(t:Ad)(H:PHp):Prop:=H t.a_B=some (.tbl lx yz)
def fY(t:Ad):Sp':=fun vs H Q _=>match vs with
 | [.tup l]=>∃N:List Int,l=N.map PV.int/\N.Nodup/\Dig N/\N.length≤4/\Tb t H/\∀r L,H r=none->My.dG N L->Q (.ref r) (put H r (.lst (L.map tI)))
 | _=>False
def eL:Sp':=fun vs H Q _=>match vs with
 | [.tup l,.ref a]=>∃M:List Int,∃Ds:List (List Int),l=M.map PV.int/\H a=some (.lst (Ds.map tI))/\Ds.length≤64/\(∀D∈Ds,D.length≤6)/\∀b:Bool,(b=true↔∃D∈Ds,∀x∈D,x∈M)->Q (.bl b) H
 | _=>False
noncomputable def dB (P:Prop):Bool:=@decide P (Classical.propDecidable P)
theorem BE{P:Prop}:dB P=true↔P:=by unfold dB;exact @decide_eq_true_iff P (Classical.propDecidable P)
theorem p7{P:Prop}(h:b=true↔P):b=dB P:=by
 rw[Kg,h,BE]
def rst(c:Int)(A B:List Int):List Int:=nin c (A++B)
noncomputable def dBk (ts bs:List P2) (A B M:List Int):Bool:=dB (ky ts bs A B M)
noncomputable def dFr (c:Int) (ts bs:List P2) (A B M:List Int):Bool:=dB (gI c ts bs A B M)
def eF(t:Ad):Sp':=fun vs H Q _=>match vs with
 | [.ref x,.tup l,.tup m,.ref f]=>∃c ts bs,∃A B:List Int,∃d:List Int->Bool,Dr t H x c ts bs/\OkD c ts bs/\l=A.map PV.int/\m=B.map PV.int/\Ap c A B []/\Tb t H/\((f=t.a_zq/\d=dBk ts bs A B)∨(f=t.a_zn/\d=dFr c ts bs A B))/\∀r L,H r=none->My.dG (rst c A B) L->Q (.ref r) (put H r (.lst ((My.least d L).map tI)))
 | _=>False
def eR(t:Ad):Sp':=fun vs H Q _=>match vs with
 | [.ref x,.tup l,.tup m]=>∃c ts bs,∃A B:List Int,Dr t H x c ts bs/\OkD c ts bs/\l=A.map PV.int/\m=B.map PV.int/\Ap c A B []/\Tb t H/\∀r L,H r=none->My.dG (rst c A B) L->Q (.ref r) (put H r (.lst ((My.least (dBk ts bs A B) L).map tI)))
 | _=>False
def eH(t:Ad):Sp':=fun vs H Q _=>match vs with
 | [.ref x,.tup l,.tup m]=>∃c ts bs,∃A B:List Int,Dr t H x c ts bs/\OkD c ts bs/\l=A.map PV.int/\m=B.map PV.int/\Ap c A B []/\Tb t H/\∀r L,H r=none->My.dG (rst c A B) L->Q (.ref r) (put H r (.lst ((My.least (dFr c ts bs A B) L).map tI)))
 | _=>False
def fE:Sp':=fun vs H Q _=>match vs with
 | [.ref a]=>∃N:List Int,H a=some (.lst (N.map PV.int))/\N.Nodup/\Dig N/\N.length≤4/\∀r L H1,H r=none->U.Sub H H1->H1 r=some (.lst (L.map tI))->My.dG N L->Q (.ref r) H1
 | _=>False
def eW:Sp':=fun vs H Q _=>match vs with
 | [.ref a]=>∃Ds:List (List Int),H a=some (.lst (Ds.map tI))/\Ds.length≤64/\(∀D∈Ds,D.length≤6)/\∀r H1,H r=none->U.Sub H H1->H1 r=some (.lst ((My.least (fun _=>true) Ds).map tI))->Q (.ref r) H1
 | _=>False
def gf(t:Ad):Sp':=fun vs H Q _=>match vs with
 | [.tup k,.ref x,.tup l,.tup m]=>∃c ts bs,∃A B:List Int,PV.tup k=shp c ts bs/\Dr t H x c ts bs/\OkD c ts bs/\l=A.map PV.int/\m=B.map PV.int/\Ap c A B []/\Tb t H/\Q (.bl true) H
 | _=>False
def snV(x:Int)(y:PV):PV:=match y with | .tup l=>.tup (l++[.int x]) | _=>.non
theorem t7{L:List (List Int)}:((L.map tI).filter (fun _=>true)).map (snV x)=(L.map (·++[x])).map tI:=by
 rw[JC.mpr (fun _ _=>rfl),Jj,Jj];refine J8 fun M _=>?_;show PV.tup (M.map PV.int++[.int x])=.tup ((M++[x]).map PV.int);rw[IP];rfl
def intsOf(l:List PV):List Int:=l.filterMap fun | .int i=>some i | _=>none
theorem jf:∀(D:List Int),intsOf (D.map PV.int)=D
 | []=>rfl
 | x::D=>by
  have:=jf D;unfold intsOf at *;rw[Jb,List.filterMap_cons];simp only[this]
def inM(M:List Int)(y:PV):PV:=match y with | .tup l=>.bl (decide (∀x∈intsOf l,x∈M)) | _=>.non
theorem vG:inM M (tI D)=.bl (decide (∀x∈D,x∈M)):=by
 show PV.bl (decide (∀x∈intsOf (D.map PV.int),x∈M))=_;rw[jf]
theorem tV{L:List (List Int)}:((L.map tI).filter (fun _=>true)).map (inM M)=(L.map fun D=>decide (∀x∈D,x∈M)).map PV.bl:=by
 rw[JC.mpr (fun _ _=>rfl),Jj,Jj];exact J8 fun D _=>vG
theorem qj{M D:List Int}:(((D.filter fun y=>!decide (y∈M)).length:Int)==0)=decide (∀x∈D,x∈M):=by
 rw[Kg,Kk,JB];constructor
 ·intro h x hx;have h:D.filter (fun y=>!decide (y∈M))=[]:=Kd.mp (by omega);rw[JK]at h;have:=h x hx;simpa using this
 ·intro h;have:D.filter (fun y=>!decide (y∈M))=[]:=by
   rw[JK];intro x hx;simpa using h x hx
  rw[this];rfl
theorem cI:Nms c (rst c A B):=qd
theorem gM(h:Nms c N):N.Nodup:=Jr.mpr (h.up.imp fun q e=>by omega)
theorem pK(c6:c≤6)(h:Nms c N):Dig N:=fun x hx=>by have:=h.lo x hx;omega
theorem xJ(h:Nms c N)(s:M.Sublist N):Nms c M:=⟨h.up.sublist s,fun x hx=>h.lo x (s.subset hx)⟩
theorem oj(ap:Ap c A B [])(s:M.Sublist (rst c A B)):Ap c A B M:=by
 have nd:=ap.nd;simp only[Ji]at nd;refine⟨ap.a,ap.b,xJ cI s,?_,ap.na,ap.nb⟩;rw[Ji,← Ka];refine Jz.mpr ⟨nd,(gM cI).sublist s,fun a ha b hb e=>?_⟩;subst e;exact(iA.mp (s.subset hb)).2 ha
theorem eM(c6:c≤6)(ap:Ap c A B []):(rst c A B).length≤4:=by
 have ap2:=oj ap (List.Sublist.refl _);have nd:=ap2.nd;rw[Ji]at nd;have f6:=My.bI 6 _ nd (fun x hx=>by
  rcases IU.mp hx with h | h
  ·have:=ap.a.lo x h;omega
  ·rcases IU.mp h with h | h
   ·have:=ap.b.lo x h;omega
   ·have:=cI.lo x h;omega)
 have a:=List.length_pos_iff.mpr ap.na;have b:=List.length_pos_iff.mpr ap.nb;rw[II,II]at f6;omega
theorem iN{L:List (List Int)}:∀{acc:List (List Int)} {M:List Int},M∈L.foldl (My.bC d) acc->M∈acc∨M∈L:=by
 induction L with
 | nil=>exact fun h=>.inl h
 | cons x L ih =>
  intro acc M h;rcases ih (acc:=My.bC d acc x) h with q | q
  ·unfold My.bC at q;split at q
   ·rcases IU.mp q with q | q
    ·exact .inl q
    ·exact .inr (by rw[IW.mp q];simp)
   ·exact .inl q
  ·exact .inr (IJ _ q)
theorem jz{L:List (List Int)}:∀{acc:List (List Int)},(L.foldl (My.bC d) acc).length≤acc.length+L.length:=by
 induction L with
 | nil=>intro acc;exact IS _
 | cons x L ih =>
  intro acc;have:=ih (acc:=My.bC d acc x);have h2:(My.bC d acc x).length≤acc.length+1:=by
   unfold My.bC;split<;>simp
  rw[List.foldl_cons,Jg];omega
theorem nj(h:My.dG N L)(nd:N.Nodup)(l4:N.length≤4):L.length≤16:=by
 rw[h.len nd];exact Jl (JV (by decide) l4) (by decide)
theorem wA{α:Type}{a:α}{l:List α}(nd:l.Nodup)(h:∀x∈l,x=a):l.length≤1:=by
 match l,nd,h with
 | [],_,_=>simp
 | [x],_,_=>simp
 | x::y::l,nd,h =>
  have e1:=h x (by simp);have e2:=h y (by simp);rw[Kf]at nd;exact absurd (show x∈y::l by rw[e1,← e2];simp) nd.1
def gtV(N:List Int)(y:PV):PV:=match y with | .int k=>.int (N.getD k.toNat 0) | _=>.non
def btV(b:Nat)(y:PV):Bool:=match y with | .int k=>decide (b / 2 ^ k.toNat % 2=1) | _=>false
theorem qG:((bX 0 N.length).filter (btV b)).map (gtV N)=(My.pick N b).map PV.int:=by
 rw[←My.uR];unfold bX;rw[List.filter_map,Jj,Jj];have:(List.range N.length).filter (btV b ∘ fun k=>PV.int (0+(k:Nat)))=(List.range N.length).filter fun k=>decide (b / 2 ^ k % 2=1):=by
  refine List.filter_congr fun k _=>?_;show decide (b / 2 ^ (0+(k:Int)).toNat % 2=1)=_;rw[K4,Jq]
 rw[this];refine J8 fun k _=>?_;show PV.int (N.getD (0+(k:Int)).toNat 0)=_;rw[K4,Jq];rfl
theorem A5{b k:Nat}:(Builtin.bitAnd ((b:Int) / 2 ^ k) 1==1)=decide (b / 2 ^ k % 2=1):=by
 rw[PyProof.Rows.bitAnd_m1];have:((b:Int) / 2 ^ k) % 2=((b / 2 ^ k % 2:Nat):Int):=by rw[Int.natCast_emod,Int.natCast_ediv,Int.natCast_pow];rfl
 rw[this,Kg,Kk,JB];omega
theorem fX{L:List (List Int)}(ha:H a=some (.lst (L.map tI)))(hb:H b=some (.lst (L.map tI)))(hl:L.length≤64)(h6:∀M∈L,M.length≤6):lh H (n+3) (.ref a) (.ref b):=by
 refine⟨_,_,ha,hb,by rw[kb];omega,kE fun y hy=>?_⟩;obtain⟨M,hM,rfl⟩:=IF.mp hy;exact same_ints (by have:=h6 M hM;omega)
theorem eS(d:List Int->Bool)(L:List (List Int)):My.least (fun _=>true) (L.filter d)=My.least d L:=(My.dv d L []).symm
theorem d8(h:L.length≤16):(My.least d L).length≤64:=by
 have:=jz (d:=d) (L:=L) (acc:=[]);simp only[JU]at this;unfold My.least;omega
theorem fU(h:M∈My.least d L):M∈L:=(iN h).elim (fun q=>by cases q) id
abbrev nl0:List Str:=["pair","count"]
theorem nn0:List.Nodup nl0:=by decide +kernel
abbrev nl1:List Str:=["tie"]
theorem nn1:List.Nodup nl1:=by decide +kernel
abbrev nl2:List Str:=["bow"]
theorem nn2:List.Nodup nl2:=by decide +kernel
abbrev nl3:List Str:=["tie","name"]
theorem nn3:List.Nodup nl3:=by decide +kernel
abbrev nl4:List Str:=["bow","name"]
theorem nn4:List.Nodup nl4:=by decide +kernel
abbrev nl5:List Str:=["other","name"]
theorem nn5:List.Nodup nl5:=by decide +kernel
abbrev nl6:List Str:=["step"]
theorem nn6:List.Nodup nl6:=by decide +kernel
abbrev nl7:List Str:=["step","behind"]
theorem nn7:List.Nodup nl7:=by decide +kernel
abbrev nl8:List Str:=["other"]
theorem nn8:List.Nodup nl8:=by decide +kernel
abbrev nl9:List Str:=["name"]
theorem nn9:List.Nodup nl9:=by decide +kernel
abbrev zv:List Str:=["road","others"]
theorem DG:List.Nodup zv:=by decide +kernel
abbrev B8:List Str:=["way","given"]
theorem DB:List.Nodup B8:=by decide +kernel
abbrev De:List Str:=["name","way"]
theorem Fp:List.Nodup De:=by decide +kernel
abbrev Co:List Str:=["meeting","drawing","given"]
theorem FO:List.Nodup Co:=by decide +kernel
abbrev tU:List Str:=["_law_one","_law_two","_law_name"]
theorem mH:List.Nodup tU:=by decide +kernel
abbrev Cy:List Str:=["_law_name"]
theorem HF:List.Nodup Cy:=by decide +kernel
abbrev CO:List Str:=["_law_name","_law_pointed","_law_others"]
theorem CY:List.Nodup CO:=by decide +kernel
abbrev Cd:List Str:=["_law_kind"]
theorem FI:List.Nodup Cd:=by decide +kernel
abbrev CS:List Str:=["_law_names"]
theorem Ik:List.Nodup CS:=by decide +kernel
abbrev E1:List Str:=["standing","others"]
theorem Gj:List.Nodup E1:=by decide +kernel
abbrev CI:List Str:=["name","others"]
theorem Gy:List.Nodup CI:=by decide +kernel
abbrev BG:List Str:=["tie","names"]
theorem DV:List.Nodup BG:=by decide +kernel
abbrev C9:List Str:=["_law_tie","_law_into","_law_out"]
theorem Ih:List.Nodup C9:=by decide +kernel
abbrev Dj:List Str:=["_law_bow","_law_into"]
theorem Im:List.Nodup Dj:=by decide +kernel
abbrev Dy:List Str:=["bow","names"]
theorem Ig:List.Nodup Dy:=by decide +kernel
abbrev Ae:List Str:=["name","below"]
theorem ET:List.Nodup Ae:=by decide +kernel
abbrev D0:List Str:=["_law_name","_law_below_here"]
theorem Ip:List.Nodup D0:=by decide +kernel
abbrev Et:List Str:=["_law_name","_law_other"]
theorem FR:List.Nodup Et:=by decide +kernel
abbrev DU:List Str:=["part","name"]
theorem Fx:List.Nodup DU:=by decide +kernel
abbrev D9:List Str:=["door","names"]
theorem HV:List.Nodup D9:=by decide +kernel
abbrev CU:List Str:=["_law_k","_law_names","_law_bits"]
theorem HK:List.Nodup CU:=by decide +kernel
abbrev EB:List Str:=["_law_some","_law_door"]
theorem F1:List.Nodup EB:=by decide +kernel
abbrev DC:List Str:=["_law_name","_law_door"]
theorem F4:List.Nodup DC:=by decide +kernel
abbrev DH:List Str:=["_law_name","_law_one","_law_other"]
theorem FU:List.Nodup DH:=by decide +kernel
end
section
variable {P:Program}{w:World}{K:PySem.W.Frag}{mg:Str->Option Value}{base:Heap}{t:Ad}
local macro_rules | `(tactic| ac_rfl) => `(tactic| simp only [Dt,Dx,uOp,uI,uI0,uIx,lU,uC,qX,lY,fj,xY,ph,y4,hU,Az,Ea,uOr,CV,yX,FL,yN,uIf,uUn,C1,zi,Cn,Ez,uCB,C2,HW,Hu,zq,vj,ve,pH,yR,tH,h9,E7,ql,DI,HS,vn,Il,vE,Hy,yV,Gp,Fq,Ie,pQ,FN,Fu,Fi,FG,GK,Fm,Hr,tE,FH,Ib,mC,GA,Fl,yI,Gm,ED,yH,Dn,y3,Fv,o9,F9,mw,He,Hl,mY,Hn,uEn,Gq,HJ,C3,F8,DE,Du,Gi,Fz,D8,Hw,i9,CD,tJ,sv,Aa,yO,Cj,vO,BT.sub,BT.nm,Ft,Fy,EU,ends,Aq,EZ,d5,flat,deq,eZ,w_V,w_B,w_I,w_O,Gn,HN,Fj,G5,GS,Iu,Ic,Ir,G8,Gd,GQ,Fn,GC,Iq,Gs,HD,FY,Fg,E8,F5,Gw,Iw,HP,HI,FX,w_1,Cg,HM,Fo,Gb,HX,HB,FJ,F0,GO,Ia,E4,Fe,Cw,FC,Hi,FV,DW,CC,Jb,List.map_nil,Jg,JU,Nat.reduceAdd,Nat.reduceSub,Nat.add_sub_cancel,Nat.sub_self,Nat.zero_add,List.replicate_succ,List.replicate_zero,List.cons_append,List.nil_append,Ji,List.getElem?_cons_zero,List.getElem?_cons_succ,List.set_cons_zero,List.set_cons_succ,AN,AB,List.all_cons,List.all_nil,Bool.and_self,Bool.and_true,Bool.true_and,Bool.not_true,Bool.not_false,true_and,and_true,ah,Option.some.injEq,PO.lst.injEq,exists_eq_left',K4,tS,da,zD,dc,dD,cJ,iy,gC,dM,Dd,fL,Dm,D1,Cb,Io,c9,cF,dA,EX,DD,iB,eP,gx,fO,fN,d9,fT,fQ,eI,gm,kO,iH,oZ,k7,gu,gj,dP,gH,fJ,fG,Gz,FA,AE,dQ,dR,DS,wm,iC,gc,iz,iG,gw,gE,eK,iw,gh,fY,eL,eF,eR,eH,fE,eW,gf])
local macro_rules | `(tactic| eq_refl) => `(tactic| first | exact Or.inl rfl | exact Or.inr rfl)
local macro_rules | `(tactic| left) => `(tactic| (refine aj fun $(Lean.mkIdent `R) $(Lean.mkIdent `hR)=>?_;ac_rfl))
local macro_rules | `(tactic| right) => `(tactic| (subst $(Lean.mkIdent `hR);left))
theorem GX(T:Tx K mg t):aK P w K mg base CX0 1 t.a_ye t.d_ye ["count","pair"] eG:=by
 refine okU (k:=0) T.F_ye Ex (fun vs H Q E h=>by
  unfold eG at h;split at h
  ·rfl
  ·exact h.elim) (fun cdv A outer s H E B hr=>⟨_,(ak (az (cb (bK (a0 hr.units) bx (aw ay aU rfl T.b_len Jf (aa (qv 1) ae)) ar (bS _)) (cw (qM yQ zh ia h7 ia h7 ar (iX (qv 1) ar) (iX (qv 1) ar) (qv 0)))))),?_⟩)
 intro vs H Q E h;unfold eG at h;split at h
 ·rename_i c u v;obtain⟨⟨h1,h2,h3⟩,h⟩:=h;ac_rfl;exact aG rfl (aG (by simpa using h1) (aG (by simpa using h2) ⟨H,Sub.refl _,by rw[JE h3];exact h⟩))
 ·exact h.elim
theorem xg(T:Tx K mg t):aK P w K mg base CX0 2 t.a_zO t.d_zO ["count","pairs"] da:=by
 refine okU (k:=1) T.F_zO Eg (fun vs H Q E h=>by
  unfold da at h;split at h
  ·rfl
  ·exact h.elim) (fun cdv A outer s H E B hr=>⟨_,(ak (az (cb (aw (uG rfl) BO rfl T.b_all boot_all (aa (cE (N2:=nl0) (nt:=1) (js:=[0]) (ck (sc:=ai xO)) (aI (qv 1)) (fun _ _ _ _=>⟨(gN 0 nn0),a9,(au (GX T) hr.mo rfl T.g_ye T.F_ye.kp T.B_ye (aa (qv 1) (aa (qv 0) ae)))⟩)) ae)) (cw (bK (a0 hr.units) bx (oh rfl hr.units rfl T.b_len rfl T.b_set boot_set (qv 1)) (aw ay aU rfl T.b_len Jf (aa (qv 1) ae)) (bS _)))))),?_⟩)
 intro vs H Q E h;unfold da at h;split at h
 ·rename_i c a;obtain⟨ps,ha,gd,hc,h⟩:=h;have h15:=gd.len hc;ac_rfl;refine⟨_,ha,fun acc hacc=>?_⟩;have hna:=av ha hacc;refine aC (fun _=>.bl true) (fun _=>true) (fun σ=>∃x,σ=[x,some (.int c)]) (by rw[kb];omega) (fun l=>(aq hna).trans ha) ?step ?fin ⟨_,rfl⟩
  case step =>
   rintro y hy l σ R ⟨x,rfl⟩ hl kT kF;obtain⟨p,hp,rfl⟩:=IF.mp hy;have b:=gd.lo p hp;unfold prV;ac_rfl;exact⟨b,hl,by rw[aD];exact kT rfl _ ⟨_,rfl⟩⟩
  case fin =>
   ac_rfl;refine⟨ps.map fun _=>true,by rw[JC.mpr (fun _ _=>rfl),Jj,Jj];rfl,aG (by simp) ⟨ps,(aq hna).trans ha,gd.nd,gd.prs hc,h15,_,(aq hna).trans ha,H,Sub.put (Sub.refl _) hacc,?_⟩⟩;rw[kb,beq_self_eq_true];exact h
 ·exact h.elim
theorem Dl(T:Tx K mg t):aK P w K mg base CX0 3 t.a_zs t.d_zs ["self","count","ties","bows"] (ix t):=by
 refine okU (k:=2) T.F_zs kn (fun vs H Q E h=>by
  unfold ix at h;split at h
  ·rfl
  ·exact h.elim) (fun cdv A outer s H E B hr=>⟨_,(af (aN (ba (fh (cN ia h7 (qv 1) ar) (df (cN fb fe (qv 1) (gy (v':=.int 6) rfl T.c_MOST_NAMES (fun _=>by simp[RP]))))))
  bw
  aB)
  (af (sC 4 kn.nd (N2:=nl1) (nt:=1) (js:=[]) (ck (sc:=ai oR)) (aI (qv 2)) (fun _ _ _ _=>⟨(gN 0 nn1),a9,(aL aJ a8 rfl T.b_tuple JL (aa (qv 0) ae))⟩))
  (af (aN (bO (aQ (au (xg T) hr.mo rfl T.g_zO T.F_zO.kp T.B_zO (aa (qv 1) (aa (qv 4) ae)))))
  bw
  aB)
  (af (sC 5 kn.nd (N2:=nl2) (nt:=1) (js:=[]) (ck (sc:=ai oR)) (aI (qv 3)) (fun _ _ _ _=>⟨(gN 0 nn2),a9,(aL aJ a8 rfl T.b_tuple JL (aa (qv 0) ae))⟩))
  (af (aN (bO (aQ (au (xg T) hr.mo rfl T.g_zO T.F_zO.kp T.B_zO (aa (qv 1) (aa (qv 5) ae)))))
  bw
  aB)
  (af (aN (cN fb fe (aw ay aU rfl T.b_len Jf (aa (qv 5) ae)) (gy (v':=.int 6) rfl T.c_MOST_BOWS (fun _=>by simp[RP])))
  bw
  aB)
  (af (gT (qv 0) (qv 1) T.cl_A T.nfA_count rfl)
  (af (gT (qv 0) (aL aJ a8 rfl T.b_tuple JL (aa (aw dO gg rfl T.b_sorted boot_sorted (aa (qv 4) ae)) ae)) T.cl_A T.nfA_ties rfl)
  (ak (gT (qv 0) (aL aJ a8 rfl T.b_tuple JL (aa (aw dO gg rfl T.b_sorted boot_sorted (aa (qv 5) ae)) ae)) T.cl_A T.nfA_bows rfl)))))))))),?_⟩)
 intro vs H Q E h;unfold ix at h;split at h
 ·rename_i x c a b;obtain⟨dx,ys,zs,ps,qs,hx,ha,hb,ry,rz,gp,gq,⟨c1,c6,q6⟩,h⟩:=h;have hp15:=gp.len c6;have hq15:=gq.len c6;left;refine aA (by simp;omega) (aA (by simp;omega) ?_);right;refine⟨_,ha,fun p1 hp1=>?_⟩;refine aC (mn H) (fun _=>true) (fun σ=>∃z,σ=[z]) (by rw[ry.length];omega) (fun l=>(aq (av ha hp1)).trans ha) ?_ ?_ ⟨_,rfl⟩
  ·rintro y hy l σ R' ⟨z,rfl⟩ hl kT kF;obtain⟨p,hp,row⟩:=i6 ry hy;rcases row with rfl |⟨r,rfl,hr⟩
   ·unfold prV;ac_rfl;exact⟨hl,by rw[aD];exact kT rfl _ ⟨_,rfl⟩⟩
   ·rw[di hr]at kT;ac_rfl;exact⟨_,(aq (av hr hp1)).trans hr,hl,by rw[aD];exact kT rfl _ ⟨_,rfl⟩⟩
  rw[JC.mpr (fun _ _=>rfl),jc ry];subst hR;have sb1:U.Sub H (put H p1 (.lst (ps.map prV))):=Sub.put (Sub.refl _) hp1;left;refine⟨ps,rfl,gp,c6,?_⟩
  try ac_rfl
  subst hR;have hp1s:put H p1 (.lst (ps.map prV)) p1=some (.lst (ps.map prV)):=ah;have hx1:=sb1 _ _ hx;have hb1:=sb1 _ _ hb;have rz1:=rz.up sb1;generalize put H p1 (.lst (ps.map prV))=H1 at *;left;refine⟨_,hb1,fun p2 hp2=>?_⟩;refine aC (mn H1) (fun _=>true) (fun σ=>∃z,σ=[z]) (by rw[rz1.length];omega) (fun l=>(aq (av hb1 hp2)).trans hb1) ?_ ?_ ⟨_,rfl⟩
  ·rintro y hy l σ R' ⟨z,rfl⟩ hl kT kF;obtain⟨p,hp,row⟩:=i6 rz1 hy;rcases row with rfl |⟨r,rfl,hr⟩
   ·unfold prV;ac_rfl;exact⟨hl,by rw[aD];exact kT rfl _ ⟨_,rfl⟩⟩
   ·rw[di hr]at kT;ac_rfl;exact⟨_,(aq (av hr hp2)).trans hr,hl,by rw[aD];exact kT rfl _ ⟨_,rfl⟩⟩
  rw[JC.mpr (fun _ _=>rfl),jc rz1];subst hR;have sb2:U.Sub H1 (put H1 p2 (.lst (qs.map prV))):=Sub.put (Sub.refl _) hp2;have hp1t:=sb2 _ _ hp1s;have hx2:=sb2 _ _ hx1;have hp2s:put H1 p2 (.lst (qs.map prV)) p2=some (.lst (qs.map prV)):=ah;left;refine⟨qs,rfl,gq,c6,?_⟩
  try ac_rfl
  subst hR;have sb3:=sb1.trans sb2;generalize put H1 p2 (.lst (qs.map prV))=H2 at *;left;refine⟨_,hp2s,aA (by rw[kb];simp;omega) ?_⟩;right;refine⟨_,_,hx2,by simp,?_⟩;subst hR;have n1:p1≠x:=fun e=>by subst e;rw[hx2]at hp1t;cases hp1t
  have n2:p2≠x:=fun e=>by subst e;rw[hx2]at hp2s;cases hp2s
  left;refine⟨ps,(aq n1).trans hp1t,gp.nd,fun p hp=>?_,by omega,fun r1 ts hr1 pt st=>?_⟩
  ·have:=gp.lo p hp;omega
  try ac_rfl
  have nx1:x≠r1:=fun e=>by subst e;rw[ah]at hr1;cases hr1
  refine⟨_,_,(aq nx1).trans ah,KY dW (by decide),?_⟩;subst hR;have n3:p2≠r1:=fun e=>by subst e;rw[aq n2,hp2s]at hr1;cases hr1
  ac_rfl;refine⟨qs,(aq n2).trans ((aq n3).trans ((aq n2).trans hp2s)),gq.nd,fun p hp=>?_,by omega,fun r2 bs hr2 pb sb=>?_⟩
  ·have:=gq.lo p hp;omega
  try ac_rfl
  have nx2:x≠r2:=fun e=>by subst e;rw[ah]at hr2;cases hr2
  have ul:=fun f v fs=>@dW f v fs;refine⟨_,_,(aq nx2).trans ah,?_,put H x (.ins t.a_A dx (DF c ts bs)),lS ?_ ah,h ts bs pt st pb sb⟩
  ·have l1:=ul "ties" (.tup (ts.map prV)) (jo "count" (.int c) []);have l2:=ul "count" (.int c) [];simp only[JU]at l2;omega
  ·intro z o hzx hz;have hz2:=sb3 _ _ hz;have z1:z≠r1:=fun e=>by subst e;rw[aq hzx,hz2]at hr1;cases hr1
   have z2:z≠r2:=fun e=>by subst e;rw[aq hzx,aq z1,aq hzx,hz2]at hr2;cases hr2
   rw[aq hzx,aq z2,aq hzx,aq z1,aq hzx];exact hz2
 ·exact h.elim
theorem B5(T:Tx K mg t):aK P w K mg base CX0 1 t.a_zc t.d_zc ["self","name"] (dc t):=by
 refine okU (k:=0) T.F_zc Ef (fun vs H Q E h=>by
  unfold dc at h;split at h
  ·rfl
  ·exact h.elim) (fun cdv A outer s H E B hr=>⟨_,(ak (aN (ba (fh (cN ia h7 (qv 1) ar) (df (cN tX uY (qv 1) (bW (qv 0) T.cl_A T.nfA_count rfl)))))
  bw
  aB)),?_⟩)
 intro vs H Q E h;unfold dc at h;split at h
 ·rename_i x n;obtain⟨dx,c,ts,bs,hx,⟨h0,h1⟩,h⟩:=h;ac_rfl;exact aA (by simpa using h0) ⟨_,_,_,hx,rfl,aA (by simpa using h1) ⟨H,Sub.refl _,h⟩⟩
 ·exact h.elim
theorem BH(T:Tx K mg t):aK P w K mg base CX0 2 t.a_zg t.d_zg ["self","name"] (dD t):=by
 refine okU (k:=1) T.F_zg C6 (fun vs H Q E h=>by
  unfold dD at h;split at h
  ·rfl
  ·exact h.elim) (fun cdv A outer s H E B hr=>⟨_,(af (aM (aZ (qv 0) T.cl_A T.m_zc (B5 T) hr.mo T.B_zc (aa (qv 1) ae)))
  (ak (az (aL aJ a8 rfl T.b_tuple JL (aa (cE (N2:=nl3) (nt:=1) (js:=[1]) (ck (sc:=ai wx)) (aI (bW (qv 0) T.cl_A T.nfA_ties rfl)) (fun _ _ _ _=>⟨(gN 0 nn3),(aV (cN (a0 hr.units) bx (iX (qv 0) ar) (qv 1))),(iX (qv 0) ar)⟩)) ae))))),?_⟩)
 intro vs H Q E h;unfold dD at h;split at h
 ·rename_i x n;obtain⟨dx,c,ts,bs,hx,⟨h0,h1⟩,h15,h⟩:=h;ac_rfl;refine⟨⟨_,_,hx,rfl⟩,_,_,_,_,hx,⟨h0,h1⟩,_,_,_,hx,rfl,?_⟩;show ∀acc,H acc=none->_;intro acc hacc;refine aC g0 (at1 n) (fun σ=>∃z,σ=[z,some (.int n)]) (by rw[kb];omega) (fun _=>trivial) ?step ?fin ⟨_,rfl⟩
  case step =>
   rintro y hy l σ R ⟨z,rfl⟩ hl kT kF;obtain⟨p,hp,rfl⟩:=IF.mp hy;have e:at1 n (prV p)=decide (p.2=n):=rfl;rw[e]at kT kF;unfold prV at *;ac_rfl;refine aY (fun q=>?_) (fun q=>?_)
   ·exact⟨hl,by rw[aD];exact kT (by simpa using q) _ ⟨_,rfl⟩⟩
   ·exact kF (by simpa using q) _ ⟨_,rfl⟩
  case fin =>
   refine⟨_,ah,H,Sub.put (Sub.refl _) hacc,?_⟩;rw[src_list];exact h
 ·exact h.elim
theorem wC(T:Tx K mg t):aK P w K mg base CX0 2 t.a_zb t.d_zb ["self","name"] (cJ t):=by
 refine okU (k:=1) T.F_zb EF (fun vs H Q E h=>by
  unfold cJ at h;split at h
  ·rfl
  ·exact h.elim) (fun cdv A outer s H E B hr=>⟨_,(af (aM (aZ (qv 0) T.cl_A T.m_zc (B5 T) hr.mo T.B_zc (aa (qv 1) ae)))
  (ak (az (aL aJ a8 rfl T.b_tuple JL (aa (cE (N2:=nl3) (nt:=1) (js:=[1]) (ck (sc:=ai wX)) (aI (bW (qv 0) T.cl_A T.nfA_ties rfl)) (fun _ _ _ _=>⟨(gN 0 nn3),(aV (cN (a0 hr.units) bx (iX (qv 0) ar) (qv 1))),(iX (qv 0) ar)⟩)) ae))))),?_⟩)
 intro vs H Q E h;unfold cJ at h;split at h
 ·rename_i x n;obtain⟨dx,c,ts,bs,hx,⟨h0,h1⟩,h15,h⟩:=h;ac_rfl;refine⟨⟨_,_,hx,rfl⟩,_,_,_,_,hx,⟨h0,h1⟩,_,_,_,hx,rfl,?_⟩;show ∀acc,H acc=none->_;intro acc hacc;refine aC g1 (at0 n) (fun σ=>∃z,σ=[z,some (.int n)]) (by rw[kb];omega) (fun _=>trivial) ?step ?fin ⟨_,rfl⟩
  case step =>
   rintro y hy l σ R ⟨z,rfl⟩ hl kT kF;obtain⟨p,hp,rfl⟩:=IF.mp hy;have e:at0 n (prV p)=decide (p.1=n):=rfl;rw[e]at kT kF;unfold prV at *;ac_rfl;refine aY (fun q=>?_) (fun q=>?_)
   ·exact⟨hl,by rw[aD];exact kT (by simpa using q) _ ⟨_,rfl⟩⟩
   ·exact kF (by simpa using q) _ ⟨_,rfl⟩
  case fin =>
   refine⟨_,ah,H,Sub.put (Sub.refl _) hacc,?_⟩;rw[d4];exact h
 ·exact h.elim
theorem ES(T:Tx K mg t):aK P w K mg base CX0 1 t.a_zB t.d_zB ["_law_script","_law_k"] iy:=by
 refine okU (k:=0) T.F_zB C7 (fun vs H Q E h=>by
  unfold iy at h;split at h
  ·rfl
  ·exact h.elim) (fun cdv A outer s H E B hr=>⟨_,(af (aN (cN ia h7 (qv 1) (aw ay aU rfl T.b_len Jf (aa (qv 0) ae)))
  (ak (az (iX (qv 0) (qv 1))))
  aB)
  (ak (az ar))),?_⟩)
 intro vs H Q E h;unfold iy at h;split at h
 ·rename_i l k;obtain⟨⟨h0,h1⟩,ns,rfl,h⟩:=h;ac_rfl;by_cases hk:k<ns.length
  ·refine aG (by rw[kb];simpa using hk) ?_;rw[v7 h0 hk];exact⟨H,Sub.refl _,h⟩
  ·refine aA (by rw[kb];simpa using hk) ⟨H,Sub.refl _,?_⟩;rw[IE,KC (by omega)]at h;exact h
 ·exact h.elim
theorem Ff(T:Tx K mg t):aK P w K mg base CX0 1 t.a_yf t.d_yf ["count","names"] gC:=by
 refine okU (k:=0) T.F_yf qc (fun vs H Q E h=>by
  unfold gC at h;split at h
  ·rfl
  ·exact h.elim) (fun cdv A outer s H E B hr=>⟨_,(af (sN 2 qc.nd (cg ar))
  (af (bz Jk rfl (aI (qv 1)) (gN 3 qc.nd)
  (af (aN (ba (fh (cN yQ zh (qv 3) (qv 2)) (df (cN tX uY (qv 3) (qv 0)))))
   (ak (az bA))
   aB)
   (ak (sN 2 qc.nd (qv 3)))))
  (ak (az bA)))),?_⟩)
 intro vs H Q E h;unfold gC at h;split at h
 ·rename_i c l;obtain⟨L,rfl,hL,h⟩:=h;ac_rfl;refine bR (fun i σ H2=>∃z k,σ=[some (.int c),some (.tup (L.map PV.int)),some (.int z),k]/\H2=H/\∀j (hj:j<L.length),i≤j->z<L[j]) ?_ ?_ ⟨-1,none,rfl,rfl,fun j hj _=>by have:=(hL.lo _ (Ju hj)).1;omega⟩
  ·rintro σ H2 ⟨z,k,rfl,rfl,hz⟩;exact⟨trivial,H2,Sub.refl _,h⟩
  ·rintro G i y σ H2 hy ⟨z,k,rfl,rfl,hz⟩ kk;refine⟨trivial,?_⟩;obtain⟨hi,e⟩:=IM.mp hy;rw[kb]at hi;rw[List.getElem_map]at e;subst e;ac_rfl;have h1:=hz i hi (IS _);have h2:=hL.lo _ (Ju hi);exact aA (by simp;omega) (aA (by simp;omega) (kk _ _ ⟨_,_,rfl,rfl,fun j hj hij=>List.pairwise_iff_getElem.mp hL.up i j hi hj hij⟩))
 ·exact h.elim
theorem uN(T:Tx K mg t):aK P w K mg base CX0 2 t.a_zf t.d_zf ["self","names"] (dM t):=by
 refine okU (k:=1) T.F_zf DO (fun vs H Q E h=>by
  unfold dM at h;split at h
  ·rfl
  ·exact h.elim) (fun cdv A outer s H E B hr=>⟨_,(ak (aN (bO (aQ (au (Ff T) hr.mo rfl T.g_yf T.F_yf.kp T.B_yf (aa (bW (qv 0) T.cl_A T.nfA_count rfl) (aa (qv 1) ae)))))
  bw
  aB)),?_⟩)
 intro vs H Q E h;unfold dM at h;split at h
 ·rename_i x l;obtain⟨c,ts,L,⟨dx,bs,hx⟩,rfl,hL,h⟩:=h;ac_rfl;exact⟨_,_,_,hx,rfl,L,rfl,hL,H,Sub.refl _,h⟩
 ·exact h.elim
theorem ER(T:Tx K mg t):aK P w K mg base CX0 3 t.a_zd t.d_zd ["self","names"] (fC t swp):=by
 refine okU (k:=2) T.F_zd uK (fun vs H Q E h=>by
  unfold fC at h;split at h
  ·rfl
  ·exact h.elim) (fun cdv A outer s H E B hr=>⟨_,(af (aM (aZ (qv 0) T.cl_A T.m_zf (uN T) hr.mo T.B_zf (aa (qv 1) ae)))
  (af (sN 2 uK.nd (aL bM dI rfl T.b_list K7 (aa (qv 1) ae)))
  (af (bz Jk rfl (rP rfl T.b_range (aa (AD (bW (qv 0) T.cl_A T.nfA_count rfl) ar) (aa (cg ar) (aa (cg ar) ae)))) (gN 3 uK.nd)
  (ak (aN (cW (bL hr.units) bf (qv 3) (qv 2))
   (ak (aM (bV JM JN fB kL (qv 2) (aa (aZ (qv 0) T.cl_A T.m_zg (BH T) hr.mo T.B_zg (aa (qv 3) ae)) ae))))
   aB)))
  (ak (az (aL aJ a8 rfl T.b_tuple JL (aa (fg rfl hr.units rfl T.b_sorted rfl T.b_set boot_set (qv 2)) ae))))))),?_⟩)
 intro vs H Q E h;unfold fC at h;split at h
 ·rename_i x l;obtain⟨c,ts,L,⟨dx,bs,hx⟩,rfl,hL,hc,gt,h⟩:=h;have t15:=gt.len hc.2;have l6:=hL.len hc.2;ac_rfl;refine⟨⟨_,_,hx,rfl⟩,c,ts,L,⟨_,_,hx⟩,rfl,hL,fun p hp=>?_⟩;have nxp:=av hx hp;refine⟨_,_,_,(aq nxp).trans hx,rfl,?_⟩;show -1≤c - 1/\c - 1<1000/\_;refine⟨by omega,by omega,?_⟩;have ei:nC (c - 1) (c - 1+1).toNat=(dlN c).map PV.int:=by
   unfold nC dlN;rw[Jj,show c - 1+1=c by omega];rfl
  rw[ei];refine bR (fun i σ H2=>∃k F,σ=[some (.ref x),some (.tup (L.map PV.int)),some (.ref p),k]/\H2=put H p (.lst (F.map PV.int))/\F=((dlN c).take i).foldl (My.bJ (ts.map swp)) L/\F.length≤6+15*i) ?_ ?_ ⟨none,L,rfl,rfl,rfl,by omega⟩
  ·rintro σ H2 ⟨k,F,rfl,rfl,hF,hlen⟩;rw[kb,Jv]at hF;refine⟨trivial,?_⟩;ac_rfl;have iff:∀y,y∈F↔My.Reach (ts.map swp) L y:=fun y=>by rw[hF];exact vv gt y
   have lo:∀y∈F,0≤y/\y<c:=fun y hy=>mD (fun a b e=>mh gt true a b e) hL.lo ((iff y).mp hy);refine⟨F.map Int.toNat,by rw[ll fun y hy=>(by have:=lo y hy;omega)],fun n hn=>?_,fun r ms hr hs hm=>?_⟩
   ·obtain⟨z,hz,rfl⟩:=IF.mp hn;have:=lo z hz;omega
   ·obtain⟨q1,q2⟩:=jY hc.2 lo iff hs hm
    try ac_rfl
    refine⟨H,((Sub.refl H).put hp).put (((Sub.refl H).put hp).free hr),?_⟩;have:=h _ q1 q2;rw[Jj]at this;exact this
  ·rintro G i y σ H2 hy ⟨k,F,rfl,rfl,hF,hlen⟩ kk;refine⟨trivial,?_⟩;rw[IV]at hy;cases hn:(dlN c)[i]? with
   | none=>rw[hn]at hy;cases hy
   | some n =>
    rw[hn]at hy;cases hy;have hnm:=lq.mp (Ja hn);have hil:i<(dlN c).length:=(IM.mp hn).1;have hi6:i<6:=by unfold dlN at hil;rw[kb,JH]at hil;omega
    have hnx:((dlN c).take (i+1)).foldl (My.bJ (ts.map swp)) L=My.bJ (ts.map swp) F n:=by rw[g8 hn,← hF]
    have hpl:=j3 (E:=ts.map swp) (f:=F) (n:=n);rw[kb]at hpl;ac_rfl;refine⟨aE,?_⟩;rw[aO];refine o7 (fun hm=>?_) (fun hm=>?_)
    ·have e:My.bJ (ts.map swp) F n=F++(ts.filter (fun p=>decide (p.2=n))).map (·.1):=by
      unfold My.bJ;rw[IZ hm,mR]
     rw[e]at hnx hpl;refine⟨⟨_,rfl⟩,⟨_,_,(aq nxp).trans hx,rfl⟩,_,_,_,_,(aq nxp).trans hx,hnm,t15,?_⟩
     try ac_rfl
     rw[II]at hpl;unfold src;refine⟨ao (by rw[kb,kb];omega),kk _ _ ⟨_,F++(ts.filter (fun p=>decide (p.2=n))).map (·.1),rfl,?_,hnx.symm,?_⟩⟩
     ·rw[aD,IP]
     ·rw[II];omega
    ·have e:My.bJ (ts.map swp) F n=F:=by
      unfold My.bJ;rw[IX hm]
     rw[e]at hnx;exact kk _ _ ⟨_,F,rfl,rfl,hnx.symm,by omega⟩
 ·exact h.elim
theorem CP(T:Tx K mg t):aK P w K mg base CX0 2 t.a_zm t.d_zm ["self","name"] (fL t):=by
 refine okU (k:=1) T.F_zm u5 (fun vs H Q E h=>by
  unfold fL at h;split at h
  ·rfl
  ·exact h.elim) (fun cdv A outer s H E B hr=>⟨_,(af (aM (aZ (qv 0) T.cl_A T.m_zc (B5 T) hr.mo T.B_zc (aa (qv 1) ae)))
  (af (sC 2 u5.nd (N2:=nl4) (nt:=1) (js:=[1]) (ck (sc:=ai sM)) (aI (bW (qv 0) T.cl_A T.nfA_bows rfl)) (fun _ _ _ _=>⟨(gN 0 nn4),(aV (cN (a0 hr.units) bx (iX (qv 0) ar) (qv 1))),(iX (qv 0) ar)⟩))
  (af (sC 3 u5.nd (N2:=nl4) (nt:=1) (js:=[1]) (ck (sc:=ai sM)) (aI (bW (qv 0) T.cl_A T.nfA_bows rfl)) (fun _ _ _ _=>⟨(gN 0 nn4),(aV (cN (a0 hr.units) bx (iX (qv 0) ar) (qv 1))),(iX (qv 0) ar)⟩))
  (ak (az (aL aJ a8 rfl T.b_tuple JL (aa (cx (qv 2) (qv 3)) ae))))))),?_⟩)
 intro vs H Q E h;unfold fL at h;split at h
 ·rename_i x n;obtain⟨dx,c,ts,bs,hx,⟨h0,h1⟩,h15,h⟩:=h;have lf:∀(q:DM.P2->Bool) (g:DM.P2->Int),(((bs.filter q).map g).map PV.int).length≤15:=fun q g=>by
   rw[kb,kb];exact Jl (JD _ _) h15
  ac_rfl;refine⟨⟨_,_,hx,rfl⟩,_,_,_,_,hx,⟨h0,h1⟩,_,_,_,hx,rfl,?_⟩;show ∀acc,H acc=none->_;intro p1 hp1;refine aC g0 (at1 n) (fun σ=>∃z,σ=[z,some (.int n)]) (by rw[kb];omega) (fun _=>trivial) ?_ ?_ ⟨_,rfl⟩
  ·rintro y hy l σ R ⟨z,rfl⟩ hl kT kF;obtain⟨p,hp,rfl⟩:=IF.mp hy;have e:at1 n (prV p)=decide (p.2=n):=rfl;rw[e]at kT kF;unfold prV at *;ac_rfl;refine aY (fun q=>?_) (fun q=>?_)
   ·exact⟨hl,by rw[aD];exact kT (by simpa using q) _ ⟨_,rfl⟩⟩
   ·exact kF (by simpa using q) _ ⟨_,rfl⟩
  rw[src_list];refine⟨_,_,_,(aq (av hx hp1)).trans hx,rfl,?_⟩;show ∀acc,put H p1 _ acc=none->_;intro p2 hp2;have n12:p1≠p2:=fun e=>by subst e;rw[ah]at hp2;cases hp2
  have sa:=(Sub.refl H).put (o:=.lst (((bs.filter (fun p=>decide (p.2=n))).map (·.1)).map PV.int)) hp1;refine aC g1 (at0 n) (fun σ=>∃z,σ=[z,some (.int n)]) (by rw[kb];omega) (fun _=>trivial) ?_ ?_ ⟨_,rfl⟩
  ·rintro y hy l σ R ⟨z,rfl⟩ hl kT kF;obtain⟨p,hp,rfl⟩:=IF.mp hy;have e:at0 n (prV p)=decide (p.1=n):=rfl;rw[e]at kT kF;unfold prV at *;ac_rfl;refine aY (fun q=>?_) (fun q=>?_)
   ·exact⟨hl,by rw[aD];exact kT (by simpa using q) _ ⟨_,rfl⟩⟩
   ·exact kF (by simpa using q) _ ⟨_,rfl⟩
  rw[d4];have sb:=sa.put (o:=.lst (((bs.filter (fun p=>decide (p.1=n))).map (·.2)).map PV.int)) (sa.free hp2);refine⟨_,_,(aq n12).trans ah,ah,ao (by have a1:=lf (fun p=>decide (p.2=n)) (·.1);have a2:=lf (fun p=>decide (p.1=n)) (·.2);omega),fun p3 hp3=>?_⟩
  try ac_rfl
  refine⟨H,sb.put (sb.free hp3),?_⟩;rw[←IP];exact h
 ·exact h.elim
theorem Gf(T:Tx K mg t):aK P w K mg base CX0 3 t.a_zs t.d_zs ["self","count","ties","bows"] (gz t):=by
 refine okU (k:=2) T.F_zs kn (fun vs H Q E h=>by
  unfold gz at h;split at h
  ·rfl
  ·exact h.elim) (fun cdv A outer s H E B hr=>⟨_,(af (aN (ba (fh (cN ia h7 (qv 1) ar) (df (cN fb fe (qv 1) (gy (v':=.int 6) rfl T.c_MOST_NAMES (fun _=>by simp[RP]))))))
  bw
  aB)
  (af (sC 4 kn.nd (N2:=nl1) (nt:=1) (js:=[]) (ck (sc:=ai oR)) (aI (qv 2)) (fun _ _ _ _=>⟨(gN 0 nn1),a9,(aL aJ a8 rfl T.b_tuple JL (aa (qv 0) ae))⟩))
  (af (aN (bO (aQ (au (xg T) hr.mo rfl T.g_zO T.F_zO.kp T.B_zO (aa (qv 1) (aa (qv 4) ae)))))
  bw
  aB)
  (af (sC 5 kn.nd (N2:=nl2) (nt:=1) (js:=[]) (ck (sc:=ai oR)) (aI (qv 3)) (fun _ _ _ _=>⟨(gN 0 nn2),a9,(aL aJ a8 rfl T.b_tuple JL (aa (qv 0) ae))⟩))
  (af (aN (bO (aQ (au (xg T) hr.mo rfl T.g_zO T.F_zO.kp T.B_zO (aa (qv 1) (aa (qv 5) ae)))))
  bw
  aB)
  (af (aN (cN fb fe (aw ay aU rfl T.b_len Jf (aa (qv 5) ae)) (gy (v':=.int 6) rfl T.c_MOST_BOWS (fun _=>by simp[RP])))
  bw
  aB)
  (af (gT (qv 0) (qv 1) T.cl_A T.nfA_count rfl)
  (af (gT (qv 0) (aL aJ a8 rfl T.b_tuple JL (aa (aw dO gg rfl T.b_sorted boot_sorted (aa (qv 4) ae)) ae)) T.cl_A T.nfA_ties rfl)
  (ak (gT (qv 0) (aL aJ a8 rfl T.b_tuple JL (aa (aw dO gg rfl T.b_sorted boot_sorted (aa (qv 5) ae)) ae)) T.cl_A T.nfA_bows rfl)))))))))),?_⟩)
 intro vs H Q E h;unfold gz at h;split at h
 ·rename_i x c a l;obtain⟨dx,ys,ps,qs,hx,ha,rfl,ry,gp,gq,⟨c1,c6,q6⟩,h⟩:=h;have hp15:=gp.len c6;have hq15:=gq.len c6;left;refine aA (by simp;omega) (aA (by simp;omega) ?_);right;refine⟨_,ha,fun p1 hp1=>?_⟩;refine aC (mn H) (fun _=>true) (fun σ=>∃z,σ=[z]) (by rw[ry.length];omega) (fun l=>(aq (av ha hp1)).trans ha) ?_ ?_ ⟨_,rfl⟩
  ·rintro y hy l σ R' ⟨z,rfl⟩ hl kT kF;obtain⟨p,hp,row⟩:=i6 ry hy;rcases row with rfl |⟨r,rfl,hr⟩
   ·unfold prV;ac_rfl;exact⟨hl,by rw[aD];exact kT rfl _ ⟨_,rfl⟩⟩
   ·rw[di hr]at kT;ac_rfl;exact⟨_,(aq (av hr hp1)).trans hr,hl,by rw[aD];exact kT rfl _ ⟨_,rfl⟩⟩
  rw[JC.mpr (fun _ _=>rfl),jc ry];subst hR;have sb1:U.Sub H (put H p1 (.lst (ps.map prV))):=Sub.put (Sub.refl _) hp1;left;refine⟨ps,rfl,gp,c6,?_⟩
  try ac_rfl
  subst hR;have hp1s:put H p1 (.lst (ps.map prV)) p1=some (.lst (ps.map prV)):=ah;have hx1:=sb1 _ _ hx;generalize put H p1 (.lst (ps.map prV))=H1 at *;left;show ∀acc,H1 acc=none->_;intro p2 hp2;refine aC (fun y=>y) (fun _=>true) (fun σ=>∃z,σ=[z]) (by rw[kb];omega) (fun l=>trivial) ?_ ?_ ⟨_,rfl⟩
  ·rintro y hy l σ R' ⟨z,rfl⟩ hl kT kF;obtain⟨p,hp,rfl⟩:=IF.mp hy;unfold prV;ac_rfl;exact⟨hl,by rw[aD];exact kT rfl _ ⟨_,rfl⟩⟩
  rw[JC.mpr (fun _ _=>rfl),List.map_id'' (fun _=>rfl)];subst hR;have sb2:U.Sub H1 (put H1 p2 (.lst (qs.map prV))):=Sub.put (Sub.refl _) hp2;have hp1t:=sb2 _ _ hp1s;have hx2:=sb2 _ _ hx1;have hp2s:put H1 p2 (.lst (qs.map prV)) p2=some (.lst (qs.map prV)):=ah;left;refine⟨qs,rfl,gq,c6,?_⟩
  try ac_rfl
  subst hR;have sb3:=sb1.trans sb2;generalize put H1 p2 (.lst (qs.map prV))=H2 at *;left;refine⟨_,hp2s,aA (by rw[kb];simp;omega) ?_⟩;right;refine⟨_,_,hx2,by simp,?_⟩;subst hR;have n1:p1≠x:=fun e=>by subst e;rw[hx2]at hp1t;cases hp1t
  have n2:p2≠x:=fun e=>by subst e;rw[hx2]at hp2s;cases hp2s
  left;refine⟨ps,(aq n1).trans hp1t,gp.nd,fun p hp=>?_,by omega,fun r1 ts hr1 pt st=>?_⟩
  ·have:=gp.lo p hp;omega
  try ac_rfl
  have nx1:x≠r1:=fun e=>by subst e;rw[ah]at hr1;cases hr1
  refine⟨_,_,(aq nx1).trans ah,KY dW (by decide),?_⟩;subst hR;have n3:p2≠r1:=fun e=>by subst e;rw[aq n2,hp2s]at hr1;cases hr1
  ac_rfl;refine⟨qs,(aq n2).trans ((aq n3).trans ((aq n2).trans hp2s)),gq.nd,fun p hp=>?_,by omega,fun r2 bs hr2 pb sb=>?_⟩
  ·have:=gq.lo p hp;omega
  try ac_rfl
  have nx2:x≠r2:=fun e=>by subst e;rw[ah]at hr2;cases hr2
  have ul:=fun f v fs=>@dW f v fs;refine⟨_,_,(aq nx2).trans ah,?_,put H x (.ins t.a_A dx (DF c ts bs)),lS ?_ ah,h ts bs pt st pb sb⟩
  ·have l1:=ul "ties" (.tup (ts.map prV)) (jo "count" (.int c) []);have l2:=ul "count" (.int c) [];simp only[JU]at l2;omega
  ·intro z o hzx hz;have hz2:=sb3 _ _ hz;have z1:z≠r1:=fun e=>by subst e;rw[aq hzx,hz2]at hr1;cases hr1
   have z2:z≠r2:=fun e=>by subst e;rw[aq hzx,aq z1,aq hzx,hz2]at hr2;cases hr2
   rw[aq hzx,aq z2,aq hzx,aq z1,aq hzx];exact hz2
 ·exact h.elim
theorem Ii(T:Tx K mg t):aK P w K mg base CX0 3 t.a_zN t.d_zN ["drawing","sets"] (c9 t):=by
 refine okU (k:=2) T.F_zN zf (fun vs H Q E h=>by
  unfold c9 at h;split at h
  ·rfl
  ·exact h.elim) (fun cdv A outer s H E B hr=>⟨_,(ak (bz Jk rfl (aI (qv 1)) (gN 2 zf.nd)
  (ak (aM (aZ (qv 0) T.cl_A T.m_zf (uN T) hr.mo T.B_zf (aa (qv 2) ae)))))),?_⟩)
 intro vs H Q E h;unfold c9 at h;split at h
 ·rename_i x a;obtain⟨c,ts,bs,Ls,⟨dx,hx⟩,ha,hL,h⟩:=h;ac_rfl;refine⟨_,ha,?_⟩;refine bR (fun i σ H2=>∃z,σ=[some (.ref x),some (.ref a),z]/\H2=H) ?_ ?_ ⟨none,rfl,rfl⟩
  ·rintro σ H2 ⟨z,rfl,rfl⟩;exact⟨ha,H2,Sub.refl _,h⟩
  ·rintro G i y σ H2 hy ⟨z,rfl,rfl⟩ kk;refine⟨ha,?_⟩;obtain⟨M,hM,rfl⟩:=IF.mp (Ja hy);unfold tupI;ac_rfl;exact⟨⟨_,_,hx,rfl⟩,c,ts,M,⟨_,_,hx⟩,rfl,hL M hM,kk _ _ ⟨_,rfl,rfl⟩⟩
 ·exact h.elim
theorem GF(T:Tx K mg t):aK P w K mg base CX0 1 t.a_zJ t.d_zJ ["sets"] cF:=by
 refine okU (k:=0) T.F_zJ sm (fun vs H Q E h=>by
  unfold cF at h;split at h
  ·rfl
  ·exact h.elim) (fun cdv A outer s H E B hr=>⟨_,(af (sN 1 sm.nd (bh ae))
  (af (bz Jk rfl (aI (qv 0)) (gN 2 sm.nd)
  (ak (aM (bV JM JN fB kL (qv 1) (aa (qv 2) ae)))))
  (ak (aN (cN gK g7 (lQ rfl rfl T.b_len rfl T.b_set boot_set (qv 1)) (aw ay aU rfl T.b_len Jf (aa (qv 1) ae)))
  bw
  aB)))),?_⟩)
 intro vs H Q E h;unfold cF at h;split at h
 ·rename_i a;obtain⟨Ls,ha,hl,nd,h⟩:=h;have f6:=My.bI 6 _ nd (fun x hx=>by obtain⟨L,hL,hx⟩:=List.mem_flatten.mp hx;exact hl L hL x hx);ac_rfl;refine⟨ao (by decide),fun p hp=>⟨_,(aq (av ha hp)).trans ha,?_⟩⟩;have nap:=av ha hp;have hpa:∀o,put H p o a=some (.lst (Ls.map tupI)):=fun o=>(aq nap).trans ha;refine bR (fun i σ H2=>∃z,σ=[some (.ref a),some (.ref p),z]/\H2=put H p (.lst (((Ls.take i).flatten).map PV.int))) ?_ ?_ ⟨none,rfl,by simp⟩
  ·rintro σ H2 ⟨z,rfl,rfl⟩;refine⟨hpa _,?_⟩;rw[kb,Jv];ac_rfl;have ng:∀y∈Ls.flatten,0≤y/\y<6:=fun x hx=>by obtain⟨L,hL,hx⟩:=List.mem_flatten.mp hx;exact hl L hL x hx
   refine⟨Ls.flatten.map Int.toNat,by rw[ll ng],fun n hn=>?_,?_,?_⟩
   ·obtain⟨z,hz,rfl⟩:=IF.mp hn;have:=ng z hz;omega
   ·rw[Jr,JQ];refine KJ (fun {x y} hx hy hxy=>?_) (Jr.mp nd);have h1:=ng x hx;have h2:=ng y hy;omega
   ·exact aA (by rw[kb,kb];simp) ⟨H,Sub.put (Sub.refl _) hp,h⟩
  ·rintro G i y σ H2 hy ⟨z,rfl,rfl⟩ kk;refine⟨hpa _,?_⟩;rw[IV]at hy;obtain⟨M,hM,rfl⟩:=Jp.mp hy;have e:(Ls.take (i+1)).flatten=(Ls.take i).flatten++M:=by rw[Ke,hM];simp
   have l1:((Ls.take (i+1)).flatten).length≤Ls.flatten.length:=by
    conv=>rhs;rw[←List.take_append_drop (i+1) Ls,List.flatten_append,II]
    omega
   rw[e,II]at l1;unfold tupI;ac_rfl;exact⟨⟨_,rfl⟩,ao (by rw[kb,kb];omega),kk _ _ ⟨_,rfl,by rw[aD,← IP,e]⟩⟩
 ·exact h.elim
theorem yu(T:Tx K mg t):aK P w K mg base CX0 4 t.a_zv t.d_zv ["drawing","ones","others","given"] (dA t):=by
 refine okU (k:=3) T.F_zv Cp (fun vs H Q E h=>by
  unfold dA at h;split at h
  ·rfl
  ·exact h.elim) (fun cdv A outer s H E B hr=>⟨_,(af (aM (au (Ii T) hr.mo rfl T.g_zN T.F_zN.kp T.B_zN (aa (qv 0) (aa (bh (aa (qv 1) (aa (qv 2) (aa (qv 3) ae)))) ae))))
  (af (aM (au (GF T) hr.mo rfl T.g_zJ T.F_zJ.kp T.B_zJ (aa (bh (aa (qv 1) (aa (qv 2) (aa (qv 3) ae)))) ae)))
  (ak (aN (ba (fh (cN (a0 hr.units) bx (aw ay aU rfl T.b_len Jf (aa (qv 1) ae)) ar) (df (cN (a0 hr.units) bx (aw ay aU rfl T.b_len Jf (aa (qv 2) ae)) ar))))
  bw
  aB)))),?_⟩)
 intro vs H Q E h;unfold dA at h;split at h
 ·rename_i x l m n;obtain⟨c,ts,bs,A,B,G,dr,c6,rfl,rfl,rfl,ap,h⟩:=h;left;refine⟨ao (by decide),fun p hp=>⟨c,ts,bs,[A,B,G],dr.up ((Sub.refl H).put hp),rfl,?_,?_⟩⟩
  ·intro L hL;simp only[IY,Ki,or_false]at hL;rcases hL with rfl | rfl | rfl
   ·exact ap.a
   ·exact ap.b
   ·exact ap.g
  have s1:=(Sub.refl H).put (o:=.lst [PV.tup (A.map PV.int),.tup (B.map PV.int),.tup (G.map PV.int)]) hp;generalize put H p (.lst [PV.tup (A.map PV.int),.tup (B.map PV.int),.tup (G.map PV.int)])=H1 at *;right;refine⟨ao (by decide),fun p2 hp2=>⟨[A,B,G],rfl,?_,ap.nd,?_⟩⟩
  ·intro L hL x hx;simp only[IY,Ki,or_false]at hL;rcases hL with rfl | rfl | rfl
   ·have:=ap.a.lo x hx;omega
   ·have:=ap.b.lo x hx;omega
   ·have:=ap.g.lo x hx;omega
  have s2:=s1.put (o:=.lst [PV.tup (A.map PV.int),.tup (B.map PV.int),.tup (G.map PV.int)]) (s1.free hp2);subst hR;ac_rfl;have na:=ap.na;have nb:=ap.nb;exact aA (by rw[kb];simpa using na) (aA (by rw[kb];simpa using nb) ⟨H,s2,h⟩)
 ·exact h.elim
theorem G6(T:Tx K mg t):aK P w K mg base CX0 1 t.a_zx t.d_zx ["step"] kH:=by
 refine okU (k:=0) T.F_zx Df (fun vs H Q E h=>by
  unfold kH at h;split at h
  ·rfl
  ·exact h.elim) (fun cdv A outer s H E B hr=>⟨_,(ak (az (bK gK g7 (iX (qv 0) ar) iW (bS _)))),?_⟩)
 intro vs H Q E h;unfold kH at h;split at h
 ·rename_i x k y;ac_rfl;exact⟨H,Sub.refl _,h⟩
 ·exact h.elim
theorem Hk(T:Tx K mg t):aK P w K mg base CX0 1 t.a_zi t.d_zi ["step"] kK:=by
 refine okU (k:=0) T.F_zi D7 (fun vs H Q E h=>by
  unfold kK at h;split at h
  ·rfl
  ·exact h.elim) (fun cdv A outer s H E B hr=>⟨_,(ak (az (bK gK g7 (iX (qv 0) ar) iW (bS _)))),?_⟩)
 intro vs H Q E h;unfold kK at h;split at h
 ·rename_i x k y;ac_rfl;exact⟨H,Sub.refl _,h⟩
 ·exact h.elim
theorem CF(T:Tx K mg t):aK P w K mg base CX0 2 t.a_zL t.d_zL ["step","behind"] iB:=by
 refine okU (k:=1) T.F_zL CK (fun vs H Q E h=>by
  unfold iB at h;split at h
  ·rfl
  ·exact h.elim) (fun cdv A outer s H E B hr=>⟨_,(ak (az (cb (au (G6 T) hr.mo rfl T.g_zx T.F_zx.kp T.B_zx (aa (qv 0) ae)) (cw (au (Hk T) hr.mo rfl T.g_zi T.F_zi.kp T.B_zi (aa (qv 1) ae)))))),?_⟩)
 intro vs H Q E h;unfold iB at h;split at h
 ·rename_i x y;obtain⟨s,s',rfl,rfl,h⟩:=h;unfold stV;ac_rfl;unfold mtg at h;refine aY (fun q=>⟨H,Sub.refl _,?_⟩) (fun q=>⟨H,Sub.refl _,?_⟩)
  ·simp only[q,Bool.true_and]at h;exact h
  ·simp only[q,Bool.false_and]at h;exact h
 ·exact h.elim
theorem G3(T:Tx K mg t):aK P w K mg base CX0 3 t.a_zR t.d_zR ["step","behind","given","above"] eP:=by
 refine okU (k:=2) T.F_zR Ck (fun vs H Q E h=>by
  unfold eP at h;split at h
  ·rfl
  ·exact h.elim) (fun cdv A outer s H E B hr=>⟨_,(af (aN (aQ (au (CF T) hr.mo rfl T.g_zL T.F_zL.kp T.B_zL (aa (qv 0) (aa (qv 1) ae))))
  (ak (az (bK (bL hr.units) bf (iX (qv 0) ar) (qv 3) (by with_unfolding_all rfl))))
  aB)
  (ak (az (bK (aW hr.units) bf (iX (qv 0) ar) (qv 2) (by with_unfolding_all rfl))))),?_⟩)
 intro vs H Q E h;unfold eP at h;split at h
 ·rename_i x y l m;obtain⟨s,s',G,A,rfl,rfl,rfl,rfl,h⟩:=h;unfold psd at h;unfold stV;ac_rfl;refine⟨s,s',rfl,rfl,?_⟩;refine aY (fun q=>?_) (fun q=>?_)
  ·rw[IZ q]at h;exact⟨aE,H,Sub.refl _,by rw[aO];exact h⟩
  ·rw[IX (by rw[q];decide)]at h;exact⟨aE,H,Sub.refl _,by rw[aO];exact h⟩
 ·exact h.elim
theorem D4(T:Tx K mg t):aK P w K mg base CX0 3 t.a_zM t.d_zM ["drawing","name"] (gx t):=by
 refine okU (k:=2) T.F_zM pZ (fun vs H Q E h=>by
  unfold gx at h;split at h
  ·rfl
  ·exact h.elim) (fun cdv A outer s H E B hr=>⟨_,(af (sC 2 pZ.nd (N2:=nl5) (nt:=1) (js:=[1]) (ck (sc:=ai rM)) (aI (aZ (qv 0) T.cl_A T.m_zb (wC T) hr.mo T.B_zb (aa (qv 1) ae))) (fun _ _ _ _=>⟨(gN 0 nn5),a9,(bg (aa (qv 1) (aa iW (aa (qv 0) ae))))⟩))
  (af (sC 3 pZ.nd (N2:=nl5) (nt:=1) (js:=[1]) (ck (sc:=ai rM)) (aI (aZ (qv 0) T.cl_A T.m_zg (BH T) hr.mo T.B_zg (aa (qv 1) ae))) (fun _ _ _ _=>⟨(gN 0 nn5),a9,(bg (aa (qv 1) (aa iW (aa (qv 0) ae))))⟩))
  (af (sC 4 pZ.nd (N2:=nl5) (nt:=1) (js:=[1]) (ck (sc:=ai rM)) (aI (aZ (qv 0) T.cl_A T.m_zm (CP T) hr.mo T.B_zm (aa (qv 1) ae))) (fun _ _ _ _=>⟨(gN 0 nn5),a9,(bg (aa (qv 1) (aa iW (aa (qv 0) ae))))⟩))
  (ak (az (cx (cx (qv 2) (qv 3)) (qv 4))))))),?_⟩)
 intro vs H Q E h;unfold gx at h;split at h
 ·rename_i x n;obtain⟨c,ts,bs,⟨dx,hx⟩,ok,hn,h⟩:=h;have t15:=ok.gt.len ok.c6;have b15:=ok.gb.len ok.c6;have lf:=cp ok.gt ok.c6 n;have lu:=cC ok.gt ok.c6 n;have lb:=dH ok.gb ok.c6 n;have s0:=Sub.refl H;left;refine⟨⟨_,_,hx,rfl⟩,dx,c,ts,bs,hx,hn,t15,?_⟩;show ∀acc,H acc=none->_;intro p1 hp1;refine aC (fun y=>PV.tup [.int n,.str "down",y]) (fun _=>true) (fun σ=>∃z,σ=[z,some (.int n)]) (by rw[kb];exact Jl (cp ok.gt ok.c6 n) (by decide)) (fun _=>trivial) ?_ ?_ ⟨_,rfl⟩
  ·rintro y hy l σ R' ⟨z,rfl⟩ hl kT kF;obtain⟨k,hk,rfl⟩:=IF.mp hy;ac_rfl;exact⟨ao (by decide),hl,by rw[aD];exact kT rfl _ ⟨_,rfl⟩⟩
  rw[nN];subst hR;have s1:=s0.put (o:=.lst (((fol ts n).map fun m=>((n,"down",m):Sp3)).map stV)) (s0.free hp1);have e1:put H p1 (.lst (((fol ts n).map fun m=>((n,"down",m):Sp3)).map stV)) p1=some (.lst (((fol ts n).map fun m=>((n,"down",m):Sp3)).map stV)):=ah;generalize put H p1 (.lst (((fol ts n).map fun m=>((n,"down",m):Sp3)).map stV))=H1 at *;left;refine⟨⟨_,_,s1 _ _ hx,rfl⟩,dx,c,ts,bs,s1 _ _ hx,hn,t15,?_⟩;show ∀acc,H1 acc=none->_;intro p2 hp2;refine aC (fun y=>PV.tup [.int n,.str "up",y]) (fun _=>true) (fun σ=>∃z,σ=[z,some (.int n)]) (by rw[kb];exact Jl (cC ok.gt ok.c6 n) (by decide)) (fun _=>trivial) ?_ ?_ ⟨_,rfl⟩
  ·rintro y hy l σ R' ⟨z,rfl⟩ hl kT kF;obtain⟨k,hk,rfl⟩:=IF.mp hy;ac_rfl;exact⟨ao (by decide),hl,by rw[aD];exact kT rfl _ ⟨_,rfl⟩⟩
  rw[nN];subst hR;have s2:=s1.put (o:=.lst (((src ts n).map fun m=>((n,"up",m):Sp3)).map stV)) (s1.free hp2);have e2:put H1 p2 (.lst (((src ts n).map fun m=>((n,"up",m):Sp3)).map stV)) p2=some (.lst (((src ts n).map fun m=>((n,"up",m):Sp3)).map stV)):=ah;have e1:put H1 p2 (.lst (((src ts n).map fun m=>((n,"up",m):Sp3)).map stV)) p1=some (.lst (((fol ts n).map fun m=>((n,"down",m):Sp3)).map stV)):=(aq (av e1 hp2)).trans e1;generalize put H1 p2 (.lst (((src ts n).map fun m=>((n,"up",m):Sp3)).map stV))=H2 at *;left;refine⟨⟨_,_,s2 _ _ hx,rfl⟩,dx,c,ts,bs,s2 _ _ hx,hn,b15,?_⟩;show ∀acc,H2 acc=none->_;intro p3 hp3;refine aC (fun y=>PV.tup [.int n,.str "bow",y]) (fun _=>true) (fun σ=>∃z,σ=[z,some (.int n)]) (by rw[kb];exact Jl (dH ok.gb ok.c6 n) (by decide)) (fun _=>trivial) ?_ ?_ ⟨_,rfl⟩
  ·rintro y hy l σ R' ⟨z,rfl⟩ hl kT kF;obtain⟨k,hk,rfl⟩:=IF.mp hy;ac_rfl;exact⟨ao (by decide),hl,by rw[aD];exact kT rfl _ ⟨_,rfl⟩⟩
  rw[nN];subst hR;have s3:=s2.put (o:=.lst (((bwd bs n).map fun m=>((n,"bow",m):Sp3)).map stV)) (s2.free hp3);have e3:put H2 p3 (.lst (((bwd bs n).map fun m=>((n,"bow",m):Sp3)).map stV)) p3=some (.lst (((bwd bs n).map fun m=>((n,"bow",m):Sp3)).map stV)):=ah;have e1:put H2 p3 (.lst (((bwd bs n).map fun m=>((n,"bow",m):Sp3)).map stV)) p1=some (.lst (((fol ts n).map fun m=>((n,"down",m):Sp3)).map stV)):=(aq (av e1 hp3)).trans e1;have e2:put H2 p3 (.lst (((bwd bs n).map fun m=>((n,"bow",m):Sp3)).map stV)) p2=some (.lst (((src ts n).map fun m=>((n,"up",m):Sp3)).map stV)):=(aq (av e2 hp3)).trans e2;generalize put H2 p3 (.lst (((bwd bs n).map fun m=>((n,"bow",m):Sp3)).map stV))=H3 at *;ac_rfl;refine⟨_,_,e1,e2,ao (by simp only[kb];omega),fun p4 hp4=>⟨_,_,rfl,(aq (av e3 hp4)).trans e3,ao (by simp only[kb,II];omega),fun p5 hp5=>?_⟩⟩;have s4:=s3.put (o:=.lst ((((fol ts n).map fun m=>((n,"down",m):Sp3)).map stV)++(((src ts n).map fun m=>((n,"up",m):Sp3)).map stV))) (s3.free hp4);refine⟨_,Sub.refl _,h p5 _ (s4.free hp5) (s4.put (s4.free hp5)) ?_⟩;rw[ah,stp,IP,IP]
 ·exact h.elim
theorem G4(T:Tx K mg t):aK P w K mg base CX0 1 t.a_zX t.d_zX ["road"] fO:=by
 refine okU (k:=0) T.F_zX EH (fun vs H Q E h=>by
  unfold fO at h;split at h
  ·rfl
  ·exact h.elim) (fun cdv A outer s H E B hr=>⟨_,(ak (az (cx (bh (aa (iX (iX (qv 0) ar) ar) ae)) (cE (N2:=nl6) (nt:=1) (js:=[]) (ck (sc:=ai wa)) (aI (qv 0)) (fun _ _ _ _=>⟨(gN 0 nn6),a9,(iX (qv 0) ar)⟩))))),?_⟩)
 intro vs H Q E h;unfold fO at h;split at h
 ·rename_i a;obtain⟨road,ha,ne,hl,h⟩:=h;cases road with
  | nil=>exact absurd rfl ne
  | cons s0 r0 =>
  ac_rfl;refine⟨_,ha,?_⟩;have e0:atI (stV s0::r0.map stV) 0=some (stV s0):=by
   have:=cQ (l:=stV s0::r0.map stV) (i:=0) (by simp);exact this
  rw[Jb,e0];unfold stV;ac_rfl;refine⟨ao (by decide),fun p1 hp1=>?_⟩;have e1:put H p1 (.lst [PV.int s0.1]) p1=some (.lst [PV.int s0.1]):=ah;have a1:put H p1 (.lst [PV.int s0.1]) a=some (.lst ((s0::r0).map stV)):=(aq (av ha hp1)).trans ha;have s1:=(Sub.refl H).put (o:=.lst [PV.int s0.1]) hp1;generalize put H p1 (.lst [PV.int s0.1])=H1 at *;refine⟨_,a1,fun acc hacc=>?_⟩;have na:=av a1 hacc;refine aC g32 (fun _=>true) (fun σ=>∃z,σ=[z]) (by rw[kb];omega) (fun _=>(aq na).trans a1) ?_ ?_ ⟨_,rfl⟩
  ·rintro y hy l σ R' ⟨z,rfl⟩ hl' kT kF;obtain⟨s,hs,rfl⟩:=IF.mp hy;unfold stV at *;ac_rfl;exact⟨hl',by rw[aD];exact kT rfl _ ⟨_,rfl⟩⟩
  rw[Ek];ac_rfl;refine⟨_,_,(aq (av e1 hacc)).trans e1,rfl,ao (by simp at hl ⊢;omega),fun p3 hp3=>⟨_,Sub.refl _,h p3 _ ?_ ?_ ?_⟩⟩
  ·exact(s1.put (s1.free hacc)).free hp3
  ·have s2:=s1.put (o:=.lst (((s0::r0).map (·.2.2)).map PV.int)) (s1.free hacc);exact s2.put (s2.free hp3)
  ·rw[ah];rfl
 ·exact h.elim
theorem HH(T:Tx K mg t):aK P w K mg base CX0 3 t.a_yb t.d_yb ["road"] fN:=by
 refine okU (k:=2) T.F_yb CJ (fun vs H Q E h=>by
  unfold fN at h;split at h
  ·rfl
  ·exact h.elim) (fun cdv A outer s H E B hr=>⟨_,(ak (az (m7 (N2:=nl7) (nt:=2) (js:=[]) (ck (sc:=ai wU)) rfl (Bc rfl T.b_zip (aa (jx (qv 0) iD (eh (cg ar))) (aa (jx (qv 0) (eh ar) iD) ae))) (fun _ _ _ _=>⟨(dz (n:=2) rfl (aX (gN 0 nn7) (aX (gN 1 nn7) cu))),(aV (aQ (au (CF T) hr.mo rfl T.g_zL T.F_zL.kp T.B_zL (aa (qv 0) (aa (qv 1) ae))))),(iX (qv 0) ar)⟩)))),?_⟩)
 intro vs H Q E h;unfold fN at h;split at h
 ·rename_i a;obtain⟨road,ha,hl,h⟩:=h;ac_rfl;refine⟨_,ha,fun p1 hp1=>⟨_,(aq (av ha hp1)).trans ha,fun p2 hp2=>?_⟩⟩;rw[nF,vh]at *;have s1:=(Sub.refl H).put (o:=.lst (road.dropLast.map stV)) hp1;have s2:=s1.put (o:=.lst (road.tail.map stV)) (s1.free hp2);have n12:p1≠p2:=fun e=>by subst e;rw[ah]at hp2;cases hp2
  have e1:put (put H p1 (.lst (road.dropLast.map stV))) p2 (.lst (road.tail.map stV)) p1=some (.lst (road.dropLast.map stV)):=(aq n12).trans ah;have e2:put (put H p1 (.lst (road.dropLast.map stV))) p2 (.lst (road.tail.map stV)) p2=some (.lst (road.tail.map stV)):=ah;generalize put (put H p1 (.lst (road.dropLast.map stV))) p2 (.lst (road.tail.map stV))=H2 at *;refine⟨_,_,e1,rfl,fun acc hacc=>?_⟩;have f1:=av e1 hacc;have f2:=av e2 hacc;refine aC mtN mtF (fun σ=>∃z y,σ=[z,y]) (by rw[iP,kb,kb,List.length_dropLast];omega) (fun _=>⟨(aq f1).trans e1,(aq f2).trans e2⟩) ?_ ?_ ⟨_,_,rfl⟩
  ·rintro y hy l σ R' ⟨z,z2,rfl⟩ hl' kT kF;obtain⟨u,hu,v,hv,rfl⟩:=wW hy;obtain⟨s,hs,rfl⟩:=IF.mp hu;obtain⟨s',hs',rfl⟩:=IF.mp hv;have e:mtF (.tup [stV s,stV s'])=mtg s s':=rfl;rw[e]at kT kF;unfold stV at *;ac_rfl;refine⟨s,s',rfl,rfl,?_⟩;exact aY (fun q=>⟨hl',by rw[aD];exact kT q _ ⟨_,_,rfl⟩⟩) (fun q=>kF q _ ⟨_,_,rfl⟩)
  rw[p9];exact⟨_,Sub.refl _,h acc _ (s2.free hacc) (s2.put (s2.free hacc)) ah⟩
 ·exact h.elim
theorem FK(T:Tx K mg t):aK P w K mg base CX0 3 t.a_zp t.d_zp ["drawing","standing","given","above"] (d9 t):=by
 refine okU (k:=2) T.F_zp qw (fun vs H Q E h=>by
  unfold d9 at h;split at h
  ·rfl
  ·exact h.elim) (fun cdv A outer s H E B hr=>⟨_,(af (sN 4 qw.nd (iX (qv 1) ar))
  (af (sN 5 qw.nd (iX (qv 1) ar))
  (af (sN 6 qw.nd (bh ae))
  (af (aN (cW (aW hr.units) bf (qv 4) (qv 2))
  (ak (aM (bV JM JN cL cK (qv 6) (aa (cE (N2:=nl8) (nt:=1) (js:=[]) (ck (sc:=ai qN)) (aI (aZ (qv 0) T.cl_A T.m_zb (wC T) hr.mo T.B_zb (aa (qv 4) ae))) (fun _ _ _ _=>⟨(gN 0 nn8),a9,(bg (aa (qv 0) (aa bA ae)))⟩)) ae))))
  aB)
  (af (aN (ba (fh (ba (cc (aQ (qv 5)) (bQ (cW (bL hr.units) bf (qv 4) (qv 3))))) (df (ba (cc (bO (aQ (qv 5))) (bQ (cW (aW hr.units) bf (qv 4) (qv 2))))))))
  (af (aM (bV JM JN cL cK (qv 6) (aa (cE (N2:=nl8) (nt:=1) (js:=[]) (ck (sc:=ai qN)) (aI (aZ (qv 0) T.cl_A T.m_zg (BH T) hr.mo T.B_zg (aa (qv 4) ae))) (fun _ _ _ _=>⟨(gN 0 nn8),a9,(bg (aa (qv 0) (aa bA ae)))⟩)) ae)))
   (ak (aM (bV JM JN cL cK (qv 6) (aa (cE (N2:=nl8) (nt:=1) (js:=[]) (ck (sc:=ai qN)) (aI (aZ (qv 0) T.cl_A T.m_zm (CP T) hr.mo T.B_zm (aa (qv 4) ae))) (fun _ _ _ _=>⟨(gN 0 nn8),a9,(bg (aa (qv 0) (aa bA ae)))⟩)) ae)))))
  aB)
  (ak (az (qv 6)))))))),?_⟩)
 intro vs H Q E h;unfold d9 at h;split at h
 ·rename_i x z l m;obtain⟨c,ts,bs,G,A,n,b,rfl,⟨dx,hx⟩,ok,hn,rfl,rfl,h⟩:=h;unfold sdV at *;have sdd:∀s:Sd,PV.tup [.int s.1,.bl s.2]=sdV s:=fun _=>rfl;have t15:=ok.gt.len ok.c6;have b15:=ok.gb.len ok.c6;have lf:=cp ok.gt ok.c6 n;have lu:=cC ok.gt ok.c6 n;have lb:=dH ok.gb ok.c6 n;left;right;right;refine⟨ao (by decide),fun p hp=>?_⟩;have s0:=(Sub.refl H).put (o:=.lst []) hp;have e0:put H p (.lst []) p=some (.lst (([]:List Sd).map sdV)):=ah;generalize put H p (.lst [])=H0 at *;subst hR;refine aj fun R hR=>?_;have key:∀(L1:List Sd) (H1:PHp),U.Sub H H1->H1 p=some (.lst (L1.map sdV))->L1=(if n∈G then []else(fol ts n).map fun m=>((m,true):Sd))->R { nx:=fun _ H=>∃H3,U.Sub H3 H/\Q .non H3,rt:=fun v H=>∃H3,U.Sub H3 H/\Q v H3 } [some (.ref x),some (.tup [.int n,.bl b]),some (.tup (G.map PV.int)),some (.tup (A.map PV.int)),some (.int n),some (.bl b),some (.ref p)] H1:=fun L1 H1 s1 e1 hL=>by
   have l1:L1.length≤6:=by rw[hL];split<;>simp<;>omega
   subst hR;refine aj fun R hR=>?_;have key2:∀(L2:List Sd) (H2:PHp),U.Sub H H2->H2 p=some (.lst ((L1++L2).map sdV))->L2=(if (b=true/\n∈A)∨(b=false/\n∉G)then(src ts n).map (fun m=>((m,false):Sd))++(bwd bs n).map (fun m=>((m,true):Sd))else [])->R { nx:=fun _ H=>∃H3,U.Sub H3 H/\Q .non H3,rt:=fun v H=>∃H3,U.Sub H3 H/\Q v H3 } [some (.ref x),some (.tup [.int n,.bl b]),some (.tup (G.map PV.int)),some (.tup (A.map PV.int)),some (.int n),some (.bl b),some (.ref p)] H2:=fun L2 H2 s2 e2 hL2=>by
    subst hR;ac_rfl;refine⟨H2,Sub.refl _,h p H2 hp s2 ?_⟩;rw[e2,hL,hL2];rfl
   ac_rfl;cases b with
   | true =>
    refine aG rfl ⟨aE,?_⟩;simp only[aO];by_cases ha:n∈A
    ·refine aG (by simp[ha]) ?_;have cd:((true:Bool)=true/\n∈A)∨((true:Bool)=false/\n∉G):=.inl ⟨rfl,ha⟩;refine⟨⟨_,e1⟩,⟨_,_,s1 _ _ hx,rfl⟩,dx,c,ts,bs,s1 _ _ hx,hn,t15,?_⟩;show ∀acc,H1 acc=none->_;intro q1 hq1;refine aC (fun y=>PV.tup [y,.bl false]) (fun _=>true) (fun σ=>∃z,σ=[z]) (by rw[kb];exact Jl (cC ok.gt ok.c6 n) (by decide)) (fun _=>trivial) ?_ ?_ ⟨_,rfl⟩
     ·rintro y hy l σ R' ⟨z,rfl⟩ hl kT kF;obtain⟨k,hk,rfl⟩:=IF.mp hy;ac_rfl;exact⟨ao (by decide),hl,by rw[aD];exact kT rfl _ ⟨_,rfl⟩⟩
     rw[fD];ac_rfl;refine⟨_,_,(aq (av e1 hq1)).trans e1,rfl,ao (by simp only[kb,II,JU];omega),?_⟩;rw[←IP];have s2:=(s1.put (o:=.lst (((src ts n).map fun m=>((m,false):Sd)).map sdV)) (s1.free hq1)).put (o:=.lst ((L1++(src ts n).map fun m=>((m,false):Sd)).map sdV)) hp;have e2:put (put H1 q1 (.lst (((src ts n).map fun m=>((m,false):Sd)).map sdV))) p (.lst ((L1++(src ts n).map fun m=>((m,false):Sd)).map sdV)) p=some (.lst ((L1++(src ts n).map fun m=>((m,false):Sd)).map sdV)):=ah;generalize put (put H1 q1 (.lst (((src ts n).map fun m=>((m,false):Sd)).map sdV))) p (.lst ((L1++(src ts n).map fun m=>((m,false):Sd)).map sdV))=H2 at *;refine⟨⟨_,rfl⟩,⟨_,_,s2 _ _ hx,rfl⟩,dx,c,ts,bs,s2 _ _ hx,hn,b15,?_⟩;show ∀acc,H2 acc=none->_;intro q2 hq2;refine aC (fun y=>PV.tup [y,.bl true]) (fun _=>true) (fun σ=>∃z,σ=[z]) (by rw[kb];exact Jl (dH ok.gb ok.c6 n) (by decide)) (fun _=>trivial) ?_ ?_ ⟨_,rfl⟩
     ·rintro y hy l σ R' ⟨z,rfl⟩ hl kT kF;obtain⟨k,hk,rfl⟩:=IF.mp hy;ac_rfl;exact⟨ao (by decide),hl,by rw[aD];exact kT rfl _ ⟨_,rfl⟩⟩
     rw[fD];ac_rfl;refine⟨_,_,(aq (av e2 hq2)).trans e2,rfl,ao (by simp only[kb,II,JU];omega),?_⟩;rw[←IP];have s3:=(s2.put (o:=.lst (((bwd bs n).map fun m=>((m,true):Sd)).map sdV)) (s2.free hq2)).put (o:=.lst (((L1++((src ts n).map fun m=>((m,false):Sd)))++(bwd bs n).map fun m=>((m,true):Sd)).map sdV)) hp;have e3:put (put H2 q2 (.lst (((bwd bs n).map fun m=>((m,true):Sd)).map sdV))) p (.lst (((L1++((src ts n).map fun m=>((m,false):Sd)))++(bwd bs n).map fun m=>((m,true):Sd)).map sdV)) p=some (.lst (((L1++((src ts n).map fun m=>((m,false):Sd)))++(bwd bs n).map fun m=>((m,true):Sd)).map sdV)):=ah;generalize put (put H2 q2 (.lst (((bwd bs n).map fun m=>((m,true):Sd)).map sdV))) p (.lst (((L1++((src ts n).map fun m=>((m,false):Sd)))++(bwd bs n).map fun m=>((m,true):Sd)).map sdV))=H3 at *;exact key2 _ H3 s3 (by rw[e3,Ka]) (by rw[IZ cd])
    ·exact aA (by simp[ha]) (aA rfl (key2 [] H1 s1 (by rw[Ji];exact e1) (by rw[IX (by simp[ha])])))
   | false =>
    refine aA rfl (aG rfl ⟨aE,?_⟩);simp only[aO];by_cases ha:n∈G
    ·exact aA (by simp[ha]) (key2 [] H1 s1 (by rw[Ji];exact e1) (by rw[IX (by simp[ha])]))
    ·refine aG (by simp[ha]) ?_;have cd:((false:Bool)=true/\n∈A)∨((false:Bool)=false/\n∉G):=.inr ⟨rfl,ha⟩;refine⟨⟨_,e1⟩,⟨_,_,s1 _ _ hx,rfl⟩,dx,c,ts,bs,s1 _ _ hx,hn,t15,?_⟩;show ∀acc,H1 acc=none->_;intro q1 hq1;refine aC (fun y=>PV.tup [y,.bl false]) (fun _=>true) (fun σ=>∃z,σ=[z]) (by rw[kb];exact Jl (cC ok.gt ok.c6 n) (by decide)) (fun _=>trivial) ?_ ?_ ⟨_,rfl⟩
     ·rintro y hy l σ R' ⟨z,rfl⟩ hl kT kF;obtain⟨k,hk,rfl⟩:=IF.mp hy;ac_rfl;exact⟨ao (by decide),hl,by rw[aD];exact kT rfl _ ⟨_,rfl⟩⟩
     rw[fD];ac_rfl;refine⟨_,_,(aq (av e1 hq1)).trans e1,rfl,ao (by simp only[kb,II,JU];omega),?_⟩;rw[←IP];have s2:=(s1.put (o:=.lst (((src ts n).map fun m=>((m,false):Sd)).map sdV)) (s1.free hq1)).put (o:=.lst ((L1++(src ts n).map fun m=>((m,false):Sd)).map sdV)) hp;have e2:put (put H1 q1 (.lst (((src ts n).map fun m=>((m,false):Sd)).map sdV))) p (.lst ((L1++(src ts n).map fun m=>((m,false):Sd)).map sdV)) p=some (.lst ((L1++(src ts n).map fun m=>((m,false):Sd)).map sdV)):=ah;generalize put (put H1 q1 (.lst (((src ts n).map fun m=>((m,false):Sd)).map sdV))) p (.lst ((L1++(src ts n).map fun m=>((m,false):Sd)).map sdV))=H2 at *;refine⟨⟨_,rfl⟩,⟨_,_,s2 _ _ hx,rfl⟩,dx,c,ts,bs,s2 _ _ hx,hn,b15,?_⟩;show ∀acc,H2 acc=none->_;intro q2 hq2;refine aC (fun y=>PV.tup [y,.bl true]) (fun _=>true) (fun σ=>∃z,σ=[z]) (by rw[kb];exact Jl (dH ok.gb ok.c6 n) (by decide)) (fun _=>trivial) ?_ ?_ ⟨_,rfl⟩
     ·rintro y hy l σ R' ⟨z,rfl⟩ hl kT kF;obtain⟨k,hk,rfl⟩:=IF.mp hy;ac_rfl;exact⟨ao (by decide),hl,by rw[aD];exact kT rfl _ ⟨_,rfl⟩⟩
     rw[fD];ac_rfl;refine⟨_,_,(aq (av e2 hq2)).trans e2,rfl,ao (by simp only[kb,II,JU];omega),?_⟩;rw[←IP];have s3:=(s2.put (o:=.lst (((bwd bs n).map fun m=>((m,true):Sd)).map sdV)) (s2.free hq2)).put (o:=.lst (((L1++((src ts n).map fun m=>((m,false):Sd)))++(bwd bs n).map fun m=>((m,true):Sd)).map sdV)) hp;have e3:put (put H2 q2 (.lst (((bwd bs n).map fun m=>((m,true):Sd)).map sdV))) p (.lst (((L1++((src ts n).map fun m=>((m,false):Sd)))++(bwd bs n).map fun m=>((m,true):Sd)).map sdV)) p=some (.lst (((L1++((src ts n).map fun m=>((m,false):Sd)))++(bwd bs n).map fun m=>((m,true):Sd)).map sdV)):=ah;generalize put (put H2 q2 (.lst (((bwd bs n).map fun m=>((m,true):Sd)).map sdV))) p (.lst (((L1++((src ts n).map fun m=>((m,false):Sd)))++(bwd bs n).map fun m=>((m,true):Sd)).map sdV))=H3 at *;exact key2 _ H3 s3 (by rw[e3,Ka]) (by rw[IZ cd])
  ac_rfl;refine⟨aE,?_⟩;simp only[aO];by_cases hg:n∈G
  ·exact aA (by simp[hg]) (key [] H0 s0 e0 (by rw[IZ hg]))
  refine aG (by simp[hg]) ⟨⟨_,e0⟩,⟨_,_,s0 _ _ hx,rfl⟩,dx,c,ts,bs,s0 _ _ hx,hn,t15,?_⟩;show ∀acc,H0 acc=none->_;intro q hq;refine aC (fun y=>PV.tup [y,.bl true]) (fun _=>true) (fun σ=>∃z,σ=[z]) (by rw[kb];exact Jl (cp ok.gt ok.c6 n) (by decide)) (fun _=>trivial) ?_ ?_ ⟨_,rfl⟩
  ·rintro y hy l σ R' ⟨z,rfl⟩ hl kT kF;obtain⟨k,hk,rfl⟩:=IF.mp hy;ac_rfl;exact⟨ao (by decide),hl,by rw[aD];exact kT rfl _ ⟨_,rfl⟩⟩
  rw[fD];ac_rfl;refine⟨_,_,(aq (av e0 hq)).trans e0,rfl,ao (by simp only[kb,II,JU];omega),?_⟩;rw[←IP];have s1:=(s0.put (o:=.lst (((fol ts n).map fun m=>((m,true):Sd)).map sdV)) (s0.free hq)).put (o:=.lst (([]++(fol ts n).map fun m=>((m,true):Sd)).map sdV)) hp;have e1:put (put H0 q (.lst (((fol ts n).map fun m=>((m,true):Sd)).map sdV))) p (.lst (([]++(fol ts n).map fun m=>((m,true):Sd)).map sdV)) p=some (.lst (([]++(fol ts n).map fun m=>((m,true):Sd)).map sdV)):=ah;generalize put (put H0 q (.lst (((fol ts n).map fun m=>((m,true):Sd)).map sdV))) p (.lst (([]++(fol ts n).map fun m=>((m,true):Sd)).map sdV))=H1 at *;exact key _ _ s1 e1 (by rw[IX hg];rfl)
 ·exact h.elim
theorem GD(T:Tx K mg t):aK P w K mg base CX0 4 t.a_zI t.d_zI ["drawing","ones","given"] (fT t):=by
 refine okU (k:=3) T.F_zI nB (fun vs H Q E h=>by
  unfold fT at h;split at h
  ·rfl
  ·exact h.elim) (fun cdv A outer s H E B hr=>⟨_,(af (sN 3 nB.nd (aZ (qv 0) T.cl_A T.m_zd (ER T) hr.mo T.B_zd (aa (qv 2) ae)))
  (af (sC 4 nB.nd (N2:=nl9) (nt:=1) (js:=[]) (ck (sc:=ai wF)) (aI (qv 1)) (fun _ _ _ _=>⟨(gN 0 nn9),a9,(bg (aa (qv 0) (aa bA ae)))⟩))
  (af (sN 5 nB.nd (bh ae))
  (af (gG Jk (cN fb fe (aw ay aU rfl T.b_len Jf (aa (qv 4) ae)) ar)
  (af (sN 6 nB.nd (oz PySem.F.slot_list_pop PySem.F.type_list_pop B0 A0 AU (qv 4)))
   (ak (aN (cW (aW hr.units) bf (qv 6) (qv 5))
   (af (aM (bV Jw Jx bj bu (qv 5) (aa (qv 6) ae)))
    (ak (aM (bV JM JN cL cK (qv 4) (aa (au (FK T) hr.mo rfl T.g_zp T.F_zp.kp T.B_zp (aa (qv 0) (aa (qv 6) (aa (qv 2) (aa (qv 3) ae))))) ae)))))
   aB))))
  (ak (az (qv 5))))))),?_⟩)
 intro vs H Q E h;unfold fT at h;split at h
 ·rename_i x l m;obtain⟨c,ts,bs,O,G,⟨dx,hx⟩,ok,rfl,rfl,hO,hG,h⟩:=h;have t15:=ok.gt.len ok.c6;have b15:=ok.gb.len ok.c6;have o6:=hO.len ok.c6;left;refine⟨⟨_,_,hx,rfl⟩,c,ts,G,⟨_,_,hx⟩,rfl,hG,⟨ok.c1,ok.c6⟩,ok.gt,fun A up iff=>?_⟩;have an:An ts G A:=⟨up,iff⟩;right;show ∀acc,H acc=none->_;intro w hw;refine aC (fun y=>PV.tup [y,.bl false]) (fun _=>true) (fun σ=>∃z,σ=[z]) (by rw[kb];omega) (fun _=>trivial) ?_ ?_ ⟨_,rfl⟩
  ·rintro y hy l σ R' ⟨z,rfl⟩ hl kT kF;obtain⟨k,hk,rfl⟩:=IF.mp hy;ac_rfl;exact⟨ao (by decide),hl,by rw[aD];exact kT rfl _ ⟨_,rfl⟩⟩
  rw[fD];right;refine⟨ao (by decide),fun q hq=>?_⟩;have nwq:w≠q:=fun e=>by subst e;rw[ah]at hq;cases hq
  have s1:=(Sub.refl H).put (o:=.lst ((O.map fun m=>((m,false):Sd)).map sdV)) hw;have hqH:=s1.free hq;have s2:=s1.put (o:=.lst []) hqH;have e1:put (put H w (.lst ((O.map fun m=>((m,false):Sd)).map sdV))) q (.lst []) w=some (.lst ((O.map fun m=>((m,false):Sd)).map sdV)):=(aq nwq).trans ah;have e2:put (put H w (.lst ((O.map fun m=>((m,false):Sd)).map sdV))) q (.lst []) q=some (.lst (([]:List Sd).map sdV)):=ah;generalize put (put H w (.lst ((O.map fun m=>((m,false):Sd)).map sdV))) q (.lst [])=H1 at *;subst hR;refine aj fun R hR=>?_;refine eC fun Rb hRb=>?_;refine dU (fun m σ H2=>∃z,∃W L:List Sd,σ=[some (.ref x),some (.tup (O.map PV.int)),some (.tup (G.map PV.int)),some (.tup (A.map PV.int)),some (.ref w),some (.ref q),z]/\U.Sub H H2/\H2 w=some (.lst (W.map sdV))/\H2 q=some (.lst (L.map sdV))/\LI ts bs G A O W L/\W.length≤6+18*L.length/\m=(12 - L.length)*20+W.length) _ ⟨none,_,[],rfl,s2,e1,e2,⟨by simp,fun s hs=>(by cases hs),fun s hs=>?_,fun y hy=>.inr (IF.mpr ⟨y,hy,rfl⟩),fun s hs=>(by cases hs)⟩,by rw[kb];simp;omega,rfl⟩ ?_
  ·obtain⟨y,hy,rfl⟩:=IF.mp hs;exact .base hy
  rintro m σ H2 ⟨z,W,L,rfl,s2,e1,e2,li,lw,rfl⟩;have l12:=kZ ok.c6 li.nd fun s hs=>mG ok.gt ok.gb hO.lo (li.rl s hs);ac_rfl;refine⟨_,e1,?_⟩;rcases JY W with rfl |⟨W',st,rfl⟩
  ·refine aA (by simp) ?_;subst hR;ac_rfl;exact⟨H2,Sub.refl _,h q H2 A L hqH s2 an e2 li.nd li.iff⟩
  rw[JZ]at *;refine aG (by simp) (yp fun N bk hN=>?_);have rst:=mG ok.gt ok.gb hO.lo (li.rw st (by simp));subst hRb;refine aj fun R' hR'=>?_;ac_rfl;have dl:((W'++[st]).map sdV).dropLast=W'.map sdV:=by simp
  refine⟨_,sdV st,e1,by simp,?_⟩;rw[dl];have s3:=s2.put (o:=.lst (W'.map sdV)) hw;have e3:put H2 w (.lst (W'.map sdV)) w=some (.lst (W'.map sdV)):=ah;have e4:put H2 w (.lst (W'.map sdV)) q=some (.lst (L.map sdV)):=(aq nwq.symm).trans e2;generalize put H2 w (.lst (W'.map sdV))=H3 at *;subst hR';unfold sdV at *;ac_rfl;refine⟨_,e4,?_⟩;refine⟨qq,?_⟩;have ea:=tZ (L:=L) (n:=st.1) (b:=st.2);unfold sdV at ea;rw[ea];rw[II,JG]at lw;by_cases hm:(st.1,st.2)∈L
  ·refine aA (by simp[hm]) (hN _ _ ⟨(12 - L.length)*20+W'.length,by rw[II,JG];omega,_,W',L,rfl,s3,e3,e4,li.old hm,by omega,rfl⟩)
  refine aG (by simp[hm]) ?_;refine⟨⟨_,e4⟩,_,e4,aS (by rw[kb];omega),?_⟩;have s5:=s3.put (o:=.lst (L.map sdV++[sdV st])) hqH;have e5:put H3 q (.lst (L.map sdV++[sdV st])) w=some (.lst (W'.map sdV)):=(aq nwq).trans e3;have e6:put H3 q (.lst (L.map sdV++[sdV st])) q=some (.lst ((L++[st]).map sdV)):=by rw[ah,IP];rfl
  unfold sdV at s5 e5 e6;refine⟨⟨_,e5⟩,c,ts,bs,G,A,st.1,st.2,rfl,⟨dx,s5 _ _ hx⟩,ok,rst,rfl,rfl,fun r H4 _ s6 er=>?_⟩;have e7:=s6 _ _ e5;have bl:=wg ok.gt ok.gb ok.c6 (G:=G) (A:=A) st;have bl2:(bes ts bs G A (st.1,st.2)).length≤18:=bl;refine⟨_,_,e7,er,ao (by simp only[kb];omega),?_⟩;show N _ (put H4 w (.lst (List.map sdV W'++List.map sdV (bes ts bs G A st))));rw[←IP];have li':=li.new hm;refine hN _ _ ⟨(12 - (L++[st]).length)*20+(W'++bes ts bs G A st).length,?_,_,_,L++[st],rfl,(s5.trans s6).put hw,ah,(aq nwq.symm).trans (s6 _ _ e6),li',?_,rfl⟩
  ·have l13:=kZ ok.c6 li'.nd fun s hs=>mG ok.gt ok.gb hO.lo (li'.rl s hs);rw[II,JG]at l13 ⊢;rw[II,II,JG];omega
  ·rw[II,II,JG];omega
 ·exact h.elim
theorem Fb(T:Tx K mg t):aK P w K mg base CX0 4 t.a_zC t.d_zC ["drawing","names"] (fQ t):=by
 refine okU (k:=3) T.F_zC tf (fun vs H Q E h=>by
  unfold fQ at h;split at h
  ·rfl
  ·exact h.elim) (fun cdv A outer s H E B hr=>⟨_,(af (sN 2 tf.nd (bh ae))
  (af (bz Jk rfl (aI (qv 1)) (gN 3 tf.nd)
  (ak (aM (bV JM JN cL cK (qv 2) (aa (cE (N2:=nl6) (nt:=1) (js:=[]) (ck (sc:=ai xH)) (aI (au (D4 T) hr.mo rfl T.g_zM T.F_zM.kp T.B_zM (aa (qv 0) (aa (qv 3) ae)))) (fun _ _ _ _=>⟨(gN 0 nn6),a9,(bh (aa (qv 0) ae))⟩)) ae)))))
  (ak (az (qv 2))))),?_⟩)
 intro vs H Q E h;unfold fQ at h;split at h
 ·rename_i x l;obtain⟨c,ts,bs,O,⟨dx,hx⟩,ok,rfl,hO,h⟩:=h;have o6:=hO.len ok.c6;left;refine⟨ao (by decide),fun q hq=>?_⟩;have s0:=(Sub.refl H).put (o:=.lst []) hq;have e0:put H q (.lst []) q=some (.lst []):=ah;generalize put H q (.lst [])=H0 at *;right;refine bR (fun i σ H2=>∃z us,σ=[some (.ref x),some (.tup (O.map PV.int)),some (.ref q),z]/\U.Sub H H2/\H2 q=some (.lst us)/\bb H2 q us (rdV (je ts bs (O.take i)))/\Frs H us/\us.length≤18*i) ?_ ?_ ⟨none,[],rfl,s0,e0,by simp[je,bb,Paired.nil],Frs.nil,by simp⟩
  ·rintro σ H2 ⟨z,us,rfl,s2,e2,ls,fu,lu⟩;refine⟨trivial,?_⟩;rw[kb,Jv]at ls;subst hR;ac_rfl;exact⟨H2,Sub.refl _,h q H2 us hq s2 e2 ls fu⟩
  ·rintro N i y σ H2 hy ⟨z,us,rfl,s2,e2,ls,fu,lu⟩ kk;refine⟨trivial,?_⟩;rw[IV]at hy;obtain⟨n,hn,rfl⟩:=Jp.mp hy;have hi:i<O.length:=(IM.mp hn).1;have hno:=hO.lo n (Ja hn);ac_rfl;refine⟨⟨_,e2⟩,c,ts,bs,⟨dx,s2 _ _ hx⟩,ok,hno,fun r H3 _ s3 er=>⟨_,er,?_⟩⟩;show ∀acc,H3 acc=none->_;intro acc hacc;have sl:=iK ok.gt ok.gb ok.c6 n;have e3:=s3 _ _ e2;have nqa:=av e3 hacc;have nra:=av er hacc;refine d0 (fun j σ H4=>∃z ws,σ=[z]/\U.Sub H3 H4/\H4 acc=some (.lst ws)/\bb H4 acc ws (rdV (((stp ts bs n).take j).map fun s=>[s]))/\Frs H3 ws) ?_ ?_ ⟨none,[],rfl,(Sub.refl H3).put hacc,ah,by simp[bb,Paired.nil],Frs.nil⟩
   ·rintro j v σ H4 R' hv ⟨z,ws,rfl,s4,e4,l4,f4⟩ k4;rw[IV]at hv;obtain⟨st,hst,rfl⟩:=Jp.mp hv;refine⟨s4 _ _ er,?_⟩;ac_rfl;refine⟨ao (by decide),fun p hp=>?_⟩;have np:=av e4 hp;have hl4:=l4.len;have tl:(((stp ts bs n).take j)).length≤18:=by rw[JA];omega
    simp only[rdV,kb]at hl4;refine⟨_,(aq np).trans e4,aS (by omega),?_⟩;have l5:bb (put H4 p (.lst [stV st])) acc ws (rdV (((stp ts bs n).take j).map fun s=>[s])):=l4.up ((Sub.refl H4).put hp);have l6:=(l5.snoc (r:=p) (l:=[stV st]) np.symm ah).put (o:=.lst (ws++[.ref p]));refine k4 _ _ ⟨_,_,rfl,(s4.put (s4.free hp)).put hacc,ah,?_,f4.app (Frs.one (s4.free hp))⟩
    ·have ej:(stp ts bs n).take (j+1)=(stp ts bs n).take j++[st]:=by rw[Ke,hst];rfl
     rw[ej];simpa[rdV]using l6
   ·rintro σ H4 ⟨z,ws,rfl,s4,e4,l4,f4⟩;refine⟨s4 _ _ er,?_⟩;rw[kb,Jv]at l4;have e5:=s4 _ _ e3;have hl4:=l4.len;simp only[rdV,kb]at hl4;have hqa:q≠acc:=nqa;ac_rfl;refine⟨_,_,e5,e4,ao (by omega),?_⟩;refine kk _ _ ⟨_,us++ws,rfl,((s2.trans s3).trans s4).put hq,ah,?_,fu.app (Frs.mono (s2.trans s3) f4),by rw[II];omega⟩;have ei:je ts bs (O.take (i+1))=je ts bs (O.take i)++(stp ts bs n).map fun s=>[s]:=by
     unfold je;rw[Ke,hn];simp
    rw[ei];unfold rdV;rw[IP];exact vt ((ls.up (s3.trans s4)).put) (bb.put (bb.fr e3 l4 f4))
 ·exact h.elim
theorem Hf(T:Tx K mg t):aK P w K mg base CX0 4 t.a_zt t.d_zt ["drawing","roads","given"] (eI t):=by
 refine okU (k:=3) T.F_zt jR (fun vs H Q E h=>by
  unfold eI at h;split at h
  ·rfl
  ·exact h.elim) (fun cdv A outer s H E B hr=>⟨_,(af (sN 3 jR.nd (aZ (qv 0) T.cl_A T.m_zd (ER T) hr.mo T.B_zd (aa (qv 2) ae)))
  (af (sN 4 jR.nd (bh ae))
  (af (bz Jk rfl (aI (qv 1)) (gN 5 jR.nd)
  (af (sN 6 jR.nd (au (G4 T) hr.mo rfl T.g_zX T.F_zX.kp T.B_zX (aa (qv 5) ae)))
   (ak (bz Jk rfl (aI (au (D4 T) hr.mo rfl T.g_zM T.F_zM.kp T.B_zM (aa (qv 0) (aa (iX (qv 6) (cg ar)) ae)))) (gN 7 jR.nd)
   (ak (aN (ba (cc (cW (aW hr.units) bf (iX (qv 7) ar) (qv 6)) (bQ (aQ (au (G3 T) hr.mo rfl T.g_zR T.F_zR.kp T.B_zR (aa (iX (qv 5) (cg ar)) (aa (qv 7) (aa (qv 2) (aa (qv 3) ae)))))))))
    (ak (aM (bV Jw Jx bj bu (qv 4) (aa (cx (qv 5) (bh (aa (qv 7) ae))) ae))))
    aB))))))
  (ak (az (qv 4)))))),?_⟩)
 intro vs H Q E h;unfold eI at h;split at h
 ·rename_i x a l;obtain⟨c,ts,bs,G,us,rs,⟨dx,hx⟩,ok,rfl,hG,ha,lsts,big,hrs,h⟩:=h;left;refine⟨⟨_,_,hx,rfl⟩,c,ts,G,⟨_,_,hx⟩,rfl,hG,⟨ok.c1,ok.c6⟩,ok.gt,fun A up iff=>?_⟩;have an:An ts G A:=⟨up,iff⟩;right;refine⟨ao (by decide),fun q hq=>?_⟩;have s0:=(Sub.refl H).put (o:=.lst []) hq;have e0:put H q (.lst []) q=some (.lst []):=ah;generalize put H q (.lst [])=H0 at *;right;refine⟨_,s0 _ _ ha,?_⟩;have hlen:=lsts.len;simp only[rdV,kb]at hlen;have nl:∀rs':List (List Sp3),(rs'.flatMap (il ts bs G A)).length≤rs'.length*18:=fun rs'=>My.dk fun r _=>qz ok r;refine bR (fun i σ H2=>∃z1 z2 z3 ws,σ=[some (.ref x),some (.ref a),some (.tup (G.map PV.int)),some (.tup (A.map PV.int)),some (.ref q),z1,z2,z3]/\U.Sub H H2/\H2 q=some (.lst ws)/\bb H2 q ws (rdV ((rs.take i).flatMap (il ts bs G A)))/\Frs H ws) ?_ ?_ ⟨none,none,none,[],rfl,s0,e0,by simp[bb,Paired.nil],Frs.nil⟩
  ·rintro σ H2 ⟨z1,z2,z3,ws,rfl,s2,e2,ls,fw⟩;refine⟨s2 _ _ ha,?_⟩;rw[hlen,Jv]at ls;subst hR;ac_rfl;exact⟨H2,Sub.refl _,h q H2 ws A hq s2 an e2 ls fw⟩
  ·rintro N i y σ H2 hy ⟨z1,z2,z3,ws,rfl,s2,e2,ls,fw⟩ kk;refine⟨s2 _ _ ha,?_⟩;obtain⟨l,ra,hl,rfl,nra,hra⟩:=lsts.at hy;have hl:(rs.map fun r=>r.map stV)[i]?=some l:=hl;rw[IV]at hl;obtain⟨r,hr,rfl⟩:=Jp.mp hl;have hi:i<rs.length:=(IM.mp hr).1;obtain⟨r1,r2,r3⟩:=hrs r (Ja hr);refine aj fun R' hR'=>?_;ac_rfl;refine⟨r,s2 _ _ hra,r1,r2,fun nr H3 hnr s3 en=>?_⟩;subst hR';ac_rfl;refine⟨_,en,?_⟩;rw[DA r1];ac_rfl;refine⟨c,ts,bs,⟨dx,s3 _ _ (s2 _ _ hx)⟩,ok,r3,fun sr H4 hsr s4 es=>⟨_,es,?_⟩⟩;have sl:=iK ok.gt ok.gb ok.c6 (lsS r).2.2;have s24:=(s2.trans s3).trans s4;have nqs:sr≠q:=(av (s3 _ _ e2) hsr).symm;have nqn:nr≠q:=(av e2 hnr).symm;refine bR (fun j σ H5=>∃z3 vs,σ=[some (.ref x),some (.ref a),some (.tup (G.map PV.int)),some (.tup (A.map PV.int)),some (.ref q),some (.ref ra),some (.ref nr),z3]/\U.Sub H H5/\H5 nr=some (.lst ((My.nm r).map PV.int))/\H5 sr=some (.lst ((stp ts bs (lsS r).2.2).map stV))/\H5 q=some (.lst vs)/\bb H5 q vs (rdV ((rs.take i).flatMap (il ts bs G A)++(((stp ts bs (lsS r).2.2).take j).filter fun s=>!decide (s.2.2∈My.nm r)&&psd G A (lsS r) s).map fun s=>r++[s]))/\Frs H vs) ?_ ?_ ⟨_,ws,rfl,s24,s4 _ _ en,es,(s3.trans s4) _ _ e2,by simpa using ls.up (s3.trans s4),fw⟩
   ·rintro σ H5 ⟨z3,vs,rfl,s5,en5,es5,eq5,l5,fv⟩;refine⟨es5,kk _ _ ⟨_,_,_,vs,rfl,s5,eq5,?_,fv⟩⟩;rw[kb,Jv]at l5;have ei:(rs.take (i+1)).flatMap (il ts bs G A)=(rs.take i).flatMap (il ts bs G A)++il ts bs G A r:=by rw[Ke,hr];simp
    rw[ei];exact l5
   ·rintro N' j v σ H5 hv ⟨z3,vs,rfl,s5,en5,es5,eq5,l5,fv⟩ kk';refine⟨es5,?_⟩;rw[IV]at hv;obtain⟨st,hst,rfl⟩:=Jp.mp hv;have hj:j<(stp ts bs (lsS r).2.2).length:=(IM.mp hst).1;have ej:(stp ts bs (lsS r).2.2).take (j+1)=(stp ts bs (lsS r).2.2).take j++[st]:=by rw[Ke,hst];rfl
    have no:(!decide (st.2.2∈My.nm r)&&psd G A (lsS r) st)=false->N' [some (.ref x),some (.ref a),some (.tup (G.map PV.int)),some (.tup (A.map PV.int)),some (.ref q),some (.ref ra),some (.ref nr),some (stV st)] H5:=fun z=>kk' _ _ ⟨_,vs,rfl,s5,en5,es5,eq5,by rw[ej,J7];simp only[JF,z];simpa using l5,fv⟩;have at1:=uB r1;generalize lsS r=le at *;unfold stV at *;ac_rfl;refine⟨_,en5,aE,?_⟩;rw[aO];by_cases hm:st.2.2∈My.nm r
    ·exact aA (by simp[hm]) (no (by simp[hm]))
    refine aG (by simp[hm]) ⟨_,s5 _ _ hra,?_⟩;rw[at1];ac_rfl;refine⟨le,st,G,A,rfl,rfl,rfl,rfl,?_⟩;refine aY (fun z=>?_) (fun z=>no (by simp[hm];exact z));have ra5:=s5 _ _ hra;have hl5:=l5.len;have i2:=nl (rs.take i);have f2:=JD (fun s=>!decide (s.2.2∈My.nm r)&&psd G A le s) ((stp ts bs le.2.2).take j);simp only[rdV,kb,II]at hl5;rw[JA]at i2 f2;refine⟨⟨_,eq5⟩,ao (by decide),fun p1 hp1=>⟨_,_,(aq (av ra5 hp1)).trans ra5,rfl,ao (by simp only[kb,JG];omega),fun p2 hp2=>?_⟩⟩;have sa:=(Sub.refl H5).put (o:=.lst [PV.tup [PV.int st.1,PV.str st.2.1,PV.int st.2.2]]) hp1;have sb:=sa.put (o:=.lst (List.map (fun s=>PV.tup [PV.int s.1,PV.str s.2.1,PV.int s.2.2]) r++[PV.tup [PV.int st.1,PV.str st.2.1,PV.int st.2.2]])) (sa.free hp2);have hp2H:=sa.free hp2;refine⟨_,sb _ _ eq5,by omega,kk' _ _ ⟨_,_,rfl,(s5.trans sb).put hq,(aq nqn).trans (sb _ _ en5),(aq nqs).trans (sb _ _ es5),ah,?_,fv.app (Frs.one (s5.free hp2H))⟩⟩;have l6:=((l5.up sb).snoc (r:=p2) (av eq5 hp2H).symm ah).put (o:=.lst (vs++[PV.ref p2]));rw[ej,J7];simp only[JF,z,hm];simp[rdV,hm,z]at l6 ⊢;exact l6
 ·exact h.elim
theorem Hs(T:Tx K mg t):aK P w K mg base CX0 5 t.a_zl t.d_zl ["drawing","ones","others","given"] (gm t):=by
 refine okU (k:=4) T.F_zl mF (fun vs H Q E h=>by
  unfold gm at h;split at h
  ·rfl
  ·exact h.elim) (fun cdv A outer s H E B hr=>⟨_,(af (sN 4 mF.nd (au (Fb T) hr.mo rfl T.g_zC T.F_zC.kp T.B_zC (aa (qv 0) (aa (qv 1) ae))))
  (af (sC 5 mF.nd (N2:=zv) (nt:=1) (js:=[2]) (ck (sc:=ai ue)) (aI (qv 4)) (fun _ _ _ _=>⟨(gN 0 DG),(aV (cW (bL hr.units) bf (iX (iX (qv 0) (cg ar)) ar) (qv 1))),(qv 0)⟩))
  (af (gG Jk (cN (a0 hr.units) bx (aw ay aU rfl T.b_len Jf (aa (qv 5) ae)) ar)
  (af (sN 4 mF.nd (au (Hf T) hr.mo rfl T.g_zt T.F_zt.kp T.B_zt (aa (qv 0) (aa (qv 4) (aa (qv 3) ae)))))
   (ak (sC 5 mF.nd (N2:=zv) (nt:=1) (js:=[2]) (ck (sc:=ai ue)) (aI (qv 4)) (fun _ _ _ _=>⟨(gN 0 DG),(aV (cW (bL hr.units) bf (iX (iX (qv 0) (cg ar)) ar) (qv 1))),(qv 0)⟩)))))
  (ak (az (iX (qv 5) ar)))))),?_⟩)
 intro vs H Q E h;unfold gm at h;split at h
 ·rename_i x l m n;obtain⟨c,ts,bs,O,B,G,A,⟨dx,hx⟩,ok,rfl,rfl,rfl,hO,hG,an,⟨tg,ht,hb⟩,h⟩:=h;have o6:=hO.len ok.c6;have t5:=ht.len ok;left;refine⟨c,ts,bs,O,⟨dx,hx⟩,ok,rfl,hO,fun q H1 us hq s1 e1 l1 f1=>?_⟩;subst hR;refine aj fun R hR=>?_;have scan:∀(q:Addr) (H1:PHp) (us:List PV) (k:Nat) (rs:List (List Sp3)) (K:VK'),RdK ts bs G A O tg k rs->U.Sub H H1->H1 q=some (.lst us)->bb H1 q us (rdV rs)->Frs H us ->
   (∀f H2,U.Sub H1 H2->H2 f=some (.lst (us.filter (i7 H1 B)))->K (.ref f) H2)->∀σ1,σ1=[none,some (.tup (B.map PV.int))]->∀acc,H1 acc=none ->
   cz (fun H=>H q=some (.lst us)) (fj 0) (hU (uOp (vO fun b=>b) (uOp uIx (uOp uIx (lU 0) (uUn (fun x H Q=>bY x fun i=>Q (.int (-i)) H) (uC (PV.int 1)))) (uC (PV.int 2))) (lU 1))) (lU 0) acc K us σ1 (put H1 acc (.lst [])):=fun q H1 us k rs K rk s1 e1 l1 f1 kk σ1 hσ acc hacc=>by
   subst hσ;have nq:=av e1 hacc;have hle:=l1.len;simp only[rdV,kb]at hle;have h6:rs.length≤6*18 ^ 5:=Jl rk.le (Nat.mul_le_mul_left _ (JV (by decide) (by have:=rk.k1;omega)));refine m6 (fun y=>y) (i7 H1 B) (fun σ=>∃z,σ=[z,some (.tup (B.map PV.int))]) (by rw[Jt];omega) (fun _=>(aq nq).trans e1) ?_ ?_ ⟨_,rfl⟩
   ·rintro y hy l σ R' ⟨z,rfl⟩ hl kT kF;obtain⟨l',r,hl',rfl,nr,hr⟩:=l1.mem hy;obtain⟨road,hroad,rfl⟩:=IF.mp hl';have ne:=(rk.ok road hroad).ne;rw[jg hr ne]at kT kF;ac_rfl;refine⟨_,(aq (av hr hacc)).trans hr,?_⟩;rw[uB ne];unfold stV;ac_rfl;refine⟨aE,?_⟩;rw[aO];exact aY (fun q=>⟨hl,by rw[aD];exact kT q _ ⟨_,rfl⟩⟩) (fun q=>kF q _ ⟨_,rfl⟩)
   ·have em:((us.filter (i7 H1 B)).map fun y=>y)=us.filter (i7 H1 B):=List.map_id' _;rw[em];exact kk acc _ ((Sub.refl H1).put hacc) ah
  have fnd:∀(q:Addr) (H1:PHp) (us:List PV) (k:Nat) (rs:List (List Sp3)),RdK ts bs G A O tg k rs->bb H1 q us (rdV rs)->us.filter (i7 H1 B)=[]->k<tg.length:=fun q H1 us k rs rk l1 hf=>by
   rcases Nat.lt_or_ge k tg.length with z | z
   ·exact z
   ·have hm:=rk.tg;rw[Ky z]at hm;obtain⟨r,h1,h2⟩:=l1.of (IF.mpr ⟨tg,hm,rfl⟩);rw[JK]at hf;exact absurd (by rw[jg h2 ht.ne];exact JE hb) (hf _ h1)
  have fst:∀(q:Addr) (H1:PHp) (us:List PV) (k:Nat) (rs:List (List Sp3)) (v:PV) (fs:List PV),RdK ts bs G A O tg k rs->bb H1 q us (rdV rs)->Frs H us->us.filter (i7 H1 B)=v::fs->∃r road,v=.ref r/\H r=none/\H1 r=some (.lst (road.map stV))/\Opn ts bs G A O road/\(lsS road).2.2∈B:=fun q H1 us k rs v fs rk l1 f1 hf=>by
   have hv:v∈us.filter (i7 H1 B):=by rw[hf];exact IK
   obtain⟨hv1,hv2⟩:=Jm.mp hv;obtain⟨l',r,hl',rfl,nr,hr⟩:=l1.mem hv1;obtain⟨road,hroad,rfl⟩:=IF.mp hl';have op:=rk.ok road hroad;rw[jg hr op.ne]at hv2;exact⟨r,road,rfl,f1 _ hv1 r rfl,hr,op,K2 hv2⟩
  have rk1:=xN ok hO ht;ac_rfl;refine⟨_,e1,scan q H1 us 1 _ _ rk1 s1 e1 l1 f1 (fun f H2 s2 ef=>?_) _ rfl⟩;subst hR;refine aj fun R hR=>?_;refine eC fun Rb hRb=>?_;refine dU (fun m σ H2=>∃q f us k rs Ha,σ=[some (.ref x),some (.tup (O.map PV.int)),some (.tup (B.map PV.int)),some (.tup (G.map PV.int)),some (.ref q),some (.ref f)]/\RdK ts bs G A O tg k rs/\U.Sub H Ha/\U.Sub Ha H2/\Ha q=some (.lst us)/\bb Ha q us (rdV rs)/\Frs H us/\H2 f=some (.lst (us.filter (i7 Ha B)))/\m=tg.length - k) _ ⟨q,f,us,1,_,H1,rfl,rk1,s1,s2,e1,l1,f1,ef,rfl⟩ ?_;rintro m σ H2 ⟨q,f,us,k,rs,Ha,rfl,rk,s1,s2,e1,l1,f1,ef,rfl⟩;ac_rfl;refine⟨_,ef,?_⟩;cases hf:us.filter (i7 Ha B)with
  | cons v fs =>
   rw[hf]at ef;refine aA (by simp;omega) ?_;obtain⟨r,road,rfl,hr,er,op,hlb⟩:=fst q Ha us k rs v fs rk l1 f1 hf;subst hR;ac_rfl;refine⟨_,ef,?_⟩;have e0:atI (PV.ref r::fs) 0=some (.ref r):=cQ (l:=PV.ref r::fs) (i:=0) (by simp);rw[e0];exact⟨H2,Sub.refl _,h r H2 road hr (s1.trans s2) (s2 _ _ er) op hlb (op.len ok)⟩
  | nil =>
   have hk:=fnd q Ha us k rs rk l1 hf;refine aG (by simp) (yp fun N bk hN=>?_);subst hRb;refine aj fun R' hR'=>?_;ac_rfl;have k4:k≤4:=by omega
   have h6:rs.length≤6*18 ^ 4:=Jl rk.le (Nat.mul_le_mul_left _ (JV (by decide) k4));refine⟨c,ts,bs,G,us,rs,⟨dx,s2 _ _ (s1 _ _ hx)⟩,ok,rfl,hG,s2 _ _ e1,l1.up s2,by rw[Jt];omega,fun r hr=>?_,fun q2 H3 ws A2 hq2 s3 an2 e3 l3 f3=>?_⟩
   ·have op:=rk.ok r hr;obtain⟨l,en⟩:=qr op.ne;have:=op.len ok;exact⟨op.ne,by omega,yZ ok op.rd.ed _ (by rw[en];simp)⟩
   have eA:=an.one an2;subst eA;subst hR';have rk2:=vx ok ht rk hk;have s03:=(s1.trans s2).trans s3;have f03:=Frs.mono (s1.trans s2) f3;ac_rfl;refine⟨_,e3,scan q2 H3 ws _ _ _ rk2 s03 e3 l3 f03 (fun f2 H4 s4 ef2=>?_) _ rfl⟩;exact hN _ _ ⟨tg.length - (k+1),by omega,q2,f2,ws,k+1,_,H3,rfl,rk2,s03,s4,e3,l3,f03,ef2,rfl⟩
 ·exact h.elim
theorem Ho(T:Tx K mg t):aK P w K mg base CX0 3 t.a_zz t.d_zz ["drawing","meeting","given"] (kO t):=by
 refine okU (k:=2) T.F_zz jh (fun vs H Q E h=>by
  unfold kO at h;split at h
  ·rfl
  ·exact h.elim) (fun cdv A outer s H E B hr=>⟨_,(af (sN 3 jh.nd (bh (aa (bh (aa (qv 1) ae)) ae)))
  (af (sC 4 jh.nd (N2:=B8) (nt:=1) (js:=[2]) (ck (sc:=ai rN)) (aI (qv 3)) (fun _ _ _ _=>⟨(gN 0 DB),(aV (cW (bL hr.units) bf (iX (qv 0) (cg ar)) (qv 1))),(qv 0)⟩))
  (af (gG Jk (cN (a0 hr.units) bx (aw ay aU rfl T.b_len Jf (aa (qv 4) ae)) ar)
  (af (sN 5 jh.nd (bh ae))
   (af (bz Jk rfl (aI (qv 3)) (gN 6 jh.nd)
   (ak (aM (bV JM JN cL cK (qv 5) (aa (cE (N2:=De) (nt:=1) (js:=[6]) (ck (sc:=ai rN)) (aI (aZ (qv 0) T.cl_A T.m_zb (wC T) hr.mo T.B_zb (aa (iX (qv 6) (cg ar)) ae))) (fun _ _ _ _=>⟨(gN 0 Fp),a9,(cx (qv 1) (bh (aa (qv 0) ae)))⟩)) ae)))))
   (af (sN 3 jh.nd (qv 5))
   (ak (sC 4 jh.nd (N2:=B8) (nt:=1) (js:=[2]) (ck (sc:=ai rN)) (aI (qv 3)) (fun _ _ _ _=>⟨(gN 0 DB),(aV (cW (bL hr.units) bf (iX (qv 0) (cg ar)) (qv 1))),(qv 0)⟩)))))))
  (ak (az (iX (qv 4) ar)))))),?_⟩)
 intro vs H Q E h;unfold kO at h;split at h
 ·rename_i x m l;obtain⟨c,ts,bs,G,A,⟨dx,hx⟩,ok,rfl,hG,an,hm,h⟩:=h;have t15:=ok.gt.len ok.c6;obtain⟨tg,ht0,htc,hte⟩:=My.Ag ((an.iff m).mp hm);have t6:=pO ok hG htc hte;have tne:tg≠[]:=fun e=>by rw[e]at ht0;cases ht0
  have tgG:lsI tg∈G:=by
   obtain⟨e,he,hg⟩:=hte;rw[(nv tne).1]at he;rw[Js he];exact hg
  left;refine⟨ao (by decide),fun p1 hp1=>⟨ao (by decide),fun q hq=>?_⟩⟩;have s0:=(Sub.refl H).put (o:=.lst [PV.int m]) hp1;have e0:put H p1 (.lst [PV.int m]) p1=some (.lst (([m]:List Int).map PV.int)):=ah;generalize put H p1 (.lst [PV.int m])=Hb at *;have npq:=av e0 hq;have s1:=s0.put (o:=.lst [PV.ref p1]) (s0.free hq);have e1:put Hb q (.lst [PV.ref p1]) q=some (.lst [PV.ref p1]):=ah;have l1:bb (put Hb q (.lst [PV.ref p1])) q [PV.ref p1] (inV [[m]]):=.cons ⟨p1,rfl,npq,(aq npq).trans e0⟩ .nil;have f1:Frs H [PV.ref p1]:=Frs.one hp1;generalize put Hb q (.lst [PV.ref p1])=H1 at *;have rk1:WyK ts G m tg 1 [[m]]:=by
   refine⟨fun w hw=>?_,⟨IS _,?_⟩,by simp,?_⟩
   ·rw[IW.mp hw];exact⟨rfl,trivial,fun x hx=>(by cases hx)⟩
   ·cases tg with
    | nil=>exact absurd rfl tne
    | cons _ _=>simp
   ·cases tg with
    | nil=>exact absurd rfl tne
    | cons a t =>
     have:a=m:=by simpa using ht0
     subst this;simp
  subst hR;refine aj fun R hR=>?_;have scan:∀(q:Addr) (H1:PHp) (us:List PV) (k:Nat) (ws:List (List Int)) (K:VK'),WyK ts G m tg k ws->U.Sub H H1->H1 q=some (.lst us)->bb H1 q us (inV ws)->Frs H us ->
   (∀f H2,U.Sub H1 H2->H2 f=some (.lst (us.filter (i3 H1 G)))->K (.ref f) H2)->∀σ1,σ1=[none,some (.tup (G.map PV.int))]->∀acc,H1 acc=none ->
   cz (fun H=>H q=some (.lst us)) (fj 0) (hU (uOp (vO fun b=>b) (uOp uIx (lU 0) (uUn (fun x H Q=>bY x fun i=>Q (.int (-i)) H) (uC (PV.int 1)))) (lU 1))) (lU 0) acc K us σ1 (put H1 acc (.lst [])):=fun q H1 us k ws K rk s1 e1 l1 f1 kk σ1 hσ acc hacc=>by
   subst hσ;have nq:=av e1 hacc;have hle:=l1.len;simp only[inV,kb]at hle;have h6:ws.length≤6 ^ 6:=Jl rk.le (JV (by decide) (by have:=rk.k1;omega));refine m6 (fun y=>y) (i3 H1 G) (fun σ=>∃z,σ=[z,some (.tup (G.map PV.int))]) (by rw[Jt];omega) (fun _=>(aq nq).trans e1) ?_ ?_ ⟨_,rfl⟩
   ·rintro y hy l σ R' ⟨z,rfl⟩ hl kT kF;obtain⟨l',r,hl',rfl,nr,hr⟩:=l1.mem hy;obtain⟨w,hw,rfl⟩:=IF.mp hl';have ne:=(rk.ok w hw).ne;rw[i4 hr ne]at kT kF;ac_rfl;refine⟨_,(aq (av hr hacc)).trans hr,?_⟩;rw[u6 ne];ac_rfl;refine⟨aE,?_⟩;rw[aO];exact aY (fun q=>⟨hl,by rw[aD];exact kT q _ ⟨_,rfl⟩⟩) (fun q=>kF q _ ⟨_,rfl⟩)
   ·have em:((us.filter (i3 H1 G)).map fun y=>y)=us.filter (i3 H1 G):=List.map_id' _;rw[em];exact kk acc _ ((Sub.refl H1).put hacc) ah
  have fnd:∀(q:Addr) (H1:PHp) (us:List PV) (k:Nat) (ws:List (List Int)),WyK ts G m tg k ws->bb H1 q us (inV ws)->us.filter (i3 H1 G)=[]->k<tg.length/\∀w∈ws,lsI w∉G:=fun q H1 us k ws rk l1 hf=>by
   rw[JK]at hf;have no:∀w∈ws,lsI w∉G:=fun w hw hg=>by
    obtain⟨r,h1,h2⟩:=l1.of (IF.mpr ⟨w,hw,rfl⟩);exact absurd (by rw[i4 h2 (rk.ok w hw).ne];exact JE hg) (hf _ h1)
   refine⟨?_,no⟩;rcases Nat.lt_or_ge k tg.length with z | z
   ·exact z
   ·have hm:=rk.tg;rw[Ky z]at hm;exact absurd tgG (no _ hm)
  have fst:∀(q:Addr) (H1:PHp) (us:List PV) (k:Nat) (ws:List (List Int)) (v:PV) (fs:List PV),WyK ts G m tg k ws->bb H1 q us (inV ws)->Frs H us->us.filter (i3 H1 G)=v::fs->∃r,∃w:List Int,v=.ref r/\H r=none/\H1 r=some (.lst (w.map PV.int))/\Wy ts G m w:=fun q H1 us k ws v fs rk l1 f1 hf=>by
   have hv:v∈us.filter (i3 H1 G):=by rw[hf];exact IK
   obtain⟨hv1,hv2⟩:=Jm.mp hv;obtain⟨l',r,hl',rfl,nr,hr⟩:=l1.mem hv1;obtain⟨w,hw,rfl⟩:=IF.mp hl';have o:=rk.ok w hw;rw[i4 hr o.ne]at hv2;exact⟨r,w,rfl,f1 _ hv1 r rfl,hr,o.hd,o.ch,o.lo,_,(nv o.ne).1,K2 hv2⟩
  ac_rfl;refine⟨_,e1,scan q H1 _ 1 _ _ rk1 s1 e1 l1 f1 (fun f H2 s2 ef=>?_) _ rfl⟩;subst hR;refine aj fun R hR=>?_;refine eC fun Rb hRb=>?_;refine dU (fun n σ H2=>∃q f us k ws Ha z1 z2,σ=[some (.ref x),some (.int m),some (.tup (G.map PV.int)),some (.ref q),some (.ref f),z1,z2]/\WyK ts G m tg k ws/\U.Sub H Ha/\U.Sub Ha H2/\Ha q=some (.lst us)/\bb Ha q us (inV ws)/\Frs H us/\H2 f=some (.lst (us.filter (i3 Ha G)))/\n=tg.length - k) _ ⟨q,f,_,1,_,H1,none,none,rfl,rk1,s1,s2,e1,l1,f1,ef,rfl⟩ ?_;rintro n σ H2 ⟨q,f,us,k,ws,Ha,z1,z2,rfl,rk,s1,s2,e1,l1,f1,ef,rfl⟩;ac_rfl;refine⟨_,ef,?_⟩;cases hf:us.filter (i3 Ha G)with
  | cons v fs =>
   rw[hf]at ef;refine aA (by simp;omega) ?_;obtain⟨r,w,rfl,hr,er,wy⟩:=fst q Ha us k ws v fs rk l1 f1 hf;subst hR;ac_rfl;refine⟨_,ef,?_⟩;have e0:atI (PV.ref r::fs) 0=some (.ref r):=cQ (l:=PV.ref r::fs) (i:=0) (by simp);rw[e0];exact⟨H2,Sub.refl _,h r H2 w hr (s1.trans s2) (s2 _ _ er) wy (pO ok hG wy.ch wy.la)⟩
  | nil =>
   obtain⟨hk,no⟩:=fnd q Ha us k ws rk l1 hf;have rk2:=sL ok htc rk hk no;have k5:k≤5:=by omega
   have h6:ws.length≤6 ^ 5:=Jl rk.le (JV (by decide) k5);have hle:=l1.len;simp only[inV,kb]at hle;refine aG (by simp) (yp fun N bk hN=>?_);subst hRb;refine aj fun R' hR'=>?_;ac_rfl;refine⟨ao (by decide),fun g hg=>?_⟩;have s3:=s2.put (o:=.lst []) (s2.free hg);have hga:=s2.free hg;have hgH:=s1.free hga;have e3:put H2 g (.lst []) g=some (.lst []):=ah;generalize put H2 g (.lst [])=H3 at *;subst hR';refine aj fun R' hR'=>?_;ac_rfl;refine⟨_,s3 _ _ e1,?_⟩;refine bR (fun i σ H4=>∃z2 vs,σ=[some (.ref x),some (.int m),some (.tup (G.map PV.int)),some (.ref q),some (.ref f),some (.ref g),z2]/\U.Sub Ha H4/\H4 g=some (.lst vs)/\bb H4 g vs (inV ((ws.take i).flatMap (nP ts)))/\Frs H vs/\vs.length≤6*i) ?_ ?_ ⟨_,[],rfl,s3,e3,by simp[bb,Paired.nil],Frs.nil,by simp⟩
   ·rintro σ H4 ⟨z2,vs,rfl,s4,e4,l4,f4,v4⟩;refine⟨s4 _ _ e1,?_⟩;rw[hle,Jv]at l4;subst hR';refine aj fun R' hR'=>?_;ac_rfl;subst hR';ac_rfl;refine⟨_,e4,scan g H4 vs _ _ _ rk2 (s1.trans s4) e4 l4 f4 (fun f2 H5 s5 ef2=>?_) _ rfl⟩;exact hN _ _ ⟨tg.length - (k+1),by omega,g,f2,vs,k+1,_,H4,_,_,rfl,rk2,s1.trans s4,s5,e4,l4,f4,ef2,rfl⟩
   ·rintro N' i y σ H4 hy ⟨z2,vs,rfl,s4,e4,l4,f4,v4⟩ kk;refine⟨s4 _ _ e1,?_⟩;obtain⟨l,ra,hl,rfl,nra,hra⟩:=l1.at hy;have hl:(ws.map fun w=>w.map PV.int)[i]?=some l:=hl;rw[IV]at hl;obtain⟨w,hw,rfl⟩:=Jp.mp hl;have hi:i<ws.length:=(IM.mp hw).1;have o:=rk.ok w (Ja hw);have rng:=sk ok.gt o.ch (fun z hz=>by rw[o.hd]at hz;rw[←Js hz];exact an.lo ok.gt hG m hm);have wl:w.length≤6:=My.bI 6 w ((My.nY (fun a b e=>(ok.gt.lo _ e).2.1) o.ch).imp fun h=>by omega) fun x hx=>by have:=rng x hx;have:=ok.c6;omega
    have nlo:0≤lsI w/\lsI w<c:=rng _ (List.mem_of_getLast? (nv o.ne).1);have ra4:=s4 _ _ hra;ac_rfl;refine⟨⟨_,e4⟩,⟨_,_,s4 _ _ (s1 _ _ hx),rfl⟩,_,ra4,?_⟩;rw[u6 o.ne];ac_rfl;refine⟨dx,c,ts,bs,s4 _ _ (s1 _ _ hx),nlo,t15,?_⟩;show ∀acc,H4 acc=none->_;intro acc hacc;have nga:=av e4 hacc;have fl:=cp ok.gt ok.c6 (lsI w);refine d0 (fun j σ H5=>∃z us',σ=[z,some (.ref ra)]/\U.Sub H4 H5/\H5 acc=some (.lst us')/\bb H5 acc us' (inV (((fol ts (lsI w)).take j).map fun n=>w++[n]))/\Frs H4 us') ?_ ?_ ⟨none,[],rfl,(Sub.refl H4).put hacc,ah,by simp[bb,Paired.nil],Frs.nil⟩
    ·rintro j v σ H5 R2 hv ⟨z,us',rfl,s5,e5,l5,f5⟩ k5';rw[IV]at hv;obtain⟨n,hn,rfl⟩:=Jp.mp hv;refine⟨trivial,?_⟩;have ra5:=s5 _ _ ra4;ac_rfl;refine⟨ao (by decide),fun p1 hp1=>⟨_,_,(aq (av ra5 hp1)).trans ra5,rfl,ao (by simp only[kb,JG];omega),fun p2 hp2=>?_⟩⟩;have sa:=(Sub.refl H5).put (o:=.lst [PV.int n]) hp1;have hp2H:=sa.free hp2;have sb:=sa.put (o:=.lst (w.map PV.int++[PV.int n])) hp2H;have hl5:=l5.len;simp only[inV,kb]at hl5;have ltk:((fol ts (lsI w)).take j).length≤6:=by rw[JA];omega
     refine⟨_,sb _ _ e5,aS (by omega),?_⟩;have l6:=((l5.up sb).snoc (r:=p2) (av e5 hp2H).symm ah).put (o:=.lst (us'++[PV.ref p2]));refine k5' _ _ ⟨_,_,rfl,(s5.trans sb).put hacc,ah,?_,f5.app (Frs.one (s5.free hp2H))⟩;have ej:(fol ts (lsI w)).take (j+1)=(fol ts (lsI w)).take j++[n]:=by rw[Ke,hn];rfl
     rw[ej];simpa[inV]using l6
    ·rintro σ H5 ⟨z,us',rfl,s5,e5,l5,f5⟩;refine⟨trivial,?_⟩;rw[kb,Jv]at l5;have hl5:=l5.len;simp only[inV,kb]at hl5;ac_rfl;refine⟨_,_,s5 _ _ e4,e5,by rw[Jt];omega,?_⟩;refine kk _ _ ⟨_,vs++us',rfl,(s4.trans s5).put hga,ah,?_,f4.app (Frs.mono (s1.trans s4) f5),by rw[II];omega⟩;have ei:(ws.take (i+1)).flatMap (nP ts)=(ws.take i).flatMap (nP ts)++nP ts w:=by rw[Ke,hw];simp
     rw[ei];unfold inV;rw[IP];exact vt ((l4.up s5).put) (bb.put (bb.fr e4 l5 f5))
 ·exact h.elim
theorem Hh(T:Tx K mg t):aK P w K mg base CX0 4 t.a_zS t.d_zS ["drawing","road","given"] (iH t):=by
 refine okU (k:=3) T.F_zS Cv (fun vs H Q E h=>by
  unfold iH at h;split at h
  ·rfl
  ·exact h.elim) (fun cdv A outer s H E B hr=>⟨_,(ak (az (cE (N2:=Co) (nt:=1) (js:=[0,2]) (ck (sc:=ai xR)) (aI (au (HH T) hr.mo rfl T.g_yb T.F_yb.kp T.B_yb (aa (qv 1) ae))) (fun _ _ _ _=>⟨(gN 0 FO),a9,(au (Ho T) hr.mo rfl T.g_zz T.F_zz.kp T.B_zz (aa (qv 1) (aa (qv 0) (aa (qv 2) ae))))⟩)))),?_⟩)
 intro vs H Q E h;unfold iH at h;split at h
 ·rename_i x a l;obtain⟨c,ts,bs,G,A,road,⟨dx,hx⟩,ok,rfl,hG,an,ha,hl,hm,h⟩:=h;have ml:=pj road;ac_rfl;refine⟨road,ha,hl,fun mr H1 hmr s1 em=>⟨_,em,fun acc hacc=>?_⟩⟩;have na:=av em hacc;refine d0 (fun j σ H2=>∃z us,∃ws:List (List Int),σ=[z,some (.ref x),some (.tup (G.map PV.int))]/\U.Sub H1 H2/\H2 acc=some (.lst us)/\bb H2 acc us (inV ws)/\Frs H1 us/\Paired (Wy ts G) ((mts road).take j) ws/\∀w∈ws,w.length≤6) ?_ ?_ ⟨none,[],[],rfl,(Sub.refl H1).put hacc,ah,by simp[bb,Paired.nil],Frs.nil,by simp[Paired.nil],fun w hw=>(by cases hw)⟩
  ·rintro j v σ H2 R' hv ⟨z,us,ws,rfl,s2,e2,l2,f2,p2,w6⟩ kk;rw[IV]at hv;obtain⟨m,hmj,rfl⟩:=Jp.mp hv;refine⟨s2 _ _ em,?_⟩;ac_rfl;refine⟨c,ts,bs,G,A,⟨dx,s2 _ _ (s1 _ _ hx)⟩,ok,rfl,hG,an,hm m (Ja hmj),fun r H3 w hr s3 er wy wl=>?_⟩;have hl2:=l2.len;have hp2:=Paired.length p2;have ltk:((mts road).take j).length≤100:=by rw[JA];omega
   simp only[inV,kb]at hl2;refine⟨_,s3 _ _ e2,aS (by omega),?_⟩;have nr:=av e2 hr;refine kk _ _ ⟨_,us++[.ref r],ws++[w],rfl,(s2.trans s3).put hacc,ah,?_,f2.app (Frs.one (s2.free hr)),?_,fun w' hw'=>?_⟩
   ·have:=((l2.up s3).snoc (r:=r) nr.symm er).put (o:=.lst (us++[PV.ref r]));simpa[inV]using this
   ·have ej:(mts road).take (j+1)=(mts road).take j++[m]:=by rw[Ke,hmj];rfl
    rw[ej];exact iM wy p2
   ·rcases IU.mp hw' with q | q
    ·exact w6 w' q
    ·rw[IW.mp q];exact wl
  ·rintro σ H2 ⟨z,us,ws,rfl,s2,e2,l2,f2,p2,w6⟩;rw[kb,Jv]at p2;exact⟨s2 _ _ em,H2,Sub.refl _,h acc H2 us ws (s1.free hacc) (s1.trans s2) e2 l2 (Frs.mono s1 f2) p2 w6⟩
 ·exact h.elim
theorem Dq(T:Tx K mg t):aK P w K mg base CX0 1 t.a_zW t.d_zW ["_law_cell","_law_place"] oZ:=by
 refine okU (k:=0) T.F_zW sj (fun vs H Q E h=>by
  unfold oZ at h;split at h
  ·rfl
  ·exact h.elim) (fun cdv A outer s H E B hr=>⟨_,(af (sN 2 sj.nd (cM (cR (cR (gW (cM (qv 0) ar) ar) (gW ar (qv 1))) ar) ar))
  (af (sN 2 sj.nd (cM (cR (cR (gW (qv 2) (qv 2)) (gW ar (qv 1))) ar) ar))
  (ak (az (cM (cR (gW (qv 2) (qv 2)) ar) ar))))),?_⟩)
 intro vs H Q E h;unfold oZ at h;split at h
 ·rename_i u k;obtain⟨⟨k0,k1⟩,h⟩:=h;ac_rfl;have bk:My.BN 64 k:=show k.natAbs<2 ^ 64 from Jo (m:=100) (by omega) (by decide);have bm:∀a:Int,My.BN 64 (a.fmod 2147483629):=fun a=>DZ (by decide) (show My.BN 64 _ by unfold My.BN;decide);have bc:∀n:Int,n.natAbs<2 ^ 64->My.BN 64 n:=fun n h=>h;have f:∀{a b:Int},My.BN 64 a->My.BN 64 b->lR a b:=fun x y=>.inr ⟨x.fit (by decide),y.fit (by decide)⟩;exact⟨by decide,f (bm _) (bc _ (by decide)),f (bc _ (by decide)) bk,by decide,f (bm _) (bm _),f (bc _ (by decide)) bk,by decide,f (bm _) (bm _),by decide,H,Sub.refl _,h _⟩
 ·exact h.elim
theorem G9(T:Tx K mg t):aK P w K mg base CX0 2 t.a_zy t.d_zy ["_law_script","_law_at","_law_many"] k7:=by
 refine okU (k:=1) T.F_zy d3 (fun vs H Q E h=>by
  unfold k7 at h;split at h
  ·rfl
  ·exact h.elim) (fun cdv A outer s H E B hr=>⟨_,(af (sN 3 d3.nd (bh ae))
  (af (sN 4 d3.nd (bh ae))
  (af (sN 5 d3.nd (au (ES T) hr.mo rfl T.g_zB T.F_zB.kp T.B_zB (aa (qv 0) (aa (qv 1) ae))))
  (af (sN 6 d3.nd (lP (qv 5) ar))
  (af (sN 7 d3.nd ar)
  (af (bz Jk rfl (bN rfl T.b_range (aa (qv 2) ae)) (gN 8 d3.nd)
  (ak (bz Jk rfl (qI rfl T.b_range (aa (cR (qv 8) ar) (aa (qv 2) ae))) (gN 9 d3.nd)
   (af (sN 10 d3.nd (pY (uU (qv 6) (gW ar (qv 7))) ar))
    (af (aN (cN (a0 hr.units) bx (cM (qv 5) ar) ar)
    (ak (sN 10 d3.nd (cM (au (Dq T) hr.mo rfl T.g_zW T.F_zW.kp T.B_zW (aa (qv 5) (aa (qv 7) ae))) ar)))
    aB)
    (af (aN (cN (a0 hr.units) bx (cM (qv 10) ar) ar)
    (ak (aM (bV Jw Jx bj bu (qv 3) (aa (bg (aa (qv 8) (aa (qv 9) ae))) ae))))
    aB)
    (af (aN (ba (cc (cN fb fe (qv 10) ar) (bQ (cN ia h7 (aw ay aU rfl T.b_len Jf (aa (qv 4) ae)) ar))))
    (ak (aM (bV Jw Jx bj bu (qv 4) (aa (bg (aa (qv 8) (aa (qv 9) ae))) ae))))
    aB)
    (ak (sN 7 d3.nd (cR (qv 7) ar))))))))))
  (ak (az (bg (aa (qv 2) (aa (aL aJ a8 rfl T.b_tuple JL (aa (qv 3) ae)) (aa (aL aJ a8 rfl T.b_tuple JL (aa (qv 4) ae)) ae)))))))))))),?_⟩)
 intro vs H Q E h;unfold k7 at h;split at h
 ·rename_i l k c;obtain⟨⟨k0,k1⟩,⟨c1,c6⟩,ns,rfl,h⟩:=h;left;refine⟨ao (by decide),fun p hp=>?_⟩;right;refine⟨ao (by decide),fun q hq=>?_⟩;right;refine⟨⟨k0,by omega⟩,ns,rfl,?_⟩;generalize ns.getD k.toNat 0=u;have s0:=(Sub.refl H).put (o:=.lst []) hp;have hqH:=s0.free hq;have npq:p≠q:=fun e=>by subst e;rw[ah]at hq;cases hq
  have s1:=s0.put (o:=.lst []) hqH;have e1:put (put H p (.lst [])) q (.lst []) p=some (.lst (([]:List DM.P2).map prV)):=(aq npq).trans ah;have e2:put (put H p (.lst [])) q (.lst []) q=some (.lst (([]:List DM.P2).map prV)):=ah;generalize put (put H p (.lst [])) q (.lst [])=H1 at *;right;refine⟨zV (by decide) (by decide),?_⟩;generalize u.fdiv 2=nu;right;right;refine⟨⟨by omega,by omega⟩,?_⟩;refine c8 (fun i σ H2=>∃pl z1 z2 z3 ts bs,σ=[some (.fls (ns.map PV.int)),some (.int k),some (.int c),some (.ref p),some (.ref q),some (.int u),some (.int nu),some (.int pl),z1,z2,z3]/\(U.Sub H H2/\H2 p=some (.lst (ts.map prV))/\H2 q=some (.lst (bs.map prV)))/\GL c (i:Nat) 0 ts/\GL c (i:Nat) 0 bs/\bs.length≤6/\0≤pl/\pl≤6*(i:Nat)) ?_ ?_ ⟨0,none,none,none,[],[],rfl,⟨s1,e1,e2⟩,GL.nil,GL.nil,by simp,by omega,by omega⟩
  ·rintro σ H2 ⟨pl,z1,z2,z3,ts,bs,rfl,⟨s2,a1,a2⟩,g1,g2,l6,p0,p1⟩;refine⟨trivial,?_⟩;subst hR;ac_rfl;exact⟨_,a1,_,a2,ao (by decide),H,s2,h ts bs ⟨c1,c6,g1.good,g2.good,g1.st,g2.st,l6⟩⟩
  ·rintro G i σ H2 hi ⟨pl,z1,z2,z3,ts,bs,rfl,hH,g1,g2,l6,p0,p1⟩ kk;refine⟨trivial,?_⟩;ac_rfl;refine⟨⟨by omega,by omega,by omega,by omega⟩,?_⟩;have hn:(c - ((i:Nat)+1:Int)).toNat≤5:=by omega
   refine c8 (fun j σ H3=>∃pl z2 z3 ts bs,σ=[some (.fls (ns.map PV.int)),some (.int k),some (.int c),some (.ref p),some (.ref q),some (.int u),some (.int nu),some (.int pl),some (.int (i:Nat)),z2,z3]/\(U.Sub H H3/\H3 p=some (.lst (ts.map prV))/\H3 q=some (.lst (bs.map prV)))/\GL c (i:Nat) ((i:Nat)+1+(j:Nat):Int) ts/\GL c (i:Nat) ((i:Nat)+1+(j:Nat):Int) bs/\bs.length≤6/\0≤pl/\pl≤6*(i:Nat)+(j:Nat)) ?_ ?_ ⟨pl,z2,z3,ts,bs,rfl,hH,g1.up (by omega),g2.up (by omega),l6,p0,by omega⟩
   ·rintro σ H3 ⟨pl,z2,z3,ts,bs,rfl,hH,g1,g2,l6,p0,p1⟩;exact⟨trivial,kk _ _ ⟨_,_,_,_,ts,bs,rfl,hH,g1.nx 0,g2.nx 0,l6,p0,by omega⟩⟩
   ·rintro G' j σ H3 hj ⟨pl,z2,z3,ts,bs,rfl,⟨s2,a1,a2⟩,g1,g2,l6,p0,p1⟩ kk';refine⟨trivial,?_⟩;have t15:=g1.good.len c6;refine aj fun R1 hR1=>?_;ac_rfl;refine⟨.inr ⟨zj (by decide),zj (by omega)⟩,by omega,?_⟩;generalize Builtin.bitAnd _ _=kd0;have fin:∀(kd:Int) (ts' bs':List DM.P2) (H4:PHp),(U.Sub H H4/\H4 p=some (.lst (ts'.map prV))/\H4 q=some (.lst (bs'.map prV)))->GL c (i:Nat) ((i:Nat)+1+(j:Nat)+1:Int) ts'->GL c (i:Nat) ((i:Nat)+1+(j:Nat)+1:Int) bs'->bs'.length≤6->G' [some (.fls (ns.map PV.int)),some (.int k),some (.int c),some (.ref p),some (.ref q),some (.int u),some (.int nu),some (.int (pl+1)),some (.int (i:Nat)),some (.int ((i:Nat)+1+(j:Nat):Int)),some (.int kd)] H4:=fun kd ts' bs' H4 x1 x2 x3 x4=>kk' _ _ ⟨_,_,_,ts',bs',rfl,x1,by rw[show(((i:Nat):Int)+1+((j+1:Nat):Int))=(i:Nat)+1+(j:Nat)+1 by omega];exact x2,by rw[show(((i:Nat):Int)+1+((j+1:Nat):Int))=(i:Nat)+1+(j:Nat)+1 by omega];exact x3,x4,by omega,by omega⟩;subst hR1;refine aj fun R1 hR1=>?_;have on1:∀kd:Int,R1 { nx:=G',rt:=fun v H=>∃H3,U.Sub H3 H/\Q v H3,bk:=G,ct:=G' } [some (.fls (ns.map PV.int)),some (.int k),some (.int c),some (.ref p),some (.ref q),some (.int u),some (.int nu),some (.int pl),some (.int (i:Nat)),some (.int ((i:Nat)+1+(j:Nat):Int)),some (.int kd)] H3:=fun kd=>by
     subst hR1;refine aj fun R1 hR1=>?_;have on2:∀(ts':List DM.P2) (H4:PHp),(U.Sub H H4/\H4 p=some (.lst (ts'.map prV))/\H4 q=some (.lst (bs.map prV)))->GL c (i:Nat) ((i:Nat)+1+(j:Nat)+1:Int) ts'->R1 { nx:=G',rt:=fun v H=>∃H3,U.Sub H3 H/\Q v H3,bk:=G,ct:=G' } [some (.fls (ns.map PV.int)),some (.int k),some (.int c),some (.ref p),some (.ref q),some (.int u),some (.int nu),some (.int pl),some (.int (i:Nat)),some (.int ((i:Nat)+1+(j:Nat):Int)),some (.int kd)] H4:=fun ts' H4 hH b1=>by
      subst hR1;refine aj fun R1 hR1=>?_;have on3:∀(bs':List DM.P2) (H5:PHp),(U.Sub H H5/\H5 p=some (.lst (ts'.map prV))/\H5 q=some (.lst (bs'.map prV)))->GL c (i:Nat) ((i:Nat)+1+(j:Nat)+1:Int) bs'->bs'.length≤6->R1 { nx:=G',rt:=fun v H=>∃H3,U.Sub H3 H/\Q v H3,bk:=G,ct:=G' } [some (.fls (ns.map PV.int)),some (.int k),some (.int c),some (.ref p),some (.ref q),some (.int u),some (.int nu),some (.int pl),some (.int (i:Nat)),some (.int ((i:Nat)+1+(j:Nat):Int)),some (.int kd)] H5:=fun bs' H5 hH' b2 b6=>by
       subst hR1;ac_rfl;exact fin kd ts' bs' H5 hH' b1 b2 b6
      obtain⟨u1,u3,u4⟩:=id hH;ac_rfl;refine aY (fun _=>?_) (fun _=>on3 bs H4 hH (g2.up (by omega)) l6);refine⟨_,u4,?_⟩;by_cases h6:bs.length<6
      ·refine aG (by rw[kb];simp;omega) ?_;refine⟨⟨_,u4⟩,ao (by decide),_,u4,by rw[kb];exact aS (by omega),?_⟩;refine on3 (bs++[(((i:Nat):Int),((i:Nat):Int)+1+((j:Nat):Int))]) _ ⟨u1.put hqH,(aq npq).trans u3,?_⟩ (g2.app (by omega) (by omega) (by omega) c6) (by rw[II];simp;omega);rw[ah,IP];rfl
      ·exact aA (by rw[kb];simp;omega) (on3 bs H4 hH (g2.up (by omega)) l6)
     ac_rfl;refine⟨by decide,aY (fun _=>?_) (fun _=>on2 ts H3 ⟨s2,a1,a2⟩ (g1.up (by omega)))⟩;refine⟨⟨_,a1⟩,ao (by decide),_,a1,by rw[kb];exact aS (by omega),?_⟩;refine on2 (ts++[(((i:Nat):Int),((i:Nat):Int)+1+((j:Nat):Int))]) _ ⟨s2.put hp,?_,(aq npq.symm).trans a2⟩ (g1.app (by omega) (by omega) (by omega) c6);rw[ah,IP];rfl
    ac_rfl;refine⟨by decide,aY (fun _=>?_) (fun _=>on1 _)⟩;exact⟨⟨p0,by omega⟩,fun n=>⟨by decide,on1 _⟩⟩
 ·exact h.elim
theorem Iy(T:Tx K mg t):aK P w K mg base CX0 1 t.a_zU t.d_zU ["_law_drawn","_law_names"] gu:=by
 refine okU (k:=0) T.F_zU pS (fun vs H Q E h=>by
  unfold gu at h;split at h
  ·rfl
  ·exact h.elim) (fun cdv A outer s H E B hr=>⟨_,(af (sN 2 pS.nd (aL bM dI rfl T.b_list K7 (aa (qv 1) ae)))
  (af (pR Jk rfl (CN rfl T.b_reversed (aa (iX (qv 0) ar) ae)) (dz (n:=2) rfl (aX (gN 3 pS.nd) (aX (gN 4 pS.nd) cu)))
  (ak (aN (ba (cc (cW (bL hr.units) bf (qv 4) (qv 2)) (bQ (cW (aW hr.units) bf (qv 3) (qv 2)))))
   (ak (aM (bV Jw Jx bj bu (qv 2) (aa (qv 3) ae))))
   aB)))
  (ak (az (qv 2))))),?_⟩)
 intro vs H Q E h;unfold gu at h;split at h
 ·rename_i l m;obtain⟨c,ts,bs,G,e,rfl,ok,hG,h⟩:=h;unfold shp at e;injection e with e;subst e;have t15:=ok.gt.len ok.c6;have g6:=hG.len ok.c6;left;intro f hf;have s1:=(Sub.refl H).put (o:=.lst (G.map PV.int)) hf;have e1:put H f (.lst (G.map PV.int)) f=some (.lst (G.map PV.int)):=ah;generalize put H f (.lst (G.map PV.int))=H1 at *;right;refine⟨by rw[kb];omega,?_⟩;rw[←List.map_reverse];refine bR (fun i σ H2=>∃z1 z2 F,σ=[some (.tup [.int c,.tup (ts.map prV),.tup (bs.map prV)]),some (.tup (G.map PV.int)),some (.ref f),z1,z2]/\U.Sub H H2/\H2 f=some (.lst (F.map PV.int))/\F=(ts.reverse.take i).foldl br G/\F.length≤6+i) ?_ ?_ ⟨none,none,G,rfl,s1,e1,rfl,by omega⟩
  ·rintro σ H2 ⟨z1,z2,F,rfl,s2,e2,hF,lF⟩;refine⟨trivial,?_⟩;rw[kb,Jv]at hF;subst hR;ac_rfl;obtain⟨A,an,iff⟩:=CG ok hG (F:=F) fun x=>by rw[hF];exact Bf ok x
   exact⟨H2,Sub.refl _,h f H2 F A hf s2 e2 an iff⟩
  ·rintro N i y σ H2 hy ⟨z1,z2,F,rfl,s2,e2,hF,lF⟩ kk;refine⟨trivial,?_⟩;rw[IV]at hy;obtain⟨p,hp,rfl⟩:=Jp.mp hy;have hi:i<ts.reverse.length:=(IM.mp hp).1;rw[List.length_reverse]at hi;have hnx:(ts.reverse.take (i+1)).foldl br G=br F p:=by rw[g8 hp,← hF]
   unfold br at hnx;have stay:¬(p.2∈F/\p.1∉F)->N [some (.tup [.int c,.tup (ts.map prV),.tup (bs.map prV)]),some (.tup (G.map PV.int)),some (.ref f),some (.int p.1),some (.int p.2)] H2:=fun hn=>by
    rw[IX hn]at hnx;exact kk _ _ ⟨_,_,F,rfl,s2,e2,hnx.symm,by omega⟩
   unfold prV;ac_rfl;refine⟨_,e2,aE,?_⟩;rw[aO];by_cases m1:p.2∈F
   ·refine aG (by simp[m1]) ⟨_,e2,aE,?_⟩;rw[aO];by_cases m2:p.1∈F
    ·exact aA (by simp[m2]) (stay fun h=>h.2 m2)
    ·refine aG (by simp[m2]) ⟨⟨_,e2⟩,_,e2,aS (by rw[kb];omega),?_⟩;rw[IZ ⟨m1,m2⟩]at hnx;refine kk _ _ ⟨_,_,F++[p.1],rfl,s2.put hf,by rw[ah,IP];rfl,hnx.symm,by rw[II,JG];omega⟩
   ·exact aA (by simp[m1]) (stay fun h=>m1 h.1)
 ·exact h.elim
theorem Hm(T:Tx K mg t):aK P w K mg base CX0 1 t.a_zu t.d_zu ["_law_drawn","_law_standing","_law_given","_law_above_here"] gj:=by
 refine okU (k:=0) T.F_zu h8 (fun vs H Q E h=>by
  unfold gj at h;split at h
  ·rfl
  ·exact h.elim) (fun cdv A outer s H E B hr=>⟨_,(af (lj (qv 1) (dz (n:=2) rfl (aX (gN 4 h8.nd) (aX (gN 5 h8.nd) cu))))
  (af (sN 6 h8.nd (bh ae))
  (af (aN (cW (aW hr.units) bf (qv 4) (qv 2))
  (ak (sC 6 h8.nd (N2:=tU) (nt:=2) (js:=[4]) (ck (sc:=ai oG)) (aI (iX (qv 0) ar)) (fun _ _ _ _=>⟨(dz (n:=2) rfl (aX (gN 0 mH) (aX (gN 1 mH) cu))),(aV (cN (a0 hr.units) bx (qv 0) (qv 2))),(bg (aa (qv 1) (aa bA ae)))⟩)))
  aB)
  (af (aN (ba (fh (ba (cc (aQ (qv 5)) (bQ (cW (bL hr.units) bf (qv 4) (qv 3))))) (df (ba (cc (bO (aQ (qv 5))) (bQ (cW (aW hr.units) bf (qv 4) (qv 2))))))))
  (af (sN 6 h8.nd (cx (qv 6) (cE (N2:=tU) (nt:=2) (js:=[4]) (ck (sc:=ai oG)) (aI (iX (qv 0) ar)) (fun _ _ _ _=>⟨(dz (n:=2) rfl (aX (gN 0 mH) (aX (gN 1 mH) cu))),(aV (cN (a0 hr.units) bx (qv 1) (qv 2))),(bg (aa (qv 0) (aa bA ae)))⟩))))
   (af (sN 6 h8.nd (cx (qv 6) (cE (N2:=tU) (nt:=2) (js:=[4]) (ck (sc:=ai oG)) (aI (iX (qv 0) ar)) (fun _ _ _ _=>⟨(dz (n:=2) rfl (aX (gN 0 mH) (aX (gN 1 mH) cu))),(aV (cN (a0 hr.units) bx (qv 0) (qv 2))),(bg (aa (qv 1) (aa bA ae)))⟩))))
   (ak (sN 6 h8.nd (cx (qv 6) (cE (N2:=tU) (nt:=2) (js:=[4]) (ck (sc:=ai oG)) (aI (iX (qv 0) ar)) (fun _ _ _ _=>⟨(dz (n:=2) rfl (aX (gN 0 mH) (aX (gN 1 mH) cu))),(aV (cN (a0 hr.units) bx (qv 1) (qv 2))),(bg (aa (qv 0) (aa bA ae)))⟩)))))))
  aB)
  (ak (az (qv 6))))))),?_⟩)
 intro vs H Q E h;unfold gj at h;split at h
 ·rename_i l u m a;obtain⟨c,ts,bs,G,F,A,n,b,rfl,e,rfl,ok,ha,iff,h⟩:=h;unfold sdV;unfold shp at e;injection e with e;subst e;have t15:=ok.gt.len ok.c6;have b15:=ok.gb.len ok.c6;have l1:=cp ok.gt ok.c6 n;have l2:=cC ok.gt ok.c6 n;have l3:=cp ok.gb ok.c6 n;have l4:=cC ok.gb ok.c6 n;left;right;refine⟨ao (by decide),fun f0 hf0=>?_⟩;have s0:=(Sub.refl H).put (o:=.lst []) hf0;have e0:put H f0 (.lst []) f0=some (.lst (([]:List Sd).map sdV)):=ah;generalize put H f0 (.lst [])=H0 at *;subst hR;refine aj fun R hR=>?_;have key:∀(f:Addr) (L1:List Sd) (H1:PHp),H f=none->U.Sub H H1->H1 f=some (.lst (L1.map sdV))->L1=(if n∈G then []else(fol ts n).map fun m=>((m,true):Sd))->R { nx:=fun _ H=>∃H3,U.Sub H3 H/\Q .non H3,rt:=fun v H=>∃H3,U.Sub H3 H/\Q v H3 } [some (.tup [.int c,.tup (ts.map prV),.tup (bs.map prV)]),some (.tup [.int n,.bl b]),some (.tup (G.map PV.int)),some (.ref a),some (.int n),some (.bl b),some (.ref f)] H1:=fun f L1 H1 hf s1 e1 hL=>by
   have k1:L1.length≤6:=by rw[hL];split<;>simp<;>omega
   subst hR;refine bZ fun T1 R h1 hR=>?_;have key2:∀(f:Addr) (L:List Sd) (H2:PHp),H f=none->U.Sub H H2->H2 f=some (.lst (L.map sdV))->(∀z,z∈L↔z∈L1++(if (b=true/\n∈A)∨(b=false/\n∉G)then(src ts n).map (fun m=>((m,false):Sd))++(bwd bs n).map (fun m=>((m,true):Sd))else []))->L.length≤60->R { nx:=fun _ H=>∃H3,U.Sub H3 H/\Q .non H3,rt:=fun v H=>∃H3,U.Sub H3 H/\Q v H3 } [some (.tup [.int c,.tup (ts.map prV),.tup (bs.map prV)]),some (.tup [.int n,.bl b]),some (.tup (G.map PV.int)),some (.ref a),some (.int n),some (.bl b),some (.ref f)] H2:=fun f L H2 hf s2 e2 hz hl=>by
    subst hR;ac_rfl;exact⟨H2,Sub.refl _,h f H2 L hf s2 e2 (fun z=>by rw[hz z,hL];rfl) hl⟩
   have no:¬((b=true/\n∈A)∨(b=false/\n∉G))->R { nx:=fun _ H=>∃H3,U.Sub H3 H/\Q .non H3,rt:=fun v H=>∃H3,U.Sub H3 H/\Q v H3 } [some (.tup [.int c,.tup (ts.map prV),.tup (bs.map prV)]),some (.tup [.int n,.bl b]),some (.tup (G.map PV.int)),some (.ref a),some (.int n),some (.bl b),some (.ref f)] H1:=fun q=>key2 f L1 H1 hf s1 e1 (fun z=>by rw[IX q,Ji]) (by omega);have yes:(b=true/\n∈A)∨(b=false/\n∉G)->T1 { nx:=R { nx:=fun _ H=>∃H3,U.Sub H3 H/\Q .non H3,rt:=fun v H=>∃H3,U.Sub H3 H/\Q v H3 },rt:=fun v H=>∃H3,U.Sub H3 H/\Q v H3 } [some (.tup [.int c,.tup (ts.map prV),.tup (bs.map prV)]),some (.tup [.int n,.bl b]),some (.tup (G.map PV.int)),some (.ref a),some (.int n),some (.bl b),some (.ref f)] H1:=fun cd=>by
    subst h1;ac_rfl;show ∀acc,H1 acc=none->_;intro q1 hq1;refine aC (fun y=>PV.tup [g0 y,.bl false]) (at1 n) (fun σ=>∃z z2,σ=[z,z2,some (.int n)]) (by rw[kb];omega) (fun _=>trivial) ?_ ?_ ⟨_,_,rfl⟩
    ·rintro y hy l σ R' ⟨z,z2,rfl⟩ hl kT kF;obtain⟨p,hp,rfl⟩:=IF.mp hy;have e:at1 n (prV p)=decide (p.2=n):=rfl;rw[e]at kT kF;unfold prV at *;ac_rfl;refine aY (fun q=>?_) (fun q=>?_)
     ·exact⟨ao (by decide),hl,by rw[aD];exact kT (by simpa using q) _ ⟨_,_,rfl⟩⟩
     ·exact kF (by simpa using q) _ ⟨_,_,rfl⟩
    rw[vb];ac_rfl;refine⟨_,_,(aq (av e1 hq1)).trans e1,rfl,ao (by simp only[kb,II];omega),fun q1c hq1c=>?_⟩;rw[←IP];have s2a:=s1.put (o:=.lst (((src ts n).map fun m=>((m,false):Sd)).map sdV)) (s1.free hq1);have hq1H:=s2a.free hq1c;have s2:=s2a.put (o:=.lst ((L1++(src ts n).map fun m=>((m,false):Sd)).map sdV)) hq1H;have e2:put (put H1 q1 (.lst (((src ts n).map fun m=>((m,false):Sd)).map sdV))) q1c (.lst ((L1++(src ts n).map fun m=>((m,false):Sd)).map sdV)) q1c=some (.lst ((L1++(src ts n).map fun m=>((m,false):Sd)).map sdV)):=ah;generalize put (put H1 q1 (.lst (((src ts n).map fun m=>((m,false):Sd)).map sdV))) q1c (.lst ((L1++(src ts n).map fun m=>((m,false):Sd)).map sdV))=H2 at *;show ∀acc,H2 acc=none->_;intro q2 hq2;refine aC (fun y=>PV.tup [g1 y,.bl true]) (at0 n) (fun σ=>∃z z2,σ=[z,z2,some (.int n)]) (by rw[kb];omega) (fun _=>trivial) ?_ ?_ ⟨_,_,rfl⟩
    ·rintro y hy l σ R' ⟨z,z2,rfl⟩ hl kT kF;obtain⟨p,hp,rfl⟩:=IF.mp hy;have e:at0 n (prV p)=decide (p.1=n):=rfl;rw[e]at kT kF;unfold prV at *;ac_rfl;refine aY (fun q=>?_) (fun q=>?_)
     ·exact⟨ao (by decide),hl,by rw[aD];exact kT (by simpa using q) _ ⟨_,_,rfl⟩⟩
     ·exact kF (by simpa using q) _ ⟨_,_,rfl⟩
    rw[tN];ac_rfl;refine⟨_,_,(aq (av e2 hq2)).trans e2,rfl,ao (by simp only[kb,II];omega),fun q2c hq2c=>?_⟩;rw[←IP];have s3a:=s2.put (o:=.lst (((fol bs n).map fun m=>((m,true):Sd)).map sdV)) (s2.free hq2);have hq2H:=s3a.free hq2c;have s3:=s3a.put (o:=.lst (((L1++((src ts n).map fun m=>((m,false):Sd)))++(fol bs n).map fun m=>((m,true):Sd)).map sdV)) hq2H;have e3:put (put H2 q2 (.lst (((fol bs n).map fun m=>((m,true):Sd)).map sdV))) q2c (.lst (((L1++((src ts n).map fun m=>((m,false):Sd)))++(fol bs n).map fun m=>((m,true):Sd)).map sdV)) q2c=some (.lst (((L1++((src ts n).map fun m=>((m,false):Sd)))++(fol bs n).map fun m=>((m,true):Sd)).map sdV)):=ah;generalize put (put H2 q2 (.lst (((fol bs n).map fun m=>((m,true):Sd)).map sdV))) q2c (.lst (((L1++((src ts n).map fun m=>((m,false):Sd)))++(fol bs n).map fun m=>((m,true):Sd)).map sdV))=H3 at *;show ∀acc,H3 acc=none->_;intro q3 hq3;refine aC (fun y=>PV.tup [g0 y,.bl true]) (at1 n) (fun σ=>∃z z2,σ=[z,z2,some (.int n)]) (by rw[kb];omega) (fun _=>trivial) ?_ ?_ ⟨_,_,rfl⟩
    ·rintro y hy l σ R' ⟨z,z2,rfl⟩ hl kT kF;obtain⟨p,hp,rfl⟩:=IF.mp hy;have e:at1 n (prV p)=decide (p.2=n):=rfl;rw[e]at kT kF;unfold prV at *;ac_rfl;refine aY (fun q=>?_) (fun q=>?_)
     ·exact⟨ao (by decide),hl,by rw[aD];exact kT (by simpa using q) _ ⟨_,_,rfl⟩⟩
     ·exact kF (by simpa using q) _ ⟨_,_,rfl⟩
    rw[vb];ac_rfl;refine⟨_,_,(aq (av e3 hq3)).trans e3,rfl,ao (by simp only[kb,II];omega),fun q3c hq3c=>?_⟩;rw[←IP];have s4a:=s3.put (o:=.lst (((src bs n).map fun m=>((m,true):Sd)).map sdV)) (s3.free hq3);have hq3H:=s4a.free hq3c;have s4:=s4a.put (o:=.lst ((((L1++((src ts n).map fun m=>((m,false):Sd)))++((fol bs n).map fun m=>((m,true):Sd)))++(src bs n).map fun m=>((m,true):Sd)).map sdV)) hq3H;have e4:put (put H3 q3 (.lst (((src bs n).map fun m=>((m,true):Sd)).map sdV))) q3c (.lst ((((L1++((src ts n).map fun m=>((m,false):Sd)))++((fol bs n).map fun m=>((m,true):Sd)))++(src bs n).map fun m=>((m,true):Sd)).map sdV)) q3c=some (.lst ((((L1++((src ts n).map fun m=>((m,false):Sd)))++((fol bs n).map fun m=>((m,true):Sd)))++(src bs n).map fun m=>((m,true):Sd)).map sdV)):=ah;generalize put (put H3 q3 (.lst (((src bs n).map fun m=>((m,true):Sd)).map sdV))) q3c (.lst ((((L1++((src ts n).map fun m=>((m,false):Sd)))++((fol bs n).map fun m=>((m,true):Sd)))++(src bs n).map fun m=>((m,true):Sd)).map sdV))=H4 at *;exact key2 q3c _ H4 hq3H s4 e4 (by
     intro z;rw[IZ cd];unfold bwd;rw[IP];simp only[IU];exact or4) (by simp only[II,kb];omega)
   have ha1:=s1 _ _ ha;ac_rfl;cases b with
   | true =>
    refine aG rfl ⟨_,ha1,aE,?_⟩;rw[aO];by_cases hA:n∈F
    ·exact aG (by simp[hA]) (yes (.inl ⟨rfl,(iff n).mp hA⟩))
    ·exact aA (by simp[hA]) (aA rfl (no (by simpa using fun z=>hA ((iff n).mpr z))))
   | false =>
    refine aA rfl (aG rfl ⟨aE,?_⟩);rw[aO];by_cases hA:n∈G
    ·exact aA (by simp[hA]) (no (by simp[hA]))
    ·exact aG (by simp[hA]) (yes (.inr ⟨rfl,hA⟩))
  ac_rfl;refine⟨aE,?_⟩;rw[aO];by_cases hg:n∈G
  ·exact aA (by simp[hg]) (key f0 [] H0 hf0 s0 e0 (by rw[IZ hg]))
  refine aG (by simp[hg]) ?_;show ∀acc,H0 acc=none->_;intro q hq;refine aC (fun y=>PV.tup [g1 y,.bl true]) (at0 n) (fun σ=>∃z z2,σ=[z,z2,some (.int n)]) (by rw[kb];omega) (fun _=>trivial) ?_ ?_ ⟨_,_,rfl⟩
  ·rintro y hy l σ R' ⟨z,z2,rfl⟩ hl kT kF;obtain⟨p,hp,rfl⟩:=IF.mp hy;have e:at0 n (prV p)=decide (p.1=n):=rfl;rw[e]at kT kF;unfold prV at *;ac_rfl;refine aY (fun q=>?_) (fun q=>?_)
   ·exact⟨ao (by decide),hl,by rw[aD];exact kT (by simpa using q) _ ⟨_,_,rfl⟩⟩
   ·exact kF (by simpa using q) _ ⟨_,_,rfl⟩
  rw[tN];exact key q _ _ (s0.free hq) (s0.put (s0.free hq)) ah (by rw[IX hg])
 ·exact h.elim
theorem Hv(T:Tx K mg t):aK P w K mg base CX0 2 t.a_zH t.d_zH ["_law_drawn","_law_ones","_law_given"] dP:=by
 refine okU (k:=1) T.F_zH jU (fun vs H Q E h=>by
  unfold dP at h;split at h
  ·rfl
  ·exact h.elim) (fun cdv A outer s H E B hr=>⟨_,(af (sN 3 jU.nd (au (Iy T) hr.mo rfl T.g_zU T.F_zU.kp T.B_zU (aa (qv 0) (aa (qv 2) ae))))
  (af (sC 4 jU.nd (N2:=Cy) (nt:=1) (js:=[]) (ck (sc:=ai wb)) (aI (qv 1)) (fun _ _ _ _=>⟨(gN 0 HF),a9,(bg (aa (qv 0) (aa bA ae)))⟩))
  (af (sN 5 jU.nd ar)
  (af (gG Jk (cN ia h7 (qv 5) (aw ay aU rfl T.b_len Jf (aa (qv 4) ae)))
  (af (bz Jk rfl (aI (au (Hm T) hr.mo rfl T.g_zu T.F_zu.kp T.B_zu (aa (qv 0) (aa (iX (qv 4) (qv 5)) (aa (qv 2) (aa (qv 3) ae)))))) (gN 6 jU.nd)
   (ak (aN (cW (aW hr.units) bf (qv 6) (qv 4))
    (ak (aM (bV Jw Jx bj bu (qv 4) (aa (qv 6) ae))))
    aB)))
   (ak (sN 5 jU.nd (cR (qv 5) ar)))))
  (ak (az (qv 4))))))),?_⟩)
 intro vs H Q E h;unfold dP at h;split at h
 ·rename_i l m n;obtain⟨c,ts,bs,O,G,e,rfl,rfl,ok,hO,hG,h⟩:=h;unfold shp at e;injection e with e;subst e;have o6:=hO.len ok.c6;left;refine⟨c,ts,bs,G,rfl,rfl,ok,hG,fun a H1 F A ha s1 ea an iff=>?_⟩;right;show ∀acc,H1 acc=none->_;intro f hf;refine aC (fun y=>PV.tup [y,.bl false]) (fun _=>true) (fun σ=>∃z,σ=[z]) (by rw[kb];omega) (fun _=>trivial) ?_ ?_ ⟨_,rfl⟩
  ·rintro y hy l σ R' ⟨z,rfl⟩ hl kT kF;obtain⟨k,hk,rfl⟩:=IF.mp hy;ac_rfl;exact⟨ao (by decide),hl,by rw[aD];exact kT rfl _ ⟨_,rfl⟩⟩
  rw[fD];have s2:=(Sub.refl H1).put (o:=.lst ((O.map fun m=>((m,false):Sd)).map sdV)) hf;have e2:put H1 f (.lst ((O.map fun m=>((m,false):Sd)).map sdV)) f=some (.lst ((uu O).map sdV)):=ah;generalize put H1 f (.lst ((O.map fun m=>((m,false):Sd)).map sdV))=H2 at *;right;subst hR;refine aj fun R hR=>?_;refine eC fun Rb hRb=>?_;have ri0:RI ts bs G A O (uu O) 0:=by
   refine⟨?_,fun s hs=>?_,fun x hx=>IF.mpr ⟨x,hx,rfl⟩,fun s hs=>(by cases hs)⟩
   ·unfold uu;rw[Jr,JQ];exact hO.up.imp fun h e=>by cases e;omega
   ·obtain⟨y,hy,rfl⟩:=IF.mp hs;exact .base hy
  have len:∀{L:List Sd} {k:Nat},RI ts bs G A O L k->L.length≤12:=fun r=>kZ ok.c6 r.nd fun s hs=>mG ok.gt ok.gb hO.lo (r.rl s hs);refine dU (fun m σ H3=>∃z,∃L:List Sd,∃k:Nat,σ=[some (.tup [.int c,.tup (ts.map prV),.tup (bs.map prV)]),some (.tup (O.map PV.int)),some (.tup (G.map PV.int)),some (.ref a),some (.ref f),some (.int (k:Nat)),z]/\U.Sub H1 H3/\H3 f=some (.lst (L.map sdV))/\RI ts bs G A O L k/\k≤L.length/\m=12 - k) _ ⟨none,_,0,rfl,s2,e2,ri0,by omega,rfl⟩ ?_;rintro m σ H3 ⟨z,L,k,rfl,s3,e3,ri,hk,rfl⟩;have l12:=len ri;ac_rfl;refine⟨_,e3,?_⟩;by_cases hlt:k<L.length
  ·refine aG (by rw[kb];simpa using hlt) (yp fun N bk hN=>?_);subst hRb;refine aj fun R' hR'=>?_;ac_rfl;refine⟨_,e3,?_⟩;have eat:atI (L.map sdV) ((k:Nat):Int)=some (sdV L[k]):=by rw[cQ (by rw[kb];exact hlt),List.getElem_map]
   rw[eat];have hLk:L[k]∈L:=Ju hlt;have ek:L.take (k+1)=L.take k++[L[k]]:=by rw[Ke,ID hlt];rfl
   generalize hst:L[k]=st at *;have rst:=ri.rl st hLk
   try unfold sdV
   ac_rfl;refine⟨c,ts,bs,G,F,A,_,_,rfl,rfl,rfl,ok,s3 _ _ ea,iff,fun r H4 L2 hr s4 er hz hl=>⟨_,er,?_⟩⟩;have nrf:r≠f:=(av e3 hr).symm;refine bR (fun j σ H5=>∃z,∃M:List Sd,σ=[some (.tup [.int c,.tup (ts.map prV),.tup (bs.map prV)]),some (.tup (O.map PV.int)),some (.tup (G.map PV.int)),some (.ref a),some (.ref f),some (.int (k:Nat)),z]/\U.Sub H1 H5/\H5 r=some (.lst (L2.map sdV))/\H5 f=some (.lst (M.map sdV))/\RI ts bs G A O M k/\(∃M2,M=L++M2)/\∀y∈L2.take j,y∈M) ?_ ?_ ⟨_,L,rfl,s3.trans s4,er,s4 _ _ e3,ri,⟨[],by simp⟩,fun y hy=>(by simp at hy)⟩
   ·rintro σ H5 ⟨z,M,rfl,s5,er5,ef5,ri5,⟨M2,rfl⟩,hin⟩;refine⟨er5,?_⟩;rw[kb,Jv]at hin;subst hR';ac_rfl;refine hN _ _ ⟨12 - (k+1),by omega,_,L++M2,k+1,rfl,s5,ef5,⟨ri5.nd,ri5.rl,ri5.st,?_⟩,by rw[II];omega,rfl⟩;rw[List.take_append_of_le_length (by omega),ek];intro s hs y hy;rcases IU.mp hs with q | q
    ·exact ri5.sh s (by rw[List.take_append_of_le_length (by omega)];exact q) y hy
    ·rw[IW.mp q]at hy;exact hin y ((hz y).mpr hy)
   ·rintro N' j y σ H5 hy ⟨z,M,rfl,s5,er5,ef5,ri5,⟨M2,rfl⟩,hin⟩ kk;refine⟨er5,?_⟩;rw[IV]at hy;obtain⟨s',hs',rfl⟩:=Jp.mp hy;have ej:L2.take (j+1)=L2.take j++[s']:=by rw[Ke,hs'];rfl
    have m12:=len ri5
    try unfold sdV
    ac_rfl;refine⟨_,ef5,qq,?_⟩;have ea5:=tZ (L:=L++M2) (n:=s'.1) (b:=s'.2);unfold sdV at ea5
    try unfold sdV
    rw[ea5];by_cases hm:(s'.1,s'.2)∈L++M2
    ·refine aA (by simp[hm]) (kk _ _ ⟨_,L++M2,rfl,s5,er5,ef5,ri5,⟨M2,rfl⟩,fun y hy=>?_⟩);rw[ej]at hy;rcases IU.mp hy with q | q
     ·exact hin y q
     ·rw[IW.mp q];exact hm
    ·refine aG (by simp[hm]) ⟨⟨_,ef5⟩,_,ef5,aS (by rw[kb];omega),?_⟩;have hb:s'∈bes ts bs G A (st.1,st.2):=(hz s').mp (Ja hs');refine kk _ _ ⟨_,L++M2++[s'],rfl,s5.put hf,(aq nrf).trans er5,by rw[ah,IP (l₁:=L++M2) (l₂:=[s'])];rfl,⟨?_,fun s hs=>?_,fun x hx=>Jh _ (ri5.st x hx),fun s hs y hy=>?_⟩,⟨M2++[s'],by simp⟩,fun y hy=>?_⟩
     ·exact Jz.mpr ⟨ri5.nd,by simp,fun x hx y hy e=>hm (by rw[IW.mp hy]at e;rw[←e];exact hx)⟩
     ·rcases IU.mp hs with q | q
      ·exact ri5.rl s q
      ·rw[IW.mp q];exact t8 rst hb
     ·rw[List.take_append_of_le_length (by rw[II];omega)]at hs;exact Jh _ (ri5.sh s hs y hy)
     ·rw[ej]at hy;rcases IU.mp hy with q | q
      ·exact Jh _ (hin y q)
      ·exact Jd _ q
  ·refine aA (by rw[kb];simpa using hlt) ?_;subst hR;ac_rfl;exact⟨H3,Sub.refl _,h f H3 A L (s1.trans s3) an e3 l12 (ri.iff (by omega))⟩
 ·exact h.elim
theorem Bv(T:Tx K mg t):aK P w K mg base CX0 3 t.a_zZ t.d_zZ ["_law_drawn","_law_ones","_law_others","_law_given"] gH:=by
 refine okU (k:=2) T.F_zZ Cm (fun vs H Q E h=>by
  unfold gH at h;split at h
  ·rfl
  ·exact h.elim) (fun cdv A outer s H E B hr=>⟨_,(ak (az (bK (a0 hr.units) bx (aw ay aU rfl T.b_len Jf (aa (cE (N2:=CO) (nt:=2) (js:=[2]) (ck (sc:=ai yo)) (aI (au (Hv T) hr.mo rfl T.g_zH T.F_zH.kp T.B_zH (aa (qv 0) (aa (qv 1) (aa (qv 3) ae))))) (fun _ _ _ _=>⟨(dz (n:=2) rfl (aX (gN 0 CY) (aX (gN 1 CY) cu))),(aV (cW (bL hr.units) bf (qv 0) (qv 2))),ar⟩)) ae)) ar (bS _)))),?_⟩)
 intro vs H Q E h;unfold gH at h;split at h
 ·rename_i l m k n;obtain⟨c,ts,bs,O,B,G,e,rfl,rfl,rfl,ok,hO,hG,h⟩:=h;unfold shp at e;injection e with e;subst e;ac_rfl;refine⟨c,ts,bs,O,G,rfl,rfl,rfl,ok,hO,hG,fun r H1 A L s1 an er l12 iff=>⟨_,er,?_⟩⟩;show ∀acc,H1 acc=none->_;intro acc hacc;have na:=av er hacc;refine aC (fun _=>.int 1) (inB B) (fun σ=>∃z z2,σ=[z,z2,some (.tup (B.map PV.int))]) (by rw[kb];omega) (fun _=>(aq na).trans er) ?_ ?_ ⟨_,_,rfl⟩
  ·rintro y hy l σ R' ⟨z,z2,rfl⟩ hl kT kF;obtain⟨p,hp,rfl⟩:=IF.mp hy;have e:inB B (sdV p)=decide (p.1∈B):=rfl;rw[e]at kT kF;unfold sdV at *;ac_rfl;refine⟨aE,?_⟩;rw[aO];exact aY (fun q=>⟨hl,by rw[aD];exact kT q _ ⟨_,_,rfl⟩⟩) (fun q=>kF q _ ⟨_,_,rfl⟩)
  ac_rfl;refine⟨H,s1.put (s1.free hacc),h _ A an ?_⟩;rw[kb,Kk];constructor
  ·intro z x p hx hb;have:(L.map sdV).filter (inB B)=[]:=Kd.mp (by omega);rw[JK]at this;exact this (sdV (x,p)) (IF.mpr ⟨_,(iff (x,p)).mpr hx,rfl⟩) (JE hb)
  ·intro z;have:(L.map sdV).filter (inB B)=[]:=by
    rw[JK];intro y hy;obtain⟨p,hp,rfl⟩:=IF.mp hy;have:=z p.1 p.2 ((iff p).mp hp);show ¬decide (p.1∈B)=true;simpa using this
   rw[this];rfl
 ·exact h.elim
theorem E9(T:Tx K mg t):aK P w K mg base CX0 2 t.a_zP t.d_zP ["_law_cell","_law_many","_law_kinds"] fJ:=by
 refine okU (k:=1) T.F_zP iT (fun vs H Q E h=>by
  unfold fJ at h;split at h
  ·rfl
  ·exact h.elim) (fun cdv A outer s H E B hr=>⟨_,(af (sC 3 iT.nd (N2:=Cd) (nt:=1) (js:=[]) (ck (sc:=ai vq)) (bN rfl T.b_range (aa (qv 2) ae)) (fun _ _ _ _=>⟨(gN 0 FI),a9,(bh ae)⟩))
  (af (sN 4 iT.nd (lP (qv 0) ar))
  (af (bz Jk rfl (bN rfl T.b_range (aa (qv 1) ae)) (gN 5 iT.nd)
  (af (sN 6 iT.nd (cM (qv 4) (qv 2)))
   (af (sN 4 iT.nd (lP (qv 4) (qv 2)))
   (af (aN (cN (a0 hr.units) bx (cM (qv 0) ar) ar)
   (ak (sN 6 iT.nd (cM (au (Dq T) hr.mo rfl T.g_zW T.F_zW.kp T.B_zW (aa (qv 0) (aa (cR ar (qv 5)) ae))) (qv 2))))
   aB)
   (ak (aM (bV Jw Jx bj bu (iX (qv 3) (qv 6)) (aa (qv 5) ae))))))))
  (ak (az (cE (N2:=CS) (nt:=1) (js:=[]) (ck (sc:=ai vq)) (aI (qv 3)) (fun _ _ _ _=>⟨(gN 0 Ik),a9,(aL aJ a8 rfl T.b_tuple JL (aa (qv 0) ae))⟩))))))),?_⟩)
 intro vs H Q E h;unfold fJ at h;split at h
 ·rename_i u c k;obtain⟨⟨c1,c6⟩,⟨k1,k10⟩,h⟩:=h;left;refine⟨⟨by omega,by omega⟩,?_⟩;show ∀acc,H acc=none->_;intro q hq;refine d0 (fun j σ H2=>∃z,∃rs:List Addr,σ=[z]/\U.Sub H H2/\H2 q=some (.lst (rs.map PV.ref))/\Rl H2 q rs (List.replicate j [])/\∀r∈rs,H r=none) ?_ ?_ ⟨none,[],rfl,(Sub.refl H).put hq,ah,⟨List.nodup_nil,.nil⟩,fun r hr=>(by cases hr)⟩
  ·rintro j v σ H2 R' hv ⟨z,rs,rfl,s2,e2,rl,fr⟩ kk;refine⟨trivial,?_⟩;have hlr:=Paired.length rl.at';rw[Km]at hlr;have hj:j<k.toNat:=by have:=(IM.mp hv).1;simpa[bX]using this
   ac_rfl;refine⟨ao (by decide),fun p hp=>?_⟩;have np:=av e2 hp;refine⟨_,(aq np).trans e2,aS (by rw[kb];omega),?_⟩;have sa:=(Sub.refl H2).put (o:=.lst []) hp;have pn:∀r∈rs,r≠p/\r≠q:=fun r hr=>by
    obtain⟨L,_,h1,h2⟩:=i6 rl.at' hr;exact⟨av h2 hp,h1⟩
   refine kk _ _ ⟨_,rs++[p],rfl,(s2.trans sa).put hq,by rw[ah,IP];rfl,⟨?_,?_⟩,fun r hr=>?_⟩
   ·exact Jz.mpr ⟨rl.nd,by simp,fun x hx y hy e=>(pn x hx).1 (by rw[IW.mp hy]at e;exact e)⟩
   ·rw[List.replicate_succ'];refine iM ⟨np.symm,(aq np.symm).trans ah⟩ (Paired.mapP rl.at' fun r L y_=>by obtain⟨h1,h2⟩:=y_;exact ⟨h1,(aq h1).trans (sa _ _ h2)⟩)
   ·rcases IU.mp hr with z | z
    ·exact fr r z
    ·rw[IW.mp z];exact s2.free hp
  rintro σ H1 ⟨z,rs,rfl,s1,e1,rl,fr⟩;refine⟨trivial,?_⟩;have hrl:(bX 0 k.toNat).length=k.toNat:=by simp[bX]
  rw[hrl]at rl;have hk:rs.length=k.toNat:=by have:=Paired.length rl.at';rw[Km]at this;exact this
  have pt0:PtI k.toNat 0 (List.replicate k.toNat []):=by
   refine⟨Km ..,fun L hL=>?_,?_⟩
   ·rw[(List.mem_replicate.mp hL).2];exact .nil
   ·have:(List.replicate k.toNat ([]:List Int)).flatten=[]:=by simp
    rw[this];exact List.Perm.nil
  right;refine⟨zV (by decide) (by decide),?_⟩;generalize u.fdiv 2=nu;right;refine⟨⟨by omega,by omega⟩,?_⟩;refine c8 (fun i σ H2=>∃nu z1 z2 Ls,σ=[some (.int u),some (.int c),some (.int k),some (.ref q),some (.int nu),z1,z2]/\U.Sub H H2/\H2 q=some (.lst (rs.map PV.ref))/\Rl H2 q rs Ls/\PtI k.toNat i Ls) ?_ ?_ ⟨nu,none,none,_,rfl,s1,e1,rl,pt0⟩
  ·rintro σ H2 ⟨nu,z1,z2,Ls,rfl,s2,e2,rl,pt⟩;refine⟨trivial,?_⟩;have ec:((c.toNat:Nat):Int)=c:=by omega
   subst hR;ac_rfl;refine⟨_,e2,fun acc hacc=>?_⟩;refine aC (mn H2) (fun _=>true) (fun σ=>∃z,σ=[z]) (by rw[kb];omega) (fun _=>(aq (av e2 hacc)).trans e2) ?_ ?_ ⟨_,rfl⟩
   ·rintro y hy l σ R' ⟨z,rfl⟩ hl kT kF;obtain⟨r,hr,rfl⟩:=IF.mp hy;obtain⟨L,_,h1,h2⟩:=i6 rl.at' hr;rw[di h2]at kT;ac_rfl;exact⟨_,(aq (av h2 hacc)).trans h2,hl,by rw[aD];exact kT rfl _ ⟨_,rfl⟩⟩
   rw[JC.mpr (fun _ _=>rfl),o4 rl.at'];refine⟨_,Sub.refl _,h acc _ Ls (s2.free hacc) (s2.put (s2.free hacc)) ah ⟨pt.len,pt.up,?_⟩⟩;have:=pt.pm;rw[ec]at this;exact this
  ·rintro N i σ H2 hi ⟨nu,z1,z2,Ls,rfl,s2,e2,rl,pt⟩ kk;refine⟨trivial,?_⟩;refine aj fun R' hR'=>?_;ac_rfl;refine⟨by omega,?_⟩;have f1:=fm (a:=nu) (b:=k) (by omega);generalize nu.fmod k=kd0 at *;subst hR';refine aj fun R' hR'=>?_;ac_rfl;refine⟨zV (by omega) (by omega),?_⟩;generalize nu.fdiv k=nu2 at *;subst hR';refine aj fun R' hR'=>?_;have fin:∀kd:Int,0≤kd/\kd<k->R' { nx:=N,rt:=fun v H=>∃H3,U.Sub H3 H/\Q v H3,bk:=R { nx:=fun _ H=>∃H3,U.Sub H3 H/\Q .non H3,rt:=fun v H=>∃H3,U.Sub H3 H/\Q v H3 },ct:=N } [some (.int u),some (.int c),some (.int k),some (.ref q),some (.int nu2),some (.int (i:Nat)),some (.int kd)] H2:=fun kd hd=>by
    have hkd:kd.toNat<rs.length:=by omega
    have hkL:kd.toNat<Ls.length:=by rw[pt.len];omega
    have ea:atI (rs.map PV.ref) kd=some (.ref rs[kd.toNat]):=by
     have:=cQ (l:=rs.map PV.ref) (i:=kd.toNat) (by rw[kb];exact hkd);rw[List.getElem_map,show((kd.toNat:Nat):Int)=kd by omega]at this;exact this
    have hr:=lI rl.at' hkd hkL;have fl:Ls[kd.toNat].length≤6:=My.bI 6 _ ((pt.up _ (Ju hkL)).imp fun h=>by omega) fun x hx=>by
     have:=b9.mp (pt.pm.mem_iff.mp (List.mem_flatten.mpr ⟨_,Ju hkL,hx⟩));omega
    subst hR';ac_rfl;refine⟨_,e2,?_⟩;rw[ea];ac_rfl;refine⟨⟨_,hr.2⟩,_,hr.2,aS (by rw[kb];omega),?_⟩;have hfr:H rs[kd.toNat]=none:=fr _ (Ju hkd);refine kk _ _ ⟨_,_,_,Ls.set kd.toNat (Ls[kd.toNat]++[((i:Nat):Int)]),rfl,s2.put hfr,(aq hr.1.symm).trans e2,⟨rl.nd,?_⟩,pt.next hkL⟩;have:=uL (M:=Ls[kd.toNat]++[((i:Nat):Int)]) hkd rl.nd rl.at';rw[IP]at this;exact this
   ac_rfl;refine⟨by decide,aY (fun _=>?_) (fun _=>fin _ f1)⟩;exact⟨⟨by omega,by omega⟩,fun n=>⟨by omega,fin _ (fm (by omega))⟩⟩
 ·exact h.elim
theorem CL(T:Tx K mg t):aK P w K mg base CX0 1 t.a_zw t.d_zw ["_law_sets","_law_kind"] fG:=by
 refine okU (k:=0) T.F_zw mM (fun vs H Q E h=>by
  unfold fG at h;split at h
  ·rfl
  ·exact h.elim) (fun cdv A outer s H E B hr=>⟨_,(af (aN (cN fb fe (aw ay aU rfl T.b_len Jf (aa (iX (qv 0) (qv 1)) ae)) ar)
  (ak (az (qv 0)))
  aB)
  (af (sN 2 mM.nd ar)
  (af (bz Jk rfl (bN rfl T.b_range (aa (aw ay aU rfl T.b_len Jf (aa (qv 0) ae)) ae)) (gN 3 mM.nd)
  (ak (aN (cN tX uY (aw ay aU rfl T.b_len Jf (aa (iX (qv 0) (qv 3)) ae)) (aw ay aU rfl T.b_len Jf (aa (iX (qv 0) (qv 2)) ae)))
   (ak (sN 2 mM.nd (qv 3)))
   aB)))
  (af (sN 4 mM.nd (aL bM dI rfl T.b_list K7 (aa (qv 0) ae)))
  (af (lj (jS (iX (qv 0) (qv 2)) (eh (cg ar)) iD) (ug (qv 4) (qv 1)))
  (af (lj (jS (iX (qv 0) (qv 2)) iD (eh (cg ar))) (ug (qv 4) (qv 2)))
  (ak (az (qv 4))))))))),?_⟩)
 intro vs H Q E h;unfold fG at h;split at h
 ·rename_i a j;obtain⟨n,c,Ls,ha,pt,⟨c1,c6⟩,n10,⟨j0,jn⟩,h⟩:=h;have hln:=pt.len;have hj:j.toNat<Ls.length:=by omega
  have atL:∀i:Int,0≤i->i<n->∃hi:i.toNat<Ls.length,atI (Ls.map tupI) i=some (.tup (Ls[i.toNat].map PV.int)):=fun i h0 h1=>by
   have hi:i.toNat<Ls.length:=by omega
   refine⟨hi,?_⟩;have:=cQ (l:=Ls.map tupI) (i:=i.toNat) (by rw[kb];exact hi);rw[List.getElem_map,show((i.toNat:Nat):Int)=i by omega]at this;exact this
  obtain⟨_,eaj⟩:=atL j j0 jn;left;refine⟨_,ha,?_⟩;rw[eaj];ac_rfl;by_cases hne:Ls[j.toNat]=[]
  ·refine aA (by rw[hne];simp) ?_;right;right;refine⟨_,ha,⟨by rw[kb];omega,by rw[kb];omega⟩,?_⟩;rw[kb,Jq];refine c8 (fun i σ H2=>∃pl z1,∃hp:pl<Ls.length,σ=[some (.ref a),some (.int j),some (.int ((pl:Nat):Int)),z1,none]/\H2=H/\∀i' (hi:i'<Ls.length),i'<i->Ls[i'].length≤Ls[pl].length) ?_ ?_ ⟨0,none,by omega,rfl,rfl,fun i' _ hi=>absurd hi (by omega)⟩
   ·rintro σ H2 ⟨pl,z1,hp,rfl,rfl,hmax⟩;refine⟨trivial,?_⟩;have pne:Ls[pl]≠[]:=fun e=>by
     have h0:Ls.flatten.length≤Ls.length*0:=mB fun L hL=>by
      obtain⟨i,hi,rfl⟩:=List.getElem_of_mem hL;have:=hmax i hi hi;rw[e]at this;exact this
     have h1:=pt.pm.length_eq;unfold ulN at h1;rw[kb,JH]at h1;omega
    obtain⟨P,e,ep⟩:∃P e,Ls[pl]=P++[e]:=by
     rcases JY Ls[pl]with z |⟨P,e,z⟩
     ·exact absurd z pne
     ·exact⟨P,e,by rw[z,JZ]⟩
    obtain⟨mv,mv2⟩:=pt.move hj hp hne ep;obtain⟨_,eap⟩:=atL ((pl:Nat):Int) (by omega) (by omega);simp only[Jq]at eap;rw[ep]at eap;subst hR;dsimp only;left;refine⟨_,ha,fun f hf=>?_⟩;have s1:=(Sub.refl H2).put (o:=.lst (Ls.map tupI)) hf;have e1:put H2 f (.lst (Ls.map tupI)) f=some (.lst (Ls.map tupI)):=ah;generalize put H2 f (.lst (Ls.map tupI))=H3 at *;right;refine⟨_,s1 _ _ ha,?_⟩;rw[eap];ac_rfl;rw[xp];refine⟨_,j.toNat,e1,by unfold ixN;rw[IZ j0,kb,IZ (by omega)],?_⟩;have es:(Ls.map tupI).set j.toNat (.tup [.int e])=(Ls.set j.toNat [e]).map tupI:=by rw[List.map_set];rfl
    rw[es];have s2:=s1.put (o:=.lst ((Ls.set j.toNat [e]).map tupI)) hf;have e2:put H3 f (.lst ((Ls.set j.toNat [e]).map tupI)) f=some (.lst ((Ls.set j.toNat [e]).map tupI)):=ah;generalize put H3 f (.lst ((Ls.set j.toNat [e]).map tupI))=H4 at *;right;refine⟨_,s2 _ _ ha,?_⟩;rw[eap];ac_rfl;rw[nF];have ed:(P++[e]).dropLast=P:=by simp
    rw[ed];refine⟨_,pl,e2,by unfold ixN;rw[IZ (by omega),kb,List.length_set,IZ (by omega),Jq],?_⟩;have es2:((Ls.set j.toNat [e]).map tupI).set pl (.tup (P.map PV.int))=((Ls.set j.toNat [e]).set pl P).map tupI:=(List.map_set (l:=Ls.set j.toNat [e]) (i:=pl) (a:=P) (f:=tupI)).symm;rw[es2];subst hR;ac_rfl;exact⟨_,Sub.refl _,h f _ _ (s2.put hf) ah mv (by rw[mv2];simp)⟩
   ·rintro N i σ H2 hi ⟨pl,z1,hp,rfl,rfl,hmax⟩ kk;refine⟨trivial,?_⟩;obtain⟨_,ea1⟩:=atL ((i:Nat):Int) (by omega) (by omega);obtain⟨_,ea2⟩:=atL ((pl:Nat):Int) (by omega) (by omega);simp only[Jq]at ea1 ea2;ac_rfl;refine⟨_,ha,?_⟩;rw[ea1];ac_rfl;refine⟨_,ha,?_⟩;rw[ea2];ac_rfl;refine aY (fun z=>?_) (fun z=>?_)
    ·have z:Ls[pl].length≤Ls[i].length:=by simpa using z
     refine kk _ _ ⟨i,_,hi,rfl,rfl,fun i' hi' lt=>?_⟩;rcases Nat.lt_or_ge i' i with q | q
     ·exact Jl (hmax i' hi' q) z
     ·have:i'=i:=by omega
      subst this;exact IS _
    ·have z:Ls[i].length<Ls[pl].length:=by simpa using z
     refine kk _ _ ⟨pl,_,hp,rfl,rfl,fun i' hi' lt=>?_⟩;rcases Nat.lt_or_ge i' i with q | q
     ·exact hmax i' hi' q
     ·have:i'=i:=by omega
      subst this;exact Nat.le_of_lt z
  ·refine aG (by rw[kb];simpa[List.length_pos_iff]using hne) ?_;exact⟨H,Sub.refl _,h a H Ls (Sub.refl _) ha pt (by rw[ID hj];intro z;exact hne (Js z))⟩
 ·exact h.elim
theorem AS(T:Tx K mg t):aK P w K mg base CX0 6 t.a_yg t.d_yg ["drawing","ones","others","given"] (dQ t):=by
 refine okU (k:=5) T.F_yg tD (fun vs H Q E h=>by
  unfold dQ at h;split at h
  ·rfl
  ·exact h.elim) (fun cdv A outer s H E B hr=>⟨_,(af (aM (au (yu T) hr.mo rfl T.g_zv T.F_zv.kp T.B_zv (aa (qv 0) (aa (qv 1) (aa (qv 2) (aa (qv 3) ae))))))
  (af (sN 4 tD.nd (au (GD T) hr.mo rfl T.g_zI T.F_zI.kp T.B_zI (aa (qv 0) (aa (qv 1) (aa (qv 3) ae)))))
  (af (aN (bO (aQ (aw (fZ rfl) lg rfl T.b_any boot_any (aa (cE (N2:=E1) (nt:=1) (js:=[2]) (ck (sc:=ai yb)) (aI (qv 4)) (fun _ _ _ _=>⟨(gN 0 Gj),a9,(bK (bL hr.units) bf (iX (qv 0) ar) (qv 1) (by with_unfolding_all rfl))⟩)) ae))))
  (ak (az (bg (aa bA (aa (qv 4) ae)))))
  aB)
  (af (sN 5 tD.nd (au (Hs T) hr.mo rfl T.g_zl T.F_zl.kp T.B_zl (aa (qv 0) (aa (qv 1) (aa (qv 2) (aa (qv 3) ae))))))
  (ak (az (bg (aa bA (aa (bg (aa (qv 5) (aa (au (Hh T) hr.mo rfl T.g_zS T.F_zS.kp T.B_zS (aa (qv 0) (aa (qv 5) (aa (qv 3) ae)))) ae))) ae))))))))),?_⟩)
 intro vs H Q E h;unfold dQ at h;split at h
 ·rename_i x l m n;obtain⟨c,ts,bs,A,B,G,dr,ok,rfl,rfl,rfl,ap,hY⟩:=h;left;refine⟨c,ts,bs,A,B,G,dr,ok.c6,rfl,rfl,rfl,ap,?_⟩;subst hR;have t15:=ok.gt.len ok.c6;left;refine⟨c,ts,bs,A,G,dr,ok,rfl,rfl,ap.a,ap.g,fun r H1 N L hr s1 an er nd iff=>?_⟩;have l12:=kZ ok.c6 nd fun s hs=>mG ok.gt ok.gb ap.a.lo ((iff s).mp hs);right;refine⟨_,er,?_⟩;show ∀acc,H1 acc=none->_;intro acc hacc;have na:=av er hacc;refine aC (EM B) (fun _=>true) (fun σ=>∃z,σ=[z,some (.tup (B.map PV.int))]) (by rw[kb];omega) (fun _=>(aq na).trans er) ?_ ?_ ⟨_,rfl⟩
  ·rintro y hy l σ R' ⟨z,rfl⟩ hl kT kF;obtain⟨st,hs,rfl⟩:=IF.mp hy;unfold sdV at *;ac_rfl;refine⟨aE,hl,?_⟩;rw[aD,aO];exact kT rfl _ ⟨_,rfl⟩
  have em:((L.map sdV).filter (fun _=>true)).map (EM B)=(L.map fun s=>decide (s.1∈B)).map PV.bl:=by
   rw[JC.mpr (fun _ _=>rfl),Jj,Jj];rfl
  rw[em];have s2:=(Sub.refl H1).put (o:=.lst ((L.map fun s=>decide (s.1∈B)).map PV.bl)) hacc;ac_rfl;refine⟨_,rfl,?_⟩;by_cases ex:∃s∈L,s.1∈B
  ·refine aA (by
    obtain⟨s,hs,hb⟩:=ex;simp only[List.any_map,Bool.not_eq_false'];rw[KI];exact⟨s,hs,by simpa using hb⟩) ?_
   generalize put H1 acc (.lst ((L.map fun s=>decide (s.1∈B)).map PV.bl))=H2 at *;have s12:=s1.trans s2;subst hR;obtain⟨s,hs,hb⟩:=ex;have rs:=(iff s).mp hs;left;refine⟨c,ts,bs,A,B,G,N,dr.up s12,ok,rfl,rfl,rfl,ap.a,ap.g,an,v9 ap an rs hb,fun r2 H3 road hr2 s3 er2 op hlb l5=>?_⟩;subst hR;ac_rfl;refine⟨c,ts,bs,G,N,road,dr.up (s12.trans s3),ok,rfl,ap.g,an,er2,by omega,ot op.rd.ch,fun q H4 us ws hq s4 eq l4 f4 p4 w6=>?_⟩;have s04:=(s12.trans s3).trans s4;refine⟨ao (by decide),ao (by decide),H4,Sub.refl _,hY false _ H4 N s04 an ⟨fun z=>(by cases z),fun z=>absurd hb (z _ _ rs)⟩⟩
  ·refine aG (by
    simp only[List.any_map,Bool.not_eq_true'];rw[List.any_eq_false];intro s hs;simpa using fun hb=>ex ⟨s,hs,hb⟩) ?_
   refine⟨ao (by decide),H1,s2,hY true _ H1 N s1 an ⟨fun _ x p q hb=>ex ⟨(x,p),(iff (x,p)).mpr q,hb⟩,fun _=>rfl⟩⟩
 ·exact h.elim
theorem AH(T:Tx K mg t):aK P w K mg base CX0 1 t.a_yc t.d_yc ["names","others"] dR:=by
 refine okU (k:=0) T.F_yc DY (fun vs H Q E h=>by
  unfold dR at h;split at h
  ·rfl
  ·exact h.elim) (fun cdv A outer s H E B hr=>⟨_,(ak (az (aL aJ a8 rfl T.b_tuple JL (aa (cE (N2:=CI) (nt:=1) (js:=[1]) (ck (sc:=ai xP)) (aI (qv 0)) (fun _ _ _ _=>⟨(gN 0 Gy),(aV (cW (aW hr.units) bf (qv 0) (qv 1))),(qv 0)⟩)) ae)))),?_⟩)
 intro vs H Q E h;unfold dR at h;split at h
 ·rename_i l m;obtain⟨A,B,rfl,rfl,hl,h⟩:=h;ac_rfl;show ∀acc,H acc=none->_;intro acc hacc;refine aC (fun y=>y) (onI fun y=>!decide (y∈B)) (fun σ=>∃z,σ=[z,some (.tup (B.map PV.int))]) (by rw[kb];exact hl) (fun _=>trivial) ?_ ?_ ⟨_,rfl⟩
  ·rintro y hy l σ R ⟨z,rfl⟩ hl kT kF;obtain⟨k,hk,rfl⟩:=IF.mp hy;have e:onI (fun y=>!decide (y∈B)) (PV.int k)=!decide (k∈B):=rfl;rw[e]at kT kF;ac_rfl;refine⟨aE,?_⟩;simp only[aO];by_cases m:k∈B
   ·exact aA (by simp[m]) (kF (by simp[m]) _ ⟨_,rfl⟩)
   ·exact aG (by simp[m]) ⟨hl,by rw[aD];exact kT (by simp[m]) _ ⟨_,rfl⟩⟩
  rw[bU];exact⟨_,ah,H,Sub.put (Sub.refl _) hacc,h⟩
 ·exact h.elim
theorem z9(T:Tx K mg t):aK P w K mg base CX0 5 t.a_zh t.d_zh ["self","names"] (ly t 2):=by
 refine okU (k:=4) T.F_zh yS (fun vs H Q E h=>by
  unfold ly at h;split at h
  ·rfl
  ·exact h.elim) (fun cdv A outer s H E B hr=>⟨_,(af (aM (aZ (qv 0) T.cl_A T.m_zf (uN T) hr.mo T.B_zf (aa (qv 1) ae)))
  (af (sC 2 yS.nd (N2:=BG) (nt:=1) (js:=[1]) (ck (sc:=ai xI)) (aI (bW (qv 0) T.cl_A T.nfA_ties rfl)) (fun _ _ _ _=>⟨(gN 0 DV),(aV (cW (aW hr.units) bf (iX (qv 0) ar) (qv 1))),(qv 0)⟩))
  (ak (az (lK T.mk_A (Gf T) hr.mo rfl T.g_A T.B_zs (aa (bW (qv 0) T.cl_A T.nfA_count rfl) (aa (qv 2) (aa (bW (qv 0) T.cl_A T.nfA_bows rfl) ae)))))))),?_⟩)
 intro vs H Q E h;unfold ly at h;split at h
 ·rename_i x l;obtain⟨c,ts,bs,L,⟨dx,hx⟩,rfl,ok,nL,hY⟩:=h;have t15:=ok.gt.len ok.c6;have b6:=ok.b6;have ok2:=ok.filter (FT 2 L) (FB 2 L);left;refine⟨⟨_,_,hx,rfl⟩,c,ts,L,⟨_,_,hx⟩,rfl,nL,?_⟩;right;refine⟨_,_,_,hx,rfl,?_⟩;show ∀acc,H acc=none->_;intro p1 hp1;refine aC (fun y=>y) (onP (FT 2 L)) (fun σ=>∃z,σ=[z,some (.tup (L.map PV.int))]) (by rw[kb];omega) (fun _=>trivial) ?_ ?_ ⟨_,rfl⟩
  ·rintro y hy l σ R' ⟨z,rfl⟩ hl kT kF;obtain⟨p,hp,rfl⟩:=IF.mp hy;rw[eV]at kT kF;unfold prV at *;ac_rfl;refine⟨aE,?_⟩;simp only[aO];by_cases m:p.1∈L
   ·exact aA (by simp[m]) (kF (by simp[FT,m]) _ ⟨_,rfl⟩)
   ·exact aG (by simp[m]) ⟨hl,by rw[aD];exact kT (by simp[FT,m]) _ ⟨_,rfl⟩⟩
  rw[cj];subst hR;have s1:U.Sub H (put H p1 (.lst ((ts.filter (FT 2 L)).map prV))):=(Sub.refl H).put hp1;have i1:put H p1 (.lst ((ts.filter (FT 2 L)).map prV)) p1=some (.lst ((ts.filter (FT 2 L)).map prV)):=ah;generalize put H p1 (.lst ((ts.filter (FT 2 L)).map prV))=H1 at *;have hx1:=s1 _ _ hx;ac_rfl;refine⟨_,_,_,hx1,rfl,_,_,_,hx1,rfl,?_⟩;show ∀y dy,H1 y=none->H1 dy=none->dy≠y->_;intro y dy hy hdy nd;have s12:=s1;have sc:=(Sub.refl H1).put (o:=.ins t.a_A dy []) hy;refine⟨dy,_,_,_,ah,sc _ _ i1,rfl,dm,ok2.gt,ok.gb,⟨ok.c1,ok.c6,ok.b6⟩,fun T1 B1 pT sT pB sB=>?_⟩;have eT:=DM.eJ (Kn _) ok2.st pT sT;have eB:=DM.eJ (Kn _) ok.sb pB sB;subst eT;subst eB;rw[fb2]at hY;rw[aD];exact⟨rfl,_,Sub.refl _,hY y _ (s12.put (s12.free hy)) ⟨dy,ah⟩⟩
 ·exact h.elim
theorem x5(T:Tx K mg t):aK P w K mg base CX0 1 t.a_yd t.d_yd ["_law_drawn","_law_into","_law_out"] iC:=by
 refine okU (k:=0) T.F_yd tR (fun vs H Q E h=>by
  unfold iC at h;split at h
  ·rfl
  ·exact h.elim) (fun cdv A outer s H E B hr=>⟨_,(af (sN 3 tR.nd (aL aJ a8 rfl T.b_tuple JL (aa (cE (N2:=C9) (nt:=1) (js:=[1,2]) (ck (sc:=ai sO)) (aI (iX (qv 0) ar)) (fun _ _ _ _=>⟨(gN 0 Ih),(aV (ba (cc (cW (aW hr.units) bf (iX (qv 0) ar) (qv 1)) (bQ (cW (aW hr.units) bf (iX (qv 0) ar) (qv 2)))))),(qv 0)⟩)) ae)))
  (af (sN 4 tR.nd (aL aJ a8 rfl T.b_tuple JL (aa (cE (N2:=Dj) (nt:=1) (js:=[1]) (ck (sc:=ai sO)) (aI (iX (qv 0) ar)) (fun _ _ _ _=>⟨(gN 0 Im),(aV (ba (cc (cW (aW hr.units) bf (iX (qv 0) ar) (qv 1)) (bQ (cW (aW hr.units) bf (iX (qv 0) ar) (qv 1)))))),(qv 0)⟩)) ae)))
  (ak (az (bg (aa (iX (qv 0) ar) (aa (qv 3) (aa (qv 4) ae)))))))),?_⟩)
 intro vs H Q E h;unfold iC at h;split at h
 ·rename_i l m n;obtain⟨c,ts,bs,I,O,e,rfl,rfl,ok,h⟩:=h;unfold shp at e;injection e with e;subst e;have t15:=ok.gt.len ok.c6;have b6:=ok.b6;left;show ∀acc,H acc=none->_;intro p1 hp1;refine aC (fun y=>y) (onP (CT I O)) (fun σ=>∃z,σ=[z,some (.tup (I.map PV.int)),some (.tup (O.map PV.int))]) (by rw[kb];omega) (fun _=>trivial) ?_ ?_ ⟨_,rfl⟩
  ·rintro y hy l σ R' ⟨z,rfl⟩ hl kT kF;obtain⟨p,hp,rfl⟩:=IF.mp hy;rw[eV]at kT kF;unfold prV at *;ac_rfl;refine⟨aE,?_⟩;simp only[aO];by_cases m1:p.2∈I
   ·exact aA (by simp[m1]) (kF (by simp[CT,m1]) _ ⟨_,rfl⟩)
   ·refine aG (by simp[m1]) ?_;refine⟨aE,?_⟩
    try simp only[aO]
    by_cases m2:p.1∈O
    ·exact aA (by simp[m2]) (kF (by simp[CT,m1,m2]) _ ⟨_,rfl⟩)
    ·exact aG (by simp[m2]) ⟨hl,by rw[aD];exact kT (by simp[CT,m1,m2]) _ ⟨_,rfl⟩⟩
  rw[cj];refine⟨_,ah,?_⟩;have s1:U.Sub H (put H p1 (.lst ((ts.filter (CT I O)).map prV))):=(Sub.refl H).put hp1;generalize put H p1 (.lst ((ts.filter (CT I O)).map prV))=H1 at *;right;show ∀acc,H1 acc=none->_;intro p2 hp2;refine aC (fun y=>y) (onP (FB 1 I)) (fun σ=>∃z,σ=[z,some (.tup (I.map PV.int))]) (by rw[kb];omega) (fun _=>trivial) ?_ ?_ ⟨_,rfl⟩
  ·rintro y hy l σ R' ⟨z,rfl⟩ hl kT kF;obtain⟨p,hp,rfl⟩:=IF.mp hy;rw[eV]at kT kF;unfold prV at *;ac_rfl;refine⟨aE,?_⟩;simp only[aO];by_cases m1:p.1∈I
   ·exact aA (by simp[m1]) (kF (by simp[FB,m1]) _ ⟨_,rfl⟩)
   ·refine aG (by simp[m1]) ?_;refine⟨aE,?_⟩
    try simp only[aO]
    by_cases m2:p.2∈I
    ·exact aA (by simp[m2]) (kF (by simp[FB,m1,m2]) _ ⟨_,rfl⟩)
    ·exact aG (by simp[m2]) ⟨hl,by rw[aD];exact kT (by simp[FB,m1,m2]) _ ⟨_,rfl⟩⟩
  rw[cj];refine⟨_,ah,?_⟩;have s2:=s1.put (o:=.lst ((bs.filter (FB 1 I)).map prV)) (s1.free hp2);generalize put H1 p2 (.lst ((bs.filter (FB 1 I)).map prV))=H2 at *;subst hR;ac_rfl;exact⟨ao (by decide),H,s2,h⟩
 ·exact h.elim
theorem Ee(T:Tx K mg t):aK P w K mg base CX0 3 t.a_za t.d_za ["self","names"] (fC t fun p=>p):=by
 refine okU (k:=2) T.F_za sH (fun vs H Q E h=>by
  unfold fC at h;split at h
  ·rfl
  ·exact h.elim) (fun cdv A outer s H E B hr=>⟨_,(af (aM (aZ (qv 0) T.cl_A T.m_zf (uN T) hr.mo T.B_zf (aa (qv 1) ae)))
  (af (sN 2 sH.nd (aL bM dI rfl T.b_list K7 (aa (qv 1) ae)))
  (af (bz Jk rfl (bN rfl T.b_range (aa (bW (qv 0) T.cl_A T.nfA_count rfl) ae)) (gN 3 sH.nd)
  (ak (aN (cW (bL hr.units) bf (qv 3) (qv 2))
   (ak (aM (bV JM JN fB kL (qv 2) (aa (aZ (qv 0) T.cl_A T.m_zb (wC T) hr.mo T.B_zb (aa (qv 3) ae)) ae))))
   aB)))
  (ak (az (aL aJ a8 rfl T.b_tuple JL (aa (fg rfl hr.units rfl T.b_sorted rfl T.b_set boot_set (qv 2)) ae))))))),?_⟩)
 intro vs H Q E h;unfold fC at h;split at h
 ·rename_i x l;obtain⟨c,ts,L,⟨dx,bs,hx⟩,rfl,hL,hc,gt,h⟩:=h;have t15:=gt.len hc.2;have l6:=hL.len hc.2;ac_rfl;refine⟨⟨_,_,hx,rfl⟩,c,ts,L,⟨_,_,hx⟩,rfl,hL,fun p hp=>?_⟩;have nxp:=av hx hp;refine⟨_,_,_,(aq nxp).trans hx,rfl,?_⟩;show(-2 ^ 62≤c/\c<2 ^ 62)/\_;refine⟨⟨by omega,by omega⟩,?_⟩;have ei:bX 0 c.toNat=(ulN c).map PV.int:=by
   unfold bX ulN;rw[Jj];refine J8 fun k _=>?_;show PV.int (0+(k:Int))=PV.int (k:Int);rw[K4]
  rw[ei];refine bR (fun i σ H2=>∃k F,σ=[some (.ref x),some (.tup (L.map PV.int)),some (.ref p),k]/\H2=put H p (.lst (F.map PV.int))/\F=((ulN c).take i).foldl (My.bJ (ts.map (fun p=>p))) L/\F.length≤6+15*i) ?_ ?_ ⟨none,L,rfl,rfl,rfl,by omega⟩
  ·rintro σ H2 ⟨k,F,rfl,rfl,hF,hlen⟩;rw[kb,Jv]at hF;refine⟨trivial,?_⟩;ac_rfl;have iff:∀y,y∈F↔My.Reach (ts.map (fun p=>p)) L y:=fun y=>by rw[hF];exact zP gt y
   have lo:∀y∈F,0≤y/\y<c:=fun y hy=>mD (fun a b e=>mh gt false a b e) hL.lo ((iff y).mp hy);refine⟨F.map Int.toNat,by rw[ll fun y hy=>(by have:=lo y hy;omega)],fun n hn=>?_,fun r ms hr hs hm=>?_⟩
   ·obtain⟨z,hz,rfl⟩:=IF.mp hn;have:=lo z hz;omega
   ·obtain⟨q1,q2⟩:=jY hc.2 lo iff hs hm
    try ac_rfl
    refine⟨H,((Sub.refl H).put hp).put (((Sub.refl H).put hp).free hr),?_⟩;have:=h _ q1 q2;rw[Jj]at this;exact this
  ·rintro G i y σ H2 hy ⟨k,F,rfl,rfl,hF,hlen⟩ kk;refine⟨trivial,?_⟩;rw[IV]at hy;cases hn:(ulN c)[i]? with
   | none=>rw[hn]at hy;cases hy
   | some n =>
    rw[hn]at hy;cases hy;have hnm:=b9.mp (Ja hn);have hil:i<(ulN c).length:=(IM.mp hn).1;have hi6:i<6:=by unfold ulN at hil;rw[kb,JH]at hil;omega
    have hnx:((ulN c).take (i+1)).foldl (My.bJ (ts.map (fun p=>p))) L=My.bJ (ts.map (fun p=>p)) F n:=by rw[g8 hn,← hF]
    have hpl:=j3 (E:=ts.map (fun p=>p)) (f:=F) (n:=n);rw[kb]at hpl;ac_rfl;refine⟨aE,?_⟩;rw[aO];refine o7 (fun hm=>?_) (fun hm=>?_)
    ·have e:My.bJ (ts.map (fun p=>p)) F n=F++(ts.filter (fun p=>decide (p.1=n))).map (·.2):=by
      unfold My.bJ;rw[IZ hm,wL]
     rw[e]at hnx hpl;refine⟨⟨_,rfl⟩,⟨_,_,(aq nxp).trans hx,rfl⟩,_,_,_,_,(aq nxp).trans hx,hnm,t15,?_⟩
     try ac_rfl
     rw[II]at hpl;unfold fol;refine⟨ao (by rw[kb,kb];omega),kk _ _ ⟨_,F++(ts.filter (fun p=>decide (p.1=n))).map (·.2),rfl,?_,hnx.symm,?_⟩⟩
     ·rw[aD,IP]
     ·rw[II];omega
    ·have e:My.bJ (ts.map (fun p=>p)) F n=F:=by
      unfold My.bJ;rw[IX hm]
     rw[e]at hnx;exact kk _ _ ⟨_,F,rfl,rfl,hnx.symm,by omega⟩
 ·exact h.elim
theorem EE(T:Tx K mg t):aK P w K mg base CX0 1 t.a_zT t.d_zT ["_law_drawn","_law_names"] gc:=by
 refine okU (k:=0) T.F_zT qk (fun vs H Q E h=>by
  unfold gc at h;split at h
  ·rfl
  ·exact h.elim) (fun cdv A outer s H E B hr=>⟨_,(af (sN 2 qk.nd (aL bM dI rfl T.b_list K7 (aa (qv 1) ae)))
  (af (bz Jk rfl (aI (iX (qv 0) ar)) (dz (n:=2) rfl (aX (gN 3 qk.nd) (aX (gN 4 qk.nd) cu)))
  (ak (aN (ba (cc (cW (bL hr.units) bf (qv 3) (qv 2)) (bQ (cW (aW hr.units) bf (qv 4) (qv 2)))))
   (ak (aM (bV Jw Jx bj bu (qv 2) (aa (qv 4) ae))))
   aB)))
  (ak (az (qv 2))))),?_⟩)
 intro vs H Q E h;unfold gc at h;split at h
 ·rename_i l m;obtain⟨c,ts,bs,G,e,rfl,ok,hG,h⟩:=h;unfold shp at e;injection e with e;subst e;have t15:=ok.gt.len ok.c6;have g6:=hG.len ok.c6;left;intro f hf;have s1:=(Sub.refl H).put (o:=.lst (G.map PV.int)) hf;have e1:put H f (.lst (G.map PV.int)) f=some (.lst (G.map PV.int)):=ah;generalize put H f (.lst (G.map PV.int))=H1 at *;right;refine bR (fun i σ H2=>∃z1 z2 F,σ=[some (.tup [.int c,.tup (ts.map prV),.tup (bs.map prV)]),some (.tup (G.map PV.int)),some (.ref f),z1,z2]/\U.Sub H H2/\H2 f=some (.lst (F.map PV.int))/\F=((ts.take i).map swp).foldl br G/\F.length≤6+i) ?_ ?_ ⟨none,none,G,rfl,s1,e1,rfl,by omega⟩
  ·rintro σ H2 ⟨z1,z2,F,rfl,s2,e2,hF,lF⟩;refine⟨trivial,?_⟩;rw[kb,Jv]at hF;subst hR;ac_rfl;rw[kb]at lF;exact⟨H2,Sub.refl _,h f H2 F hf s2 e2 (fun x=>by rw[hF];exact BP ok x) (by omega)⟩
  ·rintro N i y σ H2 hy ⟨z1,z2,F,rfl,s2,e2,hF,lF⟩ kk;refine⟨trivial,?_⟩;rw[IV]at hy;obtain⟨p,hp,rfl⟩:=Jp.mp hy;have hi:i<ts.length:=(IM.mp hp).1;have hnx:((ts.take (i+1)).map swp).foldl br G=br F (swp p):=by rw[Kb,hp,IP,K3,← hF];rfl
   unfold br swp at hnx;simp only at hnx;have stay:¬(p.1∈F/\p.2∉F)->N [some (.tup [.int c,.tup (ts.map prV),.tup (bs.map prV)]),some (.tup (G.map PV.int)),some (.ref f),some (.int p.1),some (.int p.2)] H2:=fun hn=>by
    rw[IX hn]at hnx;exact kk _ _ ⟨_,_,F,rfl,s2,e2,hnx.symm,by omega⟩
   unfold prV;ac_rfl;refine⟨_,e2,aE,?_⟩;rw[aO];by_cases m1:p.1∈F
   ·refine aG (by simp[m1]) ⟨_,e2,aE,?_⟩;rw[aO];by_cases m2:p.2∈F
    ·exact aA (by simp[m2]) (stay fun h=>h.2 m2)
    ·refine aG (by simp[m2]) ⟨⟨_,e2⟩,_,e2,aS (by rw[kb];omega),?_⟩;rw[IZ ⟨m1,m2⟩]at hnx;refine kk _ _ ⟨_,_,F++[p.2],rfl,s2.put hf,by rw[ah,IP];rfl,hnx.symm,by rw[II,JG];omega⟩
   ·exact aA (by simp[m1]) (stay fun h=>m1 h.1)
 ·exact h.elim
theorem Gv(T:Tx K mg t):aK P w K mg base CX0 5 t.a_zr t.d_zr ["self","names"] (iz t):=by
 refine okU (k:=4) T.F_zr sV (fun vs H Q E h=>by
  unfold iz at h;split at h
  ·rfl
  ·exact h.elim) (fun cdv A outer s H E B hr=>⟨_,(af (aM (aZ (qv 0) T.cl_A T.m_zf (uN T) hr.mo T.B_zf (aa (qv 1) ae)))
  (af (sC 2 sV.nd (N2:=BG) (nt:=1) (js:=[1]) (ck (sc:=ai vk)) (aI (bW (qv 0) T.cl_A T.nfA_ties rfl)) (fun _ _ _ _=>⟨(gN 0 DV),(aV (ba (cc (cW (bL hr.units) bf (iX (qv 0) ar) (qv 1)) (bQ (cW (bL hr.units) bf (iX (qv 0) ar) (qv 1)))))),(qv 0)⟩))
  (af (sC 3 sV.nd (N2:=Dy) (nt:=1) (js:=[1]) (ck (sc:=ai vk)) (aI (bW (qv 0) T.cl_A T.nfA_bows rfl)) (fun _ _ _ _=>⟨(gN 0 Ig),(aV (ba (cc (cW (bL hr.units) bf (iX (qv 0) ar) (qv 1)) (bQ (cW (bL hr.units) bf (iX (qv 0) ar) (qv 1)))))),(qv 0)⟩))
  (ak (az (lK T.mk_A (Dl T) hr.mo rfl T.g_A T.B_zs (aa (bW (qv 0) T.cl_A T.nfA_count rfl) (aa (qv 2) (aa (qv 3) ae))))))))),?_⟩)
 intro vs H Q E h;unfold iz at h;split at h
 ·rename_i x l;obtain⟨c,ts,bs,L,⟨dx,hx⟩,rfl,ok,hL,h⟩:=h;have t15:=ok.gt.len ok.c6;have b6:=ok.b6;have ok2:=ok.filter (FT 0 L) (FB 0 L);left;refine⟨⟨_,_,hx,rfl⟩,c,ts,L,⟨_,_,hx⟩,rfl,hL,?_⟩;right;refine⟨_,_,_,hx,rfl,?_⟩;show ∀acc,H acc=none->_;intro p1 hp1;refine aC (fun y=>y) (onP (FT 0 L)) (fun σ=>∃z,σ=[z,some (.tup (L.map PV.int))]) (by rw[kb];omega) (fun _=>trivial) ?_ ?_ ⟨_,rfl⟩
  ·rintro y hy l σ R' ⟨z,rfl⟩ hl kT kF;obtain⟨p,hp,rfl⟩:=IF.mp hy;rw[eV]at kT kF;unfold prV at *;ac_rfl;refine⟨aE,?_⟩;simp only[aO];by_cases m1:p.1∈L
   ·refine aG (by simp[m1]) ⟨aE,?_⟩;by_cases m2:p.2∈L
    ·exact aG (by simp[m2]) ⟨hl,by rw[aD];exact kT (by simp[FT,m1,m2]) _ ⟨_,rfl⟩⟩
    ·exact aA (by simp[m2]) (kF (by simp[FT,m1,m2]) _ ⟨_,rfl⟩)
   ·exact aA (by simp[m1]) (kF (by simp[FT,m1]) _ ⟨_,rfl⟩)
  rw[cj];subst hR;have s1:U.Sub H (put H p1 (.lst ((ts.filter (FT 0 L)).map prV))):=(Sub.refl H).put hp1;have i1:put H p1 (.lst ((ts.filter (FT 0 L)).map prV)) p1=some (.lst ((ts.filter (FT 0 L)).map prV)):=ah;generalize put H p1 (.lst ((ts.filter (FT 0 L)).map prV))=H1 at *;have hx1:=s1 _ _ hx;left;refine⟨_,_,_,hx1,rfl,?_⟩;show ∀acc,H1 acc=none->_;intro p2 hp2;refine aC (fun y=>y) (onP (FB 0 L)) (fun σ=>∃z,σ=[z,some (.tup (L.map PV.int))]) (by rw[kb];omega) (fun _=>trivial) ?_ ?_ ⟨_,rfl⟩
  ·rintro y hy l σ R' ⟨z,rfl⟩ hl kT kF;obtain⟨p,hp,rfl⟩:=IF.mp hy;rw[eV]at kT kF;unfold prV at *;ac_rfl;refine⟨aE,?_⟩;simp only[aO];by_cases m1:p.1∈L
   ·refine aG (by simp[m1]) ⟨aE,?_⟩;by_cases m2:p.2∈L
    ·exact aG (by simp[m2]) ⟨hl,by rw[aD];exact kT (by simp[FB,m1,m2]) _ ⟨_,rfl⟩⟩
    ·exact aA (by simp[m2]) (kF (by simp[FB,m1,m2]) _ ⟨_,rfl⟩)
   ·exact aA (by simp[m1]) (kF (by simp[FB,m1]) _ ⟨_,rfl⟩)
  rw[cj];subst hR;have s2:U.Sub H1 (put H1 p2 (.lst ((bs.filter (FB 0 L)).map prV))):=(Sub.refl H1).put hp2;have i2:put H1 p2 (.lst ((bs.filter (FB 0 L)).map prV)) p2=some (.lst ((bs.filter (FB 0 L)).map prV)):=ah;generalize put H1 p2 (.lst ((bs.filter (FB 0 L)).map prV))=H2 at *;have hx2:=s2 _ _ hx1;have j1:=s2 _ _ i1;have s12:=s1.trans s2;ac_rfl;refine⟨_,_,_,hx2,rfl,?_⟩;show ∀y dy,H2 y=none->H2 dy=none->dy≠y->_;intro y dy hy hdy nd;have sc:=(Sub.refl H2).put (o:=.ins t.a_A dy []) hy;refine⟨dy,_,_,_,_,ah,sc _ _ j1,sc _ _ i2,dm,dm,ok2.gt,ok2.gb,⟨ok.c1,ok.c6,ok2.b6⟩,fun T1 B1 pT sT pB sB=>?_⟩;have eT:=DM.eJ (Kn _) ok2.st pT sT;have eB:=DM.eJ (Kn _) ok2.sb pB sB;subst eT;subst eB;rw[aD];exact⟨rfl,_,Sub.refl _,h y _ (s12.put (s12.free hy)) ⟨dy,ah⟩⟩
 ·exact h.elim
theorem CA(T:Tx K mg t):aK P w K mg base CX0 1 t.a_zA t.d_zA ["count"] iG:=by
 refine okU (k:=0) T.F_zA Ce (fun vs H Q E h=>by
  unfold iG at h;split at h
  ·rfl
  ·exact h.elim) (fun cdv A outer s H E B hr=>⟨_,(ak (az (xw rfl rfl T.b_tuple rfl T.b_range JL (qv 0)))),?_⟩)
 intro vs H Q E h;unfold iG at h;split at h
 ·rename_i c;obtain⟨⟨h0,h1⟩,h⟩:=h;ac_rfl;rw[uk];exact⟨h0,h1,H,Sub.refl _,h⟩
 ·exact h.elim
theorem F3(T:Tx K mg t):aK P w K mg base CX0 6 t.a_ze t.d_ze ["drawing","one","other","door"] (gw t):=by
 refine okU (k:=5) T.F_ze ud (fun vs H Q E h=>by
  unfold gw at h;split at h
  ·rfl
  ·exact h.elim) (fun cdv A outer s H E B hr=>⟨_,(af (sN 4 ud.nd (au (AH T) hr.mo rfl T.g_yc T.F_yc.kp T.B_yc (aa (au (CA T) hr.mo rfl T.g_zA T.F_zA.kp T.B_zA (aa (bW (qv 0) T.cl_A T.nfA_count rfl) ae)) (aa (qv 3) ae))))
  (af (sN 5 ud.nd (aZ (aZ (qv 0) T.cl_A T.m_zr (Gv T) hr.mo T.B_zr (aa (qv 4) ae)) T.cl_A T.m_za (Ee T) hr.mo T.B_za (aa (qv 1) ae)))
  (ak (az (nT (aw (fZ rfl) lg rfl T.b_any boot_any (aa (cE (N2:=Ae) (nt:=1) (js:=[5]) (ck (sc:=ai xW)) (aI (qv 2)) (fun _ _ _ _=>⟨(gN 0 ET),a9,(bK (bL hr.units) bf (qv 0) (qv 1) (by with_unfolding_all rfl))⟩)) ae))))))),?_⟩)
 intro vs H Q E h;unfold gw at h;split at h
 ·rename_i x l m n;obtain⟨c,ts,bs,A,B,G,⟨dx,hx⟩,ok,rfl,rfl,rfl,hA,hB,hG,h⟩:=h;have c1:=ok.c1;have c6:=ok.c6;have lB:=hB.len c6;left;refine⟨_,_,_,hx,rfl,⟨by omega,by omega⟩,ulN c,G,rfl,rfl,by unfold ulN;rw[kb,JH];omega,?_⟩;have en:(ulN c).filter (fun y=>!decide (y∈G))=nin c G:=rfl;rw[en];right;refine⟨⟨_,_,hx,rfl⟩,c,ts,bs,nin c G,⟨dx,hx⟩,rfl,ok,qd,fun y H1 s1 dry=>?_⟩;obtain⟨dy,hy⟩:=dry;have ok2:=ok.filter (FT 0 (nin c G)) (FB 0 (nin c G));refine⟨⟨_,_,hy,rfl⟩,c,_,A,⟨_,_,hy⟩,rfl,hA,⟨c1,c6⟩,ok2.gt,fun M up iff=>?_⟩;have iff:∀y,y∈M↔My.Reach (ts.filter (FT 0 (nin c G))) A y:=fun y=>by
   have z:=iff y
   rwa [List.map_id'' (fun _=>rfl)]at z
  subst hR;ac_rfl;show ∀acc,H1 acc=none->_;intro p hp;refine aC (onB M) (fun _=>true) (fun σ=>∃z,σ=[z,some (.tup (M.map PV.int))]) (by rw[kb];omega) (fun _=>trivial) ?_ ?_ ⟨_,rfl⟩
  ·rintro y hy l σ R ⟨z,rfl⟩ hl kT kF;obtain⟨k,hk,rfl⟩:=IF.mp hy;ac_rfl;refine⟨aE,?_⟩;simp only[aO];exact⟨hl,by rw[aD];exact kT rfl _ ⟨_,rfl⟩⟩
  rw[mx];refine⟨_,ah.trans rfl,H,s1.put (s1.free hp),h _ ?_⟩;rw[Bool.not_eq_true',← Bool.not_eq_true,oK];exact⟨fun z y hy r=>z ⟨y,hy,(iff y).mpr r⟩,fun z y_=>by obtain⟨y,hy,hm⟩:=y_;exact z y hy ((iff y).mp hm)⟩
 ·exact h.elim
theorem DK(T:Tx K mg t):aK P w K mg base CX0 8 t.a_zq t.d_zq ["drawing","one","other","door"] (iw t):=by
 refine okU (k:=7) T.F_zq ze (fun vs H Q E h=>by
  unfold iw at h;split at h
  ·rfl
  ·exact h.elim) (fun cdv A outer s H E B hr=>⟨_,(af (aM (au (yu T) hr.mo rfl T.g_zv T.F_zv.kp T.B_zv (aa (qv 0) (aa (qv 1) (aa (qv 2) (aa (qv 3) ae))))))
  (af (sN 4 ze.nd (aZ (qv 0) T.cl_A T.m_za (Ee T) hr.mo T.B_za (aa (qv 1) ae)))
  (af (aN (aQ (aw (fZ rfl) lg rfl T.b_any boot_any (aa (cE (N2:=Ae) (nt:=1) (js:=[4]) (ck (sc:=ai wO)) (aI (qv 3)) (fun _ _ _ _=>⟨(gN 0 ET),a9,(bK (bL hr.units) bf (qv 0) (qv 1) (by with_unfolding_all rfl))⟩)) ae)))
  (ak (az bA))
  aB)
  (ak (az (iX (au (AS T) hr.mo rfl T.g_yg T.F_yg.kp T.B_yg (aa (aZ (qv 0) T.cl_A T.m_zh (z9 T) hr.mo T.B_zh (aa (qv 1) ae)) (aa (qv 1) (aa (qv 2) (aa (qv 3) ae))))) ar)))))),?_⟩)
 intro vs H Q E h;unfold iw at h;split at h
 ·rename_i x l m n;obtain⟨c,ts,bs,A,B,G,⟨dx,hx⟩,ok,rfl,rfl,rfl,ap,hY⟩:=h;have c1:=ok.c1;have c6:=ok.c6;left;refine⟨c,ts,bs,A,B,G,⟨dx,hx⟩,c6,rfl,rfl,rfl,ap,?_⟩;have lG:=ap.g.len c6;have ok2:=ok.filter (FT 2 A) (FB 2 A);right;refine⟨⟨_,_,hx,rfl⟩,c,_,A,⟨_,_,hx⟩,rfl,ap.a,⟨c1,c6⟩,ok.gt,fun M up iff=>?_⟩;have iff:∀y,y∈M↔My.Reach ts A y:=fun y=>by
   have z:=iff y
   rwa [List.map_id'' (fun _=>rfl)]at z
  right;show ∀acc,H acc=none->_;intro p hp;refine aC (onB M) (fun _=>true) (fun σ=>∃z,σ=[z,some (.tup (M.map PV.int))]) (by rw[kb];omega) (fun _=>trivial) ?_ ?_ ⟨_,rfl⟩
  ·rintro y hy l σ R ⟨z,rfl⟩ hl kT kF;obtain⟨k,hk,rfl⟩:=IF.mp hy;ac_rfl;refine⟨aE,?_⟩;simp only[aO];exact⟨hl,by rw[aD];exact kT rfl _ ⟨_,rfl⟩⟩
  rw[mx];refine⟨_,ah.trans rfl,?_⟩;have s1:=(Sub.refl H).put (o:=.lst ((G.map fun x=>decide (x∈M)).map PV.bl)) hp;have hx1:=s1 _ _ hx;generalize put H p (.lst ((G.map fun x=>decide (x∈M)).map PV.bl))=H1 at *;refine aY (fun q=>?_) (fun q=>?_)
  ·obtain⟨y,hy,hm⟩:=oK.mp q;exact⟨H,s1,hY false ⟨fun z=>(by cases z),fun z=>absurd ((iff y).mp hm) (z.1 y hy)⟩⟩
  ·have nq:∀y∈G,¬My.Reach ts A y:=fun y hy r=>by
    rw[oK.mpr ⟨y,hy,(iff y).mpr r⟩]at q;cases q
   subst hR;ac_rfl;refine⟨⟨_,_,hx1,rfl⟩,c,ts,bs,A,⟨dx,hx1⟩,rfl,ok,ap.a,fun y H3 s3 dry=>⟨c,_,_,A,B,G,dry,ok2,rfl,rfl,rfl,ap,fun b v H4 N s4 an fr=>?_⟩⟩;exact⟨H,(s1.trans s3).trans s4,hY b (fr.trans ⟨fun z=>⟨nq,fun N' an'=>by rw[an'.one an];exact z⟩,fun z=>z.2 N an⟩)⟩
 ·exact h.elim
theorem EL(T:Tx K mg t):aK P w K mg base CX0 8 t.a_zn t.d_zn ["drawing","one","other","door"] (gh t):=by
 refine okU (k:=7) T.F_zn C8 (fun vs H Q E h=>by
  unfold gh at h;split at h
  ·rfl
  ·exact h.elim) (fun cdv A outer s H E B hr=>⟨_,(af (aM (au (yu T) hr.mo rfl T.g_zv T.F_zv.kp T.B_zv (aa (qv 0) (aa (qv 1) (aa (qv 2) (aa (qv 3) ae))))))
  (af (aN (bO (aQ (au (F3 T) hr.mo rfl T.g_ze T.F_ze.kp T.B_ze (aa (qv 0) (aa (qv 1) (aa (qv 2) (aa (qv 3) ae)))))))
  (ak (az bA))
  aB)
  (af (aN (cN (a0 hr.units) bx (aw ay aU rfl T.b_len Jf (aa (qv 3) ae)) ar)
  (ak (az bA))
  aB)
  (ak (az (cb (iX (au (AS T) hr.mo rfl T.g_yg T.F_yg.kp T.B_yg (aa (aZ (qv 0) T.cl_A T.m_zh (z9 T) hr.mo T.B_zh (aa (qv 1) ae)) (aa (qv 1) (aa (qv 3) (aa (bg ae) ae))))) ar) (cw (iX (au (AS T) hr.mo rfl T.g_yg T.F_yg.kp T.B_yg (aa (aZ (qv 0) T.cl_A T.m_zh (z9 T) hr.mo T.B_zh (aa (qv 3) ae)) (aa (qv 3) (aa (qv 2) (aa (qv 1) ae))))) ar)))))))),?_⟩)
 intro vs H Q E h;unfold gh at h;split at h
 ·rename_i x l m n;obtain⟨c,ts,bs,A,B,G,⟨dx,hx⟩,ok,rfl,rfl,rfl,ap,hY⟩:=h;have c6:=ok.c6;left;refine⟨c,ts,bs,A,B,G,⟨dx,hx⟩,c6,rfl,rfl,rfl,ap,?_⟩;right;refine⟨c,ts,bs,A,B,G,⟨dx,hx⟩,ok,rfl,rfl,rfl,ap.a,ap.b,ap.g,fun b1 e1=>?_⟩;refine aY (fun q=>⟨H,Sub.refl _,hY false ⟨fun z=>(by cases z),fun z=>by rw[e1.mpr z.1]at q;cases q⟩⟩) (fun q=>?_);have f1:=e1.mp (by simpa using q);right;rw[kb];by_cases ne:G=[]
  ·exact aG (by rw[ne];rfl) ⟨H,Sub.refl _,hY true ⟨fun _=>⟨f1,.inl ne⟩,fun _=>rfl⟩⟩
  refine aA (by simpa using ne) ?_;have ap1:=ap.one ne;have ap2:=ap.two ne;subst hR;ac_rfl;refine⟨⟨_,_,hx,rfl⟩,c,ts,bs,A,⟨dx,hx⟩,rfl,ok,ap.a,fun y H3 s3 dry=>⟨ao (by decide),c,_,_,A,G,[],dry,ok.filter (FT 2 A) (FB 2 A),rfl,rfl,rfl,ap1,fun b v H4 N s4 an fr=>?_⟩⟩;have s34:=s3.trans s4;have hx4:=s34 _ _ hx;have fr:b=true↔rB ts bs A A G []:=fr.trans ⟨fun z N' an'=>by rw[an'.one an];exact z,fun z=>z N an⟩;refine aY (fun q2=>?_) (fun q2=>⟨H,s34,hY false ⟨fun z=>(by cases z),fun z=>?_⟩⟩)
  ·refine⟨⟨_,_,hx4,rfl⟩,c,ts,bs,G,⟨dx,hx4⟩,rfl,ok,ap.g,fun y2 H5 s5 dry2=>⟨c,_,_,G,B,A,dry2,ok.filter (FT 2 G) (FB 2 G),rfl,rfl,rfl,ap2,fun b2 v2 H6 N2 s6 an2 fr2=>?_⟩⟩;have fr2:b2=true↔rB ts bs G G B A:=fr2.trans ⟨fun z N' an'=>by rw[an'.one an2];exact z,fun z=>z N2 an2⟩;exact⟨H,(s34.trans s5).trans s6,hY b2 (fr2.trans ⟨fun z=>⟨f1,.inr ⟨fr.mp q2,z⟩⟩,fun z=>z.2.elim (fun q=>absurd q ne) (fun q=>q.2)⟩)⟩
  ·rcases z.2 with q3 | q3
   ·exact absurd q3 ne
   ·rw[fr.mpr q3.1]at q2;cases q2
 ·exact h.elim
theorem G0(T:Tx K mg t):aK P w K mg base CX0 8 t.a_zY t.d_zY ["_law_drawn","_law_one","_law_other","_law_door"] gE:=by
 refine okU (k:=7) T.F_zY yE (fun vs H Q E h=>by
  unfold gE at h;split at h
  ·rfl
  ·exact h.elim) (fun cdv A outer s H E B hr=>⟨_,(af (sN 4 yE.nd (au (EE T) hr.mo rfl T.g_zT T.F_zT.kp T.B_zT (aa (qv 0) (aa (qv 1) ae))))
  (af (aN (cN fb fe (aw ay aU rfl T.b_len Jf (aa (cE (N2:=D0) (nt:=1) (js:=[4]) (ck (sc:=ai xh)) (aI (qv 3)) (fun _ _ _ _=>⟨(gN 0 Ip),(aV (cW (bL hr.units) bf (qv 0) (qv 1))),(qv 0)⟩)) ae)) ar)
  (ak (az bA))
  aB)
  (ak (az (au (Bv T) hr.mo rfl T.g_zZ T.F_zZ.kp T.B_zZ (aa (au (x5 T) hr.mo rfl T.g_yd T.F_yd.kp T.B_yd (aa (qv 0) (aa (bg ae) (aa (qv 1) ae)))) (aa (qv 1) (aa (qv 2) (aa (qv 3) ae))))))))),?_⟩)
 intro vs H Q E h;unfold gE at h;split at h
 ·rename_i l m k n;obtain⟨c,ts,bs,A,B,G,e,rfl,rfl,rfl,ok,ap,h⟩:=h;have g6:=ap.g.len ok.c6;left;refine⟨c,ts,bs,A,e,rfl,ok,ap.a,fun r H1 F hr s1 er iff lF=>?_⟩;right;show ∀acc,H1 acc=none->_;intro p hp;refine aC (fun y=>y) (onI fun y=>decide (y∈F)) (fun σ=>∃z,σ=[z,some (.ref r)]) (by rw[kb];omega) (fun _=>trivial) ?_ ?_ ⟨_,rfl⟩
  ·rintro y hy l σ R' ⟨z,rfl⟩ hl kT kF;obtain⟨k,hk,rfl⟩:=IF.mp hy;have e:onI (fun y=>decide (y∈F)) (PV.int k)=decide (k∈F):=rfl;rw[e]at kT kF;ac_rfl;refine⟨_,(aq (av er hp)).trans er,aE,?_⟩;rw[aO];by_cases m:k∈F
   ·exact aG (by simp[m]) ⟨hl,by rw[aD];exact kT (by simp[m]) _ ⟨_,rfl⟩⟩
   ·exact aA (by simp[m]) (kF (by simp[m]) _ ⟨_,rfl⟩)
  rw[bU];have s2:=s1.put (o:=.lst ((G.filter fun y=>decide (y∈F)).map PV.int)) (s1.free hp);ac_rfl;generalize put H1 p (.lst ((G.filter fun y=>decide (y∈F)).map PV.int))=H2 at *;rw[kb];by_cases nn:∀y∈G,¬My.Reach ts A y
  ·have e0:(G.filter fun y=>decide (y∈F))=[]:=by
    rw[JK];intro y hy;rw[JB,iff];exact nn y hy
   refine aA (by rw[e0];rfl) ?_;subst hR;ac_rfl;refine⟨ao (by decide),c,ts,bs,[],A,e,rfl,rfl,ok,?_⟩;rw[ct2,fb0];unfold shp;ac_rfl;have ok2:=ok.filter (FT 2 A) (FB 2 A);rw[fb2]at ok2;refine⟨c,_,bs,A,B,G,rfl,rfl,rfl,rfl,ok2,ap.a,ap.g,fun b N an hb=>⟨H,s2,h b (hb.trans ?_)⟩⟩;unfold ky rn;rw[fb2];exact⟨fun z=>⟨nn,fun N' an'=>by rw[an'.one an];exact z⟩,fun z=>z.2 N an⟩
  ·obtain⟨y,hy⟩:=Classical.not_forall.mp nn;obtain⟨hy,hr⟩:=Classical.not_imp.mp hy;have hm:y∈G.filter fun y=>decide (y∈F):=Jm.mpr ⟨hy,by rw[JB,iff];exact Classical.not_not.mp hr⟩;have:=List.length_pos_of_mem hm;exact aG (JE (by omega)) ⟨H,s2,h false ⟨fun z=>(by cases z),fun z=>absurd z.1 nn⟩⟩
 ·exact h.elim
theorem Hj(T:Tx K mg t):aK P w K mg base CX0 8 t.a_zV t.d_zV ["_law_drawn","_law_one","_law_other","_law_door"] eK:=by
 refine okU (k:=7) T.F_zV Eh (fun vs H Q E h=>by
  unfold eK at h;split at h
  ·rfl
  ·exact h.elim) (fun cdv A outer s H E B hr=>⟨_,(af (aN (cN fb fe (aw ay aU rfl T.b_len Jf (aa (cE (N2:=Et) (nt:=1) (js:=[2]) (ck (sc:=ai xj)) (aI (au (EE T) hr.mo rfl T.g_zT T.F_zT.kp T.B_zT (aa (au (x5 T) hr.mo rfl T.g_yd T.F_yd.kp T.B_yd (aa (qv 0) (aa (qv 3) (aa (bg ae) ae)))) (aa (qv 1) ae)))) (fun _ _ _ _=>⟨(gN 0 FR),(aV (cW (bL hr.units) bf (qv 0) (qv 1))),(qv 0)⟩)) ae)) ar)
  (ak (az bA))
  aB)
  (af (aN (cN (a0 hr.units) bx (aw ay aU rfl T.b_len Jf (aa (qv 3) ae)) ar)
  (ak (az bA))
  aB)
  (af (aN (bO (aQ (au (Bv T) hr.mo rfl T.g_zZ T.F_zZ.kp T.B_zZ (aa (au (x5 T) hr.mo rfl T.g_yd T.F_yd.kp T.B_yd (aa (qv 0) (aa (bg ae) (aa (qv 1) ae)))) (aa (qv 1) (aa (qv 3) (aa (bg ae) ae)))))))
  (ak (az bA))
  aB)
  (ak (az (au (Bv T) hr.mo rfl T.g_zZ T.F_zZ.kp T.B_zZ (aa (au (x5 T) hr.mo rfl T.g_yd T.F_yd.kp T.B_yd (aa (qv 0) (aa (bg ae) (aa (qv 3) ae)))) (aa (qv 3) (aa (qv 2) (aa (qv 1) ae)))))))))),?_⟩)
 intro vs H Q E h;unfold eK at h;split at h
 ·rename_i l m k n;obtain⟨c,ts,bs,A,B,G,e,rfl,rfl,rfl,ok,ap,h⟩:=h;have b6:=ap.b.len ok.c6;have ok1:=ok.filter (FT 1 G) (FB 1 G);left;refine⟨ao (by decide),c,ts,bs,G,[],e,rfl,rfl,ok,?_⟩;rw[ct1];unfold shp;ac_rfl;refine⟨c,_,_,A,rfl,rfl,ok1,ap.a,fun r H1 F hr s1 er iff lF=>?_⟩;refine⟨_,er,fun p hp=>?_⟩;refine aC (fun y=>y) (onI fun y=>decide (y∈B)) (fun σ=>∃z,σ=[z,some (.tup (B.map PV.int))]) (by rw[kb];omega) (fun _=>(aq (av er hp)).trans er) ?_ ?_ ⟨_,rfl⟩
  ·rintro y hy l σ R' ⟨z,rfl⟩ hl kT kF;obtain⟨k,hk,rfl⟩:=IF.mp hy;have e:onI (fun y=>decide (y∈B)) (PV.int k)=decide (k∈B):=rfl;rw[e]at kT kF;ac_rfl;refine⟨aE,?_⟩;simp only[aO];by_cases m:k∈B
   ·exact aG (by simp[m]) ⟨hl,by rw[aD];exact kT (by simp[m]) _ ⟨_,rfl⟩⟩
   ·exact aA (by simp[m]) (kF (by simp[m]) _ ⟨_,rfl⟩)
  rw[bU];have s2:=s1.put (o:=.lst ((F.filter fun y=>decide (y∈B)).map PV.int)) (s1.free hp);ac_rfl;generalize put H1 p (.lst ((F.filter fun y=>decide (y∈B)).map PV.int))=H2 at *;rw[kb];have no:¬gI c ts bs A B G->∃H3,U.Sub H3 H2/\Q (.bl false) H3:=fun q=>⟨H,s2,h false ⟨fun z=>(by cases z),fun z=>absurd z q⟩⟩;by_cases nn:∀y∈B,¬My.Reach (ts.filter (FT 0 (nin c G))) A y
  ·have e0:(F.filter fun y=>decide (y∈B))=[]:=by
    rw[JK];intro y hy hb;exact nn y (K2 hb) ((mP ok ap.ag y).mp ((iff y).mp hy))
   refine aA (by rw[e0];rfl) ?_;right;rw[kb];by_cases ne:G=[]
   ·exact aG (by rw[ne];rfl) ⟨H,s2,h true ⟨fun _=>⟨nn,.inl ne⟩,fun _=>rfl⟩⟩
   refine aA (by simpa using ne) ?_;subst hR;have ap1:=ap.one ne;have ap2:=ap.two ne;have ok2:=ok.filter (FT 2 A) (FB 2 A);have ok3:=ok.filter (FT 2 G) (FB 2 G);rw[fb2]at ok2 ok3;left;refine⟨ao (by decide),c,ts,bs,[],A,e,rfl,rfl,ok,?_⟩;rw[ct2,fb0];unfold shp;ac_rfl;refine⟨ao (by decide),c,_,bs,A,G,[],rfl,rfl,rfl,rfl,ok2,ap.a,qh,fun b N an hb=>?_⟩;have fr:=yM an hb;refine aY (fun q=>no fun z=>?_) (fun q=>?_)
   ·rcases z.2 with q3 | q3
    ·exact ne q3
    ·rw[fr.mpr q3.1]at q;cases q
   have fr1:=fr.mp (by simpa using q);subst hR;ac_rfl;refine⟨ao (by decide),c,ts,bs,[],G,e,rfl,rfl,ok,?_⟩;rw[ct2,fb0];unfold shp;ac_rfl;refine⟨c,_,bs,G,B,A,rfl,rfl,rfl,rfl,ok3,ap.g,ap.a,fun b2 N2 an2 hb2=>⟨H,s2,h b2 ((yM an2 hb2).trans ⟨fun z=>⟨nn,.inr ⟨fr1,z⟩⟩,fun z=>z.2.elim (fun q=>absurd q ne) (fun q=>q.2)⟩)⟩⟩
  ·obtain⟨y,hy⟩:=Classical.not_forall.mp nn;obtain⟨hy,hr⟩:=Classical.not_imp.mp hy;have hm:y∈F.filter fun y=>decide (y∈B):=Jm.mpr ⟨(iff y).mpr ((mP ok ap.ag y).mpr (Classical.not_not.mp hr)),JE hy⟩;have:=List.length_pos_of_mem hm;exact aG (JE (by omega)) (no fun z=>nn z.1)
 ·exact h.elim
theorem Fc(T:Tx K mg t):aK P w K mg base CX0 1 t.a_ya t.d_ya ["_law_found","_law_due"] (cH 0):=by
 refine okU (k:=0) T.F_ya vi (fun vs H Q E h=>by
  unfold cH at h;split at h
  ·rfl
  ·exact h.elim) (fun cdv A outer s H E B hr=>⟨_,(af (aN (ba (fh (aQ (aw (aP .tuple) (bD .tuple) rfl T.b_isinstance Jy (aa (qv 1) (aa (bE rfl T.b_tuple JL) ae)))) (df (aQ (aw (aP .list) (bD .list) rfl T.b_isinstance Jy (aa (qv 1) (aa (bE rfl T.b_list K7) ae)))))))
  bw
  aB)
  (af (aN (aQ (aw (aP .bool) (bD .bool) rfl T.b_isinstance Jy (aa (qv 1) (aa (bE rfl T.b_bool boot_bool) ae))))
  (ak (az (cb (aw (aP .bool) (bD .bool) rfl T.b_isinstance Jy (aa (qv 0) (aa (bE rfl T.b_bool boot_bool) ae))) (cw (bK (a0 hr.units) bx (qv 0) (qv 1) (bS _))))))
  aB)
  (af (aN (aQ (aw (aP .int) (bD .int) rfl T.b_isinstance Jy (aa (qv 1) (aa (bE rfl T.b_int boot_int) ae))))
  (ak (az (cb (aw (aP .int) (bD .int) rfl T.b_isinstance Jy (aa (qv 0) (aa (bE rfl T.b_int boot_int) ae))) (cb (nT (aw (aP .bool) (bD .bool) rfl T.b_isinstance Jy (aa (qv 0) (aa (bE rfl T.b_bool boot_bool) ae)))) (cw (bK (a0 hr.units) bx (qv 0) (qv 1) (bS _)))))))
  aB)
  (af (aN (aQ (aw (aP .str) (bD .str) rfl T.b_isinstance Jy (aa (qv 1) (aa (bE rfl T.b_str boot_str) ae))))
  (ak (az (cb (aw (aP .str) (bD .str) rfl T.b_isinstance Jy (aa (qv 0) (aa (bE rfl T.b_str boot_str) ae))) (cw (bK (a0 hr.units) bx (qv 0) (qv 1) (bS _))))))
  aB)
  (ak (az (cb (bK kQ kJ (qv 1) kY (bS _)) (cw (bK kQ kJ (qv 0) kY (bS _)))))))))),?_⟩)
 intro vs H Q E h;unfold cH at h;split at h
 ·exact(show False from h.1).elim
 ·exact h.elim
theorem Gu(T:Tx K mg t){n:Nat}(ih:aK P w K mg base CX0 (n+1) t.a_ya t.d_ya ["_law_found","_law_due"] (cH n)):aK P w K mg base CX0 (n+2) t.a_ya t.d_ya ["_law_found","_law_due"] (cH (n+1)):=by
 refine okU (k:=n+1) T.F_ya vi (fun vs H Q E h=>by
  unfold cH at h;split at h
  ·rfl
  ·exact h.elim) (fun cdv A outer s H E B hr=>⟨_,(af (aN (ba (fh (aQ (aw (aP .tuple) (bD .tuple) rfl T.b_isinstance Jy (aa (qv 1) (aa (bE rfl T.b_tuple JL) ae)))) (df (aQ (aw (aP .list) (bD .list) rfl T.b_isinstance Jy (aa (qv 1) (aa (bE rfl T.b_list K7) ae)))))))
  (af (aN (ba (fh (cN gK g7 (aw (aP .tuple) (bD .tuple) rfl T.b_isinstance Jy (aa (qv 0) (aa (bE rfl T.b_tuple JL) ae))) (aw (aP .tuple) (bD .tuple) rfl T.b_isinstance Jy (aa (qv 1) (aa (bE rfl T.b_tuple JL) ae)))) (df (cN gK g7 (aw (aP .list) (bD .list) rfl T.b_isinstance Jy (aa (qv 0) (aa (bE rfl T.b_list K7) ae))) (aw (aP .list) (bD .list) rfl T.b_isinstance Jy (aa (qv 1) (aa (bE rfl T.b_list K7) ae)))))))
   (ak (az bA))
   aB)
   (af (aN (cN gK g7 (aw ay aU rfl T.b_len Jf (aa (qv 0) ae)) (aw ay aU rfl T.b_len Jf (aa (qv 1) ae)))
   (ak (az bA))
   aB)
   (af (bz Jk rfl (bN rfl T.b_range (aa (aw ay aU rfl T.b_len Jf (aa (qv 1) ae)) ae)) (gN 2 vi.nd)
   (ak (aN (bO (aQ (au ih (hr.mono (IS _)) rfl T.g_ya T.F_ya.kp T.B_ya (aa (iX (qv 0) (qv 2)) (aa (iX (qv 1) (qv 2)) ae)))))
    (ak (az bA))
    aB)))
   (ak (az bA)))))
  aB)
  (af (aN (aQ (aw (aP .bool) (bD .bool) rfl T.b_isinstance Jy (aa (qv 1) (aa (bE rfl T.b_bool boot_bool) ae))))
  (ak (az (cb (aw (aP .bool) (bD .bool) rfl T.b_isinstance Jy (aa (qv 0) (aa (bE rfl T.b_bool boot_bool) ae))) (cw (bK (a0 hr.units) bx (qv 0) (qv 1) (bS _))))))
  aB)
  (af (aN (aQ (aw (aP .int) (bD .int) rfl T.b_isinstance Jy (aa (qv 1) (aa (bE rfl T.b_int boot_int) ae))))
  (ak (az (cb (aw (aP .int) (bD .int) rfl T.b_isinstance Jy (aa (qv 0) (aa (bE rfl T.b_int boot_int) ae))) (cb (nT (aw (aP .bool) (bD .bool) rfl T.b_isinstance Jy (aa (qv 0) (aa (bE rfl T.b_bool boot_bool) ae)))) (cw (bK (a0 hr.units) bx (qv 0) (qv 1) (bS _)))))))
  aB)
  (af (aN (aQ (aw (aP .str) (bD .str) rfl T.b_isinstance Jy (aa (qv 1) (aa (bE rfl T.b_str boot_str) ae))))
  (ak (az (cb (aw (aP .str) (bD .str) rfl T.b_isinstance Jy (aa (qv 0) (aa (bE rfl T.b_str boot_str) ae))) (cw (bK (a0 hr.units) bx (qv 0) (qv 1) (bS _))))))
  aB)
  (ak (az (cb (bK kQ kJ (qv 1) kY (bS _)) (cw (bK kQ kJ (qv 0) kY (bS _)))))))))),?_⟩)
 intro vs H Q E h;unfold cH at h;split at h
 ·rename_i x y;obtain⟨hs,h⟩:=h;unfold lh at hs;split at hs
  ·subst hs;refine bZ fun T1 R h1 hR=>?_;ac_rfl;subst hR;refine bZ fun T1 R h1 hR=>?_;ac_rfl;subst hR;refine bZ fun T1 R h1 hR=>?_;ac_rfl;subst h1;ac_rfl;exact⟨H,Sub.refl _,by rw[beq_self_eq_true];exact h⟩
  ·subst hs;refine bZ fun T1 R h1 hR=>?_;ac_rfl;subst hR;refine bZ fun T1 R h1 hR=>?_;ac_rfl;subst h1;ac_rfl;exact⟨H,Sub.refl _,by rw[beq_self_eq_true];exact h⟩
  ·rename_i n0 l m e;obtain⟨hl,hp⟩:=hs;cases e;have hlen:=hp.length;refine bZ fun T1 R h1 hR=>?_;ac_rfl;subst h1;refine bZ fun T1 R1 h1 hR1=>?_;ac_rfl;refine aA rfl (aA rfl ?_);subst hR1;refine bZ fun T1 R1 h1 hR1=>?_;ac_rfl;refine aA (by rw[hlen];simp) ?_;subst hR1;refine aj fun Z hZ=>?_;ac_rfl;refine⟨⟨by omega,by omega⟩,?_⟩;rw[Jq];refine c8 (fun i σ H2=>∃k,σ=[some (.tup l),some (.tup m),k]/\H2=H) ?_ ?_ ⟨none,rfl,rfl⟩
   ·rintro σ H2 ⟨k,rfl,rfl⟩;subst hZ;exact⟨trivial,H2,Sub.refl _,h⟩
   ·rintro G i σ H2 hi ⟨k,rfl,rfl⟩ kk;refine⟨trivial,?_⟩;ac_rfl;rw[cQ (show i<l.length by omega),cQ (show i<m.length by omega)];ac_rfl;exact⟨lI hp _ _,kk _ _ ⟨_,rfl,rfl⟩⟩
  ·rename_i n0 a b e;obtain⟨l,m,ha,hb,hl,hp⟩:=hs;cases e;have hlen:=hp.length;refine bZ fun T1 R h1 hR=>?_;ac_rfl;refine⟨_,hb,_,hb,?_⟩;subst h1;refine bZ fun T1 R1 h1 hR1=>?_;ac_rfl;refine⟨_,ha,_,hb,aA rfl ⟨_,ha,_,hb,aA rfl ?_⟩⟩;subst hR1;refine bZ fun T1 R1 h1 hR1=>?_;ac_rfl;refine⟨_,ha,_,hb,aA (by rw[hlen];simp) ?_⟩;subst hR1;refine aj fun Z hZ=>?_;ac_rfl;refine⟨_,hb,⟨by omega,by omega⟩,?_⟩;rw[Jq];refine c8 (fun i σ H2=>∃k,σ=[some (.ref a),some (.ref b),k]/\H2=H) ?_ ?_ ⟨none,rfl,rfl⟩
   ·rintro σ H2 ⟨k,rfl,rfl⟩;subst hZ;exact⟨trivial,H2,Sub.refl _,h⟩
   ·rintro G i σ H2 hi ⟨k,rfl,rfl⟩ kk;refine⟨trivial,?_⟩;ac_rfl;refine⟨_,ha,?_⟩;rw[cQ (show i<l.length by omega)];ac_rfl;refine⟨_,hb,?_⟩;rw[cQ (show i<m.length by omega)];ac_rfl;exact⟨lI hp _ _,kk _ _ ⟨_,rfl,rfl⟩⟩
  ·exact hs.elim
 ·exact h.elim
theorem oW(T:Tx K mg t):∀n,aK P w K mg base CX0 (n+1) t.a_ya t.d_ya ["_law_found","_law_due"] (cH n)
 | 0=>Fc T
 | n+1=>Gu T (oW T n)
theorem Hg(T:Tx K mg t)(hB:dS mg base):aK P w K mg base CX0 6 t.a_zD t.d_zD ["names"] (fY t):=by
 refine GN (k:=5) T.code T.F_zD qp (fun vs H Q E h=>by
  unfold fY at h;split at h
  ·rfl
  ·exact h.elim) (fun A outer s H E B hr=>⟨_,(af (sN 1 qp.nd (bh (aa (bg ae) ae)))
  (af (bz Jk rfl (aI (qv 0)) (gN 2 qp.nd)
  (ak (sN 1 qp.nd (cx (qv 1) (cE (N2:=DU) (nt:=1) (js:=[2]) (ck (sc:=ai oI)) (aI (qv 1)) (fun _ _ _ _=>⟨(gN 0 Fx),a9,(lz (qv 0) (bg (aa (qv 1) ae)))⟩))))))
  (ak (az (tY (q:=yz) (lpos:=lx) rfl T.lam hB hr.mo T.b_len rfl T.b_sorted rfl rfl rfl BF rfl rfl (fun _ _ _ _ _=>.of_eq rfl) (qv 1)))))),?_⟩)
 intro vs H Q E h;unfold fY at h;split at h
 ·rename_i l;obtain⟨N,rfl,nd,dg,l4,tb,h⟩:=h;left;refine⟨ao (by decide),ao (by decide),fun p hp=>?_⟩;have s1:=(Sub.refl H).put (o:=.lst [PV.tup []]) hp;have e1:put H p (.lst [PV.tup []]) p=some (.lst ((My.subs (N.take 0)).map tI)):=ah;generalize put H p (.lst [PV.tup []])=H1 at *;right;refine bR (fun i σ H2=>∃r z,σ=[some (.tup (N.map PV.int)),some (.ref r),z]/\U.Sub H H2/\H2 r=some (.lst ((My.subs (N.take i)).map tI))) ?_ ?_ ⟨p,none,rfl,s1,e1⟩
  ·rintro σ H2 ⟨r,z,rfl,s2,e2⟩;refine⟨trivial,?_⟩;rw[kb,Jv]at e2;subst hR;ac_rfl;refine⟨r,My.subs N,rfl,e2,s2 _ _ tb,?_,My.kU N nd,fun M hM=>?_,fun q us pm pw hq=>⟨put H q (.lst (us.map tI)),pP (s2.put (s2.free hq)) ah,h q us (s2.free hq) (.of pm pw)⟩⟩
   ·rw[My.f7];exact KY (JV (by decide) l4) (by decide)
   ·have hs:=(My.dh N).mp hM;exact⟨My.iJ dg hs,by have:=hs.length_le;omega⟩
  ·rintro G i y σ H2 hy ⟨r,z,rfl,s2,e2⟩ kk;refine⟨trivial,?_⟩;rw[IV]at hy;obtain⟨x,hx,rfl⟩:=Jp.mp hy;have hi:i<N.length:=(IM.mp hx).1;have en:N.take (i+1)=N.take i++[x]:=by rw[Kb,hx];rfl
   have ls:(My.subs (N.take i)).length≤16:=by
    rw[My.f7,JA];exact Jl (JV (by decide) (show min i N.length≤4 by omega)) (by decide)
   ac_rfl;refine⟨_,e2,fun acc hacc=>?_⟩;have na:=av e2 hacc;refine aC (snV x) (fun _=>true) (fun σ=>∃z,σ=[z,some (.int x)]) (by rw[kb];omega) (fun _=>(aq na).trans e2) ?_ ?_ ⟨_,rfl⟩
   ·rintro y hy l σ R' ⟨z,rfl⟩ hl kT kF;obtain⟨M,hM,rfl⟩:=IF.mp hy;have lM:=((My.dh _).mp hM).length_le;rw[JA]at lM;have e:snV x (tI M)=.tup (M.map PV.int++[.int x]):=rfl;rw[e]at kT;unfold tI;ac_rfl;exact⟨ao (by decide),by rw[kb];exact ao (by omega),hl,by rw[aD];exact kT rfl _ ⟨_,rfl⟩⟩
   rw[t7];refine⟨_,_,(aq na).trans e2,ah,by rw[kb,kb,kb];exact ao (by omega),fun q hq=>?_⟩;have s3:=s2.put (o:=.lst (((My.subs (N.take i)).map (·++[x])).map tI)) (s2.free hacc);refine kk _ _ ⟨q,_,rfl,s3.put (s3.free hq),?_⟩;rw[ah,en,My.eQ,My.rO,IP]
 ·exact h.elim
theorem GU(T:Tx K mg t):aK P w K mg base CX0 3 t.a_zj t.d_zj ["names","doors"] eL:=by
 refine okU (k:=2) T.F_zj Dv (fun vs H Q E h=>by
  unfold eL at h;split at h
  ·rfl
  ·exact h.elim) (fun cdv A outer s H E B hr=>⟨_,(ak (az (aw (fZ rfl) lg rfl T.b_any boot_any (aa (cE (N2:=D9) (nt:=1) (js:=[0]) (ck (sc:=ai wj)) (aI (qv 1)) (fun _ _ _ _=>⟨(gN 0 HV),a9,(bK (a0 hr.units) bx (aw ay aU rfl T.b_len Jf (aa (au (AH T) hr.mo rfl T.g_yc T.F_yc.kp T.B_yc (aa (qv 0) (aa (qv 1) ae))) ae)) ar (bS _))⟩)) ae)))),?_⟩)
 intro vs H Q E h;unfold eL at h;split at h
 ·rename_i l a;obtain⟨M,Ds,rfl,ha,l64,l6,h⟩:=h;ac_rfl;refine⟨_,ha,fun acc hacc=>?_⟩;have na:=av ha hacc;refine aC (inM M) (fun _=>true) (fun σ=>∃z,σ=[z,some (.tup (M.map PV.int))]) (by rw[kb];omega) (fun _=>(aq na).trans ha) ?_ ?_ ⟨_,rfl⟩
  ·rintro y hy l σ R' ⟨z,rfl⟩ hl kT kF;obtain⟨D,hD,rfl⟩:=IF.mp hy;have lD:=l6 D hD;rw[vG]at kT;unfold tI;ac_rfl;refine⟨D,M,rfl,rfl,by omega,?_⟩;rw[kb,qj];exact⟨hl,by rw[aD];exact kT rfl _ ⟨_,rfl⟩⟩
  rw[tV];refine⟨_,ah.trans rfl,H,(Sub.refl H).put hacc,h _ ?_⟩;rw[List.any_map,KI];simp
 ·exact h.elim
theorem Dk(T:Tx K mg t)(hB:dS mg base):aK P w K mg base CX0 10 t.a_zE t.d_zE ["drawing","one","other","is_door"] (eF t):=by
 refine okU (k:=9) T.F_zE rY (fun vs H Q E h=>by
  unfold eF at h;split at h
  ·rfl
  ·exact h.elim) (fun cdv A outer s H E B hr=>⟨_,(af (aM (au (yu T) hr.mo rfl T.g_zv T.F_zv.kp T.B_zv (aa (qv 0) (aa (qv 1) (aa (qv 2) (aa (bg ae) ae))))))
  (af (sN 4 rY.nd (bh ae))
  (af (bz Jk rfl (aI (au (Hg T hB) hr.mo rfl T.g_zD T.F_zD.kp T.B_zD (aa (au (AH T) hr.mo rfl T.g_yc T.F_yc.kp T.B_yc (aa (au (CA T) hr.mo rfl T.g_zA T.F_zA.kp T.B_zA (aa (bW (qv 0) T.cl_A T.nfA_count rfl) ae)) (aa (lz (qv 1) (qv 2)) ae))) ae))) (gN 5 rY.nd)
  (ak (aN (ba (cc (bO (aQ (au (GU T) hr.mo rfl T.g_zj T.F_zj.kp T.B_zj (aa (qv 5) (aa (qv 4) ae))))) (bQ (aQ (rW 3 (DK T) T.F_zq.kp T.B_zq (EL T) T.F_zn.kp T.B_zn hr.mo (pv 3) (aa (qv 0) (aa (qv 1) (aa (qv 2) (aa (qv 5) ae)))))))))
   (ak (aM (bV Jw Jx bj bu (qv 4) (aa (qv 5) ae))))
   aB)))
  (ak (az (qv 4)))))),?_⟩)
 intro vs H Q E h;unfold eF at h;split at h
 ·rename_i x l m f;obtain⟨c,ts,bs,A,B,d,⟨dx,hx⟩,ok,rfl,rfl,ap,tb,hf,h⟩:=h;have c1:=ok.c1;have c6:=ok.c6;have lA:=ap.a.len c6;have lB:=ap.b.len c6;left;refine⟨ao (by decide),c,ts,bs,A,B,[],⟨dx,hx⟩,c6,rfl,rfl,rfl,ap,?_⟩;right;refine⟨ao (by decide),fun p hp=>?_⟩;have s1:=(Sub.refl H).put (o:=.lst []) hp;have e1:put H p (.lst []) p=some (.lst []):=ah;generalize put H p (.lst [])=H1 at *;have hx1:=s1 _ _ hx;right;refine⟨_,_,_,hx1,rfl,⟨by omega,by omega⟩,by rw[kb,kb];exact ao (by omega),ulN c,A++B,rfl,by rw[IP],by unfold ulN;rw[kb,JH];omega,?_⟩;have en:(ulN c).filter (fun y=>!decide (y∈A++B))=rst c A B:=rfl;rw[en];refine⟨rst c A B,rfl,gM cI,pK c6 cI,eM c6 ap,s1 _ _ tb,fun r L hr al=>?_⟩;have l16:=nj al (gM cI) (eM c6 ap);have npr:p≠r:=av e1 hr;have s2:=s1.put (o:=.lst (L.map tI)) (s1.free hr);have e2:put H1 r (.lst (L.map tI)) p=some (.lst []):=(aq npr).trans e1;have er:put H1 r (.lst (L.map tI)) r=some (.lst (L.map tI)):=ah;generalize put H1 r (.lst (L.map tI))=H2 at *;(try refine⟨_,er,?_⟩);refine bR (fun i σ H3=>∃z,σ=[some (.ref x),some (.tup (A.map PV.int)),some (.tup (B.map PV.int)),some (.ref f),some (.ref p),z]/\U.Sub H H3/\H3 r=some (.lst (L.map tI))/\H3 p=some (.lst (((L.take i).foldl (My.bC d) []).map tI))) ?_ ?_ ⟨none,rfl,s2,er,e2⟩
  ·rintro σ H3 ⟨z,rfl,s3,er3,e3⟩;refine⟨er3,?_⟩;rw[kb,Jv]at e3;subst hR;ac_rfl;exact⟨_,pP s3 e3,h p L hp al⟩
  ·rintro N i y σ H3 hy ⟨z,rfl,s3,er3,e3⟩ kk;refine⟨er3,?_⟩;rw[IV]at hy;obtain⟨M,hM,rfl⟩:=Jp.mp hy;have hi:i<L.length:=(IM.mp hM).1;have sub:=(al.iff M).mp (Ja hM);have ap3:=oj ap sub;have hn:(L.take (i+1)).foldl (My.bC d) []=My.bC d ((L.take i).foldl (My.bC d) []) M:=by rw[Kb,hM,K3];rfl
   have l3:((L.take i).foldl (My.bC d) []).length≤16:=by
    have:=jz (d:=d) (L:=L.take i) (acc:=[]);rw[JA]at this;simp only[JU]at this;omega
   have l6:∀D∈(L.take i).foldl (My.bC d) [],D.length≤6:=fun D hD=>by
    rcases iN hD with q | q
    ·cases q
    ·have:=((al.iff D).mp (List.mem_of_mem_take q)).length_le;have:=eM c6 ap;omega
   generalize (L.take i).foldl (My.bC d) []=Ds at *;have no:¬((∀D∈Ds,¬∀x∈D,x∈M)/\d M=true)->N [some (.ref x),some (.tup (A.map PV.int)),some (.tup (B.map PV.int)),some (.ref f),some (.ref p),some (tI M)] H3:=fun q=>kk _ _ ⟨_,rfl,s3,er3,by rw[hn,My.bC,IX q];exact e3⟩;have yes:((∀D∈Ds,¬∀x∈D,x∈M)/\d M=true)->N [some (.ref x),some (.tup (A.map PV.int)),some (.tup (B.map PV.int)),some (.ref f),some (.ref p),some (tI M)] (put H3 p (.lst (Ds.map tI++[tI M]))):=fun q=>kk _ _ ⟨_,rfl,s3.put hp,(aq npr.symm).trans er3,by rw[ah,hn,My.bC,IZ q,IP];rfl⟩;unfold tI at no yes ⊢;ac_rfl;refine⟨M,Ds,rfl,e3,by omega,l6,fun b hb=>?_⟩;have go:(∀D∈Ds,¬∀x∈D,x∈M)->∀b2:Bool,b2=d M->cif b2 ((∃l,H3 p=some (.lst l))/\∃l,H3 p=some (.lst l)/\l.length<sizeLine/\N [some (.ref x),some (.tup (A.map PV.int)),some (.tup (B.map PV.int)),some (.ref f),some (.ref p),some (.tup (M.map PV.int))] (put H3 p (.lst (l++[.tup (M.map PV.int)])))) (N [some (.ref x),some (.tup (A.map PV.int)),some (.tup (B.map PV.int)),some (.ref f),some (.ref p),some (.tup (M.map PV.int))] H3):=fun q b2 hb2=>by
    refine aY (fun z=>⟨⟨_,e3⟩,_,e3,aS (by rw[kb];omega),yes ⟨q,by rw[←hb2];exact z⟩⟩) (fun z=>no fun w=>?_);rw[←hb2,z]at w;cases w.2
   refine aY (fun z=>?_) (fun z=>no fun w=>?_)
   ·have nb:¬∃D∈Ds,∀x∈D,x∈M:=fun w=>by rw[hb.mpr w]at z;cases z
    have nb:∀D∈Ds,¬∀x∈D,x∈M:=fun D hD w=>nb ⟨D,hD,w⟩;rcases hf with⟨rfl,rfl⟩ |⟨rfl,rfl⟩
    ·exact .inl ⟨rfl,c,ts,bs,A,B,M,⟨dx,s3 _ _ hx⟩,ok,rfl,rfl,rfl,ap3,fun b2 hb2=>go nb b2 (p7 hb2)⟩
    ·exact .inr ⟨rfl,c,ts,bs,A,B,M,⟨dx,s3 _ _ hx⟩,ok,rfl,rfl,rfl,ap3,fun b2 hb2=>go nb b2 (p7 hb2)⟩
   ·obtain⟨D,hD,q⟩:=hb.mp (by simpa using z);exact w.1 D hD q
 ·exact h.elim
theorem EV(T:Tx K mg t)(hB:dS mg base):aK P w K mg base CX0 11 t.a_zK t.d_zK ["drawing","one","other"] (eR t):=by
 refine okU (k:=10) T.F_zK DL (fun vs H Q E h=>by
  unfold eR at h;split at h
  ·rfl
  ·exact h.elim) (fun cdv A outer s H E B hr=>⟨_,(ak (az (au (Dk T hB) hr.mo rfl T.g_zE T.F_zE.kp T.B_zE (aa (qv 0) (aa (qv 1) (aa (qv 2) (aa (kN (v':=.ref t.a_zq) (v:=V.ref t.a_zq) rfl T.g_zq rfl (fun _=>by simp[RP])) ae))))))),?_⟩)
 intro vs H Q E h;unfold eR at h;split at h
 ·rename_i x l m;obtain⟨c,ts,bs,A,B,dr,ok,rfl,rfl,ap,tb,h⟩:=h;ac_rfl;exact⟨c,ts,bs,A,B,_,dr,ok,rfl,rfl,ap,tb,.inl rfl,fun r L hr al=>⟨_,Sub.refl _,h r L hr al⟩⟩
 ·exact h.elim
theorem En(T:Tx K mg t)(hB:dS mg base):aK P w K mg base CX0 11 t.a_zF t.d_zF ["drawing","one","other"] (eH t):=by
 refine okU (k:=10) T.F_zF Ep (fun vs H Q E h=>by
  unfold eH at h;split at h
  ·rfl
  ·exact h.elim) (fun cdv A outer s H E B hr=>⟨_,(ak (az (au (Dk T hB) hr.mo rfl T.g_zE T.F_zE.kp T.B_zE (aa (qv 0) (aa (qv 1) (aa (qv 2) (aa (kN (v':=.ref t.a_zn) (v:=V.ref t.a_zn) rfl T.g_zn rfl (fun _=>by simp[RP])) ae))))))),?_⟩)
 intro vs H Q E h;unfold eH at h;split at h
 ·rename_i x l m;obtain⟨c,ts,bs,A,B,dr,ok,rfl,rfl,ap,tb,h⟩:=h;ac_rfl;exact⟨c,ts,bs,A,B,_,dr,ok,rfl,rfl,ap,tb,.inr rfl,fun r L hr al=>⟨_,Sub.refl _,h r L hr al⟩⟩
 ·exact h.elim
theorem FF(T:Tx K mg t):aK P w K mg base CX0 3 t.a_zG t.d_zG ["_law_names"] fE:=by
 refine okU (k:=2) T.F_zG ji (fun vs H Q E h=>by
  unfold fE at h;split at h
  ·rfl
  ·exact h.elim) (fun cdv A outer s H E B hr=>⟨_,(af (sN 1 ji.nd (bh ae))
  (af (bz Jk rfl (bN rfl T.b_range (aa (cR (aw ay aU rfl T.b_len Jf (aa (qv 0) ae)) ar) ae)) (gN 2 ji.nd)
  (af (sN 3 ji.nd (bh ae))
   (af (bz Jk rfl (bN rfl T.b_range (aa (zA ar (aw ay aU rfl T.b_len Jf (aa (qv 0) ae))) ae)) (gN 4 ji.nd)
   (af (sN 5 ji.nd (aL aJ a8 rfl T.b_tuple JL (aa (cE (N2:=CU) (nt:=1) (js:=[0,4]) (ck (sc:=ai xk)) (bN rfl T.b_range (aa (aw ay aU rfl T.b_len Jf (aa (qv 0) ae)) ae)) (fun _ _ _ _=>⟨(gN 0 HK),(aV (cN (a0 hr.units) bx (pY (uU (qv 2) (qv 0)) ar) ar)),(iX (qv 1) (qv 0))⟩)) ae)))
    (ak (aN (cN (a0 hr.units) bx (aw ay aU rfl T.b_len Jf (aa (qv 5) ae)) (qv 2))
    (ak (aM (bV Jw Jx bj bu (qv 3) (aa (qv 5) ae))))
    aB))))
   (ak (sN 1 ji.nd (cx (qv 1) (aw n6 rZ rfl T.b_sorted boot_sorted (aa (qv 3) ae))))))))
  (ak (az (qv 1))))),?_⟩)
 intro vs H Q E h;unfold fE at h;split at h
 ·rename_i a;obtain⟨N,ha,nd,dg,l4,h⟩:=h;have p16:2 ^ N.length≤16:=Jl (JV (by decide) l4) (by decide);left;refine⟨ao (by decide),fun f hf=>?_⟩;have s1:=(Sub.refl H).put (o:=.lst []) hf;have e1:put H f (.lst []) f=some (.lst []):=ah;generalize put H f (.lst [])=H1 at *;have ha1:=s1 _ _ ha;right;refine⟨_,ha1,⟨by rw[kb];omega,by rw[kb];omega⟩,?_⟩;have er:(((N.map PV.int).length:Int)+1).toNat=N.length+1:=by rw[kb];omega
  rw[er];refine c8 (fun i σ H2=>∃r z1 z2 z3 z4 L,σ=[some (.ref a),some (.ref r),z1,z2,z3,z4]/\U.Sub H H2/\H r=none/\H2 r=some (.lst (L.map tI))/\My.e9 N i L) ?_ ?_ ⟨f,none,none,none,none,[],rfl,s1,hf,e1,.nil⟩
  ·rintro σ H2 ⟨r,z1,z2,z3,z4,L,rfl,s2,hr,e2,al⟩;refine⟨trivial,?_⟩;subst hR;ac_rfl;exact⟨H2,Sub.refl _,h r L H2 hr s2 e2 al.all⟩
  ·rintro G i σ H2 hi ⟨r,z1,z2,z3,z4,L,rfl,s2,hr,e2,al⟩ kk;refine⟨trivial,?_⟩;have hi:i<N.length+1:=hi;have lL:L.length≤16:=by
    have:=al.len nd;omega
   refine aj fun R1 hR1=>?_;ac_rfl;refine⟨ao (by decide),fun p hp=>?_⟩;have nrp:=av e2 hp;have s3:=s2.put (o:=.lst []) (s2.free hp);have e3:put H2 p (.lst []) r=some (.lst (L.map tI)):=(aq nrp).trans e2;have ep:put H2 p (.lst []) p=some (.lst []):=ah;have hpn:=s2.free hp;generalize put H2 p (.lst [])=H3 at *;have ha3:=s3 _ _ ha;subst hR1;refine aj fun R1 hR1=>?_;ac_rfl;refine⟨_,ha3,⟨by omega,by rw[kb];omega,by decide⟩,?_⟩;have eb:(1*2 ^ ((N.map PV.int).length:Int).toNat:Int)=((2 ^ N.length:Nat):Int):=by rw[kb,Jq,Int.one_mul,Int.natCast_pow];rfl
   rw[eb];clear eb;refine⟨⟨Int.le_trans (by decide) (Int.natCast_nonneg _),Int.lt_of_le_of_lt (Int.ofNat_le.mpr p16) (by decide)⟩,?_⟩;rw[Jq];refine c8 (fun j σ H4=>∃z3 z4,σ=[some (.ref a),some (.ref r),some (.int (i:Nat)),some (.ref p),z3,z4]/\U.Sub H H4/\H4 r=some (.lst (L.map tI))/\H4 p=some (.lst ((My.picks N i j).map tI))) ?_ ?_ ⟨_,_,rfl,s3,e3,ep⟩
   ·rintro σ H4 ⟨z3,z4,rfl,s4,e4,ep4⟩;refine⟨trivial,?_⟩;subst hR1;ac_rfl;have mp:∀M∈My.picks N i (2 ^ N.length),M.Sublist N/\M.length=i:=fun M hM=>My.ki.mp hM;have np:=My.uX nd (m:=i) (IS (2 ^ N.length));have lp:(My.picks N i (2 ^ N.length)).length≤16:=by
     refine Jl (JD _ _) ?_;rw[kb,JH];exact p16
    refine⟨_,i,ep4,np,fun M hM=>⟨My.iJ dg (mp M hM).1,by have:=(mp M hM).1.length_le;omega⟩,by omega,fun M hM=>(mp M hM).2,fun l2 e0=>?_,fun q us hq pm pw=>?_⟩
    ·have:=wA np (a:=[]) fun M hM=>Kd.mp ((mp M hM).2.trans e0);omega
    ·have nrq:=av e4 hq;have lu:us.length≤16:=by rw[pm.length_eq];exact lp
     have s5:=s4.put (o:=.lst (us.map tI)) (s4.free hq);refine⟨_,_,(aq nrq).trans e4,rfl,by rw[kb,kb];exact ao (by omega),fun v hv=>?_⟩;exact kk _ _ ⟨v,_,_,_,_,L++us,rfl,s5.put (s5.free hv),s5.free hv,by rw[ah,IP],al.step dg (by omega) pm pw⟩
   ·rintro G2 j σ H4 hj ⟨z3,z4,rfl,s4,e4,ep4⟩ kk2;refine⟨trivial,?_⟩;have ha4:=s4 _ _ ha;refine aj fun R2 hR2=>?_;ac_rfl;refine⟨_,ha4,⟨by omega,by rw[kb];omega⟩,fun acc hacc=>?_⟩;rw[kb,Jq];have nac:=av ha4 hacc;refine aC (gtV N) (btV j) (fun σ=>∃z,σ=[z,some (.ref a),some (.int (j:Nat))]) (by rw[yd];omega) (fun _=>trivial) ?_ ?_ ⟨_,rfl⟩
    ·rintro y hy l σ R' ⟨z,rfl⟩ hl kT kF;obtain⟨k,hk,rfl⟩:=IF.mp hy;have hk:=Jn.mp hk;have eb:btV j (PV.int (0+(k:Nat)))=decide (j / 2 ^ k % 2=1):=by
      show decide (j / 2 ^ (0+(k:Int)).toNat % 2=1)=_;rw[K4,Jq]
     have eg:gtV N (PV.int (0+(k:Nat)))=.int (N.getD k 0):=by
      show PV.int (N.getD (0+(k:Int)).toNat 0)=_;rw[K4,Jq]
     rw[eb]at kT kF;rw[eg]at kT;rw[K4]at *;ac_rfl;refine⟨by omega,?_⟩;rw[Jq,A5];refine aY (fun q=>?_) (fun q=>kF q _ ⟨_,rfl⟩);refine⟨_,(aq nac).trans ha4,?_⟩;rw[cQ (by rw[kb];exact hk),List.getElem_map];have e5:N[k]=N.getD k 0:=by rw[IE,ID hk];rfl
     ac_rfl;rw[e5];exact⟨hl,by rw[aD];exact kT q _ ⟨_,rfl⟩⟩
    rw[qG];have s5:=s4.put (o:=.lst ((My.pick N j).map PV.int)) (s4.free hacc);have e5:put H4 acc (.lst ((My.pick N j).map PV.int)) r=some (.lst (L.map tI)):=(aq (av e4 hacc)).trans e4;have ep5:put H4 acc (.lst ((My.pick N j).map PV.int)) p=some (.lst ((My.picks N i j).map tI)):=(aq (av ep4 hacc)).trans ep4;ac_rfl;generalize put H4 acc (.lst ((My.pick N j).map PV.int))=H5 at *;subst hR2;ac_rfl;have lp:(My.picks N i j).length≤16:=by
     refine Jl (JD _ _) ?_;rw[kb,JH];have:j<2 ^ N.length:=hj;omega
    rw[kb];by_cases el:(My.pick N j).length=i
    ·refine aG (by rw[Kk];omega) ⟨⟨_,ep5⟩,_,ep5,aS (by rw[kb];omega),?_⟩;exact kk2 _ _ ⟨_,_,rfl,s5.put hpn,(aq nrp).trans e5,by rw[ah,My.jq,IZ el,IP];rfl⟩
    ·refine aA (by rw[Bool.eq_false_iff];intro q;rw[Kk]at q;omega) ?_;exact kk2 _ _ ⟨_,_,rfl,s5,e5,by rw[My.jq,IX el,Ji];exact ep5⟩
 ·exact h.elim
theorem xb(T:Tx K mg t):aK P w K mg base CX0 3 t.a_zQ t.d_zQ ["_law_doors"] eW:=by
 refine okU (k:=2) T.F_zQ qB (fun vs H Q E h=>by
  unfold eW at h;split at h
  ·rfl
  ·exact h.elim) (fun cdv A outer s H E B hr=>⟨_,(af (sN 1 qB.nd (bh ae))
  (af (bz Jk rfl (aI (qv 0)) (gN 2 qB.nd)
  (af (sC 3 qB.nd (N2:=EB) (nt:=1) (js:=[2]) (ck (sc:=ai ym)) (aI (qv 1)) (fun _ _ _ _=>⟨(gN 0 F1),(aV (cN (a0 hr.units) bx (aw ay aU rfl T.b_len Jf (aa (cE (N2:=DC) (nt:=1) (js:=[1]) (cok (by exact rfl) (by repeat (first | exact trivial | refine⟨rfl,?_⟩)) rfl (by rfl) (by decide +kernel) (by decide +kernel) (by rfl) (fun x hx=>by have e:=IW.mp hx;subst e;exact⟨rfl,rfl⟩) (by rfl) (by rfl)) (aI (qv 0)) (fun _ _ _ _=>⟨(gN 0 F4),(aV (cW (aW hr.units) bf (qv 0) (qv 1))),(qv 0)⟩)) ae)) ar)),(qv 0)⟩))
   (ak (aN (cN (a0 hr.units) bx (aw ay aU rfl T.b_len Jf (aa (qv 3) ae)) ar)
   (ak (aM (bV Jw Jx bj bu (qv 1) (aa (qv 2) ae))))
   aB))))
  (ak (az (qv 1))))),?_⟩)
 intro vs H Q E h;unfold eW at h;split at h
 ·rename_i a;obtain⟨Ds,ha,l64,l6,h⟩:=h;left;refine⟨ao (by decide),fun f hf=>?_⟩;have s1:=(Sub.refl H).put (o:=.lst []) hf;have e1:put H f (.lst []) f=some (.lst []):=ah;generalize put H f (.lst [])=H1 at *;have ha1:=s1 _ _ ha;right;refine⟨_,ha1,?_⟩;refine bR (fun i σ H2=>∃z1 z2,σ=[some (.ref a),some (.ref f),z1,z2]/\U.Sub H H2/\H2 f=some (.lst (((Ds.take i).foldl (My.bC fun _=>true) []).map tI))) ?_ ?_ ⟨none,none,rfl,s1,e1⟩
  ·rintro σ H2 ⟨z1,z2,rfl,s2,e2⟩;refine⟨s2 _ _ ha,?_⟩;rw[kb,Jv]at e2;subst hR;ac_rfl;exact⟨H2,Sub.refl _,h f H2 hf s2 e2⟩
  ·rintro N i y σ H2 hy ⟨z1,z2,rfl,s2,e2⟩ kk;refine⟨s2 _ _ ha,?_⟩;rw[IV]at hy;obtain⟨M,hM,rfl⟩:=Jp.mp hy;have hi:i<Ds.length:=(IM.mp hM).1;have hn:(Ds.take (i+1)).foldl (My.bC fun _=>true) []=My.bC (fun _=>true) ((Ds.take i).foldl (My.bC fun _=>true) []) M:=by rw[Kb,hM,K3];rfl
   have l3:((Ds.take i).foldl (My.bC fun _=>true) []).length≤64:=by
    have:=jz (d:=fun _=>true) (L:=Ds.take i) (acc:=[]);rw[JA]at this;simp only[JU]at this;omega
   have l7:∀D∈(Ds.take i).foldl (My.bC fun _=>true) [],D.length≤6:=fun D hD=>by
    rcases iN hD with q | q
    ·cases q
    ·exact l6 D (List.mem_of_mem_take q)
   generalize (Ds.take i).foldl (My.bC fun _=>true) []=Fs at *;unfold tI;refine aj fun R1 hR1=>?_;ac_rfl;refine⟨_,e2,fun acc hacc=>?_⟩;have nac:=av e2 hacc;refine d0 (fun k σ H3=>∃z,σ=[z,some (.tup (M.map PV.int))]/\U.Sub H2 H3/\H3 acc=some (.lst (((Fs.take k).filter fun D=>decide (∀x∈D,x∈M)).map tI))) ?_ ?_ ⟨_,rfl,(Sub.refl H2).put hacc,ah⟩
   ·rintro k y σ H3 R' hy ⟨z,rfl,s3,e3⟩ kk3;refine⟨s3 _ _ e2,?_⟩;rw[IV]at hy;obtain⟨D,hD,rfl⟩:=Jp.mp hy;have lD:=l7 D (Ja hD);have hk:k<Fs.length:=(IM.mp hD).1;have tk:Fs.take (k+1)=Fs.take k++[D]:=by rw[Kb,hD];rfl
    unfold tI;ac_rfl;show ∀acc,H3 acc=none->_;intro ac2 hac2;refine aC (fun y=>y) (onI fun y=>!decide (y∈M)) (fun σ=>∃z,σ=[z,some (.tup (M.map PV.int))]) (by rw[kb];omega) (fun _=>trivial) ?_ ?_ ⟨_,rfl⟩
    ·rintro y hy l σ R2 ⟨z,rfl⟩ hl kT kF;obtain⟨u,hu,rfl⟩:=IF.mp hy;have e:onI (fun y=>!decide (y∈M)) (PV.int u)=!decide (u∈M):=rfl;rw[e]at kT kF;ac_rfl;refine⟨aE,?_⟩;rw[aO];exact aY (fun q=>⟨hl,by rw[aD];exact kT q _ ⟨_,rfl⟩⟩) (fun q=>kF q _ ⟨_,rfl⟩)
    rw[bU];ac_rfl;rw[kb,qj];have s4:=s3.put (o:=.lst ((D.filter fun y=>!decide (y∈M)).map PV.int)) (s3.free hac2);have e4:put H3 ac2 (.lst ((D.filter fun y=>!decide (y∈M)).map PV.int)) acc=some (.lst (((Fs.take k).filter fun D=>decide (∀x∈D,x∈M)).map tI)):=(aq (av e3 hac2)).trans e3;refine aY (fun q=>?_) (fun q=>?_)
    ·refine⟨_,e4,?_,kk3 _ _ ⟨_,rfl,s4.put hacc,?_⟩⟩
     ·rw[kb];refine KY (JD _ _) ?_;rw[JA];exact aS (by omega)
     ·rw[ah,tk,J7,IP];simp only[JF,q,IZ,List.filter_nil];rfl
    ·refine kk3 _ _ ⟨_,rfl,s4,?_⟩;rw[e4,tk,J7];simp[q]
   ·rintro σ H3 ⟨z,rfl,s3,e3⟩;refine⟨s3 _ _ e2,?_⟩;rw[kb,Jv]at e3;subst hR1;ac_rfl;refine⟨_,e3,?_⟩;rw[kb];have e2':=s3 _ _ e2;by_cases q:∀D∈Fs,¬∀x∈D,x∈M
    ·have e0:Fs.filter (fun D=>decide (∀x∈D,x∈M))=[]:=by
      rw[JK];intro D hD;rw[JB];exact q D hD
     refine aG (by rw[e0];rfl) ⟨⟨_,e2'⟩,_,e2',aS (by rw[kb];omega),?_⟩;exact kk _ _ ⟨_,_,rfl,(s2.trans s3).put hf,by rw[ah,hn,My.bC,IZ ⟨q,rfl⟩,IP];rfl⟩
    ·have e0:Fs.filter (fun D=>decide (∀x∈D,x∈M))≠[]:=fun e0=>q fun D hD w=>by
      rw[JK]at e0;exact e0 D hD (JE w)
     have:=List.length_pos_iff.mpr e0;refine aA (by rw[Bool.eq_false_iff];intro q;rw[Kk]at q;omega) ?_;exact kk _ _ ⟨_,_,rfl,s2.trans s3,by rw[hn,My.bC,IX fun w=>q w.1];exact e2'⟩
 ·exact h.elim
theorem FW(T:Tx K mg t)(hB:dS mg base):aK P w K mg base CX0 13 t.a_zk t.d_zk ["_law_drawn","_law_drawing","_law_one","_law_other"] (gf t):=by
 refine okU (k:=12) T.F_zk hJ (fun vs H Q E h=>by
  unfold gf at h;split at h
  ·rfl
  ·exact h.elim) (fun cdv A outer s H E B hr=>⟨_,(af (sN 4 hJ.nd (bh ae))
  (af (sN 5 hJ.nd (bh ae))
  (af (bz Jk rfl (aI (au (FF T) hr.mo rfl T.g_zG T.F_zG.kp T.B_zG (aa (cE (N2:=DH) (nt:=1) (js:=[2,3]) (ck (sc:=ai wd)) (bN rfl T.b_range (aa (iX (qv 0) ar) ae)) (fun _ _ _ _=>⟨(gN 0 FU),(aV (cW (aW hr.units) bf (qv 0) (lz (qv 1) (qv 2)))),(qv 0)⟩)) ae))) (gN 6 hJ.nd)
  (af (sN 7 hJ.nd (au (G0 T) hr.mo rfl T.g_zY T.F_zY.kp T.B_zY (aa (qv 0) (aa (qv 2) (aa (qv 3) (aa (qv 6) ae))))))
   (af (sN 8 hJ.nd (au (Hj T) hr.mo rfl T.g_zV T.F_zV.kp T.B_zV (aa (qv 0) (aa (qv 2) (aa (qv 3) (aa (qv 6) ae))))))
   (af (aN (bO (aQ (au (oW T 3) hr.mo rfl T.g_ya T.F_ya.kp T.B_ya (aa (au (DK T) hr.mo rfl T.g_zq T.F_zq.kp T.B_zq (aa (qv 1) (aa (qv 2) (aa (qv 3) (aa (qv 6) ae))))) (aa (qv 7) ae)))))
   (ak (az bA))
   aB)
   (af (aN (bO (aQ (au (oW T 3) hr.mo rfl T.g_ya T.F_ya.kp T.B_ya (aa (au (EL T) hr.mo rfl T.g_zn T.F_zn.kp T.B_zn (aa (qv 1) (aa (qv 2) (aa (qv 3) (aa (qv 6) ae))))) (aa (qv 8) ae)))))
   (ak (az bA))
   aB)
   (af (aN (aQ (qv 7))
   (ak (aM (bV Jw Jx bj bu (qv 4) (aa (qv 6) ae))))
   aB)
   (ak (aN (aQ (qv 8))
   (ak (aM (bV Jw Jx bj bu (qv 5) (aa (qv 6) ae))))
   aB))))))))
  (af (sN 9 hJ.nd (au (EV T hB) hr.mo rfl T.g_zK T.F_zK.kp T.B_zK (aa (qv 1) (aa (qv 2) (aa (qv 3) ae)))))
  (af (aN (bO (aQ (au (oW T 3) hr.mo rfl T.g_ya T.F_ya.kp T.B_ya (aa (qv 9) (aa (au (xb T) hr.mo rfl T.g_zQ T.F_zQ.kp T.B_zQ (aa (qv 4) ae)) ae)))))
  (ak (az bA))
  aB)
  (af (aM (oz PySem.F.slot_list_clear PySem.F.type_list_clear nc nG nD (qv 9)))
  (af (aN (bO (aQ (au (oW T 3) hr.mo rfl T.g_ya T.F_ya.kp T.B_ya (aa (au (EV T hB) hr.mo rfl T.g_zK T.F_zK.kp T.B_zK (aa (qv 1) (aa (qv 2) (aa (qv 3) ae)))) (aa (au (xb T) hr.mo rfl T.g_zQ T.F_zQ.kp T.B_zQ (aa (qv 4) ae)) ae)))))
  (ak (az bA))
  aB)
  (af (sN 9 hJ.nd (au (En T hB) hr.mo rfl T.g_zF T.F_zF.kp T.B_zF (aa (qv 1) (aa (qv 2) (aa (qv 3) ae)))))
  (af (aN (bO (aQ (au (oW T 3) hr.mo rfl T.g_ya T.F_ya.kp T.B_ya (aa (qv 9) (aa (au (xb T) hr.mo rfl T.g_zQ T.F_zQ.kp T.B_zQ (aa (qv 5) ae)) ae)))))
  (ak (az bA))
  aB)
  (af (aM (oz PySem.F.slot_list_clear PySem.F.type_list_clear nc nG nD (qv 9)))
  (ak (az (au (oW T 3) hr.mo rfl T.g_ya T.F_ya.kp T.B_ya (aa (au (En T hB) hr.mo rfl T.g_zF T.F_zF.kp T.B_zF (aa (qv 1) (aa (qv 2) (aa (qv 3) ae)))) (aa (au (xb T) hr.mo rfl T.g_zQ T.F_zQ.kp T.B_zQ (aa (qv 5) ae)) ae))))))))))))))),?_⟩)
 intro vs H Q E h;unfold gf at h;split at h
 ·rename_i k x l m;obtain⟨c,ts,bs,A,B,e,⟨dx,hx⟩,ok,rfl,rfl,ap,tb,h⟩:=h;unfold shp at e;injection e with e;subst e;have c1:=ok.c1;have c6:=ok.c6;have lA:=ap.a.len c6;have lB:=ap.b.len c6;left;refine⟨ao (by decide),fun b hb0=>?_⟩;have s1:=(Sub.refl H).put (o:=.lst []) hb0;have e1:put H b (.lst []) b=some (.lst []):=ah;generalize put H b (.lst [])=H1 at *;right;refine⟨ao (by decide),fun f hf1=>?_⟩;have hf0:=s1.free hf1;have nbf:=av e1 hf1;have s2:=s1.put (o:=.lst []) hf0;have e2:put H1 f (.lst []) b=some (.lst []):=(aq nbf).trans e1;have f2:put H1 f (.lst []) f=some (.lst []):=ah;generalize put H1 f (.lst [])=H2 at *;right;refine⟨⟨by omega,by omega⟩,fun acc hacc=>?_⟩;rw[uk];refine aC (fun y=>y) (onI fun y=>!decide (y∈A++B)) (fun σ=>∃z,σ=[z,some (.tup (A.map PV.int)),some (.tup (B.map PV.int))]) (by rw[kb];unfold ulN;rw[kb,JH];omega) (fun _=>trivial) ?_ ?_ ⟨_,rfl⟩
  ·rintro y hy l σ R2 ⟨z,rfl⟩ hl kT kF;obtain⟨u,hu,rfl⟩:=IF.mp hy;have e:onI (fun y=>!decide (y∈A++B)) (PV.int u)=!decide (u∈A++B):=rfl;rw[e]at kT kF;ac_rfl;refine⟨by rw[kb,kb];exact ao (by omega),?_⟩;rw[←IP];refine⟨aE,?_⟩;rw[aO];exact aY (fun q=>⟨hl,by rw[aD];exact kT q _ ⟨_,rfl⟩⟩) (fun q=>kF q _ ⟨_,rfl⟩)
  rw[bU];have en:(ulN c).filter (fun y=>!decide (y∈A++B))=rst c A B:=rfl;rw[en];have s3:=s2.put (o:=.lst ((rst c A B).map PV.int)) (s2.free hacc);have e3:put H2 acc (.lst ((rst c A B).map PV.int)) b=some (.lst []):=(aq (av e2 hacc)).trans e2;have f3:put H2 acc (.lst ((rst c A B).map PV.int)) f=some (.lst []):=(aq (av f2 hacc)).trans f2;have a3:put H2 acc (.lst ((rst c A B).map PV.int)) acc=some (.lst ((rst c A B).map PV.int)):=ah;ac_rfl;generalize put H2 acc (.lst ((rst c A B).map PV.int))=H3 at *;refine⟨rst c A B,rfl,gM cI,pK c6 cI,eM c6 ap,fun r L H4 hr s34 er al=>⟨_,er,?_⟩⟩;have l16:=nj al (gM cI) (eM c6 ap);have ml6:∀M∈L,M.length≤6:=fun M hM=>by
   have:=((al.iff M).mp hM).length_le;have:=eM c6 ap;omega
  have nbr:=av e3 hr;have nfr:=av f3 hr;refine bR (fun i σ H5=>∃z1 z2 z3 z4,σ=[some (.tup [.int c,.tup (ts.map prV),.tup (bs.map prV)]),some (.ref x),some (.tup (A.map PV.int)),some (.tup (B.map PV.int)),some (.ref b),some (.ref f),z1,z2,z3,z4]/\U.Sub H H5/\H5 r=some (.lst (L.map tI))/\H5 b=some (.lst (((L.take i).filter (dBk ts bs A B)).map tI))/\H5 f=some (.lst (((L.take i).filter (dFr c ts bs A B)).map tI))) ?_ ?_ ⟨_,_,_,_,rfl,s3.trans s34,er,s34 _ _ e3,s34 _ _ f3⟩
  rotate_left
  ·rintro N i y σ H5 hy ⟨z1,z2,z3,z4,rfl,s5,er5,eb,ef⟩ kk;refine⟨er5,?_⟩;rw[IV]at hy;obtain⟨M,hM,rfl⟩:=Jp.mp hy;have hi:i<L.length:=(IM.mp hM).1;have ap3:=oj ap ((al.iff M).mp (Ja hM));have tk:L.take (i+1)=L.take i++[M]:=by rw[Kb,hM];rfl
   have lb:∀d:List Int->Bool,((L.take i).filter d).length≤16:=fun d=>by
    refine Jl (JD _ _) ?_;rw[JA];omega
   refine aj fun R1 hR1=>?_;unfold tI;ac_rfl;refine⟨c,ts,bs,A,B,M,rfl,rfl,rfl,rfl,ok,ap3,fun b1 hb1=>?_⟩;subst hR1;refine aj fun R1 hR1=>?_;ac_rfl;refine⟨c,ts,bs,A,B,M,rfl,rfl,rfl,rfl,ok,ap3,fun b2 hb2=>?_⟩;subst hR1;refine aj fun R1 hR1=>?_;ac_rfl;refine⟨c,ts,bs,A,B,M,⟨dx,s5 _ _ hx⟩,ok,rfl,rfl,rfl,ap3,fun b3 hb3=>?_⟩;have q3:b3=b1:=by rw[Kg,hb3,hb1]
   refine⟨q3,?_⟩;subst hR1;refine aj fun R1 hR1=>?_;ac_rfl;refine⟨c,ts,bs,A,B,M,⟨dx,s5 _ _ hx⟩,ok,rfl,rfl,rfl,ap3,fun b4 hb4=>?_⟩;have q4:b4=b2:=by rw[Kg,hb4,hb2]
   refine⟨q4,?_⟩;have d1:dBk ts bs A B M=b1:=(p7 hb1).symm;have d2:dFr c ts bs A B M=b2:=(p7 hb2).symm;have fil:∀(d:List Int->Bool) (v:Bool),d M=v->(L.take (i+1)).filter d=(L.take i).filter d++(if v=true then [M]else []):=fun d v e=>by
    rw[tk,J7,JF,e];cases v<;>rfl
   have last:∀H6,U.Sub H H6->H6 r=some (.lst (L.map tI))->H6 b=some (.lst (((L.take (i+1)).filter (dBk ts bs A B)).map tI))->H6 f=some (.lst (((L.take i).filter (dFr c ts bs A B)).map tI))->cif b2 ((∃l,H6 f=some (.lst l))/\∃l,H6 f=some (.lst l)/\l.length<sizeLine/\N [some (.tup [.int c,.tup (ts.map prV),.tup (bs.map prV)]),some (.ref x),some (.tup (A.map PV.int)),some (.tup (B.map PV.int)),some (.ref b),some (.ref f),some (.tup (M.map PV.int)),some (.bl b1),some (.bl b2),z4] (put H6 f (.lst (l++[.tup (M.map PV.int)])))) (N [some (.tup [.int c,.tup (ts.map prV),.tup (bs.map prV)]),some (.ref x),some (.tup (A.map PV.int)),some (.tup (B.map PV.int)),some (.ref b),some (.ref f),some (.tup (M.map PV.int)),some (.bl b1),some (.bl b2),z4] H6):=fun H6 s6 r6 b6 f6=>by
    refine aY (fun q=>⟨⟨_,f6⟩,_,f6,aS (by rw[kb];have:=lb (dFr c ts bs A B);omega),kk _ _ ⟨_,_,_,_,rfl,s6.put hf0,(aq nfr.symm).trans r6,(aq nbf).trans b6,?_⟩⟩) (fun q=>kk _ _ ⟨_,_,_,_,rfl,s6,r6,b6,?_⟩)
    ·rw[ah,fil _ _ d2,IZ q,IP];rfl
    ·rw[fil _ _ d2,IX (by rw[q];decide),Ji];exact f6
   subst hR1;refine aj fun R1 hR1=>?_;ac_rfl;refine aY (fun q=>⟨⟨_,eb⟩,_,eb,aS (by rw[kb];have:=lb (dBk ts bs A B);omega),?_⟩) (fun q=>?_)
   ·subst hR1;ac_rfl;refine last _ (s5.put hb0) ((aq nbr.symm).trans er5) ?_ ((aq nbf.symm).trans ef);rw[ah,fil _ _ d1,IZ q,IP];rfl
   ·subst hR1;ac_rfl;refine last _ s5 er5 ?_ ef;rw[fil _ _ d1,IX (by rw[q];decide),Ji];exact eb
  rintro σ H5 ⟨z1,z2,z3,z4,rfl,s5,er5,eb,ef⟩;refine⟨er5,?_⟩;rw[kb,Jv]at eb ef;have fl64:∀{d:List Int->Bool},(L.filter d).length≤64:=fun {d}=>Jl (JD _ _) (by omega);have fl6:∀{d:List Int->Bool},∀M∈L.filter d,M.length≤6:=fun {d} M hM=>ml6 M (Jm.mp hM).1;clear er5 er hr nbr nfr s34 e3 f3 a3 s3 e2 f2 s2 e1 s1;dsimp only;right;refine⟨c,ts,bs,A,B,⟨dx,s5 _ _ hx⟩,ok,rfl,rfl,ap,s5 _ _ tb,fun r1 L1 hr1 al1=>?_⟩;have e:=al1.one al;subst e;have hn1:=s5.free hr1;have nb1:=av eb hr1;have nf1:=av ef hr1;have s6:=s5.put (o:=.lst ((My.least (dBk ts bs A B) L1).map tI)) hn1;have eb6:=(aq (o:=.lst ((My.least (dBk ts bs A B) L1).map tI)) nb1).trans eb;have ef6:=(aq (o:=.lst ((My.least (dBk ts bs A B) L1).map tI)) nf1).trans ef;have er6:put H5 r1 (.lst ((My.least (dBk ts bs A B) L1).map tI)) r1=some (.lst ((My.least (dBk ts bs A B) L1).map tI)):=ah;generalize put H5 r1 (.lst ((My.least (dBk ts bs A B) L1).map tI))=H6 at *;clear s5 eb ef;right;refine⟨_,eb6,fl64,fl6,fun r2 H7 hr2 s7 er2=>⟨fX (n:=0) (s7 _ _ er6) (by rw[er2,eS]) (d8 l16) (fun M hM=>ml6 M (fU hM)),?_⟩⟩;have s8:=s6.trans s7;have eb8:=s7 _ _ eb6;have ef8:=s7 _ _ ef6;have er8:=s7 _ _ er6;clear s6 s7 eb6 ef6 er6 hr2 er2;right;refine⟨_,er8,?_⟩;have s5:=s8.put (o:=.lst []) hn1;have eb:=(aq (o:=.lst []) nb1).trans eb8;have ef:=(aq (o:=.lst []) nf1).trans ef8;generalize put H7 r1 (.lst [])=H5 at *;clear s8 eb8 ef8 er8 hr1;right;refine⟨c,ts,bs,A,B,⟨dx,s5 _ _ hx⟩,ok,rfl,rfl,ap,s5 _ _ tb,fun r1 L1 hr1 al1=>?_⟩;have e:=al1.one al;subst e;have s6:=s5.put (o:=.lst ((My.least (dBk ts bs A B) L1).map tI)) (s5.free hr1);have eb6:=(aq (o:=.lst ((My.least (dBk ts bs A B) L1).map tI)) (av eb hr1)).trans eb;have ef6:=(aq (o:=.lst ((My.least (dBk ts bs A B) L1).map tI)) (av ef hr1)).trans ef;have er6:put H5 r1 (.lst ((My.least (dBk ts bs A B) L1).map tI)) r1=some (.lst ((My.least (dBk ts bs A B) L1).map tI)):=ah;generalize put H5 r1 (.lst ((My.least (dBk ts bs A B) L1).map tI))=H6 at *;clear s5 eb ef hr1;refine⟨_,eb6,fl64,fl6,fun r2 H5 hr2 s7 er2=>⟨fX (n:=0) (s7 _ _ er6) (by rw[er2,eS]) (d8 l16) (fun M hM=>ml6 M (fU hM)),?_⟩⟩;have s5:=s6.trans s7;have eb:=s7 _ _ eb6;have ef:=s7 _ _ ef6;clear s6 s7 eb6 ef6 er6 hr2 er2;right;refine⟨c,ts,bs,A,B,⟨dx,s5 _ _ hx⟩,ok,rfl,rfl,ap,s5 _ _ tb,fun r1 L1 hr1 al1=>?_⟩;have e:=al1.one al;subst e;have hn1:=s5.free hr1;have nb1:=av eb hr1;have nf1:=av ef hr1;have s6:=s5.put (o:=.lst ((My.least (dFr c ts bs A B) L1).map tI)) hn1;have eb6:=(aq (o:=.lst ((My.least (dFr c ts bs A B) L1).map tI)) nb1).trans eb;have ef6:=(aq (o:=.lst ((My.least (dFr c ts bs A B) L1).map tI)) nf1).trans ef;have er6:put H5 r1 (.lst ((My.least (dFr c ts bs A B) L1).map tI)) r1=some (.lst ((My.least (dFr c ts bs A B) L1).map tI)):=ah;generalize put H5 r1 (.lst ((My.least (dFr c ts bs A B) L1).map tI))=H6 at *;clear s5 eb ef;right;refine⟨_,ef6,fl64,fl6,fun r2 H7 hr2 s7 er2=>⟨fX (n:=0) (s7 _ _ er6) (by rw[er2,eS]) (d8 l16) (fun M hM=>ml6 M (fU hM)),?_⟩⟩;have s8:=s6.trans s7;have eb8:=s7 _ _ eb6;have ef8:=s7 _ _ ef6;have er8:=s7 _ _ er6;clear s6 s7 eb6 ef6 er6 hr2 er2;right;refine⟨_,er8,?_⟩;have s5:=s8.put (o:=.lst []) hn1;have eb:=(aq (o:=.lst []) nb1).trans eb8;have ef:=(aq (o:=.lst []) nf1).trans ef8;generalize put H7 r1 (.lst [])=H5 at *;clear s8 eb8 ef8 er8 hr1;subst hR;ac_rfl;refine⟨c,ts,bs,A,B,⟨dx,s5 _ _ hx⟩,ok,rfl,rfl,ap,s5 _ _ tb,fun r1 L1 hr1 al1=>?_⟩;have e:=al1.one al;subst e;have s6:=s5.put (o:=.lst ((My.least (dFr c ts bs A B) L1).map tI)) (s5.free hr1);have eb6:=(aq (o:=.lst ((My.least (dFr c ts bs A B) L1).map tI)) (av eb hr1)).trans eb;have ef6:=(aq (o:=.lst ((My.least (dFr c ts bs A B) L1).map tI)) (av ef hr1)).trans ef;have er6:put H5 r1 (.lst ((My.least (dFr c ts bs A B) L1).map tI)) r1=some (.lst ((My.least (dFr c ts bs A B) L1).map tI)):=ah;generalize put H5 r1 (.lst ((My.least (dFr c ts bs A B) L1).map tI))=H6 at *;clear s5 eb ef hr1;refine⟨_,ef6,fl64,fl6,fun r2 H5 hr2 s7 er2=>⟨fX (n:=0) (s7 _ _ er6) (by rw[er2,eS]) (d8 l16) (fun M hM=>ml6 M (fU hM)),?_⟩⟩;have s5:=s6.trans s7;have eb:=s7 _ _ eb6;have ef:=s7 _ _ ef6;clear s6 s7 eb6 ef6 er6 hr2 er2;exact⟨H,s5,h⟩
 ·exact h.elim
theorem HQ(T:Tx K mg t)(hB:dS mg base):aK P w K mg base CX0 15 t.a_yj t.d_yj ["_law_script"] (uo t.a_B lx yz):=by
 refine okU (k:=14) T.F_yj ij (fun vs H Q E h=>by
  unfold uo at h;split at h
  ·rfl
  ·exact h.elim) (fun cdv A outer s H E B hr=>⟨_,(af (sN 1 ij.nd (cR ar (cM (au (ES T) hr.mo rfl T.g_zB T.F_zB.kp T.B_zB (aa (qv 0) (aa ar ae))) ar)))
  (af (sN 2 ij.nd (au (G9 T) hr.mo rfl T.g_zy T.F_zy.kp T.B_zy (aa (qv 0) (aa ar (aa (qv 1) ae)))))
  (af (sN 3 ij.nd (lK T.mk_A (Dl T) hr.mo rfl T.g_A T.B_zs (aa (qv 1) (aa (aL bM dI rfl T.b_list K7 (aa (iX (qv 2) ar) ae)) (aa (aL bM dI rfl T.b_list K7 (aa (iX (qv 2) ar) ae)) ae)))))
  (af (bz Jk rfl (aI (cx (bh (aa ar ae)) (jx (qv 0) (eh ar) (eh ar)))) (gN 4 ij.nd)
  (af (lj (au (CL T) hr.mo rfl T.g_zw T.F_zw.kp T.B_zw (aa (au (CL T) hr.mo rfl T.g_zw T.F_zw.kp T.B_zw (aa (au (E9 T) hr.mo rfl T.g_zP T.F_zP.kp T.B_zP (aa (qv 4) (aa (qv 1) (aa ar ae)))) (aa ar ae))) (aa ar ae))) (BL (n:=3) rfl (aX (gN 5 ij.nd) (aX (gN 6 ij.nd) (aX (gN 7 ij.nd) cu)))))
   (ak (aN (ba (cc (cN fb fe (aw ay aU rfl T.b_len Jf (aa (qv 5) ae)) ar) (bQ (bO (aQ (au (FW T hB) hr.mo rfl T.g_zk T.F_zk.kp T.B_zk (aa (qv 2) (aa (qv 3) (aa (qv 5) (aa (qv 6) ae))))))))))
   (ak (az bA))
   aB))))
  (ak (az bA)))))),?_⟩)
 intro vs H Q E h;unfold uo at h;split at h
 ·rename_i l;obtain⟨ns,rfl,hl,tb,h⟩:=h;left;refine⟨⟨by decide,by decide⟩,ns,rfl,by decide,?_⟩;have hc:=fm (a:=ns.getD (Int.toNat 0) 0) (b:=5) (by decide);generalize hcc:2+(ns.getD (Int.toNat 0) 0).fmod 5=c at *;have c2:2≤c/\c≤6:=by omega
  right;refine⟨⟨by decide,by decide⟩,⟨by omega,c2.2⟩,ns,rfl,fun ts bs ok=>?_⟩;subst hR;unfold shp;left;intro p5 hp5;refine fun p6 hp6 x dx hx hdx nd=>?_;have n56:p5≠p6:=fun e=>by subst e;rw[ah]at hp6;cases hp6
  have sa:=(Sub.refl H).put (o:=.lst (ts.map prV)) hp5;have sb:=sa.put (o:=.lst (bs.map prV)) (sa.free hp6);have i1:put (put H p5 (.lst (ts.map prV))) p6 (.lst (bs.map prV)) p5=some (.lst (ts.map prV)):=(aq n56).trans ah;have i2:put (put H p5 (.lst (ts.map prV))) p6 (.lst (bs.map prV)) p6=some (.lst (bs.map prV)):=ah;generalize put (put H p5 (.lst (ts.map prV))) p6 (.lst (bs.map prV))=H6 at *;have sc:=(Sub.refl H6).put (o:=.ins t.a_A dx []) hx;refine⟨dx,_,_,ts,bs,rfl,sc _ _ i1,sc _ _ i2,dm,dm,ok.gt,ok.gb,⟨by omega,c2.2,ok.b6⟩,fun T1 B1 pT sT pB sB=>?_⟩;rw[aD];have eT:=DM.eJ (Kn _) ok.st pT sT;have eB:=DM.eJ (Kn _) ok.sb pB sB;subst eT;subst eB;have sd:=sb.put (o:=.ins t.a_A dx (DF c ts bs)) (sb.free hx);have x3:put H6 x (.ins t.a_A dx (DF c ts bs)) x=some (.ins t.a_A dx (DF c ts bs)):=ah;generalize put H6 x (.ins t.a_A dx (DF c ts bs))=H7 at *;right;obtain⟨m,em,lm⟩:=m4 ns (some 2) (some 6);rw[em];refine⟨ao (by decide),fun p1 hp1 p2 hp2=>⟨_,_,(aq (fun e=>by subst e;rw[ah]at hp2;cases hp2)).trans ah,rfl,ao (by rw[kb];simp;omega),fun p3 hp3=>?_⟩⟩;have ei:[PV.int 0]++m.map PV.int=([0]++m).map PV.int:=by rw[IP];rfl
  rw[ei];have q1:=((Sub.refl H7).put (o:=.lst [PV.int 0]) hp1);have q2:=q1.put (o:=.lst (m.map PV.int)) (q1.free hp2);have q3:=q2.put (o:=.lst (([0]++m).map PV.int)) (q2.free hp3);have x8:=q3 _ _ x3;have e8:put (put (put H7 p1 (.lst [PV.int 0])) p2 (.lst (m.map PV.int))) p3 (.lst (([0]++m).map PV.int)) p3=some (.lst (([0]++m).map PV.int)):=ah;have t3:=sd.trans q3;generalize put (put (put H7 p1 (.lst [PV.int 0])) p2 (.lst (m.map PV.int))) p3 (.lst (([0]++m).map PV.int))=H8 at *;refine bR (fun i σ H9=>∃z1 z2 z3 z4,σ=[some (.fls (ns.map PV.int)),some (.int c),some (.tup [.int c,.tup (ts.map prV),.tup (bs.map prV)]),some (.ref x),z1,z2,z3,z4]/\U.Sub H8 H9) ?_ ?_ ⟨none,none,none,none,rfl,Sub.refl _⟩
  ·rintro σ H9 ⟨z1,z2,z3,z4,rfl,s9⟩;refine⟨s9 _ _ e8,?_⟩;subst hR;ac_rfl;exact⟨H,t3.trans s9,h⟩
  ·rintro N i y σ H9 hy ⟨z1,z2,z3,z4,rfl,s9⟩ kk;refine⟨s9 _ _ e8,?_⟩;obtain⟨u,hu,rfl⟩:=IF.mp (Ja hy);refine aj fun R1 hR1=>?_;ac_rfl;refine⟨⟨by omega,c2.2⟩,⟨by decide,by decide⟩,fun r1 Ha L1 _ sa1 er1 pt1=>?_⟩;have pt1:Pt 3 c L1:=pt1;refine⟨3,c,L1,er1,pt1,⟨by omega,c2.2⟩,by decide,⟨by decide,by decide⟩,fun r2 Hb L2 sb1 er2 pt2 _=>?_⟩;refine⟨3,c,L2,er2,pt2,⟨by omega,c2.2⟩,by decide,⟨by decide,by decide⟩,fun r3 Hc L3 sc1 er3 pt3 ne1=>?_⟩;obtain⟨A,B,W,rfl⟩:∃A B W,L3=[A,B,W]:=by
    have:=pt3.len
    match L3,this with
    | [A,B,W],_=>exact⟨A,B,W,rfl⟩
   refine⟨_,er3,rfl,?_⟩;have s10:=s9.trans (sa1.trans (sb1.trans sc1));have nb:B≠[]:=fun e=>ne1 (by rw[e];rfl);have nm:=pt3.nms;have nd3:(A++(B++(W++[]))).Nodup:=pt3.pm.nodup_iff.mpr (gM ⟨jZ c,fun x hx=>b9.mp hx⟩);unfold tupI;ac_rfl;subst hR1;ac_rfl;rw[kb];by_cases na:A=[]
   ·exact aA (by rw[na];rfl) (kk _ _ ⟨_,_,_,_,rfl,s10⟩)
   ·have ap:Ap c A B []:=⟨nm A (by simp),nm B (by simp),qh,by
     refine nd3.sublist (Ko (Ko ?_ B) A);exact List.nil_sublist _,na,nb⟩
    have:=List.length_pos_iff.mpr na;refine aG (JE (by omega)) ⟨c,ts,bs,A,B,rfl,⟨dx,s10 _ _ x8⟩,ok,rfl,rfl,ap,s10 _ _ (t3 _ _ tb),?_⟩;exact kk _ _ ⟨_,_,_,_,rfl,s10⟩
 ·exact h.elim
end
theorem jK(h:∀a,bindArgs fd ⟨[a],[]⟩=pure (List.zip ps [a]))(us:List Value)(hl:us.length=1):bindArgs fd ⟨us,[]⟩=pure (List.zip ps us):=E6 (P:=fun us=>bindArgs fd ⟨us,[]⟩=pure (List.zip ps us)) h us hl
theorem cD(h:∀a b,bindArgs fd ⟨[a,b],[]⟩=pure (List.zip ps [a,b]))(us:List Value)(hl:us.length=2):bindArgs fd ⟨us,[]⟩=pure (List.zip ps us):=DX (P:=fun us=>bindArgs fd ⟨us,[]⟩=pure (List.zip ps us)) h us hl
theorem jG(h:∀a b c,bindArgs fd ⟨[a,b,c],[]⟩=pure (List.zip ps [a,b,c]))(us:List Value)(hl:us.length=3):bindArgs fd ⟨us,[]⟩=pure (List.zip ps us):=Dh (P:=fun us=>bindArgs fd ⟨us,[]⟩=pure (List.zip ps us)) h us hl
theorem fk(h:∀a b c d,bindArgs fd ⟨[a,b,c,d],[]⟩=pure (List.zip ps [a,b,c,d]))(us:List Value)(hl:us.length=4):bindArgs fd ⟨us,[]⟩=pure (List.zip ps us):=GV (P:=fun us=>bindArgs fd ⟨us,[]⟩=pure (List.zip ps us)) h us hl
open PySem.W in
theorem oA{K:Frag}{h:Heap}{mg:Str->Option Value}{f_ye f_zO f_yf f_zA f_yc f_zs f_zc f_zf f_zg f_zb f_zd f_za f_zm f_zr f_zh f_zN f_zJ f_zv f_zx f_zi f_zL f_zM f_zX f_yb f_zR f_zp f_zI f_zC f_zt f_zl f_zz f_zS f_yg f_zq f_ze f_zn f_zD f_zj f_zE f_zK f_zF f_zB f_zW f_zy f_zU f_zT f_yd f_zu f_zH f_zZ f_zP f_zw f_zY f_zV f_zG f_ya f_zQ f_zk f_yj k_A c_B:Addr}(a_B:Addr)(X:K.In h)(G:h.Ns mainGlobals mg)
  {d_ye d_zO d_yf d_zA d_yc d_zs d_zc d_zf d_zg d_zb d_zd d_za d_zm d_zr d_zh d_zN d_zJ d_zv d_zx d_zi d_zL d_zM d_zX d_yb d_zR d_zp d_zI d_zC d_zt d_zl d_zz d_zS d_yg d_zq d_ze d_zn d_zD d_zj d_zE d_zK d_zF d_zB d_zW d_zy d_zU d_zT d_yd d_zu d_zH d_zZ d_zP d_zw d_zY d_zV d_zG d_ya d_zQ d_zk d_yj:FuncData}
  {tk_MOST_BOWS tk_MOST_NAMES:Tok}
  (C_A:nX1 K "Drawing" k_A)
  (a_ye:nX1 K "is_pair" f_ye)
  (l_ye:Fun K "is_pair" "is_pair" AO f_ye d_ye)
  (a_zO:nX1 K "are_pairs" f_zO)
  (l_zO:Fun K "are_pairs" "are_pairs" xO f_zO d_zO)
  (a_yf:nX1 K "is_set" f_yf)
  (l_yf:Fun K "is_set" "is_set" zH f_yf d_yf)
  (a_zA:nX1 K "names_up_to" f_zA)
  (l_zA:Fun K "names_up_to" "names_up_to" zR f_zA d_zA)
  (a_yc:nX1 K "without" f_yc)
  (l_yc:Fun K "without" "without" xP f_yc d_yc)
  (a_zs:fX1 K k_A "__init__" f_zs)
  (i_zs:isFn K (.ref f_zs)=true)
  (l_zs:Fun K "__init__" "Drawing.__init__" oR f_zs d_zs)
  (a_zc:fX1 K k_A "need_name" f_zc)
  (i_zc:isFn K (.ref f_zc)=true)
  (l_zc:Fun K "need_name" "Drawing.need_name" zW f_zc d_zc)
  (a_zf:fX1 K k_A "need_set" f_zf)
  (i_zf:isFn K (.ref f_zf)=true)
  (l_zf:Fun K "need_set" "Drawing.need_set" z0 f_zf d_zf)
  (a_zg:fX1 K k_A "sources" f_zg)
  (i_zg:isFn K (.ref f_zg)=true)
  (l_zg:Fun K "sources" "Drawing.sources" wx f_zg d_zg)
  (a_zb:fX1 K k_A "followers" f_zb)
  (i_zb:isFn K (.ref f_zb)=true)
  (l_zb:Fun K "followers" "Drawing.followers" wX f_zb d_zb)
  (a_zd:fX1 K k_A "ancestors" f_zd)
  (i_zd:isFn K (.ref f_zd)=true)
  (l_zd:Fun K "ancestors" "Drawing.ancestors" B7 f_zd d_zd)
  (a_za:fX1 K k_A "descendants" f_za)
  (i_za:isFn K (.ref f_za)=true)
  (l_za:Fun K "descendants" "Drawing.descendants" BM f_za d_za)
  (a_zm:fX1 K k_A "bowed" f_zm)
  (i_zm:isFn K (.ref f_zm)=true)
  (l_zm:Fun K "bowed" "Drawing.bowed" sM f_zm d_zm)
  (a_zr:fX1 K k_A "part" f_zr)
  (i_zr:isFn K (.ref f_zr)=true)
  (l_zr:Fun K "part" "Drawing.part" vk f_zr d_zr)
  (a_zh:fX1 K k_A "cut_out" f_zh)
  (i_zh:isFn K (.ref f_zh)=true)
  (l_zh:Fun K "cut_out" "Drawing.cut_out" xI f_zh d_zh)
  (a_zN:nX1 K "need_sets" f_zN)
  (l_zN:Fun K "need_sets" "need_sets" AW f_zN d_zN)
  (a_zJ:nX1 K "need_apart" f_zJ)
  (l_zJ:Fun K "need_apart" "need_apart" zZ f_zJ d_zJ)
  (a_zv:nX1 K "need_barring" f_zv)
  (l_zv:Fun K "need_barring" "need_barring" zG f_zv d_zv)
  (a_zx:nX1 K "points_at_to" f_zx)
  (l_zx:Fun K "points_at_to" "points_at_to" Am f_zx d_zx)
  (a_zi:nX1 K "points_at_from" f_zi)
  (l_zi:Fun K "points_at_from" "points_at_from" A4 f_zi d_zi)
  (a_zL:nX1 K "is_meeting" f_zL)
  (l_zL:Fun K "is_meeting" "is_meeting" zL f_zL d_zL)
  (a_zM:nX1 K "steps_from" f_zM)
  (l_zM:Fun K "steps_from" "steps_from" rM f_zM d_zM)
  (a_zX:nX1 K "names_on" f_zX)
  (l_zX:Fun K "names_on" "names_on" wa f_zX d_zX)
  (a_yb:nX1 K "meetings" f_yb)
  (l_yb:Fun K "meetings" "meetings" wU f_yb d_yb)
  (a_zR:nX1 K "is_passed" f_zR)
  (l_zR:Fun K "is_passed" "is_passed" BS f_zR d_zR)
  (a_zp:nX1 K "asked_beside" f_zp)
  (l_zp:Fun K "asked_beside" "asked_beside" qN f_zp d_zp)
  (a_zI:nX1 K "least_shut" f_zI)
  (l_zI:Fun K "least_shut" "least_shut" wF f_zI d_zI)
  (a_zC:nX1 K "first_roads" f_zC)
  (l_zC:Fun K "first_roads" "first_roads" xH f_zC d_zC)
  (a_zt:nX1 K "longer_roads" f_zt)
  (l_zt:Fun K "longer_roads" "longer_roads" AX f_zt d_zt)
  (a_zl:nX1 K "shortest_road" f_zl)
  (l_zl:Fun K "shortest_road" "shortest_road" ue f_zl d_zl)
  (a_zz:nX1 K "shortest_way" f_zz)
  (l_zz:Fun K "shortest_way" "shortest_way" rN f_zz d_zz)
  (a_zS:nX1 K "ways_down" f_zS)
  (l_zS:Fun K "ways_down" "ways_down" xR f_zS d_zS)
  (a_yg:nX1 K "barred" f_yg)
  (l_yg:Fun K "barred" "barred" yb f_yg d_yg)
  (a_zq:nX1 K "is_back_door" f_zq)
  (l_zq:Fun K "is_back_door" "is_back_door" wO f_zq d_zq)
  (a_ze:nX1 K "stops_roads_down" f_ze)
  (l_ze:Fun K "stops_roads_down" "stops_roads_down" xW f_ze d_ze)
  (a_zn:nX1 K "is_front_door" f_zn)
  (l_zn:Fun K "is_front_door" "is_front_door" BW f_zn d_zn)
  (a_zD:nX1 K "sets_within" f_zD)
  (l_zD:Fun K "sets_within" "sets_within" oI f_zD d_zD)
  (a_zj:nX1 K "has_one_within" f_zj)
  (l_zj:Fun K "has_one_within" "has_one_within" wj f_zj d_zj)
  (a_zE:nX1 K "least_doors" f_zE)
  (l_zE:Fun K "least_doors" "least_doors" Bd f_zE d_zE)
  (a_zK:nX1 K "back_doors" f_zK)
  (l_zK:Fun K "back_doors" "back_doors" zw f_zK d_zK)
  (a_zF:nX1 K "front_doors" f_zF)
  (l_zF:Fun K "front_doors" "front_doors" zt f_zF d_zF)
  (a_zB:nX1 K "_law_cell_at" f_zB)
  (l_zB:Fun K "_law_cell_at" "_law_cell_at" Bo f_zB d_zB)
  (a_zW:nX1 K "_law_mixed" f_zW)
  (l_zW:Fun K "_law_mixed" "_law_mixed" zE f_zW d_zW)
  (a_zy:nX1 K "_law_pairs_of" f_zy)
  (l_zy:Fun K "_law_pairs_of" "_law_pairs_of" Bg f_zy d_zy)
  (a_zU:nX1 K "_law_above" f_zU)
  (l_zU:Fun K "_law_above" "_law_above" Br f_zU d_zU)
  (a_zT:nX1 K "_law_below" f_zT)
  (l_zT:Fun K "_law_below" "_law_below" Bb f_zT d_zT)
  (a_yd:nX1 K "_law_cut" f_yd)
  (l_yd:Fun K "_law_cut" "_law_cut" sO f_yd d_yd)
  (a_zu:nX1 K "_law_asked_by" f_zu)
  (l_zu:Fun K "_law_asked_by" "_law_asked_by" oG f_zu d_zu)
  (a_zH:nX1 K "_law_reached" f_zH)
  (l_zH:Fun K "_law_reached" "_law_reached" wb f_zH d_zH)
  (a_zZ:nX1 K "_law_bars" f_zZ)
  (l_zZ:Fun K "_law_bars" "_law_bars" yo f_zZ d_zZ)
  (a_zP:nX1 K "_law_roles" f_zP)
  (l_zP:Fun K "_law_roles" "_law_roles" vq f_zP d_zP)
  (a_zw:nX1 K "_law_moved_to" f_zw)
  (l_zw:Fun K "_law_moved_to" "_law_moved_to" By f_zw d_zw)
  (a_zY:nX1 K "_law_back" f_zY)
  (l_zY:Fun K "_law_back" "_law_back" xh f_zY d_zY)
  (a_zV:nX1 K "_law_front" f_zV)
  (l_zV:Fun K "_law_front" "_law_front" xj f_zV d_zV)
  (a_zG:nX1 K "_law_sets_of" f_zG)
  (l_zG:Fun K "_law_sets_of" "_law_sets_of" xk f_zG d_zG)
  (a_ya:nX1 K "_law_same" f_ya)
  (l_ya:Fun K "_law_same" "_law_same" Bj f_ya d_ya)
  (a_zQ:nX1 K "_law_least" f_zQ)
  (l_zQ:Fun K "_law_least" "_law_least" ym f_zQ d_zQ)
  (a_zk:nX1 K "_law_doors_hold" f_zk)
  (l_zk:Fun K "_law_doors_hold" "_law_doors_hold" wd f_zk d_zk)
  (a_yj:nX1 K "law" f_yj)
  (l_yj:Fun K "law" "law" BK f_yj d_yj)
  (pg_A:plainGet K k_A Str.empty=true)
  (hd_A:hasDictIn K k_A=true)
  (po_A:plainOver K k_A=true)
  (sa_A:findIn K (.ref k_A) "__setattr__"=some (some (.builtin "object.__setattr__")))
  (mk_A:makesIn K k_A=true)
  (kc_A:keepIn K (.ref k_A)=true)
  (z_all:nX2 K "all")
  (z_any:nX2 K "any")
  (z_bool:nX2 K "bool")
  (z_int:nX2 K "int")
  (z_isinstance:nX2 K "isinstance")
  (z_len:nX2 K "len")
  (z_list:nX2 K "list")
  (z_range:nX2 K "range")
  (z_reversed:nX2 K "reversed")
  (z_set:nX2 K "set")
  (z_sorted:nX2 K "sorted")
  (z_str:nX2 K "str")
  (z_tuple:nX2 K "tuple")
  (z_zip:nX2 K "zip")
  (v_MOST_BOWS:nsIn K mainGlobals "MOST_BOWS"=some (some (.int 6 tk_MOST_BOWS)))
  (v_MOST_NAMES:nsIn K mainGlobals "MOST_NAMES"=some (some (.int 6 tk_MOST_NAMES)))
  (nA_bows:findIn K (.ref k_A) "bows"=some none)
  (nA_count:findIn K (.ref k_A) "count"=some none)
  (nA_ties:findIn K (.ref k_A) "ties"=some none)
  (hcode:d_zD.code=.ref c_B)
  (hhd:codeHdIn K c_B a_B=true) :
  ∃t:Ad,Tx K mg t/\(t.a_yj=f_yj/\t.a_B=a_B)/\∀(s:Shared) (v:Value),BindsTo s t.d_yj ⟨[v],[]⟩ [("_law_script",v)]:=by
 obtain⟨oc,od,kV,doc,pm,an,cdv,ct,osl,rfl,lk,hcd⟩:=l_yj.ex;exact⟨⟨f_ye,_,f_zO,_,f_yf,_,f_zA,_,f_yc,_,f_zs,_,f_zc,_,f_zf,_,f_zg,_,f_zb,_,f_zd,_,f_za,_,f_zm,_,f_zr,_,f_zh,_,f_zN,_,f_zJ,_,f_zv,_,f_zx,_,f_zi,_,f_zL,_,f_zM,_,f_zX,_,f_yb,_,f_zR,_,f_zp,_,f_zI,_,f_zC,_,f_zt,_,f_zl,_,f_zz,_,f_zS,_,f_yg,_,f_zq,_,f_ze,_,f_zn,_,f_zD,_,f_zj,_,f_zE,_,f_zK,_,f_zF,_,f_zB,_,f_zW,_,f_zy,_,f_zU,_,f_zT,_,f_yd,_,f_zu,_,f_zH,_,f_zZ,_,f_zP,_,f_zw,_,f_zY,_,f_zV,_,f_zG,_,f_ya,_,f_zQ,_,f_zk,_,f_yj,_,k_A,a_B,c_B⟩,⟨l_ye,
  l_ye.binds fun _ _ _ _ _ _=>cD fun _ _=>rfl,
  mg_of X G a_ye,
  l_zO,
  l_zO.binds fun _ _ _ _ _ _=>cD fun _ _=>rfl,
  mg_of X G a_zO,
  l_yf,
  l_yf.binds fun _ _ _ _ _ _=>cD fun _ _=>rfl,
  mg_of X G a_yf,
  l_zA,
  l_zA.binds fun _ _ _ _ _ _=>jK fun _=>rfl,
  mg_of X G a_zA,
  l_yc,
  l_yc.binds fun _ _ _ _ _ _=>cD fun _ _=>rfl,
  mg_of X G a_yc,
  l_zs,
  l_zs.binds fun _ _ _ _ _ _=>fk fun _ _ _ _=>rfl,
  l_zc,
  l_zc.binds fun _ _ _ _ _ _=>cD fun _ _=>rfl,
  ⟨a_zc,i_zc,l_zc.kp⟩,
  l_zf,
  l_zf.binds fun _ _ _ _ _ _=>cD fun _ _=>rfl,
  ⟨a_zf,i_zf,l_zf.kp⟩,
  l_zg,
  l_zg.binds fun _ _ _ _ _ _=>cD fun _ _=>rfl,
  ⟨a_zg,i_zg,l_zg.kp⟩,
  l_zb,
  l_zb.binds fun _ _ _ _ _ _=>cD fun _ _=>rfl,
  ⟨a_zb,i_zb,l_zb.kp⟩,
  l_zd,
  l_zd.binds fun _ _ _ _ _ _=>cD fun _ _=>rfl,
  ⟨a_zd,i_zd,l_zd.kp⟩,
  l_za,
  l_za.binds fun _ _ _ _ _ _=>cD fun _ _=>rfl,
  ⟨a_za,i_za,l_za.kp⟩,
  l_zm,
  l_zm.binds fun _ _ _ _ _ _=>cD fun _ _=>rfl,
  ⟨a_zm,i_zm,l_zm.kp⟩,
  l_zr,
  l_zr.binds fun _ _ _ _ _ _=>cD fun _ _=>rfl,
  ⟨a_zr,i_zr,l_zr.kp⟩,
  l_zh,
  l_zh.binds fun _ _ _ _ _ _=>cD fun _ _=>rfl,
  ⟨a_zh,i_zh,l_zh.kp⟩,
  l_zN,
  l_zN.binds fun _ _ _ _ _ _=>cD fun _ _=>rfl,
  mg_of X G a_zN,
  l_zJ,
  l_zJ.binds fun _ _ _ _ _ _=>jK fun _=>rfl,
  mg_of X G a_zJ,
  l_zv,
  l_zv.binds fun _ _ _ _ _ _=>fk fun _ _ _ _=>rfl,
  mg_of X G a_zv,
  l_zx,
  l_zx.binds fun _ _ _ _ _ _=>jK fun _=>rfl,
  mg_of X G a_zx,
  l_zi,
  l_zi.binds fun _ _ _ _ _ _=>jK fun _=>rfl,
  mg_of X G a_zi,
  l_zL,
  l_zL.binds fun _ _ _ _ _ _=>cD fun _ _=>rfl,
  mg_of X G a_zL,
  l_zM,
  l_zM.binds fun _ _ _ _ _ _=>cD fun _ _=>rfl,
  mg_of X G a_zM,
  l_zX,
  l_zX.binds fun _ _ _ _ _ _=>jK fun _=>rfl,
  mg_of X G a_zX,
  l_yb,
  l_yb.binds fun _ _ _ _ _ _=>jK fun _=>rfl,
  mg_of X G a_yb,
  l_zR,
  l_zR.binds fun _ _ _ _ _ _=>fk fun _ _ _ _=>rfl,
  mg_of X G a_zR,
  l_zp,
  l_zp.binds fun _ _ _ _ _ _=>fk fun _ _ _ _=>rfl,
  mg_of X G a_zp,
  l_zI,
  l_zI.binds fun _ _ _ _ _ _=>jG fun _ _ _=>rfl,
  mg_of X G a_zI,
  l_zC,
  l_zC.binds fun _ _ _ _ _ _=>cD fun _ _=>rfl,
  mg_of X G a_zC,
  l_zt,
  l_zt.binds fun _ _ _ _ _ _=>jG fun _ _ _=>rfl,
  mg_of X G a_zt,
  l_zl,
  l_zl.binds fun _ _ _ _ _ _=>fk fun _ _ _ _=>rfl,
  mg_of X G a_zl,
  l_zz,
  l_zz.binds fun _ _ _ _ _ _=>jG fun _ _ _=>rfl,
  mg_of X G a_zz,
  l_zS,
  l_zS.binds fun _ _ _ _ _ _=>jG fun _ _ _=>rfl,
  mg_of X G a_zS,
  l_yg,
  l_yg.binds fun _ _ _ _ _ _=>fk fun _ _ _ _=>rfl,
  mg_of X G a_yg,
  l_zq,
  l_zq.binds fun _ _ _ _ _ _=>fk fun _ _ _ _=>rfl,
  mg_of X G a_zq,
  l_ze,
  l_ze.binds fun _ _ _ _ _ _=>fk fun _ _ _ _=>rfl,
  mg_of X G a_ze,
  l_zn,
  l_zn.binds fun _ _ _ _ _ _=>fk fun _ _ _ _=>rfl,
  mg_of X G a_zn,
  l_zD,
  l_zD.binds fun _ _ _ _ _ _=>jK fun _=>rfl,
  mg_of X G a_zD,
  l_zj,
  l_zj.binds fun _ _ _ _ _ _=>cD fun _ _=>rfl,
  mg_of X G a_zj,
  l_zE,
  l_zE.binds fun _ _ _ _ _ _=>fk fun _ _ _ _=>rfl,
  mg_of X G a_zE,
  l_zK,
  l_zK.binds fun _ _ _ _ _ _=>jG fun _ _ _=>rfl,
  mg_of X G a_zK,
  l_zF,
  l_zF.binds fun _ _ _ _ _ _=>jG fun _ _ _=>rfl,
  mg_of X G a_zF,
  l_zB,
  l_zB.binds fun _ _ _ _ _ _=>cD fun _ _=>rfl,
  mg_of X G a_zB,
  l_zW,
  l_zW.binds fun _ _ _ _ _ _=>cD fun _ _=>rfl,
  mg_of X G a_zW,
  l_zy,
  l_zy.binds fun _ _ _ _ _ _=>jG fun _ _ _=>rfl,
  mg_of X G a_zy,
  l_zU,
  l_zU.binds fun _ _ _ _ _ _=>cD fun _ _=>rfl,
  mg_of X G a_zU,
  l_zT,
  l_zT.binds fun _ _ _ _ _ _=>cD fun _ _=>rfl,
  mg_of X G a_zT,
  l_yd,
  l_yd.binds fun _ _ _ _ _ _=>jG fun _ _ _=>rfl,
  mg_of X G a_yd,
  l_zu,
  l_zu.binds fun _ _ _ _ _ _=>fk fun _ _ _ _=>rfl,
  mg_of X G a_zu,
  l_zH,
  l_zH.binds fun _ _ _ _ _ _=>jG fun _ _ _=>rfl,
  mg_of X G a_zH,
  l_zZ,
  l_zZ.binds fun _ _ _ _ _ _=>fk fun _ _ _ _=>rfl,
  mg_of X G a_zZ,
  l_zP,
  l_zP.binds fun _ _ _ _ _ _=>jG fun _ _ _=>rfl,
  mg_of X G a_zP,
  l_zw,
  l_zw.binds fun _ _ _ _ _ _=>cD fun _ _=>rfl,
  mg_of X G a_zw,
  l_zY,
  l_zY.binds fun _ _ _ _ _ _=>fk fun _ _ _ _=>rfl,
  mg_of X G a_zY,
  l_zV,
  l_zV.binds fun _ _ _ _ _ _=>fk fun _ _ _ _=>rfl,
  mg_of X G a_zV,
  l_zG,
  l_zG.binds fun _ _ _ _ _ _=>jK fun _=>rfl,
  mg_of X G a_zG,
  l_ya,
  l_ya.binds fun _ _ _ _ _ _=>cD fun _ _=>rfl,
  mg_of X G a_ya,
  l_zQ,
  l_zQ.binds fun _ _ _ _ _ _=>jK fun _=>rfl,
  mg_of X G a_zQ,
  l_zk,
  l_zk.binds fun _ _ _ _ _ _=>fk fun _ _ _ _=>rfl,
  mg_of X G a_zk,
  l_yj,
  l_yj.binds fun _ _ _ _ _ _=>jK fun _=>rfl,
  mg_of X G a_yj,
  mg_of X G C_A,
  ⟨pg_A,hd_A,po_A,sa_A⟩,
  ⟨mk_A,a_zs,i_zs,kc_A⟩,
  mg_none_of X G z_all,
  mg_none_of X G z_any,
  mg_none_of X G z_bool,
  mg_none_of X G z_int,
  mg_none_of X G z_isinstance,
  mg_none_of X G z_len,
  mg_none_of X G z_list,
  mg_none_of X G z_range,
  mg_none_of X G z_reversed,
  mg_none_of X G z_set,
  mg_none_of X G z_sorted,
  mg_none_of X G z_str,
  mg_none_of X G z_tuple,
  mg_none_of X G z_zip,
  ⟨_,mg_of X G v_MOST_BOWS,⟨_,rfl⟩⟩,
  ⟨_,mg_of X G v_MOST_NAMES,⟨_,rfl⟩⟩,
  nA_bows,
  nA_count,
  nA_ties,
  hhd,hcode⟩,⟨rfl,rfl⟩,fun s v=>.of_eq rfl⟩
theorem Ct{K:PySem.W.Frag}(h:∃t:Ad,Tx K mg t/\(t.a_yj=f/\t.a_B=T)/\∀(s:Shared) (v:Value),BindsTo s t.d_yj ⟨[v],[]⟩ [(x,v)])(e:mg "law"=some (.ref f)) :
  ∃t:Ad,Tx K mg t/\mg "law"=some (.ref t.a_yj)/\t.a_B=T/\∀(s:Shared) (v:Value),BindsTo s t.d_yj ⟨[v],[]⟩ [(x,v)]:=by
 obtain⟨t,X,⟨rfl,q⟩,b⟩:=h;exact⟨t,X,e,q,b⟩
end Lw
end
open PySem PySem.W PyProof.Rows
set_option maxRecDepth 100000 in
set_option maxHeartbeats 0 in
theorem PySem.Challenge.cw_doingbook_k71_doors_holds : PySem.Challenge.rw_doingbook_k71_doors.Holds := by
 w_on;o_law;k_head;(case hw=>w_witness2)
 k_fill
 refine L2.vc 352 350 (l:=PySem.Challenge.rw_doingbook_k71_doors) (n:=63) (k:=15) (x:="_law_script") (CX:=L2.CX0) (sp:=fun T K=>U.fM K (U.uo T Lw.lx Lw.yz)) rfl (by decide) rfl ⟨rfl,by decide,by decide⟩ (fun w h Y=>PySem.W.km_in_of Y) (fun w h Y=>PySem.W.km_tabs_of Y 350 List.mem_cons_self) (fun p=>by kernel_rfl) (fun p=>by kernel_rfl) ?F (fun K H a ns hl hO hS=>U.nW hl hO hS) (fun _ _ _ _ z=>z)
 case F =>
  intro w mg fa h KX G hmg;have T:∃t:Lw.Ad,Lw.Tx (L2.KOf KX) mg t/\mg "law"=some (.ref t.a_yj)/\t.a_B=350/\∀(s:Shared) (v:Value),BindsTo s t.d_yj ⟨[v],[]⟩ [("_law_script",v)]:=by
   dsimp only[L2.KOf];refine' Lw.Ct (Lw.oA 350 KX G ?C_A ?a_ye ?l_ye ?a_zO ?l_zO ?a_yf ?l_yf ?a_zA ?l_zA ?a_yc ?l_yc ?a_zs ?i_zs ?l_zs ?a_zc ?i_zc ?l_zc ?a_zf ?i_zf ?l_zf ?a_zg ?i_zg ?l_zg ?a_zb ?i_zb ?l_zb ?a_zd ?i_zd ?l_zd ?a_za ?i_za ?l_za ?a_zm ?i_zm ?l_zm ?a_zr ?i_zr ?l_zr ?a_zh ?i_zh ?l_zh ?a_zN ?l_zN ?a_zJ ?l_zJ ?a_zv ?l_zv ?a_zx ?l_zx ?a_zi ?l_zi ?a_zL ?l_zL ?a_zM ?l_zM ?a_zX ?l_zX ?a_yb ?l_yb ?a_zR ?l_zR ?a_zp ?l_zp ?a_zI ?l_zI ?a_zC ?l_zC ?a_zt ?l_zt ?a_zl ?l_zl ?a_zz ?l_zz ?a_zS ?l_zS ?a_yg ?l_yg ?a_zq ?l_zq ?a_ze ?l_ze ?a_zn ?l_zn ?a_zD ?l_zD ?a_zj ?l_zj ?a_zE ?l_zE ?a_zK ?l_zK ?a_zF ?l_zF ?a_zB ?l_zB ?a_zW ?l_zW ?a_zy ?l_zy ?a_zU ?l_zU ?a_zT ?l_zT ?a_yd ?l_yd ?a_zu ?l_zu ?a_zH ?l_zH ?a_zZ ?l_zZ ?a_zP ?l_zP ?a_zw ?l_zw ?a_zY ?l_zY ?a_zV ?l_zV ?a_zG ?l_zG ?a_ya ?l_ya ?a_zQ ?l_zQ ?a_zk ?l_zk ?a_yj ?l_yj ?pg_A ?hd_A ?po_A ?sa_A ?mk_A ?kc_A ?z_all ?z_any ?z_bool ?z_int ?z_isinstance ?z_len ?z_list ?z_range ?z_reversed ?z_set ?z_sorted ?z_str ?z_tuple ?z_zip ?v_MOST_BOWS ?v_MOST_NAMES ?nA_bows ?nA_count ?nA_ties ?hcode ?hhd) ?tl
   case C_A|a_ye|a_zO|a_yf|a_zA|a_yc|a_zN|a_zJ|a_zv|a_zx|a_zi|a_zL|a_zM|a_zX|a_yb|a_zR|a_zp|a_zI|a_zC|a_zt|a_zl|a_zz|a_zS|a_yg|a_zq|a_ze|a_zn|a_zD|a_zj|a_zE|a_zK|a_zF|a_zB|a_zW|a_zy|a_zU|a_zT|a_yd|a_zu|a_zH|a_zZ|a_zP|a_zw|a_zY|a_zV|a_zG|a_ya|a_zQ|a_zk|a_yj=>delta Lw.nX1;k_is
   case z_all|z_any|z_bool|z_int|z_isinstance|z_len|z_list|z_range|z_reversed|z_set|z_sorted|z_str|z_tuple|z_zip=>delta Lw.nX2;k_is
   case a_zs|a_zc|a_zf|a_zg|a_zb|a_zd|a_za|a_zm|a_zr|a_zh=>delta Lw.fX1;k_is
   case i_zs|i_zc|i_zf|i_zg|i_zb|i_zd|i_za|i_zm|i_zr|i_zh|pg_A|hd_A|po_A|sa_A|mk_A|kc_A|v_MOST_BOWS|v_MOST_NAMES|nA_bows|nA_count|nA_ties=>k_is
   case l_ye|l_zO|l_yf|l_zA|l_yc|l_zs|l_zc|l_zf|l_zg|l_zb|l_zd|l_za|l_zm|l_zr|l_zh|l_zN|l_zJ|l_zv|l_zx|l_zi|l_zL|l_zM|l_zX|l_yb|l_zR|l_zp|l_zI|l_zC|l_zt|l_zl|l_zz|l_zS|l_yg|l_zq|l_ze|l_zn|l_zD|l_zj|l_zE|l_zK|l_zF|l_zB|l_zW|l_zy|l_zU|l_zT|l_yd|l_zu|l_zH|l_zZ|l_zP|l_zw|l_zY|l_zV|l_zG|l_ya|l_zQ|l_zk|l_yj=>apply L2.AY<;>k_is
   (case hcode=>exact rfl)
   case hhd=>kernel_rfl
   (case tl=>exact PySem.W.mg_of KX G (by k_is))
  obtain⟨t,T,e,eT,hb⟩:=T;have e0:=hmg.symm.trans e;cases e0;exact⟨t.d_yj,hb,fun base hB=>by rw[←eT];exact Lw.HQ T hB⟩
