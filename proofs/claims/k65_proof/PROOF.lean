import PyProof.Rows.All
import Wide.All
import OpenK.AllK
import Wide.FinOn
import Lean
import PyProof.EqAt
import PyProof.EqKinds
import PyProof.TupleCall
import PyProof.NeKinds
import PyProof.StationsW
import PyProof.RulesAs
import PyProof.ExcClass2
import PyProof.IsiH_tuple
import PyProof.NsDelKeeps
import PyProof.ConsumeWalk
import PyProof.Rows.SortWalk
import PySem.SetOps
import PySem.Builtin.Tuple.Common
import PyProof.Rows.SetFrom
import PyProof.TupleKey
import PyProof.SetRoads
import KE.KSortTup
import PyProof.DictWalks
import PyProof.FactsAll.set
import PyProof.CollectWalk
import KE.KDictList
import PyProof.Rows.Range3
import KE.KUnpack
import PyProof.Draws
import PyProof.EnumMake
import PyProof.TupleIter
import PyProof.WalksMore
import PyProof.ZipIter
import PyProof.Rows.ZipGen
import PyProof.SumAny
import PyProof.ListRange
import PyProof.TupleOfStr
import KE.KRevIter
import PyProof.CollectIter
import PyProof.Rows.Tup
import PySem.Challenge.RW_doingbook_k65_statements_refused
set_option Elab.async false
namespace PySem.W.Fast
def tw10158842043005780326:=()
def tw8852861173612782937:=()
def tw6668376853285269335:=()
def tw13024378111601783520:=()
def tw15118063943533017192:=()
def tw1470097713367305946:=()
def tw13766739034884075876:=()
def tw14435470536708011849:=()
def tw13702744209772425897:=()
def tw17341355559654723916:=()
def tw15640694083268758455:=()
def tw16514274248289498017:=()
def tw2377783312594190391:=()
def tw4604671140009391141:=()
def tw17119521718072079765:=()
def tw5431501206334964233:=()
def tw8189206906916498831:=()
def tw14791334548862902819:=()
def tw2943094356058869328:=()
def tw6732602057787291382:=()
def tw15486030827758243776:=()
def tw14960340732867223936:=()
def tw15969952725284131343:=()
def tw10574041069077249465:=()
def tw11985609308036800894:=()
def tw8764622245829893680:=()
def tw3352040211120557412:=()
def tw11871008741861192183:=()
def tw4745401824123512737:=()
def tw1218965399744022228:=()
def tw8719525191468573035:=()
def tw1521181783043651071:=()
def tw9951149319804287173:=()
def tw14883397625154150374:=()
def tw14242765531154162875:=()
def tw17383416554961134875:=()
def tw18006820032803821618:=()
def tw2052698865806797688:=()
def tw4684602878500451366:=()
def tw14607581381385214306:=()
def tw8088442638861573500:=()
def tw644661281618250891:=()
def tw15656502576160481882:=()
def tw16572319483858249655:=()
def tw12494915005825733467:=()
def tw13728052175070860400:=()
def tw16844286234008208344:=()
def tw11825046619032819900:=()
def tw2245661879879752904:=()
def tw1225061770607672873:=()
def tw1176542804889085765:=()
def tw1578814825021875701:=()
def tw16338052333218537878:=()
def tw15854664339140956967:=()
def tw7716745319879302713:=()
def tw7627820423500607281:=()
def tw8220435089078163573:=()
def tw6951639086935658358:=()
def tw16968907809067129538:=()
def tw305131905781384679:=()
def tw5789612879391977762:=()
def tw11683108067100407978:=()
def tw6466606688369720477:=()
def tw10130520204837794020:=()
def tw15257780256313835190:=()
def tw5769065252697861748:=()
def tw15318208391152502292:=()
def tw1929601968981396998:=()
def tw12591932092555165633:=()
def tw4921445146488297726:=()
def tw16397829550866833230:=()
def tw12891950560909820228:=()
def tw14642295373582031208:=()
def tw5519561273871772444:=()
def tw17483120031201773061:=()
def tw15786797235358264270:=()
def tw9396386245681189989:=()
def tw3288050512156591571:=()
def tw10823948570501950549:=()
def tw17816271125467185786:=()
def tw7789512064252033068:=()
def tw1633630948825628332:=()
def tw17044982301864941523:=()
def tw9517932694839920091:=()
def tw12119989927873226131:=()
def tw10252554482842112821:=()
def tw1860677687607240622:=()
def tw8130517040639903322:=()
def tw9546746118809620335:=()
def tw13429806631507152041:=()
def tw12516876348958452101:=()
def tw8619616090881414513:=()
def tw18122555524417853774:=()
def tw9119312881713469537:=()
def tw2342481042457008827:=()
def tw6539667246993045632:=()
def tw1043261799769806404:=()
def tw18357778891987244377:=()
def tw6031672920346671244:=()
def tw13454474271325646608:=()
def tw4798877471214297162:=()
def tw6421791306283856830:=()
def tw7893605464618984168:=()
def tw10206496454805893115:=()
def tw4877148297491943384:=()
def tw15802801689036750518:=()
def tw11937974637238837489:=()
def tw8008842261743101544:=()
def tw13793973207928797817:=()
def tw12549212239392646563:=()
def tw14944251246051081162:=()
def tw16541901429919265682:=()
def tw17885044649929742775:=()
def tw11752598359585399597:=()
def tw3089795936541784895:=()
def tw5840576910582003077:=()
def tw10186406080454367720:=()
def tw8639370945577647290:=()
def tw14501415081916542176:=()
def tw16464770726091653334:=()
def tw7900961161920001789:=()
def tw13744040215006166890:=()
def tw15066671431493394680:=()
def tw4458869816536795909:=()
def tw15729858553769218312:=()
def tw693980543118823574:=()
def tw307657351398485516:=()
def tw16962955137980911627:=()
def tw18105795459381998295:=()
def tw6282993567610318720:=()
def tw2683062905820487717:=()
def tw4236185648889331801:=()
def tw13719762555995856907:=()
def tw5494220719110325320:=()
def tw5711073898981699046:=()
def tw5437250376736395165:=()
def tw5588811675328127986:=()
def tw2807560515350262534:=()
def tw6980112672649394707:=()
def tw8434705657598698142:=()
def tw10160891028646002802:=()
def tw5709688630926393528:=()
def tw6843605857497872415:=()
def tw8050659272358472839:=()
def tw1746361258823284727:=()
def tw13380651691491414526:=()
def tw2805331461970302950:=()
def tw6270573587258112536:=()
def tw17342055258693594294:=()
def tw6717061795607879609:=()
def tw13767596317746976871:=()
def tw14449269581652588564:=()
def tw2500634106915749651:=()
def tw2062104480017963740:=()
def tw4940511129524326176:=()
def tw9141361209226360676:=()
def tw1435441283098425847:=()
def tw14177710054203011236:=()
def tw6909430140980495222:=()
def tw3929707068046676878:=()
def tw4216363968712769577:=()
def tw10700039245536460225:=()
def tw15889060457860980287:=()
def tw17121715502414007142:=()
def tw16735417387450452447:=()
def tw7986673437324150041:=()
def tw17053130518372462179:=()
def tw12358714801822113046:=()
def tw12231593402821404932:=()
def tw184650736991796754:=()
def tw3259375870780651920:=()
def tw5646902565778361713:=()
def tw645640743327061338:=()
def tw127186009476599184:=()
def tw791534720474426592:=()
def tw3274661334274974220:=()
def tw13570852064900273468:=()
def tw2144186648374850694:=()
def tw16312396830992083138:=()
def tw2447834556627886502:=()
def tw15600212534620514780:=()
def tw12578578260688437784:=()
def tw6865202000570287559:=()
def tw13846450984348190126:=()
def tw2685829406731134805:=()
def tw16080441787413150205:=()
def tw172592430848430402:=()
def tw2428838296793711143:=()
def tw17018812424984031107:=()
def tw17115908836954614666:=()
def tw9625564045382093415:=()
def tw3428033311110215755:=()
def tw12044517104882341522:=()
def tw11441685365088688403:=()
def tw6851090823490357544:=()
def tw9092997702970364369:=()
def tw4543501415579771289:=()
def tw9032735781671346919:=()
def tw9741332716704370446:=()
def tw8868817131239094346:=()
def tw9355876881213929197:=()
def tw10860139294143081650:=()
def tw16699443484113338847:=()
def tw5528276043170394337:=()
def tw14469472229477758784:=()
def tw941835522094485886:=()
def tw10628762698684936769:=()
def tw15484721656168646454:=()
def tw9197696073329402163:=()
def tw11342695223971567290:=()
def tw14317425138040838056:=()
def tw5448271312710594422:=()
def tw6328451344934211586:=()
def tw6935208236771059979:=()
def tw9851281796959310020:=()
def tw2186357408551477204:=()
def tw6861311283952297177:=()
def tw14058967272786461116:=()
def tw11979296569824287575:=()
def tw15901806245823441384:=()
def tw12865620644386088816:=()
def tw16893695699993799658:=()
def tw1923396480003829733:=()
def tw8593361196582100041:=()
def tw6145801503925645029:=()
def tw5317811807441947489:=()
def tw12286381948477620944:=()
def tw16775322435041824625:=()
def tw17677715591349894335:=()
def tw11798078188320200840:=()
def tw14604752920082302970:=()
def tw3148649140940257818:=()
def tw1263228354896960756:=()
def tw4472652419797035330:=()
def tw15175401814036191668:=()
def tw17152391884114079829:=()
def tw619281153275617444:=()
def tw3731208219484471807:=()
def tw14868499993739090960:=()
def tw14440936975178229489:=()
def tw12981286105175292039:=()
def tw2367030163344120547:=()
def tw9119737262177313195:=()
def tw1019431836811037567:=()
def tw7326799687726367576:=()
def tw10526428165313386892:=()
def tw12873383380663399727:=()
def tw8299747346400648417:=()
def tw17736199547800844872:=()
def tw16532771502542985405:=()
def tw4101265951959315954:=()
def tw11548757420808092498:=()
def tw9487965278227889237:=()
def tw14465717546377664199:=()
def tw13079420189123599694:=()
def tw17812760176178305572:=()
def tw14623549330295942806:=()
def tw10069478575207874034:=()
def tw1446015931258742874:=()
def tw1029245266944635170:=()
def tw11209344070161232020:=()
def tw15415410699429263238:=()
def tw16920216301533867546:=()
def tw16313534451283574487:=()
def tw4515734190207736857:=()
def tw14919567893749600275:=()
def tw6405560745903787779:=()
def tw1749681713303560356:=()
def tw7843685359269438304:=()
def tw201486319310934097:=()
def tw12564402480501712626:=()
def tw15020153558696045732:=()
def tw1179894646244112163:=()
def tw5036078060422664469:=()
def tw3244123522211930089:=()
def tw1073839439614761358:=()
def tw2970364818466324282:=()
def tw1591128312283670305:=()
def tw17728014584555699910:=()
def tw8938999159828103898:=()
def tw3426755484227780314:=()
def tw16217323287419770582:=()
def tw235965396350779792:=()
def tw3658303968318550485:=()
def tw17324764686688605588:=()
def tw9383188059195641828:=()
def tw7254303655630677545:=()
def tw10436832405860644165:=()
def tw12959462076830386342:=()
def tw9758016067584248588:=()
def tw6510422675925943785:=()
def tw14596823616252475723:=()
def tw15395864505548145905:=()
def tw8727059996673795978:=()
def tw7847537208293550865:=()
def tw15809925801715466576:=()
def tw17689695232506059062:=()
def tw15983532742965671080:=()
def tw4778198742719391376:=()
def tw13505356225319296127:=()
def tw8233697974739894821:=()
def tw5566484138819181783:=()
def tw2892390531159116149:=()
def tw12567386527064772368:=()
def tw3085258122558483166:=()
def tw2994453136345993226:=()
def tw13594115714922282039:=()
def tw13720520023915625169:=()
def tw2592738183716931920:=()
def tw18095318063517897926:=()
def tw11028328778045610643:=()
def tw17382187311416765265:=()
def tw4631389090701191408:=()
def tw9453053050921515120:=()
def tw10110793000783267325:=()
def tw17791716033341762969:=()
def tw12988282986948804351:=()
def tw15206295362002855098:=()
def tw9808646182454004688:=()
def tw13072155522689173902:=()
def tw4733395531328199390:=()
def tw9756701624450846627:=()
def tw965601129272935056:=()
def tw13915875341035250953:=()
def tw114725264590392257:=()
def tw17332695632088471014:=()
def tw14151822314587270901:=()
def tw2787006339883143325:=()
def tw17840166332651228964:=()
def tw11409675102608044937:=()
def tw5806021358464221687:=()
def tw13359641151498151053:=()
def tw4054424187215182362:=()
def tw13850645522103480875:=()
def tw14374632602879050296:=()
def tw15720996764601280882:=()
def tw15657996675565972467:=()
def tw2334836915142736238:=()
def tw9067517218759191956:=()
def tw4959313805505619630:=()
def tw12814018801705538658:=()
def tw15446990866699595457:=()
def tw17978906407866954580:=()
def tw12561656429195244991:=()
def tw6003045862894598229:=()
def tw14918427748689746369:=()
def tw10425383466747671547:=()
def tw7476859006181497111:=()
def tw12059249781836492931:=()
def tw2400376228248159428:=()
def tw9741343070991959405:=()
def tw7203495399200443944:=()
def tw15002429395284722561:=()
def tw7419927856595368023:=()
def tw5789281835013321777:=()
def tw12515448064038714979:=()
def tw7022345005729968751:=()
def tw12804208272914474059:=()
def tw1394165836737073851:=()
def tw14525740820069338773:=()
def tw17054931647733849138:=()
def tw513229083884917627:=()
def tw7711452241859960034:=()
def tw15128721406068157377:=()
def tw16209675065901029795:=()
def tw4223377440356533290:=()
def tw7708858021715666815:=()
def tw13752785917712762213:=()
def tw10536728065428581189:=()
def tw10899642963171681014:=()
def tw16952265814429977126:=()
def tw12216728186433608941:=()
def tw7622221588299752404:=()
def tw12319158300695624285:=()
def tw11886491707639082816:=()
def tw2995082931843168099:=()
def tw17015319160977620864:=()
def tw14143233577351760000:=()
def tw940569393543832312:=()
def tw13390382068018788384:=()
def tw13756570098019136074:=()
def tw3577561450047002872:=()
def tw15358159294630322396:=()
def tw16541224302933694129:=()
def tw11130877505717615053:=()
def tw16249798475335870471:=()
def tw2204804305089130776:=()
def tw10502355852434150299:=()
def tw4254890977177215167:=()
def tw332256646990398259:=()
def tw10766691651263197386:=()
def tw10790595969706909728:=()
def tw467628370123185517:=()
def tw16683314298390515233:=()
def tw7371503085135880269:=()
def tw16521219843688996360:=()
def tw5586291000462660915:=()
def tw2447656143259503784:=()
def tw10509060805515336540:=()
def tw5330784696526834455:=()
def tw4361248446960767197:=()
def tw998838449084007392:=()
def tw2888220855421397780:=()
def tw12715683805220959826:=()
def tw8627179952993951771:=()
def tw17592227178482393392:=()
def tw8217560702702803469:=()
def tw12168434910500451374:=()
def tw4614735846855624735:=()
def tw12771448803093460688:=()
def tw2019486914910058728:=()
def tw3992159909436841394:=()
def tw4651039650442780410:=()
def tw17878594645616795467:=()
def tw12723989414832601477:=()
def tw7518186864117260053:=()
def tw16652200496968076583:=()
def tw1698417913019038166:=()
def tw7666222397721923808:=()
def tw14547997998422804030:=()
def tw8097242542127492201:=()
def tw6316197026967570596:=()
def tw4886660106415736645:=()
def tw11386900167630386324:=()
end PySem.W.Fast
set_option genSizeOf false
set_option Elab.async false
set_option linter.all false
set_option maxRecDepth 100000
section
open PySem PySem.Spec PyProof.Rows
namespace L2
section
abbrev Key:=Sum Int Str
def wt:Key->Value->Bool
 | .inl k,v=>Value.isInt k v
 | .inr x,v=>Value.isStrOf x v
def EG(w:World):Key->Int
 | .inl k=>hashInt k
 | .inr x=>hashStr w x
theorem bu:∀{k:Key} {v:Value},wt k v=true->(∃i t,k=Sum.inl i/\v=Value.int i t)∨(∃x t,k=Sum.inr x/\v=Value.str x t)
 | .inl i,v,h=>by
  obtain⟨t,e⟩:=Value.isInt_shape (k:=i) (v:=v) h;exact .inl ⟨i,t,rfl,e⟩
 | .inr x,v,h=>by
  obtain⟨t,e⟩:=Value.isStrOf_shape (x:=x) (v:=v) h;exact .inr ⟨x,t,rfl,e⟩
theorem zE(a b:Int):decide ((Sum.inl a:Key)=Sum.inl b)=(a==b):=by
 by_cases e:a=b
 ·subst e;simp
 ·have h:¬(Sum.inl a:Key)=Sum.inl b:=fun q=>e (Sum.inl.inj q);rw[decide_eq_false h];exact(beq_eq_false_iff_ne.mpr e).symm
theorem xH(a b:Str):decide ((Sum.inr a:Key)=Sum.inr b)=decide (a=b):=by
 by_cases e:a=b
 ·subst e;simp
 ·have h:¬(Sum.inr a:Key)=Sum.inr b:=fun q=>e (Sum.inr.inj q);rw[decide_eq_false h,decide_eq_false e]
theorem za(a:Int)(b:Str):decide ((Sum.inl a:Key)=Sum.inr b)=false:=decide_eq_false (fun q=>nomatch q)
theorem yj(a:Str)(b:Int):decide ((Sum.inr a:Key)=Sum.inl b)=false:=decide_eq_false (fun q=>nomatch q)
def oA(prog:Program)(w:World):PySem.KeyKind prog w Key where
 is:=wt
 hash:=EG w
 inj:=fun v a b ha hb=>by
  rcases bu ha with⟨i,t,rfl,rfl⟩ |⟨x,t,rfl,rfl⟩
  ·rcases bu hb with⟨j,u,rfl,e⟩ |⟨y,u,rfl,e⟩
   ·injection e with e1 _;rw[e1]
   ·exact nomatch e
  ·rcases bu hb with⟨j,u,rfl,e⟩ |⟨y,u,rfl,e⟩
   ·exact nomatch e
   ·injection e with e1 _;rw[e1]
 byValue:=fun k v h=>by
  rcases bu h with⟨i,t,rfl,rfl⟩ |⟨x,t,rfl,rfl⟩<;>rfl
 pyHash:=fun hv h=>by
  rcases bu hv with⟨i,t,rfl,rfl⟩ |⟨x,t,rfl,rfl⟩
  ·exact wpAny_pyHash_int h
  ·exact wpAny_pyHash_str h
 eqBool:=fun hu hv h=>by
  rcases bu hu with⟨i,t,rfl,rfl⟩ |⟨x,t,rfl,rfl⟩
  ·rcases bu hv with⟨j,u,rfl,rfl⟩ |⟨y,u,rfl,rfl⟩
   ·rw[zE]at h;exact wpAny_eqBool_int h
   ·rw[za]at h;exact SeqAt.EqAt.int_str i t y u _ _ _ _ h
  ·rcases bu hv with⟨j,u,rfl,rfl⟩ |⟨y,u,rfl,rfl⟩
   ·rw[yj]at h;exact SeqAt.EqAt.str_int x t j u _ _ _ _ h
   ·rw[xH]at h;exact wpAny_eqBool_str h
 «strs»:=fun k x t v h=>by
  rcases bu h with⟨i,u,rfl,e⟩ |⟨y,u,rfl,e⟩
  ·exact nomatch e
  ·injection e with e1 _;subst e1;cases v<;>rfl
end
section
inductive V where
 | non | bl (b:Bool) | int (i:Int) | str (x:Str) | byt (b:Array UInt8) | flt (b:UInt64) | ref (a:Addr) | ty (n:String)
 deriving DecidableEq
def RelV:V->Value->Prop
 | .non,u=>u=Value.none
 | .bl b,u=>u=Value.bool b
 | .int i,u=>∃t,u=Value.int i t
 | .str x,u=>∃t,u=Value.str x t
 | .byt b,u=>∃t,u=Value.bytes b t
 | .flt b,u=>∃t,u=Value.float b t
 | .ref a,u=>u=Value.ref a
 | .ty n,u=>u=Value.type n
abbrev Vals:List V->List Value->Prop:=Paired RelV
theorem Vals.length{xs:List V}{us:List Value}(r:Vals xs us):xs.length=us.length:=Paired.length r
theorem Vals.get:∀{xs:List V} {us:List Value} {i:Nat} {x:V},Vals xs us->xs[i]?=some x->∃u,us[i]?=some u/\RelV x u
 | _,_,_,_,.nil,e=>by simp at e
 | _,_,0,_,.cons r _,e=>by simp at e;subst e;exact⟨_,rfl,r⟩
 | _,_,i+1,x,.cons _ t,e=>by
  obtain⟨u,h1,h2⟩:=Vals.get (i:=i) (x:=x) t (by simpa using e);exact⟨u,by simpa using h1,h2⟩
theorem Vals.append:∀{xs ys:List V} {us ws:List Value},Vals xs us->Vals ys ws->Vals (xs++ys) (us++ws)
 | _,_,_,_,.nil,s=>s
 | _,_,_,_,.cons r t,s=>.cons r (Vals.append t s)
theorem Vals.take:∀{xs:List V} {us:List Value} (n:Nat),Vals xs us->Vals (xs.take n) (us.take n)
 | _,_,0,_=>.nil
 | _,_,_+1,.nil=>.nil
 | _,_,n+1,.cons r t=>.cons r (Vals.take n t)
theorem Vals.drop:∀{xs:List V} {us:List Value} (n:Nat),Vals xs us->Vals (xs.drop n) (us.drop n)
 | _,_,0,r=>r
 | _,_,_+1,.nil=>.nil
 | _,_,n+1,.cons _ t=>Vals.drop n t
def iU:Option V->Option Value->Prop
 | some v,some u=>RelV v u
 | none,none=>True
 | _,_=>False
def KV{κ:Type}:List (κ×V)->List (κ×Value)->Prop:=Paired fun(p:κ×V) (q:κ×Value)=>p.1=q.1/\RelV p.2 q.2
def kV:Key->V
 | .inl i=>.int i
 | .inr x=>.str x
inductive HO where
  | lst (xs:List V)
  | tup (xs:List V)
  | dK (kvs:List (Key×V)) | dT (kvs:List (List Key×V))
  | set (S:Int->Bool) (n:Nat)
  | ins (C dx:Addr) (fs:List (Str×V))
  | own (x:Addr)
  | xd (fs:List (Str×V))
  | met (f x:Addr)
  | rng (lo hi:Int)
  | frz (o:Obj) (u:HO)
  | tbl (ps:Array Value)
  | ext (φ:Heap->Prop)
abbrev Hp:=Addr->Option HO
def upd(H:Hp)(a:Addr)(o:HO):Hp:=fun b=>if b=a then some o else H b
theorem a8{H:Hp}{a:Addr}{o:HO}:upd H a o a=some o:=by unfold upd;rw[if_pos rfl]
theorem aD{H:Hp}{a b:Addr}{o:HO}(h:b≠a):upd H a o b=H b:=by unfold upd;rw[if_neg h]
theorem wg{H:Hp}{a b:Addr}{o u:HO}(h:H a=some o)(h':H b=some u)(d:o≠u):a≠b:=by
 intro e;subst e;rw[h]at h';exact d (Option.some.inj h')
theorem aK{H:Hp}{a b:Addr}{o:HO}(h:H a=some o)(h':H b=none):a≠b:=by
 intro e;subst e;rw[h]at h';cases h'
section
variable (P:Program)(w:World)
def bV(H:Hp)(h:Heap)(a:Addr):HO->Prop
 | .lst xs=>xs.length≤sizeLine/\∃(its:List Value) (n:Nat),Vals xs its/\h.get? a=some { cls:=.type "list",data:=.seq its.toArray n }
 | .tup xs=>xs.length≤sizeLine/\∃its:List Value,Vals xs its/\IsTup h a its.toArray
 | .dK kvs=>kvs.length≤sizeLine/\(a==sysModules)=false/\∃vs,KV kvs vs/\h.DictOf (oA P w) a vs
 | .dT kvs=>kvs.length≤sizeLine/\(a==sysModules)=false/\∃xs:List (List Key×Addr×Value),
   Paired (fun(p:List Key×V) (q:List Key×Addr×Value)=>p.1=q.1/\H q.2.1=some (.tup (p.1.map kV))/\RelV p.2 q.2.2) kvs xs /\
   ∃o es ep,h.get? a=some o/\o.ExactDict/\o.data=.dict es ep/\es.toList=xs.map (entryOfKey (tupleKind (oA P w)))/\(xs.map (·.1)).Nodup
 | .set S n=>h.SetOf (intKind P w) a S n
 | .ins C dx fs=>H dx=some (.own a)/\fs.length≤1000/\dx≠a/\h.get? a=some (PySem.W.instObj C dx) /\
   ∃mA,h.Ns1 dx mA/\(∀f,iU (fs.lookup f) (mA f))/\PySem.Within mA (fs.map (·.1))
 | .own _=>∃o,h.get? a=some o
 | .xd fs=>∃mA,h.Ns1 a mA/\∀f,iU (fs.lookup f) (mA f)
 | .rng lo hi=>∃t u v,h.get? a=some { cls:=.type "range",data:=.fields #[.int lo t,.int hi u,.int 1 v] }
 | .frz o u=>h.get? a=some o/\bV H h a u
 | .tbl ps=>h.get? a=some { cls:=.none,data:=.fields ps }
 | .met f x=>h.get? a=some (PySem.W.methodObj (.ref f) (.ref x))
 | .ext φ=>φ h/\(∃o,h.get? a=some o)/\∀h1 h2:Heap,φ h1->(∀o,h1.get? a=some o->h2.get? a=some o)->φ h2
def HOk(H:Hp)(h:Heap):Prop:=∀a o,H a=some o->bV P w H h a o
end
section
variable {P:Program}{w:World}{H H':Hp}{h h':Heap}{a:Addr}{o:HO}
theorem bV.lt(x:bV P w H h a o):a<h.objs.size:=by
 cases o with
 | lst xs=>obtain⟨_,_,_,_,e⟩:=x;exact Heap.lt_size e
 | tup xs=>obtain⟨_,_,_,p⟩:=x;exact p.lt
 | dK kvs=>obtain⟨_,_,_,_,o,_,_,e,_⟩:=x;exact Heap.lt_size e
 | dT kvs=>obtain⟨_,_,_,_,o,_,_,e,_⟩:=x;exact Heap.lt_size e
 | set S n=>obtain⟨o,_,_,_,e,_⟩:=x;exact Heap.lt_size e
 | ins C dx fs=>obtain⟨_,_,_,e,_⟩:=x;exact Heap.lt_size e
 | own y=>obtain⟨_,e⟩:=x;exact Heap.lt_size e
 | xd fs=>obtain⟨_,⟨_,_,_,e,_⟩,_⟩:=x;exact Heap.lt_size e
 | rng lo hi=>obtain⟨_,_,_,e⟩:=x;exact Heap.lt_size e
 | frz ob u=>obtain⟨e,_⟩:=x;exact Heap.lt_size e
 | tbl ps=>exact Heap.lt_size (show h.get? a=some _ from x)
 | met f y=>exact Heap.lt_size (show h.get? a=some _ from x)
 | ext φ=>obtain⟨_,⟨_,e⟩,_⟩:=x;exact Heap.lt_size e
theorem Paired.mapP{α β:Type}{F G:α->β->Prop}:∀{l₁:List α} {l₂:List β},Paired F l₁ l₂->(∀a b,F a b->G a b)->Paired G l₁ l₂
 | _,_,.nil,_=>.nil
 | _,_,.cons r t,f=>.cons (f _ _ r) (Paired.mapP t f)
theorem bV.stay(x:bV P w H h a o)(k:∀b u,(b=a∨H b=some (.own a))->h.get? b=some u->h'.get? b=some u)
  (ho:∀b,H b=some (.own a)->H' b=some (.own a)) (ht:∀b xs,H b=some (.tup xs)->H' b=some (.tup xs)):bV P w H' h' a o:=by
 induction o with
 | lst xs=>obtain⟨z,its,n,r,e⟩:=x;exact⟨z,its,n,r,k _ _ (.inl rfl) e⟩
 | tup xs=>obtain⟨z,its,r,ob,e,c⟩:=x;exact⟨z,its,r,ob,k _ _ (.inl rfl) e,c⟩
 | dK kvs=>obtain⟨z,y,vs,r,ob,es,ep,e,c⟩:=x;exact⟨z,y,vs,r,ob,es,ep,k _ _ (.inl rfl) e,c⟩
 | dT kvs =>
  obtain⟨z,y,xs,r,ob,es,ep,e,c⟩:=x;exact⟨z,y,xs,Paired.mapP r fun p q z=>⟨z.1,ht _ _ z.2.1,z.2.2⟩,ob,es,ep,k _ _ (.inl rfl) e,c⟩
 | set S n=>obtain⟨ob,es,ep,t,e,c⟩:=x;exact⟨ob,es,ep,t,k _ _ (.inl rfl) e,c⟩
 | ins C dx fs =>
  obtain⟨d,z,ne,e,mA,⟨od,es,ep,e2,c⟩,r⟩:=x;exact⟨ho _ d,z,ne,k _ _ (.inl rfl) e,mA,⟨od,es,ep,k _ _ (.inr d) e2,c⟩,r⟩
 | own y=>obtain⟨ob,e⟩:=x;exact⟨ob,k _ _ (.inl rfl) e⟩
 | xd fs=>obtain⟨mA,⟨od,es,ep,e,c⟩,r⟩:=x;exact⟨mA,⟨od,es,ep,k _ _ (.inl rfl) e,c⟩,r⟩
 | rng lo hi=>obtain⟨t,u,v,e⟩:=x;exact⟨t,u,v,k _ _ (.inl rfl) e⟩
 | frz ob u ih=>obtain⟨e,q⟩:=x;exact⟨k _ _ (.inl rfl) e,ih q⟩
 | tbl ps =>
  have e:h.get? a=some { cls:=.none,data:=.fields ps }:=x;show h'.get? a=some { cls:=.none,data:=.fields ps };exact k a _ (.inl rfl) e
 | met f y =>
  have e:h.get? a=some (PySem.W.methodObj (.ref f) (.ref y)):=x;show h'.get? a=some (PySem.W.methodObj (.ref f) (.ref y));exact k a _ (.inl rfl) e
 | ext φ=>obtain⟨p,⟨o,e⟩,st⟩:=x;exact⟨st _ _ p fun o q=>k _ _ (.inl rfl) q,⟨o,k _ _ (.inl rfl) e⟩,st⟩
theorem HOk.lt(x:HOk P w H h)(e:H a=some o):a<h.objs.size:=(x a o e).lt
theorem HOk.fresh(x:HOk P w H h)(e:h.objs.size≤a):H a=none:=by
 cases q:H a with
 | none=>rfl
 | some u=>exact absurd (Nat.lt_of_lt_of_le (x.lt q) e) (Nat.lt_irrefl _)
theorem HOk.kept(x:HOk P w H h)(k:∀b u,h.get? b=some u->h'.get? b=some u):HOk P w H h':=fun a o e =>
 (x a o e).stay (fun b u _ q=>k b u q) (fun _ q=>q) fun _ _ q=>q
theorem HOk.laid(x:HOk P w H h)(k:∀b u,h.get? b=some u->h'.get? b=some u)(hp:h.objs.size≤a)(new:bV P w (upd H a o) h' a o):HOk P w (upd H a o) h':=fun b u e=>by
 have hn:=x.fresh hp;by_cases hb:b=a
 ·subst hb;rw[a8]at e;cases e;exact new
 ·rw[aD hb]at e;exact(x b u e).stay (fun c v _ q=>k c v q) (fun c q=>by rw[aD (aK q hn)];exact q) fun c xs q=>by rw[aD (aK q hn)];exact q
end
def Rd(H:Hp)(a:Addr)(u:HO):Prop:=H a=some u∨∃o,H a=some (.frz o u)
theorem Rd.ok{P:Program}{w:World}{H:Hp}{h:Heap}{a:Addr}{u:HO}(r:Rd H a u)(x:HOk P w H h):bV P w H h a u:=by
 rcases r with r |⟨o,r⟩
 ·exact x a u r
 ·obtain⟨_,q⟩:=x a _ r;exact q
def Mut:Option HO->Prop
 | some (.lst _)=>True
 | some (.dK _)=>True
 | some (.dT _)=>True
 | some (.set _ _)=>True
 | some (.ins _ _ _)=>True
 | some (.ext _)=>True
 | _=>False
section
variable {P:Program}{w:World}{H:Hp}{h h':Heap}{x e:Addr}{o':HO}
theorem HOk.write(ok:HOk P w H h)(mu:Mut (H x))(he:e=x∨H e=some (.own x))(k:∀b u,b≠e->h.get? b=some u->h'.get? b=some u)(heo:∃u,h'.get? e=some u)
  (new:bV P w (upd H x o') h' x o'):HOk P w (upd H x o') h':=fun b u q=>by
 have nown:∀c y,H c=some (.own y)->c≠x:=fun c y r z=>by subst z;rw[r]at mu;exact mu
 have ntup:∀c xs,H c=some (.tup xs)->c≠x:=fun c xs r z=>by subst z;rw[r]at mu;exact mu
 by_cases hb:b=x
 ·subst hb;rw[a8]at q;cases q;exact new
 ·rw[aD hb]at q;by_cases hbe:b=e
  ·have q':H b=some (.own x):=by
    rcases he with z | z
    ·exact absurd (hbe.trans z) hb
    ·rw[hbe];exact z
   rw[q]at q';cases q';obtain⟨v,hv⟩:=heo;exact⟨v,by rw[hbe];exact hv⟩
  ·refine(ok b u q).stay (fun c v hc r=>k c v ?_ r) (fun c r=>by rw[aD (nown c b r)];exact r) fun c xs r=>by rw[aD (ntup c xs r)];exact r
   rcases hc with rfl | hc
   ·exact hbe
   ·rintro rfl;rcases he with z | z
    ·exact nown c b hc z
    ·rw[hc]at z;cases z;exact hb rfl
end
structure Un (fs ex:List Addr) (H H':Hp) (h h':Heap):Prop where
 keep:∀b o,h.get? b=some o->H b=none->b∉fs->b∉ex->h'.get? b=some o
 slot:∀b o,h.get? b=some o->H b=none->b∈fs->b∉ex->∃sl,h'.get? b=some { o with slots:=sl }
 free:∀b o,h.get? b=some o->H b=none->b∉ex->H' b=none
 there:∀b o,h.get? b=some o->b∉ex->∃o',h'.get? b=some o'
 tups:∀b xs,H b=some (.tup xs)->H' b=some (.tup xs)
 frzs:∀b o u,H b=some (.frz o u)->H' b=some (.frz o u)
 tbls:∀b ps,H b=some (.tbl ps)->∃more,H' b=some (.tbl (ps++more))
section
variable {fs fs' ex ex':List Addr}{H H1 H2:Hp}{h h1 h2 h':Heap}{a x e:Addr}{o:HO}
theorem Un.any(u:Un fs ex H H1 h h1){b:Addr}{ob:Obj}(q:h.get? b=some ob)(n:H b=none)(hx:b∉ex):∃sl,h1.get? b=some { ob with slots:=sl }:=by
 by_cases hb:b∈fs
 ·exact u.slot b ob q n hb hx
 ·exact⟨ob.slots,u.keep b ob q n hb hx⟩
theorem Un.kept(k:∀b u,h.get? b=some u->h'.get? b=some u):Un fs ex H H h h' :=
 ⟨fun b ob q _ _ _=>k b ob q,fun b ob q _ _ _=>⟨ob.slots,k b ob q⟩,fun _ _ _ n _=>n,fun b ob q _=>⟨ob,k b ob q⟩,fun _ _ q=>q,fun _ _ _ q=>q,fun _ ps q=>⟨#[],by rw[q];simp⟩⟩
theorem Un.refl:Un fs ex H H h h:=Un.kept fun _ _ q=>q
theorem Un.laid(k:∀b u,h.get? b=some u->h'.get? b=some u)(hp:h.objs.size≤a)(hn:H a=none):Un fs ex H (upd H a o) h h' where
 keep:=fun b u q _ _ _=>k b u q
 slot:=fun b u q _ _ _=>⟨u.slots,k b u q⟩
 free:=fun b u q n _=>by rw[aD (Nat.ne_of_lt (Nat.lt_of_lt_of_le (Heap.lt_size q) hp))];exact n
 there:=fun b u q _=>⟨u,k b u q⟩
 tups:=fun b xs q=>by rw[aD (aK q hn)];exact q
 frzs:=fun b u xs q=>by rw[aD (aK q hn)];exact q
 tbls:=fun b ps q=>⟨#[],by rw[aD (aK q hn),q];simp⟩
theorem Un.write(mu:Mut (H x))(he:e=x∨H e=some (.own x))(k:∀b u,b≠e->h.get? b=some u->h'.get? b=some u)(heo:∃u,h'.get? e=some u):Un fs ex H (upd H x o) h h':=by
 have hx:∀b,H b=none->b≠x:=fun b n z=>by subst z;rw[n]at mu;exact mu
 have hb:∀b,H b=none->b≠e:=fun b n z=>by
  subst z;rcases he with r | r
  ·exact hx b n r
  ·rw[n]at r;cases r
 have hm:∀b u,H b=some u->¬Mut (some u)->b≠x:=fun b u q nm z=>by subst z;rw[q]at mu;exact nm mu
 refine⟨fun b u q n _ _=>k b u (hb b n) q,fun b u q n _ _=>⟨u.slots,k b u (hb b n) q⟩,fun b u q n _=>by rw[aD (hx b n)];exact n,fun b u q _=>?_,
  fun b xs q=>by rw[aD (hm b _ q fun z=>z)];exact q,fun b u xs q=>by rw[aD (hm b _ q fun z=>z)];exact q,fun b ps q=>⟨#[],by rw[aD (hm b _ q fun z=>z),q];simp⟩⟩
 by_cases hbe:b=e
 ·subst hbe;exact heo
 ·exact⟨u,k b u hbe q⟩
end
def trk(h:Heap)(H:Hp):List Addr:=(List.range h.objs.size).filter fun a=>(H a).isSome
def jP(h:Heap)(H:Hp):Heap:=PySem.W.hideAll h (trk h H)
theorem o8(h:Heap)(H:Hp):(jP h H).objs.size=h.objs.size:=PySem.W.hideAll_size _ _
theorem qG{h:Heap}{H:Hp}{b:Addr}{o:Obj}(e:h.get? b=some o)(n:H b=none):(jP h H).get? b=some o :=
 PySem.W.hideAll_get _ e fun hm=>by
  have q:(H b).isSome=true:=(List.mem_filter.mp hm).2;rw[n]at q;simp at q
theorem vh{h:Heap}{H:Hp}{b:Addr}{o:Obj}(e:(jP h H).get? b=some o):h.get? b=some o/\H b=none:=by
 have e':h.get? b=some o:=PySem.W.of_hideAll (trk h H) e;refine⟨e',?_⟩;cases q:H b with
 | none=>rfl
 | some x =>
  have hm:b∈trk h H:=List.mem_filter.mpr ⟨List.mem_range.mpr (Heap.lt_size e'),by simp[q]⟩;have z:(jP h H).get? b=none:=PySem.W.hideAll_none (trk h H) hm;rw[z]at e;cases e
def vR(g h:Heap)(L:Addr):List (Addr×Obj):=(List.range h.objs.size).filterMap fun a=>if a=L∨(g.get? a).isSome=true then none else(h.get? a).map fun o=>(a,o)
def rest(g h:Heap)(L d:Addr):List (Addr×Obj):=(vR g h L).filter fun p=>decide (p.1≠d)
end
section
structure Mod (K:PySem.W.Frag) (mg:Str→Option Value) (base:Heap):Prop where
 kin:K.In base
 glob:base.Ns mainGlobals mg
 blt:∃mb,base.Ns builtinsNs mb/\∀x:Str,x≠"__name__"->mb x=bootBuiltins x
 nolimit:base.NoLimit
structure Cx where
 prog:Program
 w:World
 K:PySem.W.Frag
 mg:Str->Option Value
 base:Heap
 A:Around
 N:List Str
 s₀:Shared
 H₀:Hp
 env:Env
 outer:List Env
 stack:List Env
 ex:List Addr
 fn:Str->Bool
 calm:Bool
 pn:List (Addr×Obj)
 xe:Value->Shared->Prop
def frs(l:List Env):List Addr:=l.filterMap (·.frame)
abbrev Cx.fs(X:Cx):List Addr:=frs X.outer
def Vis(sc:Scope)(x:Str):Prop:=sc.names.lookup x=some .local∨sc.names.lookup x=some .cell∨sc.names.lookup x=some .free
def Loc(sc:Scope)(x:Str):Prop:=sc.names.lookup x=some .local∨sc.names.lookup x=some .cell
def Look(env:Env)(h:Heap)(m:Str->Option Value)(x:Str)(u:Value):Prop :=
 (env.kindOf x=some .local/\m x=some u)∨((env.kindOf x=some .cell∨env.kindOf x=some .free)/\∃c,env.cells.lookup x=some c/\h.IsCell c (some u))
structure Cx.Ok (X:Cx):Prop where
 mod:Mod X.K X.mg X.base
 kind:X.env.scope.kind=.function
 glob:X.env.globals=mainGlobals
 blt:X.env.builtins=builtinsNs
 above:X.s₀.heap.objs.size≤X.env.locals
 inj:∀x y c,X.env.cells.lookup x=some c->X.env.cells.lookup y=some c->x=y
 has:∀x,(X.env.kindOf x=some .cell∨X.env.kindOf x=some .free)->∃c,X.env.cells.lookup x=some c
 cab:∀x c,X.fn x=true->X.env.cells.lookup x=some c->X.s₀.heap.objs.size≤c
 hd:X.calm=true->X.A.handled=none
 frames:X.A.frames=some X.stack
 stk:X.stack=X.outer∨(X.stack=X.env::X.outer/\X.env.frame=some X.env.locals)
 exf:∀b∈X.ex,b≠X.env.locals/\∀x c,X.env.cells.lookup x=some c->c≠b
 bs:∀b o,X.base.get? b=some o->X.s₀.heap.get? b=some o/\X.H₀ b=none
 bsz:X.base.objs.size≤X.s₀.heap.objs.size
 noex:∀b o,X.base.get? b=some o->b∉X.ex
 exfs:∀b∈X.ex,b∉X.fs
 funs:X.s₀.heap.FunFrames X.base X.outer
 frf:∀b∈X.fs,X.H₀ b=none
structure Inv (X:Cx) (pins:List (Addr × Obj)) (σ:List (Option V)) (H:Hp) (s:Shared):Prop where
 ok:X.Ok
 os:s.os=X.s₀.os
 bare:AllBare s.gens
 base:Un X.fs X.ex X.H₀ H X.s₀.heap s.heap
 loc:∃m,s.heap.Ns X.env.locals m/\∀(i:Nat) (x:Str) (v:V),X.N[i]?=some x->σ[i]?=some (some v)->Vis X.env.scope x->∃u,RelV v u/\Look X.env s.heap m x u
 cell:∀x c,X.env.cells.lookup x=some c->∃v,s.heap.IsCell c v
 free:H X.env.locals=none
 freeC:∀x c,X.env.cells.lookup x=some c->H c=none
 pin:∀p∈X.pn++pins,s.heap.get? p.1=some p.2/\H p.1=none/\p.1≠X.env.locals/\p.1∉X.fs/\∀v,p.2.data≠.cell v
 hok:HOk X.prog X.w H s.heap
 len:σ.length=X.N.length
section
variable {X:Cx}{pins:List (Addr×Obj)}{σ:List (Option V)}{H H':Hp}{s:Shared}{h':Heap}
theorem Cx.Ok.nofr(ok:X.Ok){b:Addr}{o:Obj}(e:X.base.get? b=some o):b∉X.fs:=fun hb=>by
 have:=(ok.funs.mem hb).1;rw[e]at this;cases this
theorem Inv.bs(I:Inv X pins σ H s):∀b o,X.base.get? b=some o->s.heap.get? b=some o/\H b=none:=fun b o e =>
 ⟨I.base.keep b o (I.ok.bs b o e).1 (I.ok.bs b o e).2 (I.ok.nofr e) (I.ok.noex b o e),I.base.free b o (I.ok.bs b o e).1 (I.ok.bs b o e).2 (I.ok.noex b o e)⟩
theorem Inv.bk(I:Inv X pins σ H s):∀b o,X.base.get? b=some o->s.heap.get? b=some o:=fun b o e=>(I.bs b o e).1
theorem Inv.mod(I:Inv X pins σ H s):Mod X.K X.mg X.base:=I.ok.mod
theorem Inv.kIn(I:Inv X pins σ H s):X.K.In s.heap:=I.ok.mod.kin.keeps I.bk
theorem Inv.lt(I:Inv X pins σ H s):X.env.locals<s.heap.objs.size:=let ⟨_,hn,_⟩:=I.loc;hn.lt
theorem Inv.sz(I:Inv X pins σ H s):X.s₀.heap.objs.size≤s.heap.objs.size:=Nat.le_trans I.ok.above (Nat.le_of_lt I.lt)
theorem Inv.nofs(I:Inv X pins σ H s){a:Addr}(h:s.heap.objs.size≤a):a∉X.fs:=fun hb=>by
 obtain⟨_,o,ho,_⟩:=I.ok.funs.mem hb;exact absurd (Nat.lt_of_lt_of_le (Heap.lt_size ho) (Nat.le_trans I.sz h)) (Nat.lt_irrefl _)
theorem Inv.cne(I:Inv X pins σ H s):∀x c,X.env.cells.lookup x=some c->c≠X.env.locals:=fun x c e z=>by
 obtain⟨v,o,ho,hd⟩:=I.cell x c e;obtain⟨m,⟨o',es,ep,ho',hd',_⟩,_⟩:=I.loc;rw[z,ho']at ho;cases ho;rw[hd']at hd;cases hd
theorem Inv.funs(I:Inv X pins σ H s):s.heap.FunFrames X.base X.outer:=by
 have all:∀(l:List Env),(∀b∈frs l,b∈X.fs)->X.s₀.heap.FunFrames X.base l->s.heap.FunFrames X.base l:=by
  intro l
  induction l with
  | nil=>intro _ _;trivial
  | cons env r ih =>
   intro hs hl;obtain⟨hk,⟨L,o,hf,hn,ho,hd⟩,hr⟩:=hl;have hL:L∈X.fs:=hs L (by unfold frs;rw[List.filterMap_cons,hf];exact List.mem_cons_self);obtain⟨sl,e⟩:=I.base.slot L o ho (I.ok.frf L hL) hL fun z=>I.ok.exfs L z hL;exact⟨hk,⟨L,_,hf,hn,e,hd⟩,ih (fun b hb=>hs b (by unfold frs;rw[List.filterMap_cons,hf];exact List.mem_cons_of_mem _ hb)) hr⟩
 exact all X.outer (fun _ hb=>hb) I.ok.funs
theorem Inv.stack(I:Inv X pins σ H s):s.heap.FunFrames X.base X.stack:=by
 rcases I.ok.stk with e |⟨e,hf⟩
 ·rw[e];exact I.funs
 ·rw[e];obtain⟨m,hn,_⟩:=I.loc;refine .cons (by rw[I.ok.kind];decide) hf hn ?_ I.funs;exact Heap.get?_none_of_le (Nat.le_trans I.ok.bsz I.ok.above)
theorem Inv.stkSub(I:Inv X pins σ H s):∀b∈frs X.stack,b∈X.env.locals::X.fs:=fun b hb=>by
 rcases I.ok.stk with e |⟨e,hf⟩
 ·rw[e]at hb;exact List.mem_cons_of_mem _ hb
 ·rw[e]at hb;unfold frs at hb;rw[List.filterMap_cons,hf]at hb;exact hb
theorem Inv.stkFree(I:Inv X pins σ H s):∀b∈frs X.stack,H b=none:=fun b hb=>by
 rcases List.mem_cons.mp (I.stkSub b hb)with e | hb
 ·rw[e];exact I.free
 ·obtain⟨_,o,ho,_⟩:=I.ok.funs.mem hb;exact I.base.free b o ho (I.ok.frf b hb) fun z=>I.ok.exfs b z hb
theorem Inv.step{g':Array GenState}{t':Nat}{d':Drawn}{ch:List Addr}(I:Inv X pins σ H s)
  (hch:∀b∈ch,(b∈X.ex∨X.s₀.heap.objs.size≤b)/\b≠X.env.locals/\(∀x c,X.env.cells.lookup x=some c->c≠b)/\∀p∈X.pn++pins,p.1≠b)
  (keep:∀b o,b≠X.env.locals->b∉X.fs->b∉ch->s.heap.get? b=some o->H b=none->h'.get? b=some o)
  (slot:∀b o,b≠X.env.locals->b∈X.fs->b∉ch->s.heap.get? b=some o->H b=none->∃sl,h'.get? b=some { o with slots:=sl }) (free:∀b o,b∉ch->s.heap.get? b=some o->H b=none->H' b=none)
  (there:∀b o,b∉ch->s.heap.get? b=some o->∃o',h'.get? b=some o')
  (tups:∀b xs,H b=some (.tup xs)->H' b=some (.tup xs)) (frzs:∀b o u,H b=some (.frz o u)->H' b=some (.frz o u)) (tbls:∀b ps,H b=some (.tbl ps)->∃more,H' b=some (.tbl (ps++more)))
  (ns:∀m,s.heap.Ns X.env.locals m->h'.Ns X.env.locals m) (hok:HOk X.prog X.w H' h') (hg:AllBare g') :
  Inv X pins σ H' { s with heap:=h',gens:=g',drawn:=d',toks:=t' }:=by
 have neL:∀b o,X.s₀.heap.get? b=some o->b≠X.env.locals:=fun b o e=>Nat.ne_of_lt (Nat.lt_of_lt_of_le (Heap.lt_size e) I.ok.above);have neC:∀b o,X.s₀.heap.get? b=some o->b∉X.ex->b∉ch:=fun b o e hx hb=>by
  rcases (hch b hb).1 with z | z
  ·exact hx z
  ·exact absurd (Nat.lt_of_lt_of_le (Heap.lt_size e) z) (Nat.lt_irrefl _)
 have cellK:∀x c,X.env.cells.lookup x=some c->∀v,s.heap.IsCell c v->h'.IsCell c v:=fun x c e v ⟨o,ho,hd⟩=>by
  have nch:c∉ch:=fun z=>(hch c z).2.2.1 x c e rfl;by_cases hc:c∈X.fs
  ·obtain⟨sl,q⟩:=slot c o (I.cne x c e) hc nch ho (I.freeC x c e);exact⟨_,q,hd⟩
  ·exact⟨o,keep c o (I.cne x c e) hc nch ho (I.freeC x c e),hd⟩
 refine⟨I.ok,I.os,hg,⟨fun b o e n hb hx=>?_,fun b o e n hb hx=>?_,fun b o e n hx=>?_,fun b o e hx=>?_,fun b xs e=>tups b xs (I.base.tups b xs e),fun b o xs e=>frzs b o xs (I.base.frzs b o xs e),fun b ps e=>?_⟩,?_,fun x c e=>?_,?_,fun x c e=>?_,fun p hp=>?_,hok,I.len⟩
 ·exact keep b o (neL b o e) hb (neC b o e hx) (I.base.keep b o e n hb hx) (I.base.free b o e n hx)
 ·obtain⟨sl,e1⟩:=I.base.slot b o e n hb hx;obtain⟨sl',e2⟩:=slot b _ (neL b o e) hb (neC b o e hx) e1 (I.base.free b o e n hx);exact⟨sl',e2⟩
 ·obtain⟨o',e1⟩:=I.base.there b o e hx;exact free b o' (neC b o e hx) e1 (I.base.free b o e n hx)
 ·obtain⟨o',e1⟩:=I.base.there b o e hx;exact there b o' (neC b o e hx) e1
 ·obtain⟨m1,e1⟩:=I.base.tbls b ps e;obtain⟨m2,e2⟩:=tbls b _ e1;exact⟨m1++m2,by rw[e2,Array.append_assoc]⟩
 ·obtain⟨m,hn,hl⟩:=I.loc;refine⟨m,ns m hn,fun i x v e1 e2 e3=>?_⟩;obtain⟨u,r,l⟩:=hl i x v e1 e2 e3;refine⟨u,r,?_⟩;rcases l with l |⟨k,c,e,z⟩
  ·exact .inl l
  ·exact .inr ⟨k,c,e,cellK x c e _ z⟩
 ·obtain⟨v,z⟩:=I.cell x c e;exact⟨v,cellK x c e v z⟩
 ·obtain⟨m,⟨o,_,_,ho,_⟩,_⟩:=I.loc;exact free _ o (fun z=>(hch _ z).2.1 rfl) ho I.free
 ·obtain⟨v,o,ho,hd⟩:=I.cell x c e;exact free c o (fun z=>(hch c z).2.2.1 x c e rfl) ho (I.freeC x c e)
 ·obtain⟨e,n,ne,nf,d⟩:=I.pin p hp;have nch:p.1∉ch:=fun z=>(hch p.1 z).2.2.2 p hp rfl;exact⟨keep p.1 p.2 ne nf nch e n,free p.1 p.2 nch e n,ne,nf,d⟩
theorem Inv.un{t':Nat}(I:Inv X pins σ H s)(u:Un X.fs [] H H' s.heap h')(hok:HOk X.prog X.w H' h'):Inv X pins σ H' { s with heap:=h',toks:=t' }:=by
 obtain⟨m,⟨o,es,ep,ho,r⟩,_⟩:=id I.loc;obtain⟨sl,hL⟩:=u.any ho I.free (by simp);exact I.step (g':=s.gens) (d':=s.drawn) (ch:=[]) (fun _ z=>nomatch z) (fun b o _ hb _ e n=>u.keep b o e n hb (by simp)) (fun b o _ hb _ e n=>u.slot b o e n hb (by simp)) (fun b o _ e n=>u.free b o e n (by simp)) (fun b o _ e=>u.there b o e (by simp)) u.tups u.frzs u.tbls (fun m' hm=>by
  obtain⟨o',es',ep',ho',r'⟩:=hm;rw[ho]at ho';cases ho';exact⟨_,es',ep',hL,r'⟩) hok I.bare
theorem Inv.call{g':Array GenState}{t':Nat}{d':Drawn}{ch:List Addr}(I:Inv X pins σ H s)(u:Un (frs X.stack) ch H H' s.heap h')(hok:HOk X.prog X.w H' h')(hg:AllBare g')
  (hch:∀b∈ch,(b∈X.ex∨X.s₀.heap.objs.size≤b)/\b≠X.env.locals/\(∀x c,X.env.cells.lookup x=some c->c≠b)/\∀p∈X.pn++pins,p.1≠b) :
  Inv X pins σ H' { s with heap:=h',gens:=g',drawn:=d',toks:=t' }:=by
 obtain⟨m,⟨o,es,ep,ho,r⟩,_⟩:=id I.loc;obtain⟨sl,hL⟩:=u.any ho I.free fun z=>(hch _ z).2.1 rfl;exact I.step (ch:=ch) hch (fun b o hL hb hc e n=>u.keep b o e n (fun z=>(List.mem_cons.mp (I.stkSub b z)).elim hL hb) hc) (fun b o _ _ hc e n=>u.any e n hc) (fun b o hc e n=>u.free b o e n hc) (fun b o hc e=>u.there b o e hc) u.tups u.frzs u.tbls (fun m' hm=>by
  obtain⟨o',es',ep',ho',r'⟩:=hm;rw[ho]at ho';cases ho';exact⟨_,es',ep',hL,r'⟩) hok hg
theorem Inv.turned{t':Nat}{it:Addr}(I:Inv X pins σ H s)(k:∀b o,b≠it->s.heap.get? b=some o->h'.get? b=some o)(hn:H it=none)(hL:it≠X.env.locals)
  (h1:it∈X.ex∨X.s₀.heap.objs.size≤it) (h2:∀x c,X.env.cells.lookup x=some c->c≠it) (h3:∀p∈X.pn++pins,p.1≠it):Inv X pins σ H { s with heap:=h',toks:=t' }:=by
 have nit:∀b u,H b=some u->b≠it:=fun b u e z=>by rw[z,hn]at e;cases e
 refine I.step (g':=s.gens) (d':=s.drawn) (ch:=[it]) (fun b hb=>?_) (fun b o _ _ hc e _=>k b o (fun z=>hc (by simp[z])) e) (fun b o _ _ hc e _=>⟨o.slots,k b o (fun z=>hc (by simp[z])) e⟩) (fun _ _ _ _ n=>n)
  (fun b o hc e=>⟨o,k b o (fun z=>hc (by simp[z])) e⟩) (fun _ _ e=>e) (fun _ _ _ e=>e) (fun b ps e=>⟨#[],by rw[e];simp⟩) (fun m hm=>?_) (fun b u e=>?_) I.bare
 ·have e:b=it:=by simpa using hb
  subst e;exact⟨h1,hL,h2,h3⟩
 ·obtain⟨o,es,ep,ho,r⟩:=hm;exact⟨o,es,ep,k _ o (Ne.symm hL) ho,r⟩
 ·refine(I.hok b u e).stay (fun c v hc q=>k c v ?_ q) (fun _ q=>q) fun _ _ q=>q;rcases hc with z | z
  ·rw[z];exact nit b u e
  ·exact nit c _ z
theorem Inv.tok(I:Inv X pins σ H s)(t:Nat):Inv X pins σ H { s with toks:=t }:=I.un (h':=s.heap) (t':=t) Un.refl I.hok
theorem Inv.kept{t':Nat}(I:Inv X pins σ H s)(k:∀b u,s.heap.get? b=some u->h'.get? b=some u):Inv X pins σ H { s with heap:=h',toks:=t' }:=I.un (Un.kept k) (I.hok.kept k)
theorem Inv.laid{a:Addr}{o:HO}{t':Nat}(I:Inv X pins σ H s)(k:∀b u,s.heap.get? b=some u->h'.get? b=some u)(hp:s.heap.objs.size≤a)(new:bV X.prog X.w (upd H a o) h' a o) :
  Inv X pins σ (upd H a o) { s with heap:=h',toks:=t' }:=I.un (Un.laid k hp (I.hok.fresh hp)) (I.hok.laid k hp new)
theorem Inv.write{x e:Addr}{o:HO}{t':Nat}(I:Inv X pins σ H s)(mu:Mut (H x))(he:e=x∨H e=some (.own x))(k:∀b u,b≠e->s.heap.get? b=some u->h'.get? b=some u)(heo:∃u,h'.get? e=some u)
  (new:bV X.prog X.w (upd H x o) h' x o):Inv X pins σ (upd H x o) { s with heap:=h',toks:=t' }:=I.un (Un.write mu he k heo) (I.hok.write mu he k heo new)
theorem Inv.pins_of{pins':List (Addr×Obj)}(I:Inv X pins σ H s)(h:∀p∈pins',s.heap.get? p.1=some p.2/\H p.1=none/\p.1≠X.env.locals/\p.1∉X.fs/\∀v,p.2.data≠.cell v):Inv X pins' σ H s :=
 ⟨I.ok,I.os,I.bare,I.base,I.loc,I.cell,I.free,I.freeC,fun p hp=>(List.mem_append.mp hp).elim (fun z=>I.pin p (List.mem_append_left _ z)) (h p),I.hok,I.len⟩
theorem ir{N:List Str}(hN:N.Nodup){i j:Nat}{x:Str}(a:N[i]?=some x)(b:N[j]?=some x):i=j:=by
 obtain⟨h1,e1⟩:=List.getElem?_eq_some_iff.mp a;obtain⟨h2,e2⟩:=List.getElem?_eq_some_iff.mp b;exact(List.getElem_inj hN).mp (e1.trans e2.symm)
theorem je{M:Model}{A:Around}{E:Value->Shared->Prop}{i:Nat}{x:Str}{v:V}{u:Value}{Q:Unit->Shared->Prop}(I:Inv X pins σ H s)(hN:X.N.Nodup)(hi:X.N[i]?=some x)(hx:Loc X.env.scope x)(r:RelV v u)
  (h:∀s',Inv X pins (σ.set i (some v)) H s'->(∃a,Heap.SameBut a s.heap s'.heap/\(a=X.env.locals∨X.env.cells.lookup x=some a))->Q () s') (hf:X.fn x=true∨X.env.scope.names.lookup x=some .local:=by first | exact .inl rfl | exact .inr rfl | assumption):wpAny M A (storeName X.env x u) Q E s:=by
 obtain⟨m,hn,hl⟩:=id I.loc;have hcls:(X.env.scope.kind==.class||(X.env.scope.kind==.module&&X.env.locals !=X.env.globals))=false:=by rw[I.ok.kind];rfl
 have hiσ:i<σ.length:=by rw[I.len];exact(List.getElem?_eq_some_iff.mp hi).1
 have cne:=I.cne;have tracked:∀{a:Addr} {h':Heap},(∃o,s.heap.get? a=some o/\H a=none)->Heap.SameBut a s.heap h'->HOk X.prog X.w H h':=fun {a h'} ha hs b ob e=>by
  obtain⟨_,_,hfree⟩:=ha;refine(I.hok b ob e).stay (fun c w' hc q=>(hs.2 c ?_).trans q) (fun _ q=>q) fun _ _ q=>q;rintro rfl;rcases hc with rfl | hc
  ·rw[hfree]at e;cases e
  ·rw[hfree]at hc;cases hc
 rcases hx with hk | hk
 ·refine wpAny_storeName_local hk hn (fun h' hn' hs=>?_) hcls;obtain⟨oL,_,_,hoL,_⟩:=id hn;refine h _ ⟨I.ok,I.os,I.bare,⟨fun b o e n hb hx=>?_,fun b o e n hb hx=>?_,I.base.free,fun b o e hx=>?_,I.base.tups,I.base.frzs,I.base.tbls⟩,⟨_,hn',fun j y v' e1 e2 e3=>?_⟩,fun y c e=>?_,I.free,I.freeC,fun p hp=>?_,tracked ⟨oL,hoL,I.free⟩ hs,by simpa using I.len⟩ ⟨_,hs,.inl rfl⟩
  ·exact(hs.2 b (Nat.ne_of_lt (Nat.lt_of_lt_of_le (Heap.lt_size e) I.ok.above))).trans (I.base.keep b o e n hb hx)
  ·obtain⟨sl,e1⟩:=I.base.slot b o e n hb hx;exact⟨sl,(hs.2 b (Nat.ne_of_lt (Nat.lt_of_lt_of_le (Heap.lt_size e) I.ok.above))).trans e1⟩
  ·obtain⟨o',e1⟩:=I.base.there b o e hx;exact⟨o',(hs.2 b (Nat.ne_of_lt (Nat.lt_of_lt_of_le (Heap.lt_size e) I.ok.above))).trans e1⟩
  ·by_cases hj:j=i
   ·subst hj;rw[hi]at e1;cases e1;rw[List.getElem?_set_self hiσ]at e2;cases e2;exact⟨u,r,.inl ⟨hk,by simp⟩⟩
   ·rw[List.getElem?_set_ne (Ne.symm hj)]at e2;obtain⟨u',r',q⟩:=hl j y v' e1 e2 e3;refine⟨u',r',?_⟩;rcases q with⟨k,e⟩ |⟨k,c,e,z⟩
    ·refine .inl ⟨k,?_⟩;have:y≠x:=fun e=>hj (ir hN e1 (e▸hi));simp[this,e]
    ·exact .inr ⟨k,c,e,z.sameBut hs (cne y c e)⟩
  ·obtain⟨w',z⟩:=I.cell y c e;exact⟨w',z.sameBut hs (cne y c e)⟩
  ·obtain⟨e,n,ne,nf,d⟩:=I.pin p hp;exact⟨(hs.2 p.1 ne).trans e,n,ne,nf,d⟩
 ·have hfn:X.fn x=true:=by
   rcases hf with z | z
   ·exact z
   ·rw[z]at hk;cases hk
  obtain⟨c,hc⟩:=I.ok.has x (.inl hk);obtain⟨w',z⟩:=I.cell x c hc;refine wpAny_storeName_cell I.ok.kind hk hc z (fun h' hc' hs=>?_);obtain⟨oc,hoc,hocd⟩:=id z;refine h { s with heap:=h' } ⟨I.ok,I.os,I.bare,⟨fun b o e n hb hx=>?_,fun b o e n hb hx=>?_,I.base.free,fun b o e hx=>?_,I.base.tups,I.base.frzs,I.base.tbls⟩,⟨m,hn.sameBut hs (Ne.symm (cne x c hc)),fun j y v' e1 e2 e3=>?_⟩,fun y c' e=>?_,I.free,I.freeC,fun p hp=>?_,tracked ⟨oc,hoc,I.freeC x c hc⟩ hs,by simpa using I.len⟩ ⟨c,hs,.inr hc⟩
  ·exact(hs.2 b (Nat.ne_of_lt (Nat.lt_of_lt_of_le (Heap.lt_size e) (I.ok.cab x c hfn hc)))).trans (I.base.keep b o e n hb hx)
  ·obtain⟨sl,e1⟩:=I.base.slot b o e n hb hx;exact⟨sl,(hs.2 b (Nat.ne_of_lt (Nat.lt_of_lt_of_le (Heap.lt_size e) (I.ok.cab x c hfn hc)))).trans e1⟩
  ·obtain⟨o',e1⟩:=I.base.there b o e hx;exact⟨o',(hs.2 b (Nat.ne_of_lt (Nat.lt_of_lt_of_le (Heap.lt_size e) (I.ok.cab x c hfn hc)))).trans e1⟩
  ·by_cases hj:j=i
   ·subst hj;rw[hi]at e1;cases e1;rw[List.getElem?_set_self hiσ]at e2;cases e2;exact⟨u,r,.inr ⟨.inl hk,c,hc,hc'⟩⟩
   ·rw[List.getElem?_set_ne (Ne.symm hj)]at e2;obtain⟨u',r',q⟩:=hl j y v' e1 e2 e3;refine⟨u',r',?_⟩;rcases q with q |⟨k,c',e,z'⟩
    ·exact .inl q
    ·refine .inr ⟨k,c',e,z'.sameBut hs ?_⟩;rintro rfl;exact hj (ir hN e1 (I.ok.inj _ _ _ e hc▸hi))
  ·by_cases hcc:c'=c
   ·subst hcc;exact⟨_,hc'⟩
   ·obtain⟨w2,z2⟩:=I.cell y c' e;exact⟨w2,z2.sameBut hs hcc⟩
  ·obtain⟨e,n,ne,nf,d⟩:=I.pin p hp;refine⟨(hs.2 p.1 ?_).trans e,n,ne,nf,d⟩;intro q;rw[q,hoc]at e;have q':oc=p.2:=Option.some.inj e;exact d w' (by rw[←q'];exact hocd)
theorem iJ{M:Model}{A:Around}{E:Value->Shared->Prop}{i:Nat}{x:Str}{v:V}{u:Value}{Q:Unit->Shared->Prop}(I:Inv X pins σ H s)(hN:X.N.Nodup)(hi:X.N[i]?=some x)(hx:Loc X.env.scope x)(r:RelV v u)
  (h:∀s',Inv X pins (σ.set i (some v)) H s'->Q () s') (hf:X.fn x=true∨X.env.scope.names.lookup x=some .local:=by first | exact .inl rfl | exact .inr rfl | assumption):wpAny M A (storeName X.env x u) Q E s :=
 je I hN hi hx r (fun s' I' _=>h s' I') hf
theorem Inv.call'{s':Shared}{ch:List Addr}(I:Inv X pins σ H s)(ho:s'.os=s.os)(u:Un (frs X.stack) ch H H' s.heap s'.heap)(hok:HOk X.prog X.w H' s'.heap)(hg:AllBare s'.gens)
  (hch:∀b∈ch,(b∈X.ex∨X.s₀.heap.objs.size≤b)/\b≠X.env.locals/\(∀x c,X.env.cells.lookup x=some c->c≠b)/\∀p∈X.pn++pins,p.1≠b):Inv X pins σ H' s':=by
 obtain⟨h',g',d',t',o'⟩:=s';have e:o'=s.os:=ho;subst e;exact I.call (g':=g') (t':=t') (d':=d') u hok hg hch
end
abbrev XK:=Value->Option Addr->Hp->Prop
abbrev St:=List (Option V)
abbrev VK:=V->Hp->Prop
abbrev TE:=St->Hp->VK->Prop
abbrev TT:=St->Hp->(Bool->Hp->Prop)->Prop
abbrev TA:=St->Hp->(List V->Hp->Prop)->Prop
structure Ends where
 nx:St->Hp->Prop
 rt:VK
 bk:St->Hp->Prop:=fun _ _=>False
 ct:St->Hp->Prop:=fun _ _=>False
abbrev TS:=Ends->St->Hp->Prop
def EP(X:Cx)(pins:List (Addr×Obj))(σ:St)(Q:VK)(u:Value)(s':Shared):Prop:=∃v H',Inv X pins σ H' s'/\RelV v u/\Q v H'
def TP(X:Cx)(pins:List (Addr×Obj))(σ:St)(Q:Bool->Hp->Prop)(b:Bool)(s':Shared):Prop:=∃H',Inv X pins σ H' s'/\Q b H'
def AP(X:Cx)(pins:List (Addr×Obj))(σ:St)(Q:List V->Hp->Prop)(us:List Value)(s':Shared):Prop:=∃vs H',Inv X pins σ H' s'/\Vals vs us/\Q vs H'
def SP(X:Cx)(pins:List (Addr×Obj))(D:Ends)(f:Flow)(s':Shared):Prop :=
 match f with
 | .next=>∃σ' H',Inv X pins σ' H' s'/\D.nx σ' H'
 | .brk=>∃σ' H',Inv X pins σ' H' s'/\D.bk σ' H'
 | .cont=>∃σ' H',Inv X pins σ' H' s'/\D.ct σ' H'
 | .ret u=>∃v σ' H',Inv X pins σ' H' s'/\RelV v u/\D.rt v H'
def PE(X:Cx)(e:Expr)(t:TE):Prop :=
 ∀(pins:List (Addr×Obj)) (s:Shared) (σ:St) (H:Hp) (Q:VK),Inv X pins σ H s->t σ H Q->wpAny (model X.prog X.w) X.A (eval e X.env) (EP X pins σ Q) X.xe s
def PT(X:Cx)(e:Expr)(t:TT):Prop :=
 ∀(pins:List (Addr×Obj)) (s:Shared) (σ:St) (H:Hp) (Q:Bool->Hp->Prop),Inv X pins σ H s->t σ H Q->wpAny (model X.prog X.w) X.A (isTrue e X.env (eval e X.env)) (TP X pins σ Q) X.xe s
def PW(X:Cx)(e:Expr)(t:TT):Prop :=
 ∀(whole:Sem Value) (pins:List (Addr×Obj)) (s:Shared) (σ:St) (H:Hp) (Q:Bool->Hp->Prop),Inv X pins σ H s->t σ H Q->wpAny (model X.prog X.w) X.A (isTrue e X.env whole) (TP X pins σ Q) X.xe s
theorem PW.pt{X:Cx}{e:Expr}{t:TT}(h:PW X e t):PT X e t:=h _
def PA(X:Cx)(es:List Expr)(t:TA):Prop :=
 ∀(pos:Pos) (pins:List (Addr×Obj)) (s:Shared) (σ:St) (H:Hp) (Q:List V->Hp->Prop),Inv X pins σ H s->t σ H Q->wpAny (model X.prog X.w) X.A (spliced (backTo pos (starEach es X.env))) (AP X pins σ Q) X.xe s
def PS(X:Cx)(st:Stmt)(t:TS):Prop :=
 ∀(pins:List (Addr×Obj)) (s:Shared) (σ:St) (H:Hp) (D:Ends),Inv X pins σ H s->t D σ H->wpAny (model X.prog X.w) X.A (exec st X.env) (SP X pins D) X.xe s
def PSs(X:Cx)(st:List Stmt)(t:TS):Prop :=
 ∀(pins:List (Addr×Obj)) (s:Shared) (σ:St) (H:Hp) (D:Ends),Inv X pins σ H s->t D σ H->wpAny (model X.prog X.w) X.A (execs st X.env) (SP X pins D) X.xe s
theorem thn{α:Type}{t:Sem α}{Q Q':α->Shared->Prop}{M:Model}{A:Around}{E:Value->Shared->Prop}{s:Shared}(h:wpAny M A t Q E s)(hQ:∀a s,Q a s->Q' a s):wpAny M A t Q' E s:=wpAny_mono h hQ fun _ _ x=>x
end
section
section
variable {X:Cx}
theorem bin{a b:Expr}{ta tb:TE}(ha:PE X a ta)(hb:PE X b tb){pins:List (Addr×Obj)}{s:Shared}{σ:St}{H:Hp}{R:V->V->Hp->Prop}(I:Inv X pins σ H s)(h:ta σ H fun x H1=>tb σ H1 fun y H2=>R x y H2)
  {α:Type} {Q:α->Shared->Prop} {f:Value->Value->Sem α}
  (hf:∀v u s2 x y H2,Inv X pins σ H2 s2->RelV x v->RelV y u->R x y H2->wpAny (model X.prog X.w) X.A (f v u) Q X.xe s2) :
  wpAny (model X.prog X.w) X.A (eval a X.env) (fun v s₁=>wpAny (model X.prog X.w) X.A (eval b X.env) (fun u s₂=>wpAny (model X.prog X.w) X.A (f v u) Q X.xe s₂) X.xe s₁) X.xe s:=by
 refine thn (ha pins s σ H _ I h) fun v s1 ⟨x,H1,I1,r1,q1⟩=>?_;refine thn (hb pins s1 σ H1 _ I1 q1) fun u s2 ⟨y,H2,I2,r2,q2⟩=>?_;exact hf v u s2 x y H2 I2 r1 r2 q2
def BR(i:Nat):TE:=fun σ H Q=>∃v,σ[i]?=some (some v)/\Q v H
def tC(v:V):TE:=fun _ H Q=>Q v H
theorem qr{i:Nat}{x:Str}{pos:Pos}(hN:X.N[i]?=some x)(hv:Vis X.env.scope x)(hd:(x==("__debug__":Str))=false:=by decide)(hcd:(x==("__classdict__":Str))=false:=by decide):PE X (.Name x pos) (BR i):=by
 intro pins s σ H Q I h;obtain⟨v,e,h⟩:=h;obtain⟨m,hn,hl⟩:=I.loc;obtain⟨u,r,l⟩:=hl i x v hN e hv;have fin:EP X pins σ Q u s:=⟨v,H,I,r,h⟩;rcases l with⟨hk,hm⟩ |⟨hk,c,hc,hcell⟩
 ·exact wpAny_Name (wpAny_loadName_local I.ok.kind hk hn hm fin) hd
 ·rcases hk with hk | hk
  ·exact wpAny_Name (wpAny_loadName_cell I.ok.kind hk hc hcell fin) hd
  ·exact wpAny_Name (wpAny_loadName_free I.ok.kind hk hc hcell fin hcd) hd
theorem yJ{i j pos}:PE X (.Constant (.int i) j pos) (tC (.int i)):=fun _ _ _ H _ I h=>wpAny_Constant_int ⟨.int i,H,I.tok _,⟨_,rfl⟩,h⟩
theorem zV{b j pos}:PE X (.Constant (.bool b) j pos) (tC (.bl b)):=fun _ _ _ H _ I h=>Constant_bool ⟨.bl b,H,I,rfl,h⟩
theorem yo{j pos}:PE X (.Constant .none j pos) (tC .non):=fun _ _ _ H _ I h=>Constant_none ⟨.non,H,I,rfl,h⟩
theorem sj{x j pos}:PE X (.Constant (.str x) j pos) (tC (.str x)):=fun _ _ _ H _ I h=>Calls.Constant_str ⟨.str x,H,I.tok _,⟨_,rfl⟩,h⟩
def Gl(X:Cx)(x:Str):Prop:=X.env.kindOf x=some .globalImplicit
theorem eH{E:Value->Shared->Prop}{pins:List (Addr×Obj)}{s:Shared}{σ:St}{H:Hp}{x:Str}{u:Value}{pos:Pos}{Q:Value->Shared->Prop}(I:Inv X pins σ H s)(hg:Gl X x)(hm:X.mg x=some u)(h:Q u s)
  (hd:(x==("__debug__":Str))=false:=by decide):wpAny (model X.prog X.w) X.A (eval (.Name x pos) X.env) Q E s :=
 Calls.Name_function_global I.ok.kind hg (Calls.loadGlobal_global (by rw[I.ok.glob];exact I.mod.glob.keeps I.bk) hm h) hd
theorem cR{E:Value->Shared->Prop}{pins:List (Addr×Obj)}{s:Shared}{σ:St}{H:Hp}{x:Str}{u:Value}{pos:Pos}{Q:Value->Shared->Prop}(I:Inv X pins σ H s)(hg:Gl X x)(hm:X.mg x=none)(hv:bootBuiltins x=some u)(h:Q u s)
  (hn:x≠"__name__":=by decide) (hd:(x==("__debug__":Str))=false:=by decide):wpAny (model X.prog X.w) X.A (eval (.Name x pos) X.env) Q E s:=by
 obtain⟨mb,h1,h2⟩:=I.mod.blt;exact Calls.Name_function_global I.ok.kind hg (Calls.loadGlobal_builtin (by rw[I.ok.glob];exact I.mod.glob.keeps I.bk) hm (by rw[I.ok.blt];exact h1.keeps I.bk) ((h2 x hn).trans hv) h) hd
theorem nO{x:Str}{v:V}{u:Value}{pos:Pos}(hg:Gl X x)(hm:X.mg x=some u)(r:RelV v u)(hd:(x==("__debug__":Str))=false:=by decide):PE X (.Name x pos) (tC v) :=
 fun _ _ _ H _ I h=>eH I hg hm ⟨v,H,I,r,h⟩ hd
theorem uq{x:Str}{v:V}{u:Value}{pos:Pos}(hg:Gl X x)(hm:X.mg x=none)(hv:bootBuiltins x=some u)(r:RelV v u)(hn:x≠"__name__":=by decide)(hd:(x==("__debug__":Str))=false:=by decide):PE X (.Name x pos) (tC v) :=
 fun _ _ _ H _ I h=>cR I hg hm hv ⟨v,H,I,r,h⟩ hn hd
variable {a b:Expr}{ta tb:TE}{pos:Pos}
def PC(X:Cx)(op:CmpOp)(a b:Expr)(t:TE):Prop :=
 ∀(pins:List (Addr×Obj)) (s:Shared) (σ:St) (H:Hp) (Q:VK),Inv X pins σ H s->t σ H Q ->
  wpAny (model X.prog X.w) X.A (eval a X.env) (fun v s₁=>wpAny (model X.prog X.w) X.A (eval b X.env) (fun u s₂=>wpAny (model X.prog X.w) X.A (compareOp op v u) (EP X pins σ Q) X.xe s₂) X.xe s₁) X.xe s
theorem rM(b:Expr){op:CmpOp}(h:op≠.In)(h2:op≠.NotIn):behindInMarks op b=false:=by
 have e1:(op==CmpOp.In)=false:=by cases op<;>first | rfl | exact absurd rfl h
 have e2:(op==CmpOp.NotIn)=false:=by cases op<;>first | rfl | exact absurd rfl h2
 cases b<;>simp[behindInMarks,e1,e2]
def tB(t:TE):TT:=fun σ H Q=>t σ H fun x H1=>∃c,x=.bl c/\Q c H1
theorem Dq{op:CmpOp}{t:TE}(h:PC X op a b t)(h1:behindInMarks op b=false:=by first | exact rM _ (by decide) (by decide) | rfl):PT X (.Compare a [op] [b] pos) (tB t):=by
 intro pins s σ H Q I hw;refine wpAny_isTrue_Compare1 (thn (h pins s σ H _ I hw) fun v s1 h1=>thn h1 fun u s2 h2=>thn h2 fun c s3 ⟨x,H1,I1,r1,q1⟩=>?_) h1;obtain⟨d,rfl,q⟩:=q1;cases r1;exact wpAny_truthy_bool ⟨H1,I1,q⟩
theorem zI{e:Expr}{t:TE}(h:PE X e t)(he:∀whole,isTrue e X.env whole=(do let v←whole;standAt e.pos;holding [v] (truthy v)):=by intro _;rfl):PT X e (tB t):=by
 intro pins s σ H Q I hw;refine isTrue_plain (thn (h pins s σ H _ I hw) fun v s1 ⟨x,H1,I1,r1,q1⟩=>?_) (he _);obtain⟨d,rfl,q⟩:=q1;cases r1;exact wpAny_truthy_bool ⟨H1,I1,q⟩
variable {tA tB':TT}{rest:List Expr}
def DW(t u:TT):TT:=fun σ H Q=>t σ H fun c H1=>if c=true then u σ H1 Q else Q false H1
def tOr(t u:TT):TT:=fun σ H Q=>t σ H fun c H1=>if c=true then Q true H1 else u σ H1 Q
def Cc(t:TT):TT:=fun σ H Q=>t σ H fun c H1=>Q (!c) H1
theorem uu(ha:PT X a tA):PW X (.BoolOp .And [a] pos) tA:=by
 intro wh pins s σ H Q I h;refine isTrue_and (thn (ha pins s σ H Q I h) fun c s1 e=>?_);cases c with
 | true=>exact isTrue_and_nil e
 | false=>exact e
theorem yq(ha:PT X a tA):PW X (.BoolOp .Or [a] pos) tA:=by
 intro wh pins s σ H Q I h;refine isTrue_or (thn (ha pins s σ H Q I h) fun c s1 e=>?_);cases c with
 | false=>exact isTrue_or_nil e
 | true=>exact e
theorem xD(ha:PT X a tA)(hb:PW X (.BoolOp .And (b::rest) pos) tB'):PW X (.BoolOp .And (a::b::rest) pos) (DW tA tB'):=by
 intro wh pins s σ H Q I h;refine isTrue_and (thn (ha pins s σ H _ I h) fun c s1 ⟨H1,I1,q1⟩=>?_);cases c with
 | true=>exact hb wh pins s1 σ H1 Q I1 q1
 | false=>exact⟨H1,I1,q1⟩
theorem A5(ha:PT X a tA)(hb:PW X (.BoolOp .Or (b::rest) pos) tB'):PW X (.BoolOp .Or (a::b::rest) pos) (tOr tA tB'):=by
 intro wh pins s σ H Q I h;refine isTrue_or (thn (ha pins s σ H _ I h) fun c s1 ⟨H1,I1,q1⟩=>?_);cases c with
 | true=>exact⟨H1,I1,q1⟩
 | false=>exact hb wh pins s1 σ H1 Q I1 q1
theorem xT(ha:PT X a tA):PT X (.UnaryOp .Not a pos) (Cc tA):=by
 intro pins s σ H Q I h;exact isTrue_not (ha pins s σ H (fun c H1=>Q (!c) H1) I h)
def z9(ta tb:TE):TE:=fun σ H Q=>ta σ H fun x H1=>∃c,x=.bl c/\if c=true then tb σ H1 Q else Q (.bl false) H1
def Aq(ta:TE):TE:=fun σ H Q=>ta σ H fun x H1=>∃c,x=.bl c/\Q (.bl (!c)) H1
theorem xB{op}{t:TE}(h:PE X a t):PE X (.BoolOp op [a] pos) t:=fun pins s σ H Q I hw=>BoolOp_one (h pins s σ H Q I hw)
theorem xx(ha:PE X a ta)(hb:PE X (.BoolOp .And (b::rest) pos) tb):PE X (.BoolOp .And (a::b::rest) pos) (z9 ta tb):=by
 intro pins s σ H Q I h;refine BoolOp_and (thn (ha pins s σ H _ I h) fun v s1 ⟨x,H1,I1,r1,q1⟩=>?_);obtain⟨c,rfl,q1⟩:=q1;cases r1;refine wpAny_truthy_bool ?_;cases c with
 | true=>exact hb pins s1 σ H1 Q I1 q1
 | false=>exact⟨.bl false,H1,I1,rfl,q1⟩
theorem xA(ha:PE X a ta):PE X (.UnaryOp .Not a pos) (Aq ta):=by
 intro pins s σ H Q I h;refine UnaryOp_ (thn (ha pins s σ H _ I h) fun v s1 ⟨x,H1,I1,r1,q1⟩=>?_);obtain⟨c,rfl,q1⟩:=q1;cases r1;exact not_of (wpAny_truthy_bool ⟨.bl (!c),H1,I1,rfl,q1⟩)
end
end
section
def SqL(K:PySem.W.Frag)(H:Hp)(a:Addr)(xs:List V):Prop :=
 Rd H a (.lst xs) ∨
  ∃(o:Obj) (its:Array Value) (n:Nat),K.lookup a=some o/\o.cls=.type "list"/\o.dict=none/\o.data=.seq its n/\its.size≤sizeLine/\Vals xs its.toList
def SqT(K:PySem.W.Frag)(H:Hp)(a:Addr)(xs:List V):Prop :=
 Rd H a (.tup xs) ∨
  ∃(o:Obj) (its:Array Value) (n:Nat),K.lookup a=some o/\o.cls=.type "tuple"/\o.data=.seq its n/\its.size≤sizeLine/\Vals xs its.toList
def Cv:Value->Option V
 | .none=>some .non
 | .bool b=>some (.bl b)
 | .int i _=>some (.int i)
 | .str x _=>some (.str x)
 | .bytes b _=>some (.byt b)
 | .float b _=>some (.flt b)
 | .ref a=>some (.ref a)
 | .type n=>some (.ty n)
 | _=>none
theorem RelV.abs{x:V}{u:Value}(r:RelV x u):Cv u=some x:=by
 cases x with
 | non=>cases r;rfl
 | bl _=>cases r;rfl
 | int _=>obtain⟨t,rfl⟩:=r;rfl
 | str _=>obtain⟨t,rfl⟩:=r;rfl
 | byt _=>obtain⟨t,rfl⟩:=r;rfl
 | flt _=>obtain⟨t,rfl⟩:=r;rfl
 | ref _=>cases r;rfl
 | ty _=>cases r;rfl
theorem RelV.inj{x y:V}{u:Value}(r:RelV x u)(q:RelV y u):x=y:=Option.some.inj (r.abs.symm.trans q.abs)
theorem Vals.inj:∀{xs ys:List V} {us:List Value},Vals xs us->Vals ys us->xs=ys
 | _,_,_,.nil,.nil=>rfl
 | _,_,_,.cons r t,.cons r' t'=>by rw[r.inj r',Vals.inj t t']
section
variable {X:Cx}{pins:List (Addr×Obj)}{σ:St}{H:Hp}{s:Shared}{a:Addr}{xs ys:List V}
theorem SqL.of{K:PySem.W.Frag}(h:H a=some (.lst xs)):SqL K H a xs:=.inl (.inl h)
theorem SqT.of{K:PySem.W.Frag}(h:H a=some (.tup xs)):SqT K H a xs:=.inl (.inl h)
theorem Inv.list(I:Inv X pins σ H s)(h:SqL X.K H a xs):∃its:List Value,Vals xs its/\PlainL s.heap a its.toArray/\xs.length≤sizeLine:=by
 rcases h with h |⟨o,its,n,hk,hc,hd,hs,hz,r⟩
 ·obtain⟨z,its,n,r,e⟩:=h.ok I.hok;exact⟨its,r,⟨_,n,e,rfl,rfl,rfl⟩,z⟩
 ·refine⟨its.toList,r,⟨o,n,I.kIn a o hk,hc,hd,by simpa using hs⟩,?_⟩;have e:=r.length;simp only[Array.length_toList]at e;omega
theorem Inv.tuple(I:Inv X pins σ H s)(h:SqT X.K H a xs):∃its:List Value,Vals xs its/\IsTup s.heap a its.toArray/\xs.length≤sizeLine:=by
 rcases h with h |⟨o,its,n,hk,hc,hs,hz,r⟩
 ·obtain⟨z,its,r,p⟩:=h.ok I.hok;exact⟨its,r,p,z⟩
 ·refine⟨its.toList,r,⟨o,I.kIn a o hk,hc,n,by simpa using hs⟩,?_⟩;have e:=r.length;simp only[Array.length_toList]at e;omega
theorem Inv.list_inj(I:Inv X pins σ H s)(h:SqL X.K H a xs)(h':SqL X.K H a ys):xs=ys:=by
 obtain⟨its,r,⟨o,n,e,_,_,d⟩,_⟩:=I.list h;obtain⟨its',r',⟨o',n',e',_,_,d'⟩,_⟩:=I.list h';rw[e]at e';cases e';rw[d]at d';injection d' with d1 _;have:its=its':=by simpa using congrArg Array.toList d1
 subst this;exact r.inj r'
theorem Inv.tuple_inj(I:Inv X pins σ H s)(h:SqT X.K H a xs)(h':SqT X.K H a ys):xs=ys:=by
 obtain⟨its,r,⟨o,e,_,n,d⟩,_⟩:=I.tuple h;obtain⟨its',r',⟨o',e',_,n',d'⟩,_⟩:=I.tuple h';rw[e]at e';cases e';rw[d]at d';injection d' with d1 _;have:its=its':=by simpa using congrArg Array.toList d1
 subst this;exact r.inj r'
end
abbrev Cx.wish(X:Cx)(E:Value->Shared->Prop):Cx:={ X with xe:=E }
abbrev Cx.nox(X:Cx):Cx:=X.wish fun _ _=>False
theorem Cx.Ok.wish{X:Cx}(ok:X.Ok)(E:Value->Shared->Prop):(X.wish E).Ok :=
 ⟨ok.mod,ok.kind,ok.glob,ok.blt,ok.above,ok.inj,ok.has,ok.cab,ok.hd,ok.frames,ok.stk,ok.exf,ok.bs,ok.bsz,ok.noex,ok.exfs,ok.funs,ok.frf⟩
theorem Cx.Ok.unwish{X:Cx}{E:Value->Shared->Prop}(ok:(X.wish E).Ok):X.Ok :=
 ⟨ok.mod,ok.kind,ok.glob,ok.blt,ok.above,ok.inj,ok.has,ok.cab,ok.hd,ok.frames,ok.stk,ok.exf,ok.bs,ok.bsz,ok.noex,ok.exfs,ok.funs,ok.frf⟩
section
variable {X:Cx}{pins:List (Addr×Obj)}{σ:St}{H:Hp}{s:Shared}{E:Value->Shared->Prop}
theorem Inv.wish(I:Inv X pins σ H s)(E:Value->Shared->Prop):Inv (X.wish E) pins σ H s:=⟨I.ok.wish E,I.os,I.bare,I.base,I.loc,I.cell,I.free,I.freeC,I.pin,I.hok,I.len⟩
theorem Inv.unwish(I:Inv (X.wish E) pins σ H s):Inv X pins σ H s:=⟨I.ok.unwish,I.os,I.bare,I.base,I.loc,I.cell,I.free,I.freeC,I.pin,I.hok,I.len⟩
theorem SP.unwish{D:Ends}{f:Flow}{s':Shared}(h:SP (X.wish E) pins D f s'):SP X pins D f s':=by
 cases f with
 | next=>obtain⟨σ',H',I,q⟩:=h;exact⟨σ',H',I.unwish,q⟩
 | brk=>obtain⟨σ',H',I,q⟩:=h;exact⟨σ',H',I.unwish,q⟩
 | cont=>obtain⟨σ',H',I,q⟩:=h;exact⟨σ',H',I.unwish,q⟩
 | ret u=>obtain⟨v,σ',H',I,r,q⟩:=h;exact⟨v,σ',H',I.unwish,r,q⟩
theorem PSs.nox{st:List Stmt}{t:TS}(h:PSs X.nox st t):PSs X st t:=fun pins s σ H D I hw =>
 wpAny_mono (h pins s σ H D (I.wish _) hw) (fun _ _ q=>q.unwish) fun _ _ z=>False.elim z
end
section
variable {X:Cx}{st:Stmt}{rest:List Stmt}{t u:TS}{e:Expr}{te:TE}{pos:Pos}
def BY:TS:=fun D σ H=>D.nx σ H
def DP(t u:TS):TS:=fun D σ H=>t { D with nx:=u D } σ H
theorem vx:PSs X [] BY:=fun _ _ σ H _ I h=>wpAny_execs_nil ⟨σ,H,I,h⟩
theorem qY(h1:PS X st t)(h2:PSs X rest u):PSs X (st::rest) (DP t u):=by
 intro pins s σ H D I h;refine wpAny_execs_cons (thn (h1 pins s σ H { D with nx:=u D } I h) fun f s1 q=>?_);cases f with
 | next =>
  obtain⟨σ',H',I',q⟩:=q;exact h2 pins s1 σ' H' D I' q
 | ret v=>exact q
 | brk=>exact q
 | cont=>exact q
theorem m9(h1:PS X st t):PSs X [st] t:=by
 intro pins s σ H D I h;refine wpAny_execs_cons (thn (h1 pins s σ H D I h) fun f s1 q=>?_);cases f with
 | next=>exact wpAny_execs_nil q
 | ret v=>exact q
 | brk=>exact q
 | cont=>exact q
theorem Inv.quiet{pins:List (Addr×Obj)}{σ:St}{H:Hp}{s:Shared}(I:Inv X pins σ H s):interactive X.env=false:=by simp[interactive,I.ok.kind]
def zQ(te:TE):TS:=fun D σ H=>te σ H fun _ H1=>D.nx σ H1
theorem vo(he:PE X e te)(hs:swapsWith e none pos.line X.env=pure false:=by rfl):PS X (.Expr e pos) (zQ te):=by
 intro pins s σ H D I h;exact wpAny_Expr_any (thn (he pins s σ H _ I h) fun v s1 ⟨x,H1,I1,r1,q1⟩=>⟨σ,H1,I1,q1⟩) I.quiet hs
def CZ(te:TE):TS:=fun D σ H=>te σ H D.rt
theorem xg(he:PE X e te):PS X (.Return (some e) pos) (CZ te):=by
 intro pins s σ H D I h;exact wpAny_Return_some (thn (he pins s σ H _ I h) fun v s1 ⟨x,H1,I1,r1,q1⟩=>⟨x,σ,H1,I1,r1,q1⟩)
def Ei(c:TT)(t u:TS):TS:=fun D σ H=>c σ H fun b H1=>if b=true then t D σ H1 else u D σ H1
theorem BI{c:Expr}{a b:List Stmt}{tc:TT}(hc:PT X c tc)(ha:PSs X a t)(hb:PSs X b u):PS X (.If c a b pos) (Ei tc t u):=by
 intro pins s σ H D I h;refine wpAny_If (thn (hc pins s σ H _ I h) fun d s1 ⟨H1,I1,q1⟩=>?_);cases d with
 | true=>exact ha pins s1 σ H1 D I1 q1
 | false=>exact hb pins s1 σ H1 D I1 q1
end
abbrev TG:=V->St->Hp->(St->Hp->Prop)->Prop
abbrev TGs:=List V->St->Hp->(St->Hp->Prop)->Prop
def PG(X:Cx)(target:Expr)(t:TG):Prop :=
 ∀(pins:List (Addr×Obj)) (s:Shared) (σ:St) (H:Hp) (v:V) (u:Value) (Q:St->Hp->Prop),Inv X pins σ H s->RelV v u->t v σ H Q ->
  wpAny (model X.prog X.w) X.A (assign target X.env u) (fun _ s'=>∃σ' H',Inv X pins σ' H' s'/\Q σ' H') X.xe s
def PGs(X:Cx)(ts:List Expr)(t:TGs):Prop :=
 ∀(pins:List (Addr×Obj)) (s:Shared) (σ:St) (H:Hp) (vs:List V) (us:List Value) (Q:St->Hp->Prop),Inv X pins σ H s->Vals vs us->t vs σ H Q ->
  wpAny (model X.prog X.w) X.A (assignInOrder ((assignEach ts X.env).map (·.2)) us) (fun _ s'=>∃σ' H',Inv X pins σ' H' s'/\Q σ' H') X.xe s
abbrev B8:=V->V->V->Hp->(Hp->Prop)->Prop
def ll(X:Cx)(t:B8):Prop :=
 ∀(pins:List (Addr×Obj)) (s:Shared) (σ:St) (H:Hp) (o i v:V) (ov iv u:Value) (Q:Hp->Prop),Inv X pins σ H s->RelV o ov->RelV i iv->RelV v u->t o i v H Q ->
  wpAny (model X.prog X.w) X.A (setItem ov iv u) (fun _ s'=>∃H',Inv X pins σ H' s'/\Q H') X.xe s
section
variable {X:Cx}{pos:Pos}
def ou(i:Nat):TG:=fun v σ H Q=>Q (σ.set i (some v)) H
theorem vv{i:Nat}{x:Str}(hN:X.N.Nodup)(hi:X.N[i]?=some x)(hx:Loc X.env.scope x)(hf:X.fn x=true∨X.env.scope.names.lookup x=some .local:=by first | exact .inl rfl | exact .inr rfl | assumption):PG X (.Name x pos) (ou i):=by
 intro pins s σ H v u Q I r h;exact wpAny_assign_Name (iJ I hN hi hx r (fun s' I'=>⟨_,H,I',h⟩) hf)
def CC:TGs:=fun vs σ H Q=>vs=[]/\Q σ H
def AN(t:TG)(u:TGs):TGs:=fun vs σ H Q=>∃v r,vs=v::r/\t v σ H fun σ' H'=>u r σ' H' Q
theorem uR:PGs X [] CC:=by
 intro pins s σ H vs us Q I r h;obtain⟨e,h⟩:=h;subst e;cases r;exact assignInOrder_nil ⟨σ,H,I,h⟩
theorem rj{e:Expr}{es:List Expr}{t:TG}{u:TGs}(h1:PG X e t)(h2:PGs X es u)
  (hs:(assignEach (e::es) X.env).map (·.2)=assign e X.env::(assignEach es X.env).map (·.2):=by rfl):PGs X (e::es) (AN t u):=by
 intro pins s σ H vs us Q I r h;obtain⟨v,vr,e1,h⟩:=h;subst e1;cases r with
 | cons r rr =>
  rw[hs];refine assignInOrder_cons (thn (h1 pins s σ H _ _ _ I r h) fun _ s1 ⟨σ1,H1,I1,q1⟩=>?_);exact h2 pins s1 σ1 H1 _ _ Q I1 rr q1
def C1(K:PySem.W.Frag)(n:Nat)(t:TGs):TG:=fun v σ H Q=>∃a xs,v=.ref a/\SqT K H a xs/\xs.length=n/\t xs σ H Q
theorem xS{es:List Expr}{k:Nat}{t:TGs}{n:Nat}(hc:X.calm=true)(h:PGs X es t)
  (hn:(assignEach es X.env).length=n:=by rfl) (hst:(assignEach es X.env).findIdx? (·.1)=none:=by rfl):PG X (.Tuple es k pos) (C1 X.K n t):=by
 intro pins s σ H v u Q I r hw;obtain⟨a,xs,e1,hq,hl,hw⟩:=hw;subst e1;cases r;obtain⟨its,rv,ht,hz⟩:=I.tuple hq;refine assign_Tuple_tuple (I.ok.hd hc) ht (by simp[hn,← hl,rv.length]) hst fun h' hx=>?_;have I1:Inv X pins σ H { s with heap:=h' }:=I.kept (t':=s.toks) fun b o e=>hx b o (Nat.ne_of_lt (Heap.lt_size e)) e;exact h pins _ σ H xs _ Q I1 (by simpa using rv) hw
def A4(te:TE)(g:TG):TS:=fun D σ H=>te σ H fun x H1=>g x σ H1 D.nx
theorem sg{i:Nat}{x:Str}{e:Expr}{te:TE}{pos':Pos}(hN:X.N.Nodup)(hi:X.N[i]?=some x)(hx:Loc X.env.scope x)(he:PE X e te)(hs:swapsWith e (some (.Name x pos')) pos.line X.env=pure false:=by rfl)(hf:X.fn x=true∨X.env.scope.names.lookup x=some .local:=by first | exact .inl rfl | exact .inr rfl | assumption) :
  PS X (.Assign [.Name x pos'] e pos) (A4 te (ou i)):=by
 intro pins s σ H D I h;refine wpAny_Assign_Name (thn (he pins s σ H _ I h) fun v s1 ⟨y,H1,I1,r1,q1⟩=>?_) hs;exact iJ I1 hN hi hx r1 (fun s2 I2=>⟨_,H1,I2,q1⟩) hf
end
section
variable {X:Cx}{pos:Pos}
def qu(c:TT)(tb:TS):TS:=fun D σ H=>∃W:Nat->St->Hp->Prop,(∃m,W m σ H)/\∀m σ H,W m σ H ->
 c σ H fun b H1=>if b=true then ∃N:St->Hp->Prop,(∀σ' H',N σ' H'->∃m',m'<m/\W m' σ' H')/\tb { D with nx:=N,ct:=N,bk:=D.nx } σ H1 else D.nx σ H1
theorem qE{c:Expr}{body:List Stmt}{tc:TT}{tb:TS}(hp:PassesOwn (model X.prog X.w) X.A X.env X.xe)(hc:PT X c tc)(hb:PSs X body tb):PS X (.While c body [] pos) (qu tc tb):=by
 intro pins s σ H D I h;obtain⟨W,⟨m0,w0⟩,turn⟩:=h;refine wpAny_While (codeAny_whileLoop (fun n s'=>∃σ' H',Inv X pins σ' H' s'/\W n σ' H') ?_ m0 ⟨σ,H,I,w0⟩);rintro n s1 ⟨σ1,H1,I1,w1⟩;refine wpAny_passesOwn hp (thn (hc pins s1 σ1 H1 _ I1 (turn n σ1 H1 w1)) fun b s2 ⟨H2,I2,q2⟩=>?_);cases b with
 | true =>
  obtain⟨N,hN,q2⟩:=q2;rw[if_pos rfl];refine wpAny_passesOwn hp (thn (hb pins s2 σ1 H2 _ I2 q2) fun f s3 q3=>?_);cases f with
  | next =>
   obtain⟨σ3,H3,I3,n3⟩:=q3;obtain⟨m',hm,w3⟩:=hN σ3 H3 n3;exact⟨m',hm,σ3,H3,I3,w3⟩
  | cont =>
   obtain⟨σ3,H3,I3,n3⟩:=q3;obtain⟨m',hm,w3⟩:=hN σ3 H3 n3;exact⟨m',hm,σ3,H3,I3,w3⟩
  | brk=>exact q3
  | ret v=>exact q3
 | false =>
  rw[if_neg Bool.false_ne_true];exact wpAny_execs_nil ⟨σ1,H2,I2,q2⟩
end
structure It where
 go:Nat->Hp->Prop
 yld:Nat->Hp->V->Hp->Prop
 stop:Nat->Hp->Prop
def fj(X:Cx)(pins:List (Addr×Obj))(H:Hp)(b:Addr):Prop :=
 H b=none/\b≠X.env.locals/\b∉X.fs/\(b∈X.ex∨X.s₀.heap.objs.size≤b)/\(∀x c,X.env.cells.lookup x=some c->c≠b)/\∀p∈X.pn++pins,p.1≠b
theorem Inv.fpOk{X:Cx}{pins:List (Addr×Obj)}{σ:St}{H H':Hp}{s:Shared}{b:Addr}(I:Inv X pins σ H s)(hb:s.heap.objs.size≤b)(hn:H' b=none):fj X pins H' b:=by
 refine⟨hn,Nat.ne_of_gt (Nat.lt_of_lt_of_le I.lt hb),I.nofs hb,.inr (Nat.le_trans I.sz hb),fun x c e z=>?_,fun p hp z=>?_⟩
 ·obtain⟨v,q⟩:=I.cell x c e;exact absurd (Nat.lt_of_lt_of_le q.lt (by rw[z];exact hb)) (Nat.lt_irrefl _)
 ·exact absurd (Nat.lt_of_lt_of_le (Heap.lt_size (I.pin p hp).1) (by rw[z];exact hb)) (Nat.lt_irrefl _)
structure Turn (P:Program) (w:World) (K:PySem.W.Frag) (tg:Expr) (J:It) (fp:List Addr) (it:Addr) (tn:Nat→Heap→Prop):Prop where
 mem:it∈fp
 obj:∀i h,tn i h->∀b∈fp,∃o,h.get? b=some o/\∀v,o.data≠.cell v
 keep:∀i h h',tn i h->(∀b∈fp,∀o,h.get? b=some o->h'.get? b=some o)->tn i h'
 item:∀(X:Cx),X.prog=P->X.w=w->X.K=K->X.calm=true->∀(i:Nat) (pins:List (Addr×Obj)) (s:Shared) (σ:St) (H:Hp) (E:Value->Shared->Prop),Inv X pins σ H s->(∀b∈fp,fj X pins H b)->tn i s.heap->J.go i H ->
  wpAny (model P w) X.A (pyNext (.ref it)) (fun r s1=>∃u,r=some u /\
   wpAny (model P w) X.A (letOwnedTupleGo tg (.ref it) u) (fun _ s2=>∃x H',Inv X pins σ H' s2/\RelV x u/\J.yld i H x H'/\tn (i+1) s2.heap/\∀b∈fp,H' b=none) E s1) E s
 done:∀(X:Cx),X.prog=P->X.w=w->X.K=K->X.calm=true->∀(i:Nat) (pins:List (Addr×Obj)) (s:Shared) (σ:St) (H:Hp) (E:Value->Shared->Prop),Inv X pins σ H s->(∀b∈fp,fj X pins H b)->tn i s.heap->J.stop i H ->
  wpAny (model P w) X.A (pyNext (.ref it)) (fun r s1=>r=none/\Inv X pins σ H s1) E s
 self:∀(A:Around) (i:Nat) (s:Shared) (Q:Value->Shared->Prop) (E:Value->Shared->Prop),tn i s.heap->Q (.ref it) s->wpAny (model P w) A (pyIter (.ref it)) Q E s
abbrev TI:=St->Hp->(It->Hp->Prop)->Prop
def PIE(X:Cx)(pins:List (Addr×Obj))(σ:St)(tg:Expr)(R:It->Hp->Prop)(itv:Value)(s2:Shared):Prop :=
 ∃(it:Addr) (fp:List Addr) (tn:Nat->Heap->Prop) (J:It) (H':Hp),itv=.ref it/\Inv X pins σ H' s2/\Turn X.prog X.w X.K tg J fp it tn/\tn 0 s2.heap/\(∀b∈fp,fj X pins H' b)/\R J H'
def PI(X:Cx)(tg iter:Expr)(wi:TI):Prop :=
 ∀(pins:List (Addr×Obj)) (s:Shared) (σ:St) (H:Hp) (R:It->Hp->Prop),Inv X pins σ H s->wi σ H R ->
  wpAny (model X.prog X.w) X.A (eval iter X.env) (fun v s1=>wpAny (model X.prog X.w) X.A (pyIter v) (PIE X pins σ tg R) X.xe s1) X.xe s
theorem ny{M:Model}{A:Around}{E:Value->Shared->Prop}{s:Shared}{tg:Expr}{it:Addr}{u:Value}{o:Obj}{n:String}{vs:Array Value}{Q:Unit->Shared->Prop}(ho:s.heap.get? it=some o)(hc:o.cls=.type n)(hd:o.data=.fields vs)
  (hn:["enumerate","zip","dict_itemiterator","dict_reverseitemiterator","odict_iterator","itertools.zip_longest","itertools.pairwise"].contains n=false) (hQ:Q () s):wpAny M A (letOwnedTupleGo tg (.ref it) u) Q E s:=by
 unfold letOwnedTupleGo;cases tg<;>first
  | exact wpAny_pure hQ
  |(cases u<;>first
    | exact wpAny_pure hQ
    | (refine wpAny_bind (wpAny_load ho ?_)
       rw [hc,hd];show wpAny M A (if (["enumerate","zip","dict_itemiterator","dict_reverseitemiterator","odict_iterator","itertools.zip_longest","itertools.pairwise"].contains n && vs[0]? == some (rawInt _))=true then _ else _) Q E s;rw [if_neg (by intro h; rw [hn,Bool.false_and] at h; cases h)];exact wpAny_pure hQ))
def Itl(K:PySem.W.Frag)(a:Addr):It :=
 ⟨fun i H=>∃xs x,SqL K H a xs/\xs[i]?=some x,fun i H x H'=>H'=H/\∀xs,SqL K H a xs->xs[i]?=some x,fun i H=>∃xs,SqL K H a xs/\xs.length≤i⟩
def Itt(K:PySem.W.Frag)(a:Addr):It :=
 ⟨fun i H=>∃xs x,SqT K H a xs/\xs[i]?=some x,fun i H x H'=>H'=H/\∀xs,SqT K H a xs->xs[i]?=some x,fun i H=>∃xs,SqT K H a xs/\xs.length≤i⟩
def Itr(lo:Int)(n:Nat):It:=⟨fun i _=>i<n,fun i H x H'=>H'=H/\x=.int (lo+i),fun i _=>n≤i⟩
theorem pe{P:Program}{w:World}{K:PySem.W.Frag}{tg:Expr}(a it:Addr):Turn P w K tg (Itl K a) [it] it (fun i h=>h.IsListIter it a i) where
 mem:=by simp
 obj:=fun i h st b hb=>by
  have e:b=it:=by simpa using hb
  subst e;obtain⟨o,e,c,d⟩:=st;exact⟨o,e,fun v z=>by rw[d]at z;cases z⟩
 keep:=fun i h h' st k=>st.at fun o e=>k it (by simp) o e
 item:=by
  intro X hP hw hK hc i pins s σ H E I hf st hg;subst hP hw hK;obtain⟨xs,x,hq,hx⟩:=hg;obtain⟨its,rv,p,hz⟩:=I.list hq;obtain⟨u,hu,ru⟩:=rv.get hx;obtain⟨f0,f1,f2,f3,f4,f5⟩:=hf it (by simp);refine wpAny_pyNext_list_item st p.isList (x:=u) (by simpa using hu) fun h' st' sb=>?_;have I1:Inv X pins σ H { s with heap:=h' }:=I.turned (t':=s.toks) (fun b o hb e=>(sb.2 b hb).trans e) f0 f1 f3 f4 f5;obtain⟨o,e,c,d⟩:=id st';exact⟨u,rfl,ny (s:={ s with heap:=h' }) e c d (by decide) ⟨x,H,I1,ru,⟨rfl,fun ys hy=>by rw[I.list_inj hy hq];exact hx⟩,st',fun b hb=>(hf b hb).1⟩⟩
 done:=by
  intro X hP hw hK hc i pins s σ H E I hf st hg;subst hP hw hK;obtain⟨xs,hq,hx⟩:=hg;obtain⟨its,rv,p,hz⟩:=I.list hq;obtain⟨f0,f1,f2,f3,f4,f5⟩:=hf it (by simp);have hl:=rv.length;exact wpAny_pyNext_list_end (I.ok.hd hc) st p.isList (by simp;omega) fun h' eb=>⟨rfl,I.turned (t':=s.toks) (fun b o hb e=>eb b o hb e) f0 f1 f3 f4 f5⟩
 self:=fun _ _ _ _ _ st h=>wpAny_pyIter_listiter st h
theorem l9{P:Program}{w:World}{K:PySem.W.Frag}{tg:Expr}(a it:Addr):Turn P w K tg (Itt K a) [it] it (fun i h=>h.IsTupleIter it a i) where
 mem:=by simp
 obj:=fun i h st b hb=>by
  have e:b=it:=by simpa using hb
  subst e;obtain⟨o,e,c,d⟩:=st;exact⟨o,e,fun v z=>by rw[d]at z;cases z⟩
 keep:=fun i h h' st k=>st.at fun o e=>k it (by simp) o e
 item:=by
  intro X hP hw hK hc i pins s σ H E I hf st hg;subst hP hw hK;obtain⟨xs,x,hq,hx⟩:=hg;obtain⟨its,rv,p,hz⟩:=I.tuple hq;obtain⟨u,hu,ru⟩:=rv.get hx;obtain⟨f0,f1,f2,f3,f4,f5⟩:=hf it (by simp);refine wpAny_pyNext_tuple_item st (show s.heap.IsTuple a its.toArray from p) (x:=u) (by simpa using hu) fun h' st' sb=>?_;have I1:Inv X pins σ H { s with heap:=h' }:=I.turned (t':=s.toks) (fun b o hb e=>(sb.2 b hb).trans e) f0 f1 f3 f4 f5;obtain⟨o,e,c,d⟩:=id st';exact⟨u,rfl,ny (s:={ s with heap:=h' }) e c d (by decide) ⟨x,H,I1,ru,⟨rfl,fun ys hy=>by rw[I.tuple_inj hy hq];exact hx⟩,st',fun b hb=>(hf b hb).1⟩⟩
 done:=by
  intro X hP hw hK hc i pins s σ H E I hf st hg;subst hP hw hK;obtain⟨xs,hq,hx⟩:=hg;obtain⟨its,rv,p,hz⟩:=I.tuple hq;obtain⟨f0,f1,f2,f3,f4,f5⟩:=hf it (by simp);have hl:=rv.length;exact wpAny_pyNext_tuple_end (I.ok.hd hc) st (show s.heap.IsTuple a its.toArray from p) (by simp;omega) fun h' eb=>⟨rfl,I.turned (t':=s.toks) (fun b o hb e=>eb b o hb e) f0 f1 f3 f4 f5⟩
 self:=fun _ _ _ _ _ st h=>wpAny_pyIter_tupleiter st h
theorem mn{P:Program}{w:World}{K:PySem.W.Frag}{tg:Expr}(it:Addr)(lo:Int)(n:Nat):Turn P w K tg (Itr lo n) [it] it (fun i h=>IsRangeIter h it (lo+(i:Nat)*1) ((n:Int) - (i:Nat)) 1) where
 mem:=by simp
 obj:=fun i h st b hb=>by
  have e:b=it:=by simpa using hb
  subst e;exact⟨_,st,fun v z=>by
   have z':Data.fields _=Data.cell v:=z;cases z'⟩
 keep:=fun i h h' st k=>k it (by simp) _ st
 item:=by
  intro X hP hw hK hc i pins s σ H E I hf st hg;subst hP hw hK;obtain⟨f0,f1,f2,f3,f4,f5⟩:=hf it (by simp);have W:=Walks.range (prog:=X.prog) (w:=X.w) (I.ok.hd hc) it lo 1 n;refine W.item i s _ _ hg st fun v h' tk hv st' kk=>?_;obtain⟨t,rfl⟩:=hv;have I1:Inv X pins σ H { s with heap:=h',toks:=tk }:=I.turned (fun b o hb e=>kk b o (by simpa using hb) e) f0 f1 f3 f4 f5;refine⟨_,rfl,ny (s:={ s with heap:=h',toks:=tk }) (n:="range_iterator") st' rfl rfl (by decide) ⟨.int (lo+i),H,I1,⟨t,?_⟩,⟨rfl,rfl⟩,st',fun b hb=>(hf b hb).1⟩⟩;rw[Int.mul_one]
 done:=by
  intro X hP hw hK hc i pins s σ H E I hf st hg;subst hP hw hK;obtain⟨f0,f1,f2,f3,f4,f5⟩:=hf it (by simp);exact wpAny_pyNext_range_end (I.ok.hd hc) st (by have:n≤i:=hg;omega) fun h' eb=>⟨rfl,I.turned (t':=s.toks) (fun b o hb e=>eb b o hb e) f0 f1 f3 f4 f5⟩
 self:=fun _ _ _ _ _ st h=>wpAny_pyIter_rangeiter st h
end
section
section
variable {X:Cx}{tg:Expr}
theorem lE{pins:List (Addr×Obj)}{σ:St}{H:Hp}{s:Shared}{R:It->Hp->Prop}{E:Value->Shared->Prop}{lo hi:Int}{t u v:Tok}{tk:Nat}(I:Inv X pins σ H s)(h1:-(2 ^ 62)≤lo)(h2:lo<2 ^ 62)(h3:-(2 ^ 62)≤hi)(h4:hi<2 ^ 62)
  (q:R (Itr lo (hi - lo).toNat) H):wpAny (model X.prog X.w) X.A (pyIter (.ref s.heap.objs.size)) (PIE X pins σ tg R) E { s with heap:=s.heap.push { cls:=.type "range",data:=.fields #[.int lo t,.int hi u,.int 1 v] },toks:=tk }:=by
 refine wpAny_pyIter_range (IsRange.new ..) (small_one h1 h2 h3 h4) ?_;have I1:Inv X pins σ H { s with heap:=s.heap.push { cls:=.type "range",data:=.fields #[.int lo t,.int hi u,.int 1 v] },toks:=tk }:=I.kept fun b o e=>Heap.get?_push_of_some _ e;refine⟨(s.heap.push { cls:=.type "range",data:=.fields #[.int lo t,.int hi u,.int 1 v] }).objs.size,[(s.heap.push { cls:=.type "range",data:=.fields #[.int lo t,.int hi u,.int 1 v] }).objs.size],_,_,H,rfl,
  I1.kept (t':=tk) fun b o e=>Heap.get?_push_of_some _ e,mn _ lo (hi - lo).toNat,?_,fun b hb=>?_,q⟩
 ·have e1:lo+((0:Nat):Int)*1=lo:=by simp
  have e2:(((hi - lo).toNat:Nat):Int) - ((0:Nat):Int)=Builtin.Range.rangeSize lo hi 1:=by rw[rangeSize_one];split<;>omega
  show IsRangeIter _ _ (lo+((0:Nat):Int)*1) ((((hi - lo).toNat:Nat):Int) - ((0:Nat):Int)) 1;rw[e1,e2];exact Heap.get?_push_size _ rfl
 ·have e:b=(s.heap.push { cls:=.type "range",data:=.fields #[.int lo t,.int hi u,.int 1 v] }).objs.size:=by simpa using hb
  subst e;exact I1.fpOk (Nat.le_refl _) (I1.hok.fresh (Nat.le_refl _))
def BW(ta:TA):TI:=fun σ H R=>ta σ H fun vs H1=>∃j:Int,vs=[.int j]/\-(2 ^ 62)≤j/\j<2 ^ 62/\R (Itr 0 j.toNat) H1
def zY(ta:TA):TI:=fun σ H R=>ta σ H fun vs H1=>∃i j:Int,vs=[.int i,.int j]/\(-(2 ^ 62)≤i/\i<2 ^ 62/\-(2 ^ 62)≤j/\j<2 ^ 62)/\R (Itr i (j - i).toNat) H1
theorem pQ{a:Expr}{ta:TA}{p pos:Pos}(hg:Gl X "range")(hm:X.mg "range"=none)(ha:PA X [a] ta)(hs:starEach [a] X.env=[(false,eval a X.env)]:=by rfl):PI X tg (.Call (.Name "range" p) [a] [] pos) (BW ta):=by
 intro pins s σ H R I h;refine Call_ (cR I hg hm boot_range (PyProof.Rows.callWith_type1 (thn (ha pos pins s σ H _ I h) fun us s1 ⟨vs,H1,I1,r1,q1⟩=>?_) hs rfl));obtain⟨j,e,q1,q2,q⟩:=q1;subst e;cases r1 with
 | cons r rr =>
  cases rr;obtain⟨t,rfl⟩:=r;exact call_range_1 (lE I1 (by omega) (by omega) q1 q2 (by simpa using q))
theorem pX{a b:Expr}{ta:TA}{p pos:Pos}(hg:Gl X "range")(hm:X.mg "range"=none)(ha:PA X [a,b] ta)(hs:starEach [a,b] X.env=[(false,eval a X.env),(false,eval b X.env)]:=by rfl)(hs2:starEach [b] X.env=[(false,eval b X.env)]:=by rfl) :
  PI X tg (.Call (.Name "range" p) [a,b] [] pos) (zY ta):=by
 intro pins s σ H R I h;refine Call_ (cR I hg hm boot_range (PyProof.Rows.callWith_type1 (thn (ha pos pins s σ H _ I h) fun us s1 ⟨vs,H1,I1,r1,q1⟩=>?_) (by rw[hs,hs2]) (by rw[hs2];rfl)));obtain⟨i,j,e,⟨q1,q2,q3,q4⟩,q⟩:=q1;subst e;cases r1 with
 | cons r rr =>
  cases rr with
  | cons r' rr =>
   cases rr;obtain⟨t,rfl⟩:=r;obtain⟨t',rfl⟩:=r';exact call_range_2 (lE I1 q1 q2 q3 q4 q)
def Cs(wi:TI)(g:TG)(tb:TS):TS:=fun D σ H=>wi σ H fun J H1=>∃W:Nat->Nat->St->Hp->Prop,(∃m,W 0 m σ H1)/\∀i m σ H,W i m σ H ->
 (J.stop i H/\D.nx σ H)∨(J.go i H/\∃N:St->Hp->Prop,(∀σ' H',N σ' H'->∃m',m'<m/\W (i+1) m' σ' H')/\∀x H',J.yld i H x H'->g x σ H' fun σ2 H2=>tb { D with nx:=N,ct:=N,bk:=D.nx } σ2 H2)
def iH(fp:List Addr)(h:Heap):List (Addr×Obj):=fp.filterMap fun b=>(h.get? b).map fun o=>(b,o)
theorem di{fp:List Addr}{h:Heap}{b:Addr}{o:Obj}(hb:b∈fp)(e:h.get? b=some o):(b,o)∈iH fp h:=List.mem_filterMap.mpr ⟨b,hb,by rw[e];rfl⟩
theorem qf{fp:List Addr}{h:Heap}{p:Addr×Obj}(hp:p∈iH fp h):p.1∈fp/\h.get? p.1=some p.2:=by
 obtain⟨b,hb,e⟩:=List.mem_filterMap.mp hp;cases q:h.get? b with
 | none=>rw[q]at e;cases e
 | some o =>
  rw[q]at e;have e':(b,o)=p:=Option.some.inj e;subst e';exact⟨hb,q⟩
theorem Inv.pinned{pins:List (Addr×Obj)}{σ:St}{H:Hp}{s:Shared}{fp:List Addr}(I:Inv X pins σ H s)(hf:∀b∈fp,fj X pins H b)(ho:∀b∈fp,∃o,s.heap.get? b=some o/\∀v,o.data≠.cell v):Inv X (pins++iH fp s.heap) σ H s :=
 I.pins_of fun p hp=>(List.mem_append.mp hp).elim (fun z=>I.pin p (List.mem_append_right _ z)) fun z=>by
  obtain⟨hb,e⟩:=qf z;obtain⟨f0,f1,f2,_⟩:=hf p.1 hb;obtain⟨o,e',d⟩:=ho p.1 hb;rw[e]at e';cases e';exact⟨e,f0,f1,f2,d⟩
theorem Inv.unpinned{pins pl:List (Addr×Obj)}{σ:St}{H:Hp}{s:Shared}(I:Inv X (pins++pl) σ H s):Inv X pins σ H s:=I.pins_of fun p hp=>I.pin p (List.mem_append_right _ (List.mem_append_left _ hp))
theorem sW{iter:Expr}{body:List Stmt}{wi:TI}{g:TG}{tb:TS}{pos:Pos}(hp:PassesOwn (model X.prog X.w) X.A X.env X.xe)(hc:X.calm=true)(hi:PI X tg iter wi)(hg:PG X tg g)(hb:PSs X body tb)
  (hs:∀x,foldedSetIterable iter X.env x=pure x:=by intro _;rfl):PS X (.For tg iter body [] pos) (Cs wi g tb):=by
 intro pins s σ H D I h;refine wpAny_For (thn (hi pins s σ H _ I h) fun v s1 h1=>thn h1 fun itv s2 h2=>?_) hs;obtain⟨it,fp,tn,J,H2,e,I2,T,st2,f2,W,⟨m0,w0⟩,turn⟩:=h2;subst e;have stat:∀{H':Hp},(∀b∈fp,H' b=none)->∀b∈fp,fj X pins H' b:=fun hn b hb=>⟨hn b hb,(f2 b hb).2⟩;refine codeAny_forLoop_any (fun n s'=>∃i σ' H',Inv X pins σ' H' s'/\tn i s'.heap/\(∀b∈fp,H' b=none)/\W i n σ' H') ?_ m0 ⟨0,σ,H2,I2,st2,fun b hb=>(f2 b hb).1,w0⟩;rintro n s3 ⟨i,σ3,H3,I3,st3,fr3,w3⟩;rcases turn i n σ3 H3 w3 with⟨stop,qn⟩ |⟨go,N,hN,step⟩
 ·refine wpAny_passesOwn hp (thn (T.done X rfl rfl rfl hc i pins s3 σ3 H3 X.xe I3 (stat fr3) st3 stop) fun r s4 ⟨hr,I4⟩=>?_);subst hr;exact wpAny_execs_nil ⟨σ3,H3,I4,qn⟩
 ·refine wpAny_passesOwn hp (thn (T.item X rfl rfl rfl hc i pins s3 σ3 H3 X.xe I3 (stat fr3) st3 go) fun r s4 ⟨u,hr,h4⟩=>?_);subst hr;refine wpAny_passesOwn hp (thn h4 fun _ s5 ⟨x,H5,I5,r5,y5,st5,fr5⟩=>?_);have I5':=I5.pinned (stat fr5) (T.obj _ _ st5);refine wpAny_passesOwn hp (thn (hg _ s5 σ3 H5 x u _ I5' r5 (step x H5 y5)) fun _ s6 ⟨σ6,H6,I6,q6⟩=>?_);refine wpAny_passesOwn hp (thn (hb _ s6 σ6 H6 _ I6 q6) fun f s7 q7=>?_);have again:∀{σ7:St} {H7:Hp},Inv X (pins++iH fp s5.heap) σ7 H7 s7->N σ7 H7->∃m,m<n/\∃i σ' H',Inv X pins σ' H' s7/\tn i s7.heap/\(∀b∈fp,H' b=none)/\W i m σ' H':=fun {σ7 H7} I7 n7=>by
   obtain⟨m',hm,w7⟩:=hN σ7 H7 n7;refine⟨m',hm,i+1,σ7,H7,I7.unpinned,T.keep _ _ _ st5 fun b hb o e=>(I7.pin (b,o) (List.mem_append_right _ (List.mem_append_right _ (di hb e)))).1,fun b hb=>?_,w7⟩;obtain⟨o,e,d⟩:=T.obj _ _ st5 b hb;exact(I7.pin (b,o) (List.mem_append_right _ (List.mem_append_right _ (di hb e)))).2.1
  cases f with
  | next=>obtain⟨σ7,H7,I7,n7⟩:=q7;exact again I7 n7
  | cont=>obtain⟨σ7,H7,I7,n7⟩:=q7;exact again I7 n7
  | brk=>obtain⟨σ7,H7,I7,q7⟩:=q7;exact⟨σ7,H7,I7.unpinned,q7⟩
  | ret v=>obtain⟨x7,σ7,H7,I7,r7,q7⟩:=q7;exact⟨x7,σ7,H7,I7.unpinned,r7,q7⟩
end
theorem fc{c:TT}{tb:TS}{D:Ends}{σ:St}{H:Hp}(Pv:St->Hp->Prop)(μ:St->Hp->Nat)(h0:Pv σ H)
  (hs:∀σ H,Pv σ H->c σ H fun b H1=>if b=true then tb { D with nx:=fun σ' H'=>Pv σ' H'/\μ σ' H'<μ σ H,ct:=fun σ' H'=>Pv σ' H'/\μ σ' H'<μ σ H,bk:=D.nx } σ H1 else D.nx σ H1)
  (mono:∀σ H Q Q',(∀b H1,Q b H1->Q' b H1)->c σ H Q->c σ H Q'):qu c tb D σ H:=by
 refine⟨fun m σ H=>m=μ σ H/\Pv σ H,⟨_,rfl,h0⟩,?_⟩;rintro m σ H ⟨rfl,p⟩;refine mono σ H _ _ (fun b H1 q=>?_) (hs σ H p);cases b with
 | true=>exact⟨_,fun σ' H' ⟨p',l⟩=>⟨_,l,rfl,p'⟩,q⟩
 | false=>exact q
end
section
abbrev R2:=V->V->Hp->VK->Prop
def OpR(X:Cx)(f:Value->Value->Sem Value)(r:R2):Prop :=
 ∀(pins:List (Addr×Obj)) (s:Shared) (σ:St) (H:Hp) (x y:V) (v u:Value) (Q:VK),Inv X pins σ H s->RelV x v->RelV y u->r x y H Q ->
  wpAny (model X.prog X.w) X.A (f v u) (EP X pins σ Q) X.xe s
def UnR(X:Cx)(f:Value->Sem Value)(r:V->Hp->VK->Prop):Prop :=
 ∀(pins:List (Addr×Obj)) (s:Shared) (σ:St) (H:Hp) (x:V) (v:Value) (Q:VK),Inv X pins σ H s->RelV x v->r x H Q ->
  wpAny (model X.prog X.w) X.A (f v) (EP X pins σ Q) X.xe s
def cf(X:Cx)(f:Value)(r:List V->Hp->VK->Prop):Prop :=
 ∀(pins:List (Addr×Obj)) (s:Shared) (σ:St) (H:Hp) (xs:List V) (us:List Value) (Q:VK),Inv X pins σ H s->Vals xs us->r xs H Q ->
  wpAny (model X.prog X.w) X.A (call f us) (EP X pins σ Q) X.xe s
def tOp(r:R2)(ta tb:TE):TE:=fun σ H Q=>ta σ H fun x H1=>tb σ H1 fun y H2=>r x y H2 Q
def tUn(r:V->Hp->VK->Prop)(ta:TE):TE:=fun σ H Q=>ta σ H fun x H1=>r x H1 Q
def rI(C:Int->Int->Prop)(g:Int->Int->V):R2:=fun x y H Q=>∃i j,x=.int i/\y=.int j/\C i j/\Q (g i j) H
def rI0(g:Int->Int->V):R2:=fun x y H Q=>∃i j,x=.int i/\y=.int j/\Q (g i j) H
def rU(g:Int->V):V->Hp->VK->Prop:=fun x H Q=>∃i,x=.int i/\Q (g i) H
section
variable {X:Cx}{a b c:Expr}{ta tb tc:TE}{pos:Pos}
theorem xc(ha:PE X a ta)(hb:PE X b tb){pins:List (Addr×Obj)}{s:Shared}{σ:St}{H:Hp}{R:V->V->Hp->Prop}(I:Inv X pins σ H s)
  (h:ta σ H fun x H1=>tb σ H1 fun y H2=>R x y H2) {Q:Value->Shared->Prop} {f:Value->Value->Sem Value}
  (hf:∀v u s2 x y H2,Inv X pins σ H2 s2->RelV x v->RelV y u->R x y H2->wpAny (model X.prog X.w) X.A (f v u) Q X.xe s2) :
  wpAny (model X.prog X.w) X.A (eval a X.env) (fun v s₁=>wpAny (model X.prog X.w) X.A (eval b X.env) (fun u s₂=>wpAny (model X.prog X.w) X.A (f v u) Q X.xe s₂) X.xe s₁) X.xe s:=by
 refine thn (ha pins s σ H _ I h) fun v s1 ⟨x,H1,I1,r1,q1⟩=>?_;refine thn (hb pins s1 σ H1 _ I1 q1) fun u s2 ⟨y,H2,I2,r2,q2⟩=>?_;exact hf v u s2 x y H2 I2 r1 r2 q2
theorem AD{op:Operator}{r:R2}(ho:OpR X (binaryOp op) r)(ha:PE X a ta)(hb:PE X b tb):PE X (.BinOp a op b pos) (tOp r ta tb):=by
 intro pins s σ H Q I h;exact wpAny_BinOp (xc ha hb I h fun v u s2 x y H2 I2 rx ry q=>ho pins s2 σ H2 x y v u Q I2 rx ry q)
theorem AV{op:UnaryOp}{r:V->Hp->VK->Prop}(ho:UnR X (unaryOp op) r)(ha:PE X a ta):PE X (.UnaryOp op a pos) (tUn r ta):=by
 intro pins s σ H Q I h;exact UnaryOp_ (thn (ha pins s σ H _ I h) fun v s1 ⟨x,H1,I1,r1,q1⟩=>ho pins s1 σ H1 x v Q I1 r1 q1)
theorem opI{f:Value->Value->Sem Value}{C:Int->Int->Prop}{g:Int->Int->Int}
  (rule:∀(i j:Int) (t u:Tok) (s:Shared) (Q:Value->Shared->Prop) (E:Value->Shared->Prop),C i j->Q (.int (g i j) s.toks) { s with toks:=s.toks+1 }->wpAny (model X.prog X.w) X.A (f (.int i t) (.int j u)) Q E s) :
  OpR X f (rI C fun i j=>.int (g i j)):=by
 intro pins s σ H x y v u Q I rx ry h;obtain⟨i,j,rfl,rfl,hc,q⟩:=h;obtain⟨t,rfl⟩:=rx;obtain⟨t',rfl⟩:=ry;exact rule i j t t' s _ _ hc ⟨.int (g i j),H,I.tok _,⟨_,rfl⟩,q⟩
theorem xr{f:Value->Value->Sem Value}{g:Int->Int->Int}
  (rule:∀(i j:Int) (t u:Tok) (s:Shared) (Q:Value->Shared->Prop) (E:Value->Shared->Prop),Q (.int (g i j) s.toks) { s with toks:=s.toks+1 }->wpAny (model X.prog X.w) X.A (f (.int i t) (.int j u)) Q E s) :
  OpR X f (rI0 fun i j=>.int (g i j)):=by
 intro pins s σ H x y v u Q I rx ry h;obtain⟨i,j,rfl,rfl,q⟩:=h;obtain⟨t,rfl⟩:=rx;obtain⟨t',rfl⟩:=ry;exact rule i j t t' s _ _ ⟨.int (g i j),H,I.tok _,⟨_,rfl⟩,q⟩
theorem vq{f:Value->Value->Sem Value}{g:Int->Int->Bool}
  (rule:∀(i j:Int) (t u:Tok) (s:Shared) (Q:Value->Shared->Prop) (E:Value->Shared->Prop),Q (.bool (g i j)) s->wpAny (model X.prog X.w) X.A (f (.int i t) (.int j u)) Q E s) :
  OpR X f (rI0 fun i j=>.bl (g i j)):=by
 intro pins s σ H x y v u Q I rx ry h;obtain⟨i,j,rfl,rfl,q⟩:=h;obtain⟨t,rfl⟩:=rx;obtain⟨t',rfl⟩:=ry;exact rule i j t t' s _ _ ⟨.bl (g i j),H,I,rfl,q⟩
def zJ(i j:Int):Prop:=0≤j/\j≤1000000/\i.natAbs<2 ^ 64
def yy(i j:Int):Prop:=(-(2 ^ 64)<i/\i<2 ^ 64)∨(-(2 ^ 64)<j/\j<2 ^ 64)
theorem yy.ok{i j:Int}(h:yy i j):IntMulOk i j:=by
 rcases h with⟨h1,h2⟩ |⟨h1,h2⟩
 ·exact .of_left (intBits_le_64 h1 h2)
 ·exact .of_right (intBits_le_64 h1 h2)
theorem mQ(k:Nat):(0:Int)≤2 ^ k:=by
 rw[two_pow_cast];exact Int.natCast_nonneg _
theorem yV:OpR X (binaryOp .Add) (rI0 fun i j=>.int (i+j)):=xr fun _ _ _ _ _ _ _ q=>add_int q
theorem yW:OpR X (binaryOp .Sub) (rI0 fun i j=>.int (i - j)):=xr fun _ _ _ _ _ _ _ q=>sub_int q
theorem vi:OpR X (binaryOp .Mod) (rI (fun _ j=>j≠0) fun i j=>.int (i.fmod j)):=opI fun _ _ _ _ _ _ _ hc q=>mod_int' hc q
theorem yN:OpR X (binaryOp .Pow) (rI zJ fun i j=>.int (i ^ j.toNat)):=opI fun _ _ _ _ _ _ _ hc q=>pow_int_small hc.1 hc.2.1 hc.2.2 q
theorem zH:OpR X (binaryOp .RShift) (rI (fun _ j=>0≤j) fun i j=>.int (i / 2 ^ j.toNat)):=opI fun i j _ _ _ _ _ hc q =>
 rshift_int hc (by rw[Int.fdiv_eq_ediv_of_nonneg i (mQ _)];exact q)
theorem ym:OpR X (binaryOp .BitAnd) (rI0 fun i j=>.int (Builtin.bitAnd i j)):=xr fun _ _ _ _ _ _ _ q=>and_int q
theorem unI{f:Value->Sem Value}{g:Int->Int}
  (rule:∀(i:Int) (t:Tok) (s:Shared) (Q:Value->Shared->Prop) (E:Value->Shared->Prop),Q (.int (g i) s.toks) { s with toks:=s.toks+1 }->wpAny (model X.prog X.w) X.A (f (.int i t)) Q E s) :
  UnR X f (rU fun i=>.int (g i)):=by
 intro pins s σ H x v Q I rx h;obtain⟨i,rfl,q⟩:=h;obtain⟨t,rfl⟩:=rx;exact rule i t s _ _ ⟨.int (g i),H,I.tok _,⟨_,rfl⟩,q⟩
theorem zr:UnR X (unaryOp .USub) (rU fun i=>.int (-i)):=unI fun _ _ _ _ _ q=>neg_int q
end
section
variable {X:Cx}{a b c:Expr}{ta tb tc:TE}{pos:Pos}
theorem yf{pins:List (Addr×Obj)}{σ:St}{H:Hp}{s:Shared}{Q:VK}{k k':Bool}(I:Inv X pins σ H s)(q:Q (.bl k) H)(e:k=k'):EP X pins σ Q (.bool k') s:=by
 subst e;exact⟨.bl k,H,I,rfl,q⟩
theorem fq:OpR X (compareOp .Lt) (rI0 fun i j=>.bl (decide (i<j))):=vq fun _ _ _ _ _ _ _ q=>lt_int q
theorem wb:OpR X (compareOp .LtE) (rI0 fun i j=>.bl (decide (i≤j))):=vq fun _ _ _ _ _ _ _ q=>le_int q
theorem gE:OpR X (compareOp .Gt) (rI0 fun i j=>.bl (decide (j<i))):=vq fun _ _ _ _ _ _ _ q=>gt_int q
theorem oE:OpR X (compareOp .GtE) (rI0 fun i j=>.bl (decide (j≤i))):=vq fun _ _ _ _ _ _ _ q=>ge_int q
theorem xf:OpR X (compareOp .Is) (fun x y H Q=>y=.non/\Q (.bl (decide (x=.non))) H):=by
 intro pins s σ H x y v u Q I rx ry h;obtain⟨rfl,q⟩:=h;cases ry;refine is_none_gen (yf I q ?_);cases x<;>first
  |(cases rx;rfl)
  |(obtain⟨t,rfl⟩:=rx;rfl)
theorem aE(b:Expr){op:CmpOp}(h:op≠.In:=by decide)(h2:op≠.NotIn:=by decide):behindInMarks op b=false:=by
 have e1:(op==CmpOp.In)=false:=by cases op<;>first | rfl | exact absurd rfl h
 have e2:(op==CmpOp.NotIn)=false:=by cases op<;>first | rfl | exact absurd rfl h2
 cases b<;>simp[behindInMarks,e1,e2]
theorem vZ{op:CmpOp}{r:R2}(ho:OpR X (compareOp op) r)(ha:PE X a ta)(hb:PE X b tb)(hm:behindInMarks op b=false):PE X (.Compare a [op] [b] pos) (tOp r ta tb):=by
 intro pins s σ H Q I h;exact wpAny_Compare1 (xc ha hb I h fun v u s2 x y H2 I2 rx ry q=>ho pins s2 σ H2 x y v u Q I2 rx ry q) hm
def v8(t:TE):TT:=fun σ H Q=>t σ H fun x H'=>∃k,x=.bl k/\Q k H'
theorem vO{op:CmpOp}{r:R2}(ho:OpR X (compareOp op) r)(ha:PE X a ta)(hb:PE X b tb)(hm:behindInMarks op b=false):PT X (.Compare a [op] [b] pos) (v8 (tOp r ta tb)):=by
 intro pins s σ H Q I h;refine wpAny_isTrue_Compare1 (thn (ha pins s σ H _ I h) fun v s1 ⟨x,H1,I1,r1,q1⟩=>thn (hb pins s1 σ H1 _ I1 q1) fun u s2 ⟨y,H2,I2,r2,q2⟩ =>
  thn (ho pins s2 σ H2 x y v u _ I2 r1 r2 q2) fun c s3 ⟨z,H3,I3,r3,k,e,q3⟩=>?_) hm
 subst e;cases r3;exact wpAny_truthy_bool ⟨H3,I3,q3⟩
theorem mL:(sizeLine:Nat)<2 ^ 63:=by rw[sizeLine_eq];decide
theorem vals1{x:V}{us:List Value}(r:Vals [x] us):∃u,us=[u]/\RelV x u:=by
 cases r with
 | cons r1 r2=>cases r2;exact⟨_,rfl,r1⟩
theorem vals2{x y:V}{us:List Value}(r:Vals [x,y] us):∃u w',us=[u,w']/\RelV x u/\RelV y w':=by
 cases r with
 | cons r1 r2 =>
  cases r2 with
  | cons r3 r4=>cases r4;exact⟨_,_,rfl,r1,r3⟩
end
end
section
structure mz (h:Heap) (x dx C:Addr) (mA:Str→Option Value):Prop where
 obj:h.get? x=some (PySem.W.instObj C dx)
 ns:h.Ns1 dx mA
 ne:dx≠x
theorem pL{h:Heap}{dx:Addr}{mA:Str->Option Value}(n:h.Ns1 dx mA):∃od,h.get? dx=some od/\∀name,PySem.W.lookIn name od=some (mA name):=by
 obtain⟨o,es,ep,ho,hd,hk,_,hm⟩:=n;refine⟨o,ho,fun name=>?_⟩;have e:=hm name;unfold nsFind findBy at e;rw[←Array.find?_toList]at e;unfold PySem.W.lookIn;rw[hd];dsimp only;split
 ·rename_i y q;rw[q]at e;exact congrArg some e
 ·rename_i q;rw[q]at e;have a:es.toList.any (·.refKey)=false:=by
   rw[List.any_eq_false];intro y hy;obtain⟨z,t,hkey⟩:=hk y (Array.mem_toList_iff.mp hy);simp[DictEntry.refKey,hkey]
  have a':¬es.toList.any (·.refKey)=true:=by rw[a];exact Bool.false_ne_true
  rw[if_neg a'];exact congrArg some e
theorem mz.look{h:Heap}{x dx C:Addr}{mA:Str->Option Value}(I:mz h x dx C mA):∃od,PySem.W.InstAt h x (PySem.W.instObj C dx) C (some od)/\∀name,PySem.W.lookIn name od=some (mA name) :=
 let ⟨od,ho,hl⟩:=pL I.ns
 ⟨od,⟨I.obj,rfl,rfl,ho⟩,hl⟩
section
variable {prog:Program}{w:World}{A:Around}{E:Value->Shared->Prop}{s:Shared}{K:PySem.W.Frag}{x dx C f:Addr}{mA:Str->Option Value}{name:Str}{v:Value}
theorem get_map{expr:Bool}{Q:Value->Shared->Prop}(X:K.In s.heap)(I:mz s.heap x dx C mA)(hg:PySem.W.plainGet K C name=true)(hh:PySem.W.hasDictIn K C=true)
  (ha:PySem.W.findIn K (.ref C) name=some none) (hv:mA name=some v) (hv':PySem.W.handedIn v=true) (h:Q v { s with toks:=s.toks+1 }) :
  wpAny (model prog w) A (getAttr (.ref x) name expr) Q E s:=by
 obtain⟨od,J,hl⟩:=I.look;exact PySem.W.get_value X J (PySem.W.plainGet_of hg).1 (PySem.W.findObj_own hh ha rfl (by rw[hl,hv])) hv' h
theorem qo{pl:Sem Bool}{Q:Value×List Value->Shared->Prop}(X:K.In s.heap)(I:mz s.heap x dx C mA)(hg:PySem.W.plainGet K C name=true)
  (hf:PySem.W.findIn K (.ref C) name=some (some (.ref f))) (ht:PySem.W.isFn K (.ref f)=true) (hv:mA name=none) (h:Q (.ref f,[.ref x]) s) :
  wpAny (model prog w) A (getMethod (.ref x) name pl) Q E s:=by
 obtain⟨od,J,hl⟩:=I.look;exact PySem.W.method_fn X J (PySem.W.plainGet_of hg).1 (PySem.W.plainGet_of hg).2 hf (beq_iff_eq.mp ht) (by show(PySem.W.lookIn name od).map (·.isSome)=some false;rw[hl,hv];rfl) h
theorem vc{ns:List Str}{Q:Unit->Shared->Prop}(X:K.In s.heap)(I:mz s.heap x dx C mA)
  (hs:PySem.W.findIn K (.ref C) "__setattr__"=some (some (.builtin "object.__setattr__"))) (hp:PySem.W.plainOver K C=true) (ht:PySem.W.takerIn K C name=some none) (hh:PySem.W.hasDictIn K C=true)
  (hw:PySem.Within mA ns) (hsz:ns.length≤sizeLine)
  (h:∀h',mz h' x dx C (fun y=>if y=name then some v else mA y)->Heap.SameBut dx s.heap h'->Q () { s with heap:=h',toks:=s.toks+2 }) :
  wpAny (model prog w) A (setAttr (.ref x) name v) Q E s:=by
 obtain⟨od,J,hl⟩:=I.look;refine PySem.W.set_plain X J hs (PySem.W.osa_open (s:={ s with toks:=s.toks+1 }) (r:=none) X J hp ht fun b=>?_);obtain⟨cd,hc,hd'⟩:=PySem.W.any_some hh;have hx:s.heap.get? x=some ⟨.ref C,some dx,.plain,#[]⟩:=I.obj;refine wpAny_bind (wpAny_pure (wpAny_bind (wpAny_bind (wpAny_loadPart hx (wpAny_bind (PySem.W.Looks.here (s:={ s with toks:=s.toks+1 }) (PySem.W.looks_clsIn X hc) ?_))))));rw[hd'];refine wpAny_pure (a:=some dx) (wpAny_bind (wpAny_pure (wpAny_bind ?_)));refine wpAny_nsSet1 (s:={ s with toks:=s.toks+1 }) I.ns fun h' hn2 hs2=>?_;obtain⟨oD,esD,epD,hoD,hdD,hcD⟩:=hn2.count (PySem.Within.cons name v hw);refine wpAny_bind (wpAny_lookBehind hoD (by rw[hdD];exact pastItsLine_dict (Nat.le_trans hcD (by rw[List.length_cons];omega))) ?_);exact wpAny_pure (h _ ⟨(hs2.2 _ (Ne.symm I.ne)).trans I.obj,hn2,I.ne⟩ hs2)
theorem rn{R:Result->Shared->Prop}{vs:List Value}{kw:List (Str×Value)}(X:K.In s.heap)(hm:PySem.W.makesIn K C=true)
  (hi:PySem.W.findIn K (.ref C) "__init__"=some (some (.ref f))) (hf:PySem.W.typeIn K (.ref f)=some (.type "function"))
  (h:codeAny (model prog w) (A.under (.builtin "type.__call__" ⟨.ref C::vs,kw⟩)) (.call (.ref f) ⟨.ref (s.heap.objs.size+1)::vs,kw⟩) (PySem.W.InitBack (s.heap.objs.size+1) R)
   { s with heap:=(s.heap.push PySem.W.emptyDict).push (PySem.W.instObj C s.heap.objs.size) }) :
  codeAny (model prog w) A (.call (.ref C) ⟨vs,kw⟩) R s:=by
 obtain⟨hh,g,d,t,os⟩:=s;exact PySem.W.make_core (PySem.W.makes_of X hm) (PySem.W.looks_findIn X hi) (fun self=>PySem.W.bind_fn X self hf) (.inl rfl) h
end
def dC(f:Str)(v:V):List (Str×V)->List (Str×V)
 | []=>[(f,v)]
 |(g,x)::r=>if g=f then(g,v)::r else(g,x)::dC f v r
theorem gF(f g:Str)(v:V):∀fs:List (Str×V),(dC f v fs).lookup g=if g=f then some v else fs.lookup g
 | []=>by
  show List.lookup g [(f,v)]=_;by_cases h:g=f
  ·have hb:(g==f)=true:=beq_iff_eq.mpr h;simp only[List.lookup,hb,if_pos h]
  ·have hb:(g==f)=false:=beq_eq_false_iff_ne.mpr h;simp only[List.lookup,hb,if_neg h]
 |(k,x)::r=>by
  have ih:=gF f g v r;rw[show dC f v ((k,x)::r)=(if k=f then(k,v)::r else(k,x)::dC f v r)from rfl];by_cases hk:k=f
  ·rw[if_pos hk];by_cases h:g=k
   ·have hb:(g==k)=true:=beq_iff_eq.mpr h;simp only[List.lookup,hb,if_pos (h.trans hk)]
   ·have hb:(g==k)=false:=beq_eq_false_iff_ne.mpr h;simp only[List.lookup,hb,if_neg (fun e:g=f=>h (e.trans hk.symm))]
  ·rw[if_neg hk];by_cases h:g=k
   ·have hb:(g==k)=true:=beq_iff_eq.mpr h;simp only[List.lookup,hb,if_neg (fun e:g=f=>hk (h.symm.trans e))]
   ·have hb:(g==k)=false:=beq_eq_false_iff_ne.mpr h;simp only[List.lookup,hb];exact ih
theorem f9(f:Str)(v:V):∀fs:List (Str×V),f∈(dC f v fs).map (·.1)/\∀g,g∈fs.map (·.1)->g∈(dC f v fs).map (·.1)
 | []=>⟨by simp[dC],fun g h=>by simp at h⟩
 |(k,x)::r=>by
  obtain⟨i1,i2⟩:=f9 f v r;rw[show dC f v ((k,x)::r)=(if k=f then(k,v)::r else(k,x)::dC f v r)from rfl];by_cases hk:k=f
  ·rw[if_pos hk];subst hk;exact⟨by simp,fun g h=>by simpa using h⟩
  ·rw[if_neg hk];refine⟨?_,fun g h=>?_⟩
   ·rw[List.map_cons];exact List.mem_cons_of_mem _ i1
   ·rw[List.map_cons]at h ⊢;rcases List.mem_cons.mp h with e | e
    ·exact List.mem_cons.mpr (.inl e)
    ·exact List.mem_cons_of_mem _ (i2 g e)
theorem gA(f:Str)(v:V):∀fs:List (Str×V),(dC f v fs).length≤fs.length+1
 | []=>by simp[dC]
 |(k,x)::r=>by
  have ih:=gA f v r;rw[show dC f v ((k,x)::r)=(if k=f then(k,v)::r else(k,x)::dC f v r)from rfl];by_cases hk:k=f
  ·rw[if_pos hk,List.length_cons,List.length_cons];omega
  ·rw[if_neg hk,List.length_cons,List.length_cons];omega
theorem iU.some_of{v:V}{o:Option Value}(r:iU (some v) o):∃u,o=some u/\RelV v u:=by
 cases o with
 | none=>exact(show False from r).elim
 | some u=>exact⟨u,rfl,r⟩
theorem iU.none_of{o:Option Value}(r:iU none o):o=none:=by
 cases o with
 | none=>rfl
 | some u=>exact(show False from r).elim
theorem oS{v:V}{u:Value}(r:RelV v u):PySem.W.handedIn u=true:=by
 cases v with
 | non=>cases (show u=Value.none from r);rfl
 | bl b=>cases (show u=Value.bool b from r);rfl
 | int i=>obtain⟨t,e⟩:=(show ∃t,u=Value.int i t from r);cases e;rfl
 | str x=>obtain⟨t,e⟩:=(show ∃t,u=Value.str x t from r);cases e;rfl
 | byt b=>obtain⟨t,e⟩:=(show ∃t,u=Value.bytes b t from r);cases e;rfl
 | flt b=>obtain⟨t,e⟩:=(show ∃t,u=Value.float b t from r);cases e;rfl
 | ref a=>cases (show u=Value.ref a from r);rfl
 | ty n=>cases (show u=Value.type n from r);rfl
section
variable {P:Program}{w:World}{H H':Hp}{h h':Heap}{a C dx:Addr}{fs fs':List (Str×V)}
theorem j7(hok:HOk P w H h)(e:H a=some (.ins C dx fs)):∃mA,mz h a dx C mA/\(∀f,iU (fs.lookup f) (mA f))/\PySem.Within mA (fs.map (·.1))/\fs.length≤1000/\H dx=some (.own a):=by
 obtain⟨d,z,ne,ob,mA,n,r,q⟩:=(show bV P w H h a (.ins C dx fs)from hok a _ e);exact⟨mA,⟨ob,n,ne⟩,r,q,z,d⟩
end
structure Cls (K:PySem.W.Frag) (C:Addr):Prop where
 pg:PySem.W.plainGet K C Str.empty=true
 hd:PySem.W.hasDictIn K C=true
 po:PySem.W.plainOver K C=true
 sa:PySem.W.findIn K (.ref C) "__setattr__"=some (some (.builtin "object.__setattr__"))
theorem Cls.get{K:PySem.W.Frag}{C:Addr}(c:Cls K C)(f:Str):PySem.W.plainGet K C f=true:=c.pg
def cA(K:PySem.W.Frag)(C:Addr)(f:Str):Prop:=PySem.W.findIn K (.ref C) f=some none
theorem cA.taker{K:PySem.W.Frag}{C:Addr}{f:Str}(n:cA K C f):PySem.W.takerIn K C f=some none:=by
 unfold PySem.W.takerIn;rw[show PySem.W.findIn K (.ref C) f=some none from n];rfl
structure Meth (K:PySem.W.Frag) (C:Addr) (m:Str) (f:Addr):Prop where
 at_:PySem.W.findIn K (.ref C) m=some (some (.ref f))
 fn:PySem.W.isFn K (.ref f)=true
 kp:PySem.W.keepIn K (.ref f)=true
section
variable {X:Cx}{pins:List (Addr×Obj)}{σ:St}{H:Hp}{s:Shared}{a C dx:Addr}{fs:List (Str×V)}{f:Str}{v:V}{A:Around}{E:Value->Shared->Prop}
theorem mK{b:Bool}{Q:Value->Shared->Prop}(I:Inv X pins σ H s)(e:H a=some (.ins C dx fs))(c:Cls X.K C)(n:cA X.K C f)(l:fs.lookup f=some v)
  (h:∀u s',Inv X pins σ H s'->RelV v u->Q u s'):wpAny (model X.prog X.w) A (getAttr (.ref a) f b) Q E s:=by
 obtain⟨mA,O,r,_,_,_⟩:=j7 I.hok e;obtain⟨u,hu,ru⟩:=iU.some_of (v:=v) (o:=mA f) (by rw[←l];exact r f);exact get_map I.kIn O (c.get f) c.hd n hu (oS ru) (h u _ (I.tok _) ru)
theorem ip{m:Str}{g:Addr}{pl:Sem Bool}{Q:Value×List Value->Shared->Prop}(I:Inv X pins σ H s)(e:H a=some (.ins C dx fs))(c:Cls X.K C)(k:Meth X.K C m g)(l:fs.lookup m=none)
  (h:Q (.ref g,[.ref a]) s):wpAny (model X.prog X.w) A (getMethod (.ref a) m pl) Q E s:=by
 obtain⟨mA,O,r,_,_,_⟩:=j7 I.hok e;have hn:mA m=none:=iU.none_of (by rw[←l];exact r m);exact qo I.kIn O (c.get m) k.at_ k.fn hn h
theorem mB{y:V}{u:Value}{Q:Unit->Shared->Prop}(I:Inv X pins σ H s)(e:H a=some (.ins C dx fs))(c:Cls X.K C)(n:cA X.K C f)(hl:fs.length<1000)(ry:RelV y u)
  (h:∀s',Inv X pins σ (upd H a (.ins C dx (dC f y fs))) s'->Q () s'):wpAny (model X.prog X.w) A (setAttr (.ref a) f u) Q E s:=by
 obtain⟨mA,O,r,wi,_,ho⟩:=j7 I.hok e;have hz:(fs.map (·.1)).length≤sizeLine:=by rw[List.length_map,sizeLine_eq];omega
 refine vc I.kIn O c.sa c.po n.taker c.hd wi hz fun h' O' sb=>h _ ?_;have hd:∃o,h'.get? dx=some o:=let ⟨o,_,_,e',_⟩:=O'.ns;⟨o,e'⟩
 refine I.write (x:=a) (e:=dx) (by rw[e];exact True.intro) (.inr ho) (fun b q hb z=>(sb.2 b hb).trans z) hd ?_;refine⟨by rw[aD O.ne];exact ho,?_,O.ne,O'.obj,_,O'.ns,fun g=>?_,fun g hg=>?_⟩
 ·have:=gA f y fs;omega
 ·show iU ((dC f y fs).lookup g) (if g=f then some u else mA g);rw[gF];by_cases q:g=f
  ·rw[if_pos q,if_pos q];exact ry
  ·rw[if_neg q,if_neg q];exact r g
 ·by_cases q:g=f
  ·rw[q];exact(f9 f y fs).1
  ·refine(f9 f y fs).2 g (wi g fun z=>hg ?_);show(if g=f then some u else mA g)=none;rw[if_neg q];exact z
theorem Inv.made(I:Inv X pins σ H s):Inv X pins σ (upd (upd H s.heap.objs.size (.own (s.heap.objs.size+1))) (s.heap.objs.size+1) (.ins C s.heap.objs.size []))
  { s with heap:=(s.heap.push PySem.W.emptyDict).push (PySem.W.instObj C s.heap.objs.size) }:=by
 have e1:(s.heap.push PySem.W.emptyDict).get? s.heap.objs.size=some PySem.W.emptyDict:=Heap.get?_push_size s.heap rfl;have e2:((s.heap.push PySem.W.emptyDict).push (PySem.W.instObj C s.heap.objs.size)).get? (s.heap.objs.size+1)=some (PySem.W.instObj C s.heap.objs.size):=by
  have:=Heap.get?_push_size (s.heap.push PySem.W.emptyDict) (o:=PySem.W.instObj C s.heap.objs.size) rfl
  rwa [Heap.size_push]at this
 have e3:(s.heap.push PySem.W.emptyDict).Ns s.heap.objs.size (fun _=>none):=⟨PySem.W.emptyDict,#[],_,e1,rfl,(fun e he=>absurd he (by simp)),fun _=>rfl⟩;have I1:=I.laid (a:=s.heap.objs.size) (o:=.own (s.heap.objs.size+1)) (h':=s.heap.push PySem.W.emptyDict) (t':=s.toks) (fun b u q=>Heap.get?_push_of_some _ q) (Nat.le_refl _) ⟨_,e1⟩;refine I1.laid (a:=s.heap.objs.size+1) (o:=.ins C s.heap.objs.size []) (t':=s.toks) (fun b u q=>Heap.get?_push_of_some _ q) (Nat.le_of_eq (Heap.size_push _ _)) ?_;have ne:s.heap.objs.size≠s.heap.objs.size+1:=Nat.ne_of_lt (Nat.lt_succ_self _);refine⟨by rw[aD ne,a8],Nat.zero_le _,ne,e2,fun _=>none,(Heap.Ns1.of_empty e3).at fun o q=>Heap.get?_push_of_some _ q,fun _=>True.intro,fun y hy=>absurd rfl hy⟩
theorem vz{prog:Program}{w:World}{env:Env}{e:Expr}{f:Str}{pos:Pos}{s:Shared}{Q:Value->Shared->Prop}(hb:attributeBase e f env (eval e env)=eval e env)
  (h:wpAny (model prog w) A (eval e env) (fun o s₁=>wpAny (model prog w) A (getAttr o f true) Q E s₁) E s):wpAny (model prog w) A (eval (.Attribute e f pos) env) Q E s :=
 Attribute_any_ h (by rw[arm_eval_Attribute,hb])
end
def B5(K:PySem.W.Frag)(ta:TE)(f:Str):TE:=fun σ H Q=>ta σ H fun x H1=>∃a C dx fs v,x=.ref a/\H1 a=some (.ins C dx fs)/\Cls K C/\cA K C f/\fs.lookup f=some v/\Q v H1
def Ej(K:PySem.W.Frag)(ta tv:TE)(f:Str):TS:=fun D σ H=>tv σ H fun y H1=>ta σ H1 fun x H2=>∃a C dx fs,x=.ref a/\H2 a=some (.ins C dx fs)/\Cls K C/\cA K C f/\fs.length<1000 /\
 D.nx σ (upd H2 a (.ins C dx (dC f y fs)))
section
variable {X:Cx}{o e value:Expr}{f:Str}{pos pos' tpos:Pos}{ta tv:TE}
theorem yI(he:PE X e ta)(hb:attributeBase e f X.env (eval e X.env)=eval e X.env):PE X (.Attribute e f pos) (B5 X.K ta f):=by
 intro pins s σ H Q I h;refine vz hb (thn (he pins s σ H _ I h) fun u s1 ⟨x,H1,I1,rx,a,C,dx,fs,v,ex,ea,c,n,l,q⟩=>?_);subst ex;obtain rfl:u=Value.ref a:=rx;exact mK I1 ea c n l fun u' s2 I2 ru=>⟨v,H1,I2,ru,q⟩
theorem zw(ha:PE X o ta)(hv:PE X value tv)(hs:swapsWith value (some (.Attribute o f pos')) pos.line X.env=pure false):PS X (.Assign [.Attribute o f pos'] value pos) (Ej X.K ta tv f):=by
 intro pins s σ H D I h;refine plainObj_wpAny_Assign_Attribute (thn (hv pins s σ H _ I h) fun u s1 ⟨y,H1,I1,ry,q⟩=>thn (ha pins s1 σ H1 _ I1 q) fun ov s2 ⟨x,H2,I2,rx,a,C,dx,fs,ex,ea,c,n,l,q2⟩=>?_) hs;subst ex;obtain rfl:ov=Value.ref a:=rx;exact mB I2 ea c n l ry fun s3 I3=>⟨σ,_,I3,q2⟩
theorem wA{pl:Sem Bool}{m:Str}{apos:Pos}{args:List Expr}{pins:List (Addr×Obj)}{s:Shared}{σ:St}{H:Hp}{Q:Value->Shared->Prop}{te:TE}(he:PE X e te)(I:Inv X pins σ H s)
  (h:te σ H fun x H1=>∃a C dx fs g,x=.ref a/\H1 a=some (.ins C dx fs)/\Cls X.K C/\Meth X.K C m g/\fs.lookup m=none /\
   ∀s1,Inv X pins σ H1 s1->wpAny (model X.prog X.w) X.A (callWith pos (.ref g) [.ref a] (backTo pos (starEach args X.env)) (backToKw pos (keywordEach [] X.env))) Q X.xe s1)
  (ht:eval (.Call (.Attribute e m apos) args [] pos) X.env=(do
   let ov←eval e X.env
   standAt apos.atName
   let (f,first)←holding [ov] (getMethod ov m pl)
   callWith pos f first (backTo pos (starEach args X.env)) (backToKw pos (keywordEach [] X.env)))) :
  wpAny (model X.prog X.w) X.A (eval (.Call (.Attribute e m apos) args [] pos) X.env) Q X.xe s:=by
 refine PySem.W.methodCall_KW (pl:=pl) (thn (he pins s σ H _ I h) fun u s1 ⟨x,H1,I1,rx,a,C,dx,fs,g,ex,ea,c,k,l,q⟩=>?_) ht;subst ex;obtain rfl:u=Value.ref a:=rx;exact ip I1 ea c k l (q s1 I1)
end
section
variable {X:Cx}{pins:List (Addr×Obj)}{σ:St}{H:Hp}{s:Shared}{A:Around}{E:Value->Shared->Prop}{Q:Value->Shared->Prop}{c:Value}{b:Bool}
end
end
section
structure bP (k:Nat) (A:Around):Prop where
 hd:A.handled=none
 dp:A.depth+3*k+5<recursionLimit
 un:A.units+16*k+200<cLine
theorem bP.mono{j k:Nat}{A:Around}(r:bP k A)(h:j≤k):bP j A:=⟨r.hd,by have:=r.dp;omega,by have:=r.un;omega⟩
theorem bP.deeper{k:Nat}{A:Around}(r:bP (k+1) A)(env:Env):bP k (A.deeper env) :=
 ⟨r.hd,by have:=r.dp;show A.depth+1+3*k+5<_;omega,by have:=r.un;show A.units+3+16*k+200<_;omega⟩
theorem mZ{A:Around}{C:Addr}{us:List Value}{kw:List (Str×Value)}:(A.under (.builtin "type.__call__" ⟨.ref C::us,kw⟩)).depth=A.depth+1:=by
 first | rfl | simp[Around.under,Code.weight,Code.isCreation,Code.isGuard,Code.isCaller,Code.frames,Code.isFrame,guardIds]
theorem me{A:Around}{C:Addr}{us:List Value}{kw:List (Str×Value)}:(A.under (.builtin "type.__call__" ⟨.ref C::us,kw⟩)).units=A.units+1:=by
 first | rfl | simp[Around.under,Code.cUnits,Code.frames,Code.isFrame]
theorem bP.make{k:Nat}{A:Around}(r:bP (k+1) A)(C:Addr)(us:List Value)(kw:List (Str×Value)):bP k (A.under (.builtin "type.__call__" ⟨.ref C::us,kw⟩)) :=
 ⟨r.hd,by have:=r.dp;rw[mZ];omega,by have:=r.un;rw[me];omega⟩
theorem bP.depth{k:Nat}{A:Around}(r:bP k A):A.depth<recursionLimit:=by have:=r.dp;omega
theorem bP.units{k:Nat}{A:Around}(r:bP k A):A.units+64<cLine:=by have:=r.un;omega
def Aw:TA:=fun _ H Q=>Q [] H
def si(ta:TE)(tr:TA):TA:=fun σ H Q=>ta σ H fun x H1=>tr σ H1 fun xs H2=>Q (x::xs) H2
section
variable {X:Cx}{e:Expr}{es:List Expr}{te:TE}{t:TA}{pos:Pos}
theorem b9:PA X [] Aw:=fun _ _ _ _ H Q I h=>Calls.spliced_nil ⟨[],H,I,.nil,h⟩
theorem bD(ha:PE X e te)(hr:PA X es t)(hs:starEach (e::es) X.env=(false,eval e X.env)::starEach es X.env:=by rfl):PA X (e::es) (si te t):=by
 intro pos pins s σ H Q I h;rw[hs];show wpAny _ _ (spliced ((false,eval e X.env)::backTo pos (starEach es X.env))) _ _ s;refine Calls.spliced_cons (thn (ha pins s σ H _ I h) fun u s1 ⟨x,H1,I1,r1,q1⟩=>?_);exact thn (hr pos pins s1 σ H1 _ I1 q1) fun us s2 ⟨xs,H2,I2,r2,q2⟩=>⟨x::xs,H2,I2,.cons r1 r2,q2⟩
def Ee(t:TA):TE:=fun σ H Q=>t σ H fun xs H1=>xs.length≤sizeLine/\∀p,H1 p=none->Q (.ref p) (upd H1 p (.tup xs))
def D1(t:TA):TE:=fun σ H Q=>t σ H fun xs H1=>xs.length≤sizeLine/\∀p,H1 p=none->Q (.ref p) (upd H1 p (.lst xs))
theorem xh{x1}(h:PA X es t):PE X (.Tuple es x1 pos) (Ee t):=by
 intro pins s σ H Q I hq;refine wpAny_Tuple_spliced (thn (h pos pins s σ H _ I hq) fun us s1 ⟨xs,H1,I1,r,z,q⟩=>⟨by rw[←r.length];exact z,?_⟩);have hf:H1 s1.heap.objs.size=none:=I1.hok.fresh (Nat.le_refl _);refine⟨.ref s1.heap.objs.size,upd H1 s1.heap.objs.size (.tup xs),I1.laid (t':=s1.toks) (fun b u e=>Heap.get?_push_of_some _ e) (Nat.le_refl _) ?_,rfl,q _ hf⟩;exact⟨z,us,r,⟨_,Heap.get?_push_size _ rfl,rfl,_,rfl⟩⟩
theorem yH(h:PA X es t):PE X (.List es pos) (D1 t):=by
 intro pins s σ H Q I hq;refine wpAny_List_spliced (thn (h pos pins s σ H _ I hq) fun us s1 ⟨xs,H1,I1,r,z,q⟩=>⟨by rw[←r.length];exact z,?_⟩);have hf:H1 s1.heap.objs.size=none:=I1.hok.fresh (Nat.le_refl _);refine⟨.ref s1.heap.objs.size,upd H1 s1.heap.objs.size (.lst xs),I1.laid (t':=s1.toks) (fun b u e=>Heap.get?_push_of_some _ e) (Nat.le_refl _) ?_,rfl,q _ hf⟩;exact⟨z,us,0,r,Heap.get?_push_size _ rfl⟩
end
abbrev Sp:=List V->Hp->VK->XK->Prop
abbrev CXT:=List Env->Hp->Shared->XK->Value->Shared->Prop
structure mw (P:Program) (w:World) (K:PySem.W.Frag) (mg:Str→Option Value) (base:Heap) (A:Around) (outer:List Env) (s:Shared) (H:Hp):Prop where
 frames:A.frames=some outer
 mod:Mod K mg base
 bs:∀b o,base.get? b=some o->s.heap.get? b=some o/\H b=none
 bsz:base.objs.size≤s.heap.objs.size
 funs:s.heap.FunFrames base outer
 frf:∀b∈frs outer,H b=none
 hok:HOk P w H s.heap
 bare:AllBare s.gens
def CE(outer:List Env)(P:Program)(w:World)(H:Hp)(s:Shared)(Q:VK)(u:Value)(s':Shared):Prop :=
 ∃v H',s'.os=s.os/\AllBare s'.gens/\Un (frs outer) [] H H' s.heap s'.heap/\HOk P w H' s'.heap/\RelV v u/\Q v H'
def CR(CX:CXT)(outer:List Env)(P:Program)(w:World)(H:Hp)(s:Shared)(Q:VK)(E:XK)(r:Result)(s':Shared):Prop :=
 match r with
 | .ok (.ret u)=>CE outer P w H s Q u s'
 | .ok _=>False
 | .error e=>CX outer H s E e s'
structure iA (P:Program) (w:World) (K:PySem.W.Frag) (mg:Str→Option Value) (base:Heap) (CX:CXT) (k:Nat) (f:Addr) (fd:FuncData) (ps:List Str) (sp:Sp):Prop where
 len:∀vs H Q E,sp vs H Q E->vs.length=ps.length
 run:∀(A:Around) (outer:List Env) (s:Shared) (H:Hp) (args:Args) (us:List Value) (vs:List V) (Q:VK) (E:XK),bP k A->mw P w K mg base A outer s H->BindsTo s fd args (ps.zip us)->Vals vs us->sp vs H Q E ->
  codeAny (model P w) A (.call (.ref f) args) (CR CX outer P w H s Q E) s
theorem mw.make{P:Program}{w:World}{K:PySem.W.Frag}{mg:Str->Option Value}{base:Heap}{A:Around}{outer:List Env}{s:Shared}{H:Hp}(e:mw P w K mg base A outer s H)(C:Addr)(us:List Value)(kw:List (Str×Value)) :
  mw P w K mg base (A.under (.builtin "type.__call__" ⟨.ref C::us,kw⟩)) outer s H:=⟨by first | exact e.frames |(simpa[Around.under,Code.envs,Code.isFrame,pushEnvs]using e.frames),e.mod,e.bs,e.bsz,e.funs,e.frf,e.hok,e.bare⟩
section
variable {X:Cx}{pins:List (Addr×Obj)}{σ:St}{H:Hp}{s s':Shared}
theorem Inv.env0(I:Inv X pins σ H s):mw X.prog X.w X.K X.mg X.base X.A X.stack s H :=
 ⟨I.ok.frames,I.ok.mod,I.bs,Nat.le_trans I.ok.bsz I.sz,I.stack,I.stkFree,I.hok,I.bare⟩
theorem Inv.after{Q:VK}{u:Value}(I:Inv X pins σ H s)(h:CE X.stack X.prog X.w H s Q u s'):EP X pins σ Q u s':=by
 obtain⟨v,H',os,bare,un,hok,r,q⟩:=h;obtain⟨hh,g,d,t,os'⟩:=s';obtain rfl:os'=s.os:=os;exact⟨v,H',I.call (h':=hh) (g':=g) (d':=d) (t':=t) (ch:=[]) un hok bare (fun b z=>absurd z (by simp)),r,q⟩
end
def qz(sp:Sp)(dvs:List V)(E:XK)(t:TA):TE:=fun σ H Q=>t σ H fun vs H1=>sp (vs++dvs) H1 Q E
def rP(C:Addr)(m:Str)(sp:Sp)(dvs:List V)(E:XK)(ta:TE)(t:TA):TE:=fun σ H Q=>ta σ H fun x H1=>∃a dx fs,x=.ref a/\H1 a=some (.ins C dx fs)/\fs.lookup m=none /\
 t σ H1 fun vs H2=>sp (x::(vs++dvs)) H2 Q E
def AB(C:Addr)(sp:Sp)(dvs:List V)(E:XK)(t:TA):TE:=fun σ H Q=>t σ H fun vs H1=>∀x dx,H1 x=none->H1 dx=none->dx≠x ->
 sp (.ref x::(vs++dvs)) (upd (upd H1 dx (.own x)) x (.ins C dx [])) (fun v H2=>v=.non/\Q (.ref x) H2) E
def Binds(K:PySem.W.Frag)(fd:FuncData)(ps:List Str)(ds:List Value):Prop :=
 ∀(s:Shared) (us:List Value),K.In s.heap->(us++ds).length=ps.length->BindsTo s fd ⟨us,[]⟩ (ps.zip (us++ds))
theorem Binds.all{K:PySem.W.Frag}{fd:FuncData}{ps:List Str}(h:∀us:List Value,us.length=ps.length->bindArgs fd ⟨us,[]⟩=pure (ps.zip us)):Binds K fd ps []:=fun s us _ hl=>by
 rw[List.append_nil]at hl ⊢;exact .of_eq (h us hl)
def Passes(CX:CXT)(X:Cx)(E:XK):Prop:=∀(pins:List (Addr×Obj)) (σ:St) (H:Hp) (s:Shared) (e:Value) (s':Shared),Inv X pins σ H s->CX X.stack H s E e s'->X.xe e s'
section
variable {X:Cx}{CX:CXT}{k:Nat}{f C:Addr}{fd:FuncData}{ps:List Str}{sp:Sp}{dvs:List V}{ds:List Value}{E:XK}{x m:Str}{p pos apos:Pos}{e o:Expr}{es:List Expr}{ta:TE}{t:TA}
theorem sX{pins:List (Addr×Obj)}{σ:St}{H:Hp}{s:Shared}{Q:VK}{us:List Value}{vs:List V}(F:iA X.prog X.w X.K X.mg X.base CX k f fd ps sp)(hr:bP k X.A)(hb:Binds X.K fd ps ds)(hd:Vals dvs ds)(hx:Passes CX X E)
  (I:Inv X pins σ H s) (r:Vals vs us) (h:sp (vs++dvs) H Q E):wpAny (model X.prog X.w) X.A (call (.ref f) us) (EP X pins σ Q) X.xe s:=by
 have r2:Vals (vs++dvs) (us++ds):=r.append hd;have hl:(us++ds).length=ps.length:=by rw[←r2.length];exact F.len _ _ _ _ h
 refine wpAny_call (codeAny_mono (F.run X.A X.stack s H ⟨us,[]⟩ (us++ds) (vs++dvs) Q E hr I.env0 (hb s us I.kIn hl) r2 h) fun r s' hq=>?_);cases r with
 | error e=>exact hx pins σ H s e s' I hq
 | ok fl =>
  cases fl with
  | ret u=>exact I.after hq
  | next=>exact False.elim hq
  | brk=>exact False.elim hq
  | cont=>exact False.elim hq
theorem m3(F:iA X.prog X.w X.K X.mg X.base CX k f fd ps sp)(hr:bP k X.A)(hg:Gl X x)(hm:X.mg x=some (.ref f))(hk:PySem.W.keepIn X.K (.ref f)=true)(hb:Binds X.K fd ps ds)(hd:Vals dvs ds)(hx:Passes CX X E)
  (ha:PA X (e::es) t) (hdb:(x==("__debug__":Str))=false:=by decide) (he:starEach (e::es) X.env=(false,eval e X.env)::starEach es X.env:=by rfl) (hpl:(backTo pos (starEach es X.env)).any (·.1)=false:=by rfl) :
  PE X (.Call (.Name x p) (e::es) [] pos) (qz sp dvs E t):=by
 intro pins s σ H Q I h;refine wpAny_Call_Name_kw (eH I hg hm ?_ hdb);refine PySem.W.callWith_K (h₀:=X.base) I.ok.mod.kin hk (thn (ha pos pins s σ H _ I h) fun us s1 ⟨vs,H1,I1,r,q⟩=>⟨I1.kIn,?_⟩) he hpl;exact sX F hr hb hd hx I1 r q
theorem oq{pl:Sem Bool}(he:PE X o ta)(c:Cls X.K C)(hm:Meth X.K C m f)(F:iA X.prog X.w X.K X.mg X.base CX k f fd ps sp)(hr:bP k X.A)(hb:Binds X.K fd ps ds)(hd:Vals dvs ds)(hx:Passes CX X E)(ha:PA X (e::es) t)
  (hst:starEach (e::es) X.env=(false,eval e X.env)::starEach es X.env:=by rfl) (hpl:(backTo pos (starEach es X.env)).any (·.1)=false:=by rfl)
  (ht:eval (.Call (.Attribute o m apos) (e::es) [] pos) X.env=(do
   let ov←eval o X.env
   standAt apos.atName
   let (f,first)←holding [ov] (getMethod ov m pl)
   callWith pos f first (backTo pos (starEach (e::es) X.env)) (backToKw pos (keywordEach [] X.env))):=by rfl) :
  PE X (.Call (.Attribute o m apos) (e::es) [] pos) (rP C m sp dvs E ta t):=by
 intro pins s σ H Q I h;refine PySem.W.methodCall_KW (pl:=pl) (thn (he pins s σ H _ I h) fun u s1 ⟨x,H1,I1,rx,a,dx,fs,ex,ea,l,q⟩=>?_) ht;subst ex;obtain rfl:u=Value.ref a:=rx;refine ip I1 ea c hm l ?_;refine PySem.W.callWith_K (first:=[.ref a]) (h₀:=X.base) I.ok.mod.kin hm.kp (thn (ha pos pins s1 σ H1 _ I1 q) fun us s2 ⟨vs,H2,I2,r,q2⟩=>⟨I2.kIn,?_⟩) hst hpl;exact sX (us:=.ref a::us) (vs:=.ref a::vs) F hr hb hd hx I2 (.cons rfl r) q2
structure Mk (K:PySem.W.Frag) (C f:Addr):Prop where
 makes:PySem.W.makesIn K C=true
 init:PySem.W.findIn K (.ref C) "__init__"=some (some (.ref f))
 fn:PySem.W.isFn K (.ref f)=true
 kp:PySem.W.keepIn K (.ref C)=true
theorem sL{pins:List (Addr×Obj)}{σ:St}{H:Hp}{s:Shared}{Q:VK}{us:List Value}{vs:List V}(M:Mk X.K C f)(F:iA X.prog X.w X.K X.mg X.base CX k f fd ps sp)(hr:bP (k+1) X.A)(hb:Binds X.K fd ps ds)(hd:Vals dvs ds)
  (hx:Passes CX X E) (I:Inv X pins σ H s) (r:Vals vs us)
  (h:∀x dx,H x=none->H dx=none->dx≠x->sp (.ref x::(vs++dvs)) (upd (upd H dx (.own x)) x (.ins C dx [])) (fun v H2=>v=.non/\Q (.ref x) H2) E) :
  wpAny (model X.prog X.w) X.A (call (.ref C) us) (EP X pins σ Q) X.xe s:=by
 have hq:=h (s.heap.objs.size+1) s.heap.objs.size (I.hok.fresh (Nat.le_succ _)) (I.hok.fresh (Nat.le_refl _)) (Nat.ne_of_lt (Nat.lt_succ_self _));have I2:=Inv.made (C:=C) I;have r2:Vals (V.ref (s.heap.objs.size+1)::(vs++dvs)) (Value.ref (s.heap.objs.size+1)::(us++ds)):=.cons rfl (r.append hd);have hl:(Value.ref (s.heap.objs.size+1)::us++ds).length=ps.length:=by
  have e:=r2.length;rw[F.len _ _ _ _ hq]at e;exact e.symm
 refine wpAny_call (rn (f:=f) I.kIn M.makes M.init (beq_iff_eq.mp M.fn) (codeAny_mono (F.run _ X.stack _ _ ⟨Value.ref (s.heap.objs.size+1)::us,[]⟩ (Value.ref (s.heap.objs.size+1)::(us++ds)) _ _ E (hr.make C us [])
  (I2.env0.make C us []) (hb _ (Value.ref (s.heap.objs.size+1)::us) I2.kIn hl) r2 hq) fun r s' hq'=>?_))
 cases r with
 | error e=>exact hx pins σ _ _ e s' I2 hq'
 | ok fl =>
  cases fl with
  | ret u =>
   obtain⟨v,H',I3,rv,ev,q3⟩:=I2.after hq';subst ev;exact⟨rv,⟨V.ref (s.heap.objs.size+1),H',I3,rfl,q3⟩⟩
  | next=>exact False.elim hq'
  | brk=>exact False.elim hq'
  | cont=>exact False.elim hq'
theorem vf(M:Mk X.K C f)(F:iA X.prog X.w X.K X.mg X.base CX k f fd ps sp)(hr:bP (k+1) X.A)(hg:Gl X x)(hm:X.mg x=some (.ref C))(hb:Binds X.K fd ps ds)(hd:Vals dvs ds)(hx:Passes CX X E)
  (ha:PA X (e::es) t) (hdb:(x==("__debug__":Str))=false:=by decide) (he:starEach (e::es) X.env=(false,eval e X.env)::starEach es X.env:=by rfl) (hpl:(backTo pos (starEach es X.env)).any (·.1)=false:=by rfl) :
  PE X (.Call (.Name x p) (e::es) [] pos) (AB C sp dvs E t):=by
 intro pins s σ H Q I h;refine wpAny_Call_Name_kw (eH I hg hm ?_ hdb);refine PySem.W.callWith_K (h₀:=X.base) I.ok.mod.kin M.kp (thn (ha pos pins s σ H _ I h) fun us s1 ⟨vs,H1,I1,r,q⟩=>⟨I1.kIn,?_⟩) he hpl;exact sL M F hr hb hd hx I1 r q
end
section
variable {X:Cx}{CX:CXT}{k:Nat}{f C:Addr}{fd:FuncData}{ps ks:List Str}{sp:Sp}{E:XK}{x m:Str}{p pos apos kpos:Pos}{e o:Expr}{es:List Expr}{kws:List Keyword}{te ta:TE}{t tk:TA}{nm:Option Str}
variable {g:List Value->List Value->List Value}{gV:List V->List V->List V}
end
structure az (N P:List Str) (sc:Scope):Prop where
 kind:sc.kind=.function
 co:sc.isCoroutine=false
 gen:sc.isGenerator=false
 nd:N.Nodup
 pre:N.take P.length=P
 par:∀x∈P,sc.names.lookup x=some .local∨sc.names.lookup x=some .cell
 nofree:∀y∈sc.names,y.2≠.free
theorem i9{kindOf:Str->Option NameKind}{x:Str}:∀{binds:List (Str×Value)} {m:Str->Option Value},(∀v,(x,v)∉binds)->bindL kindOf binds m x=m x
 | [],_,_=>rfl
 |(n,v)::r,m,h=>by
  unfold bindL;rw[i9 fun w hw=>h w (List.mem_cons_of_mem _ hw)];split
  ·have:x≠n:=by rintro rfl;exact h v List.mem_cons_self
   simp[this]
  ·rfl
theorem jd{kindOf:Str->Option NameKind}{x:Str}:∀{binds:List (Str×Value)} {m:Str->Option Value},(∀v,(x,v)∉binds)->bindC kindOf binds m x=m x
 | [],_,_=>rfl
 |(n,v)::r,m,h=>by
  unfold bindC;rw[jd fun w hw=>h w (List.mem_cons_of_mem _ hw)];split
  ·rfl
  ·have:x≠n:=by rintro rfl;exact h v List.mem_cons_self
   simp[this]
theorem i0{kindOf:Str->Option NameKind}{x:Str}{v:Value}:∀{P:List Str} {vs:List Value} {i:Nat} {m:Str->Option Value},P.Nodup->P[i]?=some x->vs[i]?=some v->kindOf x=some .local ->
  bindL kindOf (P.zip vs) m x=some v
 | [],_,_,_,_,h,_,_=>by simp at h
 | _::_,[],_,_,_,_,h,_=>by simp at h
 | p::P,w::vs,0,m,nd,h1,h2,hk=>by
  simp at h1 h2;subst h1;subst h2;show bindL kindOf ((p,w)::P.zip vs) m p=_;unfold bindL;rw[i9 fun v hv=>(List.nodup_cons.mp nd).1 (List.of_mem_zip hv).1,if_pos hk];simp
 | p::P,w::vs,i+1,m,nd,h1,h2,hk=>by
  show bindL kindOf ((p,w)::P.zip vs) m x=_;unfold bindL;exact i0 (i:=i) (List.nodup_cons.mp nd).2 (by simpa using h1) (by simpa using h2) hk
theorem jt{kindOf:Str->Option NameKind}{x:Str}{v:Value}:∀{P:List Str} {vs:List Value} {i:Nat} {m:Str->Option Value},P.Nodup->P[i]?=some x->vs[i]?=some v->kindOf x≠some .local ->
  bindC kindOf (P.zip vs) m x=some v
 | [],_,_,_,_,h,_,_=>by simp at h
 | _::_,[],_,_,_,_,h,_=>by simp at h
 | p::P,w::vs,0,m,nd,h1,h2,hk=>by
  simp at h1 h2;subst h1;subst h2;show bindC kindOf ((p,w)::P.zip vs) m p=_;unfold bindC;rw[jd fun v hv=>(List.nodup_cons.mp nd).1 (List.of_mem_zip hv).1,if_neg hk];simp
 | p::P,w::vs,i+1,m,nd,h1,h2,hk=>by
  show bindC kindOf ((p,w)::P.zip vs) m x=_;unfold bindC;exact jt (i:=i) (List.nodup_cons.mp nd).2 (by simpa using h1) (by simpa using h2) hk
def start(N:List Str)(vs:List V):St:=vs.map some++List.replicate (N.length - vs.length) none
def jW(CX:CXT)(P:Program)(w:World)(K:PySem.W.Frag)(mg:Str->Option Value)(base:Heap)(N:List Str)(qual:Str)(scope:Scope)(f:Addr)(cd:Value)(A:Around)(outer:List Env)(s:Shared)(H:Hp)(E:XK):Cx where
 prog:=P
 w:=w
 K:=K
 mg:=mg
 base:=base
 A:=A.deeper (envOfC qual scope s.heap.objs.size f cd)
 N:=N
 s₀:=s
 H₀:=H
 env:=envOfC qual scope s.heap.objs.size f cd
 outer:=outer
 stack:=envOfC qual scope s.heap.objs.size f cd::outer
 ex:=[]
 calm:=true
 fn:=fun _=>true
 pn:=[]
 xe:=fun e s'=>wpAny (model P w) (A.deeper (envOfC qual scope s.heap.objs.size f cd)) (leaving (envOfC qual scope s.heap.objs.size f cd) e) (fun _ s''=>CX outer H s E e s'') (fun e' s''=>CX outer H s E e' s'') s'
theorem kQ{sc:Scope}{n:Nat}{x:Str}(h:sc.names.lookup x=some .cell):∃c,(cellsFrom n sc.names []).lookup x=some c:=by
 have q:=PySem.W.cellsFrom_some sc.names n [] (.inl h);exact Option.isSome_iff_exists.mp q
theorem qh{CX:CXT}{P:Program}{w:World}{K:PySem.W.Frag}{mg:Str->Option Value}{base:Heap}{N ps:List Str}{qual:Str}{scope:Scope}{f:Addr}{cd:Value}{A:Around}{outer:List Env}{s s1:Shared}{H:Hp}{E:XK}{us:List Value}{vs:List V}
  (S:az N ps scope) (hd:A.handled=none) (e0:mw P w K mg base A outer s H) (hl:vs.length=ps.length) (r:Vals vs us)
  (x:InCallC s s.heap.objs.size (bindL (envOfC qual scope s.heap.objs.size f cd).kindOf (ps.zip us) fun _=>none) (cellsFrom (s.heap.objs.size+1) scope.names []) (bindC (envOfC qual scope s.heap.objs.size f cd).kindOf (ps.zip us) fun _=>none) s1) :
  Inv (jW CX P w K mg base N qual scope f cd A outer s H E) [] (start N vs) H s1:=by
 have hpl:ps.length≤N.length:=by have:=congrArg List.length S.pre;rw[List.length_take]at this;omega
 obtain⟨h1,tk,rfl,hk⟩:=x.done;have noA:∀b:Addr,b∉(jW CX P w K mg base N qual scope f cd A outer s H E).ex:=fun b z=>absurd (show b∈([]:List Addr)from z) (by simp);refine⟨⟨e0.mod,S.kind,rfl,rfl,Nat.le_refl _,fun y z c h1 h2=>?_,fun y hy=>?_,fun y c _ h=>?_,fun _=>hd,Around.frames_deeper e0.frames,.inr ⟨rfl,rfl⟩,fun b z=>absurd z (noA b),e0.bs,e0.bsz,fun b _ _=>noA b,fun b z=>absurd z (noA b),e0.funs,e0.frf⟩,
  rfl,e0.bare,Un.kept hk,⟨_,x.toInCall.ns,fun i y v h1 h2 h3=>?_⟩,fun y c h=>⟨_,x.cell y c h⟩,e0.hok.fresh (Nat.le_refl _),fun y c h=>?_,fun p hp=>absurd (show p∈([]:List (Addr×Obj))from hp) (by simp),e0.hok.kept hk,?_⟩
 ·exact name_of_addr x.apart (PySem.mem_of_lookup h1) (PySem.mem_of_lookup h2)
 ·have hy:scope.names.lookup y=some .cell∨scope.names.lookup y=some .free:=hy;rcases hy with hy | hy
  ·exact kQ hy
  ·exact absurd rfl (S.nofree _ (PySem.mem_of_lookup hy))
 ·exact Nat.le_of_lt (x.above y c (PySem.mem_of_lookup h))
 ·have hi:i<vs.length:=by
   unfold start at h2;by_cases hi:i<vs.length
   ·exact hi
   ·rw[List.getElem?_append_right (by simpa using hi)]at h2;rw[List.getElem?_replicate]at h2;split at h2<;>cases h2
  have ha:vs[i]?=some v:=by
   unfold start at h2;rw[List.getElem?_append_left (by simpa using hi),List.getElem?_map]at h2;cases e:vs[i]? with
   | none=>rw[e]at h2;cases h2
   | some a=>rw[e]at h2;cases h2;rfl
  obtain⟨u,hu,rv⟩:=r.get ha;have hp:ps[i]?=some y:=by
   rw[←S.pre,List.getElem?_take_of_lt (by omega)];exact h1
  have ndP:ps.Nodup:=by rw[←S.pre];exact S.nd.sublist (List.take_sublist _ _)
  refine⟨u,rv,?_⟩;rcases S.par y (List.mem_of_getElem? hp)with k | k
  ·exact .inl ⟨k,i0 ndP hp hu k⟩
  ·obtain⟨c,e⟩:=kQ (n:=s.heap.objs.size+1) k;refine .inr ⟨.inl k,c,e,?_⟩;have q:=x.cell y c e;rw[jt ndP hp hu (by show scope.names.lookup y≠_;rw[k];decide)]at q;exact q
 ·exact e0.hok.fresh (Nat.le_of_lt (x.above y c (PySem.mem_of_lookup h)))
 ·unfold start;show _=N.length;rw[List.length_append,List.length_map,List.length_replicate];omega
theorem wO{CX:CXT}{P:Program}{w:World}{K:PySem.W.Frag}{mg:Str->Option Value}{base:Heap}{k:Nat}{f:Addr}{name qual:Str}{params:Arguments}{body:List Stmt}{scope:Scope}{dV kV doc pm cdv ct oc:Value}{an od:Option Addr}
  {osl:Array (Option Value)} {N ps:List Str} {sp:Sp} (lk:K.lookup f=some ⟨oc,od,.func (PySem.W.fnOf name qual params body scope dV kV doc pm an cdv ct),osl⟩) (hcd:PySem.W.codeIn K cdv qual=true) (S:az N ps scope)
  (len:∀vs H Q E,sp vs H Q E->vs.length=ps.length)
  (hbody:∀(A:Around) (outer:List Env) (s:Shared) (H:Hp) (vs:List V) (Q:VK) (E:XK),bP k (A.deeper (envOfC qual scope s.heap.objs.size f cdv))->sp vs H Q E ->
   ∃t,PSs (jW CX P w K mg base N qual scope f cdv A outer s H E) body t/\t { nx:=fun _ H'=>Q .non H',rt:=Q } (start N vs) H) :
  iA P w K mg base CX (k+1) f (PySem.W.fnOf name qual params body scope dV kV doc pm an cdv ct) ps sp:=by
 refine⟨len,fun A outer s H args us vs Q E hr e0 hb r hsp=>?_⟩;have hl:=len _ _ _ _ hsp;have KX:K.In s.heap:=e0.mod.kin.keeps fun b o e=>(e0.bs b o e).1;have lim:s.heap.NoLimit:=e0.mod.nolimit.keeps fun b o e=>(e0.bs b o e).1;have hkind:∀y∈ps.zip us,scope.names.lookup y.1=some .local∨(scope.names.lookup y.1=some .cell/\((cellsFrom (s.heap.objs.size+1) scope.names []).lookup y.1).isSome=true):=fun⟨n,v⟩ hy=>by
  rcases S.par n (List.of_mem_zip hy).1 with q | q
  ·exact .inl q
  ·exact .inr ⟨q,PySem.W.cellsFrom_some _ _ _ (.inl q)⟩
 refine codeAny_call_function hr.depth (KX _ _ lk) rfl S.co S.gen rfl (PySem.W.codeRec_of KX hcd) (hb _ _ _ _ ?_);refine wpAny_newFunctionEnv_cells S.kind hkind fun env he s1 x=>?_;subst he;refine⟨lim.keeps x.toInCall.keep,codeAny_func ?_⟩;obtain⟨t,ht,hq⟩:=hbody A outer s H vs Q E (hr.deeper _) hsp;have I:Inv (jW CX P w K mg base N qual scope f cdv A outer s H E) [] (start N vs) H s1:=qh S hr.hd e0 hl r x;refine wpAny_mono (ht [] s1 (start N vs) H _ I hq) (fun fl s' hs=>?_) fun e s' hs=>hs;have fin:∀{σ':St} {H':Hp} {v:V} {u:Value},Inv (jW CX P w K mg base N qual scope f cdv A outer s H E) [] σ' H' s'->RelV v u->Q v H'->CE outer P w H s Q u s' :=
  fun {σ' H' v u} J rv q=>⟨v,H',J.os,J.bare,J.base,J.hok,rv,q⟩
 cases fl with
 | ret u =>
  obtain⟨v,σ',H',J,rv,q⟩:=hs;exact fin J rv q
 | next =>
  obtain⟨σ',H',J,q⟩:=hs;exact fin (v:=V.non) (u:=Value.none) J rfl q
 | brk =>
  obtain⟨_,_,_,q⟩:=hs;exact False.elim q
 | cont =>
  obtain⟨_,_,_,q⟩:=hs;exact False.elim q
end
section
section
variable {X:Cx}{x:Str}{p pos:Pos}{e:Expr}{es:List Expr}{t:TA}{id T:String}{r:List V->Hp->VK->Prop}
def tCB(r:List V->Hp->VK->Prop)(t:TA):TE:=fun σ H Q=>t σ H fun vs H1=>r vs H1 Q
theorem cE(hc:cf X (.builtin id) r)(hg:Gl X x)(hm:X.mg x=none)(hv:bootBuiltins x=some (.builtin id))(ha:PA X (e::es) t)(hn:x≠"__name__":=by decide)(hdb:(x==("__debug__":Str))=false:=by decide)
  (he:starEach (e::es) X.env=(false,eval e X.env)::starEach es X.env:=by rfl) (hpl:(backTo pos (starEach es X.env)).any (·.1)=false:=by rfl):PE X (.Call (.Name x p) (e::es) [] pos) (tCB r t):=by
 intro pins s σ H Q I h;refine wpAny_Call_Name_kw (cR I hg hm hv ?_ hn hdb);exact PyProof.Rows.callWith_builtin1 (thn (ha pos pins s σ H _ I h) fun us s1 ⟨vs,H1,I1,r1,q1⟩=>hc pins s1 σ H1 vs us Q I1 r1 q1) he hpl
theorem cU(hc:cf X (.type T) r)(hg:Gl X x)(hm:X.mg x=none)(hv:bootBuiltins x=some (.type T))(ha:PA X (e::es) t)(hn:x≠"__name__":=by decide)(hdb:(x==("__debug__":Str))=false:=by decide)
  (he:starEach (e::es) X.env=(false,eval e X.env)::starEach es X.env:=by rfl) (hpl:(backTo pos (starEach es X.env)).any (·.1)=false:=by rfl):PE X (.Call (.Name x p) (e::es) [] pos) (tCB r t):=by
 intro pins s σ H Q I h;refine wpAny_Call_Name_kw (cR I hg hm hv ?_ hn hdb);exact PyProof.Rows.callWith_type1 (thn (ha pos pins s σ H _ I h) fun us s1 ⟨vs,H1,I1,r1,q1⟩=>hc pins s1 σ H1 vs us Q I1 r1 q1) he hpl
end
end
end L2
namespace HT
section
open PySem.SeqAt
open PySem.AutoSeq1 (wpAny_loadPart')
open PySem.MeetsSeq PySem.MeetsSeq2 PySem.MeetsSeq3
end
section
variable {prog:Program}{w:World}{A:Around}{E:Value->Shared->Prop}{s:Shared}
theorem uH{t b:Addr}{vs ws:List Value}{Q:Value->Shared->Prop}(ht:IsTup s.heap t vs.toArray)(hb:IsTup s.heap b ws.toArray)(hv:vs≠[])
  (h1:ws=[]->Q (.ref t) s) (h2:ws≠[]->Q (.ref s.heap.objs.size) { s with heap:=s.heap.push { cls:=.type "tuple",data:=.seq (vs++ws).toArray } })
  (hsz:vs.length+ws.length≤sizeLine):wpAny (model prog w) A (binaryOp .Add (.ref t) (.ref b)) Q E s:=by
 obtain⟨⟨cls,dd,data,sl⟩,ho,hc,n,hd⟩:=id ht;obtain⟨⟨cls2,dd2,data2,sl2⟩,ho2,hc2,n2,hd2⟩:=id hb;simp only at hc hd hc2 hd2;subst hc hd hc2 hd2;have e:vs.toArray++ws.toArray=(vs++ws).toArray:=by simp
 by_cases hw:ws=[]
 ·exact concat_meets ⟨_,ho,rfl⟩ ⟨_,ho2,rfl⟩ noFill_tuple_add seq_tuple_add PySem.F.slot_tuple_add PySem.F.entry_tuple_add (PySem.F.args_tuple_add_2 _ _)
   (tuple_addW1 t b vs.toArray ws.toArray n n2 dd dd2 sl sl2 (by simpa using hv) (by simp[hw])) ⟨ho,ho2,h1 hw⟩
 ·refine concat_meets ⟨_,ho,rfl⟩ ⟨_,ho2,rfl⟩ noFill_tuple_add seq_tuple_add PySem.F.slot_tuple_add PySem.F.entry_tuple_add (PySem.F.args_tuple_add_2 _ _)
   (tuple_addW2 t b vs.toArray ws.toArray n n2 dd dd2 sl sl2 (by simpa using hv) (by simpa using hw) (by rw[List.size_toArray,List.size_toArray];exact hsz)) ⟨ho,ho2,?_⟩
  rw[e];exact h2 hw
def sIx(n d:Nat):Option Int->Nat
 | none=>d
 | some v=>if v<0 then(v+(n:Int)).toNat else min v.toNat n
theorem iN(n d:Nat):sIx n d none=d:=rfl
theorem um(n d k:Nat):sIx n d (some (k:Int))=min k n:=by
 show(if (k:Int)<0 then((k:Int)+(n:Int)).toNat else min (k:Int).toNat n)=min k n;rw[if_neg (by omega),Int.toNat_natCast]
theorem xW(n d:Nat)(hd:d≤n)(o:Option Int):sIx n d o≤n:=by
 cases o with
 | none=>exact hd
 | some v =>
  show(if v<0 then(v+(n:Int)).toNat else min v.toNat n)≤n;by_cases hv:v<0
  ·rw[if_pos hv];omega
  ·rw[if_neg hv];exact Nat.min_le_right _ _
theorem oz(v:Int)(n d:Nat):(if v<0 then max (v+(n:Int)) 0 else min v (n:Int))=((sIx n d (some v):Nat):Int):=by
 show(if v<0 then max (v+(n:Int)) 0 else min v (n:Int))=(((if v<0 then(v+(n:Int)).toNat else min v.toNat n):Nat):Int);by_cases hv:v<0
 ·simp only[if_pos hv];omega
 ·simp only[if_neg hv];omega
theorem mj(lo hi:Option Int)(n:Nat):Builtin.Slice.sliceAdjust lo hi 1 (n:Int)=(((sIx n 0 lo:Nat):Int),((sIx n n hi:Nat):Int)):=by
 have h1:¬((1:Int)<0):=by omega
 unfold Builtin.Slice.sliceAdjust;simp only[h1,if_false];refine Prod.ext ?_ ?_
 ·cases lo with
  | none=>rfl
  | some v=>exact oz v n 0
 ·cases hi with
  | none=>rfl
  | some v=>exact oz v n n
theorem mf(i j:Nat):Builtin.Slice.slicePlaces (i:Int) (j:Int) 1=j - i:=by
 unfold Builtin.Slice.slicePlaces;have h1:(1:Int)>0:=by omega
 simp only[h1,if_true,Int.ediv_one];split<;>omega
theorem h9{v:Value}{o:Option Int}{Q:Option Int->Shared->Prop}(p:IsPart v o)(h:Q o s):wpAny (model prog w) A (Builtin.Slice.slicePartIndex v) Q E s:=by
 cases p with
 | none=>exact slicePart_none h
 | int i t=>exact slicePart_int h
theorem c8{sl:Addr}{vl vu:Value}{lo hi:Option Int}{n:Nat}{Q:Int×Int×Nat->Shared->Prop}(hs:s.heap.IsSliceOf sl vl vu .none)(pl:IsPart vl lo)(pu:IsPart vu hi)
  (h:Q (((sIx n 0 lo:Nat):Int),1,sIx n n hi - sIx n 0 lo) s):wpAny (model prog w) A (Builtin.Slice.sliceApplied (.ref sl) (pure (n:Int))) Q E s:=by
 obtain⟨os,hos,hcs,hds⟩:=id hs;unfold Builtin.Slice.sliceApplied Builtin.Slice.sliceFields;refine wpAny_bind (wpAny_bind (wpAny_field hos hds (x:=vl) rfl (wpAny_bind (wpAny_field hos hds (x:=vu) rfl (wpAny_bind (wpAny_field hos hds (x:=.none) rfl (wpAny_pure ?_)))))));refine wpAny_bind (slicePart_none ?_);show wpAny _ _ (if ((1:Int)==0)=true then _ else _) _ _ s;rw[if_neg (by decide)];refine wpAny_bind (h9 pl (wpAny_bind (h9 pu (wpAny_bind (wpAny_pure ?_)))));show wpAny _ _ (match Builtin.Slice.sliceAdjust lo hi 1 (n:Int)with |(lo,hi)=>pure (lo,(1:Int),Builtin.Slice.slicePlaces lo hi 1)) _ _ s;rw[mj lo hi n];show wpAny _ _ (pure (((sIx n 0 lo:Nat):Int),(1:Int),Builtin.Slice.slicePlaces ((sIx n 0 lo:Nat):Int) ((sIx n n hi:Nat):Int) 1)) _ _ s;rw[mf];exact wpAny_pure h
theorem sR(xs:Array Value)(i k:Nat):((List.range k).filterMap fun(m:Nat)=>xs[((i:Int)+(m:Int)*1).toNat]?).toArray=((xs.toList.drop i).take k).toArray:=by
 have e:(fun(m:Nat)=>xs[((i:Int)+(m:Int)*1).toNat]?)=fun m=>xs[i+m]?:=by
  funext m;have:((i:Int)+(m:Int)*1).toNat=i+m:=by omega
  rw[this]
 rw[e];have:=pick_run xs i k;rw[List.filterMap_map]at this;have e2:((fun x=>xs[x]?) ∘ fun x=>i+x)=fun m=>xs[i+m]?:=rfl;rw[e2]at this;rw[this]
theorem ft{t sl:Addr}{items:Array Value}{vl vu:Value}{lo hi:Option Int}{Q:Value->Shared->Prop}(ht:IsTup s.heap t items)(hs:s.heap.IsSliceOf sl vl vu .none)(pl:IsPart vl lo)(pu:IsPart vu hi)
  (hw:¬(sIx items.size 0 lo=0/\sIx items.size items.size hi=items.size))
  (h:Q (.ref s.heap.objs.size) { s with heap:=s.heap.push { cls:=.type "tuple",data:=.seq ((items.toList.drop (sIx items.size 0 lo)).take (sIx items.size items.size hi - sIx items.size 0 lo)).toArray } })
  (hsz:items.size≤sizeLine):wpAny (model prog w) A (getItem (.ref t) (.ref sl)) Q E s:=by
 have htake:sizeOk (.seq ((items.toList.drop (sIx items.size 0 lo)).take (sIx items.size items.size hi - sIx items.size 0 lo)).toArray):=by
  show((items.toList.drop (sIx items.size 0 lo)).take (sIx items.size items.size hi - sIx items.size 0 lo)).toArray.size≤sizeLine;rw[List.size_toArray,List.length_take,List.length_drop,Array.length_toList];omega
 have hj:sIx items.size items.size hi≤items.size:=xW _ _ (Nat.le_refl _) hi;obtain⟨os,hos,hcs,hds⟩:=id hs;have hTs:s.TypeIs (.ref sl) "slice":=⟨os,hos,hcs⟩;unfold getItem
 try with_reducible refine wpAny_holding ?_
 first | refine wpAny_bind (wpAny_pure ?_) | skip
 refine wpAny_bind (wpAny_sequenceKey ht.typeIs (by decide) ?_);refine wpAny_bind (wpAny_callSpecial?_slot (name:=Str.ofString "__getitem__") ht.typeIs PyProof.Rows.slot_tuple_getitem
  (wpAny_call_entry PyProof.Rows.slot_tuple_getitem ht.typeIs entry_tuple_getitem ?_ (args_tuple_getitem _ _)))
 show wpAny _ _ (Builtin.Tuple.tupleItemsOf (.ref t) >>= _) _ _ s;refine wpAny_bind (tupleItemsOf_ ht ?_);refine wpAny_bind (wpAny_typeOf hTs ?_);rw[if_pos (by decide)];refine wpAny_bind (c8 hs pl pu ?_);have hno:¬((((sIx items.size 0 lo:Nat):Int)==0&&(1:Int)==1&&(sIx items.size items.size hi - sIx items.size 0 lo)==items.size)=true):=by
  intro q;rw[Bool.and_eq_true,Bool.and_eq_true]at q;have q1:((sIx items.size 0 lo:Nat):Int)=0:=eq_of_beq q.1.1;have q2:sIx items.size items.size hi - sIx items.size 0 lo=items.size:=eq_of_beq q.2;exact hw ⟨by omega,by omega⟩
 show wpAny _ _ (if (((sIx items.size 0 lo:Nat):Int)==0&&(1:Int)==1&&(sIx items.size items.size hi - sIx items.size 0 lo)==items.size)=true then _ else _) _ _ s;rw[if_neg hno,sR]
 first
  | exact wpAny_bind (m:=Builtin.Tuple.tupleExact _) (wpAny_newObj_type (wpAny_pure ⟨_,rfl,wpAny_pure h⟩) htake)
  | exact wpAny_bind (m:=Builtin.Tuple.tupleExact _) (wpAny_newObj_type (wpAny_bind (wpAny_pure (wpAny_pure ⟨_,rfl,wpAny_pure h⟩))) htake)
  | exact wpAny_bind (wpAny_bind (m:=Builtin.Tuple.tupleExact _) (wpAny_newObj_type (wpAny_pure (wpAny_pure ⟨_,rfl,wpAny_pure h⟩)) htake))
  | exact wpAny_bind (wpAny_bind (m:=Builtin.Tuple.tupleExact _) (wpAny_newObj_type (wpAny_pure ⟨_,rfl,wpAny_pure h⟩) htake))
end
end HT
namespace L2
section
abbrev TO:=St->Hp->(Option Int->Hp->Prop)->Prop
def PO(X:Cx)(e:Option Expr)(t:TO):Prop :=
 ∀(pins:List (Addr×Obj)) (s:Shared) (σ:St) (H:Hp) (Q:Option Int->Hp->Prop),Inv X pins σ H s->t σ H Q ->
  wpAny (model X.prog X.w) X.A (evalPart e X.env) (fun u s'=>∃o H',Inv X pins σ H' s'/\IsPart u o/\Q o H') X.xe s
def vS:TO:=fun _ H Q=>Q none H
def Ai(t:TE):TO:=fun σ H Q=>t σ H fun x H1=>∃i,x=.int i/\Q (some i) H1
section
variable {X:Cx}{e:Expr}{te:TE}{lo hi:Option Expr}{tl th:TO}{pos p2:Pos}
theorem uM:PO X none vS:=by
 intro pins s σ H Q I h;rw[evalPart_none];exact wpAny_pure ⟨none,H,I,.none,h⟩
theorem ua(h:PE X e te):PO X (some e) (Ai te):=by
 intro pins s σ H Q I hw;rw[evalPart_some];refine thn (h pins s σ H _ I hw) fun u s1 ⟨x,H1,I1,r1,q1⟩=>?_;obtain⟨i,rfl,q⟩:=q1;obtain⟨t,rfl⟩:=r1;exact⟨some i,H1,I1,.int i t,q⟩
def SlR(X:Cx)(r:V->Option Int->Option Int->Hp->VK->Prop):Prop :=
 ∀(pins:List (Addr×Obj)) (s:Shared) (σ:St) (H:Hp) (x:V) (v vl vu:Value) (lo hi:Option Int) (sl:Addr) (Q:VK),Inv X pins σ H s->RelV x v->s.heap.IsSliceOf sl vl vu .none->IsPart vl lo->IsPart vu hi->r x lo hi H Q ->
  ∃T id,typeLookup (.type T) "__getitem__"=pure (some (.builtin id))/\s.TypeIs v T/\wpAny (model X.prog X.w) X.A (getItem v (.ref sl)) (EP X pins σ Q) X.xe s
theorem SlR.or{r r':V->Option Int->Option Int->Hp->VK->Prop}(h:SlR X r)(h':SlR X r'):SlR X (fun x lo hi H Q=>r x lo hi H Q∨r' x lo hi H Q):=by
 intro pins s σ H x v vl vu lo hi sl Q I rx hs pl pu q;rcases q with q | q
 ·exact h pins s σ H x v vl vu lo hi sl Q I rx hs pl pu q
 ·exact h' pins s σ H x v vl vu lo hi sl Q I rx hs pl pu q
def tSl(r:V->Option Int->Option Int->Hp->VK->Prop)(te:TE)(tl th:TO):TE:=fun σ H Q=>te σ H fun x H1=>tl σ H1 fun l H2=>th σ H2 fun u H3=>r x l u H3 Q
theorem lH{r:V->Option Int->Option Int->Hp->VK->Prop}(hr:SlR X r)(he:PE X e te)(hl:PO X lo tl)(hu:PO X hi th):PE X (.Subscript e (.Slice lo hi none p2) pos) (tSl r te tl th):=by
 intro pins s σ H Q I h;refine Subscript_ (thn (he pins s σ H _ I h) fun v s1 ⟨x,H1,I1,r1,q1⟩=>?_);refine wpAny_Slice (thn (hl pins s1 σ H1 _ I1 q1) fun vl s2 ⟨l,H2,I2,pl,q2⟩=>thn (hu pins s2 σ H2 _ I2 q2) fun vu s3 ⟨u,H3,I3,pu,q3⟩=>?_);rw[evalPart_none];refine wpAny_pure ?_;have I4:Inv X pins σ H3 { s3 with heap:=s3.heap.push { cls:=.type "slice",data:=.fields #[vl,vu,.none] } }:=I3.kept (t':=s3.toks) fun b ob q=>Heap.get?_push_of_some _ q;obtain⟨T,id,hT,ht,hg⟩:=hr pins { s3 with heap:=s3.heap.push { cls:=.type "slice",data:=.fields #[vl,vu,.none] } } σ H3 x v vl vu l u s3.heap.objs.size Q I4 r1 (Heap.IsSliceOf.new ..) pl pu q3;show wpAny (model X.prog X.w) X.A (subscriptTail e (.Slice lo hi none p2) v (.ref s3.heap.objs.size)) (EP X pins σ Q) X.xe { s3 with heap:=s3.heap.push { cls:=.type "slice",data:=.fields #[vl,vu,.none] } };exact tail_any (ops:=[.ref s3.heap.objs.size,v]) ht hT hg (by with_unfolding_all rfl)
def jT(xs:List V)(lo hi:Option Int):List V:=(xs.drop (HT.sIx xs.length 0 lo)).take (HT.sIx xs.length xs.length hi - HT.sIx xs.length 0 lo)
theorem gH(xs:List V)(lo hi:Option Int):(jT xs lo hi).length≤xs.length:=by
 unfold jT;rw[List.length_take,List.length_drop];omega
def Ec(K:PySem.W.Frag):V->Option Int->Option Int->Hp->VK->Prop:=fun x lo hi H Q=>∃a xs,x=.ref a/\SqT K H a xs /\
 ¬(HT.sIx xs.length 0 lo=0/\HT.sIx xs.length xs.length hi=xs.length)/\∀p,H p=none->Q (.ref p) (upd H p (.tup (jT xs lo hi)))
theorem sF:SlR X (Ec X.K):=by
 intro pins s σ H x v vl vu lo hi sl Q I rx hs pl pu h;obtain⟨a,xs,rfl,hx,hw,q⟩:=h;cases rx;obtain⟨its,r,ht,hz⟩:=I.tuple hx;have hlen:its.toArray.size=xs.length:=by rw[List.size_toArray];exact r.length.symm
 refine⟨"tuple",_,PyProof.Rows.slot_tuple_getitem.lookup,ht.typeIs,?_⟩;refine HT.ft ht hs pl pu (by rw[hlen];exact hw) ?_ (by rw[hlen];exact hz);rw[hlen];refine⟨.ref s.heap.objs.size,_,I.laid (t':=s.toks) (o:=.tup (jT xs lo hi)) (fun b ob q=>Heap.get?_push_of_some _ q) (Nat.le_refl _) ?_,rfl,q _ (I.hok.fresh (Nat.le_refl _))⟩;exact⟨Nat.le_trans (gH xs lo hi) hz,_,(r.drop (HT.sIx xs.length 0 lo)).take (HT.sIx xs.length xs.length hi - HT.sIx xs.length 0 lo),IsTup.new _ _⟩
def AG(K:PySem.W.Frag):R2:=fun x y H Q=>∃a b xs ys,x=.ref a/\y=.ref b/\SqT K H a xs/\SqT K H b ys/\xs≠[]/\xs.length+ys.length≤sizeLine /\
 (ys=[]->Q (.ref a) H)/\(ys≠[]->∀p,H p=none->Q (.ref p) (upd H p (.tup (xs++ys))))
theorem Vals.nil_iff{xs:List V}{us:List Value}(r:Vals xs us):us=[]↔xs=[]:=by
 cases r with
 | nil=>simp
 | cons _ _=>simp
theorem ur:OpR X (binaryOp .Add) (AG X.K):=by
 intro pins s σ H x y v u Q I rx ry h;obtain⟨a,b,xs,ys,rfl,rfl,ha,hb,hx,hz,q1,q2⟩:=h;cases rx;cases ry;obtain⟨its,r1,p1,_⟩:=I.tuple ha;obtain⟨its2,r2,p2,_⟩:=I.tuple hb;refine HT.uH p1 p2 (fun z=>hx (r1.nil_iff.mp z)) (fun z=>⟨.ref a,H,I,rfl,q1 (r2.nil_iff.mp z)⟩) (fun z=>?_) (by rw[←r1.length,← r2.length];exact hz);refine⟨.ref s.heap.objs.size,_,I.laid (t':=s.toks) (o:=.tup (xs++ys)) (fun b ob q=>Heap.get?_push_of_some _ q) (Nat.le_refl _) ?_,rfl,q2 (fun w=>z (r2.nil_iff.mpr w)) _ (I.hok.fresh (Nat.le_refl _))⟩;exact⟨by rw[List.length_append];exact hz,_,r1.append r2,IsTup.new _ _⟩
end
end
section
def ixN(n:Nat)(i:Int):Option Nat:=if 0≤i then(if i<n then some i.toNat else none)else if -(n:Int)≤i then some (i+n).toNat else none
def atI{α:Type}(xs:List α)(i:Int):Option α:=(ixN xs.length i).bind fun j=>xs[j]?
theorem vj{n:Nat}{i:Int}{j:Nat}(h:ixN n i=some j):seqIndex? i n=some j/\j<n/\-(n:Int)≤i/\i<n:=by
 unfold ixN at h;by_cases h0:0≤i
 ·rw[if_pos h0]at h;by_cases h1:i<n
  ·rw[if_pos h1]at h;have e:i.toNat=j:=Option.some.inj h;exact⟨by rw[seqIndex_of h0 h1,e],by omega,by omega,h1⟩
  ·rw[if_neg h1]at h;cases h
 ·rw[if_neg h0]at h;by_cases h1:-(n:Int)≤i
  ·rw[if_pos h1]at h;have e:(i+n).toNat=j:=Option.some.inj h;exact⟨by rw[seqIndex_neg (by omega) h1,e],by omega,h1,by omega⟩
  ·rw[if_neg h1]at h;cases h
theorem nh{α:Type}{xs:List α}{i:Int}{v:α}(h:atI xs i=some v):∃j,seqIndex? i xs.length=some j/\xs[j]?=some v/\j<xs.length/\-(xs.length:Int)≤i/\i<xs.length:=by
 unfold atI at h;cases e:ixN xs.length i with
 | none=>rw[e]at h;cases h
 | some j =>
  rw[e]at h;obtain⟨h1,h2,h3,h4⟩:=vj e;exact⟨j,h1,h,h2,h3,h4⟩
def nA(b:Expr):Prop:=∀o i,subscripted b false o i=operate [o,i] (getItem o i)
def IxR(X:Cx)(r:R2):Prop :=
 ∀(value slice:Expr) (pins:List (Addr×Obj)) (s:Shared) (σ:St) (H:Hp) (x y:V) (v u:Value) (Q:VK),Inv X pins σ H s->RelV x v->RelV y u->r x y H Q ->
  subscripted slice false v u=operate [v,u] (getItem v u)->wpAny (model X.prog X.w) X.A (subscriptTail value slice v u) (EP X pins σ Q) X.xe s
def MtR(X:Cx)(id:String)(r:V->List V->Hp->VK->Prop):Prop :=
 ∀(pins:List (Addr×Obj)) (s:Shared) (σ:St) (H:Hp) (x:V) (xs:List V) (v:Value) (us:List Value) (Q:VK),Inv X pins σ H s->RelV x v->Vals xs us->r x xs H Q ->
  wpAny (model X.prog X.w) X.A (call (.builtin id) (v::us)) (EP X pins σ Q) X.xe s
section
variable {X:Cx}{a b:Expr}{ta tb:TE}{pos:Pos}
theorem IxR.or{r r':R2}(h:IxR X r)(h':IxR X r'):IxR X (fun x y H Q=>r x y H Q∨r' x y H Q):=by
 intro value slice pins s σ H x y v u Q I rx ry q hs;rcases q with q | q
 ·exact h value slice pins s σ H x y v u Q I rx ry q hs
 ·exact h' value slice pins s σ H x y v u Q I rx ry q hs
theorem A7{r:R2}(hr:IxR X r)(ha:PE X a ta)(hb:PE X b tb)(hs:nA b):PE X (.Subscript a b pos) (tOp r ta tb):=by
 intro pins s σ H Q I h;exact Subscript_ (xc ha hb I h fun v u s2 x y H2 I2 rx ry q=>hr a b pins s2 σ H2 x y v u Q I2 rx ry q (hs _ _))
def xi(K:PySem.W.Frag):R2:=fun x y H Q=>∃p xs i v,x=.ref p/\y=.int i/\SqL K H p xs/\atI xs i=some v/\Q v H
def xG(K:PySem.W.Frag):R2:=fun x y H Q=>∃p xs i v,x=.ref p/\y=.int i/\SqT K H p xs/\atI xs i=some v/\Q v H
theorem uY:IxR X (xi X.K):=by
 intro value slice pins s σ H x y v u Q I rx ry h hs;obtain⟨p,xs,i,z,rfl,rfl,hq,he,q⟩:=h;cases rx;obtain⟨t,rfl⟩:=ry;obtain⟨its,r,pl,hz⟩:=I.list hq;obtain⟨j,h1,h2,h3,h4,h5⟩:=nh he;obtain⟨w,ew,rw'⟩:=r.get h2;have hl:=r.length;have hn:=mL;have fin:EP X pins σ Q w s:=⟨z,H,I,rw',q⟩;by_cases h0:0≤i
 ·have hj:i.toNat=j:=by
   rw[seqIndex_of h0 h5]at h1;exact Option.some.inj h1
  exact item_listR pl.isList h0 (by omega) (by rw[hj];simpa using ew) fin hs
 ·have hj:(i+(its.toArray.size:Int)).toNat=j:=by
   rw[seqIndex_neg (by omega) h4]at h1;rw[List.size_toArray,← hl];exact Option.some.inj h1
  exact subscriptTail_builtinR (x:=w) pl.isList.typeIs slot_list_getitem.lookup
   (wpAny_getItem_list_neg (Q:=fun r s'=>r=w/\EP X pins σ Q r s') pl.isList (by omega) (by rw[List.size_toArray]<;>omega) (by omega) (by rw[hj];simpa using ew) ⟨rfl,fin⟩) hs
theorem yT:IxR X (xG X.K):=by
 intro value slice pins s σ H x y v u Q I rx ry h hs;obtain⟨p,xs,i,z,rfl,rfl,hq,he,q⟩:=h;cases rx;obtain⟨t,rfl⟩:=ry;obtain⟨its,r,pl,hz⟩:=I.tuple hq;obtain⟨j,h1,h2,h3,h4,h5⟩:=nh he;obtain⟨w,ew,rw'⟩:=r.get h2;have hl:=r.length;have hn:=mL;have fin:EP X pins σ Q w s:=⟨z,H,I,rw',q⟩;exact subscriptTail_builtinR (x:=w) pl.typeIs slot_tuple_getitem.lookup
  (getItem_tuple (j:=j) (Q:=fun r s'=>r=w/\EP X pins σ Q r s') pl (by omega) (by omega) (by rw[List.size_toArray,← hl];exact h1) (by simpa using ew) ⟨rfl,fin⟩) hs
theorem jL(lo hi:Option Int)(n:Nat):(sliceBounds lo hi none n).1=((HT.sIx n 0 lo:Nat):Int)/\(sliceBounds lo hi none n).2.1=((HT.sIx n n hi:Nat):Int)/\(sliceBounds lo hi none n).2.2=1:=by
 refine⟨?_,?_,rfl⟩
 ·cases lo with
  | none=>simp[sliceBounds,HT.sIx]
  | some i =>
   simp only[sliceBounds,HT.sIx,Option.getD_none,show(1:Int)>0 by decide,if_true];by_cases h:i<0
   ·simp only[h,if_true]<;>omega
   ·simp only[h,if_false]<;>omega
 ·cases hi with
  | none=>simp[sliceBounds,HT.sIx]
  | some i =>
   simp only[sliceBounds,HT.sIx,Option.getD_none,show(1:Int)>0 by decide,if_true];by_cases h:i<0
   ·simp only[h,if_true]<;>omega
   ·simp only[h,if_false]<;>omega
theorem iT(its:List Value)(lo hi:Option Int):slicePick its.toArray lo hi none=((its.drop (HT.sIx its.length 0 lo)).take (HT.sIx its.length its.length hi - HT.sIx its.length 0 lo)).toArray:=by
 obtain⟨h1,h2,h3⟩:=jL lo hi its.toArray.size;unfold slicePick;rw[h1,h2,h3];simp only[sliceRange_one,pick_run,List.size_toArray]<;>rfl
def CJ(K:PySem.W.Frag):V->Option Int->Option Int->Hp->VK->Prop:=fun x lo hi H Q=>∃a xs,x=.ref a/\SqL K H a xs/\∀p,H p=none->Q (.ref p) (upd H p (.lst (jT xs lo hi)))
theorem vW:SlR X (CJ X.K):=by
 intro pins s σ H x v vl vu lo hi sl Q I rx hs pl pu h;obtain⟨a,xs,rfl,hx,q⟩:=h;cases rx;obtain⟨its,r,ht,hz⟩:=I.list hx;have hlen:=r.length;refine⟨"list",_,slot_list_getitem.lookup,ht.isList.typeIs,?_⟩;refine wpAny_getItem_list_slice ht.isList hs pl pu .none (by simp) ?_ (by rw[List.size_toArray]<;>omega);rw[iT,← hlen];refine⟨.ref s.heap.objs.size,_,I.laid (t':=s.toks) (o:=.lst (jT xs lo hi)) (fun b ob q=>Heap.get?_push_of_some _ q) (Nat.le_refl _) ?_,rfl,q _ (I.hok.fresh (Nat.le_refl _))⟩;exact⟨Nat.le_trans (gH xs lo hi) hz,_,0,(r.drop (HT.sIx xs.length 0 lo)).take (HT.sIx xs.length xs.length hi - HT.sIx xs.length 0 lo),Heap.get?_push_size _ rfl⟩
def eqV:V->V->Bool
 | .non,.non=>true
 | .bl a,.bl b=>a==b
 | .bl a,.int b=>(if a then 1 else 0)==b
 | .int a,.bl b=>a==(if b then 1 else 0)
 | .int a,.int b=>a==b
 | .str a,.str b=>a==b
 | _,_=>false
def inV(x:V)(xs:List V):Bool:=xs.any fun y=>eqV y x
theorem aM:cf X (.builtin "len") (fun xs H Q=>∃p ys,xs=[.ref p]/\(SqL X.K H p ys∨SqT X.K H p ys)/\Q (.int ys.length) H):=by
 intro pins s σ H xs us Q I r h;obtain⟨p,ys,rfl,hq,q⟩:=h;obtain⟨u,rfl,rx⟩:=vals1 r;cases rx;have hn:=mL;rcases hq with hq | hq
 ·obtain⟨its,r',pl,hz⟩:=I.list hq;have hlen:=r'.length;exact Calls.call_len_list pl.isList (by simp only[List.size_toArray]<;>omega) ⟨.int ys.length,H,I.tok _,⟨s.toks+1,by rw[List.size_toArray,hlen]⟩,q⟩
 ·obtain⟨its,r',pl,hz⟩:=I.tuple hq;have hlen:=r'.length;exact len_tuple pl (by simp only[List.size_toArray]<;>omega) ⟨.int ys.length,H,I.tok _,⟨s.toks+1,by rw[List.size_toArray,hlen]⟩,q⟩
theorem cu:cf X (.type "list") (fun xs H Q=>∃p ys,xs=[.ref p]/\(SqL X.K H p ys∨SqT X.K H p ys)/\∀l,H l=none->Q (.ref l) (upd H l (.lst ys))):=by
 intro pins s σ H xs us Q I r h;obtain⟨p,ys,rfl,hq,q⟩:=h;obtain⟨u,rfl,rx⟩:=vals1 r;cases rx;have fin:∀(its:List Value),Vals ys its->ys.length≤sizeLine->∀(h':Heap) (c':Nat),(∀b o',s.heap.get? b=some o'->h'.get? b=some o') ->
   h'.get? s.heap.objs.size=some { cls:=.type "list",dict:=none,data:=.seq its.toArray c',slots:=#[] }->EP X pins σ Q (.ref s.heap.objs.size) { s with heap:=h' }:=fun its r' hz h' c' kp e =>
  ⟨.ref s.heap.objs.size,_,I.laid (t':=s.toks) kp (Nat.le_refl _) (show bV X.prog X.w _ h' _ (.lst ys)from⟨hz,its,c',r',e⟩),rfl,q _ (I.hok.fresh (Nat.le_refl _))⟩
 rcases hq with hq | hq
 ·obtain⟨its,r',pl,hz⟩:=I.list hq;have hlen:=r'.length;obtain⟨o,ho,hc,n,hd⟩:=pl.isList;exact call_list_seq p (.inl rfl) ho hc hd (fun h' c' kp e=>fin its r' hz h' c' kp e) (by simp only[List.size_toArray]<;>omega)
 ·obtain⟨its,r',pl,hz⟩:=I.tuple hq;have hlen:=r'.length;obtain⟨o,ho,hc,n,hd⟩:=pl;exact call_list_seq p (.inr rfl) ho hc hd (fun h' c' kp e=>fin its r' hz h' c' kp e) (by simp only[List.size_toArray]<;>omega)
theorem aL:cf X (.type "tuple") (fun xs H Q=>∃p ys,xs=[.ref p]/\((SqL X.K H p ys/\∀l,H l=none->Q (.ref l) (upd H l (.tup ys)))∨(SqT X.K H p ys/\Q (.ref p) H))):=by
 intro pins s σ H xs us Q I r h;obtain⟨p,ys,rfl,h⟩:=h;obtain⟨u,rfl,rx⟩:=vals1 r;cases rx;rcases h with⟨hq,q⟩ |⟨hq,q⟩
 ·obtain⟨its,r',pl,hz⟩:=I.list hq;have hlen:=r'.length;refine call_tuple_list pl.isList (fun h' kp=>?_) (by simp only[List.size_toArray]<;>omega);have I1:Inv X pins σ H { s with heap:=h' }:=I.kept (t':=s.toks) kp;have I2:Inv X pins σ (upd H h'.objs.size (.tup ys)) { s with heap:=h'.push { cls:=.type "tuple",data:=.seq its.toArray } } :=
   I1.laid (t':=s.toks) (fun b o e=>Heap.get?_push_of_some _ e) (Nat.le_refl _) (show bV X.prog X.w _ _ _ (.tup ys)from⟨hz,its,r',IsTup.new _ _⟩)
  exact⟨.ref h'.objs.size,_,I2,rfl,q _ (I1.hok.fresh (Nat.le_refl _))⟩
 ·obtain⟨its,r',pl,hz⟩:=I.tuple hq;exact call_tuple_same pl ⟨.ref p,H,I,rfl,q⟩
def tyV(K:PySem.W.Frag)(T:String)(x:V)(H:Hp):Prop:=match x with
 | .str _=>T="str"
 | .int _=>T="int"
 | .ref p=>(T="list"/\∃xs,SqL K H p xs)∨(T="tuple"/\∃o,K.lookup p=some o/\o.cls=.type "tuple"/\o.dict=none) ∨
   (T="dict"/\((∃kvs,H p=some (.dK kvs))∨∃kvs,H p=some (.dT kvs)))∨(T="set"/\∃S n,H p=some (.set S n))
 | _=>False
theorem sy{pins:List (Addr×Obj)}{σ:St}{H:Hp}{s:Shared}{T:String}{x:V}{v:Value}(I:Inv X pins σ H s)(r:RelV x v)(ty:tyV X.K T x H) :
  s.TypeIs v T/\∀a,v=.ref a->∃ob,s.heap.get? a=some ob/\ob.dict=none:=by
 cases x with
 | str z =>
  obtain⟨t,rfl⟩:=r;cases (show T="str" from ty);exact⟨typeIs_str s z t,fun _ e=>nomatch e⟩
 | int i =>
  obtain⟨t,rfl⟩:=r;cases (show T="int" from ty);exact⟨typeIs_int s i t,fun _ e=>nomatch e⟩
 | ref p =>
  cases r;rcases ty with⟨rfl,xs,hq⟩ |⟨rfl,o,hk,hc,hd⟩ |⟨rfl,hk⟩ |⟨rfl,S,n,hk⟩
  ·obtain⟨its,_,pl,_⟩:=I.list hq;refine⟨pl.isList.typeIs,fun a e=>?_⟩;cases e;obtain⟨o,n,e,c,hd,_⟩:=pl;exact⟨o,e,hd⟩
  ·refine⟨⟨o,I.kIn p o hk,hc⟩,fun a e=>?_⟩;cases e;exact⟨o,I.kIn _ o hk,hd⟩
  ·have z:∃o,s.heap.get? p=some o/\o.ExactDict:=by
    rcases hk with⟨kvs,hk⟩ |⟨kvs,hk⟩
    ·obtain⟨_,_,_,_,o,_,_,e,ex,_⟩:=I.hok p _ hk;exact⟨o,e,ex⟩
    ·obtain⟨_,_,_,_,o,_,_,e,ex,_⟩:=I.hok p _ hk;exact⟨o,e,ex⟩
   obtain⟨o,e,ex⟩:=z;refine⟨⟨o,e,ex.1⟩,fun a e2=>?_⟩;cases e2;exact⟨o,e,ex.2.1⟩
  ·obtain⟨o,_,_,_,e,ex,_⟩:=I.hok p _ hk;refine⟨⟨o,e,ex.1⟩,fun a e2=>?_⟩;cases e2;exact⟨o,e,ex.2.1⟩
 | _=>exact False.elim ty
def EE(K:PySem.W.Frag)(T:String)(r:V->List V->Hp->VK->Prop)(to:TE):TE:=fun σ H Q=>to σ H fun x H1=>tyV K T x H1/\r x [] H1 Q
def tBM(K:PySem.W.Frag)(T:String)(r:V->List V->Hp->VK->Prop)(to:TE)(t:TA):TE:=fun σ H Q=>to σ H fun x H1=>tyV K T x H1/\t σ H1 fun xs H2=>r x xs H2 Q
variable {o e:Expr}{es:List Expr}{to:TE}{t:TA}{name:Str}{apos cpos:Pos}{T id:String}{r:V->List V->Hp->VK->Prop}
theorem xN(pa:PlainAttrs T)(slot:Slot T name id)(hty:typeOf (.builtin id)=pure (.type "method_descriptor"))(hm:MtR X id r)(ho:PE X o to)
  (hbase:attributeBase o name X.env (eval o X.env)=eval o X.env:=by rfl) (hline:(apos.endLine==cpos.line)=true:=by rfl):PE X (.Call (.Attribute o name apos) [] [] cpos) (EE X.K T r to):=by
 intro pins s σ H Q I h;refine wpAny_Call_method0_late hbase hline (thn (ho pins s σ H _ I h) fun v s1 ⟨x,H1,I1,r1,ty,q1⟩=>?_);obtain⟨h1,h2⟩:=sy I1 r1 ty;exact⟨T,id,pa,slot,hty,h1,h2,Calls.callWith_builtin rfl (PySem.evalArgs_none (hm pins s1 σ H1 x [] v [] Q I1 r1 .nil q1))⟩
theorem BQ(pa:PlainAttrs T)(slot:Slot T name id)(hty:typeOf (.builtin id)=pure (.type "method_descriptor"))(hm:MtR X id r)(ho:PE X o to)(ha:PA X (e::es) t)
  (hbase:attributeBase o name X.env (eval o X.env)=eval o X.env:=by rfl)
  (hfew:((backTo cpos (starEach (e::es) X.env)).all (fun x=>!x.1)&&(backToKw cpos (keywordEach [] X.env)).all (fun x=>x.1.isSome)
   && decide ((e::es).length+([]:List Keyword).length+(if ([]:List Keyword).isEmpty then 0 else 1)<30))=true:=by rfl)
  (hline:(apos.endLine==cpos.line)=true:=by rfl) (hs:starEach (e::es) X.env=(false,eval e X.env)::starEach es X.env:=by rfl) (hplain:(backTo cpos (starEach es X.env)).any (·.1)=false:=by rfl) :
  PE X (.Call (.Attribute o name apos) (e::es) [] cpos) (tBM X.K T r to t):=by
 intro pins s σ H Q I h;refine wpAny_Call_method_late hbase hfew hline rfl (thn (ho pins s σ H _ I h) fun v s1 ⟨x,H1,I1,r1,ty,q1⟩=>?_);obtain⟨h1,h2⟩:=sy I1 r1 ty;refine⟨T,id,pa,slot,hty,h1,h2,?_⟩;have hA:=ha cpos pins s1 σ H1 _ I1 q1;rw[hs]at hA ⊢;refine Calls.callWith_builtin (by show(false||(backTo cpos (starEach es X.env)).any (·.1))=false;rw[hplain]<;>rfl) (Calls.evalArgs_plain ?_);exact thn hA fun us s2 ⟨vs,H2,I2,r2,q2⟩=>hm pins s2 σ H2 x vs v us Q I2 r1 r2 q2
end
end
section
def MtM(X:Cx)(id:String)(r:V->List V->Hp->VK->Prop):Prop :=
 ∀(pins:List (Addr×Obj)) (s:Shared) (σ:St) (H:Hp) (x:V) (xs:List V) (v:Value) (us:List Value) (Q:VK),Inv X pins σ H s->RelV x v->Vals xs us->r x xs H Q ->
  wpAny (model X.prog X.w) X.A (call (.builtin id) (v::us)) (EP X pins σ Q) X.xe s
theorem Vals.one:∀{x:V} {us:List Value},Vals [x] us->∃u,us=[u]/\RelV x u
 | _,_,.cons r .nil=>⟨_,rfl,r⟩
theorem Vals.zero:∀{us:List Value},Vals [] us->us=[]
 | _,.nil=>rfl
theorem Vals.dropLast{xs:List V}{us:List Value}(h:Vals xs us):Vals xs.dropLast us.dropLast:=by
 induction h with
 | nil=>exact .nil
 | cons r t ih =>
  cases t with
  | nil=>exact .nil
  | cons q t'=>exact .cons r ih
theorem mI{α:Type}(l:List α):l.eraseIdx (l.length - 1)=l.dropLast:=by
 induction l with
 | nil=>rfl
 | cons a r ih =>
  cases r with
  | nil=>rfl
  | cons b r =>
   have e:(a::b::r).length - 1=((b::r).length - 1)+1:=by
    have h1:(a::b::r).length=r.length+2:=rfl;have h2:(b::r).length=r.length+1:=rfl;omega
   rw[e,List.eraseIdx_cons_succ,ih]
   all_goals rfl
section
variable {X:Cx}{pins:List (Addr×Obj)}{σ:St}{H:Hp}{s:Shared}{l b:Addr}{xs ys zs:List V}
theorem Inv.lset{its its':List Value}{n:Nat}{f:Array Value->Array Value}{t':Nat}(I:Inv X pins σ H s)(hH:H l=some (.lst xs))
  (e:s.heap.get? l=some { cls:=.type "list",data:=.seq its.toArray n }) (hf:f its.toArray=its'.toArray) (hv:Vals ys its') (hz:ys.length≤sizeLine) :
  Inv X pins σ (upd H l (.lst ys)) { s with heap:=s.heap.update l (Obj.mapSeq f),toks:=t' }:=by
 have q:=PySem.IsL.update e f;rw[hf]at q;refine I.write (x:=l) (e:=l) (by rw[hH];exact trivial) (.inl rfl) (fun b' u hb hu=>(Heap.get?_update_other s.heap (Obj.mapSeq f) (Ne.symm hb)).trans hu) ⟨_,q⟩ ?_;exact⟨hz,its',_,hv,q⟩
theorem Inv.lnew{its:List Value}{t':Nat}(I:Inv X pins σ H s)(hv:Vals ys its)(hz:ys.length≤sizeLine) :
  Inv X pins σ (upd H s.heap.objs.size (.lst ys)) { s with heap:=s.heap.push { cls:=.type "list",data:=.seq its.toArray },toks:=t' } :=
 I.laid (fun _ _ q=>Heap.get?_push_of_some _ q) (Nat.le_refl _) ⟨hz,its,0,hv,Heap.get?_push_size _ rfl⟩
theorem Inv.fresh(I:Inv X pins σ H s):H s.heap.objs.size=none:=I.hok.fresh (Nat.le_refl _)
theorem Inv.lstM(I:Inv X pins σ H s)(hH:H l=some (.lst xs)):xs.length≤sizeLine/\∃(its:List Value) (n:Nat),Vals xs its/\xs.length=its.length/\s.heap.get? l=some { cls:=.type "list",data:=.seq its.toArray n }:=by
 obtain⟨z,its,n,r,e⟩:=I.hok l _ hH;exact⟨z,its,n,r,r.length,e⟩
theorem kJ{n:Nat}(h:n≤sizeLine):Builtin.List.listTooLong n=false:=by
 unfold Builtin.List.listTooLong;exact decide_eq_false (by omega)
end
section
variable {X:Cx}
def nZ:V->List V->Hp->VK->Prop:=fun x vs H Q=>∃l xs y,x=.ref l/\vs=[y]/\H l=some (.lst xs)/\xs.length<sizeLine/\Q .non (upd H l (.lst (xs++[y])))
theorem cx:MtM X "list.append" nZ:=by
 intro pins s σ H x vs v us Q I rx rv h;obtain⟨l,xs,y,rfl,rfl,hH,hz,q⟩:=h;cases rx;obtain⟨u,rfl,ru⟩:=rv.one;obtain⟨z,its,n,r,hl,e⟩:=I.lstM hH;refine call_meets F.slot_list_append ⟨_,e,rfl⟩ F.entry_list_append (F.args_list_append_2 _ _) (PySem.list_append l its.toArray n u (by rw[List.size_toArray];omega)) ⟨e,?_⟩;refine⟨.non,_,I.lset (its':=its++[u]) hH e (by simp) (r.append (.cons ru .nil)) ?_,rfl,q⟩;rw[List.length_append,List.length_singleton];omega
def n9:V->List V->Hp->VK->Prop:=fun x vs H Q=>∃l b xs zs,x=.ref l/\vs=[.ref b]/\H l=some (.lst xs)/\H b=some (.lst zs)/\xs.length+zs.length≤sizeLine/\Q .non (upd H l (.lst (xs++zs)))
theorem cy:MtM X "list.extend" n9:=by
 intro pins s σ H x vs v us Q I rx rv h;obtain⟨l,b,xs,zs,rfl,rfl,hH,hB,hz,q⟩:=h;cases rx;obtain⟨u,rfl,ru⟩:=rv.one;cases ru;obtain⟨z,its,n,r,hl,e⟩:=I.lstM hH;obtain⟨z2,its2,n2,r2,hl2,e2⟩:=I.lstM hB;have hsz:its.toArray.size+its2.toArray.size≤sizeLine:=by rw[List.size_toArray,List.size_toArray];omega
 have hlong:¬(!its.toArray.isEmpty&&Builtin.List.listTooLong (its.toArray.size+its2.toArray.size))=true:=by
  rw[kJ hsz,Bool.and_false];exact Bool.false_ne_true
 refine call_meets F.slot_list_extend ⟨_,e,rfl⟩ F.entry_list_extend (F.args_list_extend_2 _ _)
  (AutoSeq1.list_extend_list_list_0 l its.toArray n b its2.toArray n2 hlong (by rw[List.size_toArray];omega) (by omega)) ⟨e,e2,?_⟩
 refine⟨.non,_,I.lset (its':=its++its2) hH e (by simp) (r.append r2) ?_,rfl,q⟩;rw[List.length_append];omega
def AJ:V->List V->Hp->VK->Prop:=fun x vs H Q=>∃l xs y,x=.ref l/\vs=[]/\H l=some (.lst xs)/\xs[xs.length - 1]?=some y/\Q y (upd H l (.lst xs.dropLast))
theorem zk:MtM X "list.pop" AJ:=by
 intro pins s σ H x vs v us Q I rx rv h;obtain⟨l,xs,y,rfl,rfl,hH,hy,q⟩:=h;cases rx;have hus:=rv.zero;subst hus;obtain⟨z,its,n,r,hl,e⟩:=I.lstM hH;obtain⟨u,hu,ru⟩:=r.get hy;have hy':its.toArray[its.toArray.size - 1]?=some u:=by
  show its.toArray[its.length - 1]?=some u;rw[←Array.getElem?_toList,← hl];exact hu
 refine call_meets F.slot_list_pop ⟨_,e,rfl⟩ F.entry_list_pop (F.args_list_pop_1 _) (MeetsSeq.list_pop_last l its.toArray n u hy' (by rw[List.size_toArray];omega)) ⟨e,?_⟩;refine⟨y,_,I.lset (its':=its.dropLast) hH e ?_ r.dropLast ?_,ru,q⟩
 ·show its.toArray.eraseIdxIfInBounds (its.toArray.size - 1)=its.dropLast.toArray;rw[List.size_toArray,List.eraseIdxIfInBounds_toArray,mI]
 ·rw[List.length_dropLast];omega
def Bm:R2:=fun x y H Q=>∃l b xs zs,x=.ref l/\y=.ref b/\H l=some (.lst xs)/\H b=some (.lst zs)/\xs.length+zs.length≤sizeLine/\∀p,H p=none->Q (.ref p) (upd H p (.lst (xs++zs)))
theorem zf:OpR X (binaryOp .Add) Bm:=by
 intro pins s σ H x y v u Q I rx ry h;obtain⟨l,b,xs,zs,rfl,rfl,hH,hB,hz,q⟩:=h;cases rx;cases ry;obtain⟨z,its,n,r,hl,e⟩:=I.lstM hH;obtain⟨z2,its2,n2,r2,hl2,e2⟩:=I.lstM hB;refine PySem.P.add_list e e2 ?_ (by rw[List.size_toArray,List.size_toArray];omega);have ea:its.toArray++its2.toArray=(its++its2).toArray:=by simp
 rw[ea];exact⟨.ref _,_,I.lnew (t':=s.toks) (r.append r2) (by rw[List.length_append];omega),rfl,q _ I.fresh⟩
end
section
variable {prog:Program}{w:World}{A:Around}{E:Value->Shared->Prop}{s:Shared}
end
section
variable {X:Cx}
end
end
end L2
namespace Att
open PySem.W PySem.Calls
theorem gI{P:Params}{h:Heap}:∀(ns:List Int) (vs:List Value),WellAll P h vs (ns.map WData.int)->IntsAre vs ns:=by
 intro ns
 induction ns with
 | nil =>
  intro vs w;rw[List.map_nil]at w;cases w;exact .nil
 | cons n ns ih =>
  intro vs w;rw[List.map_cons]at w;cases w with
  | cons a b =>
   cases a;exact .cons _ _ (ih _ b)
theorem qg{l:OpenLaw}{n:Nat}(hn:l.most=some n){P:Params}{h:Heap}{args:List WData}{vals:List Value}
  (hpre:l.row.toRowW.claim.pre args=true) (hwl:WellAll P h vals args) :
  ∃a vs ns,vals=[Value.ref a]/\args=[WData.list (ns.map WData.int)]/\h.get? a=some { cls:=.type "list",data:=.seq vs.toArray }/\IntsAre vs ns/\ns.length≤n:=by
 have hsh:WShape.hasAll [] args [.list .int]=true:=(pre_splitW hpre).1;have hc:l.pre.holds [] { args:=args }=true:=(pre_splitW hpre).2;obtain⟨d,r,rfl,h1,h2⟩:=hasAllW_cons hsh;obtain rfl:=hasAllW_nil h2;obtain⟨xs,rfl,h3⟩:=hasW_list h1;obtain⟨ns,rfl⟩:=items_int h3;have hlen:ns.length≤n:=by
  unfold OpenLaw.pre at hc;have h4:(WTm.not (.lt (.lit (.int (n:Int))) (.len (.arg 0)))).holds [] { args:=[.list (ns.map .int)] }=true:=by
   have h4:=(holds_andW hc).1;rw[hn]at h4;exact h4
  have h5:=condW_of h4 (w_not (w_lt w_lit (w_len_list (w_arg rfl))));rw[List.length_map]at h5;refine Nat.le_of_not_lt fun q=>?_;have q':(n:Int)<((ns.length:Nat):Int):=by omega
  first
   |(rw[decide_eq_true q']at h5;exact absurd h5 (by decide))
   |(simp at h5;omega)
 cases hwl with
 | cons w1 w2 =>
  cases w2;cases w1 with
  | list ho hall=>exact⟨_,_,ns,rfl,rfl,ho,gI ns _ hall,hlen⟩
theorem p9(l:OpenLaw)(args:List WData):l.row.toRowW.claim.post args (.bool true) args=true :=
 postW_of (r:=l.row.toRowW) (X:=(true==true))
  (show WShape.has [] (.bool true) .bool=true by first | rfl | decide | simp[WShape.has,WShape.arms,WShape.armsAll])
  (show(WTm.eq .res (.lit (.bool true))).value [] { args:=args,res:=some (.bool true),after:=args }=some (.bool (true==true))from w_eq_bool (w_res rfl) w_lit) rfl
theorem kx{l:OpenLaw}{n:Nat}{q:Program}{loose:List Str}{XP:(Str->Option Value)->Heap->Prop}{YP:World->Heap->Prop}{d:DefRec}
  (hn:l.most=some n) (hdf:d.params.defaults=[])
  (call:∀(w:World) (s₀ s₁:Shared) (mg mb:Str->Option Value) (fa:Addr) (o:Obj) (pm cd doc:Value) (a:Addr) (vs:List Value) (ns:List Int),
   Ground q loose [] XP w s₀ mg mb s₁.heap->YP w s₁.heap ->
   s₁.heap.get? fa=some o->o.data=.func (docDef d.name d.params d.body d.scope pm cd doc)->s₁.heap.CodeRec cd d.name->mg d.name=some (.ref fa) ->
   s₁.heap.get? a=some { cls:=.type "list",data:=.seq vs.toArray }->IntsAre vs ns->ns.length≤n->s₁.gens=#[] ->
   codeAny (model l.prog w) callerA (.call (.ref fa) ⟨[.ref a],[]⟩) (fun r s'=>r=.ok (.ret (.bool true))/\OldK s₁.heap s'.heap/\s'.os=s₁.os/\AllBare s'.gens) s₁) :
  WalkO q loose XP YP l.row.toRowW d [] (fun f vs=>PySem.call f vs):=by
 intro w s₀ s₁ mg mb G Y fa o pm cd doc dV kV ho hd hcd hD hmg hg args vals as hpre hlay hrd hwl hlo;obtain rfl:dV=.none:=Dflts.none hD hdf;obtain rfl:kV=.none:=Dflts.noKw hD;obtain⟨a,vs,ns,rfl,rfl,hobj,hints,hlen⟩:=qg hn hpre hwl;refine enter_call (codeAny_mono (call w s₀ s₁ mg mb fa o pm cd doc a vs ns G Y ho (fd_plain hd) hcd hmg hobj hints hlen hg) fun r s' hq=>?_);obtain⟨rfl,h2,h3,h4⟩:=hq;exact⟨.inl ⟨.bool true,.bool true,[],rfl,fun _=>rfl,.bool true,p9 l _,fun _=>⟨List.Pairwise.nil,fun _ hm=>(nomatch hm)⟩⟩,h2,h3,h4⟩
section
variable {prog:Program}{w:World}{A:Around}{E:Value->Shared->Prop}{s:Shared}{K:Frag}
def ledger(h:Heap)(L d:Addr):List (Addr×Obj):=(List.range h.objs.size).filterMap fun a=>if a=L∨a=d then none else(h.get? a).map fun o=>(a,o)
end
end Att
namespace L2
section
theorem gx:∀{vs:List Value} {ns:List Int},IntsAre vs ns->Vals (ns.map V.int) vs
 | _,_,.nil=>.nil
 | _,_,.cons n t h=>.cons ⟨t,rfl⟩ (gx h)
def oM(H:Hp):Prop:=∀b,H b=none∨∃o xs,H b=some (.frz o (.lst xs))
theorem ti{P:Program}{w:World}{K:PySem.W.Frag}{mg mb:Str->Option Value}{CX:CXT}{k:Nat}{fa a:Addr}{fd:FuncData}{x:Str}{sp:Sp}{s₁:Shared}{vs:List Value}{ns:List Int}
  (KX:K.In s₁.heap) (hns:s₁.heap.Ns mainGlobals mg) (hb:s₁.heap.Ns builtinsNs mb) (hbb:∀x:Str,x≠"__name__"->mb x=bootBuiltins x) (hlim:s₁.heap.NoLimit) (hg:s₁.gens=#[])
  (ha:s₁.heap.get? a=some { cls:=.type "list",data:=.seq vs.toArray }) (hi:IntsAre vs ns) (hl:ns.length≤sizeLine) (hr:bP k callerA)
  (F:∀base:Heap,K.In base->base.Ns mainGlobals mg->iA P w K mg base CX k fa fd [x] sp) (hbind:∀(s:Shared) (u:Value),BindsTo s fd ⟨[u],[]⟩ [(x,u)])
  (hsp:∀H:Hp,oM H->SqL K H a (ns.map V.int)->sp [.ref a] H (fun v _=>v=.bl true) fun _ _ _=>False)
  (hCX:∀H e s',CX [] H s₁ (fun _ _ _=>False) e s'->False) :
  codeAny (model P w) callerA (.call (.ref fa) ⟨[.ref a],[]⟩) (fun r s'=>r=.ok (.ret (.bool true))/\OldK s₁.heap s'.heap/\s'.os=s₁.os/\AllBare s'.gens) s₁:=by
 have rv:=gx hi;have lenV:=hi.length;have core:∀H:Hp,oM H->SqL K H a (ns.map V.int)->HOk P w H s₁.heap->(∀b,H b≠none->b=a)->(H a≠none->K.lookup a=none) ->
   codeAny (model P w) callerA (.call (.ref fa) ⟨[.ref a],[]⟩) (fun r s'=>r=.ok (.ret (.bool true))/\OldK s₁.heap s'.heap/\s'.os=s₁.os/\AllBare s'.gens) s₁:=by
  intro H hO hS hok hA hK;have base_of:∀{b:Addr} {o:Obj},s₁.heap.get? b=some o->H b=none->(jP s₁.heap H).get? b=some o:=fun e n=>qG e n;have noA:∀{b:Addr} {o:Obj} {es:Array DictEntry} {ep:Nat},s₁.heap.get? b=some o->o.data=.dict es ep->H b=none:=fun {b o es ep} e d=>by
   cases q:H b with
   | none=>rfl
   | some u =>
    have e':b=a:=hA b (by rw[q];simp);subst e';rw[ha]at e;cases e;have d':Data.seq vs.toArray _=Data.dict es ep:=d;cases d'
  have nsK:∀{b:Addr} {m:Str->Option Value},s₁.heap.Ns b m->(jP s₁.heap H).Ns b m:=fun {b m} ⟨o,es,ep,e,d,r⟩=>⟨o,es,ep,base_of e (noA e d),d,r⟩;have hKb:K.In (jP s₁.heap H):=fun b o e=>base_of (KX b o e) (by
   cases q:H b with
   | none=>rfl
   | some u =>
    have e':b=a:=hA b (by rw[q];simp);subst e';rw[hK (by rw[q];simp)]at e;cases e)
  have hM:Mod K mg (jP s₁.heap H):=⟨hKb,nsK hns,⟨mb,nsK hb,hbb⟩,let ⟨mc,h1,h2⟩:=hlim;⟨mc,nsK h1,h2⟩⟩;have e0:mw P w K mg (jP s₁.heap H) callerA [] s₁ H:=⟨rfl,hM,fun b o e=>vh e,Nat.le_of_eq (o8 _ _),trivial,fun b hb=>absurd (show b∈([]:List Addr)from hb) (by simp),hok,.of_eq hg⟩;refine codeAny_mono ((F _ hKb (nsK hns)).run callerA [] s₁ H ⟨[.ref a],[]⟩ [.ref a] [.ref a] _ _ hr e0 (hbind s₁ (.ref a)) (.cons rfl .nil) (hsp H hO hS)) fun r s' h=>?_;cases r with
  | error e=>exact(hCX H e s' h).elim
  | ok fl =>
   cases fl with
   | next=>exact False.elim h
   | brk=>exact False.elim h
   | cont=>exact False.elim h
   | ret u =>
    obtain⟨v,H',os,bare,un,hok',r',q⟩:=h;have q':v=.bl true:=q;subst q';obtain rfl:u=Value.bool true:=r';refine⟨rfl,OldK.of_keep fun b o e=>?_,os,bare⟩;cases q:H b with
    | none=>exact un.keep b o e q (by intro z;exact absurd (show b∈([]:List Addr)from z) (by simp)) (by simp)
    | some u =>
     rcases hO b with z |⟨ob,xs,z⟩
     ·rw[q]at z;cases z
     ·have z2:=un.frzs b ob _ z;obtain⟨e1,_⟩:=hok b _ z;obtain⟨e2,_⟩:=hok' b _ z2;rw[e]at e1;cases e1;exact e2
 cases hk:K.lookup a with
 | some o =>
  have e:=KX a o hk;rw[ha]at e;cases e;refine core (fun _=>none) (fun _=>.inl rfl) (.inr ⟨_,vs.toArray,_,hk,rfl,rfl,rfl,by rw[List.size_toArray,lenV];exact hl,by simpa using rv⟩) (fun b u z=>by have z':(none:Option HO)=some u:=z;cases z') (fun b z=>absurd rfl z) fun z=>absurd rfl z
 | none =>
  refine core (fun b=>if b=a then some (.frz { cls:=.type "list",data:=.seq vs.toArray } (.lst (ns.map V.int)))else none) (fun b=>?_) (.inl (.inr ⟨{ cls:=.type "list",data:=.seq vs.toArray },if_pos rfl⟩)) (fun b u z=>?_) (fun b z=>?_) fun _=>hk
  ·by_cases hb:b=a
   ·exact .inr ⟨_,_,if_pos hb⟩
   ·exact .inl (if_neg hb)
  ·by_cases hb:b=a
   ·have z':=(if_pos hb).symm.trans z;cases z';subst hb;exact⟨ha,by rw[List.length_map];exact hl,vs,_,rv,ha⟩
   ·have z':=(if_neg hb).symm.trans z;cases z'
  ·by_cases hb:b=a
   ·exact hb
   ·exact absurd (if_neg hb) z
end
section
abbrev KOf{K:PySem.W.Frag}{h:Heap}(_:K.In h):PySem.W.Frag:=K
theorem nV{l:PySem.W.OpenLaw}{n k:Nat}{q:Program}{loose:List Str}{XP:(Str->Option Value)->Heap->Prop}{YP:World->Heap->Prop}{d:DefRec}{K:Params->PySem.W.Frag}{CX:World->CXT}{sp:World->Sp}{x:Str}
  (hn:l.most=some n) (hn2:n≤sizeLine) (hdf:d.params.defaults=[]) (hr:bP k callerA)
  (hY:∀(w:World) (h:Heap),YP w h->(K w.params).In h)
  (F:∀(w:World) (mg:Str->Option Value) (fa:Addr) (h:Heap),(K w.params).In h->h.Ns mainGlobals mg->mg d.name=some (.ref fa) ->
   ∃fd:FuncData,(∀(s:Shared) (u:Value),BindsTo s fd ⟨[u],[]⟩ [(x,u)]) /\
    ∀base:Heap,(K w.params).In base->base.Ns mainGlobals mg->iA l.prog w (K w.params) mg base (CX w) k fa fd [x] (sp w))
  (hsp:∀(w:World) (H:Hp) (a:Addr) (ns:List Int),ns.length≤n->oM H->SqL (K w.params) H a (ns.map V.int)->sp w [.ref a] H (fun v _=>v=.bl true) fun _ _ _=>False)
  (hCX:∀(w:World) (H:Hp) (s:Shared) (e:Value) (s':Shared),CX w [] H s (fun _ _ _=>False) e s'->False) :
  PySem.W.WalkO q loose XP YP l.row.toRowW d [] (fun f vs=>PySem.call f vs):=by
 refine Att.kx hn hdf fun w s₀ s₁ mg mb fa o pm cd doc a vs ns G Y ho hd hcd hmg hobj hints hlen hg=>?_;have KX:=hY w _ Y;obtain⟨fd,hb,hF⟩:=F w mg fa _ KX G.T.g hmg;exact ti KX G.T.g G.T.b G.T.builtins G.T.nolimit hg hobj hints (Nat.le_trans hlen hn2) hr hF hb (fun H hO hS=>hsp w H a ns hlen hO hS) fun H e s'=>hCX w H s₁ e s'
theorem sZ{l:PySem.W.OpenLaw}{n k:Nat}{q:Program}{loose:List Str}{XP:(Str->Option Value)->Heap->Prop}{YP:World->Heap->Prop}{d:DefRec}{K:Params->PySem.W.Frag}{CX:CXT}{sp:PySem.W.Frag->Sp}{x:Str}
  (hn:l.most=some n) (hn2:n≤sizeLine) (hdf:d.params.defaults=[]) (hr:bP k callerA)
  (hY:∀(w:World) (h:Heap),YP w h->(K w.params).In h)
  (F:∀(w:World) (mg:Str->Option Value) (fa:Addr) (h:Heap),(K w.params).In h->h.Ns mainGlobals mg->mg d.name=some (.ref fa) ->
   ∃fd:FuncData,(∀(s:Shared) (u:Value),BindsTo s fd ⟨[u],[]⟩ [(x,u)]) /\
    ∀base:Heap,(K w.params).In base->base.Ns mainGlobals mg->iA l.prog w (K w.params) mg base CX k fa fd [x] (sp (K w.params)))
  (hsp:∀(K:PySem.W.Frag) (H:Hp) (a:Addr) (ns:List Int),ns.length≤n->oM H->SqL K H a (ns.map V.int)->sp K [.ref a] H (fun v _=>v=.bl true) fun _ _ _=>False)
  (hCX:∀(H:Hp) (s:Shared) (e:Value) (s':Shared),CX [] H s (fun _ _ _=>False) e s'->False) :
  PySem.W.WalkO q loose XP YP l.row.toRowW d [] (fun f vs=>PySem.call f vs) :=
 nV (K:=K) (CX:=fun _=>CX) (sp:=fun w=>sp (K w.params)) hn hn2 hdf hr hY F (fun w H a ns h1 h2 h3=>hsp (K w.params) H a ns h1 h2 h3) fun _ H s e s'=>hCX H s e s'
end
section
def inClass(s:Stmt)(j:Nat):Stmt:=match s with
 | .ClassDef _ _ _ body _ _ _ _ _ _ _=>body.getD j (.Pass ⟨0,0,0,0⟩)
 | _=>.Pass ⟨0,0,0,0⟩
def gR(s:Stmt):Arguments:=match s with
 | .FunctionDef _ a _ _ _ _ _ _ _ _=>a
 | _=>{ posonlyargs:=[],args:=[],vararg:=none,kwonlyargs:=[],kw_defaults:=[],kwarg:=none,defaults:=[] }
def dA(s:Stmt):List Stmt:=match s with
 | .FunctionDef _ _ b _ _ _ _ _ _ _=>b
 | _=>[]
def ao(s:Stmt):Scope:=match s with
 | .FunctionDef _ _ _ _ _ _ sc _ _ _=>sc
 | _=>{ kind:=.function,names:=[],isGenerator:=false,isCoroutine:=false }
abbrev CX0:CXT:=fun _ _ _ _ _ _=>False
abbrev E0:XK:=fun _ _ _=>False
theorem sY{X:Cx}:Passes CX0 X E0:=fun _ _ _ _ _ _ _ h=>h.elim
structure Fun (K:PySem.W.Frag) (x qual:Str) (st:Stmt) (f:Addr) (fd:FuncData):Prop where
 ex:∃(oc:Value) (od:Option Addr) (kV doc pm:Value) (an:Option Addr) (cdv ct:Value) (osl:Array (Option Value)),
  fd=PySem.W.fnOf x qual (gR st) (dA st) (ao st) .none kV doc pm an cdv ct/\K.lookup f=some ⟨oc,od,.func fd,osl⟩/\PySem.W.codeIn K cdv qual=true
 kp:PySem.W.keepIn K (.ref f)=true
section
variable {P:Program}{w:World}{K:PySem.W.Frag}{mg:Str->Option Value}{base:Heap}
theorem Fun.ok{x qual:Str}{st:Stmt}{f:Addr}{fd:FuncData}{N ps:List Str}{k:Nat}{sp:Sp}(F:Fun K x qual st f fd)(S:az N ps (ao st))(len:∀vs H Q E,sp vs H Q E->vs.length=ps.length)
  (hbody:∀(cdv:Value) (A:Around) (outer:List Env) (s:Shared) (H:Hp) (vs:List V) (Q:VK) (E:XK),bP k (A.deeper (envOfC qual (ao st) s.heap.objs.size f cdv))->sp vs H Q E ->
   ∃t,PSs (jW CX0 P w K mg base N qual (ao st) f cdv A outer s H E).nox (dA st) t/\t { nx:=fun _ H'=>Q .non H',rt:=Q } (start N vs) H):iA P w K mg base CX0 (k+1) f fd ps sp:=by
 obtain⟨oc,od,kV,doc,pm,an,cdv,ct,osl,rfl,lk,hcd⟩:=F.ex;refine wO lk hcd S len fun A outer s H vs Q E hr hsp=>?_;obtain⟨t,h,q⟩:=hbody cdv A outer s H vs Q E hr hsp;exact⟨t,h.nox,q⟩
theorem Fun.binds{x qual:Str}{st:Stmt}{f:Addr}{fd:FuncData}{ps:List Str}(F:Fun K x qual st f fd)
  (h:∀(kV doc pm:Value) (an:Option Addr) (cdv ct:Value) (us:List Value),us.length=ps.length->bindArgs (PySem.W.fnOf x qual (gR st) (dA st) (ao st) .none kV doc pm an cdv ct) ⟨us,[]⟩=pure (ps.zip us)):Binds K fd ps []:=by
 obtain⟨oc,od,kV,doc,pm,an,cdv,ct,osl,rfl,lk,hcd⟩:=F.ex;exact .all (h kV doc pm an cdv ct)
theorem yS{x qual:Str}{st:Stmt}{f:Addr}{oc:Value}{od an:Option Addr}{osl:Array (Option Value)}{kV doc pm cdv ct:Value}(l:K.lookup f=some ⟨oc,od,.func (PySem.W.fnOf x qual (gR st) (dA st) (ao st) .none kV doc pm an cdv ct),osl⟩)
  (c:PySem.W.codeIn K cdv qual=true) (k:PySem.W.keepIn K (.ref f)=true):Fun K x qual st f (PySem.W.fnOf x qual (gR st) (dA st) (ao st) .none kV doc pm an cdv ct):=⟨⟨oc,od,kV,doc,pm,an,cdv,ct,osl,rfl,l,c⟩,k⟩
end
theorem bI{n:Nat}(h:n≤1000):n<sizeLine:=Nat.lt_of_le_of_lt h (by decide)
section
variable {X:Cx}
theorem pv(i:Nat){x:Str}{pos:Pos}(hN:X.N[i]?=some x:=by rfl)(hv:Vis X.env.scope x:=by first | exact Or.inl rfl | exact Or.inr (Or.inl rfl) | exact Or.inr (Or.inr rfl))(hd:(x==("__debug__":Str))=false:=by decide)
  (hcd:(x==("__classdict__":Str))=false:=by decide):PE X (.Name x pos) (BR i):=qr hN hv hd hcd
end
theorem jI{A B:Prop}(h:B):if false=true then A else B:=by
 rw[if_neg Bool.false_ne_true];exact h
theorem j0{A B:Prop}(h:A):if true=true then A else B:=by
 rw[if_pos rfl];exact h
def EI(H H':Hp):Prop:=∀b o,H b=some o->H' b=some o
end
end L2
set_option maxHeartbeats 4000000
namespace U
open L2
section
inductive PV where
 | non | bl (b:Bool) | int (i:Int) | str (x:Str) | ref (a:Addr) | tup (l:List PV) | fls (l:List PV) | oth (v:V)
def FzL(K:PySem.W.Frag)(H:Hp)(a:Addr)(xs:List V):Prop :=
 (∃o,H a=some (.frz o (.lst xs))) ∨
  ∃(o:Obj) (its:Array Value) (n:Nat),K.lookup a=some o/\o.cls=.type "list"/\o.dict=none/\o.data=.seq its n/\its.size≤sizeLine/\Vals xs its.toList
theorem FzL.sq{K:PySem.W.Frag}{H:Hp}{a:Addr}{xs:List V}(h:FzL K H a xs):SqL K H a xs:=by
 rcases h with h | h
 ·exact .inl (.inr h)
 ·exact .inr h
structure Kp (H H1:Hp):Prop where
 t:∀a us,H a=some (.tup us)->H1 a=some (.tup us)
 z:∀a o u,H a=some (.frz o u)->H1 a=some (.frz o u)
theorem Kp.sqT{K:PySem.W.Frag}{H H1:Hp}(k:Kp H H1){a:Addr}{us:List V}(h:SqT K H a us):SqT K H1 a us:=by
 rcases h with(h |⟨o,h⟩) | h
 ·exact .inl (.inl (k.t _ _ h))
 ·exact .inl (.inr ⟨o,k.z _ _ _ h⟩)
 ·exact .inr h
theorem Kp.fzL{K:PySem.W.Frag}{H H1:Hp}(k:Kp H H1){a:Addr}{us:List V}(h:FzL K H a us):FzL K H1 a us:=by
 rcases h with⟨o,h⟩ | h
 ·exact .inl ⟨o,k.z _ _ _ h⟩
 ·exact .inr h
section
variable (K:PySem.W.Frag)
mutual
def RP(H:Hp):PV->V->Prop
 | .non,v=>v=.non
 | .bl b,v=>v=.bl b
 | .int i,v=>v=.int i
 | .str x,v=>v=.str x
 | .ref a,v=>v=.ref a
 | .oth w,v=>v=w
 | .tup l,v=>∃a us,v=.ref a/\SqT K H a us/\RPs H l us
 | .fls l,v=>∃a us,v=.ref a/\FzL K H a us/\RPs H l us
def RPs(H:Hp):List PV->List V->Prop
 | [],us=>us=[]
 | x::l,us=>∃u r,us=u::r/\RP H x u/\RPs H l r
end
mutual
theorem RP.kp{H H1:Hp}(k:Kp H H1):∀{x:PV} {v:V},RP K H x v->RP K H1 x v
 | .non,_,h=>h
 | .bl _,_,h=>h
 | .int _,_,h=>h
 | .str _,_,h=>h
 | .ref _,_,h=>h
 | .oth _,_,h=>h
 | .tup l,v,h=>by
  simp only[RP]at h ⊢;obtain⟨a,us,e,q,r⟩:=h;exact⟨a,us,e,k.sqT q,RPs.kp k r⟩
 | .fls l,v,h=>by
  simp only[RP]at h ⊢;obtain⟨a,us,e,q,r⟩:=h;exact⟨a,us,e,k.fzL q,RPs.kp k r⟩
theorem RPs.kp{H H1:Hp}(k:Kp H H1):∀{l:List PV} {us:List V},RPs K H l us->RPs K H1 l us
 | [],_,h=>h
 | x::l,us,h=>by
  simp only[RPs]at h ⊢;obtain⟨u,r,e,a,b⟩:=h;exact⟨u,r,e,RP.kp k a,RPs.kp k b⟩
end
theorem RPs.nil{H:Hp}:RPs K H [] []:=by simp[RPs]
theorem RPs.cons{H:Hp}{x:PV}{l:List PV}{u:V}{us:List V}(a:RP K H x u)(b:RPs K H l us):RPs K H (x::l) (u::us):=by
 simp only[RPs];exact⟨u,us,rfl,a,b⟩
theorem RPs.length{H:Hp}:∀{l:List PV} {us:List V},RPs K H l us->us.length=l.length
 | [],us,h=>by simp only[RPs]at h;subst h;rfl
 | x::l,us,h=>by
  simp only[RPs]at h;obtain⟨u,r,rfl,_,b⟩:=h;simp[RPs.length b]
theorem RPs.get{H:Hp}:∀{l:List PV} {us:List V} {i:Nat} {x:PV},RPs K H l us->l[i]?=some x->∃u,us[i]?=some u/\RP K H x u
 | [],_,_,_,_,e=>by simp at e
 | y::l,us,i,x,h,e=>by
  simp only[RPs]at h;obtain⟨u,r,rfl,a,b⟩:=h;cases i with
  | zero=>simp at e;subst e;exact⟨u,by simp,a⟩
  | succ i=>obtain⟨w,e1,e2⟩:=RPs.get (i:=i) (x:=x) b (by simpa using e);exact⟨w,by simpa using e1,e2⟩
theorem RPs.append{H:Hp}:∀{l m:List PV} {us ws:List V},RPs K H l us->RPs K H m ws->RPs K H (l++m) (us++ws)
 | [],m,us,ws,h,g=>by simp only[RPs]at h;subst h;simpa using g
 | x::l,m,us,ws,h,g=>by
  simp only[RPs]at h;obtain⟨u,r,rfl,a,b⟩:=h;exact RPs.cons K a (RPs.append b g)
theorem RPs.take{H:Hp}:∀{l:List PV} {us:List V} (n:Nat),RPs K H l us->RPs K H (l.take n) (us.take n)
 | [],us,n,h=>by simp only[RPs]at h;subst h;simp[RPs]
 | x::l,us,0,h=>by simp[RPs]
 | x::l,us,n+1,h=>by
  simp only[RPs]at h;obtain⟨u,r,rfl,a,b⟩:=h;exact RPs.cons K a (RPs.take n b)
theorem RPs.drop{H:Hp}:∀{l:List PV} {us:List V} (n:Nat),RPs K H l us->RPs K H (l.drop n) (us.drop n)
 | [],us,n,h=>by simp only[RPs]at h;subst h;simp[RPs]
 | x::l,us,0,h=>h
 | x::l,us,n+1,h=>by
  simp only[RPs]at h;obtain⟨u,r,rfl,a,b⟩:=h;exact RPs.drop n b
theorem RPs.dropLast{H:Hp}{l:List PV}{us:List V}(h:RPs K H l us):RPs K H l.dropLast us.dropLast:=by
 rw[List.dropLast_eq_take,List.dropLast_eq_take,RPs.length K h];exact RPs.take K _ h
theorem RPs.ints{H:Hp}:∀(ns:List Int),RPs K H (ns.map PV.int) (ns.map V.int)
 | []=>by simp[RPs]
 | n::ns=>RPs.cons K (by simp[RP]) (RPs.ints ns)
end
def jF(a C:Addr)(h:Heap):Prop:=∃o,h.get? a=some o/\o.cls=.ref C
inductive PO where
 | exc (C:Addr)
 | lst (l:List PV)
 | ins (C dx:Addr) (fs:List (Str×PV))
 | dK (kvs:List (Key×PV))
 | dT (kvs:List (List Key×PV))
abbrev PHp:=Addr->Option PO
def put(H:PHp)(a:Addr)(o:PO):PHp:=fun b=>if b=a then some o else H b
theorem ai{H:PHp}{a:Addr}{o:PO}:put H a o a=some o:=by unfold put;rw[if_pos rfl]
theorem ar{H:PHp}{a b:Addr}{o:PO}(h:b≠a):put H a o b=H b:=by unfold put;rw[if_neg h]
theorem aI{H:PHp}{a:Addr}{o u:PO}:put (put H a o) a u=put H a u:=by
 funext b;unfold put;split<;>rfl
theorem au{H:PHp}{a b:Addr}{o:PO}(h:H a=some o)(h':H b=none):a≠b:=by
 intro e;subst e;rw[h]at h';cases h'
abbrev eX(K:PySem.W.Frag)(H:Hp){κ:Type}:List (κ×PV)->List (κ×V)->Prop:=Paired fun p q=>p.1=q.1/\RP K H p.2 q.2
def OAt(K:PySem.W.Frag)(H:Hp)(a:Addr):PO->Prop
 | .exc C=>H a=some (.ext (jF a C))
 | .lst l=>∃us,H a=some (.lst us)/\RPs K H l us
 | .ins C dx fs=>∃gs,H a=some (.ins C dx gs)/\eX K H fs gs
 | .dK kvs=>∃ws,H a=some (.dK ws)/\eX K H kvs ws
 | .dT kvs=>∃ws,H a=some (.dT ws)/\eX K H kvs ws
abbrev HR(K:PySem.W.Frag)(H':PHp)(H:Hp):Prop:=∀a o,H' a=some o->OAt K H a o
abbrev St':=List (Option PV)
abbrev Bs:=PHp×Hp
def Ev(H':PHp)(H:Hp)(H1':PHp)(H1:Hp):Prop:=∀a o,H a=some o->H' a=none->H1 a=some o/\H1' a=none
structure SR (K:PySem.W.Frag) (B:Bs) (σ':St') (H':PHp) (σ:L2.St) (H:Hp):Prop where
 len:σ'.length=σ.length
 loc:∀(i:Nat) (v':PV),σ'[i]?=some (some v')->∃v,σ[i]?=some (some v)/\RP K H v' v
 hp:HR K H' H
 ev:Ev B.1 B.2 H' H
theorem Ev.refl(H':PHp)(H:Hp):Ev H' H H' H:=fun _ _ h h'=>⟨h,h'⟩
theorem Ev.trans{H':PHp}{H:Hp}{H1':PHp}{H1:Hp}{H2':PHp}{H2:Hp}(a:Ev H' H H1' H1)(b:Ev H1' H1 H2' H2):Ev H' H H2' H2:=fun c o h h'=>by
 obtain⟨p,q⟩:=a c o h h';exact b c o p q
section
variable {K:PySem.W.Frag}
theorem eX.kp{κ:Type}{H H1:Hp}(k:Kp H H1){fs:List (κ×PV)}{gs:List (κ×V)}(h:eX K H fs gs):eX K H1 fs gs:=Paired.mapP h fun _ _ ⟨a,b⟩=>⟨a,RP.kp K k b⟩
theorem OAt.some{H:Hp}{a:Addr}:∀{o:PO},OAt K H a o->∃u,H a=Option.some u/\(∀us,u≠.tup us)/\(∀o us,u≠.frz o us)/\(∀x,u≠.own x)
 | .exc C,e=>⟨_,e,(fun _=>by nofun),(fun _ _=>by nofun),(fun _=>by nofun)⟩
 | .lst l,⟨us,e,_⟩=>⟨_,e,(fun _=>by nofun),(fun _ _=>by nofun),(fun _=>by nofun)⟩
 | .ins C dx fs,⟨us,e,_⟩=>⟨_,e,(fun _=>by nofun),(fun _ _=>by nofun),(fun _=>by nofun)⟩
 | .dK l,⟨us,e,_⟩=>⟨_,e,(fun _=>by nofun),(fun _ _=>by nofun),(fun _=>by nofun)⟩
 | .dT l,⟨us,e,_⟩=>⟨_,e,(fun _=>by nofun),(fun _ _=>by nofun),(fun _=>by nofun)⟩
theorem OAt.keep{H H1:Hp}{a:Addr}(k:Kp H H1)(e:H1 a=H a):∀{o:PO},OAt K H a o->OAt K H1 a o
 | .exc C,h=>e.trans h
 | .lst l,⟨us,h,r⟩=>⟨us,e.trans h,RPs.kp K k r⟩
 | .ins C dx fs,⟨us,h,r⟩=>⟨us,e.trans h,eX.kp k r⟩
 | .dK l,⟨us,h,r⟩=>⟨us,e.trans h,eX.kp k r⟩
 | .dT l,⟨us,h,r⟩=>⟨us,e.trans h,eX.kp k r⟩
theorem HR.tup{H':PHp}{H:Hp}(h:HR K H' H){a:Addr}{us:List V}(e:H a=some (.tup us)):H' a=none:=by
 cases q:H' a with
 | none=>rfl
 | some o=>obtain⟨u,e1,n,_⟩:=(h a o q).some;rw[e]at e1;exact absurd (Option.some.inj e1).symm (n us)
theorem HR.frz{H':PHp}{H:Hp}(h:HR K H' H){a:Addr}{o:Obj}{u:HO}(e:H a=some (.frz o u)):H' a=none:=by
 cases q:H' a with
 | none=>rfl
 | some o'=>obtain⟨u',e1,_,n,_⟩:=(h a o' q).some;rw[e]at e1;exact absurd (Option.some.inj e1).symm (n o u)
theorem HR.free{H':PHp}{H:Hp}(h:HR K H' H){a:Addr}(e:H a=none):H' a=none:=by
 cases q:H' a with
 | none=>rfl
 | some o=>obtain⟨u,e1,_⟩:=(h a o q).some;rw[e]at e1;cases e1
theorem Ev.kp{H':PHp}{H:Hp}{H1':PHp}{H1:Hp}(e:Ev H' H H1' H1)(h:HR K H' H):Kp H H1 :=
 ⟨fun a us q=>(e a _ q (h.tup q)).1,fun a o u q=>(e a _ q (h.frz q)).1⟩
theorem fU{H:Hp}{p:Addr}{o:HO}(e:H p=none):Kp H (upd H p o) :=
 ⟨fun a us q=>by rw[aD (aK q e)];exact q,fun a o u q=>by rw[aD (aK q e)];exact q⟩
theorem kq{H:Hp}{p:Addr}{o u:HO}(e:H p=some u)(n1:∀us,u≠.tup us)(n2:∀o us,u≠.frz o us):Kp H (upd H p o) :=
 ⟨fun a us q=>by rw[aD (wg q e fun z=>n1 us z.symm)];exact q,fun a o' u' q=>by rw[aD (wg q e fun z=>n2 o' u' z.symm)];exact q⟩
theorem SR.kp{B:Bs}{σ':St'}{H' H1':PHp}{σ:L2.St}{H H1:Hp}(s:SR K B σ' H' σ H)(e:Ev H' H H1' H1)(h:HR K H1' H1):SR K B σ' H1' σ H1 :=
 ⟨s.len,fun i v' q=>by obtain⟨v,a,b⟩:=s.loc i v' q;exact⟨v,a,RP.kp K (e.kp s.hp) b⟩,h,s.ev.trans e⟩
theorem HR.hid{H':PHp}{H:Hp}{p:Addr}{o:HO}(h:HR K H' H)(e:H p=none):HR K H' (upd H p o):=fun a u q=>by
 have na:a≠p:=by rintro rfl;rw[h.free e]at q;cases q
 exact(h a u q).keep (fU e) (aD na)
theorem Ev.hid{H':PHp}{H:Hp}{p:Addr}{o:HO}(e:H p=none):Ev H' H H' (upd H p o):=fun a u q n=>⟨by rw[aD (aK q e)];exact q,n⟩
theorem HR.new{H':PHp}{H:Hp}{p:Addr}{o:HO}{o':PO}(h:HR K H' H)(e:H p=none)(new:OAt K (upd H p o) p o'):HR K (put H' p o') (upd H p o):=fun a u q=>by
 by_cases hp:a=p
 ·subst hp;rw[ai]at q;cases q;exact new
 ·rw[ar hp]at q;exact(h a u q).keep (fU e) (aD hp)
theorem Ev.new{H':PHp}{H:Hp}{p:Addr}{o:HO}{o':PO}(e:H p=none):Ev H' H (put H' p o') (upd H p o):=fun a u q n=>by
 have na:=aK q e;exact⟨by rw[aD na];exact q,by rw[ar na];exact n⟩
theorem HR.wr{H':PHp}{H:Hp}{p:Addr}{o:HO}{o' u':PO}(h:HR K H' H)(e:H' p=some u')(new:OAt K (upd H p o) p o'):HR K (put H' p o') (upd H p o):=fun a u q=>by
 obtain⟨v,e1,n1,n2,_⟩:=(h p u' e).some;by_cases hp:a=p
 ·subst hp;rw[ai]at q;cases q;exact new
 ·rw[ar hp]at q;exact(h a u q).keep (kq e1 n1 n2) (aD hp)
theorem HR.kpw{H':PHp}{H:Hp}{p:Addr}{o:HO}{u':PO}(h:HR K H' H)(e:H' p=some u'):Kp H (upd H p o):=by
 obtain⟨v,e1,n1,n2,_⟩:=(h p u' e).some;exact kq e1 n1 n2
theorem Ev.wr{H':PHp}{H:Hp}{p:Addr}{o:HO}{o' u':PO}(e:H' p=some u'):Ev H' H (put H' p o') (upd H p o):=fun a u q n=>by
 have na:a≠p:=by rintro rfl;rw[e]at n;cases n
 exact⟨by rw[aD na];exact q,by rw[ar na];exact n⟩
def Sub(A B:PHp):Prop:=∀a o,A a=some o->B a=some o
theorem Sub.refl(A:PHp):Sub A A:=fun _ _ h=>h
theorem Sub.trans{A B C:PHp}(a:Sub A B)(b:Sub B C):Sub A C:=fun c o h=>b c o (a c o h)
theorem Sub.put{A B:PHp}{p:Addr}{o:PO}(a:Sub A B)(n:A p=none):Sub A (put B p o):=fun c u h=>by rw[ar (au h n)];exact a c u h
theorem Sub.free{A B:PHp}(a:Sub A B){p:Addr}(n:B p=none):A p=none:=by
 cases q:A p with
 | none=>rfl
 | some o=>rw[a p o q]at n;cases n
theorem HR.sub{A B:PHp}{H:Hp}(h:HR K B H)(s:Sub A B):HR K A H:=fun a o e=>h a o (s a o e)
theorem Ev.sub{H':PHp}{H:Hp}{A B:PHp}{H1:Hp}(e:Ev H' H B H1)(s:Sub A B):Ev H' H A H1:=fun a o q n=>by
 obtain⟨x,y⟩:=e a o q n;exact⟨x,s.free y⟩
end
end
section
variable {B:Bs}
abbrev VK':=PV->PHp->Prop
abbrev TE':=St'->PHp->VK'->Prop
abbrev TT':=St'->PHp->(Bool->PHp->Prop)->Prop
abbrev TA':=St'->PHp->(List PV->PHp->Prop)->Prop
abbrev XK':=Value->Option Addr->PHp->Prop
structure cM where
 nx:St'->PHp->Prop
 rt:VK'
 bk:St'->PHp->Prop:=fun _ _=>False
 ct:St'->PHp->Prop:=fun _ _=>False
abbrev TS':=cM->St'->PHp->Prop
abbrev TG':=PV->St'->PHp->(St'->PHp->Prop)->Prop
abbrev gK:=List PV->St'->PHp->(St'->PHp->Prop)->Prop
structure It' where
 items:List PV
 ok:PHp->Prop
abbrev TI':=St'->PHp->(It'->PHp->Prop)->Prop
section
variable (K:PySem.W.Frag)(B:Bs)
def low(t:TE'):TE:=fun σ H Q=>∃σ' H' Q',SR K B σ' H' σ H/\t σ' H' Q'/\∀v' H1' v H1,Q' v' H1'->RP K H1 v' v->SR K B σ' H1' σ H1->Ev H' H H1' H1->Q v H1
def j3(t:TT'):TT:=fun σ H Q=>∃σ' H' Q',SR K B σ' H' σ H/\t σ' H' Q'/\∀b H1' H1,Q' b H1'->SR K B σ' H1' σ H1->Ev H' H H1' H1->Q b H1
def l8(t:TA'):TA:=fun σ H Q=>∃σ' H' Q',SR K B σ' H' σ H/\t σ' H' Q'/\∀vs' H1' vs H1,Q' vs' H1'->RPs K H1 vs' vs->SR K B σ' H1' σ H1->Ev H' H H1' H1->Q vs H1
structure DR (D':cM) (D:Ends) (H':PHp) (H:Hp):Prop where
 nx:∀σ1' H1' σ1 H1,D'.nx σ1' H1'->SR K B σ1' H1' σ1 H1->Ev H' H H1' H1->D.nx σ1 H1
 rt:∀v' H1' v H1,D'.rt v' H1'->RP K H1 v' v->HR K H1' H1->Ev H' H H1' H1->D.rt v H1
 bk:∀σ1' H1' σ1 H1,D'.bk σ1' H1'->SR K B σ1' H1' σ1 H1->Ev H' H H1' H1->D.bk σ1 H1
 ct:∀σ1' H1' σ1 H1,D'.ct σ1' H1'->SR K B σ1' H1' σ1 H1->Ev H' H H1' H1->D.ct σ1 H1
theorem DR.ev{D':cM}{D:Ends}{H':PHp}{H:Hp}{H1':PHp}{H1:Hp}(d:DR K B D' D H' H)(e:Ev H' H H1' H1):DR K B D' D H1' H1 :=
 ⟨fun a b c f p q r=>d.nx a b c f p q (e.trans r),fun a b c f p q r s=>d.rt a b c f p q r (e.trans s),fun a b c f p q r=>d.bk a b c f p q (e.trans r),fun a b c f p q r=>d.ct a b c f p q (e.trans r)⟩
def BB(t:TS'):TS:=fun D σ H=>∃σ' H' D',SR K B σ' H' σ H/\t D' σ' H'/\DR K B D' D H' H
def lowG(t:TG'):TG:=fun v σ H Q=>∃v' σ' H' Q',RP K H v' v/\SR K B σ' H' σ H/\t v' σ' H' Q'/\∀σ1' H1' σ1 H1,Q' σ1' H1'->SR K B σ1' H1' σ1 H1->Ev H' H H1' H1->Q σ1 H1
def By(t:gK):TGs:=fun vs σ H Q=>∃vs' σ' H' Q',RPs K H vs' vs/\SR K B σ' H' σ H/\t vs' σ' H' Q'/\∀σ1' H1' σ1 H1,Q' σ1' H1'->SR K B σ1' H1' σ1 H1->Ev H' H H1' H1->Q σ1 H1
structure Walks (H1:Hp) (J:It) (J':It'):Prop where
 go:∀H' H i,Kp H1 H->HR K H' H->J'.ok H'->i<J'.items.length->J.go i H
 yld:∀H' H i x H2,Kp H1 H->HR K H' H->J'.ok H'->J.yld i H x H2->H2=H/\∀x',J'.items[i]?=some x'->RP K H x' x
 stop:∀H' H i,Kp H1 H->HR K H' H->J'.ok H'->J'.items.length≤i->J.stop i H
def BF(t:TI'):TI:=fun σ H R=>∃σ' H' R',SR K B σ' H' σ H/\t σ' H' R'/\∀J' H1' J H1,R' J' H1'->Walks K H1 J J'->SR K B σ' H1' σ H1->Ev H' H H1' H1->R J H1
end
section
variable {X:Cx}
theorem aT{e:Expr}{t1 t2:TE}(h:PE X e t2)(i:∀σ H Q,t1 σ H Q->t2 σ H Q):PE X e t1:=fun pins s σ H Q I q=>h pins s σ H Q I (i σ H Q q)
theorem mi{e:Expr}{t1 t2:TT}(h:PT X e t2)(i:∀σ H Q,t1 σ H Q->t2 σ H Q):PT X e t1:=fun pins s σ H Q I q=>h pins s σ H Q I (i σ H Q q)
theorem tG{e:Expr}{t1 t2:TT}(h:PW X e t2)(i:∀σ H Q,t1 σ H Q->t2 σ H Q):PW X e t1:=fun w pins s σ H Q I q=>h w pins s σ H Q I (i σ H Q q)
theorem rN{e:List Expr}{t1 t2:TA}(h:PA X e t2)(i:∀σ H Q,t1 σ H Q->t2 σ H Q):PA X e t1:=fun p pins s σ H Q I q=>h p pins s σ H Q I (i σ H Q q)
theorem dw{e:Stmt}{t1 t2:TS}(h:PS X e t2)(i:∀D σ H,t1 D σ H->t2 D σ H):PS X e t1:=fun pins s σ H D I q=>h pins s σ H D I (i D σ H q)
theorem nM{e:List Stmt}{t1 t2:TS}(h:PSs X e t2)(i:∀D σ H,t1 D σ H->t2 D σ H):PSs X e t1:=fun pins s σ H D I q=>h pins s σ H D I (i D σ H q)
theorem ql{e:Expr}{t1 t2:TG}(h:PG X e t2)(i:∀v σ H Q,t1 v σ H Q->t2 v σ H Q):PG X e t1:=fun pins s σ H v u Q I r q=>h pins s σ H v u Q I r (i v σ H Q q)
theorem n0{e:List Expr}{t1 t2:TGs}(h:PGs X e t2)(i:∀v σ H Q,t1 v σ H Q->t2 v σ H Q):PGs X e t1:=fun pins s σ H v u Q I r q=>h pins s σ H v u Q I r (i v σ H Q q)
theorem gk{tg e:Expr}{t1 t2:TI}(h:PI X tg e t2)(i:∀σ H Q,t1 σ H Q->t2 σ H Q):PI X tg e t1:=fun pins s σ H Q I q=>h pins s σ H Q I (i σ H Q q)
abbrev PE'(X:Cx)(B:Bs)(e:Expr)(t:TE'):Prop:=PE X e (low X.K B t)
abbrev PT'(X:Cx)(B:Bs)(e:Expr)(t:TT'):Prop:=PT X e (j3 X.K B t)
abbrev PW'(X:Cx)(B:Bs)(e:Expr)(t:TT'):Prop:=PW X e (j3 X.K B t)
abbrev PA'(X:Cx)(B:Bs)(e:List Expr)(t:TA'):Prop:=PA X e (l8 X.K B t)
abbrev PS'(X:Cx)(B:Bs)(e:Stmt)(t:TS'):Prop:=PS X e (BB X.K B t)
abbrev gJ(X:Cx)(B:Bs)(e:List Stmt)(t:TS'):Prop:=PSs X e (BB X.K B t)
abbrev PG'(X:Cx)(B:Bs)(e:Expr)(t:TG'):Prop:=PG X e (lowG X.K B t)
abbrev va(X:Cx)(B:Bs)(e:List Expr)(t:gK):Prop:=PGs X e (By X.K B t)
abbrev PI'(X:Cx)(B:Bs)(tg e:Expr)(t:TI'):Prop:=PI X tg e (BF X.K B t)
def k6(o:Option (Option PV))(k:PV->Prop):Prop:=match o with
 | some (some v)=>k v
 | _=>False
theorem k6.ex{o:Option (Option PV)}{k:PV->Prop}(h:k6 o k):∃v,o=some (some v)/\k v:=by
 unfold k6 at h;split at h
 ·exact⟨_,rfl,h⟩
 ·exact h.elim
def aR(i:Nat):TE':=fun σ H Q=>k6 σ[i]? fun v=>Q v H
def uC(v:PV):TE':=fun _ H Q=>Q v H
theorem qv(i:Nat){x:Str}{pos:Pos}(hN:X.N[i]?=some x:=by rfl)(hv:Vis X.env.scope x:=by first | exact Or.inl rfl | exact Or.inr (Or.inl rfl) | exact Or.inr (Or.inr rfl))(hd:(x==("__debug__":Str))=false:=by decide)
  (hcd:(x==("__classdict__":Str))=false:=by decide):PE' X B (.Name x pos) (aR i):=aT (pv i hN hv hd hcd) fun σ H Q ⟨σ',H',Q',s,h,k⟩=>by
 obtain⟨v',e,q⟩:=h.ex;obtain⟨v,a,b⟩:=s.loc i v' e;exact⟨v,a,k v' H' v H q b s (Ev.refl _ _)⟩
theorem tj{K:PySem.W.Frag}{v':PV}{v:V}(r:∀H,RP K H v' v){σ:L2.St}{H:Hp}{Q:VK}(h:low K B (uC v') σ H Q):tC v σ H Q:=by
 obtain⟨σ',H',Q',s,h,k⟩:=h;exact k v' H' v H h (r H) s (Ev.refl _ _)
theorem aj{i j pos}:PE' X B (.Constant (.int i) j pos) (uC (.int i)):=aT yJ fun _ _ _ h=>tj (fun _=>by simp[RP]) h
theorem dH{i j pos}:PE' X B (.Constant (.bool i) j pos) (uC (.bl i)):=aT zV fun _ _ _ h=>tj (fun _=>by simp[RP]) h
theorem aX{i j pos}:PE' X B (.Constant (.str i) j pos) (uC (.str i)):=aT sj fun _ _ _ h=>tj (fun _=>by simp[RP]) h
theorem tH{j pos}:PE' X B (.Constant .none j pos) (uC .non):=aT yo fun _ _ _ h=>tj (fun _=>by simp[RP]) h
theorem vg{x:Str}{v':PV}{v:V}{u:Value}{pos:Pos}(hg:Gl X x)(hm:X.mg x=some u)(r:RelV v u)(r':∀H,RP X.K H v' v)(hd:(x==("__debug__":Str))=false:=by decide):PE' X B (.Name x pos) (uC v') :=
 aT (nO hg hm r hd) fun _ _ _ h=>tj r' h
abbrev R2':=PV->PV->PHp->VK'->Prop
def VR(K:PySem.W.Frag)(B:Bs)(r':R2')(r:R2):Prop:=∀(σ':St') (σ:L2.St) (H':PHp) (H:Hp) x' y' x y (Q':VK') (Q:VK),SR K B σ' H' σ H->RP K H x' x->RP K H y' y->r' x' y' H' Q' ->
 (∀v' H1' v H1,Q' v' H1'->RP K H1 v' v->SR K B σ' H1' σ H1->Ev H' H H1' H1->Q v H1)->r x y H Q
def uOp(r:R2')(ta tb:TE'):TE':=fun σ H Q=>ta σ H fun x H1=>tb σ H1 fun y H2=>r x y H2 Q
theorem j5{K:PySem.W.Frag}{r':R2'}{r:R2}{ta tb:TE'}(v:VR K B r' r){σ:L2.St}{H:Hp}{Q:VK}(h:low K B (uOp r' ta tb) σ H Q):tOp r (low K B ta) (low K B tb) σ H Q:=by
 obtain⟨σ',H',Q',s,h,k⟩:=h;refine⟨σ',H',_,s,h,fun x' H1' x H1 h1 rx s1 e1=>⟨σ',H1',_,s1,h1,fun y' H2' y H2 h2 ry s2 e2=>?_⟩⟩;exact v σ' σ H2' H2 x' y' x y Q' Q s2 (RP.kp K (e2.kp s1.hp) rx) ry h2 fun v' H3' v H3 q rv s3 e3=>k v' H3' v H3 q rv s3 (e1.trans (e2.trans e3))
variable {a b c:Expr}{ta tb tc:TE'}{pos:Pos}
theorem eQ{op:Operator}{r':R2'}{r:R2}(ho:OpR X (binaryOp op) r)(v:VR X.K B r' r)(ha:PE' X B a ta)(hb:PE' X B b tb):PE' X B (.BinOp a op b pos) (uOp r' ta tb):=aT (AD ho ha hb) fun _ _ _ h=>j5 v h
theorem eW{op:CmpOp}{r':R2'}{r:R2}(ho:OpR X (compareOp op) r)(v:VR X.K B r' r)(ha:PE' X B a ta)(hb:PE' X B b tb)(hm:behindInMarks op b=false):PE' X B (.Compare a [op] [b] pos) (uOp r' ta tb) :=
 aT (vZ ho ha hb hm) fun _ _ _ h=>j5 v h
def cif(b:Bool)(A B:Prop):Prop:=match b with
 | true=>A
 | false=>B
theorem Aa{A B:Prop}:cif true A B=A:=rfl
theorem BH{A B:Prop}:cif false A B=B:=rfl
theorem bw{b:Bool}{A B:Prop}(h1:b=true->A)(h2:b=false->B):cif b A B:=by
 cases b
 ·exact h2 rfl
 ·exact h1 rfl
theorem aA{b:Bool}{A B:Prop}(h:b=true)(h1:A):cif b A B:=by subst h;exact h1
theorem aw{b:Bool}{A B:Prop}(h:b=false)(h1:B):cif b A B:=by subst h;exact h1
theorem uW{c:Prop}[Decidable c]{A B:Prop}(h1:c->A)(h2:¬c->B):cif (decide c) A B:=by
 by_cases h:c
 ·exact aA (decide_eq_true h) (h1 h)
 ·exact aw (decide_eq_false h) (h2 h)
def dN(x:PV)(k:Bool->Prop):Prop:=match x with
 | .bl b=>k b
 | _=>False
theorem dN.ex{x:PV}{k:Bool->Prop}(h:dN x k):∃v,x=.bl v/\k v:=by
 unfold dN at h;split at h
 ·exact⟨_,rfl,h⟩
 ·exact h.elim
def bQ(x:PV)(k:Int->Prop):Prop:=match x with
 | .int i=>k i
 | _=>False
theorem bQ.ex{x:PV}{k:Int->Prop}(h:bQ x k):∃v,x=.int v/\k v:=by
 unfold bQ at h;split at h
 ·exact⟨_,rfl,h⟩
 ·exact h.elim
def ig(t:TE'):TT':=fun σ H Q=>t σ H fun x H1=>dN x fun b=>Q b H1
theorem kH{K:PySem.W.Frag}{t:TE'}{σ:L2.St}{H:Hp}{Q:Bool->Hp->Prop}(h:j3 K B (ig t) σ H Q):v8 (low K B t) σ H Q:=by
 obtain⟨σ',H',Q',s,h,k⟩:=h;refine⟨σ',H',_,s,h,fun x' H1' x H1 h1 rx s1 e1=>?_⟩;obtain⟨b,rfl,q⟩:=h1.ex;simp only[RP]at rx;exact⟨b,rx,k b H1' H1 q s1 e1⟩
theorem bW{e:Expr}{t:TE'}(h:PE' X B e t)(he:∀whole,isTrue e X.env whole=(do let v←whole;standAt e.pos;holding [v] (truthy v)):=by intro _;rfl):PT' X B e (ig t):=mi (zI h he) fun _ _ _ h=>kH h
theorem ay{op:CmpOp}{r':R2'}{r:R2}(ho:OpR X (compareOp op) r)(v:VR X.K B r' r)(ha:PE' X B a ta)(hb:PE' X B b tb)(hm:behindInMarks op b=false):PT' X B (.Compare a [op] [b] pos) (ig (uOp r' ta tb)) :=
 mi (vO ho ha hb hm) fun _ _ _ h=>by
  obtain⟨σ',H',Q',s,h,k⟩:=kH h;exact j5 v ⟨σ',H',Q',s,h,k⟩
def zo(r r':R2')(ta tb tc:TE'):TE':=fun σ H Q=>ta σ H fun x H1=>tb σ H1 fun y H2=>r x y H2 fun z H3=>dN z fun k=>cif k (tc σ H3 fun w' H4=>r' y w' H4 Q) (Q (.bl false) H3)
def uI(C:Int->Int->Prop)(g:Int->Int->PV):R2':=fun x y H Q=>bQ x fun i=>bQ y fun j=>C i j/\Q (g i j) H
def uI0(g:Int->Int->PV):R2':=fun x y H Q=>bQ x fun i=>bQ y fun j=>Q (g i j) H
theorem qq{K:PySem.W.Frag}{C:Int->Int->Prop}{g':Int->Int->PV}{g:Int->Int->V}(r:∀i j H,RP K H (g' i j) (g i j)):VR K B (uI C g') (rI C g):=by
 intro σ' σ H' H x' y' x y Q' Q s rx ry h k;obtain⟨i,rfl,h1⟩:=bQ.ex h;obtain⟨j,rfl,hc,h⟩:=bQ.ex h1;simp only[RP]at rx ry;exact⟨i,j,rx,ry,hc,k _ H' _ H h (r i j H) s (Ev.refl _ _)⟩
theorem iR{K:PySem.W.Frag}{g':Int->Int->PV}{g:Int->Int->V}(r:∀i j H,RP K H (g' i j) (g i j)):VR K B (uI0 g') (rI0 g):=by
 intro σ' σ H' H x' y' x y Q' Q s rx ry h k;obtain⟨i,rfl,h1⟩:=bQ.ex h;obtain⟨j,rfl,h⟩:=bQ.ex h1;simp only[RP]at rx ry;exact⟨i,j,rx,ry,k _ H' _ H h (r i j H) s (Ev.refl _ _)⟩
abbrev DV:R2':=uI0 fun i j=>.int (i+j)
abbrev EB:R2':=uI0 fun i j=>.int (i - j)
abbrev uLt:R2':=uI0 fun i j=>.bl (decide (i<j))
abbrev uLe:R2':=uI0 fun i j=>.bl (decide (i≤j))
abbrev uGt:R2':=uI0 fun i j=>.bl (decide (j<i))
abbrev uGe:R2':=uI0 fun i j=>.bl (decide (j≤i))
def Fit(i:Int):Prop:=i.natAbs.log2<9000
def kS(i j:Int):Prop:=yy i j∨(Fit i/\Fit j)
def tD(i j:Int):Prop:=j≠0/\Fit j
theorem kS.ok{i j:Int}(h:kS i j):IntMulOk i j:=by
 rcases h with h |⟨h1,h2⟩
 ·exact h.ok
 ·unfold IntMulOk;have e:∀x:Int,Fit x->Builtin.Int.intBits x≤9000:=fun x hx=>by
   unfold Builtin.Int.intBits Fit at *;split<;>omega
  have e1:=e i h1;have e2:=e j h2;have e3:Builtin.Int.intTooBig (Builtin.Int.intBits i+Builtin.Int.intBits j)=false:=by
   unfold Builtin.Int.intTooBig;refine decide_eq_false ?_;show ¬(bitsLine:Int)<_;have hb:(18000:Nat)≤bitsLine:=by decide +kernel
   omega
  rw[e3];simp
abbrev DK:R2':=uI kS fun i j=>.int (i*j)
abbrev Bd:R2':=uI tD fun i j=>.int (i.fdiv j)
theorem tZ{X:Cx}:OpR X (binaryOp .Mult) (rI kS fun i j=>.int (i*j)):=opI fun _ _ _ _ _ _ _ hc q=>mul_int q hc.ok
theorem sD{X:Cx}:OpR X (binaryOp .FloorDiv) (rI tD fun i j=>.int (i.fdiv j)):=opI fun _ _ _ _ _ _ _ hc q=>floordiv_int hc.1 q (.inl (PyProof.noPylong_of_log2 hc.2))
abbrev DC:R2':=uI (fun _ j=>j≠0) fun i j=>.int (i.fmod j)
abbrev Dg:R2':=uI zJ fun i j=>.int (i ^ j.toNat)
theorem b7(ha:PE' X B a ta)(hb:PE' X B b tb):PE' X B (.BinOp a .Add b pos) (uOp DV ta tb):=eQ yV (iR fun _ _ _=>by simp[RP]) ha hb
theorem jR(ha:PE' X B a ta)(hb:PE' X B b tb):PE' X B (.BinOp a .Sub b pos) (uOp EB ta tb):=eQ yW (iR fun _ _ _=>by simp[RP]) ha hb
theorem gh(ha:PE' X B a ta)(hb:PE' X B b tb):PE' X B (.BinOp a .Mult b pos) (uOp DK ta tb):=eQ tZ (qq fun _ _ _=>by simp[RP]) ha hb
theorem cw(ha:PE' X B a ta)(hb:PE' X B b tb):PE' X B (.BinOp a .FloorDiv b pos) (uOp Bd ta tb):=eQ sD (qq fun _ _ _=>by simp[RP]) ha hb
theorem bC(ha:PE' X B a ta)(hb:PE' X B b tb):PE' X B (.BinOp a .Mod b pos) (uOp DC ta tb):=eQ vi (qq fun _ _ _=>by simp[RP]) ha hb
theorem ka(ha:PE' X B a ta)(hb:PE' X B b tb):PE' X B (.BinOp a .Pow b pos) (uOp Dg ta tb):=eQ yN (qq fun _ _ _=>by simp[RP]) ha hb
theorem fb{K:PySem.W.Frag}:VR K B uLt (rI0 fun i j=>.bl (decide (i<j))):=iR fun _ _ _=>by simp[RP]
theorem wV{K:PySem.W.Frag}:VR K B uLe (rI0 fun i j=>.bl (decide (i≤j))):=iR fun _ _ _=>by simp[RP]
theorem gz{K:PySem.W.Frag}:VR K B uGt (rI0 fun i j=>.bl (decide (j<i))):=iR fun _ _ _=>by simp[RP]
theorem nY{K:PySem.W.Frag}:VR K B uGe (rI0 fun i j=>.bl (decide (j≤i))):=iR fun _ _ _=>by simp[RP]
end
end
section
variable {B:Bs}
section
variable {X:Cx}{a b c e o:Expr}{es rest:List Expr}{ta tb tc:TE'}{tA tB:TT'}{t:TA'}{pos:Pos}
def BE(t u:TT'):TT':=fun σ H Q=>t σ H fun c H1=>cif c (u σ H1 Q) (Q false H1)
def uOr(t u:TT'):TT':=fun σ H Q=>t σ H fun c H1=>cif c (Q true H1) (u σ H1 Q)
def BX(t:TT'):TT':=fun σ H Q=>t σ H fun c H1=>Q (!c) H1
theorem cN(ha:PT' X B a tA):PW' X B (.BoolOp .And [a] pos) tA:=uu ha
theorem dP(ha:PT' X B a tA):PW' X B (.BoolOp .Or [a] pos) tA:=yq ha
theorem dJ(ha:PT' X B a tA)(hb:PW' X B (.BoolOp .And (b::rest) pos) tB):PW' X B (.BoolOp .And (a::b::rest) pos) (BE tA tB):=tG (xD ha hb) fun σ H Q ⟨σ',H',Q',s,h,k⟩=>by
 refine⟨σ',H',_,s,h,fun x H1' H1 h1 s1 e1=>?_⟩;cases x with
 | true=>exact j0 ⟨σ',H1',_,s1,h1,fun y H2' H2 h2 s2 e2=>k y H2' H2 h2 s2 (e1.trans e2)⟩
 | false=>exact jI (k false H1' H1 h1 s1 e1)
theorem eS(ha:PT' X B a tA)(hb:PW' X B (.BoolOp .Or (b::rest) pos) tB):PW' X B (.BoolOp .Or (a::b::rest) pos) (uOr tA tB):=tG (A5 ha hb) fun σ H Q ⟨σ',H',Q',s,h,k⟩=>by
 refine⟨σ',H',_,s,h,fun x H1' H1 h1 s1 e1=>?_⟩;cases x with
 | false=>exact jI ⟨σ',H1',_,s1,h1,fun y H2' H2 h2 s2 e2=>k y H2' H2 h2 s2 (e1.trans e2)⟩
 | true=>exact j0 (k true H1' H1 h1 s1 e1)
theorem bx(h:PW' X B e tA):PT' X B e tA:=PW.pt h
theorem dh(ha:PT' X B a tA):PT' X B (.UnaryOp .Not a pos) (BX tA):=mi (xT ha) fun σ H Q ⟨σ',H',Q',s,h,k⟩=>⟨σ',H',_,s,h,fun x H1' H1 h1 s1 e1=>k _ H1' H1 h1 s1 e1⟩
def wY(ta tb:TE'):TE':=fun σ H Q=>ta σ H fun x H1=>dN x fun c=>cif c (tb σ H1 Q) (Q (.bl false) H1)
def DN(ta tb:TE'):TE':=fun σ H Q=>ta σ H fun x H1=>dN x fun c=>cif c (Q (.bl true) H1) (tb σ H1 Q)
def ji(ta:TE'):TE':=fun σ H Q=>ta σ H fun x H1=>dN x fun c=>Q (.bl (!c)) H1
theorem my{op}(h:PE' X B a ta):PE' X B (.BoolOp op [a] pos) ta:=xB h
theorem mW(ha:PE' X B a ta)(hb:PE' X B (.BoolOp .And (b::rest) pos) tb):PE' X B (.BoolOp .And (a::b::rest) pos) (wY ta tb):=aT (xx ha hb) fun σ H Q ⟨σ',H',Q',s,h,k⟩=>by
 refine⟨σ',H',_,s,h,fun x H1' v H1 h1 r1 s1 e1=>?_⟩;obtain⟨y,rfl,h1⟩:=h1.ex;simp only[RP]at r1;refine⟨y,r1,?_⟩;cases y with
 | true=>exact j0 ⟨σ',H1',_,s1,h1,fun y H2' v2 H2 h2 r2 s2 e2=>k y H2' v2 H2 h2 r2 s2 (e1.trans e2)⟩
 | false=>exact jI (k _ H1' _ H1 h1 (by simp[RP]) s1 e1)
theorem xp(ha:PE' X B a ta):PE' X B (.UnaryOp .Not a pos) (ji ta):=aT (xA ha) fun σ H Q ⟨σ',H',Q',s,h,k⟩=>by
 refine⟨σ',H',_,s,h,fun x H1' v H1 h1 r1 s1 e1=>?_⟩;obtain⟨y,rfl,h1⟩:=h1.ex;simp only[RP]at r1;exact⟨y,r1,k _ H1' _ H1 h1 (by simp[RP]) s1 e1⟩
def uIf(t:TT')(ta tb:TE'):TE':=fun σ H Q=>t σ H fun c H1=>cif c (ta σ H1 Q) (tb σ H1 Q)
def uUn(r:PV->PHp->VK'->Prop)(ta:TE'):TE':=fun σ H Q=>ta σ H fun x H1=>r x H1 Q
theorem bY(ha:PE' X B a ta):PE' X B (.UnaryOp .USub a pos) (uUn (fun x H Q=>bQ x fun i=>Q (.int (-i)) H) ta):=aT (AV zr ha) fun σ H Q ⟨σ',H',Q',s,h,k⟩=>by
 refine⟨σ',H',_,s,h,fun x H1' v H1 h1 r1 s1 e1=>?_⟩;obtain⟨i,rfl,h1⟩:=bQ.ex h1;simp only[RP]at r1;exact⟨i,r1,k _ H1' _ H1 h1 (by simp[RP]) s1 e1⟩
def vF:TA':=fun _ H Q=>Q [] H
def lF(ta:TE')(tr:TA'):TA':=fun σ H Q=>ta σ H fun x H1=>tr σ H1 fun xs H2=>Q (x::xs) H2
theorem ae:PA' X B [] vF:=rN b9 fun σ H Q ⟨σ',H',Q',s,h,k⟩=>k [] H' [] H h (RPs.nil _) s (Ev.refl _ _)
theorem aa(ha:PE' X B e ta)(hr:PA' X B es t)(hs:starEach (e::es) X.env=(false,eval e X.env)::starEach es X.env:=by rfl):PA' X B (e::es) (lF ta t):=rN (bD ha hr hs) fun σ H Q ⟨σ',H',Q',s,h,k⟩=>by
 refine⟨σ',H',_,s,h,fun x H1' v H1 h1 r1 s1 e1=>⟨σ',H1',_,s1,h1,fun xs H2' vs H2 h2 r2 s2 e2=>?_⟩⟩;exact k _ H2' _ H2 h2 (RPs.cons _ (RP.kp _ (e2.kp s1.hp) r1) r2) s2 (e1.trans e2)
def xV(t:TA'):TE':=fun σ H Q=>t σ H fun xs H1=>xs.length≤sizeLine/\Q (.tup xs) H1
def xQ(t:TA'):TE':=fun σ H Q=>t σ H fun xs H1=>xs.length≤sizeLine/\∀p,H1 p=none->Q (.ref p) (put H1 p (.lst xs))
theorem SR.hid{K:PySem.W.Frag}{σ':St'}{σ:L2.St}{H':PHp}{H:Hp}{p:Addr}{o:HO}(s:SR K B σ' H' σ H)(n:H p=none):SR K B σ' H' σ (upd H p o):=s.kp (Ev.hid n) (s.hp.hid n)
theorem SR.new{K:PySem.W.Frag}{σ':St'}{σ:L2.St}{H':PHp}{H:Hp}{p:Addr}{o:HO}{o':PO}(s:SR K B σ' H' σ H)(n:H p=none)(w:OAt K (upd H p o) p o'):SR K B σ' (put H' p o') σ (upd H p o):=s.kp (Ev.new n) (s.hp.new n w)
theorem SR.wr{K:PySem.W.Frag}{σ':St'}{σ:L2.St}{H':PHp}{H:Hp}{p:Addr}{o:HO}{o' u':PO}(s:SR K B σ' H' σ H)(n:H' p=some u')(w:OAt K (upd H p o) p o'):SR K B σ' (put H' p o') σ (upd H p o):=s.kp (Ev.wr n) (s.hp.wr n w)
theorem lR{K:PySem.W.Frag}{H:Hp}{p:Addr}{xs:List PV}{us:List V}(n:H p=none)(r:RPs K H xs us):RP K (upd H p (.tup us)) (.tup xs) (.ref p):=by
 simp only[RP];exact⟨p,us,rfl,SqT.of a8,RPs.kp K (fU n) r⟩
theorem lg{K:PySem.W.Frag}{H:Hp}{p:Addr}{xs:List PV}{us:List V}(n:H p=none)(r:RPs K H xs us):OAt K (upd H p (.lst us)) p (.lst xs):=⟨us,a8,RPs.kp K (fU n) r⟩
theorem wrL{K:PySem.W.Frag}{H':PHp}{H:Hp}{p:Addr}{u':PO}{xs:List PV}{us:List V}(h:HR K H' H)(n:H' p=some u')(r:RPs K H xs us):OAt K (upd H p (.lst us)) p (.lst xs):=⟨us,a8,RPs.kp K (h.kpw n) r⟩
theorem aO{x1}(h:PA' X B es t):PE' X B (.Tuple es x1 pos) (xV t):=aT (xh h) fun σ H Q ⟨σ',H',Q',s,h,k⟩=>by
 refine⟨σ',H',_,s,h,fun xs H1' us H1 h1 r1 s1 e1=>⟨by rw[RPs.length _ r1];exact h1.1,fun p n=>?_⟩⟩;exact k _ H1' _ _ h1.2 (lR n r1) (s1.hid n) (e1.trans (Ev.hid n))
theorem aY(h:PA' X B es t):PE' X B (.List es pos) (xQ t):=aT (yH h) fun σ H Q ⟨σ',H',Q',s,h,k⟩=>by
 refine⟨σ',H',_,s,h,fun xs H1' us H1 h1 r1 s1 e1=>⟨by rw[RPs.length _ r1];exact h1.1,fun p n=>?_⟩⟩;exact k _ _ _ _ (h1.2 p (s1.hp.free n)) (by simp[RP]) (s1.new n (lg n r1)) (e1.trans (Ev.new n))
def cn(x:PV)(H:PHp)(k:List PV->Prop):Prop:=match x with
 | .tup l=>k l
 | .fls l=>k l
 | .ref a=>∃l,H a=some (.lst l)/\k l
 | _=>False
theorem cn.ex{K:PySem.W.Frag}{σ':St'}{σ:L2.St}{x:PV}{v:V}{H':PHp}{H:Hp}{k:List PV->Prop}(h:cn x H' k)(s:SR K B σ' H' σ H)(r:RP K H x v):∃l us p,v=.ref p/\RPs K H l us/\(SqL K H p us∨SqT K H p us)/\k l:=by
 unfold cn at h;split at h
 ·simp only[RP]at r;obtain⟨a,us,e,q,r⟩:=r;exact⟨_,us,a,e,r,.inr q,h⟩
 ·simp only[RP]at r;obtain⟨a,us,e,q,r⟩:=r;exact⟨_,us,a,e,r,.inl q.sq,h⟩
 ·simp only[RP]at r;obtain⟨l,e,h⟩:=h;obtain⟨us,q,r2⟩:=s.hp _ _ e;exact⟨l,us,_,r,r2,.inl (SqL.of q),h⟩
 ·exact h.elim
theorem zj{K:PySem.W.Frag}{H:Hp}{l:List PV}{us:List V}{i:Int}{x:PV}(r:RPs K H l us)(e:atI l i=some x):∃u,atI us i=some u/\RP K H x u:=by
 unfold atI at e ⊢;rw[RPs.length _ r];cases q:ixN l.length i with
 | none=>rw[q]at e;cases e
 | some j =>
  rw[q]at e;obtain⟨u,e1,e2⟩:=RPs.get _ r (show l[j]?=some x from e);exact⟨u,e1,e2⟩
def jc(o:Option PV)(k:PV->Prop):Prop:=match o with
 | some v=>k v
 | none=>False
theorem jc.ex{o:Option PV}{k:PV->Prop}(h:jc o k):∃v,o=some v/\k v:=by
 unfold jc at h;split at h
 ·exact⟨_,rfl,h⟩
 ·exact h.elim
def uIx:R2':=fun x y H Q=>cn x H fun l=>bQ y fun i=>jc (atI l i) fun v=>Q v H
theorem uX{X:Cx}:IxR X (fun x y H Q=>xi X.K x y H Q∨xG X.K x y H Q):=uY.or yT
theorem BA{K:PySem.W.Frag}:VR K B uIx (fun x y H Q=>xi K x y H Q∨xG K x y H Q):=by
 intro σ' σ H' H x' y' x y Q' Q s rx ry h k;obtain⟨l,us,p,rfl,r,q,h1⟩:=cn.ex h s rx;obtain⟨i,rfl,h2⟩:=bQ.ex h1;obtain⟨v,e,h3⟩:=jc.ex h2;simp only[RP]at ry;obtain⟨u,e1,e2⟩:=zj r e;have:=k v H' u H h3 e2 s (Ev.refl _ _);rcases q with q | q
 ·exact .inl ⟨p,us,i,u,rfl,ry,q,e1,this⟩
 ·exact .inr ⟨p,us,i,u,rfl,ry,q,e1,this⟩
theorem aJ(ha:PE' X B a ta)(hb:PE' X B b tb)(hs:nA b):PE' X B (.Subscript a b pos) (uOp uIx ta tb):=aT (A7 uX ha hb hs) fun _ _ _ h=>j5 BA h
abbrev TO':=St'->PHp->(Option Int->PHp->Prop)->Prop
def C5(K:PySem.W.Frag)(B:Bs)(t:TO'):TO:=fun σ H Q=>∃σ' H' Q',SR K B σ' H' σ H/\t σ' H' Q'/\∀b H1' H1,Q' b H1'->SR K B σ' H1' σ H1->Ev H' H H1' H1->Q b H1
abbrev PO'(X:Cx)(B:Bs)(e:Option Expr)(t:TO'):Prop:=L2.PO X e (C5 X.K B t)
theorem su{e:Option Expr}{t1 t2:TO}(h:L2.PO X e t2)(i:∀σ H Q,t1 σ H Q->t2 σ H Q):L2.PO X e t1:=fun pins s σ H Q I q=>h pins s σ H Q I (i σ H Q q)
def oH:TO':=fun _ H Q=>Q none H
def wR(t:TE'):TO':=fun σ H Q=>t σ H fun x H1=>bQ x fun i=>Q (some i) H1
theorem eC:PO' X B none oH:=su uM fun σ H Q ⟨σ',H',Q',s,h,k⟩=>k none H' H h s (Ev.refl _ _)
theorem d7(h:PE' X B e ta):PO' X B (some e) (wR ta):=su (ua h) fun σ H Q ⟨σ',H',Q',s,h,k⟩=>by
 refine⟨σ',H',_,s,h,fun x H1' v H1 h1 r1 s1 e1=>?_⟩;obtain⟨i,rfl,h1⟩:=bQ.ex h1;simp only[RP]at r1;exact⟨i,r1,k _ H1' H1 h1 s1 e1⟩
def bO(xs:List PV)(lo hi:Option Int):List PV:=(xs.drop (HT.sIx xs.length 0 lo)).take (HT.sIx xs.length xs.length hi - HT.sIx xs.length 0 lo)
theorem j6{K:PySem.W.Frag}{H:Hp}{l:List PV}{us:List V}{lo hi:Option Int}(r:RPs K H l us):RPs K H (bO l lo hi) (jT us lo hi):=by
 unfold bO jT;rw[RPs.length _ r];exact RPs.take _ _ (RPs.drop _ _ r)
def sliceOf(x:PV)(lo hi:Option Int)(H3:PHp)(Q:VK'):Prop:=match x with
 | .fls l=>∀p,H3 p=none->Q (.ref p) (put H3 p (.lst (bO l lo hi)))
 | .ref a=>∃l,H3 a=some (.lst l)/\∀p,H3 p=none->Q (.ref p) (put H3 p (.lst (bO l lo hi)))
 | .tup l=>¬(HT.sIx l.length 0 lo=0/\HT.sIx l.length l.length hi=l.length)/\Q (.tup (bO l lo hi)) H3
 | _=>False
def rG(ta:TE')(tl th:TO'):TE':=fun σ H Q=>ta σ H fun x H1=>tl σ H1 fun lo H2=>th σ H2 fun hi H3=>sliceOf x lo hi H3 Q
theorem d3{lo hi:Option Expr}{tl th:TO'}{p2:Pos}(he:PE' X B e ta)(hl:PO' X B lo tl)(hu:PO' X B hi th):PE' X B (.Subscript e (.Slice lo hi none p2) pos) (rG ta tl th) :=
 aT (lH (vW.or sF) he hl hu) fun σ H Q ⟨σ',H',Q',s,h,k⟩=>by
 refine⟨σ',H',_,s,h,fun x H1' v H1 h1 r1 s1 e1=>⟨σ',H1',_,s1,h1,fun l H2' H2 h2 s2 e2=>⟨σ',H2',_,s2,h2,fun u H3' H3 h3 s3 e3=>?_⟩⟩⟩;have r3:=RP.kp _ (e3.kp s2.hp) (RP.kp _ (e2.kp s1.hp) r1);have e123:=e1.trans (e2.trans e3);cases x with
 | fls xs =>
  simp only[RP]at r3;obtain⟨a,us,e,q,r⟩:=r3;refine .inl ⟨a,us,e,q.sq,fun p n=>?_⟩;exact k _ _ _ _ (h3 p (s3.hp.free n)) (by simp[RP]) (s3.new n (lg n (j6 r))) (e123.trans (Ev.new n))
 | ref a =>
  simp only[RP]at r3;obtain⟨xs,q,h3⟩:=h3;obtain⟨us,q2,r⟩:=s3.hp _ _ q;refine .inl ⟨a,us,r3,SqL.of q2,fun p n=>?_⟩;exact k _ _ _ _ (h3 p (s3.hp.free n)) (by simp[RP]) (s3.new n (lg n (j6 r))) (e123.trans (Ev.new n))
 | tup xs =>
  simp only[RP]at r3;obtain⟨a,us,e,q,r⟩:=r3;refine .inr ⟨a,us,e,q,by rw[RPs.length _ r];exact h3.1,fun p n=>?_⟩;exact k _ _ _ _ h3.2 (lR n (j6 r)) (s3.hid n) (e123.trans (Ev.hid n))
 | _=>exact h3.elim
def VC(K:PySem.W.Frag)(B:Bs)(r':List PV->PHp->VK'->Prop)(r:List V->Hp->VK->Prop):Prop:=∀(σ':St') (σ:L2.St) (H':PHp) (H:Hp) xs' xs (Q':VK') (Q:VK),SR K B σ' H' σ H->RPs K H xs' xs->r' xs' H' Q' ->
 (∀v' H1' v H1,Q' v' H1'->RP K H1 v' v->SR K B σ' H1' σ H1->Ev H' H H1' H1->Q v H1)->r xs H Q
def uCB(r:List PV->PHp->VK'->Prop)(t:TA'):TE':=fun σ H Q=>t σ H fun vs H1=>r vs H1 Q
theorem qm{K:PySem.W.Frag}{r':List PV->PHp->VK'->Prop}{r:List V->Hp->VK->Prop}{t:TA'}(v:VC K B r' r){σ:L2.St}{H:Hp}{Q:VK}(h:low K B (uCB r' t) σ H Q):tCB r (l8 K B t) σ H Q:=by
 obtain⟨σ',H',Q',s,h,k⟩:=h;exact⟨σ',H',_,s,h,fun xs' H1' xs H1 h1 rx s1 e1=>v σ' σ H1' H1 xs' xs Q' Q s1 rx h1 fun v' H3' v H3 q rv s3 e3=>k v' H3' v H3 q rv s3 (e1.trans e3)⟩
variable {x:Str}{p:Pos}
theorem aS{id:String}{r':List PV->PHp->VK'->Prop}{r:List V->Hp->VK->Prop}(hc:cf X (.builtin id) r)(v:VC X.K B r' r)(hg:Gl X x)(hm:X.mg x=none)(hv:bootBuiltins x=some (.builtin id))(ha:PA' X B (e::es) t)
  (hn:x≠"__name__":=by decide) (hdb:(x==("__debug__":Str))=false:=by decide) (he:starEach (e::es) X.env=(false,eval e X.env)::starEach es X.env:=by rfl) (hpl:(backTo pos (starEach es X.env)).any (·.1)=false:=by rfl) :
  PE' X B (.Call (.Name x p) (e::es) [] pos) (uCB r' t):=aT (cE hc hg hm hv ha hn hdb he hpl) fun _ _ _ h=>qm v h
theorem aQ{id:String}{r':List PV->PHp->VK'->Prop}{r:List V->Hp->VK->Prop}(hc:cf X (.type id) r)(v:VC X.K B r' r)(hg:Gl X x)(hm:X.mg x=none)(hv:bootBuiltins x=some (.type id))(ha:PA' X B (e::es) t)
  (hn:x≠"__name__":=by decide) (hdb:(x==("__debug__":Str))=false:=by decide) (he:starEach (e::es) X.env=(false,eval e X.env)::starEach es X.env:=by rfl) (hpl:(backTo pos (starEach es X.env)).any (·.1)=false:=by rfl) :
  PE' X B (.Call (.Name x p) (e::es) [] pos) (uCB r' t):=aT (cU hc hg hm hv ha hn hdb he hpl) fun _ _ _ h=>qm v h
def dc(f:PV->PHp->VK'->Prop):List PV->PHp->VK'->Prop:=fun xs H Q=>match xs with
 | [x]=>f x H Q
 | _=>False
theorem dc.ex{K:PySem.W.Frag}{H:Hp}{f:PV->PHp->VK'->Prop}{xs':List PV}{xs:List V}{H':PHp}{Q':VK'}(h:dc f xs' H' Q')(r:RPs K H xs' xs):∃x' x,xs'=[x']/\xs=[x]/\RP K H x' x/\f x' H' Q':=by
 unfold dc at h;split at h
 ·simp only[RPs]at r;obtain⟨u,r,rfl,q,rfl⟩:=r;exact⟨_,u,rfl,rfl,q,h⟩
 ·exact h.elim
def BM:List PV->PHp->VK'->Prop:=dc fun x H Q=>cn x H fun l=>Q (.int l.length) H
theorem bK{K:PySem.W.Frag}:VC K B BM (fun xs H Q=>∃p ys,xs=[.ref p]/\(SqL K H p ys∨SqT K H p ys)/\Q (.int ys.length) H):=by
 intro σ' σ H' H xs' xs Q' Q s r h k;obtain⟨x',x,rfl,rfl,rx,h⟩:=dc.ex h r;obtain⟨l,us,p,rfl,r,q,h⟩:=cn.ex h s rx;exact⟨p,us,rfl,q,k _ H' _ H h (by simp[RP,RPs.length _ r]) s (Ev.refl _ _)⟩
def Dx:List PV->PHp->VK'->Prop:=dc fun x H Q=>bQ x fun i=>Q (.int (if i<0 then -i else i)) H
def b2n(b:Bool):Int:=if b then 1 else 0
def intOf(x:PV)(k:Int->Prop):Prop:=match x with
 | .int i=>k i
 | .bl b=>k (b2n b)
 | _=>False
def CT:List PV->PHp->VK'->Prop:=dc fun x H Q=>intOf x fun i=>Q (.int i) H
def wN:List PV->PHp->VK'->Prop:=dc fun x H Q=>cn x H fun l=>∀p,H p=none->Q (.ref p) (put H p (.lst l))
theorem gW{K:PySem.W.Frag}:VC K B wN (fun xs H Q=>∃p ys,xs=[.ref p]/\(SqL K H p ys∨SqT K H p ys)/\∀l,H l=none->Q (.ref l) (upd H l (.lst ys))):=by
 intro σ' σ H' H xs' xs Q' Q s r h k;obtain⟨x',x,rfl,rfl,rx,h⟩:=dc.ex h r;obtain⟨l,us,p,rfl,r,q,h⟩:=cn.ex h s rx;exact⟨p,us,rfl,q,fun p n=>k _ _ _ _ (h p (s.hp.free n)) (by simp[RP]) (s.new n (lg n r)) (Ev.new n)⟩
def qI:List PV->PHp->VK'->Prop:=dc fun x H Q=>cn x H fun l=>Q (.tup l) H
theorem bf{K:PySem.W.Frag}:VC K B qI (fun xs H Q=>∃p ys,xs=[.ref p]/\((SqL K H p ys/\∀l,H l=none->Q (.ref l) (upd H l (.tup ys)))∨(SqT K H p ys/\Q (.ref p) H))):=by
 intro σ' σ H' H xs' xs Q' Q s r h k;obtain⟨x',x,rfl,rfl,rx,h⟩:=dc.ex h r;obtain⟨l,us,p,rfl,r,q,h⟩:=cn.ex h s rx;refine⟨p,us,rfl,?_⟩;rcases q with q | q
 ·exact .inl ⟨q,fun p n=>k _ _ _ _ h (lR n r) (s.hid n) (Ev.hid n)⟩
 ·exact .inr ⟨q,k _ _ _ _ h (by simp only[RP];exact⟨p,us,rfl,q,r⟩) s (Ev.refl _ _)⟩
end
end
section
variable {B:Bs}
section
variable {X:Cx}{a b c e o:Expr}{es:List Expr}{ta tb te:TE'}{tA tB:TT'}{st:Stmt}{sts:List Stmt}{t u:TS'}{pos:Pos}
def wm:TS':=fun D σ H=>D.nx σ H
def sv(t u:TS'):TS':=fun D σ H=>t { D with nx:=u D } σ H
theorem aC:gJ X B [] wm:=nM vx fun D σ H ⟨σ',H',D',s,h,d⟩=>d.nx _ _ _ _ h s (Ev.refl _ _)
theorem af(h1:PS' X B st t)(h2:gJ X B sts u):gJ X B (st::sts) (sv t u):=nM (qY h1 h2) fun D σ H ⟨σ',H',D',s,h,d⟩ =>
 ⟨σ',H',_,s,h,fun σ1' H1' σ1 H1 h1 s1 e1=>⟨σ1',H1',D',s1,h1,d.ev _ _ e1⟩,d.rt,d.bk,d.ct⟩
theorem aq(h1:PS' X B st t):gJ X B [st] t:=m9 h1
def yd:TS':=fun D σ H=>D.bk σ H
def BL:TS':=fun D σ H=>D.ct σ H
def we(te:TE'):TS':=fun D σ H=>te σ H fun _ H1=>D.nx σ H1
theorem aU(he:PE' X B e te)(hs:swapsWith e none pos.line X.env=pure false:=by rfl):PS' X B (.Expr e pos) (we te):=dw (vo he hs) fun D σ H ⟨σ',H',D',s,h,d⟩ =>
 ⟨σ',H',_,s,h,fun v' H1' v H1 h1 r1 s1 e1=>d.nx _ _ _ _ h1 s1 e1⟩
def BV(te:TE'):TS':=fun D σ H=>te σ H D.rt
theorem aF(he:PE' X B e te):PS' X B (.Return (some e) pos) (BV te):=dw (xg he) fun D σ H ⟨σ',H',D',s,h,d⟩ =>
 ⟨σ',H',_,s,h,fun v' H1' v H1 h1 r1 s1 e1=>d.rt _ _ _ _ h1 r1 s1.hp e1⟩
def zS:TS':=fun D _ H=>D.rt .non H
def AY(c:TT')(t u:TS'):TS':=fun D σ H=>c σ H fun b H1=>cif b (t D σ H1) (u D σ H1)
theorem aW{l1 l2:List Stmt}(hc:PT' X B c tA)(ha:gJ X B l1 t)(hb:gJ X B l2 u):PS' X B (.If c l1 l2 pos) (AY tA t u):=dw (BI hc ha hb) fun D σ H ⟨σ',H',D',s,h,d⟩=>by
 refine⟨σ',H',_,s,h,fun x H1' H1 h1 s1 e1=>?_⟩;cases x with
 | true=>exact j0 ⟨σ',H1',D',s1,h1,d.ev _ _ e1⟩
 | false=>exact jI ⟨σ',H1',D',s1,h1,d.ev _ _ e1⟩
def zO:TS':=fun _ _ _=>False
theorem bB:gJ X B sts zO:=fun _ _ _ _ _ _ ⟨_,_,_,_,h,_⟩=>h.elim
def fQ(i:Nat):TG':=fun v σ H Q=>Q (σ.set i (some v)) H
theorem SR.set{K:PySem.W.Frag}{σ':St'}{H':PHp}{σ:L2.St}{H:Hp}{v':PV}{v:V}(s:SR K B σ' H' σ H)(r:RP K H v' v)(i:Nat):SR K B (σ'.set i (some v')) H' (σ.set i (some v)) H:=by
 refine⟨by simp[s.len],fun j w e=>?_,s.hp,s.ev⟩;by_cases hj:i=j
 ·subst hj;have hl:i<σ'.length:=by
   rcases Nat.lt_or_ge i σ'.length with h | h
   ·exact h
   ·rw[List.getElem?_eq_none (by simpa using h)]at e;cases e
  rw[List.getElem?_set_self hl]at e;cases e;exact⟨v,List.getElem?_set_self (by rw[←s.len];exact hl),r⟩
 ·rw[List.getElem?_set_ne hj]at e ⊢;exact s.loc j w e
theorem ax{i:Nat}{x:Str}(hN:X.N.Nodup)(hi:X.N[i]?=some x)(hx:Loc X.env.scope x)(hf:X.fn x=true∨X.env.scope.names.lookup x=some .local:=by first | exact .inl rfl | exact .inr rfl | assumption):PG' X B (.Name x pos) (fQ i) :=
 ql (vv hN hi hx hf) fun v σ H Q ⟨v',σ',H',Q',r,s,h,k⟩=>k _ _ _ _ h (s.set r i) (Ev.refl _ _)
def tS:gK:=fun vs σ H Q=>vs=[]/\Q σ H
def nJ(t:TG')(u:gK):gK:=fun vs σ H Q=>match vs with
 | v::r=>t v σ H fun σ' H'=>u r σ' H' Q
 | []=>False
theorem jE:va X B [] tS:=n0 uR fun vs σ H Q ⟨v',σ',H',Q',r,s,h,k⟩=>by
 obtain⟨rfl,h⟩:=h;simp only[RPs]at r;exact⟨r,k _ _ _ _ h s (Ev.refl _ _)⟩
theorem cZ{t:TG'}{u:gK}(h1:PG' X B e t)(h2:va X B es u)(hs:(assignEach (e::es) X.env).map (·.2)=assign e X.env::(assignEach es X.env).map (·.2):=by rfl):va X B (e::es) (nJ t u) :=
 n0 (rj h1 h2 hs) fun vs σ H Q ⟨vs',σ',H',Q',r,s,h,k⟩=>by
 cases vs' with
 | nil=>exact h.elim
 | cons v' r' =>
  simp only[RPs]at r;obtain⟨v,w,rfl,rv,rw'⟩:=r;refine⟨v,w,rfl,v',σ',H',_,rv,s,h,fun σ1' H1' σ1 H1 h1 s1 e1=>⟨r',σ1',H1',Q',RPs.kp _ (e1.kp s.hp) rw',s1,h1,fun σ2' H2' σ2 H2 h2 s2 e2=>k _ _ _ _ h2 s2 (e1.trans e2)⟩⟩
def yn(n:Nat)(t:gK):TG':=fun v σ H Q=>match v with
 | .tup l=>l.length=n/\t l σ H Q
 | _=>False
theorem mE{k:Nat}{t:gK}{n:Nat}(hc:X.calm=true)(h:va X B es t)(hn:(assignEach es X.env).length=n:=by rfl)(hst:(assignEach es X.env).findIdx? (·.1)=none:=by rfl):PG' X B (.Tuple es k pos) (yn n t) :=
 ql (xS hc h hn hst) fun v σ H Q ⟨v',σ',H',Q',r,s,h,k⟩=>by
 cases v' with
 | tup l =>
  obtain⟨hl,h⟩:=h;simp only[RP]at r;obtain⟨a,us,rfl,q,r⟩:=r;exact⟨a,us,rfl,q,by rw[RPs.length _ r];exact hl,l,σ',H',Q',r,s,h,k⟩
 | _=>exact h.elim
def vU(te:TE')(g:TG'):TS':=fun D σ H=>te σ H fun x H1=>g x σ H1 D.nx
theorem aB{i:Nat}{x:Str}{pos':Pos}(hN:X.N.Nodup)(hi:X.N[i]?=some x)(hx:Loc X.env.scope x)(he:PE' X B e te)(hs:swapsWith e (some (.Name x pos')) pos.line X.env=pure false:=by rfl)(hf:X.fn x=true∨X.env.scope.names.lookup x=some .local:=by first | exact .inl rfl | exact .inr rfl | assumption) :
  PS' X B (.Assign [.Name x pos'] e pos) (vU te (fQ i)):=dw (sg hN hi hx he hs hf) fun D σ H h=>by
 obtain⟨σ',H',D',s,h,d⟩:=h;exact⟨σ',H',_,s,h,fun x H1' v H1 h1 r1 s1 e1=>d.nx _ _ _ _ h1 (s1.set r1 i) e1⟩
def jB(c:TT')(tb:TS'):TS':=fun D σ H=>∃W:Nat->St'->PHp->Prop,(∃m,W m σ H)/\∀m σ H,W m σ H ->
 c σ H fun b H1=>cif b (∃N:St'->PHp->Prop,(∀σ' H',N σ' H'->∃m',m'<m/\W m' σ' H')/\tb { D with nx:=N,ct:=N,bk:=D.nx } σ H1) (D.nx σ H1)
theorem iy{body:List Stmt}(hp:PassesOwn (model X.prog X.w) X.A X.env X.xe)(hc:PT' X B c tA)(hb:gJ X B body t):PS' X B (.While c body [] pos) (jB tA t):=dw (qE hp hc hb) fun D σ H ⟨σ',H',D',s,⟨W,⟨m0,w0⟩,turn⟩,d⟩=>by
 refine⟨fun m σ1 H1=>∃σ1' H1',SR X.K B σ1' H1' σ1 H1/\Ev H' H H1' H1/\W m σ1' H1',⟨m0,σ',H',s,Ev.refl _ _,w0⟩,?_⟩;rintro m σ1 H1 ⟨σ1',H1',s1,e1,w1⟩;refine⟨σ1',H1',_,s1,turn m σ1' H1' w1,fun x H2' H2 h2 s2 e2=>?_⟩;cases x with
 | false=>exact jI (d.nx _ _ _ _ h2 s2 (e1.trans e2))
 | true =>
  obtain⟨N,hN,h2⟩:=(show ∃N:St'->PHp->Prop,_ from h2);refine j0 ⟨fun σ3 H3=>∃σ3' H3',SR X.K B σ3' H3' σ3 H3/\Ev H' H H3' H3/\N σ3' H3',?_,σ1',H2',_,s2,h2,?_,?_,?_,?_⟩
  ·rintro σ3 H3 ⟨σ3',H3',s3,e3,n3⟩;obtain⟨m',hm,w'⟩:=hN _ _ n3;exact⟨m',hm,σ3',H3',s3,e3,w'⟩
  ·intro σ3' H3' σ3 H3 n3 s3 e3;exact⟨σ3',H3',s3,(e1.trans e2).trans e3,n3⟩
  ·intro v' H3' v H3 n3 r3 s3 e3;exact d.rt _ _ _ _ n3 r3 s3 ((e1.trans e2).trans e3)
  ·intro σ3' H3' σ3 H3 n3 s3 e3;exact d.nx _ _ _ _ n3 s3 ((e1.trans e2).trans e3)
  ·intro σ3' H3' σ3 H3 n3 s3 e3;exact⟨σ3',H3',s3,(e1.trans e2).trans e3,n3⟩
theorem fc{c:TT'}{tb:TS'}{D:cM}{σ:St'}{H:PHp}(Pv:Nat->St'->PHp->Prop)(m0:Nat)(h0:Pv m0 σ H)
  (hs:∀m σ H,Pv m σ H->c σ H fun b H1=>cif b (∃N:St'->PHp->Prop,(∀σ' H',N σ' H'->∃m',m'<m/\Pv m' σ' H')/\tb { D with nx:=N,ct:=N,bk:=D.nx } σ H1) (D.nx σ H1)):jB c tb D σ H:=⟨Pv,⟨m0,h0⟩,hs⟩
def dS(ok:PHp->Prop)(g:TG')(tb:TS')(D:cM):List PV->St'->PHp->Prop
 | [],σ,H=>ok H/\D.nx σ H
 | x::r,σ,H=>ok H/\g x σ H fun σ2 H2=>tb { D with nx:=dS ok g tb D r,ct:=dS ok g tb D r,bk:=D.nx } σ2 H2
def xn(wi:TI')(g:TG')(tb:TS'):TS':=fun D σ H=>wi σ H fun J H1=>dS J.ok g tb D J.items σ H1
theorem bU{iter tg:Expr}{body:List Stmt}{wi:TI'}{g:TG'}(hp:PassesOwn (model X.prog X.w) X.A X.env X.xe)(hc:X.calm=true)(hi:PI' X B tg iter wi)(hg:PG' X B tg g)(hb:gJ X B body t)
  (hs:∀x,foldedSetIterable iter X.env x=pure x:=by intro _;rfl):PS' X B (.For tg iter body [] pos) (xn wi g t):=dw (sW hp hc hi hg hb hs) fun D σ H ⟨σ',H',D',s,h,d⟩=>by
 refine⟨σ',H',_,s,h,fun J' H1' J H1 h1 wk s1 e1=>?_⟩;refine⟨fun i m σ2 H2=>i≤J'.items.length/\m=J'.items.length - i/\∃σ2' H2',SR X.K B σ2' H2' σ2 H2/\Ev H1' H1 H2' H2/\dS J'.ok g t D' (J'.items.drop i) σ2' H2',⟨J'.items.length,Nat.zero_le _,by simp,σ',H1',s1,Ev.refl _ _,h1⟩,?_⟩;rintro i m σ2 H2 ⟨hi,rfl,σ2',H2',s2,e2,h2⟩;have k2:=e2.kp s1.hp;by_cases hlt:i<J'.items.length
 ·obtain⟨x',hx⟩:∃x',J'.items[i]?=some x':=⟨_,List.getElem?_eq_getElem hlt⟩;have hd:J'.items.drop i=x'::J'.items.drop (i+1):=by
   rw[List.drop_eq_getElem_cons hlt];rw[List.getElem?_eq_getElem hlt]at hx;cases hx;rfl
  rw[hd]at h2;obtain⟨ok2,h2⟩:=(show J'.ok H2'/\_ from h2);refine .inr ⟨wk.go H2' H2 i k2 s2.hp ok2 hlt,fun σ3 H3=>∃σ3' H3',SR X.K B σ3' H3' σ3 H3/\Ev H1' H1 H3' H3/\dS J'.ok g t D' (J'.items.drop (i+1)) σ3' H3',?_,fun x H3 y=>?_⟩
  ·rintro σ3 H3 ⟨σ3',H3',s3,e3,h3⟩;exact⟨J'.items.length - (i+1),by omega,hlt,rfl,σ3',H3',s3,e3,h3⟩
  ·obtain⟨rfl,rx⟩:=wk.yld H2' H2 i x H3 k2 s2.hp ok2 y;refine⟨x',σ2',H2',_,rx x' hx,s2,h2,fun σ3' H3' σ3 H3 h3 s3 e3=>⟨σ3',H3',_,s3,h3,?_,?_,?_,?_⟩⟩
   ·intro σ4' H4' σ4 H4 h4 s4 e4;exact⟨σ4',H4',s4,e2.trans (e3.trans e4),h4⟩
   ·intro v' H4' v H4 h4 r4 s4 e4;exact d.rt _ _ _ _ h4 r4 s4 (e1.trans (e2.trans (e3.trans e4)))
   ·intro σ4' H4' σ4 H4 h4 s4 e4;exact d.nx _ _ _ _ h4 s4 (e1.trans (e2.trans (e3.trans e4)))
   ·intro σ4' H4' σ4 H4 h4 s4 e4;exact⟨σ4',H4',s4,e2.trans (e3.trans e4),h4⟩
 ·have hi':i=J'.items.length:=by omega
  subst hi';rw[List.drop_length]at h2;obtain⟨ok2,h2⟩:=(show J'.ok H2'/\_ from h2);exact .inl ⟨wk.stop H2' H2 _ k2 s2.hp ok2 (Nat.le_refl _),d.nx _ _ _ _ h2 s2 (e1.trans e2)⟩
def uS(x:PV)(H1:PHp)(R:It'->PHp->Prop):Prop:=match x with
 | .tup l=>R ⟨l,fun _=>True⟩ H1
 | .fls l=>R ⟨l,fun _=>True⟩ H1
 | .ref a=>∃l,H1 a=some (.lst l)/\R ⟨l,fun H=>H a=some (.lst l)⟩ H1
 | _=>False
def wC(ta:TE'):TI':=fun σ H R=>ta σ H fun x H1=>uS x H1 R
def Ep(K:PySem.W.Frag)(tl:TE):TI:=fun σ H R=>tl σ H fun x H1=>∃a,x=.ref a/\((∃xs,SqL K H1 a xs)/\R (Itl K a) H1∨(∃xs,SqT K H1 a xs)/\R (Itt K a) H1)
theorem x9{tg l:Expr}{tl:TE}(hl:PE X l tl):PI X tg l (Ep X.K tl):=by
 intro pins s σ H R I h;refine thn (hl pins s σ H _ I h) fun v s1 ⟨x,H1,I1,r1,q1⟩=>?_;obtain⟨a,e,⟨⟨xs,hq⟩,q⟩ |⟨⟨xs,hq⟩,q⟩⟩:=q1
 ·subst e;cases r1;obtain⟨its,rv,p,hz⟩:=I1.list hq;refine wpAny_pyIter_list p.isList ?_;refine⟨s1.heap.objs.size,[s1.heap.objs.size],_,_,H1,rfl,I1.kept (t':=s1.toks) fun b o e=>Heap.get?_push_of_some _ e,pe a _,⟨_,Heap.get?_push_size _ rfl,rfl,rfl⟩,fun b hb=>?_,q⟩;have e:b=s1.heap.objs.size:=by simpa using hb
  subst e;exact I1.fpOk (Nat.le_refl _) (I1.hok.fresh (Nat.le_refl _))
 ·subst e;cases r1;obtain⟨its,rv,p,hz⟩:=I1.tuple hq;refine wpAny_pyIter_tuple (show s1.heap.IsTuple a its.toArray from p) ?_;refine⟨s1.heap.objs.size,[s1.heap.objs.size],_,_,H1,rfl,I1.kept (t':=s1.toks) fun b o e=>Heap.get?_push_of_some _ e,l9 a _,⟨_,Heap.get?_push_size _ rfl,rfl,rfl⟩,fun b hb=>?_,q⟩;have e:b=s1.heap.objs.size:=by simpa using hb
  subst e;exact I1.fpOk (Nat.le_refl _) (I1.hok.fresh (Nat.le_refl _))
theorem ik{K:PySem.W.Frag}{H1:Hp}{J':It'}{a:Addr}(h:∀H' H,Kp H1 H->HR K H' H->J'.ok H'->∃us,SqL K H a us/\RPs K H J'.items us):Walks K H1 (Itl K a) J' where
 go:=fun H' H i k s o hi=>by
  obtain⟨us,q,r⟩:=h H' H k s o;obtain⟨u,e,_⟩:=RPs.get _ r (List.getElem?_eq_getElem hi);exact⟨us,u,q,e⟩
 yld:=fun H' H i x H2 k s o y=>by
  obtain⟨us,q,r⟩:=h H' H k s o;refine⟨y.1,fun x' hx=>?_⟩;obtain⟨u,e,ru⟩:=RPs.get _ r hx;have:=y.2 us q;rw[e]at this;cases this;exact ru
 stop:=fun H' H i k s o hi=>by
  obtain⟨us,q,r⟩:=h H' H k s o;exact⟨us,q,by rw[RPs.length _ r];exact hi⟩
theorem oN{K:PySem.W.Frag}{H1:Hp}{J':It'}{a:Addr}(h:∀H' H,Kp H1 H->HR K H' H->J'.ok H'->∃us,SqT K H a us/\RPs K H J'.items us):Walks K H1 (Itt K a) J' where
 go:=fun H' H i k s o hi=>by
  obtain⟨us,q,r⟩:=h H' H k s o;obtain⟨u,e,_⟩:=RPs.get _ r (List.getElem?_eq_getElem hi);exact⟨us,u,q,e⟩
 yld:=fun H' H i x H2 k s o y=>by
  obtain⟨us,q,r⟩:=h H' H k s o;refine⟨y.1,fun x' hx=>?_⟩;obtain⟨u,e,ru⟩:=RPs.get _ r hx;have:=y.2 us q;rw[e]at this;cases this;exact ru
 stop:=fun H' H i k s o hi=>by
  obtain⟨us,q,r⟩:=h H' H k s o;exact⟨us,q,by rw[RPs.length _ r];exact hi⟩
theorem aP{tg:Expr}(ha:PE' X B a ta):PI' X B tg a (wC ta):=gk (x9 ha) fun σ H R ⟨σ',H',R',s,h,k⟩=>by
 refine⟨σ',H',_,s,h,fun x' H1' x H1 h1 r1 s1 e1=>?_⟩;cases x' with
 | tup l =>
  simp only[RP]at r1;obtain⟨p,us,rfl,q,r⟩:=r1;exact⟨p,rfl,.inr ⟨⟨us,q⟩,k _ H1' _ H1 h1 (oN fun _ H2 k2 _ _=>⟨us,k2.sqT q,RPs.kp _ k2 r⟩) s1 e1⟩⟩
 | fls l =>
  simp only[RP]at r1;obtain⟨p,us,rfl,q,r⟩:=r1;exact⟨p,rfl,.inl ⟨⟨us,q.sq⟩,k _ H1' _ H1 h1 (ik fun _ H2 k2 _ _=>⟨us,(k2.fzL q).sq,RPs.kp _ k2 r⟩) s1 e1⟩⟩
 | ref p =>
  simp only[RP]at r1;obtain⟨l,q,h1⟩:=h1;obtain⟨us,q2,r⟩:=s1.hp _ _ q;refine⟨p,r1,.inl ⟨⟨us,SqL.of q2⟩,k _ H1' _ H1 h1 (ik fun H2' H2 k2 s2 o2=>?_) s1 e1⟩⟩;obtain⟨us2,q3,r3⟩:=s2 _ _ o2;exact⟨us2,SqL.of q3,r3⟩
 | _=>exact h1.elim
def cH(lo:Int)(n:Nat):List PV:=(List.range n).map fun k=>PV.int (lo+(k:Nat))
theorem ju{K:PySem.W.Frag}{H1:Hp}{lo:Int}{n:Nat}:Walks K H1 (Itr lo n) ⟨cH lo n,fun _=>True⟩ where
 go:=fun H' H i k s o hi=>by
  have h:i<n:=by simpa[cH]using hi
  exact h
 yld:=fun H' H i x H2 k s o y=>by
  obtain⟨e,rfl⟩:=y;refine⟨e,fun x' hx=>?_⟩;simp only[cH,List.getElem?_map]at hx;cases q:(List.range n)[i]? with
  | none=>rw[q]at hx;cases hx
  | some j =>
   rw[q]at hx;obtain⟨h1,h2⟩:=List.getElem?_eq_some_iff.mp q;rw[List.getElem_range]at h2;subst h2;cases hx;simp[RP]
 stop:=fun H' H i k s o hi=>by
  have h:n≤i:=by simpa[cH]using hi
  exact h
def vy(vs:List PV)(H1:PHp)(R:It'->PHp->Prop):Prop:=match vs with
 | [.int j]=>(-(2 ^ 62)≤j/\j<2 ^ 62)/\R ⟨cH 0 j.toNat,fun _=>True⟩ H1
 | _=>False
def wH(t:TA'):TI':=fun σ H R=>t σ H fun vs H1=>vy vs H1 R
def vT(vs:List PV)(H1:PHp)(R:It'->PHp->Prop):Prop:=match vs with
 | [.int i,.int j]=>(-(2 ^ 62)≤i/\i<2 ^ 62/\-(2 ^ 62)≤j/\j<2 ^ 62)/\R ⟨cH i (j - i).toNat,fun _=>True⟩ H1
 | _=>False
def wo(t:TA'):TI':=fun σ H R=>t σ H fun vs H1=>vT vs H1 R
theorem eK{tg:Expr}{t:TA'}{p:Pos}(hg:Gl X "range")(hm:X.mg "range"=none)(ha:PA' X B [a] t)(hs:starEach [a] X.env=[(false,eval a X.env)]:=by rfl):PI' X B tg (.Call (.Name "range" p) [a] [] pos) (wH t) :=
 gk (pQ hg hm ha hs) fun σ H R ⟨σ',H',R',s,h,k⟩=>by
 refine⟨σ',H',_,s,h,fun vs' H1' vs H1 h1 r1 s1 e1=>?_⟩;unfold vy at h1;split at h1
 ·rename_i j;simp only[RPs,RP]at r1;obtain⟨u,r,rfl,rfl,rfl⟩:=r1;exact⟨j,rfl,h1.1.1,h1.1.2,k _ H1' _ H1 h1.2 ju s1 e1⟩
 ·exact h1.elim
theorem i6{tg:Expr}{t:TA'}{p:Pos}(hg:Gl X "range")(hm:X.mg "range"=none)(ha:PA' X B [a,b] t)(hs:starEach [a,b] X.env=[(false,eval a X.env),(false,eval b X.env)]:=by rfl)(hs2:starEach [b] X.env=[(false,eval b X.env)]:=by rfl) :
  PI' X B tg (.Call (.Name "range" p) [a,b] [] pos) (wo t):=gk (pX hg hm ha hs hs2) fun σ H R ⟨σ',H',R',s,h,k⟩=>by
 refine⟨σ',H',_,s,h,fun vs' H1' vs H1 h1 r1 s1 e1=>?_⟩;unfold vT at h1;split at h1
 ·rename_i i j;simp only[RPs,RP]at r1;obtain⟨u,r,rfl,rfl,w,r,rfl,rfl,rfl⟩:=r1;exact⟨i,j,rfl,h1.1,k _ H1' _ H1 h1.2 ju s1 e1⟩
 ·exact h1.elim
end
end
section
variable {B:Bs}
abbrev Sp':=List PV->PHp->VK'->XK'->Prop
def c7(K:PySem.W.Frag)(sp:Sp'):Sp:=fun vs H Q E=>∃vs' H' Q' E',RPs K H vs' vs/\HR K H' H/\sp vs' H' Q' E'/\(∀v' H1' v H1,Q' v' H1'->RP K H1 v' v->HR K H1' H1->Ev H' H H1' H1->Q v H1) /\
 (∀c d H1' H1,E' c d H1'->HR K H1' H1->Ev H' H H1' H1->E c d H1)
abbrev aN(P:Program)(w:World)(K:PySem.W.Frag)(mg:Str->Option Value)(base:Heap)(CX:CXT)(k:Nat)(f:Addr)(fd:FuncData)(ps:List Str)(sp:Sp'):Prop:=iA P w K mg base CX k f fd ps (c7 K sp)
def dY(N:List Str)(vs:List PV):St':=vs.map some++List.replicate (N.length - vs.length) none
theorem kX{K:PySem.W.Frag}{N:List Str}{vs':List PV}{vs:List V}{H':PHp}{H:Hp}(r:RPs K H vs' vs)(h:HR K H' H):SR K (H',H) (dY N vs') H' (L2.start N vs) H:=by
 have hl:=RPs.length _ r;refine⟨by simp[dY,L2.start,hl],fun i v' e=>?_,h,Ev.refl _ _⟩;unfold dY at e;unfold L2.start;by_cases hi:i<vs'.length
 ·rw[List.getElem?_append_left (by simpa using hi)]at e;rw[List.getElem?_append_left (by simpa[hl]using hi)];rw[List.getElem?_map]at e ⊢;cases q:vs'[i]? with
  | none=>rw[q]at e;cases e
  | some w =>
   rw[q]at e;cases e;obtain⟨u,e1,e2⟩:=RPs.get _ r q;exact⟨u,by rw[e1];rfl,e2⟩
 ·rw[List.getElem?_append_right (by simpa using hi)]at e;rw[List.getElem?_replicate]at e;split at e<;>cases e
def ends(Q:VK'):cM where
 nx:=fun _ H=>∃H3,Sub H3 H/\Q .non H3
 rt:=fun v H=>∃H3,Sub H3 H/\Q v H3
section
variable {P:Program}{w:World}{K:PySem.W.Frag}{mg:Str->Option Value}{base:Heap}
theorem okU{x qual:Str}{st:Stmt}{f:Addr}{fd:FuncData}{N ps:List Str}{k:Nat}{sp:Sp'}(F:Fun K x qual st f fd)(S:az N ps (ao st))(len:∀vs H Q E,sp vs H Q E->vs.length=ps.length)
  (hbody:∀(cdv:Value) (A:Around) (outer:List Env) (s:Shared) (H:Hp) (E:XK) (B:Bs),bP k (A.deeper (envOfC qual (ao st) s.heap.objs.size f cdv)) ->
   ∃t,gJ (jW CX0 P w K mg base N qual (ao st) f cdv A outer s H E).nox B (dA st) t/\∀vs' H' Q' E',sp vs' H' Q' E'->t (ends Q') (dY N vs') H'):aN P w K mg base CX0 (k+1) f fd ps sp:=by
 refine F.ok S (fun vs H Q E zz=>?_) (fun cdv A outer s H vs Q E hr h=>?_)
 ·obtain⟨vs',H',Q',E',r,hr,h,_⟩:=zz;rw[RPs.length _ r];exact len _ _ _ _ h
 ·obtain⟨vs',H',Q',E',r,hh,h,k1,k2⟩:=h;obtain⟨t,ht,hq⟩:=hbody cdv A outer s H E (H',H) hr;refine⟨_,ht,dY N vs',H',_,kX r hh,hq vs' H' Q' E' h,?_,?_,?_,?_⟩
  ·rintro σ1' H1' σ1 H1 ⟨H3,sb,q⟩ s1 e1;exact k1 _ H3 _ H1 q (by simp[RP]) (s1.hp.sub sb) (e1.sub sb)
  ·rintro v' H1' v H1 ⟨H3,sb,q⟩ r1 s1 e1;exact k1 _ H3 _ H1 q r1 (s1.sub sb) (e1.sub sb)
  ·intro _ _ _ _ z;exact z.elim
  ·intro _ _ _ _ z;exact z.elim
end
section
variable {X:Cx}{CX:CXT}{k:Nat}{f C:Addr}{fd:FuncData}{ps:List Str}{sp:Sp'}{E:XK}{E':XK'}{x m:Str}{p pos apos:Pos}{e o:Expr}{es:List Expr}{ta:TE'}{t:TA'}
def ly(sp:Sp')(E':XK')(t:TA'):TE':=fun σ H Q=>t σ H fun vs H1=>sp vs H1 Q E'
abbrev X0:XK':=fun _ _ _=>False
theorem oY{K:PySem.W.Frag}{σ:L2.St}{H:Hp}{Q:VK}(h:low K B (ly sp X0 t) σ H Q):qz (c7 K sp) [] E0 (l8 K B t) σ H Q:=by
 obtain⟨σ',H',Q',s,h,k⟩:=h;refine⟨σ',H',_,s,h,fun vs' H1' vs H1 h1 r1 s1 e1=>?_⟩;show c7 K sp (vs++[]) H1 Q E0;rw[List.append_nil];exact⟨vs',H1',Q',X0,r1,s1.hp,h1,fun v' H2' v H2 q r2 h2 e2=>k v' H2' v H2 q r2 (s1.kp e2 h2) (e1.trans e2),fun _ _ _ _ z=>z.elim⟩
theorem aH(F:aN X.prog X.w X.K X.mg X.base CX0 k f fd ps sp)(hr:bP k X.A)(hg:Gl X x)(hm:X.mg x=some (.ref f))(hk:PySem.W.keepIn X.K (.ref f)=true)(hb:Binds X.K fd ps [])
  (ha:PA' X B (e::es) t) (hdb:(x==("__debug__":Str))=false:=by decide) (he:starEach (e::es) X.env=(false,eval e X.env)::starEach es X.env:=by rfl) (hpl:(backTo pos (starEach es X.env)).any (·.1)=false:=by rfl) :
  PE' X B (.Call (.Name x p) (e::es) [] pos) (ly sp X0 t):=aT (m3 F hr hg hm hk hb .nil sY ha hdb he hpl) fun _ _ _ h=>oY h
theorem Br{K:PySem.W.Frag}{H:Hp}{a:Addr}{xs:List V}(o:oM H)(h:SqL K H a xs):FzL K H a xs:=by
 rcases h with(h | h) | h
 ·rcases o a with z |⟨ob,ys,z⟩
  ·rw[z]at h;cases h
  ·rw[z]at h;cases h
 ·exact .inl h
 ·exact .inr h
def spL:Sp':=fun vs H Q _=>match vs with
 | [.fls l]=>∃ns:List Int,l=ns.map PV.int/\ns.length≤63/\Q (.bl true) H
 | _=>False
theorem pF{K:PySem.W.Frag}{H:Hp}{a:Addr}{ns:List Int}(hl:ns.length≤63)(o:oM H)(h:SqL K H a (ns.map V.int)):c7 K spL [.ref a] H (fun v _=>v=.bl true) fun _ _ _=>False:=by
 refine⟨[.fls (ns.map PV.int)],fun _=>none,fun v _=>v=.bl true,X0,?_,fun _ _ z=>(nomatch z),⟨ns,rfl,hl,rfl⟩,fun v' _ v _ q r _ _=>?_,fun _ _ _ _ z=>z.elim⟩
 ·refine RPs.cons _ ?_ (RPs.nil _);simp only[RP];exact⟨a,_,rfl,Br o h,RPs.ints _ _⟩
 ·subst q;simpa[RP]using r
end
end
section
variable {B:Bs}
mutual
def deq:PV->PV->Bool
 | .non,.non=>true
 | .bl a,.bl b=>a==b
 | .int a,.int b=>a==b
 | .bl a,.int b=>(if a then 1 else 0)==b
 | .int a,.bl b=>a==(if b then 1 else 0)
 | .str a,.str b=>a==b
 | .tup l,.tup m=>fK l m
 | .fls l,.fls m=>fK l m
 | _,_=>false
def fK:List PV->List PV->Bool
 | [],[]=>true
 | x::l,y::m=>deq x y&&fK l m
 | _,_=>false
end
def flat:Nat->PV->Bool
 | _,.non=>true
 | _,.bl _=>true
 | _,.int _=>true
 | _,.str _=>true
 | n+1,.tup l=>l.all (flat n)
 | n+1,.fls l=>l.all (flat n)
 | _,_=>false
theorem bT:∀(l m:List PV),fK l m=((List.range (min l.length m.length)).all (fun i=>deq (l.getD i .non) (m.getD i .non))&&l.length==m.length)
 | [],[]=>by simp[fK]
 | [],_::_=>by simp[fK]
 | _::_,[]=>by simp[fK]
 | x::l,y::m=>by
  simp only[fK,bT l m,List.length_cons];rw[show min (l.length+1) (m.length+1)=min l.length m.length+1 by omega,List.range_succ_eq_map,List.all_cons,List.all_map];simp only[List.getD_cons_zero,Bool.and_assoc];congr 1;congr 1;simp
theorem gu{n:Nat}:∀(l:List PV),(∀x∈l,deq x x=true)->fK l l=true
 | [],_=>rfl
 | x::l,h=>by
  have h1:=h x (by simp);have h2:=gu (n:=n) l fun y hy=>h y (by simp[hy]);simp only[fK,h1,h2,Bool.and_self]
theorem dW:∀{n:Nat} {x:PV},flat n x=true->deq x x=true
 | _,.non,_=>by simp[deq]
 | _,.bl _,_=>by simp[deq]
 | _,.int _,_=>by simp[deq]
 | _,.str _,_=>by simp[deq]
 | n+1,.tup l,h=>by
  simp only[flat,List.all_eq_true]at h;simp only[deq];exact gu (n:=0) l fun x hx=>dW (h x hx)
 | n+1,.fls l,h=>by
  simp only[flat,List.all_eq_true]at h;simp only[deq];exact gu (n:=0) l fun x hx=>dW (h x hx)
 | 0,.tup _,h=>by cases h
 | 0,.fls _,h=>by cases h
 | n,.ref _,h=>by cases n<;>cases h
 | n,.oth _,h=>by cases n<;>cases h
section
variable {X:Cx}{pins:List (Addr×Obj)}{σ:L2.St}{H:Hp}{s:Shared}
def RR(K:PySem.W.Frag)(H:Hp)(x:PV)(u:Value):Prop:=∃v,RP K H x v/\RelV v u
def RL(K:PySem.W.Frag)(H:Hp)(l:List PV)(us:List Value):Prop:=∃vs,RPs K H l vs/\Vals vs us
def RD(K:PySem.W.Frag)(H:Hp)(x:PV)(u:Value):Prop:=match x with
 | .fls l=>∃a vs,u=.ref a/\SqL K H a vs/\RPs K H l vs
 | x=>RR K H x u
theorem RL.get{K:PySem.W.Frag}{l:List PV}{us:List Value}(r:RL K H l us){i:Nat}{u:Value}(e:us[i]?=some u):∃x,l[i]?=some x/\RR K H x u:=by
 obtain⟨vs,r1,r2⟩:=r;have hl:=r2.length;have hl2:=RPs.length _ r1;have hi:i<l.length:=by
  have:=(List.getElem?_eq_some_iff.mp e).1;omega
 obtain⟨v,e1,e2⟩:=RPs.get _ r1 (List.getElem?_eq_getElem hi);obtain⟨w,e3,e4⟩:=r2.get e1;rw[e]at e3;cases e3;exact⟨_,List.getElem?_eq_getElem hi,v,e2,e4⟩
theorem RL.length{K:PySem.W.Frag}{l:List PV}{us:List Value}(r:RL K H l us):us.length=l.length:=by
 obtain⟨vs,r1,r2⟩:=r;rw[←r2.length,RPs.length _ r1]
theorem RR.rd{K:PySem.W.Frag}{x:PV}{u:Value}(r:RR K H x u):RD K H x u:=by
 cases x with
 | fls l =>
  obtain⟨v,r1,r2⟩:=r;simp only[RP]at r1;obtain⟨a,us,rfl,q,rr⟩:=r1;cases r2;exact⟨a,us,rfl,q.sq,rr⟩
 | _=>exact r
theorem bJ(I:Inv X pins σ H s){l:List PV}{u:Value}(r:RD X.K H (.tup l) u):∃a its,u=.ref a/\RL X.K H l its/\s.heap.IsTuple a its.toArray:=by
 obtain⟨v,r1,r2⟩:=r;simp only[RP]at r1;obtain⟨a,us,rfl,q,rr⟩:=r1;cases r2;obtain⟨its,rv,p,_⟩:=I.tuple q;exact⟨a,its,rfl,⟨us,rr,rv⟩,p⟩
theorem bL(I:Inv X pins σ H s){l:List PV}{u:Value}(r:RD X.K H (.fls l) u):∃a its,u=.ref a/\RL X.K H l its/\s.heap.IsList a its.toArray:=by
 obtain⟨a,us,rfl,q,rr⟩:=r;obtain⟨its,rv,p,_⟩:=I.list q;exact⟨a,its,rfl,⟨us,rr,rv⟩,p.isList⟩
theorem kA{a:Addr}{x y:Array Value}(h1:s.heap.IsTuple a x)(h2:s.heap.IsTuple a y):x=y:=by
 obtain⟨o,e,c,n,d⟩:=h1;obtain⟨o',e',c',n',d'⟩:=h2;rw[e]at e';cases e';rw[d]at d';cases d';rfl
theorem mF{a:Addr}{x y:Array Value}(h1:s.heap.IsList a x)(h2:s.heap.IsList a y):x=y:=by
 obtain⟨o,e,c,n,d⟩:=h1;obtain⟨o',e',c',n',d'⟩:=h2;rw[e]at e';cases e';rw[d]at d';cases d';rfl
theorem kK{a:Addr}{x y:Array Value}(h1:s.heap.IsTuple a x)(h2:s.heap.IsList a y):False:=by
 obtain⟨o,e,c,n,d⟩:=h1;obtain⟨o',e',c',n',d'⟩:=h2;rw[e]at e';cases e';rw[c]at c';exact absurd c' (by decide)
theorem RL.list_inj{K:PySem.W.Frag}{n:Nat}(ih:∀{x y:PV} {u:Value},flat n x=true->flat n y=true->RD K H x u->RD K H y u->x=y){l m:List PV}{us:List Value}(h1:l.all (flat n)=true)(h2:m.all (flat n)=true)
  (r1:RL K H l us) (r2:RL K H m us):l=m:=by
 rw[List.all_eq_true]at h1 h2;refine List.ext_getElem? fun i=>?_;cases e:us[i]? with
 | none =>
  have:=List.getElem?_eq_none_iff.mp e;rw[List.getElem?_eq_none (by rw[←r1.length];exact this),List.getElem?_eq_none (by rw[←r2.length];exact this)]
 | some u =>
  obtain⟨x,ex,rx⟩:=r1.get e;obtain⟨y,ey,ry⟩:=r2.get e;rw[ex,ey,ih (h1 x (List.mem_of_getElem? ex)) (h2 y (List.mem_of_getElem? ey)) rx.rd ry.rd]
theorem ke(I:Inv X pins σ H s):∀(n:Nat) {x y:PV} {u:Value},flat n x=true->flat n y=true->RD X.K H x u->RD X.K H y u->x=y:=by
 have sc:∀{x:PV} {u:Value},RD X.K H x u->(∀l,x≠.fls l)->RR X.K H x u:=fun {x u} r h=>by
  cases x with
  | fls l=>exact absurd rfl (h l)
  | _=>exact r
 intro n
 induction n with
 | zero =>
  intro x y u hx hy rx ry;cases x<;>first |(cases hx;done) | skip
  all_goals cases y<;>first |(cases hy;done) | skip
  all_goals
   obtain⟨v,r1,r2⟩:=sc rx (by intro l z;cases z);obtain⟨v',r1',r2'⟩:=sc ry (by intro l z;cases z);simp only[RP]at r1 r1';subst r1;subst r1';have:=RelV.inj r2 r2'
   first | rfl |(cases this;done) |(cases this;rfl)
 | succ n ih =>
  intro x y u hx hy rx ry;cases x with
  | tup l =>
   obtain⟨a,its,rfl,rl,p⟩:=bJ I rx;cases y with
   | tup m =>
    obtain⟨b,its',e,rl',p'⟩:=bJ I ry;cases e;have:=kA p p';have e2:its=its':=by simpa using this
    subst e2;rw[RL.list_inj (n:=n) ih hx hy rl rl']
   | fls m =>
    obtain⟨b,its',e,rl',p'⟩:=bL I ry;cases e;exact(kK p p').elim
   | ref a=>cases hy
   | oth a=>cases hy
   | _ =>
    obtain⟨v',r1',r2'⟩:=sc ry (by intro l z;cases z);simp only[RP]at r1';subst r1';simp[L2.RelV]at r2'
  | fls l =>
   obtain⟨a,its,rfl,rl,p⟩:=bL I rx;cases y with
   | tup m =>
    obtain⟨b,its',e,rl',p'⟩:=bJ I ry;cases e;exact(kK p' p).elim
   | fls m =>
    obtain⟨b,its',e,rl',p'⟩:=bL I ry;cases e;have:=mF p p';have e2:its=its':=by simpa using this
    subst e2;rw[RL.list_inj (n:=n) ih hx hy rl rl']
   | ref a=>cases hy
   | oth a=>cases hy
   | _ =>
    obtain⟨v',r1',r2'⟩:=sc ry (by intro l z;cases z);simp only[RP]at r1';subst r1';simp[L2.RelV]at r2'
  | ref a=>cases hx
  | oth a=>cases hx
  | _ =>
   cases y with
   | tup m =>
    obtain⟨b,its',e,rl',p'⟩:=bJ I ry;subst e;obtain⟨v',r1',r2'⟩:=sc rx (by intro l z;cases z);simp only[RP]at r1';subst r1';simp[L2.RelV]at r2'
   | fls m =>
    obtain⟨b,its',e,rl',p'⟩:=bL I ry;subst e;obtain⟨v',r1',r2'⟩:=sc rx (by intro l z;cases z);simp only[RP]at r1';subst r1';simp[L2.RelV]at r2'
   | ref a=>cases hy
   | oth a=>cases hy
   | _ =>
    obtain⟨v,r1,r2⟩:=sc rx (by intro l z;cases z);obtain⟨v',r1',r2'⟩:=sc ry (by intro l z;cases z);simp only[RP]at r1 r1';subst r1;subst r1';have:=RelV.inj r2 r2'
    first | rfl |(cases this;done) |(cases this;rfl)
open SeqAt in
theorem g7(I:Inv X pins σ H s):∀(n:Nat) {A:Around} {x y:PV} {u w:Value},A.units+n<cLine->flat n x=true->flat n y=true->RD X.K H x u->RD X.K H y w->EqAt A s u w (deq x y)/\RcAt A s u w (deq x y):=by
 have sc:∀{x:PV} {u:Value},RD X.K H x u->(∀l,x≠.fls l)->RR X.K H x u:=fun {x u} r h=>by
  cases x with
  | fls l=>exact absurd rfl (h l)
  | _=>exact r
 have v_non:∀{u:Value},RD X.K H .non u->u=.none:=fun {u} r=>by
  obtain⟨v,r1,r2⟩:=sc r (by intro l z;cases z);simp only[RP]at r1;subst r1;exact r2
 have v_bl:∀{b:Bool} {u:Value},RD X.K H (.bl b) u->u=.bool b:=fun {b u} r=>by
  obtain⟨v,r1,r2⟩:=sc r (by intro l z;cases z);simp only[RP]at r1;subst r1;exact r2
 have v_int:∀{i:Int} {u:Value},RD X.K H (.int i) u->∃t,u=.int i t:=fun {b u} r=>by
  obtain⟨v,r1,r2⟩:=sc r (by intro l z;cases z);simp only[RP]at r1;subst r1;exact r2
 have v_str:∀{i:Str} {u:Value},RD X.K H (.str i) u->∃t,u=.str i t:=fun {b u} r=>by
  obtain⟨v,r1,r2⟩:=sc r (by intro l z;cases z);simp only[RP]at r1;subst r1;exact r2
 intro n
 induction n with
 | zero =>
  intro A x y u w hu hx hy rx ry;cases x with
  | non =>
   rw[v_non rx];cases y with
   | non=>rw[v_non ry];exact⟨EqAt.same _,RcAt.none_none⟩
   | bl b=>rw[v_bl ry];exact⟨EqAt.none_bool b,RcAt.none_bool b⟩
   | int b=>obtain⟨t,rfl⟩:=v_int ry;exact⟨EqAt.none_int b t,RcAt.none_int b t⟩
   | str b=>obtain⟨t,rfl⟩:=v_str ry;exact⟨EqAt.none_str b t,RcAt.none_str b t⟩
   | _=>cases hy
  | bl a =>
   rw[v_bl rx];cases y with
   | non=>rw[v_non ry];exact⟨EqAt.bool_none a,RcAt.bool_none a⟩
   | bl b=>rw[v_bl ry];exact⟨EqAt.bool_bool a b,RcAt.bool_bool a b⟩
   | int b=>obtain⟨t,rfl⟩:=v_int ry;exact⟨EqAt.bool_int a b t,RcAt.bool_int a b t⟩
   | str b=>obtain⟨t,rfl⟩:=v_str ry;exact⟨EqAt.bool_str a b t,RcAt.bool_str a b t⟩
   | _=>cases hy
  | int a =>
   obtain⟨t0,rfl⟩:=v_int rx;cases y with
   | non=>rw[v_non ry];exact⟨EqAt.int_none a t0,RcAt.int_none a t0⟩
   | bl b=>rw[v_bl ry];exact⟨EqAt.int_bool a t0 b,RcAt.int_bool a t0 b⟩
   | int b=>obtain⟨t,rfl⟩:=v_int ry;exact⟨EqAt.int_int a t0 b t,RcAt.int_int a t0 b t⟩
   | str b=>obtain⟨t,rfl⟩:=v_str ry;exact⟨EqAt.int_str a t0 b t,RcAt.int_str a t0 b t⟩
   | _=>cases hy
  | str a =>
   obtain⟨t0,rfl⟩:=v_str rx;cases y with
   | non=>rw[v_non ry];exact⟨EqAt.str_none a t0,RcAt.str_none a t0⟩
   | bl b=>rw[v_bl ry];exact⟨EqAt.str_bool a t0 b,RcAt.str_bool a t0 b⟩
   | int b=>obtain⟨t,rfl⟩:=v_int ry;exact⟨EqAt.str_int a t0 b t,RcAt.str_int a t0 b t⟩
   | str b=>obtain⟨t,rfl⟩:=v_str ry;exact⟨EqAt.str_str a t0 b t,RcAt.str_str a t0 b t⟩
   | _=>cases hy
  | _=>cases hx
 | succ n ih =>
  intro A x y u w hu hx hy rx ry;have hu0:A.units<cLine:=by omega
  have hu1:A.in1.units+n<cLine:=by show A.units+1+n<cLine;omega
  cases x with
  | tup l =>
   obtain⟨a,its,rfl,rl,p⟩:=bJ I rx;cases y with
   | non=>rw[v_non ry];exact⟨EqAt.tuple_none p hu0,RcAt.tuple_none p hu0⟩
   | bl b=>rw[v_bl ry];exact⟨EqAt.tuple_bool b p hu0,RcAt.tuple_bool b p hu0⟩
   | int b=>obtain⟨t,rfl⟩:=v_int ry;exact⟨EqAt.tuple_int b t p hu0,RcAt.tuple_int b t p hu0⟩
   | str b=>obtain⟨t,rfl⟩:=v_str ry;exact⟨EqAt.tuple_str b t p hu0,RcAt.tuple_str b t p hu0⟩
   | tup m =>
    obtain⟨b,its',rfl,rl',p'⟩:=bJ I ry;have key:RcAt A s (.ref a) (.ref b) (deq (.tup l) (.tup m)):=by
     have:=RcAt.tuples (e:=fun i=>deq (l.getD i .non) (m.getD i .non)) p p' hu0 fun j h1 h2=>by
      have h1':j<its.length:=by simpa using h1
      have h2':j<its'.length:=by simpa using h2
      obtain⟨x,ex,rx'⟩:=rl.get (List.getElem?_eq_getElem h1');obtain⟨y,ey,ry'⟩:=rl'.get (List.getElem?_eq_getElem h2');have q:=ih hu1 (List.all_eq_true.mp hx x (List.mem_of_getElem? ex)) (List.all_eq_true.mp hy y (List.mem_of_getElem? ey)) rx'.rd ry'.rd;have e1:l.getD j .non=x:=by rw[List.getD_eq_getElem?_getD,ex];rfl
      have e2:m.getD j .non=y:=by rw[List.getD_eq_getElem?_getD,ey];rfl
      rw[e1,e2];simpa using q.1
     have e:deq (.tup l) (.tup m)=((List.range (min its.toArray.size its'.toArray.size)).all (fun i=>deq (l.getD i .non) (m.getD i .non))&&its.toArray.size==its'.toArray.size):=by
      simp only[deq,bT,List.size_toArray,rl.length,rl'.length]
     rw[e];exact this
    refine⟨?_,key⟩;by_cases hab:a=b
    ·subst hab;have:=ke I (n+1) hx hy rx ry;rw[←this,dW hx];exact EqAt.same _
    ·exact EqAt.of_refs hab key
   | fls m =>
    obtain⟨b,its',rfl,rl',p'⟩:=bL I ry;exact⟨EqAt.tuple_list p p' hu0,RcAt.tuple_list p p' hu0⟩
   | _=>cases hy
  | fls l =>
   obtain⟨a,its,rfl,rl,p⟩:=bL I rx;cases y with
   | non=>rw[v_non ry];exact⟨EqAt.list_none p hu0,RcAt.list_none p hu0⟩
   | bl b=>rw[v_bl ry];exact⟨EqAt.list_bool b p hu0,RcAt.list_bool b p hu0⟩
   | int b=>obtain⟨t,rfl⟩:=v_int ry;exact⟨EqAt.list_int b t p hu0,RcAt.list_int b t p hu0⟩
   | str b=>obtain⟨t,rfl⟩:=v_str ry;exact⟨EqAt.list_str b t p hu0,RcAt.list_str b t p hu0⟩
   | tup m =>
    obtain⟨b,its',rfl,rl',p'⟩:=bJ I ry;exact⟨EqAt.list_tuple p p' hu0,RcAt.list_tuple p p' hu0⟩
   | fls m =>
    obtain⟨b,its',rfl,rl',p'⟩:=bL I ry;have key:RcAt A s (.ref a) (.ref b) (deq (.fls l) (.fls m)):=by
     by_cases hs:its.length=its'.length
     ·have:=RcAt.lists (e:=fun i=>deq (l.getD i .non) (m.getD i .non)) p p' (by simpa using hs) hu0 fun j h1 h2=>by
       have h1':j<its.length:=by simpa using h1
       have h2':j<its'.length:=by simpa using h2
       obtain⟨x,ex,rx'⟩:=rl.get (List.getElem?_eq_getElem h1');obtain⟨y,ey,ry'⟩:=rl'.get (List.getElem?_eq_getElem h2');have q:=ih hu1 (List.all_eq_true.mp hx x (List.mem_of_getElem? ex)) (List.all_eq_true.mp hy y (List.mem_of_getElem? ey)) rx'.rd ry'.rd;have e1:l.getD j .non=x:=by rw[List.getD_eq_getElem?_getD,ex];rfl
       have e2:m.getD j .non=y:=by rw[List.getD_eq_getElem?_getD,ey];rfl
       rw[e1,e2];simpa using q.1
      have e:deq (.fls l) (.fls m)=(List.range its.toArray.size).all (fun i=>deq (l.getD i .non) (m.getD i .non)):=by
       have e0:l.length=m.length:=by rw[←rl.length,← rl'.length];exact hs
       simp[deq,bT,rl.length,e0]
      rw[e];exact this
     ·have e:deq (.fls l) (.fls m)=false:=by
       have e0:l.length≠m.length:=by rw[←rl.length,← rl'.length];exact hs
       simp[deq,bT,e0]
      rw[e];exact RcAt.lists_lengths p p' (by simpa using hs) hu0
    refine⟨?_,key⟩;by_cases hab:a=b
    ·subst hab;have:=ke I (n+1) hx hy rx ry;rw[←this,dW hx];exact EqAt.same _
    ·exact EqAt.of_refs hab key
   | _=>cases hy
  | ref a=>cases hx
  | oth a=>cases hx
  | non =>
   cases y with
   | tup m=>obtain⟨b,its',rfl,rl',p'⟩:=bJ I ry;rw[v_non rx];exact⟨EqAt.none_tuple p' hu0,RcAt.none_tuple p' hu0⟩
   | fls m=>obtain⟨b,its',rfl,rl',p'⟩:=bL I ry;rw[v_non rx];exact⟨EqAt.none_list p' hu0,RcAt.none_list p' hu0⟩
   | ref a=>cases hy
   | oth a=>cases hy
   | _=>exact ih (by omega) (by cases n<;>rfl) (by cases n<;>rfl) rx ry
  | bl i =>
   cases y with
   | tup m=>obtain⟨b,its',rfl,rl',p'⟩:=bJ I ry;rw[v_bl rx];exact⟨EqAt.bool_tuple i p' hu0,RcAt.bool_tuple i p' hu0⟩
   | fls m=>obtain⟨b,its',rfl,rl',p'⟩:=bL I ry;rw[v_bl rx];exact⟨EqAt.bool_list i p' hu0,RcAt.bool_list i p' hu0⟩
   | ref a=>cases hy
   | oth a=>cases hy
   | _=>exact ih (by omega) (by cases n<;>rfl) (by cases n<;>rfl) rx ry
  | int i =>
   cases y with
   | tup m=>obtain⟨b,its',rfl,rl',p'⟩:=bJ I ry;obtain⟨t,rfl⟩:=v_int rx;exact⟨EqAt.int_tuple i t p' hu0,RcAt.int_tuple i t p' hu0⟩
   | fls m=>obtain⟨b,its',rfl,rl',p'⟩:=bL I ry;obtain⟨t,rfl⟩:=v_int rx;exact⟨EqAt.int_list i t p' hu0,RcAt.int_list i t p' hu0⟩
   | ref a=>cases hy
   | oth a=>cases hy
   | _=>exact ih (by omega) (by cases n<;>rfl) (by cases n<;>rfl) rx ry
  | str i =>
   cases y with
   | tup m=>obtain⟨b,its',rfl,rl',p'⟩:=bJ I ry;obtain⟨t,rfl⟩:=v_str rx;exact⟨EqAt.str_tuple i t p' hu0,RcAt.str_tuple i t p' hu0⟩
   | fls m=>obtain⟨b,its',rfl,rl',p'⟩:=bL I ry;obtain⟨t,rfl⟩:=v_str rx;exact⟨EqAt.str_list i t p' hu0,RcAt.str_list i t p' hu0⟩
   | ref a=>cases hy
   | oth a=>cases hy
   | _=>exact ih (by omega) (by cases n<;>rfl) (by cases n<;>rfl) rx ry
end
end
section
variable {B:Bs}
section
variable {X:Cx}{pins:List (Addr×Obj)}{σ:L2.St}{H:Hp}{s:Shared}
open SeqAt in
theorem uv(I:Inv X pins σ H s):∀(n:Nat) {A:Around} {x y:PV} {u w:Value},A.units+n<cLine->flat n x=true->flat n y=true->RD X.K H x u->RD X.K H y w->RcNeAt A s u w (!deq x y):=by
 have sc:∀{x:PV} {u:Value},RD X.K H x u->(∀l,x≠.fls l)->RR X.K H x u:=fun {x u} r h=>by
  cases x with
  | fls l=>exact absurd rfl (h l)
  | _=>exact r
 have v_non:∀{u:Value},RD X.K H .non u->u=.none:=fun {u} r=>by
  obtain⟨v,r1,r2⟩:=sc r (by intro l z;cases z);simp only[RP]at r1;subst r1;exact r2
 have v_bl:∀{b:Bool} {u:Value},RD X.K H (.bl b) u->u=.bool b:=fun {b u} r=>by
  obtain⟨v,r1,r2⟩:=sc r (by intro l z;cases z);simp only[RP]at r1;subst r1;exact r2
 have v_int:∀{i:Int} {u:Value},RD X.K H (.int i) u->∃t,u=.int i t:=fun {b u} r=>by
  obtain⟨v,r1,r2⟩:=sc r (by intro l z;cases z);simp only[RP]at r1;subst r1;exact r2
 have v_str:∀{i:Str} {u:Value},RD X.K H (.str i) u->∃t,u=.str i t:=fun {b u} r=>by
  obtain⟨v,r1,r2⟩:=sc r (by intro l z;cases z);simp only[RP]at r1;subst r1;exact r2
 intro n
 induction n with
 | zero =>
  intro A x y u w hu hx hy rx ry;cases x with
  | non =>
   rw[v_non rx];cases y with
   | non=>rw[v_non ry];exact RcNeAt.none_none
   | bl b=>rw[v_bl ry];exact RcNeAt.none_bool b
   | int b=>obtain⟨t,rfl⟩:=v_int ry;exact RcNeAt.none_int b t
   | str b=>obtain⟨t,rfl⟩:=v_str ry;exact RcNeAt.none_str b t
   | _=>cases hy
  | bl a =>
   rw[v_bl rx];cases y with
   | non=>rw[v_non ry];exact RcNeAt.bool_none a
   | bl b=>rw[v_bl ry];exact RcNeAt.bool_bool a b
   | int b=>obtain⟨t,rfl⟩:=v_int ry;exact RcNeAt.bool_int a b t
   | str b=>obtain⟨t,rfl⟩:=v_str ry;exact RcNeAt.bool_str a b t
   | _=>cases hy
  | int a =>
   obtain⟨t0,rfl⟩:=v_int rx;cases y with
   | non=>rw[v_non ry];exact RcNeAt.int_none a t0
   | bl b=>rw[v_bl ry];exact RcNeAt.int_bool a t0 b
   | int b=>obtain⟨t,rfl⟩:=v_int ry;exact RcNeAt.int_int a t0 b t
   | str b=>obtain⟨t,rfl⟩:=v_str ry;exact RcNeAt.int_str a t0 b t
   | _=>cases hy
  | str a =>
   obtain⟨t0,rfl⟩:=v_str rx;cases y with
   | non=>rw[v_non ry];exact RcNeAt.str_none a t0
   | bl b=>rw[v_bl ry];exact RcNeAt.str_bool a t0 b
   | int b=>obtain⟨t,rfl⟩:=v_int ry;exact RcNeAt.str_int a t0 b t
   | str b=>obtain⟨t,rfl⟩:=v_str ry;exact RcNeAt.str_str a t0 b t
   | _=>cases hy
  | _=>cases hx
 | succ n ih =>
  intro A x y u w hu hx hy rx ry;have hu0:A.units<cLine:=by omega
  have hu1:A.in1.units+n<cLine:=by show A.units+1+n<cLine;omega
  cases x with
  | tup l =>
   obtain⟨a,its,rfl,rl,p⟩:=bJ I rx;cases y with
   | non=>rw[v_non ry];exact RcNeAt.tuple_none p hu0
   | bl b=>rw[v_bl ry];exact RcNeAt.tuple_bool b p hu0
   | int b=>obtain⟨t,rfl⟩:=v_int ry;exact RcNeAt.tuple_int b t p hu0
   | str b=>obtain⟨t,rfl⟩:=v_str ry;exact RcNeAt.tuple_str b t p hu0
   | tup m =>
    obtain⟨b,its',rfl,rl',p'⟩:=bJ I ry;have key:RcNeAt A s (.ref a) (.ref b) (!deq (.tup l) (.tup m)):=by
     have:=RcNeAt.tuples (e:=fun i=>deq (l.getD i .non) (m.getD i .non)) p p' hu0 fun j h1 h2=>by
      have h1':j<its.length:=by simpa using h1
      have h2':j<its'.length:=by simpa using h2
      obtain⟨x,ex,rx'⟩:=rl.get (List.getElem?_eq_getElem h1');obtain⟨y,ey,ry'⟩:=rl'.get (List.getElem?_eq_getElem h2');have q:=g7 I n hu1 (List.all_eq_true.mp hx x (List.mem_of_getElem? ex)) (List.all_eq_true.mp hy y (List.mem_of_getElem? ey)) rx'.rd ry'.rd;have e1:l.getD j .non=x:=by rw[List.getD_eq_getElem?_getD,ex];rfl
      have e2:m.getD j .non=y:=by rw[List.getD_eq_getElem?_getD,ey];rfl
      rw[e1,e2];simpa using q.1
     have e:deq (.tup l) (.tup m)=((List.range (min its.toArray.size its'.toArray.size)).all (fun i=>deq (l.getD i .non) (m.getD i .non))&&its.toArray.size==its'.toArray.size):=by
      simp only[deq,bT,List.size_toArray,rl.length,rl'.length]
     rw[e];exact this
    exact key
   | fls m =>
    obtain⟨b,its',rfl,rl',p'⟩:=bL I ry;exact RcNeAt.tuple_list p p' hu0
   | _=>cases hy
  | fls l =>
   obtain⟨a,its,rfl,rl,p⟩:=bL I rx;cases y with
   | non=>rw[v_non ry];exact RcNeAt.list_none p hu0
   | bl b=>rw[v_bl ry];exact RcNeAt.list_bool b p hu0
   | int b=>obtain⟨t,rfl⟩:=v_int ry;exact RcNeAt.list_int b t p hu0
   | str b=>obtain⟨t,rfl⟩:=v_str ry;exact RcNeAt.list_str b t p hu0
   | tup m =>
    obtain⟨b,its',rfl,rl',p'⟩:=bJ I ry;exact RcNeAt.list_tuple p p' hu0
   | fls m =>
    obtain⟨b,its',rfl,rl',p'⟩:=bL I ry;have key:RcNeAt A s (.ref a) (.ref b) (!deq (.fls l) (.fls m)):=by
     by_cases hs:its.length=its'.length
     ·have:=RcNeAt.lists (e:=fun i=>deq (l.getD i .non) (m.getD i .non)) p p' (by simpa using hs) hu0 fun j h1 h2=>by
       have h1':j<its.length:=by simpa using h1
       have h2':j<its'.length:=by simpa using h2
       obtain⟨x,ex,rx'⟩:=rl.get (List.getElem?_eq_getElem h1');obtain⟨y,ey,ry'⟩:=rl'.get (List.getElem?_eq_getElem h2');have q:=g7 I n hu1 (List.all_eq_true.mp hx x (List.mem_of_getElem? ex)) (List.all_eq_true.mp hy y (List.mem_of_getElem? ey)) rx'.rd ry'.rd;have e1:l.getD j .non=x:=by rw[List.getD_eq_getElem?_getD,ex];rfl
       have e2:m.getD j .non=y:=by rw[List.getD_eq_getElem?_getD,ey];rfl
       rw[e1,e2];simpa using q.1
      have e:deq (.fls l) (.fls m)=(List.range its.toArray.size).all (fun i=>deq (l.getD i .non) (m.getD i .non)):=by
       have e0:l.length=m.length:=by rw[←rl.length,← rl'.length];exact hs
       simp[deq,bT,rl.length,e0]
      rw[e];exact this
     ·have e:deq (.fls l) (.fls m)=false:=by
       have e0:l.length≠m.length:=by rw[←rl.length,← rl'.length];exact hs
       simp[deq,bT,e0]
      rw[e];exact RcNeAt.lists_lengths p p' (by simpa using hs) hu0
    exact key
   | _=>cases hy
  | ref a=>cases hx
  | oth a=>cases hx
  | non =>
   cases y with
   | tup m=>obtain⟨b,its',rfl,rl',p'⟩:=bJ I ry;rw[v_non rx];exact RcNeAt.none_tuple p' hu0
   | fls m=>obtain⟨b,its',rfl,rl',p'⟩:=bL I ry;rw[v_non rx];exact RcNeAt.none_list p' hu0
   | ref a=>cases hy
   | oth a=>cases hy
   | _=>exact ih (by omega) (by cases n<;>rfl) (by cases n<;>rfl) rx ry
  | bl i =>
   cases y with
   | tup m=>obtain⟨b,its',rfl,rl',p'⟩:=bJ I ry;rw[v_bl rx];exact RcNeAt.bool_tuple i p' hu0
   | fls m=>obtain⟨b,its',rfl,rl',p'⟩:=bL I ry;rw[v_bl rx];exact RcNeAt.bool_list i p' hu0
   | ref a=>cases hy
   | oth a=>cases hy
   | _=>exact ih (by omega) (by cases n<;>rfl) (by cases n<;>rfl) rx ry
  | int i =>
   cases y with
   | tup m=>obtain⟨b,its',rfl,rl',p'⟩:=bJ I ry;obtain⟨t,rfl⟩:=v_int rx;exact RcNeAt.int_tuple i t p' hu0
   | fls m=>obtain⟨b,its',rfl,rl',p'⟩:=bL I ry;obtain⟨t,rfl⟩:=v_int rx;exact RcNeAt.int_list i t p' hu0
   | ref a=>cases hy
   | oth a=>cases hy
   | _=>exact ih (by omega) (by cases n<;>rfl) (by cases n<;>rfl) rx ry
  | str i =>
   cases y with
   | tup m=>obtain⟨b,its',rfl,rl',p'⟩:=bJ I ry;obtain⟨t,rfl⟩:=v_str rx;exact RcNeAt.str_tuple i t p' hu0
   | fls m=>obtain⟨b,its',rfl,rl',p'⟩:=bL I ry;obtain⟨t,rfl⟩:=v_str rx;exact RcNeAt.str_list i t p' hu0
   | ref a=>cases hy
   | oth a=>cases hy
   | _=>exact ih (by omega) (by cases n<;>rfl) (by cases n<;>rfl) rx ry
def RDv(K:PySem.W.Frag)(H:Hp)(d:PV)(x:V):Prop:=match d with
 | .fls l=>∃a vs,x=.ref a/\SqL K H a vs/\RPs K H l vs
 | d=>RP K H d x
theorem RDv.rd{K:PySem.W.Frag}{d:PV}{x:V}{u:Value}(h:RDv K H d x)(r:L2.RelV x u):RD K H d u:=by
 cases d with
 | fls l=>obtain⟨a,vs,rfl,q,rr⟩:=h;cases r;exact⟨a,vs,rfl,q,rr⟩
 | _=>exact⟨x,h,r⟩
def cB(x:PV)(H:PHp)(k:PV->Prop):Prop:=match x with
 | .ref a=>∃l,H a=some (.lst l)/\k (.fls l)
 | x=>k x
theorem cB.ex{K:PySem.W.Frag}{σ':St'}{x:PV}{v:V}{H':PHp}{k:PV->Prop}(h:cB x H' k)(s:SR K B σ' H' σ H)(r:RP K H x v):∃d,RDv K H d v/\k d:=by
 cases x with
 | ref a =>
  obtain⟨l,e,h⟩:=h;obtain⟨us,q,r2⟩:=s.hp _ _ e;simp only[RP]at r;exact⟨.fls l,⟨a,us,r,SqL.of q,r2⟩,h⟩
 | fls l =>
  simp only[RP]at r;obtain⟨a,us,e,q,r⟩:=r;exact⟨.fls l,⟨a,us,e,q.sq,r⟩,h⟩
 | non=>exact⟨.non,r,h⟩
 | bl b=>exact⟨.bl b,r,h⟩
 | int b=>exact⟨.int b,r,h⟩
 | str b=>exact⟨.str b,r,h⟩
 | tup b=>exact⟨.tup b,r,h⟩
 | oth b=>exact⟨.oth b,r,h⟩
def yg(K:PySem.W.Frag)(g:Bool->Bool):R2:=fun x y H Q=>∃d1 d2,flat 9 d1=true/\flat 9 d2=true/\RDv K H d1 x/\RDv K H d2 y/\Q (.bl (g (deq d1 d2))) H
theorem a7(hu:X.A.units+64<cLine):OpR X (compareOp .Eq) (yg X.K fun b=>b):=by
 intro pins s σ H x y v u Q I rx ry h;obtain⟨d1,d2,f1,f2,r1,r2,q⟩:=h;exact(g7 I 9 (by omega) f1 f2 (r1.rd rx) (r2.rd ry)).2 _ _ _ _ ⟨.bl _,H,I,rfl,q⟩
theorem jU(hu:X.A.units+64<cLine):OpR X (compareOp .NotEq) (yg X.K fun b=>!b):=by
 intro pins s σ H x y v u Q I rx ry h;obtain⟨d1,d2,f1,f2,r1,r2,q⟩:=h;exact uv I 9 (by omega) f1 f2 (r1.rd rx) (r2.rd ry) _ _ _ _ ⟨.bl _,H,I,rfl,q⟩
def zT(g:Bool->Bool):R2':=fun x y H Q=>cB x H fun d1=>cB y H fun d2=>flat 9 d1=true/\flat 9 d2=true/\Q (.bl (g (deq d1 d2))) H
theorem bj{K:PySem.W.Frag}{g:Bool->Bool}:VR K B (zT g) (yg K g):=by
 intro σ' σ H' H x' y' x y Q' Q s rx ry h k;obtain⟨d1,r1,h1⟩:=cB.ex h s rx;obtain⟨d2,r2,f1,f2,q⟩:=cB.ex h1 s ry;exact⟨d1,d2,f1,f2,r1,r2,k _ H' _ H q (by simp[RP]) s (Ev.refl _ _)⟩
def w8(K:PySem.W.Frag)(g:Bool->Bool):R2:=fun x y H Q=>∃d p l us,flat 8 d=true/\RDv K H d x/\y=.ref p/\l.all (flat 8)=true/\RPs K H l us/\(SqL K H p us∨SqT K H p us)/\Q (.bl (g (l.any fun z=>deq z d))) H
open Classical in
theorem fG(I:Inv X pins σ H s){A:Around}{d:PV}{v:Value}{l:List PV}{its:List Value}(hu:A.units+20<cLine)(fd:flat 8 d=true)(rd:RD X.K H d v)(fl:l.all (flat 8)=true)(rl:RL X.K H l its) :
  ∃e:Value->Bool,(∀y,y∈its.toArray->SeqAt.EqAt A.in1 s y v (e y))/\its.toArray.any e=l.any fun z=>deq z d:=by
 refine⟨fun u=>decide (∃z,flat 8 z=true/\RD X.K H z u/\deq z d=true),fun y hy=>?_,?_⟩
 ·have hy':y∈its:=by simpa using hy
  obtain⟨i,hi⟩:=List.mem_iff_getElem?.mp hy';obtain⟨z,ez,rz⟩:=rl.get hi;have fz:=List.all_eq_true.mp fl z (List.mem_of_getElem? ez);have q:=(g7 I 8 (A:=A.in1) (by show A.units+1+8<cLine;omega) fz fd rz.rd rd).1;have e:decide (∃z,flat 8 z=true/\RD X.K H z y/\deq z d=true)=deq z d:=by
   rw[Bool.eq_iff_iff,decide_eq_true_iff];constructor
   ·rintro⟨z',f',r',e'⟩;rw[ke I 8 fz f' rz.rd r'];exact e'
   ·intro e;exact⟨z,fz,rz.rd,e⟩
  show SeqAt.EqAt A.in1 s y v (decide _);rw[e];exact q
 ·rw[Bool.eq_iff_iff];simp only[List.any_toArray,List.any_eq_true,decide_eq_true_iff];constructor
  ·rintro⟨u,hu',z,fz,rz,ez⟩;obtain⟨i,hi⟩:=List.mem_iff_getElem?.mp hu';obtain⟨z2,ez2,rz2⟩:=rl.get hi;have fz2:=List.all_eq_true.mp fl z2 (List.mem_of_getElem? ez2);refine⟨z2,List.mem_of_getElem? ez2,?_⟩;rw[ke I 8 fz2 fz rz2.rd rz];exact ez
  ·rintro⟨z,hz,ez⟩;obtain⟨i,hi⟩:=List.mem_iff_getElem?.mp hz;have hlt:i<its.length:=by
    have:=(List.getElem?_eq_some_iff.mp hi).1;rw[rl.length];exact this
   obtain⟨z2,ez2,rz2⟩:=rl.get (List.getElem?_eq_getElem hlt);rw[hi]at ez2;cases ez2;exact⟨_,List.getElem_mem hlt,z,List.all_eq_true.mp fl z hz,rz2.rd,ez⟩
theorem dR(hu:X.A.units+64<cLine):OpR X (compareOp .In) (w8 X.K fun b=>b):=by
 intro pins s σ H x y v u Q I rx ry h;obtain⟨d,p,l,us,fd,rd,rfl,fl,rl,hq,q⟩:=h;cases ry;rcases hq with hq | hq
 ·obtain⟨its,rv,pl,_⟩:=I.list hq;obtain⟨e,h1,h2⟩:=fG I (A:=X.A) (by omega) fd (rd.rd rx) fl ⟨us,rl,rv⟩;exact SeqAt.in_listAt e pl.isList h1 (by rw[h2];exact⟨.bl _,H,I,rfl,q⟩)
 ·obtain⟨its,rv,pl,_⟩:=I.tuple hq;obtain⟨e,h1,h2⟩:=fG I (A:=X.A) (by omega) fd (rd.rd rx) fl ⟨us,rl,rv⟩;exact SeqAt.in_tupleAt e pl h1 (by rw[h2];exact⟨.bl _,H,I,rfl,q⟩)
theorem bA(hu:X.A.units+64<cLine):OpR X (compareOp .NotIn) (w8 X.K fun b=>!b):=by
 intro pins s σ H x y v u Q I rx ry h;obtain⟨d,p,l,us,fd,rd,rfl,fl,rl,hq,q⟩:=h;cases ry;rcases hq with hq | hq
 ·obtain⟨its,rv,pl,_⟩:=I.list hq;obtain⟨e,h1,h2⟩:=fG I (A:=X.A) (by omega) fd (rd.rd rx) fl ⟨us,rl,rv⟩;exact SeqAt.notIn_listAt e pl.isList h1 (by rw[h2];exact⟨.bl _,H,I,rfl,q⟩)
 ·obtain⟨its,rv,pl,_⟩:=I.tuple hq;obtain⟨e,h1,h2⟩:=fG I (A:=X.A) (by omega) fd (rd.rd rx) fl ⟨us,rl,rv⟩;exact SeqAt.notIn_tupleAt e pl h1 (by rw[h2];exact⟨.bl _,H,I,rfl,q⟩)
def uK(g:Bool->Bool):R2':=fun x y H Q=>cB x H fun d=>cn y H fun l=>flat 8 d=true/\l.all (flat 8)=true/\Q (.bl (g (l.any fun z=>deq z d))) H
theorem b8{K:PySem.W.Frag}{g:Bool->Bool}:VR K B (uK g) (w8 K g):=by
 intro σ' σ H' H x' y' x y Q' Q s rx ry h k;obtain⟨d1,r1,h1⟩:=cB.ex h s rx;obtain⟨l,us,p,rfl,r2,hq,f1,f2,q⟩:=cn.ex h1 s ry;exact⟨d1,p,l,us,f1,r1,rfl,f2,r2,hq,k _ H' _ H q (by simp[RP]) s (Ev.refl _ _)⟩
def lU(g:Bool->Bool):R2':=fun x y H Q=>match y,x with
 | .non,.non=>Q (.bl (g true)) H
 | .non,.oth _=>False
 | .non,_=>Q (.bl (g false)) H
 | _,_=>False
theorem yL{K:PySem.W.Frag}{g:Bool->Bool}{x y:PV}{v w:V}{H':PHp}{Q':VK'}(h:lU g x y H' Q')(rx:RP K H x v)(ry:RP K H y w):w=.non/\Q' (.bl (g (decide (v=.non)))) H':=by
 cases y with
 | non =>
  simp only[RP]at ry;refine⟨ry,?_⟩;cases x with
  | non=>simp only[RP]at rx;subst rx;exact h
  | oth _=>exact h.elim
  | tup l =>
   simp only[RP]at rx;obtain⟨a,us,rfl,_⟩:=rx;exact h
  | fls l =>
   simp only[RP]at rx;obtain⟨a,us,rfl,_⟩:=rx;exact h
  | _=>simp only[RP]at rx;subst rx;exact h
 | _=>cases x<;>exact h.elim
theorem yr{K:PySem.W.Frag}:VR K B (lU fun b=>b) (fun x y H Q=>y=.non/\Q (.bl (decide (x=.non))) H):=by
 intro σ' σ H' H x' y' x y Q' Q s rx ry h k;obtain⟨e,q⟩:=yL h rx ry;exact⟨e,k _ H' _ H q (by simp[RP]) s (Ev.refl _ _)⟩
inductive BT where | non | bool | int | str | list | tuple
def BT.nm:BT->String | .non=>"NoneType" | .bool=>"bool" | .int=>"int" | .str=>"str" | .list=>"list" | .tuple=>"tuple"
def BT.sub:BT->BT->Bool
 | .non,.non=>true | .bool,.bool=>true | .int,.int=>true | .str,.str=>true | .list,.list=>true | .tuple,.tuple=>true
 | .bool,.int=>true
 | _,_=>false
def dB(x:PV)(H:PHp)(k:BT->Prop):Prop:=match x with
 | .non=>k .non
 | .bl _=>k .bool
 | .int _=>k .int
 | .str _=>k .str
 | .tup _=>k .tuple
 | .fls _=>k .list
 | .ref a=>∃l,H a=some (.lst l)/\k .list
 | _=>False
def Es(c:BT):List PV->PHp->VK'->Prop:=fun xs H Q=>match xs with
 | [x,.oth (.ty n)]=>n=c.nm/\dB x H fun t=>Q (.bl (t.sub c)) H
 | _=>False
variable {e o:Expr}{es:List Expr}{to:TE'}{t:TA'}{name:Str}{apos cpos:Pos}
def isL(x:PV)(H1:PHp):Prop:=match x with
 | .ref a=>∃l,H1 a=some (.lst l)
 | _=>False
def uBM(r:PV->List PV->PHp->VK'->Prop)(to:TE')(t:TA'):TE':=fun σ H Q=>to σ H fun x H1=>isL x H1/\t σ H1 fun xs H2=>r x xs H2 Q
def Bi(r:PV->List PV->PHp->VK'->Prop)(to:TE'):TE':=fun σ H Q=>to σ H fun x H1=>r x [] H1 Q
def VM(K:PySem.W.Frag)(B:Bs)(r':PV->List PV->PHp->VK'->Prop)(r:V->List V->Hp->VK->Prop):Prop:=∀(σ':St') (σ:L2.St) (H':PHp) (H:Hp) x' xs' x xs (Q':VK') (Q:VK),SR K B σ' H' σ H->RP K H x' x->RPs K H xs' xs->r' x' xs' H' Q' ->
 (∀v' H1' v H1,Q' v' H1'->RP K H1 v' v->SR K B σ' H1' σ H1->Ev H' H H1' H1->Q v H1)->r x xs H Q
theorem xk{K:PySem.W.Frag}{r':PV->List PV->PHp->VK'->Prop}{r:V->List V->Hp->VK->Prop}(v:VM K B r' r){σ:L2.St}{H:Hp}{Q:VK}(h:low K B (uBM r' to t) σ H Q):tBM K "list" r (low K B to) (l8 K B t) σ H Q:=by
 obtain⟨σ',H',Q',s,h,k⟩:=h;refine⟨σ',H',_,s,h,fun x' H1' x H1 h1 rx s1 e1=>?_⟩;obtain⟨ty,h1⟩:=h1;constructor
 ·cases x' with
  | ref a =>
   obtain⟨l,e⟩:=ty;obtain⟨us,q,_⟩:=s1.hp _ _ e;simp only[RP]at rx;subst rx;exact .inl ⟨rfl,us,SqL.of q⟩
  | _=>exact ty.elim
 ·refine⟨σ',H1',_,s1,h1,fun xs' H2' xs H2 h2 r2 s2 e2=>?_⟩;exact v σ' σ H2' H2 x' xs' x xs Q' Q s2 (RP.kp K (e2.kp s1.hp) rx) r2 h2 fun v' H3' v H3 q rv s3 e3=>k v' H3' v H3 q rv s3 (e1.trans (e2.trans e3))
theorem cX{id:String}{r':PV->List PV->PHp->VK'->Prop}{r:V->List V->Hp->VK->Prop}(slot:Slot "list" name id)(hty:typeOf (.builtin id)=pure (.type "method_descriptor"))(hm:MtR X id r)(v:VM X.K B r' r)(ho:PE' X B o to)(ha:PA' X B (e::es) t)
  (hbase:attributeBase o name X.env (eval o X.env)=eval o X.env:=by rfl)
  (hfew:((backTo cpos (starEach (e::es) X.env)).all (fun x=>!x.1)&&(backToKw cpos (keywordEach [] X.env)).all (fun x=>x.1.isSome)
   && decide ((e::es).length+([]:List Keyword).length+(if ([]:List Keyword).isEmpty then 0 else 1)<30))=true:=by rfl)
  (hline:(apos.endLine==cpos.line)=true:=by rfl) (hs:starEach (e::es) X.env=(false,eval e X.env)::starEach es X.env:=by rfl) (hplain:(backTo cpos (starEach es X.env)).any (·.1)=false:=by rfl) :
  PE' X B (.Call (.Attribute o name apos) (e::es) [] cpos) (uBM r' to t):=aT (BQ PySem.F.plainAttrs_list slot hty hm ho ha hbase hfew hline hs hplain) fun _ _ _ h=>xk v h
theorem w4{id:String}{r':PV->List PV->PHp->VK'->Prop}{r:V->List V->Hp->VK->Prop}(slot:Slot "list" name id)(hty:typeOf (.builtin id)=pure (.type "method_descriptor"))(hm:MtR X id r)(v:VM X.K B r' r)
  (hl:∀x H Q,r' x [] H Q->match x with | .ref a=>∃l,H a=some (.lst l) | _=>False) (ho:PE' X B o to)
  (hbase:attributeBase o name X.env (eval o X.env)=eval o X.env:=by rfl) (hline:(apos.endLine==cpos.line)=true:=by rfl) :
  PE' X B (.Call (.Attribute o name apos) [] [] cpos) (Bi r' to):=aT (xN PySem.F.plainAttrs_list slot hty hm ho hbase hline) fun σ H Q h=>by
 obtain⟨σ',H',Q',s,h,k⟩:=h;refine⟨σ',H',_,s,h,fun x' H1' x H1 h1 rx s1 e1=>?_⟩;constructor
 ·have ty:=hl _ _ _ h1;cases x' with
  | ref a =>
   obtain⟨l,e⟩:=ty;obtain⟨us,q,_⟩:=s1.hp _ _ e;simp only[RP]at rx;subst rx;exact .inl ⟨rfl,us,SqL.of q⟩
  | _=>exact ty.elim
 ·exact v σ' σ H1' H1 x' [] x [] Q' Q s1 rx (RPs.nil _) h1 fun v' H3' v H3 q rv s3 e3=>k v' H3' v H3 q rv s3 (e1.trans e3)
def jO:PV->List PV->PHp->VK'->Prop:=fun x vs H Q=>match x,vs with
 | .ref a,[y]=>∃l,H a=some (.lst l)/\l.length<sizeLine/\Q .non (put H a (.lst (l++[y])))
 | _,_=>False
theorem c9{K:PySem.W.Frag}:VM K B jO nZ:=by
 intro σ' σ H' H x' xs' x xs Q' Q s rx r h k;unfold jO at h;split at h
 ·rename_i a y;obtain⟨l,e,hl,h⟩:=h;obtain⟨us,q,r2⟩:=s.hp _ _ e;simp only[RP,RPs]at rx r;obtain⟨u,r1,rfl,ru,rfl⟩:=r;subst rx;exact⟨a,us,u,rfl,rfl,q,by rw[RPs.length _ r2];exact hl,k _ _ _ _ h (by simp[RP]) (s.wr e (wrL s.hp e (RPs.append _ r2 (RPs.cons _ ru (RPs.nil _))))) (Ev.wr e)⟩
 ·exact h.elim
def jY:PV->List PV->PHp->VK'->Prop:=fun x vs H Q=>match x,vs with
 | .ref a,[.ref b]=>∃l m,H a=some (.lst l)/\H b=some (.lst m)/\l.length+m.length≤sizeLine/\Q .non (put H a (.lst (l++m)))
 | _,_=>False
theorem cz{K:PySem.W.Frag}:VM K B jY n9:=by
 intro σ' σ H' H x' xs' x xs Q' Q s rx r h k;unfold jY at h;split at h
 ·rename_i a b;obtain⟨l,m,e,e2,hl,h⟩:=h;obtain⟨us,q,r2⟩:=s.hp _ _ e;obtain⟨ws,q2,r3⟩:=s.hp _ _ e2;simp only[RP,RPs]at rx r;obtain⟨u,r1,rfl,ru,rfl⟩:=r;subst rx;subst ru;exact⟨a,b,us,ws,rfl,rfl,q,q2,by rw[RPs.length _ r2,RPs.length _ r3];exact hl,k _ _ _ _ h (by simp[RP]) (s.wr e (wrL s.hp e (RPs.append _ r2 r3))) (Ev.wr e)⟩
 ·exact h.elim
def u7:PV->List PV->PHp->VK'->Prop:=fun x vs H Q=>match x,vs with
 | .ref a,[]=>∃l y,H a=some (.lst l)/\l[l.length - 1]?=some y/\Q y (put H a (.lst l.dropLast))
 | _,_=>False
theorem ya{K:PySem.W.Frag}:VM K B u7 AJ:=by
 intro σ' σ H' H x' xs' x xs Q' Q s rx r h k;unfold u7 at h;split at h
 ·rename_i a;obtain⟨l,y,e,hl,h⟩:=h;obtain⟨us,q,r2⟩:=s.hp _ _ e;simp only[RP,RPs]at rx r;subst rx;subst r;obtain⟨u,e1,e2⟩:=RPs.get _ r2 hl;exact⟨a,us,u,rfl,rfl,q,by rw[RPs.length _ r2];exact e1,k _ _ _ _ h (RP.kp _ (s.hp.kpw e) e2) (s.wr e (wrL s.hp e (RPs.dropLast _ r2))) (Ev.wr e)⟩
 ·exact h.elim
end
end
section
variable {B:Bs}
theorem qe(lo:Int)(n i:Nat)(h:i<n):(cH lo n).drop i=PV.int (lo+(i:Nat))::(cH lo n).drop (i+1):=by
 have hl:i<(cH lo n).length:=by simpa[cH]using h
 rw[List.drop_eq_getElem_cons hl];simp[cH]
theorem rK(lo:Int)(n:Nat):(cH lo n).drop n=[]:=by
 apply List.drop_of_length_le;simp[cH]
theorem fS{ok:PHp->Prop}{g:TG'}{tb:TS'}{D:cM}{lo:Int}{n:Nat}(Pv:Nat->St'->PHp->Prop)(hd:∀σ H,Pv n σ H->ok H/\D.nx σ H)
  (hs:∀(G:St'->PHp->Prop) i σ H,i<n->Pv i σ H->(∀σ' H',Pv (i+1) σ' H'->G σ' H')->ok H/\g (.int (lo+(i:Nat))) σ H fun σ2 H2=>tb { D with nx:=G,ct:=G,bk:=D.nx } σ2 H2)
  {σ:St'} {H:PHp} (h0:Pv 0 σ H):dS ok g tb D (cH lo n) σ H:=by
 have key:∀(k i:Nat) {σ:St'} {H:PHp},i+k=n->Pv i σ H->dS ok g tb D ((cH lo n).drop i) σ H:=by
  intro k
  induction k with
  | zero =>
   intro i σ H hk p;have:i=n:=hk;subst this;rw[rK];exact hd σ H p
  | succ k ih =>
   intro i σ H hk p;have hi:i<n:=hk▸Nat.lt_add_of_pos_right (Nat.succ_pos k);rw[qe lo n i hi];exact hs _ i σ H hi p fun σ' H' p'=>ih (i+1) ((Nat.succ_add_eq_add_succ i k).trans hk) p'
 exact key n 0 (Nat.zero_add n) h0
theorem cc{ok:PHp->Prop}{g:TG'}{tb:TS'}{D:cM}{xs:List PV}(Pv:Nat->St'->PHp->Prop)(hd:∀σ H,Pv xs.length σ H->ok H/\D.nx σ H)
  (hs:∀(G:St'->PHp->Prop) i x σ H,xs[i]?=some x->Pv i σ H->(∀σ' H',Pv (i+1) σ' H'->G σ' H')->ok H/\g x σ H fun σ2 H2=>tb { D with nx:=G,ct:=G,bk:=D.nx } σ2 H2)
  {σ:St'} {H:PHp} (h0:Pv 0 σ H):dS ok g tb D xs σ H:=by
 have key:∀(k i:Nat) {σ:St'} {H:PHp},xs.length - i=k->i≤xs.length->Pv i σ H->dS ok g tb D (xs.drop i) σ H:=by
  intro k
  induction k with
  | zero =>
   intro i σ H hk hi p;have:i=xs.length:=by omega
   subst this;rw[List.drop_length];exact hd σ H p
  | succ k ih =>
   intro i σ H hk hi p;have hl:i<xs.length:=by omega
   rw[List.drop_eq_getElem_cons hl];exact hs _ i _ σ H (List.getElem?_eq_getElem hl) p fun σ' H' p'=>ih (i+1) (by omega) (by omega) p'
 have:=key xs.length 0 (by omega) (by omega) h0;simpa using this
theorem vd{m:List Int}{z:Int}(h0:0≤z)(h1:z<m.length):atI (m.map PV.int) z=some (.int (m.getD z.toNat 0)):=by
 unfold atI ixN;rw[if_pos h0,List.length_map,if_pos h1];show(m.map PV.int)[z.toNat]?=_;rw[List.getElem?_map,List.getD_eq_getElem?_getD];have:z.toNat<m.length:=by omega
 rw[List.getElem?_eq_getElem this];rfl
theorem w_V{v:PV}{k:PV->Prop}:k6 (some (some v)) k=k v:=rfl
theorem w_B{b:Bool}{k:Bool->Prop}:dN (.bl b) k=k b:=rfl
theorem w_I{b:Int}{k:Int->Prop}:bQ (.int b) k=k b:=rfl
theorem w_O{b:PV}{k:PV->Prop}:jc (some b) k=k b:=rfl
theorem Cm{l:List PV}{H:PHp}{k:List PV->Prop}:cn (.tup l) H k=k l:=rfl
theorem Ez{l:List PV}{H:PHp}{k:List PV->Prop}:cn (.fls l) H k=k l:=rfl
theorem Em{a:Addr}{H:PHp}{k:List PV->Prop}:cn (.ref a) H k=∃l,H a=some (.lst l)/\k l:=rfl
theorem Co{a:Addr}{H:PHp}{k:PV->Prop}:cB (.ref a) H k=∃l,H a=some (.lst l)/\k (.fls l):=rfl
theorem DH{H:PHp}{k:PV->Prop}:cB .non H k=k .non:=rfl
theorem D0{b:Bool}{H:PHp}{k:PV->Prop}:cB (.bl b) H k=k (.bl b):=rfl
theorem Ci{b:Int}{H:PHp}{k:PV->Prop}:cB (.int b) H k=k (.int b):=rfl
theorem B2{b:Str}{H:PHp}{k:PV->Prop}:cB (.str b) H k=k (.str b):=rfl
theorem D9{b:List PV}{H:PHp}{k:PV->Prop}:cB (.tup b) H k=k (.tup b):=rfl
theorem DX{b:List PV}{H:PHp}{k:PV->Prop}:cB (.fls b) H k=k (.fls b):=rfl
theorem Cg{H:PHp}{k:BT->Prop}:dB .non H k=k .non:=rfl
theorem C8{b:Bool}{H:PHp}{k:BT->Prop}:dB (.bl b) H k=k .bool:=rfl
theorem DJ{b:Int}{H:PHp}{k:BT->Prop}:dB (.int b) H k=k .int:=rfl
theorem DI{b:Str}{H:PHp}{k:BT->Prop}:dB (.str b) H k=k .str:=rfl
theorem CB{b:List PV}{H:PHp}{k:BT->Prop}:dB (.tup b) H k=k .tuple:=rfl
theorem Cj{b:List PV}{H:PHp}{k:BT->Prop}:dB (.fls b) H k=k .list:=rfl
theorem D5{a:Addr}{H:PHp}{k:BT->Prop}:dB (.ref a) H k=∃l,H a=some (.lst l)/\k .list:=rfl
theorem CD{b:Int}{k:Int->Prop}:intOf (.int b) k=k b:=rfl
theorem Cz{b:Bool}{k:Int->Prop}:intOf (.bl b) k=k (b2n b):=rfl
theorem Cr{l:List PV}{lo hi:Option Int}{H:PHp}{Q:VK'}:sliceOf (.fls l) lo hi H Q=∀p,H p=none->Q (.ref p) (put H p (.lst (bO l lo hi))):=rfl
theorem Ce{a:Addr}{lo hi:Option Int}{H:PHp}{Q:VK'}:sliceOf (.ref a) lo hi H Q=∃l,H a=some (.lst l)/\∀p,H p=none->Q (.ref p) (put H p (.lst (bO l lo hi))):=rfl
theorem El{l:List PV}{lo hi:Option Int}{H:PHp}{Q:VK'}:sliceOf (.tup l) lo hi H Q=(¬(HT.sIx l.length 0 lo=0/\HT.sIx l.length l.length hi=l.length)/\Q (.tup (bO l lo hi)) H):=rfl
theorem Di{l:List PV}{H:PHp}{R:It'->PHp->Prop}:uS (.tup l) H R=R ⟨l,fun _=>True⟩ H:=rfl
theorem D6{l:List PV}{H:PHp}{R:It'->PHp->Prop}:uS (.fls l) H R=R ⟨l,fun _=>True⟩ H:=rfl
theorem Cy{a:Addr}{H:PHp}{R:It'->PHp->Prop}:uS (.ref a) H R=∃l,H a=some (.lst l)/\R ⟨l,fun H=>H a=some (.lst l)⟩ H:=rfl
theorem w_1{f:PV->PHp->VK'->Prop}{x:PV}{H:PHp}{Q:VK'}:dc f [x] H Q=f x H Q:=rfl
theorem BU{c:BT}{x:PV}{n:String}{H:PHp}{Q:VK'}:Es c [x,.oth (.ty n)] H Q=(n=c.nm/\dB x H fun t=>Q (.bl (t.sub c)) H):=rfl
theorem Dd{g:Bool->Bool}{H:PHp}{Q:VK'}:lU g .non .non H Q=Q (.bl (g true)) H:=rfl
theorem D3{g:Bool->Bool}{a:Addr}{H:PHp}{Q:VK'}:lU g (.ref a) .non H Q=Q (.bl (g false)) H:=rfl
theorem DT{g:Bool->Bool}{l:List PV}{H:PHp}{Q:VK'}:lU g (.tup l) .non H Q=Q (.bl (g false)) H:=rfl
theorem B7{g:Bool->Bool}{l:Int}{H:PHp}{Q:VK'}:lU g (.int l) .non H Q=Q (.bl (g false)) H:=rfl
theorem Ea{g:Bool->Bool}{l:Bool}{H:PHp}{Q:VK'}:lU g (.bl l) .non H Q=Q (.bl (g false)) H:=rfl
theorem CA{n:Nat}{t:gK}{l:List PV}{σ:St'}{H:PHp}{Q:St'->PHp->Prop}:yn n t (.tup l) σ H Q=(l.length=n/\t l σ H Q):=rfl
theorem DB{t:TG'}{u:gK}{v:PV}{r:List PV}{σ:St'}{H:PHp}{Q:St'->PHp->Prop}:nJ t u (v::r) σ H Q=t v σ H fun σ' H'=>u r σ' H' Q:=rfl
theorem D8{σ:St'}{H:PHp}{Q:St'->PHp->Prop}:tS [] σ H Q=(True/\Q σ H):=by simp[tS]
theorem DD{t:TA'}{σ:St'}{H:PHp}{R:It'->PHp->Prop}:wH t σ H R=t σ H fun vs H1=>vy vs H1 R:=rfl
theorem AR{j:Int}{H1:PHp}{R:It'->PHp->Prop}:vy [.int j] H1 R=((-(2 ^ 62)≤j/\j<2 ^ 62)/\R ⟨cH 0 j.toNat,fun _=>True⟩ H1):=rfl
theorem Dl{t:TA'}{σ:St'}{H:PHp}{R:It'->PHp->Prop}:wo t σ H R=t σ H fun vs H1=>vT vs H1 R:=rfl
theorem Bz{i j:Int}{H1:PHp}{R:It'->PHp->Prop}:vT [.int i,.int j] H1 R=((-(2 ^ 62)≤i/\i<2 ^ 62/\-(2 ^ 62)≤j/\j<2 ^ 62)/\R ⟨cH i (j - i).toNat,fun _=>True⟩ H1):=rfl
theorem C4{a:Addr}{y:PV}{H:PHp}{Q:VK'}:jO (.ref a) [y] H Q=∃l,H a=some (.lst l)/\l.length<sizeLine/\Q .non (put H a (.lst (l++[y]))):=rfl
theorem C9{a b:Addr}{H:PHp}{Q:VK'}:jY (.ref a) [.ref b] H Q=∃l m,H a=some (.lst l)/\H b=some (.lst m)/\l.length+m.length≤sizeLine/\Q .non (put H a (.lst (l++m))):=rfl
theorem En{a:Addr}{H:PHp}{Q:VK'}:u7 (.ref a) [] H Q=∃l y,H a=some (.lst l)/\l[l.length - 1]?=some y/\Q y (put H a (.lst l.dropLast)):=rfl
theorem DY{r:PV->List PV->PHp->VK'->Prop}{to:TE'}{t:TA'}{σ:St'}{H:PHp}{Q:VK'}:uBM r to t σ H Q=to σ H fun x H1=>isL x H1/\t σ H1 fun xs H2=>r x xs H2 Q:=rfl
theorem De{a:Addr}{H:PHp}:isL (.ref a) H=∃l,H a=some (.lst l):=rfl
theorem ah{n:Nat}(h:n≤1000):n≤sizeLine:=Nat.le_of_lt (bI h)
end
section
theorem ak{t u:TS'}{D:cM}{σ:St'}{H:PHp}(h:∀R:TS',R=u->sv t R D σ H):sv t u D σ H:=h u rfl
end
section
variable {B:Bs}
def wX(h:Heap)(a C T:Addr)(fl:Value):Prop :=
 ∃(oe:Obj) (vs:Array Value) (oT:Obj) (ts:Array Value) (a0:Value),h.get? a=some oe/\oe.cls=.ref C/\vs[0]?=some a0/\oe.data=.fields vs/\vs[1]?=some (.ref T)/\T≠a/\h.get? T=some oT/\oT.data=.fields ts/\ts[3]?=some fl
theorem pN{P:Program}{w:World}{H:Hp}{h:Heap}{a:Addr}{o:HO}(k:bV P w H h a o):∃ob,h.get? a=some ob:=by
 cases o with
 | lst _=>obtain⟨_,_,_,_,e⟩:=k;exact⟨_,e⟩
 | tup _=>obtain⟨_,_,_,o,e,_⟩:=k;exact⟨o,e⟩
 | dK _=>obtain⟨_,_,_,_,o,_,_,e,_⟩:=k;exact⟨o,e⟩
 | dT _=>obtain⟨_,_,_,_,o,_,_,e,_⟩:=k;exact⟨o,e⟩
 | set _ _=>obtain⟨o,_,_,_,e,_⟩:=k;exact⟨o,e⟩
 | ins _ _ _=>obtain⟨_,_,_,e,_⟩:=k;exact⟨_,e⟩
 | own _=>obtain⟨o,e⟩:=k;exact⟨o,e⟩
 | xd _=>obtain⟨_,⟨o,_,_,e,_⟩,_⟩:=k;exact⟨o,e⟩
 | rng _ _=>obtain⟨_,_,_,e⟩:=k;exact⟨_,e⟩
 | frz o _=>obtain⟨e,_⟩:=k;exact⟨o,e⟩
 | tbl _=>exact⟨_,k⟩
 | met _ _=>exact⟨_,k⟩
 | ext _=>obtain⟨_,⟨o,e⟩,_⟩:=k;exact⟨o,e⟩
theorem kj{P:Program}{w:World}{H:Hp}{h:Heap}{a:Addr}(x:HOk P w H h)(e:h.get? a=none):H a=none:=by
 cases q:H a with
 | none=>rfl
 | some o=>obtain⟨ob,z⟩:=pN (x a o q);rw[e]at z;cases z
section
variable {X:Cx}{pins:List (Addr×Obj)}{σ:L2.St}{H H':Hp}{s:Shared}{h':Heap}{a C T:Addr}{fl:Value}
structure Plain (X:Cx):Prop where
 ex:X.ex=[]
 stk:X.stack=X.env::X.outer
 fr:X.env.frame=some X.env.locals
theorem Plain.frs(pl:Plain X):L2.frs X.stack=X.env.locals::X.fs:=by
 rw[pl.stk];show(X.env::X.outer).filterMap (·.frame)=_;rw[List.filterMap_cons,pl.fr];rfl
structure XAt (X:Cx) (pins:List (Addr × Obj)) (H:Hp) (s:Shared) (a C T:Addr) (fl:Value):Prop where
 fly:wX s.heap a C T fl
 ha:H a=none
 hT:H T=none
 na:X.s₀.heap.get? a=none
 nT:X.s₀.heap.get? T=none
 pin:∀p∈X.pn++pins,p.1≠a/\p.1≠T
theorem dD(I:Inv X pins σ H s)(pl:Plain X){b:Addr}(e:s.heap.get? b=none):X.s₀.heap.get? b=none:=by
 cases q:X.s₀.heap.get? b with
 | none=>rfl
 | some o =>
  obtain⟨o',z⟩:=I.base.there b o q (by rw[pl.ex];simp);rw[e]at z;cases z
theorem yD(I:Inv X pins σ H s)(pl:Plain X)(ha:H a=none)(hT:H T=none)(na:X.s₀.heap.get? a=none)(nT:X.s₀.heap.get? T=none)(pin:∀p∈X.pn++pins,p.1≠a/\p.1≠T)
  (fa:∀o,s.heap.get? a=some o->∃vs,o.data=.fields vs) (fT:∀o,s.heap.get? T=some o->∃vs,o.data=.fields vs)
  (keep:∀b o,s.heap.get? b=some o->b∉L2.frs X.stack->b≠a->b≠T->h'.get? b=some o) (up:s.heap.UpToSlots h'):Inv X pins σ H { s with heap:=h' }:=by
 have frData:∀b o,b∈L2.frs X.stack->s.heap.get? b=some o->∀vs,o.data≠.fields vs:=fun b o hb e=>by
  obtain⟨_,o',e',hd⟩:=I.stack.mem (b:=b) hb;rw[e]at e';cases e';exact hd
 have inFr:∀b,b=X.env.locals∨b∈X.fs->b∈L2.frs X.stack:=fun b hb=>by
  rw[pl.frs];exact List.mem_cons.mpr hb
 have neA:∀b o,s.heap.get? b=some o->(∀vs,o.data≠.fields vs)->b≠a/\b≠T:=fun b o e hd=>by
  constructor
  ·rintro rfl;obtain⟨vs,z⟩:=fa o e;exact hd vs z
  ·rintro rfl;obtain⟨vs,z⟩:=fT o e;exact hd vs z
 have any:∀b o,b≠a->b≠T->s.heap.get? b=some o->∃sl,h'.get? b=some { o with slots:=sl }:=fun b o n1 n2 e=>by
  by_cases hb:b∈L2.frs X.stack
  ·exact up b o e (frData b o hb e)
  ·exact⟨o.slots,keep b o e hb n1 n2⟩
 have entry:∀b o,X.s₀.heap.get? b=some o->b≠a/\b≠T:=fun b o e=>⟨(fun z=>by subst z;rw[na]at e;cases e),(fun z=>by subst z;rw[nT]at e;cases e)⟩;have neL:∀b o,X.s₀.heap.get? b=some o->b≠X.env.locals:=fun b o e=>Nat.ne_of_lt (Nat.lt_of_lt_of_le (Heap.lt_size e) I.ok.above);have hx:∀b,b∉X.ex:=fun b=>by rw[pl.ex];simp
 have notFr:∀b o,X.s₀.heap.get? b=some o->b∉X.fs->b∉L2.frs X.stack:=fun b o e hb hm=>by
  rw[pl.frs]at hm;rcases List.mem_cons.mp hm with z | z
  ·exact neL b o e z
  ·exact hb z
 refine⟨I.ok,I.os,I.bare,⟨fun b o e n hb hx'=>?_,fun b o e n hb hx'=>?_,I.base.free,fun b o e hx'=>?_,I.base.tups,I.base.frzs,I.base.tbls⟩,?_,fun x c e=>?_,I.free,I.freeC,fun p hp=>?_,fun b u e=>?_,I.len⟩
 ·exact keep b o (I.base.keep b o e n hb hx') (notFr b o e hb) (entry b o e).1 (entry b o e).2
 ·obtain⟨sl,e1⟩:=I.base.slot b o e n hb hx';obtain⟨sl',e2⟩:=any b _ (entry b o e).1 (entry b o e).2 e1;exact⟨sl',e2⟩
 ·obtain⟨o',e1⟩:=I.base.there b o e hx';obtain⟨sl',e2⟩:=any b _ (entry b o e).1 (entry b o e).2 e1;exact⟨_,e2⟩
 ·obtain⟨m,hn,hl⟩:=I.loc;refine⟨m,up.ns hn,fun i x v e1 e2 e3=>?_⟩;obtain⟨u,r,l⟩:=hl i x v e1 e2 e3;refine⟨u,r,?_⟩;rcases l with l |⟨k,c,e,o,ho,hd⟩
  ·exact .inl l
  ·have nd:∀vs,o.data≠.fields vs:=fun vs z=>by rw[hd]at z;cases z
   obtain⟨sl,q⟩:=any c o (neA c o ho nd).1 (neA c o ho nd).2 ho;exact .inr ⟨k,c,e,_,q,hd⟩
 ·obtain⟨v,o,ho,hd⟩:=I.cell x c e;have nd:∀vs,o.data≠.fields vs:=fun vs z=>by rw[hd]at z;cases z
  obtain⟨sl,q⟩:=any c o (neA c o ho nd).1 (neA c o ho nd).2 ho;exact⟨v,_,q,hd⟩
 ·obtain⟨e,n,ne,nf,d⟩:=I.pin p hp;refine⟨keep p.1 p.2 e (fun z=>?_) (pin p hp).1 (pin p hp).2,n,ne,nf,d⟩;rw[pl.frs]at z;rcases List.mem_cons.mp z with z | z
  ·exact ne z
  ·exact nf z
 ·refine(I.hok b u e).stay (fun c v hc q=>?_) (fun _ q=>q) fun _ _ q=>q;have hc':∃o,H c=some o:=by
   rcases hc with rfl | hc
   ·exact⟨_,e⟩
   ·exact⟨_,hc⟩
  obtain⟨oc,ec⟩:=hc';refine keep c v q (fun z=>?_) (fun z=>by subst z;rw[ha]at ec;cases ec) (fun z=>by subst z;rw[hT]at ec;cases ec);rw[I.stkFree c z]at ec;cases ec
open PySem.W in
theorem gY(I:Inv X pins σ H s)(pl:Plain X)(ha:H a=none)(na:X.s₀.heap.get? a=none)(pa:∀p∈X.pn++pins,p.1≠a)(fa:∀o,s.heap.get? a=some o->∃vs,o.data=.fields vs)
  (T0:Addr) (hT0:H T0=none) (nT0:X.s₀.heap.get? T0=none) (pT0:∀p∈X.pn++pins,p.1≠T0) (fT0:∀o,s.heap.get? T0=some o->∃vs,o.data=.fields vs)
  (a0:Value) (st:(hideAll s.heap (L2.frs X.stack++[a,T0])).StaysIn h') (ff:h'.FunFrames (hideAll s.heap (L2.frs X.stack++[a,T0])) X.stack) (tr:h'.TracedAtW (hideAll s.heap (L2.frs X.stack++[a,T0])) a (.ref C) a0 fl) (up:s.heap.UpToSlots h') :
  Inv X pins σ H { s with heap:=h' }/\∃T,XAt X pins H { s with heap:=h' } a C T fl:=by
 have I':Inv X pins σ H { s with heap:=h' }:=yD I pl ha hT0 na nT0 (fun p hp=>⟨pa p hp,pT0 p hp⟩) fa fT0 (fun b o e n1 n2 n3=>st b o (hideAll_get _ e (by simp[n1,n2,n3]))) up;refine⟨I',?_⟩;obtain⟨oe,vs,T,oT,ts,e1,⟨e2,e3⟩,e4,e5,e6,e7,e8,e9,e10⟩:=tr;have key:T=T0∨s.heap.get? T=none:=by
  by_cases hT:T=T0
  ·exact .inl hT
  ·right;cases q:s.heap.get? T with
   | none=>rfl
   | some o =>
    have nfr:T∉L2.frs X.stack:=fun hm=>by
     obtain⟨_,o',e',hd⟩:=ff.mem (b:=T) hm;rw[e8]at e';cases e';exact hd ts e9
    have:=hideAll_get (L2.frs X.stack++[a,T0]) q (by simp[nfr,e7,hT]);rw[e6]at this;cases this
 refine⟨T,⟨oe,vs,oT,ts,a0,e1,e2,e3,e4,e5,e7,e8,e9,e10⟩,ha,?_,na,?_,fun p hp=>⟨pa p hp,?_⟩⟩
 ·rcases key with rfl | k
  ·exact hT0
  ·exact kj I.hok k
 ·rcases key with rfl | k
  ·exact nT0
  ·exact dD I pl k
 ·rcases key with rfl | k
  ·exact pT0 p hp
  ·intro z;have:=(I.pin p hp).1;rw[z,k]at this;cases this
open PySem.W in
theorem j9(I:Inv X pins σ H s)(as:List Addr):s.heap.FunFrames (hideAll s.heap (L2.frs X.stack++as)) X.stack :=
 funFrames_hide I.stack fun env he b hb=>List.mem_append_left _ (List.mem_filterMap.mpr ⟨env,he,hb⟩)
theorem XAt.data(x:XAt X pins H s a C T fl):(∀o,s.heap.get? a=some o->∃vs,o.data=.fields vs)/\∀o,s.heap.get? T=some o->∃vs,o.data=.fields vs:=by
 obtain⟨oe,vs,oT,ts,a0,e1,e2,e3,e4,e5,e7,e8,e9,e10⟩:=x.fly;exact⟨fun o e=>by rw[e1]at e;cases e;exact⟨_,e4⟩,fun o e=>by rw[e8]at e;cases e;exact⟨_,e9⟩⟩
open PySem.W in
theorem XAt.traced(x:XAt X pins H s a C T fl):∃a0,s.heap.TracedAtW (hideAll s.heap (L2.frs X.stack++[a,T])) a (.ref C) a0 fl:=by
 obtain⟨oe,vs,oT,ts,a0,e1,e2,e3,e4,e5,e7,e8,e9,e10⟩:=x.fly;exact⟨a0,oe,vs,T,oT,ts,e1,⟨e2,e3⟩,e4,e5,hideAll_none _ (by simp),e7,e8,e9,e10⟩
variable {M:Model}{E:Value->Shared->Prop}{Q:Unit->Shared->Prop}
open PySem.W in
theorem xa(I:Inv X pins σ H s)(pl:Plain X)(x:XAt X pins H s a C T .none)
  (h:∀h' T',Inv X pins σ H { s with heap:=h' }->XAt X pins H { s with heap:=h' } a C T' (rawInt X.env.locals)->Q () { s with heap:=h' }):wpAny M X.A (noteFrame (.ref a) X.env) Q E s:=by
 obtain⟨a0,tr⟩:=x.traced;obtain⟨d1,d2⟩:=x.data;have ff:=j9 I [a,T];have hfr:=I.ok.frames;rw[pl.stk]at ff tr hfr;refine wpAny_noteFrame_onW hfr ff pl.fr tr (fun b o e=>of_hideAll _ e) (hideAll_none _ (by simp)) fun h' ⟨k1,k2,k3,k4⟩=>?_;rw[←pl.stk]at k1 k2 k3;obtain⟨I',T',x'⟩:=gY I pl x.ha x.na (fun p hp=>(x.pin p hp).1) d1 T x.hT x.nT (fun p hp=>(x.pin p hp).2) d2 a0 k1 k2 k3 k4;exact h h' T' I' x'
open PySem.W in
theorem rZ{A:Around}(I:Inv X pins σ H s)(pl:Plain X)(x:XAt X pins H s a C T fl)
  (h:∀h' T',Inv X pins σ H { s with heap:=h' }->XAt X pins H { s with heap:=h' } a C T' .none->Q () { s with heap:=h' }):wpAny M A (setFlight (.ref a) none) Q E s:=by
 obtain⟨a0,tr⟩:=x.traced;obtain⟨d1,d2⟩:=x.data;refine wpAny_setFlight_noneW (fun b o e=>of_hideAll _ e) (j9 I [a,T]) tr fun h' k1 k2 k3 k4=>?_;obtain⟨I',T',x'⟩:=gY I pl x.ha x.na (fun p hp=>(x.pin p hp).1) d1 T x.hT x.nT (fun p hp=>(x.pin p hp).2) d2 a0 k1 k2 k3 fun b o e hd=>⟨o.slots,k4 b o e hd⟩;exact h h' T' I' x'
def CXU(P:Program)(w:World):CXT:=fun outer H s E e s'=>∃(a C T:Addr) (H1:Hp),e=.ref a/\wX s'.heap a C T .none/\(H1 a=none/\H1 T=none)/\(s.heap.get? a=none/\s.heap.get? T=none) /\
 s'.os=s.os/\AllBare s'.gens/\Un (L2.frs outer) [] H H1 s.heap s'.heap/\HOk P w H1 s'.heap/\E (.ref C) none H1
open PySem.W in
theorem vp{XE:XK}(I:Inv X pins σ H s)(pl:Plain X)(x:XAt X pins H s a C T .none)(hE:XE (.ref C) none H) :
  wpAny M X.A (leaving X.env (.ref a)) (fun _ s''=>CXU X.prog X.w X.outer X.H₀ X.s₀ XE (.ref a) s'') E s:=by
 obtain⟨a0,tr⟩:=x.traced;obtain⟨d1,d2⟩:=x.data;have ff:=j9 I [a,T];have hfr:=I.ok.frames;rw[pl.stk]at ff tr hfr;refine wpAny_leaving_nextW hfr ff pl.fr tr (fun b o e=>of_hideAll _ e) (hideAll_none _ (by simp)) fun h' ⟨k1,k2,k3,k4⟩=>?_;rw[←pl.stk]at k1 k2 k3;obtain⟨I',T',x'⟩:=gY I pl x.ha x.na (fun p hp=>(x.pin p hp).1) d1 T x.hT x.nT (fun p hp=>(x.pin p hp).2) d2 a0 k1 k2 k3 k4;have hu:=I'.base;rw[pl.ex]at hu;exact⟨a,C,T',H,rfl,x'.fly,⟨x'.ha,x'.hT⟩,⟨x'.na,x'.nT⟩,I'.os,I'.bare,hu,I'.hok,hE⟩
open PySem.W in
theorem mS{XE:XK}{h1:Heap}{args:List Value}(I:Inv X pins σ H s)(pl:Plain X)(mx:Heap.MadeExcOf s.heap h1 a (.ref C) args)(hE:XE (.ref C) none H) :
  wpAny M X.A (leaving X.env (.ref a)) (fun _ s''=>CXU X.prog X.w X.outer X.H₀ X.s₀ XE (.ref a) s'') E { s with heap:=h1 }:=by
 have I1:Inv X pins σ H { s with heap:=h1 }:=I.kept (t':=s.toks) mx.keeps;obtain⟨t,e1,e2,e3⟩:=mx.there;have ha:=kj I.hok mx.new;have na:=dD I pl mx.new;have pa:∀p∈X.pn++pins,p.1≠a:=fun p hp z=>by have:=(I.pin p hp).1;rw[z,mx.new]at this;cases this
 have fa:∀o,h1.get? a=some o->∃vs,o.data=.fields vs:=fun o e=>by rw[e1]at e;cases e;exact⟨_,rfl⟩
 have ff:=j9 I1 [a,a];have hfr:=I1.ok.frames;rw[pl.stk]at ff hfr;refine wpAny_leaving_firstW hfr ff pl.fr e1 (fun b o e=>of_hideAll _ e) (hideAll_none _ (by simp)) rfl rfl rfl fun h' ⟨k1,k2,k3,k4⟩=>?_;rw[←pl.stk]at k1 k2 k3;obtain⟨I',T',x'⟩:=gY I1 pl ha na pa fa a ha na pa fa _ k1 k2 k3 k4;have hu:=I'.base;rw[pl.ex]at hu;exact⟨a,C,T',H,rfl,x'.fly,⟨x'.ha,x'.hT⟩,⟨x'.na,x'.nT⟩,I'.os,I'.bare,hu,I'.hok,hE⟩
theorem jb{XE:XK}{e:Value}{s':Shared}(I:Inv X pins σ H s)(pl:Plain X)(c:CXU X.prog X.w X.stack H s XE e s') :
  ∃a C T H1,e=.ref a/\Inv X pins σ H1 s'/\XAt X pins H1 s' a C T .none/\XE (.ref C) none H1/\Kp H H1:=by
 obtain⟨a,C,T,H1,rfl,fl,⟨h1,h2⟩,⟨n1,n2⟩,os,ba,un,hok,hE⟩:=c;refine⟨a,C,T,H1,rfl,I.call' (ch:=[]) os un hok ba (fun _ z=>nomatch z),⟨fl,h1,h2,dD I pl n1,dD I pl n2,fun p hp=>⟨fun z=>?_,fun z=>?_⟩⟩,hE,⟨un.tups,un.frzs⟩⟩
 ·have:=(I.pin p hp).1;rw[z,n1]at this;cases this
 ·have:=(I.pin p hp).1;rw[z,n2]at this;cases this
end
end
end U
namespace U
open L2 PySem.W
theorem qX:entryFor table "BaseException.__getattribute__"=some Builtin.«object.__getattribute__» :=
 entryFor_alias (id':="object.__getattribute__") (by kernel_rfl) (by first | rfl | decide +kernel) (by decide +kernel) (by kernel_rfl)
section
variable {prog:Program}{w:World}{A:Around}{E:Value->Shared->Prop}{h:Heap}{g:Array GenState}{d:Drawn}{t:Nat}{os:OsState}{a C:Addr}{o:Obj}{K:Frag}
theorem uy{R:Result->Shared->Prop}(X:K.In h)(hx:h.get? a=some o)(hc:o.cls=.ref C)(hm:mroIn K C (.type "object")=some true)(hq:R (.ok (.ret (.ref C))) ⟨h,g,d,t,os⟩) :
  codeAny (model prog w) A (.call (.builtin "getset_descriptor.__get__") ⟨[.builtin "object.__class__",.ref a,.ref C],[]⟩) R ⟨h,g,d,t,os⟩:=by
 have hT5:(⟨h,g,d,t,os⟩:Shared).TypeIs (.builtin "object.__class__") "getset_descriptor":=F.typeOf_object_class;have LS:Looks (model prog w) h (isSubtype (.ref C) (.type "object")) true:=looks_mroIn X hm;have f8:=F.owner_object_class;refine codeAny_call_builtin F.slot_gs_get.plain F.entry_gs_get (F.slot_gs_get.check _ _ _ _ _ _ _ _ hT5 (F.args_gs_get _ _ _) ?_)
 repeat (any_goals (first | assumption | wp_step))
 rw[hc,f8];refine LS.at ?_
 repeat (any_goals (first | assumption | wp_step))
 refine⟨Code.quiet_builtin _ (by decide +kernel),codeAny_builtin F.entry_object_class ?_⟩
 repeat (any_goals (first | assumption | wp_step))
 all_goals (rw[hc];exact hq)
theorem pq{tk:Tok}{Q:Fin->Shared->Prop}(X:K.In h)(hx:h.get? a=some o)(hc:o.cls=.ref C)(hm:mroIn K C (.type "object")=some true)(hf:findIn K (.ref C) "__class__"=some (some (.builtin "object.__class__")))(hq:Q (.done (.ret (.ref C))) ⟨h,g,d,t,os⟩) :
  wpAny (model prog w) A (Builtin.«object.__getattribute__» ⟨[.ref a,.str "__class__" tk],[]⟩) Q E ⟨h,g,d,t,os⟩:=by
 have hT5:(⟨h,g,d,t,os⟩:Shared).TypeIs (.builtin "object.__class__") "getset_descriptor":=F.typeOf_object_class;have LF:Looks (model prog w) h (typeLookup (.ref C) "__class__") (some (.builtin "object.__class__")):=looks_findIn X hf;have f5:=F.typeOf_object_class;have f6:=F.slot_gs_get.lookup;have f7:=F.slot_gs_set.lookup
 repeat (any_goals (first | assumption | wp_step))
 rw[hc];refine LF.at ?_
 repeat (any_goals (first | assumption | wp_step))
 refine uy X hx hc hm ?_
 repeat (any_goals (first | assumption | wp_step))
theorem nX:builtinKind "BaseException.__getattribute__"=some .slot:=by decide +kernel
theorem tO:splitId "BaseException.__getattribute__"=some ("BaseException","__getattribute__"):=by decide +kernel
theorem pO{M:Model}{tk:Tok}{Q:Unit->Shared->Prop}(X:K.In h)(hx:h.get? a=some o)(hc:o.cls=.ref C)(hm:mroIn K C (.type "BaseException")=some true)(hq:Q () ⟨h,g,d,t,os⟩) :
  wpAny M A (checkBuiltinCall "BaseException.__getattribute__" ⟨[.ref a,.str "__class__" tk],[]⟩) Q E ⟨h,g,d,t,os⟩:=by
 have LB:Looks M h (isSubtype (.ref C) (.type "BaseException")) true:=looks_mroIn X hm;simp only[checkBuiltinCall,nX,tO]
 repeat (first |(with_reducible refine wpAny_loadPart_at hx ?_;rw[hc]) | with_reducible refine LB.at ?_ | wp_step)
 exact hq
theorem qB{tk:Tok}{R:Result->Shared->Prop}(X:K.In h)(hx:h.get? a=some o)(hc:o.cls=.ref C)(hm:mroIn K C (.type "object")=some true)(hb:mroIn K C (.type "BaseException")=some true)
  (hf:findIn K (.ref C) "__class__"=some (some (.builtin "object.__class__"))) (hq:R (.ok (.ret (.ref C))) ⟨h,g,d,t,os⟩) :
  codeAny (model prog w) A (.call (.builtin "BaseException.__getattribute__") ⟨[.ref a,.str "__class__" tk],[]⟩) R ⟨h,g,d,t,os⟩ :=
 codeAny_call_builtin_at (Code.quiet_builtin _ (by decide +kernel)) qX (pO X hx hc hb (pq X hx hc hm hf hq))
theorem ve(self:Value):bindSpecial (.builtin "BaseException.__getattribute__") self=pure (.builtin "BaseException.__getattribute__",[self]):=by
 have hop:withoutEnding? "BaseException.__getattribute__" "#opaque"=none:=by decide +kernel
 have hdat:withoutEnding? "BaseException.__getattribute__" "#data"=none:=by decide +kernel
 simp only[bindSpecial,typeOf,builtinType,hop,hdat,nX];rfl
theorem zM{tk:Tok}{Q:Value->Shared->Prop}(X:K.In h)(hx:h.get? a=some o)(hc:o.cls=.ref C)(hm:mroIn K C (.type "object")=some true)(hb:mroIn K C (.type "BaseException")=some true)
  (hf:findIn K (.ref C) "__class__"=some (some (.builtin "object.__class__"))) (hg:findIn K (.ref C) "__getattribute__"=some (some (.builtin "BaseException.__getattribute__"))) (hh:findIn K (.ref C) "__getattr__"=some none) (hq:Q (.ref C) ⟨h,g,d,t,os⟩) :
  wpAny (model prog w) A (getAttrBy (.ref a) (.str "__class__" tk) false) Q E ⟨h,g,d,t,os⟩:=by
 have LG:Looks (model prog w) h (typeLookup (.ref C) "__getattribute__") (some (.builtin "BaseException.__getattribute__")):=looks_findIn X hg;have LH:Looks (model prog w) h (typeLookup (.ref C) "__getattr__") none:=looks_findIn X hh;have f3:=ve (.ref a);unfold getAttrBy;refine wpAny_holding ?_
 repeat (first |(with_reducible refine wpAny_loadPart_at hx ?_;rw[hc]) | with_reducible refine LG.at ?_ | with_reducible refine LH.at ?_ | wp_step)
 refine qB X hx hc hm hb hf ?_;show wpAny (model prog w) A (handedOut (.ref C)) Q E _;exact handed_on rfl hq
theorem rQ{Q:Option Value->Shared->Prop}(X:K.In h)(hx:h.get? a=some o)(hc:o.cls=.ref C)(hm:mroIn K C (.type "object")=some true)(hb:mroIn K C (.type "BaseException")=some true)
  (hf:findIn K (.ref C) "__class__"=some (some (.builtin "object.__class__"))) (hg:findIn K (.ref C) "__getattribute__"=some (some (.builtin "BaseException.__getattribute__"))) (hh:findIn K (.ref C) "__getattr__"=some none)
  (hq:Q (some (.ref C)) ⟨h,g,d,t+1,os⟩):wpAny (model prog w) A (getAttr? (.ref a) "__class__") Q E ⟨h,g,d,t,os⟩:=by
 unfold getAttr? getAttrBy?
 repeat (any_goals (first | assumption | with_reducible apply zM X hx hc hm hb hf hg hh | wp_step))
end
structure eM (K:Frag) (C:Addr):Prop where
 ex:excIn K C [.type "ValueError",.type "Exception",.type "BaseException",.type "object"] "ValueError.__new__"=true
 ob:mroIn K C (.type "object")=some true
 be:mroIn K C (.type "BaseException")=some true
 ga:findIn K (.ref C) "__getattribute__"=some (some (.builtin "BaseException.__getattribute__"))
 gt:findIn K (.ref C) "__getattr__"=some none
 cl:findIn K (.ref C) "__class__"=some (some (.builtin "object.__class__"))
theorem eM.obj{K:Frag}{C:Addr}(c:eM K C):∃(dd:Option Addr) (cd:ClassData) (sl:Array (Option Value)),K.lookup C=some ⟨.type "type",dd,.cls cd,sl⟩:=by
 have q:=c.ex;unfold excIn at q;split at q
 ·rename_i dd cd sl ho;exact⟨dd,cd,sl,ho⟩
 ·cases q
theorem qV{K:Frag}{a C:Addr}(c:eM K C):KitX K (.ref a) (.ref C) (jF a C) where
 ty:=fun M h _ ⟨o,h1,h2⟩=>h2▸(Looks.ld h1).andThen .now
 it:=fun M h X _=>by
  obtain⟨dd,cd,sl,ho⟩:=c.obj;intro A' Q' E' s' k q;unfold isType loadHead;exact wpAny_bind (wpAny_loadPart (k _ _ (X _ _ ho)) (wpAny_pure q))
 ne:=fun h tp dd its n sl X htp=>by
  obtain⟨dd,cd,sl,ho⟩:=c.obj;refine Bool.eq_false_iff.mpr fun q=>?_;have e:C=tp:=Value.ref.inj (beq_iff_eq.mp q);subst e;have z:=(X _ _ ho).symm.trans htp;exact absurd (congrArg Obj.cls (Option.some.inj z)) (by show ¬Value.type "type"=Value.type "tuple";decide)
 ca:=fun {_ _ _ _ _ s} X ⟨o,h1,h2⟩ k=>by
  obtain⟨h,g,d,t,os⟩:=s;exact rQ X h1 h2 c.ob c.be c.cl c.ga c.gt k
end U
namespace U
open L2
section
variable {B:Bs}
def XL(K:PySem.W.Frag)(B:Bs)(E':XK')(E:XK):Prop:=∀c d H1' H1,E' c d H1'->HR K H1' H1->Ev B.1 B.2 H1' H1->E c d H1
section
variable {P:Program}{w:World}{K:PySem.W.Frag}{mg:Str->Option Value}{base:Heap}
theorem br{CX:CXT}{N:List Str}{qual:Str}{sc:Scope}{f:Addr}{cdv:Value}{A:Around}{outer:List Env}{s:Shared}{H:Hp}{E:XK}:Plain (jW CX P w K mg base N qual sc f cdv A outer s H E):=⟨rfl,rfl,rfl⟩
theorem okX{x qual:Str}{st:Stmt}{f:Addr}{fd:FuncData}{N ps:List Str}{k:Nat}{sp:Sp'}(F:Fun K x qual st f fd)(S:az N ps (ao st))(len:∀vs H Q E,sp vs H Q E->vs.length=ps.length)
  (hbody:∀(cdv:Value) (A:Around) (outer:List Env) (s:Shared) (H:Hp) (E:XK) (vs':List PV) (H':PHp) (Q':VK') (E':XK'),bP k (A.deeper (envOfC qual (ao st) s.heap.objs.size f cdv))->XL K (H',H) E' E->sp vs' H' Q' E' ->
   ∃t,gJ (jW (CXU P w) P w K mg base N qual (ao st) f cdv A outer s H E) (H',H) (dA st) t/\t (ends Q') (dY N vs') H'):aN P w K mg base (CXU P w) (k+1) f fd ps sp:=by
 obtain⟨oc,od,kV,doc,pm,an,cdv,ct,osl,rfl,lk,hcd⟩:=F.ex;refine wO lk hcd S (fun vs H Q E zz=>by obtain⟨vs',H',Q',E',r,hr,h,_⟩:=zz;rw[RPs.length _ r];exact len _ _ _ _ h) fun A outer s H vs Q E hr hsp=>?_;obtain⟨vs',H',Q',E',r,hh,h,k1,k2⟩:=hsp;obtain⟨t,ht,hq⟩:=hbody cdv A outer s H E vs' H' Q' E' hr k2 h;refine⟨_,ht,dY N vs',H',_,kX r hh,hq,?_,?_,?_,?_⟩
 ·rintro σ1' H1' σ1 H1 ⟨H3,sb,q⟩ s1 e1;exact k1 _ H3 _ H1 q (by simp[RP]) (s1.hp.sub sb) (e1.sub sb)
 ·rintro v' H1' v H1 ⟨H3,sb,q⟩ r1 s1 e1;exact k1 _ H3 _ H1 q r1 (s1.sub sb) (e1.sub sb)
 ·intro _ _ _ _ z;exact z.elim
 ·intro _ _ _ _ z;exact z.elim
end
section
variable {X:Cx}{k:Nat}{f C D:Addr}{fd:FuncData}{ps:List Str}{sp:Sp'}{E:XK}{E':XK'}{x m n:Str}{p np pos apos cpos:Pos}{e o:Expr}{es:List Expr}{ta:TE'}{t:TA'}
def Lv(X:Cx)(E:XK):Prop:=X.xe=fun e s'=>wpAny (model X.prog X.w) X.A (leaving X.env e) (fun _ s''=>CXU X.prog X.w X.outer X.H₀ X.s₀ E e s'') (fun e' s''=>CXU X.prog X.w X.outer X.H₀ X.s₀ E e' s'') s'
theorem sO(l:Lv X E):PassesOwn (model X.prog X.w) X.A X.env X.xe:=by rw[l];exact PassesOwn.leaving
theorem nR(l:Lv X E)(pl:Plain X):Passes (CXU X.prog X.w) X E:=fun pins σ H s e s' I c=>by
 obtain⟨a,C,T,H1,rfl,I1,x1,hE,_⟩:=jb I pl c;rw[l];exact vp I1 pl x1 hE
theorem oV{K:PySem.W.Frag}(hE:XL K B E' E){σ:L2.St}{H:Hp}{Q:VK}(h:low K B (ly sp E' t) σ H Q):qz (c7 K sp) [] E (l8 K B t) σ H Q:=by
 obtain⟨σ',H',Q',s,h,k⟩:=h;refine⟨σ',H',_,s,h,fun vs' H1' vs H1 h1 r1 s1 e1=>?_⟩;show c7 K sp (vs++[]) H1 Q E;rw[List.append_nil];exact⟨vs',H1',Q',E',r1,s1.hp,h1,fun v' H2' v H2 q r2 h2 e2=>k v' H2' v H2 q r2 (s1.kp e2 h2) (e1.trans e2),fun c d H2' H2 q h2 e2=>hE c d H2' H2 q h2 (s1.ev.trans e2)⟩
theorem bZ(l:Lv X E)(pl:Plain X)(hE:XL X.K B E' E)(F:aN X.prog X.w X.K X.mg X.base (CXU X.prog X.w) k f fd ps sp)(hr:bP k X.A)(hg:Gl X x)(hm:X.mg x=some (.ref f))(hk:PySem.W.keepIn X.K (.ref f)=true)(hb:Binds X.K fd ps [])
  (ha:PA' X B (e::es) t) (hdb:(x==("__debug__":Str))=false:=by decide) (he:starEach (e::es) X.env=(false,eval e X.env)::starEach es X.env:=by rfl) (hpl:(backTo pos (starEach es X.env)).any (·.1)=false:=by rfl) :
  PE' X B (.Call (.Name x p) (e::es) [] pos) (ly sp E' t):=aT (m3 F hr hg hm hk hb .nil (nR l pl) ha hdb he hpl) fun _ _ _ h=>oV hE h
theorem sf{K:PySem.W.Frag}{h:Heap}(KX:K.In h)(c:eM K C):∃(bm:List Value) (N:Addr) (nm q:Str) (bs:List Value) (hdct:Bool) (sn:List Str) (sub:List Value) (ab:Bool) (col:Option Bool) (dd:Option Addr) (k0 k1 k2 k3 k5:Option Value) (mN:Str->Option Value),
  h.get? C=some (excClassObj nm q C N bs bm hdct sn sub ab col dd k0 k1 k2 k3 k5 "ValueError.__new__")/\h.Ns N mN/\mN "__init__"=none/\OwnTail h [.type "ValueError",.type "Exception",.type "BaseException",.type "object"] bm:=by
 have q:=c.ex;unfold PySem.W.excIn at q;split at q
 ·rename_i dd cd sl ho;split at q
  ·rename_i C' bm k0 k1 k2 k3 n k5 hm hs;simp only[Bool.and_eq_true,beq_iff_eq,Bool.not_eq_true']at q;obtain⟨⟨⟨⟨⟨rfl,rfl⟩,hdel⟩,ht⟩,hok⟩,hni⟩:=q;obtain⟨nm,bs,mro,ns,qn,hd,sn,sub,ab,col,del⟩:=cd;dsimp only at hm hdel hok hni;subst hm hdel;have hsl:sl=#[k0,k1,k2,k3,some (.builtin "ValueError.__new__"),k5]:=by
    obtain⟨l⟩:=sl;simp only at hs;rw[hs]
   subst hsl;exact⟨bm,ns,nm,qn,bs,hd,sn,sub,ab,col,dd,k0,k1,k2,k3,k5,_,KX _ _ ho,.of_isNs (PySem.W.isNs_of_in KX hok),PySem.W.nsMap_none_of_in KX hok hni,PySem.W.tail_of_in KX ht⟩
  ·cases q
 ·cases q
def qC(C:Addr)(E':XK'):TS':=fun _ _ H=>E' (.ref C) none H
theorem dU{msg:Str}{j:Nat}{mp:Pos}(l:Lv X E)(pl:Plain X)(hE:XL X.K B E' E)(hc:X.calm=true)(c:eM X.K C)(hg:Gl X x)(hm:X.mg x=some (.ref C))(hdb:(x==("__debug__":Str))=false:=by decide) :
  PS' X B (.Raise (some (.Call (.Name x np) [.Constant (.str msg) j mp] [] cpos)) none pos) (qC C E'):=by
 intro pins s σ H Dn I ⟨σ',H',D',sr,h,dr⟩;have hE1:E (.ref C) none H:=hE _ _ H' H h sr.hp sr.ev;obtain⟨bm,N,nm,q,bs,hdct,sn,sub,ab,col,dd,k0,k1,k2,k3,k5,mN,hC,hN,hni,TL⟩:=sf I.mod.kin c;refine wpAny_Raise_call_subT (C:=C) (nm:=nm) (q:=q) (N:=N) (bs:=bs) (bm:=bm) (hdct:=hdct) (sn:=sn) (sub:=sub) (ab:=ab) (col:=col) (dd:=dd) (k0:=k0) (k1:=k1) (k2:=k2) (k3:=k3) (k5:=k5) PySem.F.excBase_ValueError (TL.hasType (by decide)) (I.ok.hd hc) rfl hni (eH I hg hm ⟨rfl,?_⟩ hdb);refine Calls.evalArgs_plain ?_;refine thn (bD (X:=X) sj b9 rfl cpos pins s σ H (fun vs H1=>vs=[.str msg]/\H1=H) I ⟨rfl,rfl⟩) fun us s2 ⟨vs,H1,I2,r,ev,eh⟩=>?_;subst ev;subst eh;have hl:us.length=1:=by rw[←r.length];rfl
 refine⟨rfl,by show us.length≤sizeLine;rw[hl];exact ah (by decide),I2.bk _ _ hC,hN.keeps I2.bk,TL.keeps I2.bk,fun h' a mx=>?_⟩;rw[l];exact mS I2 pl mx hE1
end
end
section
variable {B:Bs}
section
variable {X:Cx}{pins:List (Addr×Obj)}{σ:L2.St}{H:Hp}{s:Shared}{a C T:Addr}{fl:Value}
theorem name_goes{M:Model}{A:Around}{E:Value->Shared->Prop}{i:Nat}{n:Str}{pos:Pos}{Q:Unit->Shared->Prop}(I:Inv X pins σ H s)(hN:X.N.Nodup)(hi:X.N[i]?=some n)(hl:X.env.scope.names.lookup n=some .local)
  (h:∀s',Inv X pins (σ.set i none) H s'->Q () s'):wpAny M A (do bindName X.env n .none;unbindBehindTheSuite X.env n pos) Q E s:=by
 obtain⟨m,hn,hlo⟩:=id I.loc;have hcls:(X.env.scope.kind==.class||(X.env.scope.kind==.module&&X.env.locals !=X.env.globals))=false:=by rw[I.ok.kind];rfl
 refine wpAny_nameGoes_keeps hl hn hcls fun h' v hn' hs=>h _ ?_;obtain⟨oL,_,_,hoL,_⟩:=id hn;have cne:=I.cne;refine⟨I.ok,I.os,I.bare,⟨fun b o e n' hb hx=>?_,fun b o e n' hb hx=>?_,I.base.free,fun b o e hx=>?_,I.base.tups,I.base.frzs,I.base.tbls⟩,⟨_,hn',fun j y v' e1 e2 e3=>?_⟩,fun y c e=>?_,I.free,I.freeC,fun p hp=>?_,fun b ob e=>?_,by rw[List.length_set];exact I.len⟩
 ·exact(hs.2 b (Nat.ne_of_lt (Nat.lt_of_lt_of_le (Heap.lt_size e) I.ok.above))).trans (I.base.keep b o e n' hb hx)
 ·obtain⟨sl,e1⟩:=I.base.slot b o e n' hb hx;exact⟨sl,(hs.2 b (Nat.ne_of_lt (Nat.lt_of_lt_of_le (Heap.lt_size e) I.ok.above))).trans e1⟩
 ·obtain⟨o',e1⟩:=I.base.there b o e hx;exact⟨o',(hs.2 b (Nat.ne_of_lt (Nat.lt_of_lt_of_le (Heap.lt_size e) I.ok.above))).trans e1⟩
 ·by_cases hj:j=i
  ·subst hj;by_cases hlt:j<σ.length
   ·rw[List.getElem?_set_self hlt]at e2;cases e2
   ·rw[List.getElem?_eq_none (by simpa using Nat.le_of_not_lt hlt)]at e2;cases e2
  ·rw[List.getElem?_set_ne (Ne.symm hj)]at e2;obtain⟨u',r',q⟩:=hlo j y v' e1 e2 e3;refine⟨u',r',?_⟩;rcases q with⟨k,e⟩ |⟨k,c,e,z⟩
   ·refine .inl ⟨k,?_⟩;have:y≠n:=fun e=>hj (ir hN e1 (e▸hi));simp[this,e]
   ·exact .inr ⟨k,c,e,z.sameBut hs (cne y c e)⟩
 ·obtain⟨w',z⟩:=I.cell y c e;exact⟨w',z.sameBut hs (cne y c e)⟩
 ·obtain⟨e,n',ne,nf,d⟩:=I.pin p hp;exact⟨(hs.2 p.1 ne).trans e,n',ne,nf,d⟩
 ·refine(I.hok b ob e).stay (fun c w' hc q=>(hs.2 c ?_).trans q) (fun _ q=>q) fun _ _ q=>q;rintro rfl;rcases hc with rfl | hc
  ·rw[I.free]at e;cases e
  ·rw[I.free]at hc;cases hc
theorem uf(I:Inv X pins σ H s)(x:XAt X pins H s a C T fl):Inv X pins σ (upd H a (.ext (jF a C))) s:=by
 obtain⟨oe,vs,oT,ts,a0,e1,e2,e3,e4,e5,e7,e8,e9,e10⟩:=x.fly;have hL:X.env.locals≠a:=by
  rintro rfl;obtain⟨m,⟨o,es,ep,ho,hd,_⟩,_⟩:=I.loc;rw[e1]at ho;cases ho;rw[e4]at hd;cases hd
 refine⟨I.ok,I.os,I.bare,⟨I.base.keep,I.base.slot,fun b o e n hx=>?_,I.base.there,fun b xs e=>?_,fun b o u e=>?_,fun b ps e=>?_⟩,I.loc,I.cell,?_,fun y c e=>?_,fun p hp=>?_,fun b ob e=>?_,I.len⟩
 ·rw[aD (fun z=>by subst z;rw[x.na]at e;cases e)];exact I.base.free b o e n hx
 ·have:=I.base.tups b xs e;rw[aD (aK this x.ha)];exact this
 ·have:=I.base.frzs b o u e;rw[aD (aK this x.ha)];exact this
 ·obtain⟨more,this⟩:=I.base.tbls b ps e;exact⟨more,by rw[aD (aK this x.ha)];exact this⟩
 ·rw[aD hL];exact I.free
 ·refine(aD ?_).trans (I.freeC y c e);rintro rfl;obtain⟨v,o,ho,hd⟩:=I.cell y c e;rw[e1]at ho;cases ho;rw[e4]at hd;cases hd
 ·obtain⟨e,n,ne,nf,d⟩:=I.pin p hp;exact⟨e,by rw[aD (x.pin p hp).1];exact n,ne,nf,d⟩
 ·by_cases hb:b=a
  ·subst hb;rw[a8]at e;cases e;exact⟨⟨oe,e1,e2⟩,⟨oe,e1⟩,fun h1 h2 ⟨o,q1,q2⟩ k=>⟨o,k o q1,q2⟩⟩
  ·rw[aD hb]at e;exact(I.hok b ob e).stay (fun _ _ _ q=>q) (fun c q=>by rw[aD (aK q x.ha)];exact q) fun c xs q=>by rw[aD (aK q x.ha)];exact q
abbrev mk(X:Cx)(e:Value):Cx:={ X with A:=X.A.mark (some e),calm:=false,xe:=fun _ _=>False }
theorem rA(I:Inv X pins σ H s)(e:Value):Inv (mk X e) pins σ H s :=
 ⟨⟨I.ok.mod,I.ok.kind,I.ok.glob,I.ok.blt,I.ok.above,I.ok.inj,I.ok.has,I.ok.cab,(fun z=>by cases z),I.ok.frames,I.ok.stk,I.ok.exf,I.ok.bs,I.ok.bsz,I.ok.noex,I.ok.exfs,I.ok.funs,I.ok.frf⟩,I.os,I.bare,I.base,I.loc,I.cell,I.free,I.freeC,I.pin,I.hok,I.len⟩
theorem rb{e:Value}(ok:X.Ok)(I:Inv (mk X e) pins σ H s):Inv X pins σ H s:=⟨ok,I.os,I.bare,I.base,I.loc,I.cell,I.free,I.freeC,I.pin,I.hok,I.len⟩
theorem tK(pl:Plain X)(e:Value):Plain (mk X e):=⟨pl.ex,pl.stk,pl.fr⟩
open PySem.W in
theorem iz{M:Model}{A:Around}{E:Value->Shared->Prop}{D:Addr}{b:Bool}{Q:Bool->Shared->Prop}(KX:X.K.In s.heap)(cD:eM X.K D)(hm:mroIn X.K C (.ref D)=some b)(x:∃o,s.heap.get? a=some o/\o.cls=.ref C)
  (h:Q b s):wpAny M A (excMatches (.ref a) (.ref D)) Q E s:=by
 obtain⟨oe,he,hcls⟩:=x;obtain⟨bm,N,nm,q,bs,hdct,sn,sub,ab,col,dd,k0,k1,k2,k3,k5,mN,hC,hN,hni,TL⟩:=sf KX cD;have hcB:(Value.ref D::bm).contains (.type "BaseException")=true:=by rw[List.contains_cons,TL.hasType (X:="BaseException") (b:=true) (by decide),Bool.or_true]
 have LS:Looks M s.heap (isSubtype (.ref C) (.ref D)) b:=looks_mroIn KX hm;have f:=tc_notTuple;obtain⟨hp,g,d,t,os⟩:=s;unfold excMatches
 repeat (first |(with_reducible refine wpAny_loadPart_at he ?_;rw[hcls]) | with_reducible refine wpAny_loadPart_at hC ?_ |(with_reducible refine wpAny_isSubtype_exc hC ?_;rw[hcB]) | with_reducible refine LS.at ?_ | wp_step)
 cases b with
 | true=>wp_walk;exact h
 | false=>wp_walk;exact h
end
end
section
variable {B:Bs}
abbrev TX':=St'->PHp->VK'->XK'->Prop
abbrev gN:=cM->(St'->XK')->St'->PHp->Prop
structure mU (X:Cx) (B:Bs) (pins:List (Addr × Obj)) (σ':St') (H':PHp) (H:Hp) (E':XK') (σ1:L2.St) (a:Addr) (s1:Shared):Prop where
 ex:∃H1' H1 C T,Inv X pins σ1 H1 s1/\XAt X pins H1 s1 a C T .none/\SR X.K B σ' H1' σ1 H1/\Ev H' H H1' H1/\E' (.ref C) none H1'
def PXE(X:Cx)(B:Bs)(e:Expr)(t:TX'):Prop:=∀(Ex:Value->Shared->Prop) (pins:List (Addr×Obj)) (s:Shared) (σ:L2.St) (H:Hp) (Q:VK) (σ':St') (H':PHp) (Q':VK') (E':XK'),Inv X pins σ H s->SR X.K B σ' H' σ H->t σ' H' Q' E' ->
 (∀v' H1' v H1,Q' v' H1'->RP X.K H1 v' v->SR X.K B σ' H1' σ H1->Ev H' H H1' H1->Q v H1)->(∀a s1,mU X B pins σ' H' H E' σ a s1->Ex (.ref a) s1)->wpAny (model X.prog X.w) X.A (eval e X.env) (EP X pins σ Q) Ex s
def PSX(X:Cx)(B:Bs)(st:Stmt)(t:gN):Prop:=∀(Ex:Value->Shared->Prop) (pins:List (Addr×Obj)) (s:Shared) (σ:L2.St) (H:Hp) (D:Ends) (σ':St') (H':PHp) (D':cM) (E':St'->XK'),Inv X pins σ H s->SR X.K B σ' H' σ H->t D' E' σ' H'->DR X.K B D' D H' H ->
 (∀σ1' σ1 a s1,mU X B pins σ1' H' H (E' σ1') σ1 a s1->Ex (.ref a) s1)->wpAny (model X.prog X.w) X.A (exec st X.env) (SP X pins D) Ex s
def t8(X:Cx)(B:Bs)(sts:List Stmt)(t:gN):Prop:=∀(Ex:Value->Shared->Prop) (pins:List (Addr×Obj)) (s:Shared) (σ:L2.St) (H:Hp) (D:Ends) (σ':St') (H':PHp) (D':cM) (E':St'->XK'),Inv X pins σ H s->SR X.K B σ' H' σ H->t D' E' σ' H'->DR X.K B D' D H' H ->
 (∀σ1' σ1 a s1,mU X B pins σ1' H' H (E' σ1') σ1 a s1->Ex (.ref a) s1)->wpAny (model X.prog X.w) X.A (execs sts X.env) (SP X pins D) Ex s
section
variable {X:Cx}{k:Nat}{f C D:Addr}{fd:FuncData}{ps:List Str}{sp:Sp'}{x m n:Str}{p np pos apos cpos:Pos}{e o:Expr}{es:List Expr}{ta:TE'}{t:TA'}
theorem sQ{α:Type}{A:Around}{tr:Sem α}{Q:α->Shared->Prop}{Ex:Value->Shared->Prop}{M:Model}{s:Shared}(h:wpAny M A tr Q (fun _ _=>False) s):wpAny M A tr Q Ex s:=wpAny_mono h (fun _ _ q=>q) fun _ _ z=>z.elim
theorem mU.later{pins:List (Addr×Obj)}{σ':St'}{H' H1':PHp}{H H1:Hp}{E':XK'}{σ1:L2.St}{a:Addr}{s1:Shared}(c:mU X B pins σ' H1' H1 E' σ1 a s1)(e:Ev H' H H1' H1):mU X B pins σ' H' H E' σ1 a s1:=by
 obtain⟨H2',H2,C,T,i,x,s,v,q⟩:=c.ex;exact⟨H2',H2,C,T,i,x,s,e.trans v,q⟩
theorem Ey{pins:List (Addr×Obj)}{σ:L2.St}{H:Hp}{s:Shared}{Q:VK}{us:List Value}{vs:List V}{Ex:Value->Shared->Prop}{σ':St'}{H':PHp}{vs':List PV}{Q':VK'}{E':XK'}(pl:Plain X)
  (F:aN X.prog X.w X.K X.mg X.base (CXU X.prog X.w) k f fd ps sp) (hr:bP k X.A) (hb:Binds X.K fd ps []) (I:Inv X pins σ H s) (sr:SR X.K B σ' H' σ H) (r:Vals vs us) (r':RPs X.K H vs' vs) (h:sp vs' H' Q' E')
  (hQ:∀v' H1' v H1,Q' v' H1'->RP X.K H1 v' v->SR X.K B σ' H1' σ H1->Ev H' H H1' H1->Q v H1) (hE:∀a s1,mU X B pins σ' H' H E' σ a s1->Ex (.ref a) s1) :
  wpAny (model X.prog X.w) X.A (call (.ref f) us) (EP X pins σ Q) Ex s:=by
 have hsp:c7 X.K sp vs H Q (fun c d H1=>∃H1',E' c d H1'/\HR X.K H1' H1/\Ev H' H H1' H1) :=
  ⟨vs',H',Q',E',r',sr.hp,h,fun v' H2' v H2 q r2 h2 e2=>hQ v' H2' v H2 q r2 (sr.kp e2 h2) e2,fun c d H2' H2 q h2 e2=>⟨H2',q,h2,e2⟩⟩
 have hl:(us++[]).length=ps.length:=by rw[List.append_nil,← r.length];exact F.len _ _ _ _ hsp
 have hb':=hb s us I.kIn hl;rw[List.append_nil]at hb';refine wpAny_call (codeAny_mono (F.run X.A X.stack s H ⟨us,[]⟩ us vs Q _ hr I.env0 hb' r hsp) fun r s' hq=>?_);cases r with
 | error e =>
  have hq':CXU X.prog X.w X.stack H s (fun c d H1=>∃H1',E' c d H1'/\HR X.K H1' H1/\Ev H' H H1' H1) e s':=hq;obtain⟨a,C,T,H1,rfl,I1,x1,⟨H1',q,h1,e1⟩,_⟩:=jb I pl hq';exact hE a s' ⟨H1',H1,C,T,I1,x1,sr.kp e1 h1,e1,q⟩
 | ok fl =>
  cases fl with
  | ret u=>exact I.after hq
  | next=>exact False.elim hq
  | brk=>exact False.elim hq
  | cont=>exact False.elim hq
def wz(sp:Sp')(t:TA'):TX':=fun σ H Q E=>t σ H fun vs H1=>sp vs H1 Q E
theorem oh(pl:Plain X)(F:aN X.prog X.w X.K X.mg X.base (CXU X.prog X.w) k f fd ps sp)(hr:bP k X.A)(hg:Gl X x)(hm:X.mg x=some (.ref f))(hk:PySem.W.keepIn X.K (.ref f)=true)(hb:Binds X.K fd ps [])
  (ha:PA' X.nox B (e::es) t) (hdb:(x==("__debug__":Str))=false:=by decide) (he:starEach (e::es) X.env=(false,eval e X.env)::starEach es X.env:=by rfl) (hpl:(backTo pos (starEach es X.env)).any (·.1)=false:=by rfl) :
  PXE X B (.Call (.Name x p) (e::es) [] pos) (wz sp t):=by
 intro Ex pins s σ H Q σ' H' Q' E' I sr h hQ hE;refine wpAny_Call_Name_kw (eH I hg hm ?_ hdb);have hA:=ha pos pins s σ H (fun vs H1=>∃vs' H1',RPs X.K H1 vs' vs/\SR X.K B σ' H1' σ H1/\Ev H' H H1' H1/\sp vs' H1' Q' E') (I.wish _) ⟨σ',H',_,sr,h,fun vs' H1' vs H1 q r s1 e1=>⟨vs',H1',r,s1,e1,q⟩⟩;refine PySem.W.callWith_K (h₀:=X.base) I.ok.mod.kin hk (thn (sQ hA) fun us s1 ⟨vs,H1,I1,r,vs',H1',r',s1',e1,q⟩=>⟨I1.kIn,?_⟩) he hpl;exact Ey pl F hr hb I1.unwish s1' r r' q (fun v' H2' v H2 q r2 s2 e2=>hQ v' H2' v H2 q r2 s2 (e1.trans e2)) fun a s2 c=>hE a s2 (c.later e1)
def EF(i:Nat)(t:TX'):gN:=fun D E σ H=>t σ H (fun v H1=>D.nx (σ.set i (some v)) H1) (E σ)
def wU(t:TX'):gN:=fun D E σ H=>t σ H (fun _ H1=>D.nx σ H1) (E σ)
theorem nU{tx:TX'}(he:PXE X B e tx)(hs:swapsWith e none pos.line X.env=pure false:=by rfl):PSX X B (.Expr e pos) (wU tx):=by
 intro Ex pins s σ H D σ' H' D' E' I sr h dr hE;refine wpAny_Expr_any (thn (he Ex pins s σ H (fun v H1=>∃v' H1',D'.nx σ' H1'/\RP X.K H1 v' v/\SR X.K B σ' H1' σ H1/\Ev H' H H1' H1) σ' H' _ (E' σ') I sr h (fun v' H1' v H1 q r s1 e1=>⟨v',H1',q,r,s1,e1⟩) fun a s1 c=>hE σ' σ a s1 c) fun v s1 ⟨y,H1,I1,r1,v',H1',q,r,s1',e1⟩=>?_) I.quiet hs;exact⟨σ,H1,I1,dr.nx _ _ _ _ q s1' e1⟩
def EH(t u:gN):gN:=fun D E σ H=>t { D with nx:=u D E } E σ H
theorem jK{st:Stmt}{ts:gN}(h:PSX X B st ts):t8 X B [st] ts:=by
 intro Ex pins s σ H D σ' H' D' E' I sr ht dr hE;refine wpAny_execs_cons (thn (h Ex pins s σ H D σ' H' D' E' I sr ht dr hE) fun f s1 q=>?_);cases f with
 | next=>exact wpAny_execs_nil q
 | _=>exact q
def xIf(c:TT')(t u:gN):gN:=fun D E σ H=>c σ H fun b H1=>cif b (t D E σ H1) (u D E σ H1)
theorem AA{c:Expr}{l1 l2:List Stmt}{tA:TT'}{ts us:gN}(hc:PT' X.nox B c tA)(ha:t8 X B l1 ts)(hb:t8 X B l2 us):PSX X B (.If c l1 l2 pos) (xIf tA ts us):=by
 intro Ex pins s σ H D σ' H' D' E' I sr ht dr hE;refine wpAny_If (thn (sQ (hc pins s σ H (fun b H1=>∃H1',cif b (ts D' E' σ' H1') (us D' E' σ' H1')/\SR X.K B σ' H1' σ H1/\Ev H' H H1' H1) (I.wish _) ⟨σ',H',_,sr,ht,fun b H1' H1 q s1 e1=>⟨H1',q,s1,e1⟩⟩)) fun b s1 ⟨H1,I1,H1',q,s1',e1⟩=>?_);cases b with
 | true=>exact ha Ex pins s1 σ H1 D σ' H1' D' E' I1.unwish s1' q (dr.ev _ _ e1) fun σ2' σ2 a s2 c=>hE σ2' σ2 a s2 (c.later e1)
 | false=>exact hb Ex pins s1 σ H1 D σ' H1' D' E' I1.unwish s1' q (dr.ev _ _ e1) fun σ2' σ2 a s2 c=>hE σ2' σ2 a s2 (c.later e1)
def Ax(K:PySem.W.Frag)(D:Addr)(t:gN)(i j:Nat):TS':=fun Dn σ H=>t Dn (fun σ1 c d H1=>∃C,c=.ref C/\(eM K C/\PySem.W.mroIn K C (.ref D)=some true)/\∀a,H1 a=none->Dn.nx (((σ1.set i (some (.ref a))).set j (some (.ref a))).set i none) (put H1 a (.exc C))) σ H
theorem xj{body:List Stmt}{tb:gN}{i j:Nat}{z:Str}{zp n2 ap hp:Pos}(pl:Plain X)(hN:X.N.Nodup)(hi:X.N[i]?=some n)(hj:X.N[j]?=some z)(hln:X.env.scope.names.lookup n=some .local)(hlz:X.env.scope.names.lookup z=some .local)
  (cD:eM X.K D) (hg:Gl X x) (hm:X.mg x=some (.ref D)) (hb:t8 X B body tb)
  (hdb:(x==("__debug__":Str))=false:=by decide) (hnd:(n==("__debug__":Str))=false:=by decide) (hncd:(n==("__classdict__":Str))=false:=by decide)
  (hsw:swapsWith (.Name n n2) (some (.Name z zp)) ap.line X.env=pure false:=by rfl) :
  PS' X B (.Try body [.ExceptHandler (some (.Name x np)) (some n) [.Assign [.Name z zp] (.Name n n2) ap] hp] [] [] pos) (Ax X.K D tb i j):=by
 intro pins s σ H Dn I ⟨σ',H',D',sr,h,dr⟩;refine wpAny_Try_except (wpAny_mono (hb (fun e s₁=>wpAny (model X.prog X.w) X.A (noteFrame e X.env) (fun _ s₂=>wpAny (model X.prog X.w) X.A (setFlight e none) (fun _ s₃=>wpAny (model X.prog X.w) X.A (handleBy e X.env [.ExceptHandler (some (.Name x np)) (some n) [.Assign [.Name z zp] (.Name n n2) ap] hp]) (SP X pins Dn) X.xe s₃) X.xe s₂) X.xe s₁)
  pins s σ H Dn σ' H' D' _ I sr h dr ?_) (fun f s₁ q=>?_) fun _ _ q=>q)
 ·rintro σ1' σ1 a s1 ⟨H1',H1,C,T,I1,x1,sr1,e1,C',ec,⟨cC,hmC⟩,hn⟩;cases ec;refine xa I1 pl x1 fun h2 T2 I2 x2=>?_;refine rZ I2 pl x2 fun h3 T3 I3 x3=>?_;obtain⟨oe,vs,oT,ts,a0,q1,q2,_⟩:=id x3.fly;refine wpAny_handleBy_cons (codeAny_handlers_test (eH (rA I3 (.ref a)) hg hm ?_ hdb)) (by intro q;cases q);refine iz (X:=X) I3.kIn cD hmC ⟨oe,q1,q2⟩ ?_;show codeAny _ _ (.handlers (.ref a) [.ExceptHandler none (some n) [.Assign [.Name z zp] (.Name n n2) ap] hp] X.env) _ _;refine codeAny_handlers_suite_as ?_;refine rZ (X:=mk X (.ref a)) (rA I3 (.ref a)) (tK pl _) (T:=T3) (fl:=.none) ⟨x3.fly,x3.ha,x3.hT,x3.na,x3.nT,x3.pin⟩ fun h4 T4 I4 x4=>?_;have I5:=uf I4 x4;refine iJ (X:=mk X (.ref a)) (v:=.ref a) I5 hN hi (Or.inl hln) rfl (fun s5 I6=>?_) (.inr hln);have ps:=m9 (sg (X:=mk X (.ref a)) (pos:=ap) (i:=j) hN hj (Or.inl hlz) (qr (pos:=n2) hi (Or.inl hln) hnd hncd) hsw (.inr hlz));have hiσ:i<σ1.length:=by rw[I1.len];exact(List.getElem?_eq_some_iff.mp hi).1
  refine sQ (thn (ps pins s5 _ _ { nx:=fun σ6 H6=>σ6=(σ1.set i (some (.ref a))).set j (some (.ref a))/\H6=upd H1 a (.ext (jF a C)),rt:=fun _ _=>False } I6 ⟨.ref a,List.getElem?_set_self hiσ,rfl,rfl⟩) fun f s6 q=>?_);cases f with
  | next =>
   obtain⟨σ6,H6,I7,rfl,rfl⟩:=q;show wpAny _ X.A (do bindName X.env n .none;unbindBehindTheSuite X.env n hp) _ _ _;refine name_goes (rb I.ok I7) hN hi hln fun s7 I8=>?_;refine⟨_,_,I8,dr.nx _ _ _ _ (hn a (sr1.hp.free x1.ha)) ?_ (e1.trans (Ev.new x1.ha))⟩;have srn:SR X.K B σ1' (put H1' a (.exc C)) σ1 (upd H1 a (.ext (jF a C))):=sr1.new x1.ha (a8);have r:RP X.K (upd H1 a (.ext (jF a C))) (.ref a) (.ref a):=by simp[RP]
   have sr2:=(srn.set r i).set r j;refine⟨by simp[sr2.len],fun k v' ek=>?_,sr2.hp,sr2.ev⟩;by_cases hk:i=k
   ·subst hk;by_cases hlt:i<σ1'.length
    ·rw[List.getElem?_set_self (by simpa using hlt)]at ek;cases ek
    ·rw[List.getElem?_eq_none (by simpa using Nat.le_of_not_lt hlt)]at ek;cases ek
   ·rw[List.getElem?_set_ne hk]at ek ⊢;exact sr2.loc k v' ek
  | ret v=>obtain⟨_,_,_,_,_,z⟩:=q;exact z.elim
  | brk=>obtain⟨_,_,_,z⟩:=q;exact z.elim
  | cont=>obtain⟨_,_,_,z⟩:=q;exact z.elim
 ·cases f with
  | next=>exact wpAny_execs_nil q
  | ret v=>exact q
  | brk=>exact q
  | cont=>exact q
def wq(K:PySem.W.Frag)(D:Value)(x:PV)(H:PHp)(Q:VK'):Prop:=match x with
 | .ref a=>∃C b,H a=some (.exc C)/\eM K C/\PySem.W.kitOne K (.ref C) D=some b/\Q (.bl b) H
 | _=>False
def aV(K:PySem.W.Frag)(D:Value)(ta:TE'):TE':=fun σ H Q=>ta σ H fun x H1=>wq K D x H1 Q
theorem kN{dv:V}(Dv:Value)(hD:∀u,RelV dv u->u=Dv):cf X (.builtin "isinstance") (fun xs H Q=>∃a C b,xs=[.ref a,dv]/\H a=some (.ext (jF a C))/\eM X.K C/\PySem.W.kitOne X.K (.ref C) Dv=some b/\Q (.bl b) H):=by
 intro pins s σ H xs us Q I r h;obtain⟨a,C,b,rfl,ha,c,k,q⟩:=h;obtain⟨u,w',rfl,rx,rc⟩:=vals2 r;have e1:w'=Dv:=hD _ rc;subst e1;cases rx;obtain⟨ph,_,_⟩:=(show bV X.prog X.w H s.heap a (.ext (jF a C))from I.hok a _ ha);exact PySem.W.kia_one (qV c) I.kIn ph k (fun z=>nomatch z) fun tk=>⟨.bl b,H,I.tok _,rfl,q⟩
theorem oj{K:PySem.W.Frag}{dv':PV}{dv:V}{Dv:Value}(rd:∀H,RP K H dv' dv){σ:L2.St}{H:Hp}{Q:VK}(h:low K B (aV K Dv ta) σ H Q) :
  tCB (fun xs H Q=>∃a C b,xs=[.ref a,dv]/\H a=some (.ext (jF a C))/\eM K C/\PySem.W.kitOne K (.ref C) Dv=some b/\Q (.bl b) H) (si (low K B ta) (si (tC dv) Aw)) σ H Q:=by
 obtain⟨σ',H',Q',s,h,k⟩:=h;refine⟨σ',H',_,s,h,fun x' H1' x H1 h1 rx s1 e1=>?_⟩;cases x' with
 | ref a =>
  obtain⟨C,b,ea,c,kk,q⟩:=h1;simp only[RP]at rx;subst rx;exact⟨a,C,b,rfl,s1.hp _ _ ea,c,kk,k _ _ _ _ q (by simp[RP]) s1 e1⟩
 | _=>exact h1.elim
theorem bz{pD:Pos}(hm:X.mg x=some (.ref D))(hgD:Gl X x)(hg:Gl X "isinstance")(hi:X.mg "isinstance"=none)(ha:PE' X B e ta)(hdb:(x==("__debug__":Str))=false:=by decide)
  (he:starEach [e,.Name x pD] X.env=(false,eval e X.env)::starEach [.Name x pD] X.env:=by rfl) (he2:starEach [.Name x pD] X.env=(false,eval (.Name x pD) X.env)::starEach [] X.env:=by rfl) (hpl:(backTo pos (starEach [.Name x pD] X.env)).any (·.1)=false:=by rfl) :
  PE' X B (.Call (.Name "isinstance" p) [e,.Name x pD] [] pos) (aV X.K (.ref D) ta) :=
 aT (cE (kN (dv:=.ref D) (.ref D) fun u r=>r) hg hi boot_isinstance (bD ha (bD (nO hgD hm (v:=.ref D) rfl hdb) b9 he2) he) (by decide) (by decide) he hpl) fun _ _ _ h=>oj (dv':=.ref D) (fun _=>by simp[RP]) h
theorem u9{pD:Pos}{T:String}(hm:X.mg x=none)(hv:bootBuiltins x=some (.type T))(hgD:Gl X x)(hg:Gl X "isinstance")(hi:X.mg "isinstance"=none)(ha:PE' X B e ta)(hdb:(x==("__debug__":Str))=false:=by decide)(hxn:x≠"__name__":=by decide)
  (he:starEach [e,.Name x pD] X.env=(false,eval e X.env)::starEach [.Name x pD] X.env:=by rfl) (he2:starEach [.Name x pD] X.env=(false,eval (.Name x pD) X.env)::starEach [] X.env:=by rfl) (hpl:(backTo pos (starEach [.Name x pD] X.env)).any (·.1)=false:=by rfl) :
  PE' X B (.Call (.Name "isinstance" p) [e,.Name x pD] [] pos) (aV X.K (.type T) ta) :=
 aT (cE (kN (dv:=.ty T) (.type T) fun u r=>r) hg hi boot_isinstance (bD ha (bD (uq hgD hm hv (v:=.ty T) rfl hxn hdb) b9 he2) he) (by decide) (by decide) he hpl) fun _ _ _ h=>oj (dv':=.oth (.ty T)) (fun _=>by simp[RP]) h
end
end
section
def pr(p:Str×Bool):PV:=.tup [.str p.1,.bl p.2]
def told(xs:List (Str×Bool)):List PV:=(xs.filter (·.2)).map fun p=>PV.str p.1
end
section
def IsV(σ:St')(H:PHp)(te:TE')(b:Bool):Prop:=∀Q:VK',Q (.bl b) H->te σ H Q
theorem av{K:PySem.W.Frag}{D:Value}{a C:Addr}{σ:St'}{H:PHp}{b:Bool}(ha:H a=some (.exc C))(c:eM K C)(k:PySem.W.kitOne K (.ref C) D=some b):IsV (some (.ref a)::σ) H (aV K D (aR 0)) b :=
 fun Q h=>(⟨C,b,ha,c,k,h⟩:wq K D (.ref a) H Q)
theorem kg{σ:St'}{H:PHp}{te:TE'}{b:Bool}(h:IsV σ H te b):IsV σ H (ji te) (!b):=fun Q q=>h _ q
def jQ:List (Str×TE')->TA'
 | []=>vF
 |(n,te)::r=>lF (xV (lF (uC (.str n)) (lF te vF))) (jQ r)
def x6(σ:St')(H:PHp):List (Str×TE')->List Bool->Prop
 | [],[]=>True
 |(_,te)::r,b::bs=>IsV σ H te b/\x6 σ H r bs
 | _,_=>False
def pairs:List (Str×TE')->List Bool->List PV
 |(n,_)::r,b::bs=>.tup [.str n,.bl b]::pairs r bs
 | _,_=>[]
theorem kD{σ:St'}{H:PHp}:∀{l:List (Str×TE')} {bs:List Bool} {Q:List PV->PHp->Prop},x6 σ H l bs->Q (pairs l bs) H->jQ l σ H Q
 | [],[],Q,_,q=>q
 |(n,te)::r,b::bs,Q,⟨h,hr⟩,q=>by
  have s2:(2:Nat)≤sizeLine:=ah (by decide);show te σ H fun v H1=>_;refine h _ ?_;refine⟨s2,?_⟩;exact kD (Q:=fun vs H'=>Q (.tup [.str n,.bl b]::vs) H') hr q
theorem pairs_len:∀(l:List (Str×TE')) (bs:List Bool),(pairs l bs).length≤l.length
 | [],bs=>by cases bs<;>simp[pairs]
 | _::_,[]=>by simp[pairs]
 |(n,te)::r,b::bs=>by simpa[pairs]using pairs_len r bs
end
end U
namespace U
theorem len0{P:List Value->Prop}(h:P [])(us:List Value)(hl:us.length=0):P us:=by
 cases us with
 | nil=>exact h
 | cons a r=>exact absurd hl (Nat.succ_ne_zero _)
theorem Ag{P:List Value->Prop}(h:∀a,P [a])(us:List Value)(hl:us.length=1):P us:=by
 cases us with
 | nil=>exact absurd hl.symm (Nat.succ_ne_zero _)
 | cons a r=>exact len0 (P:=fun r=>P (a::r)) (h a) r (Nat.succ.inj hl)
theorem BZ{P:List Value->Prop}(h:∀a b,P [a,b])(us:List Value)(hl:us.length=2):P us:=by
 cases us with
 | nil=>exact absurd hl.symm (Nat.succ_ne_zero _)
 | cons a r=>exact Ag (P:=fun r=>P (a::r)) (h a) r (Nat.succ.inj hl)
theorem Bc{P:List Value->Prop}(h:∀a b c,P [a,b,c])(us:List Value)(hl:us.length=3):P us:=by
 cases us with
 | nil=>exact absurd hl.symm (Nat.succ_ne_zero _)
 | cons a r=>exact BZ (P:=fun r=>P (a::r)) (h a) r (Nat.succ.inj hl)
theorem DS{P:List Value->Prop}(h:∀a b c d,P [a,b,c,d])(us:List Value)(hl:us.length=4):P us:=by
 cases us with
 | nil=>exact absurd hl.symm (Nat.succ_ne_zero _)
 | cons a r=>exact Bc (P:=fun r=>P (a::r)) (h a) r (Nat.succ.inj hl)
end U
namespace U
open L2
variable {B:Bs}{X:Cx}
end U
namespace L2
section
def cS(X:Cx)(N2:List Str)(scope:Scope)(cl:List (Str×Addr))(s0:Shared)(H0:Hp)(fp:List Addr)(ps:List (Addr×Obj)):Cx :=
 { X with N:=N2,s₀:=s0,H₀:=H0,env:=compEnvC scope cl s0.heap.objs.size X.env,outer:=X.stack,stack:=X.stack,ex:=fp,fn:=fun x=>(cl.lookup x).isNone,pn:=ps,xe:=fun _ _=>False }
def kB(nt:Nat)(js:List Nat)(σ:St):St:=List.replicate nt none++js.map fun j=>(σ[j]?).join
theorem cj{env:Env}:∀{names:List (Str×NameKind)} {x:Str},names.lookup x=some .free ->
  (names.map fun(n,k)=>if (k==NameKind.free&&env.scope.kind==.function&&env.kindOf n==some .cell)then(n,NameKind.cell)else(n,k)).lookup x=some .cell ∨
  (names.map fun(n,k)=>if (k==NameKind.free&&env.scope.kind==.function&&env.kindOf n==some .cell)then(n,NameKind.cell)else(n,k)).lookup x=some .free
 | [],_,h=>by simp at h
 |(n,k)::r,x,h=>by
  have ih:=@cj env r x;show List.lookup x ((if (k==NameKind.free&&env.scope.kind==.function&&env.kindOf n==some .cell)=true then(n,NameKind.cell)else(n,k))::_)=_∨List.lookup x ((if (k==NameKind.free&&env.scope.kind==.function&&env.kindOf n==some .cell)=true then(n,NameKind.cell)else(n,k))::_)=_;cases hx:x==n with
  | true =>
   simp only[List.lookup_cons,hx]at h;cases h;by_cases hc:(NameKind.free==NameKind.free&&env.scope.kind==.function&&env.kindOf n==some .cell)=true
   ·rw[if_pos hc];simp[List.lookup_cons,hx]
   ·rw[if_neg hc];simp[List.lookup_cons,hx]
  | false =>
   simp only[List.lookup_cons,hx]at h;by_cases hc:(k==NameKind.free&&env.scope.kind==.function&&env.kindOf n==some .cell)=true
   ·rw[if_pos hc];simp only[List.lookup_cons,hx];exact ih h
   ·rw[if_neg hc];simp only[List.lookup_cons,hx];exact ih h
structure cg (X:Cx) (N2:List Str) (nt:Nat) (js:List Nat) (scope:Scope) (cl:List (Str × Addr)) (sc:Scope):Prop where
 clos:closureFor scope X.env=pure cl
 sub:∀x c,cl.lookup x=some c->X.env.cells.lookup x=some c
 xsc:X.env.scope=sc
 kind:scope.kind=.function
 nocell:∀y∈scope.names,y.2≠.cell
 loc:∀y∈scope.names,y.2=.local->scope.names.lookup y.1=some .local
 has:∀y∈scope.names,y.2=.free->y.1∈cl.map (·.1)
 frs:∀x∈N2.drop nt,scope.names.lookup x=some .free/\sc.names.lookup x=some .cell
 len:N2.length=nt+js.length
 pl:∀(k j:Nat),js[k]?=some j->X.N[j]?=N2[nt+k]?
theorem mem_lookup{α:Type}:∀{l:List (Str×α)} {x:Str},x∈l.map (·.1)->∃c,l.lookup x=some c
 | [],_,h=>by simp at h
 |(n,k)::r,x,h=>by
  cases hx:x==n with
  | true=>exact⟨k,by simp[List.lookup_cons,hx]⟩
  | false =>
   have h':x=n∨x∈r.map (·.1):=by simpa using h
   have hn:x≠n:=by intro e;subst e;simp at hx
   obtain⟨c,e⟩:=mem_lookup (h'.resolve_left hn);exact⟨c,by simp[List.lookup_cons,hx,e]⟩
theorem lookup_mem{α:Type}:∀{l:List (Str×α)} {x:Str} {c:α},l.lookup x=some c->(x,c)∈l
 | [],_,_,h=>by simp at h
 |(n,k)::r,x,c,h=>by
  cases hx:x==n with
  | true =>
   simp only[List.lookup_cons,hx]at h;have e:x=n:=by simpa using hx
   cases h;subst e;exact List.mem_cons_self
  | false =>
   simp only[List.lookup_cons,hx]at h;exact List.mem_cons_of_mem _ (lookup_mem h)
section
variable {X:Cx}{pins:List (Addr×Obj)}{σ:St}{H:Hp}{s:Shared}{N2:List Str}{nt:Nat}{js:List Nat}{scope sc:Scope}{cl:List (Str×Addr)}{fp:List Addr}
theorem cg.kindOf(O:cg X N2 nt js scope cl sc){x:Str}{C:Addr}(h:(compEnvC scope cl C X.env).kindOf x=some .cell∨(compEnvC scope cl C X.env).kindOf x=some .free):∃c,cl.lookup x=some c:=by
 have h':(relabel scope X.env).names.lookup x=some .cell∨(relabel scope X.env).names.lookup x=some .free:=h;have key:∀(k:NameKind),(relabel scope X.env).names.lookup x=some k->(k=.cell∨k=.free)->∃y∈scope.names,y.1=x/\(y.2=.cell∨y.2=.free):=fun k e hk=>by
  have m:=lookup_mem e;obtain⟨⟨n,k'⟩,hm,e'⟩:=List.mem_map.mp m;by_cases hc:(k'==NameKind.free&&X.env.scope.kind==.function&&X.env.kindOf n==some .cell)=true
  ·simp only[hc,if_true]at e';have e1:n=x:=congrArg Prod.fst e';refine⟨(n,k'),hm,e1,.inr ?_⟩;rw[Bool.and_eq_true,Bool.and_eq_true]at hc;exact beq_iff_eq.mp hc.1.1
  ·have e'':(n,k')=(x,k):=by
    dsimp only at e';rw[if_neg hc]at e';exact e'
   cases e'';exact⟨(x,k),hm,rfl,hk⟩
 obtain⟨y,hy,rfl,hk⟩:=h'.elim (fun e=>key _ e (.inl rfl)) fun e=>key _ e (.inr rfl);rcases hk with hk | hk
 ·exact absurd hk (O.nocell y hy)
 ·exact mem_lookup (O.has y hy hk)
theorem pZ(O:cg X N2 nt js scope cl sc)(I:Inv X pins σ H s)(hf:∀b∈fp,fj X pins H b)(hlt:∀b∈fp,b<s.heap.objs.size):(cS X N2 scope cl s H fp (X.pn++pins)).Ok where
 mod:=I.ok.mod
 kind:=O.kind
 glob:=I.ok.glob
 blt:=I.ok.blt
 above:=Nat.le_refl _
 inj:=fun x y c h1 h2=>I.ok.inj x y c (O.sub x c h1) (O.sub y c h2)
 has:=fun x h=>O.kindOf h
 cab:=fun x c h1 h2=>by
  have h1':(cl.lookup x).isNone=true:=h1;have h2':cl.lookup x=some c:=h2;rw[h2']at h1';cases h1'
 hd:=I.ok.hd
 frames:=I.ok.frames
 stk:=.inl rfl
 exf:=fun b hb=>⟨Nat.ne_of_lt (hlt b hb),fun x c e=>(hf b hb).2.2.2.2.1 x c (O.sub x c e)⟩
 bs:=I.bs
 bsz:=Nat.le_trans I.ok.bsz I.sz
 noex:=fun b o e hb=>by
  obtain⟨_,_,_,h3,_⟩:=hf b hb;rcases h3 with h3 | h3
  ·exact I.ok.noex b o e h3
  ·exact absurd (Nat.lt_of_lt_of_le (Heap.lt_size (I.ok.bs b o e).1) h3) (Nat.lt_irrefl _)
 exfs:=fun b hb hs=>by
  obtain⟨_,h1,h2,_⟩:=hf b hb;rcases List.mem_cons.mp (I.stkSub b hs)with e | e
  ·exact h1 e
  ·exact h2 e
 funs:=I.stack
 frf:=I.stkFree
theorem md(O:cg X N2 nt js scope cl sc)(I:Inv X pins σ H s)(hf:∀b∈fp,fj X pins H b)(hlt:∀b∈fp,b<s.heap.objs.size){h4:Heap}{t4:Nat}(hn:h4.Ns s.heap.objs.size fun _=>none)
  (hk:∀b o,s.heap.get? b=some o->h4.get? b=some o):Inv (cS X N2 scope cl s H fp (X.pn++pins)) [] (kB nt js σ) H { s with heap:=h4,toks:=t4 }:=by
 refine⟨pZ O I hf hlt,rfl,I.bare,Un.kept hk,⟨_,hn,fun i x v e1 e2 e3=>?_⟩,fun x c e=>?_,I.hok.fresh (Nat.le_refl _),fun x c e=>I.freeC x c (O.sub x c e),fun p hp=>?_,I.hok.kept hk,?_⟩
 ·unfold kB at e2;by_cases hi:i<nt
  ·rw[List.getElem?_append_left (by simpa using hi),List.getElem?_replicate]at e2;split at e2<;>cases e2
  ·obtain⟨k,rfl⟩:∃k,i=nt+k:=⟨i - nt,by omega⟩;rw[List.getElem?_append_right (by simp),List.length_replicate,Nat.add_sub_cancel_left,List.getElem?_map]at e2;cases ej:js[k]? with
   | none=>rw[ej]at e2;cases e2
   | some j =>
    rw[ej]at e2;have e2':(σ[j]?).join=some v:=Option.some.inj e2;have eσ:σ[j]?=some (some v):=by
     cases q:σ[j]? with
     | none=>rw[q]at e2';cases e2'
     | some o=>rw[q]at e2';exact congrArg some e2'
    have eN:X.N[j]?=some x:=(O.pl k j ej).trans e1;have hx:x∈N2.drop nt:=by
     have:(N2.drop nt)[k]?=some x:=by rw[List.getElem?_drop];exact e1
     exact List.mem_of_getElem? this
    obtain⟨f1,f2⟩:=O.frs x hx;have vis:Vis X.env.scope x:=.inr (.inl (by rw[O.xsc];exact f2));obtain⟨m,hnX,hl⟩:=I.loc;obtain⟨u,r,l⟩:=hl j x v eN eσ vis;refine⟨u,r,.inr ⟨?_,?_⟩⟩
    ·exact cj f1
    ·rcases l with⟨k1,_⟩ |⟨_,c,ec,ic⟩
     ·have k2:sc.names.lookup x=some .local:=by rw[←O.xsc];exact k1
      rw[f2]at k2;cases k2
     ·obtain⟨c',ec'⟩:=mem_lookup (O.has (x,.free) (lookup_mem f1) rfl);have:=O.sub x c' ec';rw[ec]at this;cases this;obtain⟨o,ho,hd⟩:=ic;exact⟨c,ec',o,hk _ _ ho,hd⟩
 ·obtain⟨v,o,ho,hd⟩:=I.cell x c (O.sub x c e);exact⟨v,o,hk _ _ ho,hd⟩
 ·have hp':p∈X.pn++pins:=by
   have hp2:p∈(X.pn++pins)++[]:=hp
   rwa [List.append_nil]at hp2
  obtain⟨e,n,ne,nf,d⟩:=I.pin p hp';refine⟨hk _ _ e,n,Nat.ne_of_lt (Heap.lt_size e),fun hb=>?_,d⟩;rcases List.mem_cons.mp (I.stkSub p.1 hb)with z | z
  ·exact ne z
  ·exact nf z
 ·unfold kB;show _=N2.length;rw[List.length_append,List.length_replicate,List.length_map,O.len]
theorem qM{σ':St}{H':Hp}{s':Shared}{pl:List (Addr×Obj)}(I:Inv X pins σ H s)(hf:∀b∈fp,fj X pins H b)(J:Inv (cS X N2 scope cl s H fp (X.pn++pins)) pl σ' H' s'):Inv X pins σ H' s' :=
 I.call' (ch:=fp) J.os J.base J.hok J.bare fun b hb=>by
  obtain⟨h0,h1,h2,h3,h4,h5⟩:=hf b hb;exact⟨h3,h1,h4,h5⟩
end
end
section
def PIf(Y:Cx)(ifs:List Expr)(t:TT):Prop :=
 ∀(pins:List (Addr×Obj)) (s:Shared) (σ:St) (H:Hp) (Q:Bool->Hp->Prop),Inv Y pins σ H s->t σ H Q ->
  wpAny (model Y.prog Y.w) Y.A (forIn ifs true fun c r=>if r=true then do let ok←isTrue c Y.env (eval c Y.env);pure (ForInStep.yield ok)else pure (ForInStep.yield r)) (TP Y pins σ Q) Y.xe s
def CF:TT:=fun _ H Q=>Q true H
theorem tX{Y:Cx}:PIf Y [] CF:=fun _ _ _ H _ I h=>wpAny_tests_nil ⟨H,I,h⟩
theorem ug{Y:Cx}{c:Expr}{t:TT}(h:PT Y c t):PIf Y [c] t:=fun pins s σ H Q I hw=>wpAny_tests_one (h pins s σ H Q I hw)
def wu(acc:Addr)(J:It)(g:TG)(tt:TT)(te:TE)(W:Nat->Nat->L2.St->Hp->Prop)(i m:Nat)(σ0:L2.St)(H:Hp):Prop :=
 J.go i H/\∀x H',J.yld i H x H'->g x σ0 H' fun σ3 H2=>tt σ3 H2 fun b H3 =>
  if b=true then te σ3 H3 fun y H4=>∃ys,H4 acc=some (.lst ys)/\ys.length<sizeLine/\∃m',m'<m/\W (i+1) m' σ3 (upd H4 acc (.lst (ys++[y])))
  else ∃m',m'<m/\W (i+1) m' σ3 H3
def oJ(nt:Nat)(js:List Nat)(wi:TI)(g:TG)(tt:TT)(te:TE):TE:=fun σ H Q=>wi σ H fun J H1=>∀acc,H1 acc=none ->
 ∃W:Nat->Nat->L2.St->Hp->Prop,(∃m,W 0 m (kB nt js σ) (upd H1 acc (.lst [])))/\∀i m σ0 H,W i m σ0 H->(J.stop i H/\Q (.ref acc) H)∨wu acc J g tt te W i m σ0 H
structure qU (Y:Cx) (tg:Expr) (ifs:List Expr) (elt:Expr) (g:TG) (tt:TT) (te:TE):Prop where
 tgt:PG Y tg g
 tst:PIf Y ifs tt
 elt:PE Y elt te
theorem jS{prog:Program}{w:World}{A:Around}{R:Result->Shared->Prop}{s:Shared}{elt target iter:Expr}{ifs:List Expr}{scope:Scope}{pos:Pos}{it acc:Value}{env:Env}(I:Nat->Shared->Prop)
  (turn:∀n s,I n s->wpAny (model prog w) A (pyNext it) (fun r s₁=>match r with
   | none=>R (.ok .next) s₁
   | some v=>wpAny (model prog w) A (letOwnedTupleGo target it v) (fun _ s₀=>wpAny (model prog w) A (assign target env v) (fun _ s₂ =>
     wpAny (model prog w) A (forIn ifs true fun c r=>if r=true then do let ok←isTrue c env (eval c env);pure (ForInStep.yield ok)else pure (ForInStep.yield r)) (fun ok s₃ =>
      if ok=true then wpAny (model prog w) A (eval elt env) (fun x s₄ =>
       wpAny (model prog w) A (call (.builtin "list.append") [acc,x]) (fun _ s₅=>∃m,m<n/\I m s₅) (fun _ _=>False) s₄) (fun _ _=>False) s₃
      else ∃m,m<n/\I m s₃) (fun _ _=>False) s₂) (fun _ _=>False) s₀) (fun _ _=>False) s₁) (fun _ _=>False) s)
  (n:Nat) (h:I n s) :
  codeAny (model prog w) A (.compLoop (.ListComp elt [⟨target,iter,ifs,0⟩] scope pos) 0 it acc env) R s:=by
 refine codeAny_loop rfl I (fun n s hI=>?_) n h;show wpAny _ A ((compTurn (.ListComp elt [⟨target,iter,ifs,0⟩] scope pos) 0 it acc env).onRaise (fun x=>do noteFrame x env;theTreesLotGoes x)) _ _ s;refine wpAny_noted ?_;rw[compTurn_list];refine wpAny_bind (wpAny_standAt (wpAny_bind (wpAny_mono (turn n s hI) (fun r s₁ h₁=>?_) fun _ _ h'=>h'.elim)));cases r with
 | none=>exact wpAny_pure h₁
 | some v =>
  refine wpAny_bind (wpAny_mono h₁ (fun _ s₀ h₀=>?_) fun _ _ h'=>h'.elim);refine wpAny_bind (wpAny_mono h₀ (fun _ s₂ h₂=>wpAny_bind (wpAny_mono h₂ (fun ok s₃ h₃=>?_) fun _ _ h'=>h'.elim)) fun _ _ h'=>h'.elim);cases ok with
  | false=>exact wpAny_pure ⟨rfl,h₃⟩
  | true =>
   exact wpAny_bind (wpAny_bind (wpAny_mono h₃ (fun x s₄ h₄=>wpAny_bind (wpAny_mono h₄ (fun _ s₅ h₅=>wpAny_pure (wpAny_pure ⟨rfl,h₅⟩)) fun _ _ h'=>h'.elim)) fun _ _ h'=>h'.elim))
section
variable {X:Cx}{pins:List (Addr×Obj)}{σ:St}{H:Hp}{s:Shared}{N2:List Str}{nt:Nat}{js:List Nat}{scope sc:Scope}{cl:List (Str×Addr)}{fp:List Addr}{elt iter tg:Expr}{ifs:List Expr}{pos:Pos}
 {wi:TI} {g:TG} {tt:TT} {te:TE}
theorem lO(O:cg X N2 nt js scope cl sc)(hc:X.calm=true)(B:∀(s0:Shared) (H0:Hp) (fp:List Addr) (ps:List (Addr×Obj)),qU (cS X N2 scope cl s0 H0 fp ps) tg ifs elt g tt te)
  {it:Addr} {tn:Nat->Heap->Prop} {J:It} {E:Value->Shared->Prop} {Q:VK} {RR:Value->Addr->Result->Shared->Prop}
  (I:Inv X pins σ H s) (T:Turn X.prog X.w X.K tg J fp it tn) (st:tn 0 s.heap) (hf:∀b∈fp,fj X pins H b)
  (h:∀acc,H acc=none->∃W:Nat->Nat->L2.St->Hp->Prop,(∃m,W 0 m (kB nt js σ) (upd H acc (.lst [])))/\∀i m σ0 H,W i m σ0 H->(J.stop i H/\Q (.ref acc) H)∨wu acc J g tt te W i m σ0 H)
  (hRR:∀(acc C:Addr) (s':Shared) (H':Hp) (m:Str->Option Value),s'.heap.Ns C m->Inv X pins σ H' s'->H' C=none->C≠X.env.locals->X.s₀.heap.objs.size≤C->(∀x c,X.env.cells.lookup x=some c->c≠C)->(∀p∈X.pn++pins,p.1≠C)->Q (.ref acc) H'->RR (.ref acc) C (.ok .next) s') :
  wpAny (model X.prog X.w) X.A (newList []) (fun acc s₃=>wpAny (model X.prog X.w) X.A (newFunctionEnv scope X.env.globals cl [] X.env.qual none .none (some X.env)) (fun cenv s₄ =>
   codeAny (model X.prog X.w) X.A (.compStart (.ListComp elt [⟨tg,iter,ifs,0⟩] scope pos) 0 (.ref it) acc { cenv with scope:=relabel scope X.env }) (RR acc cenv.locals) s₄) E s₃) E s:=by
 have hlt:∀b∈fp,b<s.heap.objs.size:=fun b hb=>by
  obtain⟨o,e,_⟩:=T.obj _ _ st b hb;exact Heap.lt_size e
 have hnA:H s.heap.objs.size=none:=I.hok.fresh (Nat.le_refl _);obtain⟨W,⟨m0,w0⟩,turn⟩:=h s.heap.objs.size hnA;refine wpAny_newObj_type (wpAny_newFunctionEnv O.nocell (by intro y hy;simp at hy) (fun h₁ hns₁ hsb₁=>?_) O.kind);dsimp only at hns₁ hsb₁ ⊢;have I3:Inv X pins σ (upd H s.heap.objs.size (.lst [])) { s with heap:=s.heap.push { cls:=.type "list",dict:=none,data:=.seq ([]:List Value).toArray } } :=
  I.laid (t':=s.toks) (fun b u e=>Heap.get?_push_of_some _ e) (Nat.le_refl _) ⟨by show 0≤sizeLine;exact Nat.zero_le _,[],0,.nil,Heap.get?_push_size _ rfl⟩
 generalize hs3:({ s with heap:=s.heap.push { cls:=.type "list",dict:=none,data:=.seq ([]:List Value).toArray } }:Shared)=s3 at I3;have e3:s3.heap=s.heap.push { cls:=.type "list",dict:=none,data:=.seq ([]:List Value).toArray }:=by rw[←hs3]
 rw[←e3]at hns₁ hsb₁ ⊢;have et:s3.toks=s.toks:=by rw[←hs3]
 have hf3:∀b∈fp,fj X pins (upd H s.heap.objs.size (.lst [])) b:=fun b hb=>by
  obtain⟨f0,f⟩:=hf b hb;exact⟨by rw[aD (Nat.ne_of_lt (hlt b hb))];exact f0,f⟩
 have hlt3:∀b∈fp,b<s3.heap.objs.size:=fun b hb=>by rw[e3,Heap.size_push];exact Nat.lt_succ_of_lt (hlt b hb)
 have hk4:∀b o,s3.heap.get? b=some o->h₁.get? b=some o:=fun b o e=>hsb₁.extBut b o (Nat.ne_of_lt (Heap.lt_size e)) (Heap.get?_push_of_some _ e);have hns':h₁.Ns s3.heap.objs.size fun _=>none:=hns₁;have I4:=md (t4:=s3.toks+([]:List (Str×Value)).length) O I3 hf3 hlt3 hns' hk4;have st4:tn 0 h₁:=T.keep _ _ _ st fun b hb o e=>hk4 b o (by rw[e3];exact Heap.get?_push_of_some _ e);have B4:=B s3 (upd H s.heap.objs.size (.lst [])) fp (X.pn++pins);generalize hY:cS X N2 scope cl s3 (upd H s.heap.objs.size (.lst [])) fp (X.pn++pins)=Y at I4 B4;have yP:Y.prog=X.prog:=by rw[←hY];rfl
 have yw:Y.w=X.w:=by rw[←hY];rfl
 have yK:Y.K=X.K:=by rw[←hY];rfl
 have yA:Y.A=X.A:=by rw[←hY];rfl
 have yc:Y.calm=true:=by rw[←hY];exact hc
 have yx:Y.xe=fun _ _=>False:=by rw[←hY];rfl
 have ye:Y.env=compEnvC scope cl s3.heap.objs.size X.env:=by rw[←hY];rfl
 have fpY:∀{H':Hp},(∀b∈fp,H' b=none)->∀b∈fp,fj Y [] H' b:=fun hn b hb=>by
  obtain⟨f0,f1,f2,f3,f4,f5⟩:=hf3 b hb;rw[←hY];refine⟨hn b hb,Nat.ne_of_lt (hlt3 b hb),fun hs=>?_,.inl hb,fun x c e=>f4 x c (O.sub x c e),fun p hp=>?_⟩
  ·rcases List.mem_cons.mp (I3.stkSub b hs)with e | e
   ·exact f1 e
   ·exact f2 e
  ·have hp2:p∈(X.pn++pins)++[]:=hp;rw[List.append_nil]at hp2;exact f5 p hp2
 have fin:∀{σ':St} {H':Hp} {s':Shared} {pl:List (Addr×Obj)},Inv Y pl σ' H' s'->Q (.ref s.heap.objs.size) H'->RR (.ref s.heap.objs.size) s3.heap.objs.size (.ok .next) s':=fun {σ' H' s' pl} I' q=>by
  have J':Inv X pins σ H' s':=qM I3 hf3 (hY▸I');obtain⟨m,hn,_⟩:=I'.loc;have hfr:=I'.free;rw[ye]at hn hfr;refine hRR _ _ s' H' m hn J' hfr (Nat.ne_of_gt I3.lt) I3.sz (fun x c e z=>?_) (fun p hp z=>?_) q
  ·obtain⟨v,q⟩:=I3.cell x c e;exact absurd (Nat.lt_of_lt_of_le q.lt (by rw[z];exact Nat.le_refl _)) (Nat.lt_irrefl _)
  ·exact absurd (Nat.lt_of_lt_of_le (Heap.lt_size (I3.pin p hp).1) (by rw[z];exact Nat.le_refl _)) (Nat.lt_irrefl _)
 have loop:∀s4:Shared,s4={ s3 with heap:=h₁,toks:=s3.toks+([]:List (Str×Value)).length } ->
   codeAny (model X.prog X.w) X.A (.compLoop (.ListComp elt [⟨tg,iter,ifs,0⟩] scope pos) 0 (.ref it) (.ref s.heap.objs.size) (compEnvC scope cl s3.heap.objs.size X.env)) (RR (.ref s.heap.objs.size) s3.heap.objs.size) s4:=by
  rintro s4 rfl;refine jS (fun n s'=>∃i σ0 H',Inv Y [] σ0 H' s'/\tn i s'.heap/\(∀b∈fp,H' b=none)/\W i n σ0 H') ?_ m0
   ⟨0,_,_,I4,st4,fun b hb=>(hf3 b hb).1,w0⟩
  rintro n s5 ⟨i,σ5,H5,I5,st5,fr5,w5⟩;rcases turn i n σ5 H5 w5 with⟨stop,q⟩ |⟨go,step⟩
  ·have r:=T.done Y yP yw yK yc i [] s5 _ H5 (fun _ _=>False) I5 (fpY fr5) st5 stop;rw[yA]at r;refine thn r fun r s6 ⟨hr,I6⟩=>?_;subst hr;exact fin I6 q
  ·have r:=T.item Y yP yw yK yc i [] s5 _ H5 (fun _ _=>False) I5 (fpY fr5) st5 go;rw[yA]at r;refine thn r fun r s6 ⟨u,hr,h6⟩=>?_;subst hr;refine thn h6 fun _ s7 ⟨x,H7,I7,r7,y7,st7,fr7⟩=>?_;have I7':=I7.pinned (fpY fr7) (T.obj _ _ st7);have r:=B4.tgt _ s7 _ H7 x u _ I7' r7 (step x H7 y7);rw[yP,yw,yA,yx,ye]at r;refine thn r fun _ s8 ⟨σ8,H8,I8,q8⟩=>?_;have r:=B4.tst _ s8 σ8 H8 _ I8 q8;rw[yP,yw,yA,yx,ye]at r;refine thn r fun ok s9 ⟨H9,I9,q9⟩=>?_;have back:∀{s':Shared} {H':Hp},Inv Y ([]++iH fp s7.heap) σ8 H' s'->(Inv Y [] σ8 H' s'/\tn (i+1) s'.heap/\∀b∈fp,H' b=none):=fun {s' H'} I'=>by
    refine⟨I'.unpinned,T.keep _ _ _ st7 fun b hb o e=>(I'.pin (b,o) (List.mem_append_right _ (List.mem_append_right _ (di hb e)))).1,fun b hb=>?_⟩;obtain⟨o,e,d⟩:=T.obj _ _ st7 b hb;exact(I'.pin (b,o) (List.mem_append_right _ (List.mem_append_right _ (di hb e)))).2.1
   cases ok with
   | false =>
    have q9':∃m',m'<n/\W (i+1) m' σ8 H9:=q9;obtain⟨m',hm,w9⟩:=q9';obtain⟨b1,b2,b3⟩:=back I9;show ∃m,m<n/\_;exact⟨m',hm,i+1,σ8,H9,b1,b2,b3,w9⟩
   | true =>
    have q9':te σ8 H9 fun y H4=>∃ys,H4 s.heap.objs.size=some (.lst ys)/\ys.length<sizeLine/\∃m',m'<n/\W (i+1) m' σ8 (upd H4 s.heap.objs.size (.lst (ys++[y]))):=q9;have r:=B4.elt _ s9 σ8 H9 _ I9 q9';rw[yP,yw,yA,yx,ye]at r;show wpAny _ _ (eval elt _) _ _ s9;refine thn r fun y s10 ⟨yv,H10,I10,r10,q10⟩=>?_;obtain⟨ys,a1,a2,m',hm,w10⟩:=q10;have r:=cx (X:=Y) _ s10 σ8 H10 (.ref s.heap.objs.size) [yv] (.ref s.heap.objs.size) [y] (fun _ H'=>H'=upd H10 s.heap.objs.size (.lst (ys++[yv]))) I10 rfl (.cons r10 .nil) ⟨_,ys,yv,rfl,rfl,a1,a2,rfl⟩;rw[yP,yw,yA,yx]at r;refine thn r fun _ s11 ⟨_,H11,I11,_,e11⟩=>?_;subst e11;obtain⟨b1,b2,b3⟩:=back I11;exact⟨m',hm,i+1,σ8,_,b1,b2,b3,w10⟩
 have st4':tn 0 ({ s3 with heap:=h₁,toks:=s3.toks+([]:List (Str×Value)).length }:Shared).heap:=st4;have hs4:({ s with heap:=h₁,toks:=s.toks+([]:List (Str×Value)).length }:Shared)={ s3 with heap:=h₁,toks:=s3.toks+([]:List (Str×Value)).length }:=by rw[←hs3]
 exact codeAny_compStart_list (loop _ hs4) (T.self _ 0 _ _ _ st4 (loop _ hs4))
theorem kW(O:cg X N2 nt js scope cl sc)(hc:X.calm=true)(hi:PI X tg iter wi)(B:∀(s0:Shared) (H0:Hp) (fp:List Addr) (ps:List (Addr×Obj)),qU (cS X N2 scope cl s0 H0 fp ps) tg ifs elt g tt te)
  (hs:∀x,foldedSetIterable iter X.env x=pure x:=by intro _;rfl):PE X (.ListComp elt [⟨tg,iter,ifs,0⟩] scope pos) (oJ nt js wi g tt te):=by
 intro pins s σ H Q I h;rw[eval_ListComp];refine wpAny_comprehension_free (use:=none) rfl hs O.clos O.kind O.loc (thn (hi pins s σ H _ I h) fun xv s1 h1=>thn h1 fun itv s2 h2=>?_);obtain⟨it,fp,tn,J,H2,e,I2,T,st2,f2,q⟩:=h2;subst e;refine lO (RR:=fun acc C=>compPost (model X.prog X.w) X.A X.xe none (EP X pins σ Q) acc C) O hc B I2 T st2 f2 q ?_;intro acc C s' H' m hn J' c1 c2 c3 c4 c5 q';refine⟨m,hn,fun h' hsb=>⟨.ref acc,H',?_,rfl,q'⟩⟩;exact J'.turned (t':=s'.toks) (fun b o hb e=>hsb.extBut b o hb e) c1 (Ne.symm c2 |> fun z=>fun y=>z y.symm) (.inr c3) c4 c5
theorem r8{i:Nat}{y:Str}{py spos:Pos}(hN:X.N.Nodup)(hy:X.N[i]?=some y)(hl:Loc X.env.scope y)(O:cg X N2 nt js scope cl sc)(hc:X.calm=true)(hi:PI X tg iter wi)
  (B:∀(s0:Shared) (H0:Hp) (fp:List Addr) (ps:List (Addr×Obj)),qU (cS X N2 scope cl s0 H0 fp ps) tg ifs elt g tt te)
  (hsw:swapsWith (.ListComp elt [⟨tg,iter,ifs,0⟩] scope pos) (some (.Name y py)) spos.line X.env=pure true:=by rfl)
  (hs:∀x,foldedSetIterable iter X.env x=pure x:=by intro _;rfl) (hfn:X.fn y=true∨X.env.scope.names.lookup y=some .local:=by first | exact .inl rfl | exact .inr rfl | assumption) :
  PS X (.Assign [.Name y py] (.ListComp elt [⟨tg,iter,ifs,0⟩] scope pos) spos) (A4 (oJ nt js wi g tt te) (ou i)):=by
 intro pins s σ H D I h;rw[exec_Assign_Name_used _ _ _ _ hsw];refine wpAny_bind (wpAny_standAt (wpAny_bind ?_));show wpAny _ X.A (do let _←comprehension (.ListComp elt [⟨tg,iter,ifs,0⟩] scope pos) scope X.env _ (newList []) false (eval iter X.env) (some (assign (.Name y py) X.env))) _ _ s;refine wpAny_bind (wpAny_mono (wpAny_comprehension_free (use:=some (assign (.Name y py) X.env)) (Q:=fun _ s'=>SP X pins D .next s') rfl hs O.clos O.kind O.loc
  (thn (hi pins s σ H _ I h) fun xv s1 h1=>thn h1 fun itv s2 h2=>?_)) (fun _ s' hq=>wpAny_pure (wpAny_pure hq)) fun _ _ e=>e)
 obtain⟨it,fp,tn,J,H2,e,I2,T,st2,f2,q⟩:=h2;subst e;refine lO (Q:=fun v H1=>ou i v σ H1 D.nx) (RR:=fun acc C=>compPost (model X.prog X.w) X.A X.xe (some (assign (.Name y py) X.env)) (fun _ s'=>SP X pins D .next s') acc C) O hc B I2 T st2 f2 q ?_;intro acc C s' H' m hn J' c1 c2 c3 c4 c5 q';show wpAny _ X.A (assign (.Name y py) X.env (.ref acc)) _ _ _;refine wpAny_assign_Name (je (v:=.ref acc) J' hN hy hl rfl (fun s2 I2' ⟨a,sb,ha⟩=>?_) hfn);have hCa:C≠a:=by
  rcases ha with ha | ha
  ·rw[ha];exact c2
  ·exact fun z=>c4 y a ha z.symm
 refine⟨m,hn.sameBut sb hCa,fun h' hsb=>⟨_,H',?_,q'⟩⟩;exact I2'.turned (t':=s2.toks) (fun b o hb e=>hsb.extBut b o hb e) c1 c2 (.inr c3) c4 c5
end
end
end L2
namespace U
open L2
section
variable {B:Bs}{X:Cx}{pos:Pos}
def vD(nt:Nat)(js:List Nat)(σ:St'):St':=List.replicate nt none++js.map fun j=>(σ[j]?).join
theorem SR.sig{K:PySem.W.Frag}{σ':St'}{H':PHp}{σ:L2.St}{H:Hp}(s:SR K B σ' H' σ H)(nt:Nat)(js:List Nat):SR K B (vD nt js σ') H' (kB nt js σ) H:=by
 refine⟨by simp[vD,kB],fun i v' e=>?_,s.hp,s.ev⟩;unfold vD at e;unfold kB;by_cases hi:i<nt
 ·rw[List.getElem?_append_left (by simpa using hi),List.getElem?_replicate]at e;split at e<;>cases e
 ·rw[List.getElem?_append_right (by simp;omega),List.length_replicate,List.getElem?_map]at e ⊢;cases ej:js[i - nt]? with
  | none=>rw[ej]at e;cases e
  | some j =>
   rw[ej]at e;have e2:(σ'[j]?).join=some v':=Option.some.inj e;cases q:σ'[j]? with
   | none=>rw[q]at e2;cases e2
   | some o =>
    rw[q]at e2;have e3:σ'[j]?=some (some v'):=by rw[q];exact congrArg some e2
    obtain⟨v,a,b⟩:=s.loc j v' e3;exact⟨v,by show some ((σ[j]?).join)=_;rw[a];rfl,b⟩
def b0(ok:PHp->Prop)(g:TG')(tt:TT')(te:TE')(acc:Addr)(Q:VK'):List PV->St'->PHp->Prop
 | [],σ,H=>ok H/\Q (.ref acc) H
 | x::r,σ,H=>ok H/\g x σ H fun σ3 H2=>tt σ3 H2 fun b H3=>cif b (te σ3 H3 fun y H4=>∃l,H4 acc=some (.lst l)/\l.length<sizeLine/\b0 ok g tt te acc Q r σ3 (put H4 acc (.lst (l++[y])))) (b0 ok g tt te acc Q r σ3 H3)
def jw(nt:Nat)(js:List Nat)(wi:TI')(g:TG')(tt:TT')(te:TE'):TE':=fun σ H Q=>wi σ H fun J H1=>∀acc,H1 acc=none->b0 J.ok g tt te acc Q J.items (vD nt js σ) (put H1 acc (.lst []))
def zi(Y:Cx)(B:Bs)(ifs:List Expr)(t:TT'):Prop:=PIf Y ifs (j3 Y.K B t)
def zU:TT':=fun _ H Q=>Q true H
theorem bh{Y:Cx}:zi Y B [] zU:=fun pins s σ H Q I ⟨σ',H',Q',sr,h,k⟩=>tX pins s σ H Q I (k true H' H h sr (Ev.refl _ _))
theorem bF{Y:Cx}{c:Expr}{t:TT'}(h:PT' Y B c t):zi Y B [c] t:=ug h
theorem kL{K:PySem.W.Frag}{nt:Nat}{js:List Nat}{wi:TI'}{g:TG'}{tt:TT'}{te:TE'}{σ:L2.St}{H:Hp}{Q:VK}(h:low K B (jw nt js wi g tt te) σ H Q) :
  oJ nt js (BF K B wi) (lowG K B g) (j3 K B tt) (low K B te) σ H Q:=by
 obtain⟨σ',H',Q',s,h,k⟩:=h;refine⟨σ',H',_,s,h,fun J' H1' J H1 h1 wk s1 e1 acc ha=>?_⟩;have h1:=h1 acc (s1.hp.free ha);have sn:SR K B σ' (put H1' acc (.lst [])) σ (upd H1 acc (.lst [])):=s1.new ha ⟨[],a8,RPs.nil _⟩;have en:Ev H1' H1 (put H1' acc (.lst [])) (upd H1 acc (.lst [])):=Ev.new ha;refine⟨fun i m σ2 H2=>i≤J'.items.length/\m=J'.items.length - i/\∃σ2' H2',SR K B σ2' H2' σ2 H2/\SR K B σ' H2' σ H2/\Ev H1' H1 H2' H2/\b0 J'.ok g tt te acc Q' (J'.items.drop i) σ2' H2',
  ⟨J'.items.length,Nat.zero_le _,by simp,_,_,sn.sig nt js,sn,en,h1⟩,?_⟩
 rintro i m σ2 H2 ⟨hi,rfl,σ2',H2',s2,so,e2,h2⟩;have k2:=e2.kp s1.hp;by_cases hlt:i<J'.items.length
 ·obtain⟨x',hx⟩:∃x',J'.items[i]?=some x':=⟨_,List.getElem?_eq_getElem hlt⟩;have hd:J'.items.drop i=x'::J'.items.drop (i+1):=by
   rw[List.drop_eq_getElem_cons hlt];rw[List.getElem?_eq_getElem hlt]at hx;cases hx;rfl
  rw[hd]at h2;obtain⟨ok2,h2⟩:=(show J'.ok H2'/\_ from h2);refine .inr ⟨wk.go H2' H2 i k2 s2.hp ok2 hlt,fun x H3 y=>?_⟩;obtain⟨rfl,rx⟩:=wk.yld H2' H2 i x H3 k2 s2.hp ok2 y;refine⟨x',σ2',H2',_,rx x' hx,s2,h2,fun σ3' H3' σ3 H3 h3 s3 e3=>⟨σ3',H3',_,s3,h3,fun b H4' H4 h4 s4 e4=>?_⟩⟩;cases b with
  | false =>
   have e24:=e3.trans e4;exact jI ⟨J'.items.length - (i+1),by omega,hlt,rfl,σ3',H4',s4,so.kp e24 s4.hp,e2.trans e24,h4⟩
  | true =>
   refine j0 ⟨σ3',H4',_,s4,h4,fun y' H5' y H5 h5 ry5 s5 e5=>?_⟩;obtain⟨l,a1,a2,h5⟩:=h5;have e25:=(e3.trans e4).trans e5;obtain⟨us,q1,q2⟩:=s5.hp _ _ a1;have wr:=wrL s5.hp a1 (RPs.append _ q2 (RPs.cons _ ry5 (RPs.nil _)));refine⟨us,q1,by rw[RPs.length _ q2];exact a2,J'.items.length - (i+1),by omega,hlt,rfl,σ3',_,s5.wr a1 wr,(so.kp e25 s5.hp).wr a1 wr,(e2.trans e25).trans (Ev.wr a1),h5⟩
 ·have hi':i=J'.items.length:=by omega
  subst hi';rw[List.drop_length]at h2;obtain⟨ok2,h2⟩:=(show J'.ok H2'/\_ from h2);exact .inl ⟨wk.stop H2' H2 _ k2 s2.hp ok2 (Nat.le_refl _),k _ _ _ _ h2 (by simp[RP]) so (e1.trans e2)⟩
section
variable {N2:List Str}{nt:Nat}{js:List Nat}{scope sc:Scope}{cl:List (Str×Addr)}{elt iter tg:Expr}{ifs:List Expr}{wi:TI'}{g:TG'}{tt:TT'}{te:TE'}
structure mP (Y:Cx) (B:Bs) (tg:Expr) (ifs:List Expr) (elt:Expr) (g:TG') (tt:TT') (te:TE'):Prop where
 tgt:PG' Y B tg g
 tst:zi Y B ifs tt
 elt:PE' Y B elt te
theorem bG(O:cg X N2 nt js scope cl sc)(hc:X.calm=true)(hi:PI' X B tg iter wi)(b:∀(s0:Shared) (H0:Hp) (fp:List Addr) (ps:List (Addr×Obj)),mP (cS X N2 scope cl s0 H0 fp ps) B tg ifs elt g tt te)
  (hs:∀x,foldedSetIterable iter X.env x=pure x:=by intro _;rfl):PE' X B (.ListComp elt [⟨tg,iter,ifs,0⟩] scope pos) (jw nt js wi g tt te) :=
 aT (kW (g:=lowG X.K B g) (tt:=j3 X.K B tt) (te:=low X.K B te) O hc hi (fun s0 H0 fp ps=>⟨(b s0 H0 fp ps).tgt,(b s0 H0 fp ps).tst,(b s0 H0 fp ps).elt⟩) hs) fun _ _ _ h=>kL h
theorem bt{i:Nat}{y:Str}{py spos:Pos}(hN:X.N.Nodup)(hy:X.N[i]?=some y)(hl:Loc X.env.scope y)(O:cg X N2 nt js scope cl sc)(hc:X.calm=true)(hi:PI' X B tg iter wi)
  (b:∀(s0:Shared) (H0:Hp) (fp:List Addr) (ps:List (Addr×Obj)),mP (cS X N2 scope cl s0 H0 fp ps) B tg ifs elt g tt te)
  (hsw:swapsWith (.ListComp elt [⟨tg,iter,ifs,0⟩] scope pos) (some (.Name y py)) spos.line X.env=pure true:=by rfl)
  (hs:∀x,foldedSetIterable iter X.env x=pure x:=by intro _;rfl) (hfn:X.fn y=true∨X.env.scope.names.lookup y=some .local:=by first | exact .inl rfl | exact .inr rfl | assumption) :
  PS' X B (.Assign [.Name y py] (.ListComp elt [⟨tg,iter,ifs,0⟩] scope pos) spos) (vU (jw nt js wi g tt te) (fQ i)) :=
 dw (r8 (g:=lowG X.K B g) (tt:=j3 X.K B tt) (te:=low X.K B te) hN hy hl O hc hi (fun s0 H0 fp ps=>⟨(b s0 H0 fp ps).tgt,(b s0 H0 fp ps).tst,(b s0 H0 fp ps).elt⟩) hsw hs hfn) fun D σ H ⟨σ',H',D',s,h,d⟩=>by
  refine kL ⟨σ',H',_,s,h,fun v' H1' v H1 q r s1 e1=>?_⟩;exact d.nx _ _ _ _ q (s1.set r i) e1
end
end
section
def pU(cs:List (Str×Addr)):List (Str×Addr)->Prop
 | []=>True
 | p::r=>cs.lookup p.1=some p.2/\pU cs r
theorem pU.mem{cs:List (Str×Addr)}:∀{l:List (Str×Addr)} {p:Str×Addr},pU cs l->p∈l->cs.lookup p.1=some p.2
 | q::r,p,h,m=>by
  rcases List.mem_cons.mp m with rfl | m
  ·exact h.1
  ·exact pU.mem h.2 m
theorem cok{X:Cx}{N2:List Str}{nt:Nat}{js:List Nat}{scope sc:Scope}{cl:List (Str×Addr)}(clos:closureFor scope X.env=pure cl)(sub:pU X.env.cells cl)(xsc:X.env.scope=sc)(kind:scope.kind=.function)
  (nocell:∀y∈scope.names,y.2≠.cell) (loc:∀y∈scope.names,y.2=.local->scope.names.lookup y.1=some .local) (names:cl.map (·.1)=((scope.names.filter (·.2==.free)).map (·.1)).reverse)
  (frs:∀x∈N2.drop nt,scope.names.lookup x=some .free/\sc.names.lookup x=some .cell) (len:N2.length=nt+js.length) (pl:js.map (fun j=>X.N[j]?)=(N2.drop nt).map some):cg X N2 nt js scope cl sc :=
 ⟨clos,fun x c e=>sub.mem (lookup_mem e),xsc,kind,nocell,loc,fun y m f=>by rw[names];exact List.mem_reverse.mpr (List.mem_map_of_mem (List.mem_filter.mpr ⟨m,by rw[f];rfl⟩)),frs,len,fun k j e=>by
  have h:(js.map (fun j=>X.N[j]?))[k]?=((N2.drop nt).map some)[k]?:=by rw[pl]
  rw[List.getElem?_map,List.getElem?_map,e,List.getElem?_drop]at h;cases q:N2[nt+k]? with
  | none=>rw[q]at h;cases h
  | some x=>rw[q]at h;exact Option.some.inj h⟩
end
section
end
end U
namespace L2
variable {X:Cx}{a b c d:Expr}{pos:Pos}{ta tb tc td:TE}
def uE(r r' r'':R2)(ta tb tc td:TE):TE:=fun σ H Q=>ta σ H fun x H1=>tb σ H1 fun y H2=>r x y H2 fun z H3=>∃k,z=.bl k /\
 (if k=true then tc σ H3 fun w' H4=>r' y w' H4 fun z' H5=>∃k',z'=.bl k'/\(if k'=true then td σ H5 fun v' H6=>r'' w' v' H6 Q else Q (.bl false) H5)else Q (.bl false) H3)
theorem pf{op op' op'':CmpOp}{r r' r'':R2}(ho:OpR X (compareOp op) r)(ho':OpR X (compareOp op') r')(ho'':OpR X (compareOp op'') r'')(ha:PE X a ta)(hb:PE X b tb)(hc:PE X c tc)(hd:PE X d td)
  (hm:lastMarks [op,op',op''] [b,c,d]=false:=by with_unfolding_all rfl):PE X (.Compare a [op,op',op''] [b,c,d] pos) (uE r r' r'' ta tb tc td):=by
 intro pins s σ H Q I h;refine Compare_chain (thn (ha pins s σ H _ I h) fun v s1 ⟨x,H1,I1,r1,q1⟩=>chain_link (thn (hb pins s1 σ H1 _ I1 q1) fun u s2 ⟨y,H2,I2,r2,q2⟩ =>
  thn (ho pins s2 σ H2 x y v u _ I2 r1 r2 q2) fun d s3 ⟨z,H3,I3,r3,k,e,q3⟩=>?_)) hm
 subst e;cases r3;refine wpAny_truthy_bool ?_;cases k with
 | false=>exact ite_ff ⟨.bl false,H3,I3,rfl,q3⟩
 | true =>
  refine ite_tt (chain_link (thn (hc pins s3 σ H3 _ I3 q3) fun w' s4 ⟨z',H4,I4,r4,q4⟩=>thn (ho' pins s4 σ H4 y z' u w' _ I4 r2 r4 q4) fun d' s5 ⟨z5,H5,I5,r5,k5,e5,q5⟩=>?_));subst e5;cases r5;refine wpAny_truthy_bool ?_;cases k5 with
  | false=>exact ite_ff ⟨.bl false,H5,I5,rfl,q5⟩
  | true=>exact ite_tt (chain_last (thn (hd pins s5 σ H5 _ I5 q5) fun w6 s6 ⟨z6,H6,I6,r6,q6⟩=>ho'' pins s6 σ H6 z' z6 w' w6 Q I6 r4 r6 q6))
end L2
namespace U
open L2
variable {B:Bs}{X:Cx}{a b c d e o value:Expr}{pos pos' apos p:Pos}{ta tb tc td tv:TE'}{f m x:Str}{C g:Addr}
def nG(r r' r'':R2')(ta tb tc td:TE'):TE':=fun σ H Q=>ta σ H fun x H1=>tb σ H1 fun y H2=>r x y H2 fun z H3=>dN z fun k=>cif k (tc σ H3 fun w' H4=>r' y w' H4 fun z' H5=>dN z' fun k'=>cif k' (td σ H5 fun v' H6=>r'' w' v' H6 Q) (Q (.bl false) H5)) (Q (.bl false) H3)
theorem qb{op op' op'':CmpOp}{r1' r2' r3':R2'}{r1 r2 r3:R2}(ho:OpR X (compareOp op) r1)(v1:VR X.K B r1' r1)(ho':OpR X (compareOp op') r2)(v2:VR X.K B r2' r2)(ho'':OpR X (compareOp op'') r3)(v3:VR X.K B r3' r3)
  (ha:PE' X B a ta) (hb:PE' X B b tb) (hc:PE' X B c tc) (hd:PE' X B d td)
  (hm:lastMarks [op,op',op''] [b,c,d]=false:=by with_unfolding_all rfl):PE' X B (.Compare a [op,op',op''] [b,c,d] pos) (nG r1' r2' r3' ta tb tc td):=aT (pf ho ho' ho'' ha hb hc hd hm) fun σ H Q ⟨σ',H',Q',s,h,k⟩=>by
 refine⟨σ',H',_,s,h,fun x' H1' x H1 h1 rx s1 e1=>⟨σ',H1',_,s1,h1,fun y' H2' y H2 h2 ry s2 e2=>?_⟩⟩;refine v1 σ' σ H2' H2 x' y' x y _ _ s2 (RP.kp X.K (e2.kp s1.hp) rx) ry h2 fun z' H3' z H3 q rz s3 e3=>?_;obtain⟨b,rfl,q⟩:=q.ex;simp only[RP]at rz;refine⟨b,rz,?_⟩;cases b with
 | false=>exact jI (k _ _ _ _ q (by simp[RP]) s3 ((e1.trans e2).trans e3))
 | true =>
  refine j0 ⟨σ',H3',_,s3,q,fun w' H4' w H4 h4 rw4 s4 e4=>?_⟩;refine v2 σ' σ H4' H4 y' w' y w _ _ s4 (RP.kp X.K ((e3.trans e4).kp s2.hp) ry) rw4 h4 fun z5' H5' z5 H5 q5 rz5 s5 e5=>?_;obtain⟨b5,rfl,q5⟩:=q5.ex;simp only[RP]at rz5;refine⟨b5,rz5,?_⟩;cases b5 with
  | false=>exact jI (k _ _ _ _ q5 (by simp[RP]) s5 ((((e1.trans e2).trans e3).trans e4).trans e5))
  | true =>
   refine j0 ⟨σ',H5',_,s5,q5,fun v' H6' v H6 h6 rv s6 e6=>?_⟩;exact v3 σ' σ H6' H6 w' v' w v _ _ s6 (RP.kp X.K ((e5.trans e6).kp s4.hp) rw4) rv h6 fun z7' H7' z7 H7 q7 rz7 s7 e7=>k _ _ _ _ q7 rz7 s7 ((((((e1.trans e2).trans e3).trans e4).trans e5).trans e6).trans e7)
def wQ(C:Addr)(f:Str)(x:PV)(H:PHp)(Q:VK'):Prop:=match x with
 | .ref a=>∃dx fs v,H a=some (.ins C dx fs)/\fs.lookup f=some v/\Q v H
 | _=>False
def zZ(C:Addr)(f:Str)(ta:TE'):TE':=fun σ H Q=>ta σ H fun x H1=>wQ C f x H1 Q
theorem gB{K:PySem.W.Frag}{H:Hp}{f:Str}{v:PV}:∀{fs:List (Str×PV)} {gs:List (Str×V)},eX K H fs gs->fs.lookup f=some v->∃u,gs.lookup f=some u/\RP K H v u
 | [],[],_,e=>by simp at e
 |(n,y)::r,(m,z)::q,.cons h t,e=>by
  obtain⟨rfl,hr⟩:=h;dsimp only at hr;cases hx:f==n with
  | true =>
   simp only[List.lookup_cons,hx]at e ⊢;cases e;exact⟨z,rfl,hr⟩
  | false =>
   simp only[List.lookup_cons,hx]at e ⊢;exact gB t e
theorem gc{K:PySem.W.Frag}{H:Hp}{f:Str}:∀{fs:List (Str×PV)} {gs:List (Str×V)},eX K H fs gs->fs.lookup f=none->gs.lookup f=none
 | [],[],_,e=>rfl
 |(n,y)::r,(m,z)::q,.cons h t,e=>by
  obtain⟨rfl,hr⟩:=h;cases hx:f==n with
  | true=>simp only[List.lookup_cons,hx]at e;cases e
  | false =>
   simp only[List.lookup_cons,hx]at e ⊢;exact gc t e
theorem lj{K:PySem.W.Frag}{H:Hp}:∀{fs:List (Str×PV)} {gs:List (Str×V)},eX K H fs gs->gs.length=fs.length
 | [],[],_=>rfl
 | _::_,_::_,.cons _ t=>by simp[lj t]
theorem bX(ha:PE' X B e ta)(cl:Cls X.K C)(n:cA X.K C f)(hb:attributeBase e f X.env (eval e X.env)=eval e X.env):PE' X B (.Attribute e f pos) (zZ C f ta):=aT (yI ha hb) fun σ H Q ⟨σ',H',Q',s,h,k⟩=>by
 refine⟨σ',H',_,s,h,fun x' H1' x H1 h1 rx s1 e1=>?_⟩;cases x' with
 | ref a =>
  obtain⟨dx,fs,v,ea,l,q⟩:=h1;simp only[RP]at rx;subst rx;obtain⟨gs,eg,fr⟩:=s1.hp _ _ ea;obtain⟨u,lu,ru⟩:=gB fr l;exact⟨a,C,dx,gs,u,rfl,eg,cl,n,lu,k _ _ _ _ q ru s1 e1⟩
 | _=>exact h1.elim
def iw(f:Str)(v:PV):List (Str×PV)->List (Str×PV)
 | []=>[(f,v)]
 |(g,x)::r=>if g=f then(g,v)::r else(g,x)::iw f v r
theorem k7{K:PySem.W.Frag}{H:Hp}{f:Str}{v:PV}{u:V}(rv:RP K H v u):∀{fs:List (Str×PV)} {gs:List (Str×V)},eX K H fs gs->eX K H (iw f v fs) (dC f u gs)
 | [],[],_=>.cons ⟨rfl,rv⟩ .nil
 |(n,y)::r,(m,z)::q,.cons h t=>by
  obtain⟨rfl,hr⟩:=h;unfold iw dC;by_cases hn:n=f
  ·rw[if_pos hn,if_pos hn];exact .cons ⟨rfl,rv⟩ t
  ·rw[if_neg hn,if_neg hn];exact .cons ⟨rfl,hr⟩ (k7 rv t)
def wj(C:Addr)(f:Str)(x y:PV)(H:PHp)(Q:PHp->Prop):Prop:=match x with
 | .ref a=>∃dx fs,H a=some (.ins C dx fs)/\fs.length<1000/\Q (put H a (.ins C dx (iw f y fs)))
 | _=>False
def tf(C:Addr)(f:Str)(ta tv:TE'):TS':=fun D σ H=>tv σ H fun y H1=>ta σ H1 fun x H2=>wj C f x y H2 fun H3=>D.nx σ H3
theorem gw(ha:PE' X B o ta)(hv:PE' X B value tv)(cl:Cls X.K C)(n:cA X.K C f)(hs:swapsWith value (some (.Attribute o f pos')) pos.line X.env=pure false):PS' X B (.Assign [.Attribute o f pos'] value pos) (tf C f ta tv):=dw (zw ha hv hs) fun D σ H ⟨σ',H',D',s,h,dd⟩=>by
 refine⟨σ',H',_,s,h,fun y' H1' y H1 h1 ry s1 e1=>⟨σ',H1',_,s1,h1,fun x' H2' x H2 h2 rx s2 e2=>?_⟩⟩;cases x' with
 | ref a =>
  obtain⟨dx,fs,ea,l,q⟩:=h2;simp only[RP]at rx;subst rx;obtain⟨gs,eg,fr⟩:=s2.hp _ _ ea;have ry2:=RP.kp X.K (e2.kp s1.hp) ry;have new:OAt X.K (upd H2 a (.ins C dx (dC f y gs))) a (.ins C dx (iw f y' fs)):=⟨_,a8,eX.kp (s2.hp.kpw ea) (k7 ry2 fr)⟩;exact⟨a,C,dx,gs,rfl,eg,cl,n,by rw[lj fr];exact l,dd.nx _ _ _ _ q (s2.wr ea new) ((e1.trans e2).trans (Ev.wr ea))⟩
 | _=>exact h2.elim
def isIn(C:Addr)(m:Str)(x:PV)(H:PHp):Prop:=match x with
 | .ref a=>∃dx fs,H a=some (.ins C dx fs)/\fs.lookup m=none
 | _=>False
def kz(C:Addr)(m:Str)(sp:Sp')(E':XK')(ta:TE')(t:TA'):TE':=fun σ H Q=>ta σ H fun x H1=>isIn C m x H1/\t σ H1 fun vs H2=>sp (x::vs) H2 Q E'
section
variable {k:Nat}{fd:FuncData}{ps:List Str}{sp:Sp'}{es:List Expr}{t:TA'}
theorem oW{K:PySem.W.Frag}{σ:L2.St}{H:Hp}{Q:VK}(h:low K B (kz C m sp X0 ta t) σ H Q):rP C m (c7 K sp) [] E0 (low K B ta) (l8 K B t) σ H Q:=by
 obtain⟨σ',H',Q',s,h,k⟩:=h;refine⟨σ',H',_,s,h,fun x' H1' x H1 h1 rx s1 e1=>?_⟩;obtain⟨hi,h1⟩:=h1;cases x' with
 | ref a =>
  obtain⟨dx,fs,ea,l⟩:=hi;simp only[RP]at rx;subst rx;obtain⟨gs,eg,fr⟩:=s1.hp _ _ ea;refine⟨a,dx,gs,rfl,eg,gc fr l,σ',H1',_,s1,h1,fun vs' H2' vs H2 h2 r2 s2 e2=>?_⟩;show c7 K sp (V.ref a::(vs++[])) H2 Q E0;rw[List.append_nil];exact⟨.ref a::vs',H2',Q',X0,RPs.cons _ (by simp[RP]) r2,s2.hp,h2,fun v' H3' v H3 q r3 h3 e3=>k v' H3' v H3 q r3 (s2.kp e3 h3) ((e1.trans e2).trans e3),fun _ _ _ _ z=>z.elim⟩
 | _=>exact hi.elim
theorem bg{pl:Sem Bool}(he:PE' X B o ta)(cl:Cls X.K C)(hm:Meth X.K C m g)(F:aN X.prog X.w X.K X.mg X.base CX0 k g fd ps sp)(hr:bP k X.A)(hb:Binds X.K fd ps [])(ha:PA' X B (e::es) t)
  (hst:starEach (e::es) X.env=(false,eval e X.env)::starEach es X.env:=by rfl) (hpl:(backTo pos (starEach es X.env)).any (·.1)=false:=by rfl)
  (ht:eval (.Call (.Attribute o m apos) (e::es) [] pos) X.env=(do
   let ov←eval o X.env
   standAt apos.atName
   let (f,first)←holding [ov] (getMethod ov m pl)
   callWith pos f first (backTo pos (starEach (e::es) X.env)) (backToKw pos (keywordEach [] X.env))):=by rfl) :
  PE' X B (.Call (.Attribute o m apos) (e::es) [] pos) (kz C m sp X0 ta t):=aT (oq he cl hm F hr hb .nil sY ha hst hpl ht) fun _ _ _ h=>oW h
def wd(C:Addr)(sp:Sp')(E':XK')(t:TA'):TE':=fun σ H Q=>t σ H fun vs H1=>∀x dx,H1 x=none->H1 dx=none->dx≠x->sp (.ref x::vs) (put H1 x (.ins C dx [])) (fun v H2=>v=.non/\Q (.ref x) H2) E'
theorem kc(M:Mk X.K C g)(F:aN X.prog X.w X.K X.mg X.base CX0 k g fd ps sp)(hr:bP (k+1) X.A)(hg:Gl X x)(hm:X.mg x=some (.ref C))(hb:Binds X.K fd ps [])
  (ha:PA' X B (e::es) t) (hdb:(x==("__debug__":Str))=false:=by decide) (he:starEach (e::es) X.env=(false,eval e X.env)::starEach es X.env:=by rfl) (hpl:(backTo pos (starEach es X.env)).any (·.1)=false:=by rfl) :
  PE' X B (.Call (.Name x p) (e::es) [] pos) (wd C sp X0 t):=aT (vf M F hr hg hm hb .nil sY ha hdb he hpl) fun σ H Q ⟨σ',H',Q',s,h,k⟩=>by
 refine⟨σ',H',_,s,h,fun vs' H1' vs H1 h1 r1 s1 e1=>?_⟩;intro x dx nx nd ne;have h2:=h1 x dx (s1.hp.free nx) (s1.hp.free nd) ne;have nx2:upd H1 dx (.own x) x=none:=by rw[aD (Ne.symm ne)];exact nx
 have sd:=s1.hid (o:=.own x) nd;have new:OAt X.K (upd (upd H1 dx (.own x)) x (.ins C dx [])) x (.ins C dx []):=⟨[],a8,.nil⟩;have s2:=sd.new nx2 new;have e2:Ev H1' H1 (put H1' x (.ins C dx [])) (upd (upd H1 dx (.own x)) x (.ins C dx [])):=(Ev.hid nd).trans (Ev.new nx2);show c7 X.K sp (.ref x::(vs++[])) _ _ E0;rw[List.append_nil];refine⟨.ref x::vs',_,_,X0,RPs.cons _ (by simp[RP]) (RPs.kp X.K (e2.kp s1.hp) r1),s2.hp,h2,fun v' H3' v H3 q r3 h3 e3=>?_,fun _ _ _ _ z=>z.elim⟩;obtain⟨rfl,q⟩:=q;simp only[RP]at r3;exact⟨r3,k _ _ _ _ q (by simp[RP]) (s2.kp e3 h3) ((e1.trans e2).trans e3)⟩
end
end U
namespace L2
variable {X:Cx}
def Bq(K:PySem.W.Frag):List V->Hp->VK->Prop:=fun xs H Q=>∃(p:Addr) (bs:List Bool),xs=[.ref p]/\SqL K H p (bs.map V.bl)/\Q (.bl (bs.all id)) H
theorem eV:∀{bs:List Bool} {us:List Value},Vals (bs.map V.bl) us->us=bs.map Value.bool
 | [],_,.nil=>rfl
 | b::bs,_,.cons r t=>by rw[eV t];cases r;rfl
theorem rq(hc:X.calm=true):cf X (.builtin "all") (Bq X.K):=by
 intro pins s σ H xs us Q I r h;obtain⟨a,bs,rfl,hq,q⟩:=h;obtain⟨u,rfl,ru⟩:=Vals.one r;cases ru;obtain⟨its,rv,p,hz⟩:=I.list hq;have e:=eV rv;subst e;have hl:s.heap.IsList a (bs.map Value.bool).toArray:=p.isList;have llt:a<s.heap.objs.size:=by obtain⟨o,e,_⟩:=hl;exact Heap.lt_size e
 have hne:a≠s.heap.objs.size:=Nat.ne_of_lt llt;refine call_all_walk (wpAny_pyIter_list hl ?_);refine⟨s.heap.objs.size,[s.heap.objs.size,a],[s.heap.objs.size],(bs.map Value.bool).toArray.size,_,_,fun i=>bs.getD i false,rfl,Walks.list (by simpa using I.ok.hd hc) _ a hne _,⟨⟨_,Heap.get?_push_size _ rfl,rfl,rfl⟩,hl.at fun o e=>Heap.get?_push_of_some _ e⟩,?_,?_⟩
 ·intro i v s' Q' E' hv hQ;have:v=Value.bool (bs.getD i false):=by
   have hv':(bs.map Value.bool)[i]?=some v:=by simpa using hv
   rw[List.getElem?_map]at hv';cases hb:bs[i]? with
   | none=>rw[hb]at hv';cases hv'
   | some b=>rw[hb]at hv';cases hv';rw[List.getD_eq_getElem?_getD,hb];rfl
  subst this;exact wpAny_truthy_bool hQ
 ·intro h' tk kp;have e:(List.range (bs.map Value.bool).toArray.size).all (fun i=>bs.getD i false)=bs.all id:=by
   have hs:(bs.map Value.bool).toArray.size=bs.length:=by simp
   rw[hs];rw[Bool.eq_iff_iff,List.all_eq_true,List.all_eq_true];constructor
   ·intro h b hb;obtain⟨i,hi,e⟩:=List.getElem_of_mem hb;have:=h i (List.mem_range.mpr hi);rw[List.getD_eq_getElem?_getD,List.getElem?_eq_getElem hi,e]at this;exact this
   ·intro h i hi;have hi:=List.mem_range.mp hi;rw[List.getD_eq_getElem?_getD,List.getElem?_eq_getElem hi];exact h _ (List.getElem_mem hi)
  rw[e];refine⟨.bl (bs.all id),H,I.kept (t':=tk) fun b o e=>?_,rfl,q⟩;exact kp b o (by simpa using Nat.ne_of_lt (Heap.lt_size e)) (Heap.get?_push_of_some _ e)
end L2
namespace U
open L2
variable {B:Bs}{X:Cx}
theorem gj{K:PySem.W.Frag}{H:Hp}:∀{bs:List Bool} {us:List V},RPs K H (bs.map PV.bl) us->us=bs.map V.bl
 | [],us,h=>by simpa[RPs]using h
 | b::bs,us,h=>by
  simp only[List.map_cons,RPs,RP]at h;obtain⟨u,r,rfl,rfl,h2⟩:=h;rw[gj h2];rfl
theorem iq{K:PySem.W.Frag}{H:Hp}:∀{bs:List Int},RPs K H (bs.map PV.int) (bs.map V.int)
 | []=>RPs.nil _
 | b::bs=>RPs.cons _ (by simp[RP]) iq
def BG:List PV->PHp->VK'->Prop:=dc fun x H Q=>match x with
 | .ref a=>∃bs:List Bool,H a=some (.lst (bs.map PV.bl))/\Q (.bl (bs.all id)) H
 | _=>False
theorem yi{K:PySem.W.Frag}:VC K B BG (Bq K):=by
 intro σ' σ H' H xs' xs Q' Q s r h k;obtain⟨x',x,rfl,rfl,rx,h⟩:=dc.ex h r;cases x' with
 | ref a =>
  obtain⟨bs,ea,q⟩:=h;simp only[RP]at rx;subst rx;obtain⟨us,e,r2⟩:=s.hp _ _ ea;rw[gj r2]at e;exact⟨a,bs,rfl,.inl (.inl e),k _ _ _ _ q (by simp[RP]) s (Ev.refl _ _)⟩
 | _=>exact h.elim
def xU:List PV->PHp->VK'->Prop:=dc fun x H Q=>match x with
 | .ref a=>∃ns:List Int,H a=some (.lst (ns.map PV.int))/\ns.length<64/\∀(r:Addr) (ms:List Int),H r=none->ms.Perm ns->ms.Pairwise (·≤·)->Q (.ref r) (put H r (.lst (ms.map PV.int)))
 | _=>False
end U
namespace SP
def hs:List Int:=[-1950498447580522560,7204814214171964562,-3550055125485641917,-4734289103435588629,-1440771752368011620,
 8409376899596376432,1773351652666409796,-6333845781340707986,3516302870623680066,1079245023883434373,
 -3119722376306286570,173794974761290439,-8422800446983873125,7586885779985432798,-1009709641759730766]
def prs:List (Int×Int):=[(0,1),(0,2),(1,2),(0,3),(1,3),(2,3),(0,4),(1,4),(2,4),(3,4),(0,5),(1,5),(2,5),(3,5),(4,5)]
def hp(p:Int×Int):Int:=reduceHash (Builtin.Tuple.tupleHashOf [p.1,p.2])
theorem Bn:prs.map hp=hs:=by decide +kernel
theorem lX{p:Int×Int}(h:p∈prs):hp p∈hs:=by rw[←Bn];exact List.mem_map.mpr ⟨p,h,rfl⟩
theorem y6:∀p∈prs,∀q∈prs,hp p=hp q->p=q:=by decide +kernel
theorem vE{u v:Int}(h0:0≤u)(h1:u<v)(h2:v<6):(u,v)∈prs:=by
 have hv:v=1∨v=2∨v=3∨v=4∨v=5:=by omega
 have hu:u=0∨u=1∨u=2∨u=3∨u=4:=by omega
 rcases hv with rfl | rfl | rfl | rfl | rfl<;>rcases hu with rfl | rfl | rfl | rfl | rfl<;>first |(exfalso;omega) | decide
def oU(mask:Nat)(p:SetTable.Probe):SetTable.Probe :=
 if p.more>0 then { p with j:=p.j+1,more:=p.more - 1 }else
 let (i,perturb):=SetTable.leap mask p.i p.perturb
 { p with j:=i,more:=SetTable.runEnd mask i - i,i,perturb }
theorem yl(t:SetTable)(p:SetTable.Probe):t.advance p=oU t.mask p:=rfl
theorem qc(mask:Nat)(p:SetTable.Probe):(oU mask p).dummy=p.dummy:=by unfold oU;split<;>rfl
def visit(mask:Nat):Nat->SetTable.Probe->List Nat
 | 0,_=>[]
 | f+1,p=>p.j::visit mask f (oU mask p)
def startM(mask:Nat)(h:Int):SetTable.Probe :=
 let i:=SetTable.bits h % (mask+1)
 { j:=i,more:=SetTable.runEnd mask i - i,i,perturb:=SetTable.bits h,dummy:=none }
theorem rW(t:SetTable)(h:Int):t.probeStart h=startM t.mask h:=rfl
theorem yC:∀h∈hs,∀j∈List.range 8,j∈visit 7 220 (startM 7 h):=by decide +kernel
theorem vB:∀h∈hs,∀j∈List.range 32,j∈visit 31 460 (startM 31 h):=by decide +kernel
theorem sI:∀(n:Nat) (l:List Nat),(∀j,j<n->j∈l)->n≤l.length
 | 0,_,_=>Nat.zero_le _
 | n+1,l,h=>by
  have hm:=h n (Nat.lt_succ_self n);have:=sI n (l.erase n) fun j hj=>(List.mem_erase_of_ne (by omega)).mpr (h j (by omega));rw[List.length_erase_of_mem hm]at this;have:0<l.length:=List.length_pos_of_mem hm;omega
theorem tF{n:Nat}{l:List Nat}(h:l.length<n):∃j,j<n/\j∉l :=
 Classical.byContradiction fun c=>absurd (sI n l fun j hj=>Classical.byContradiction fun q=>c ⟨j,hj,q⟩) (by omega)
theorem slot_of{t:SetTable}(hd:t.dummies=#[])(j:Nat):t.slot j=.empty∨∃i,t.slot j=.live i/\i<t.place.size/\j∈t.place.toList:=by
 unfold SetTable.slot;dsimp only;split
 ·rename_i h;have h':=beq_iff_eq.mp h;obtain⟨hi,e⟩:=Array.getElem?_eq_some_iff.mp h';refine .inr ⟨_,rfl,hi,?_⟩;rw[←e];exact Array.getElem_mem_toList hi
 ·left;have:SetTable.has t.dummies j=false:=by
   rw[hd];rfl
  rw[this];rfl
theorem lp{t:SetTable}{hashAt:Nat->Int}{h:Int}(hd:t.dummies=#[])(hn:∀i,i<t.place.size->hashAt i≠h):∀(fuel:Nat) (p:SetTable.Probe),p.dummy=none ->
  (∃j∈visit t.mask fuel p,j∉t.place.toList)->∃j,SetTable.probe.go t hashAt h fuel p=some (.empty j none)
 | 0,_,_,⟨_,hj,_⟩=>by simp[visit]at hj
 | f+1,p,hp,⟨j,hj,hjn⟩=>by
  unfold SetTable.probe.go;rcases slot_of hd p.j with e |⟨i,e,hi,hm⟩
  ·rw[e];dsimp only;exact⟨p.j,by rw[hp]⟩
  ·rw[e];dsimp only;rw[if_neg (by intro q;exact hn i hi (beq_iff_eq.mp q)),yl];refine lp hd hn f (oU t.mask p) (by rw[qc];exact hp) ⟨j,?_,hjn⟩;have hj':j=p.j∨j∈visit t.mask f (oU t.mask p):=List.mem_cons.mp hj;rcases hj' with rfl | hj'
   ·exact absurd hm hjn
   ·exact hj'
theorem rg{t:SetTable}{hashAt:Nat->Int}{h:Int}(hh:h∈hs)(hd:t.dummies=#[])(hn:∀i,i<t.place.size->hashAt i≠h)(hm:t.mask=7∨t.mask=31)(hsz:t.place.size≤t.mask) :
  ∃j,t.probe hashAt h (t.probeStart h)=some (.empty j none):=by
 unfold SetTable.probe;refine lp hd hn _ _ rfl ?_;obtain⟨j,hj,hjn⟩:=tF (n:=t.mask+1) (l:=t.place.toList) (by simpa using Nat.lt_succ_of_le hsz);refine⟨j,?_,hjn⟩;rw[rW];rcases hm with e | e
 ·rw[e]at hj ⊢;exact yC h hh j (List.mem_range.mpr hj)
 ·rw[e]at hj ⊢;exact vB h hh j (List.mem_range.mpr hj)
theorem qF(t:SetTable)(j:Nat):(t.put j).1.place.size=t.place.size+1:=by
 unfold SetTable.put SetTable.insertAt;dsimp only;simp only[Array.size_append,Array.size_push,Array.size_extract];omega
theorem lB{t:SetTable}(hd:t.dummies=#[])(j:Nat):(t.put j).1.dummies=#[]:=by
 unfold SetTable.put;dsimp only;rw[hd];rfl
theorem qw(t:SetTable)(j:Nat):(t.put j).1.mask=t.mask/\(t.put j).1.plain=t.plain:=⟨rfl,rfl⟩
theorem insertAt_perm{α:Type}(xs:Array α)(p:Nat)(x:α):(SetTable.insertAt xs p x).toList.Perm (x::xs.toList):=by
 unfold SetTable.insertAt;rw[Array.toList_append,Array.toList_push,List.append_assoc];have e:xs.toList=(xs.extract 0 p).toList++(xs.extract p xs.size).toList:=by
  rw[Array.toList_extract,Array.toList_extract];unfold List.extract;rw[List.drop_zero,Nat.sub_zero];have e2:(List.drop p xs.toList).take (xs.size - p)=List.drop p xs.toList:=List.take_of_length_le (by rw[List.length_drop];simp);rw[e2,List.take_append_drop]
 rw[e];exact List.perm_middle
def runs(mask:Nat):Nat->Nat->Nat->List Nat
 | 0,_,_=>[]
 | f+1,i,pt=>((List.range (SetTable.runEnd mask i+1 - i)).map (i+·))++runs mask f (SetTable.leap mask i pt).1 (SetTable.leap mask i pt).2
theorem zm:∀h∈hs,∀j∈List.range 32,j∈runs 31 46 (SetTable.bits h % 32) (SetTable.bits h):=by decide +kernel
theorem i7{mask:Nat}{owner:Array (Option Nat)}:∀(f i pt:Nat),(∃j∈runs mask f i pt,(owner.getD j (some 0)).isNone=true)->∃j,SetTable.layClean.free mask owner f i pt=some j/\(owner.getD j (some 0)).isNone=true
 | 0,_,_,⟨_,hj,_⟩=>by simp[runs]at hj
 | f+1,i,pt,⟨j,hj,hn⟩=>by
  unfold SetTable.layClean.free;cases e:(List.range (SetTable.runEnd mask i+1 - i)).find? fun k=>(owner.getD (i+k) (some 0)).isNone with
  | some k =>
   dsimp only;exact⟨i+k,rfl,by have:=List.find?_some e;exact this⟩
  | none =>
   dsimp only;rcases List.mem_append.mp hj with hj | hj
   ·obtain⟨k,hk,rfl⟩:=List.mem_map.mp hj;have:=List.find?_eq_none.mp e k hk;exact absurd hn this
   ·exact i7 f _ _ ⟨j,hj,hn⟩
theorem iK{α:Type}:∀(l:List (Option α)) (j:Nat) (k:α),l[j]?=some none->((l.set j (some k)).filterMap id).Perm (k::l.filterMap id)
 | [],_,_,h=>by simp at h
 | none::l,0,k,_=>by simp
 | some x::l,0,k,h=>by simp at h
 | none::l,j+1,k,h=>by
  have:=iK l j k (by simpa using h);simpa using this
 | some x::l,j+1,k,h=>by
  have:=iK l j k (by simpa using h);simp only[List.set_cons_succ,List.filterMap_cons_some (f:=id) rfl];exact(this.cons x).trans (List.Perm.swap k x _)
theorem cQ{α:Type}:∀(l:List (Option α)),(l.filterMap id).length<l.length->∃j:Nat,l[j]?=some none
 | [],h=>by simp at h
 | none::l,_=>⟨0,rfl⟩
 | some x::l,h=>by
  have h':(l.filterMap id).length<l.length:=by simpa using h
  obtain⟨j,e⟩:=cQ l h';exact⟨j+1,by simpa using e⟩
def g6(mask:Nat)(acc:Option (Array (Option Nat)×Nat))(h:Int):Option (Array (Option Nat)×Nat):=do
 let (owner,k)←acc
 let j←SetTable.layClean.free mask owner (SetTable.turns mask) (SetTable.bits h % (mask+1)) (SetTable.bits h)
 pure (owner.setIfInBounds j (some k),k+1)
theorem ky:∀(l:List Int) (owner:Array (Option Nat)) (k:Nat),(∀h∈l,h∈hs)->owner.size=32->(owner.toList.filterMap id).Perm (List.range k)->k+l.length≤32 ->
  ∃ow',l.foldl (g6 31) (some (owner,k))=some (ow',k+l.length)/\ow'.size=32/\(ow'.toList.filterMap id).Perm (List.range (k+l.length))
 | [],owner,k,_,hs,hp,_=>⟨owner,rfl,hs,hp⟩
 | h::l,owner,k,hh,hsz,hp,hl=>by
  have hlen:(owner.toList.filterMap id).length=k:=by rw[hp.length_eq,List.length_range]
  obtain⟨j,hj⟩:=cQ owner.toList (by rw[hlen];simp only[List.length_cons]at hl;rw[show owner.toList.length=32 by simpa using hsz];omega);have hjlt:j<32:=by
   have:=(List.getElem?_eq_some_iff.mp hj).1;simpa[hsz]using this
  have hnone:∀j,(owner.getD j (some 0)).isNone=true->owner.toList[j]?=some none:=fun j q=>by
   rw[Array.getElem?_toList];unfold Array.getD at q;split at q
   ·rename_i hlt;rw[Array.getElem?_eq_getElem hlt];cases e:owner[j]with
    | none=>rfl
    | some x =>
     have q':(owner[j]).isNone=true:=q;rw[e]at q';cases q'
   ·cases q
  obtain⟨j',ej,hn⟩:=i7 (mask:=31) (owner:=owner) 46 (SetTable.bits h % 32) (SetTable.bits h) ⟨j,zm h (hh h List.mem_cons_self) j (List.mem_range.mpr hjlt),by
   unfold Array.getD;rw[dif_pos (by rw[hsz];exact hjlt)];rw[Array.getElem?_toList,Array.getElem?_eq_getElem (by rw[hsz];exact hjlt)]at hj;have:=Option.some.inj hj;show(owner[j]).isNone=true;rw[this];rfl⟩
  have est:g6 31 (some (owner,k)) h=some (owner.setIfInBounds j' (some k),k+1):=by
   unfold g6;show(SetTable.layClean.free 31 owner (SetTable.turns 31) (SetTable.bits h % 32) (SetTable.bits h) >>= fun j=>pure (owner.setIfInBounds j (some k),k+1))=_;rw[show SetTable.turns 31=46 from rfl,ej];rfl
  have hp':((owner.setIfInBounds j' (some k)).toList.filterMap id).Perm (List.range (k+1)):=by
   rw[Array.toList_setIfInBounds];refine(iK _ _ _ (hnone j' hn)).trans ?_;rw[List.range_succ];exact(hp.cons k).trans (List.perm_append_singleton k _).symm
  obtain⟨ow',e1,e2,e3⟩:=ky l (owner.setIfInBounds j' (some k)) (k+1) (fun x hx=>hh x (List.mem_cons_of_mem _ hx)) (by simpa using hsz) hp' (by simp only[List.length_cons]at hl;omega);refine⟨ow',?_,e2,?_⟩
  ·rw[List.foldl_cons,est,e1];simp only[List.length_cons];congr 2;omega
  ·rw[List.length_cons,show k+(l.length+1)=k+1+l.length by omega];exact e3
theorem oQ{t:SetTable}{hashes:Array Int}{wanted:Nat}(hw:SetTable.sizeAbove wanted=32)(hh:∀h∈hashes.toList,h∈hs)(hl:hashes.size≤32) :
  ∃t' order,t.relaid hashes wanted=some (t',order)/\t'.mask=31/\t'.dummies=#[]/\t'.place.size=hashes.size/\order.toList.Perm (List.range hashes.size)/\t'.plain=t.plain:=by
 have e0:(Array.replicate 32 (none:Option Nat)).toList.filterMap id=[]:=by decide
 obtain⟨ow,e1,e2,e3⟩:=ky hashes.toList (Array.replicate 32 none) 0 hh (by simp) (by rw[e0];exact List.Perm.refl _) (by simpa using hl);rw[Nat.zero_add]at e1 e3;have hlc:SetTable.layClean 31 hashes=some ow:=by
  unfold SetTable.layClean;rw[←Array.foldl_toList];show Option.map (·.1) (hashes.toList.foldl (g6 31) (some (Array.replicate 32 none,0)))=_;rw[e1];rfl
 have live2:((List.range 32).filterMap fun j=>(ow.getD j none).map ((j,·):Nat->Nat×Nat)).map (·.2)=ow.toList.filterMap id:=by
  have gen:∀(l:List (Option Nat)) (n:Nat),((l.zipIdx n).filterMap (fun q=>q.1.map ((q.2,·):Nat->Nat×Nat))).map (·.2)=l.filterMap id:=by
   intro l
   induction l with
   | nil=>intro n;rfl
   | cons a l ih =>
    intro n;rw[List.zipIdx_cons];cases a with
    | none=>simpa using ih (n+1)
    | some x=>simpa using ih (n+1)
  rw[←gen ow.toList 0];congr 1;have ez:ow.toList.zipIdx 0=(List.range 32).map fun j=>(ow.getD j none,j):=by
   apply List.ext_getElem?;intro j;rw[List.getElem?_zipIdx,List.getElem?_map];by_cases hj:j<32
   ·rw[List.getElem?_range hj,Array.getElem?_toList,Array.getElem?_eq_getElem (by rw[e2];exact hj)];simp[Array.getD,e2,hj]
   ·rw[List.getElem?_eq_none (show ow.toList.length≤j by simpa[e2]using Nat.le_of_not_lt hj),List.getElem?_eq_none (show(List.range 32).length≤j by simpa using Nat.le_of_not_lt hj)];rfl
  rw[ez,List.filterMap_map];rfl
 have hlen:(ow.toList.filterMap id).length=hashes.size:=by rw[e3.length_eq,List.length_range];simp
 refine⟨{ mask:=31,place:=(((List.range 32).filterMap fun j=>(ow.getD j none).map ((j,·):Nat->Nat×Nat)).map (·.1)).toArray,dummies:=#[],finger:=t.finger,led:=t.led,moves:=t.movedTo 31,plain:=t.plain },
  (((List.range 32).filterMap fun j=>(ow.getD j none).map ((j,·):Nat->Nat×Nat)).map (·.2)).toArray,by
  unfold SetTable.relaid SetTable.laid;rw[hw];show(SetTable.layClean 31 hashes >>= _)=_;rw[hlc];rfl,rfl,rfl,?_,?_,rfl⟩
 ·show(((List.range 32).filterMap fun j=>(ow.getD j none).map ((j,·):Nat->Nat×Nat)).map (·.1)).toArray.size=_;rw[List.size_toArray,List.length_map,← hlen,← live2,List.length_map]
 ·show((((List.range 32).filterMap fun j=>(ow.getD j none).map ((j,·):Nat->Nat×Nat)).map (·.2)).toArray).toList.Perm _;rw[live2];have:hashes.size=hashes.toList.length:=by simp
  rw[this];exact e3
theorem lW{α:Type}{es:Array α}{order:Array Nat}(h:order.toList.Perm (List.range es.size)):(order.filterMap (es[·]?)).toList.Perm es.toList:=by
 have e:(order.filterMap (es[·]?)).toList=order.toList.filterMap (es[·]?):=by simp
 rw[e];refine(h.filterMap _).trans ?_;have:(List.range es.size).filterMap (es[·]?)=es.toList:=by
  apply List.ext_getElem?;intro i;have gen:∀n,n≤es.size->(List.range n).filterMap (es[·]?)=es.toList.take n:=by
   intro n
   induction n with
   | zero=>intro _;simp
   | succ n ih =>
    intro hn;rw[List.range_succ,List.filterMap_append,ih (by omega),List.take_add_one];simp[Array.getElem?_eq_getElem (show n<es.size by omega)]
  rw[gen es.size (Nat.le_refl _),List.take_of_length_le (by simp)]
 rw[this]
end SP
namespace SP
section
variable {prog:Program}{w:World}{A:Around}{E:Value->Shared->Prop}{s:Shared}
structure ll (h:Heap) (S:Addr) (done:List (Int × Int)):Prop where
 is:∃es ep t,h.get? S=some { cls:=.type "set",dict:=none,data:=.set es ep t }/\t.dummies=#[]/\t.place.size=es.size/\es.size=done.length/\((t.mask=7/\es.size≤4)∨(t.mask=31/\es.size≤18)) /\
  ∀e∈es.toList,∃p∈done,e.1=hp p
theorem fits_of{t:SetTable}{n:Nat}(hd:t.dummies=#[])(h1:t.place.size=n)(h2:n≤t.mask):t.fits n=true:=by
 unfold SetTable.fits SetTable.fill;rw[hd];simp[h1,h2]
theorem pH(u v:Int)(h:(u,v)∈prs):tupleKeyHash (intKind prog w) [u,v]=hp (u,v):=by
 have key:∀p∈prs,hashInt p.1=p.1/\hashInt p.2=p.2:=by decide +kernel
 obtain⟨h1,h2⟩:=key _ h;show reduceHash (Builtin.Tuple.tupleHashOf [hashInt u,hashInt v])=reduceHash (Builtin.Tuple.tupleHashOf [u,v]);have h1':hashInt u=u:=h1;have h2':hashInt v=v:=h2;rw[h1',h2']
theorem vH{ks:List Int}{vs:List Value}(h:ItemsAre (intKind prog w) ks vs):∀x∈vs,∃i t,x=.int i t:=by
 induction h with
 | nil=>intro x hx;simp at hx
 | cons h1 _ ih =>
  intro x hx;rcases List.mem_cons.mp hx with rfl | hx
  ·obtain⟨t,rfl⟩:=Value.isInt_shape h1;exact⟨_,t,rfl⟩
  ·exact ih x hx
theorem gy{a:Addr}{u v:Int}{Q:Bool->Shared->Prop}(hk:IsTupleKey (intKind prog w) s.heap [u,v] a)(h:Q true s):wpAny (model prog w) A (hashByValue 8 (.ref a)) Q E s:=by
 have hT:=hk.typeIs;obtain⟨o,items,n,ho,hc,hd,hi⟩:=hk;unfold hashByValue;refine wpAny_bind (wpAny_specialOf hT F.slot_tuple_hash.lookup ?_);show wpAny _ _ (seqItems? (.ref a) >>= _) _ _ s;refine wpAny_bind (wpAny_seqItems ho hd ?_);refine wpAny_bind ?_;show wpAny _ _ (forIn items _ _) _ _ s;rw[←Array.forIn_toList];have hall:=vH hi;refine wpAny_forIn_list _ (fun rest r s'=>r.1=none/\s'=s/\∀v∈rest,∃i t,v=.int i t) _ ?_ ?_ _ _ ⟨rfl,rfl,hall⟩
 ·rintro v rest r s' ⟨hr,rfl,hall⟩;obtain⟨i,t,rfl⟩:=hall v List.mem_cons_self;show wpAny _ _ (pure true >>= _) _ _ _;refine wpAny_bind (wpAny_pure ?_);simp only[Bool.not_true,Bool.false_eq_true,if_false];exact wpAny_pure ⟨rfl,rfl,fun u hu'=>hall u (List.mem_cons_of_mem _ hu')⟩
 ·rintro⟨r1,r2⟩ s' ⟨hr,rfl,_⟩;simp only at hr;subst hr;exact wpAny_pure h
theorem lr{S a:Addr}{done:List (Int×Int)}{u v:Int}{Q:Bool->Shared->Prop}(hu:A.units<cLine)(hk:IsTupleKey (intKind prog w) s.heap [u,v] a)(hP:ll s.heap S done)(hin:(u,v)∈prs)(hd:∀p∈done,p∈prs)
  (hn:(u,v)∉done) (hlen:done.length<15)
  (h:∀h' tk,Heap.SameBut S s.heap h'->ll h' S (done++[(u,v)])->Q true { s with heap:=h',toks:=tk }):wpAny (model prog w) A (setAdd S (.ref a)) Q E s:=by
 obtain⟨es,ep,t,ho,htd,hts,hes,hm,hh⟩:=hP.is;have hsa:S≠a:=by
  rintro rfl;obtain⟨o,items,n,ho',hc,_⟩:=hk;rw[ho]at ho';cases ho';exact absurd (show Value.type "set"=Value.type "tuple" from hc) (by decide)
 unfold setAdd;refine wpAny_holding (wpAny_bind (wpAny_pyHash_tuple hu hk ?_));rw[pH u v hin];generalize hs':({ s with toks:=s.toks+([u,v].length+1) }:Shared)=s1;have e1:s1.heap=s.heap:=by rw[←hs']
 have ho1:s1.heap.get? S=some { cls:=.type "set",dict:=none,data:=.set es ep t }:=by rw[e1];exact ho
 have hk1:IsTupleKey (intKind prog w) s1.heap [u,v] a:=by rw[e1];exact hk
 have hmk:es.size≤t.mask:=by omega
 have hf:t.fits es.size=true:=fits_of htd hts hmk;unfold setAddHashed;refine wpAny_holding ?_;show wpAny _ _ (setAddHashedIn S (.ref a) (hp (u,v)) (99999+1)) _ _ _;unfold setAddHashedIn;refine wpAny_bind (wpAny_setState_of ho1 rfl hf ?_);dsimp only;have hbs:byScan (.ref a) es=false:=rfl;rw[hbs];simp only[Bool.false_eq_true,if_false];obtain⟨j,hj⟩:=rg (t:=t) (hashAt:=fun i=>(es[i]?.map (·.1)).getD 0) (h:=hp (u,v)) (lX hin) htd (fun i hi q=>by
  rw[hts]at hi;rw[Array.getElem?_eq_getElem hi]at q;have q':(es[i]).1=hp (u,v):=q;obtain⟨p,hpd,e⟩:=hh es[i] (Array.getElem_mem_toList hi);rw[e]at q';exact hn (y6 p (hd p hpd) _ hin q'▸hpd)) (by omega) (by omega)
 unfold setSearch;show wpAny _ _ (setSearchFrom S (.ref a) (hp (u,v)) true (99999+1) none >>= _) _ _ _;unfold setSearchFrom;refine wpAny_bind (wpAny_bind (wpAny_setState_of ho1 rfl hf ?_));dsimp only;have hgw:t.gaveWay=false:=by
  unfold SetTable.gaveWay;rcases hm with hm | hm<;>rw[hm.1]<;>rfl
 rw[hgw,if_neg (by decide)];generalize hX:t.probe _ (hp (u,v)) (none.getD (t.probeStart (hp (u,v))))=X0;have hX':X0=some (.empty j none):=by rw[←hX];exact hj
 subst hX';dsimp only;refine wpAny_pure ?_;dsimp only;refine wpAny_bind (wpAny_setState_of ho1 rfl hf ?_);dsimp only;have hps:=qF t j;have hpd:=lB htd j;obtain⟨hpm,hpp⟩:=qw t j;have hip:=insertAt_perm es (t.put j).2 (hp (u,v),Value.ref a);have his:(SetTable.insertAt es (t.put j).2 (hp (u,v),Value.ref a)).size=es.size+1:=by
  have:=hip.length_eq;simpa using this
 have hash':∀e∈(SetTable.insertAt es (t.put j).2 (hp (u,v),Value.ref a)).toList,∃p∈done++[(u,v)],e.1=hp p:=fun e he=>by
  rcases List.mem_cons.mp (hip.mem_iff.mp he)with rfl | he
  ·exact⟨(u,v),by simp,rfl⟩
  ·obtain⟨p,h1,h2⟩:=hh e he;exact⟨p,List.mem_append_left _ h1,h2⟩
 have last:wpAny (model prog w) A (do
   storeSet S (SetTable.insertAt es (t.put j).2 (hp (u,v),Value.ref a)) (t.put j).1
   if (!false&&(t.put j).1.tooFull)=true then do
    setRelay S (SetTable.grown (es.size+1))
    pure true
   else pure true) Q E s1:=by
  refine wpAny_bind (wpAny_storeSet_of ho1 rfl ?_ (by rw[his,sizeLine_eq];omega));have hg:(s1.heap.update S (Obj.putSet (SetTable.insertAt es (t.put j).2 (hp (u,v),Value.ref a)) (t.put j).1)).get? S=some { cls:=.type "set",dict:=none,data:=.set (SetTable.insertAt es (t.put j).2 (hp (u,v),Value.ref a)) (ep+1) (t.put j).1 } :=
   Heap.get?_update_self _ ho1 rfl
  have sb1:Heap.SameBut S s.heap (s1.heap.update S (Obj.putSet (SetTable.insertAt es (t.put j).2 (hp (u,v),Value.ref a)) (t.put j).1)):=by rw[e1];exact Heap.SameBut.update ..
  have hs1:∀hh':Heap,({ s1 with heap:=hh' }:Shared)={ s with heap:=hh',toks:=s1.toks }:=fun hh'=>by rw[←hs']
  by_cases hfull:(t.put j).1.tooFull=true
  ·rw[hfull,if_pos (by rfl)];have hfu:((t.put j).1.place.size+(t.put j).1.dummies.size)*5≥(t.put j).1.mask*3:=by
    have q:=hfull;unfold SetTable.tooFull SetTable.fill at q;exact of_decide_eq_true q
   rw[hps,hpd,hpm,hts]at hfu;have hz:(#[]:Array Nat).size=0:=rfl;rw[hz]at hfu;have h5:t.mask=7/\es.size=4:=by omega
   have hw:SetTable.grown (es.size+1)=20:=by rw[h5.2];rfl
   rw[hw];have hf2:(t.put j).1.fits (SetTable.insertAt es (t.put j).2 (hp (u,v),Value.ref a)).size=true:=fits_of hpd (by rw[hps,his,hts]) (by rw[his,hpm];omega);obtain⟨t',order,r1,r2,r3,r4,r5,r6⟩:=oQ (t:=(t.put j).1) (hashes:=(SetTable.insertAt es (t.put j).2 (hp (u,v),Value.ref a)).map (·.1)) (wanted:=20) rfl (fun h0 hm0=>by
    rw[Array.toList_map]at hm0;obtain⟨e,he,rfl⟩:=List.mem_map.mp hm0;obtain⟨p,hp1,hp2⟩:=hash' e he;rw[hp2];rcases List.mem_append.mp hp1 with q | q
    ·exact lX (hd p q)
    ·rw[List.mem_singleton.mp q];exact lX hin) (by rw[Array.size_map,his];omega)
   rw[Array.size_map]at r4 r5;have op:=lW r5;have osz:(order.filterMap ((SetTable.insertAt es (t.put j).2 (hp (u,v),Value.ref a))[·]?)).size=(SetTable.insertAt es (t.put j).2 (hp (u,v),Value.ref a)).size:=by
    rw[←Array.length_toList,← Array.length_toList];exact op.length_eq
   unfold setRelay;refine wpAny_bind (wpAny_bind (wpAny_setState_of hg rfl hf2 ?_));dsimp only;rw[if_neg (show ¬SetTable.sizeAbove 20>sizeLine by rw[sizeLine_eq];decide)];refine wpAny_bind ?_;rw[r1];show wpAny _ _ (if (Array.size (order.filterMap ((SetTable.insertAt es (t.put j).2 (hp (u,v),Value.ref a))[·]?)) !=(SetTable.insertAt es (t.put j).2 (hp (u,v),Value.ref a)).size)=true then _ else _) _ _ _;rw[if_neg (by rw[osz];simp)];refine wpAny_pure ?_;dsimp only;refine wpAny_storeSet_of hg rfl ?_ (by rw[osz,his,sizeLine_eq];omega);refine wpAny_pure ?_;have hg3:=Heap.get?_update_self (Obj.putSet (order.filterMap ((SetTable.insertAt es (t.put j).2 (hp (u,v),Value.ref a))[·]?)) t') hg rfl;rw[hs1];refine h _ _ (sb1.trans (Heap.SameBut.update ..)) ⟨_,_,_,hg3,r3,by rw[r4,osz],by rw[osz,his,hes];simp,.inr ⟨r2,by rw[osz,his];omega⟩,fun e he=>hash' e (op.mem_iff.mp he)⟩
  ·rw[Bool.not_eq_true]at hfull;rw[hfull,if_neg (by decide)];refine wpAny_pure ?_;rw[hs1];refine h _ _ sb1 ⟨_,_,_,hg,hpd,by rw[hps,his,hts],by rw[his,hes];simp,?_,hash'⟩;have hfu:¬((t.put j).1.place.size+(t.put j).1.dummies.size)*5≥(t.put j).1.mask*3:=by
    have q:=hfull;unfold SetTable.tooFull SetTable.fill at q;exact of_decide_eq_false q
   rw[hps,hpd,hpm,hts]at hfu;have hz:(#[]:Array Nat).size=0:=rfl;rw[hz]at hfu;rw[his,hpm];omega
 by_cases hpl:(t.put j).1.plain=true
 ·rw[if_pos hpl];refine wpAny_bind (gy hk1 ?_);exact last
 ·rw[if_neg hpl];refine wpAny_bind (wpAny_pure ?_);exact last
def qJ(h:Heap)(vs:List Value)(ps:List (Int×Int)):Prop:=∀(i:Nat) (v:Value),vs[i]?=some v->∃a p,v=.ref a/\ps[i]?=some p/\IsTupleKey (intKind prog w) h [p.1,p.2] a
theorem qH{h h':Heap}{S a:Addr}{u v:Int}{es:Array (Int×Value)}{ep:Nat}{t:SetTable}(x:IsTupleKey (intKind prog w) h [u,v] a)(ho:h.get? S=some { cls:=.type "set",dict:=none,data:=.set es ep t })
  (sb:∀b o,b≠S->h.get? b=some o->h'.get? b=some o):IsTupleKey (intKind prog w) h' [u,v] a:=by
 obtain⟨o,items,n,e,c,d,i⟩:=x;refine⟨o,items,n,sb a o ?_ e,c,d,i⟩;rintro rfl;rw[ho]at e;cases e;cases d
theorem pG{S I l:Addr}{vs:List Value}{ps:List (Int×Int)}{R:Result->Shared->Prop}(hu:A.units+1<cLine)(hh:A.in1.handled=none)(hlen:vs.length=ps.length)(hl15:ps.length≤15)(hnd:ps.Nodup)(hin:∀p∈ps,p∈prs)
  (hSI:S≠I) (hSl:S≠l) (hlI:l≠I):∀(k i:Nat) (s:Shared),ps.length - i=k->i≤ps.length->s.heap.IsListIter I l i->s.heap.IsList l vs.toArray->qJ (prog:=prog) (w:=w) s.heap vs ps->ll s.heap S (ps.take i) ->
   (∀h' tk,(∀b o,b≠S->b≠I->s.heap.get? b=some o->h'.get? b=some o)->ll h' S ps->R (.ok (.ret .none)) { s with heap:=h',toks:=tk }) ->
   codeAny (model prog w) A (.builtin "set.update.loop" ⟨[.ref S,.ref I],[]⟩) R s:=by
 intro k
 induction k with
 | zero =>
  intro i s hk hi hit hl hT hP hR;have e:i=ps.length:=by omega
  subst e;rw[List.take_length]at hP;refine codeAny_builtin F.entry_set_update_loop ?_;rw[Around.under_plainId F.plain_set_update_loop _];show wpAny _ A.in1 (pyNext (.ref I) >>= _) _ _ s;refine wpAny_bind (wpAny_pyNext_list_end hh hit hl (by simp[hlen]) fun h' eb=>?_);show wpAny _ A.in1 (ret Value.none) _ _ _;refine wpAny_pure (hR h' s.toks (fun b o _ hb e=>eb b o hb e) ?_);obtain⟨es,ep,t,ho,r⟩:=hP.is;exact⟨es,ep,t,eb S _ hSI ho,r⟩
 | succ k ih =>
  intro i s hk hi hit hl hT hP hR;have hlt:i<ps.length:=by omega
  have hvi:vs[i]?=some vs[i]:=List.getElem?_eq_getElem (by omega);obtain⟨a,p,ev,ep,key⟩:=hT i _ hvi;refine codeAny_builtin F.entry_set_update_loop ?_;rw[Around.under_plainId F.plain_set_update_loop _];show wpAny _ A.in1 (pyNext (.ref I) >>= _) _ _ s;refine wpAny_bind (wpAny_pyNext_list_item hit hl (x:=.ref a) (by rw[←ev];simp) fun h1 hit1 sb1=>?_);have k1:∀b o,b≠I->s.heap.get? b=some o->h1.get? b=some o:=fun b o hb e=>sb1.extBut b o hb e;obtain⟨es,epo,t,ho,r⟩:=id hP.is;have hP1:ll h1 S (ps.take i):=⟨es,epo,t,k1 S _ hSI ho,r⟩;have key1:IsTupleKey (intKind prog w) h1 [p.1,p.2] a:=by
   obtain⟨o,items,n,e,c,d,ii⟩:=key;refine⟨o,items,n,k1 a o ?_ e,c,d,ii⟩;rintro rfl;obtain⟨oi,hoi,hci,_⟩:=hit;rw[hoi]at e;cases e;rw[hci]at c;exact absurd c (by decide)
  show wpAny _ A.in1 (holding [Value.ref a] (setAdd S (.ref a)) >>= _) _ _ _;have hmem:p∈ps:=List.mem_of_getElem? ep;have hnot:p∉ps.take i:=fun hm=>by
   obtain⟨j,hj,e⟩:=List.mem_iff_getElem.mp hm;rw[List.getElem_take]at e;rw[List.length_take]at hj;obtain⟨hi',e'⟩:=List.getElem?_eq_some_iff.mp ep;have:=(List.getElem_inj hnd (h₀:=by omega) (h₁:=hi')).mp (e.trans e'.symm);omega
  refine wpAny_bind (wpAny_holding (lr (u:=p.1) (v:=p.2) (A:=A.in1) (by show A.units+1<cLine;exact hu) key1 hP1 (hin p hmem) (fun q hq=>hin q (List.mem_of_mem_take hq)) hnot (by rw[List.length_take];omega) fun h2 tk sb2 hP2=>?_));have k2:∀b o,b≠S->h1.get? b=some o->h2.get? b=some o:=fun b o hb e=>sb2.extBut b o hb e;have et:ps.take i++[p]=ps.take (i+1):=by rw[List.take_add_one,ep];rfl
  refine wpAny_pure ⟨plainId_quiet F.plain_set_update_loop _,ih (i+1) { s with heap:=h2,toks:=tk } (by omega) (by omega) (hit1.extBut (fun b o hb e=>k2 b o hb e) (Ne.symm hSI)) ?_ ?_ (by rw[←et];exact hP2) ?_⟩
  ·exact(hl.extBut (fun b o hb e=>k1 b o hb e) hlI).extBut (fun b o hb e=>k2 b o hb e) (Ne.symm hSl)
  ·intro j v hv;obtain⟨a',p',e1',e2',key'⟩:=hT j v hv;refine⟨a',p',e1',e2',qH ?_ (k1 S _ hSI ho) k2⟩;obtain⟨o,items,n,e,c,d,ii⟩:=key';refine⟨o,items,n,k1 a' o ?_ e,c,d,ii⟩;rintro rfl;obtain⟨oi,hoi,hci,_⟩:=hit;rw[hoi]at e;cases e;rw[hci]at c;exact absurd c (by decide)
  ·intro h3 tk3 kp hP3;exact hR h3 tk3 (fun b o hb hb' e=>kp b o hb hb' (k2 b o hb (k1 b o hb' e))) hP3
set_option maxHeartbeats 4000000 in
theorem iD{l:Addr}{vs:List Value}{ps:List (Int×Int)}{Q:Value->Shared->Prop}(hu:A.units+8<cLine)(hh:A.handled=none)(hl:s.heap.IsList l vs.toArray)(hlen:vs.length=ps.length)(hl15:ps.length≤15)
  (hnd:ps.Nodup) (hin:∀p∈ps,p∈prs) (hT:qJ (prog:=prog) (w:=w) s.heap vs ps)
  (h:∀h' tk,(∀b o,b<s.heap.objs.size->s.heap.get? b=some o->h'.get? b=some o)->ll h' s.heap.objs.size ps->Q (.ref s.heap.objs.size) { s with heap:=h',toks:=tk }) :
  wpAny (model prog w) A (call (.type "set") [.ref l]) Q E s:=by
 obtain⟨c0,tl0,mro0⟩:=F.called_set.mro;have made0:=F.called_set.made;have sub0:=F.called_set.sub;have nt0:=F.called_set.notType;have cc0:=F.called_set.canCreate;have tc0:=F.typeCall_set_1 (.ref l);refine wpAny_call (codeAny_of_tree ?_);show wpAny _ _ (callAny (.type "set") _) _ _ _;refine wpAny_pure ⟨Code.quiet_builtin _ (by decide +kernel),codeAny_builtin F.entry_type_call ?_⟩;rw[Around.under_plain (weight_type_call_type "set" [.ref l] []) rfl]
 repeat (any_goals (first | assumption | wp_step))
 refine codeAny_mono (code_set_new_1 (.ref l) (E:=E) (Q₁:=fun obj s1=>∃led:Bool,obj=.ref s.heap.objs.size /\
  s1={ s with heap:=s.heap.push { cls:=.type "set",dict:=none,data:=.set #[] 0 (.fresh 0 0 led) } }) fun led=>⟨led,rfl,rfl⟩) fun r s1 hr=>?_
 cases r with
 | error e=>exact hr
 | ok fl =>
  cases fl with
  | ret obj =>
   obtain⟨led,rfl,rfl⟩:=hr;generalize hH:s.heap.push { cls:=.type "set",dict:=none,data:=.set #[] 0 (.fresh 0 0 led) }=H1;have hS:H1.get? s.heap.objs.size=some { cls:=.type "set",dict:=none,data:=.set #[] 0 (.fresh 0 0 led) }:=by rw[←hH];exact Heap.get?_push_size _ rfl
   have old:∀b o,s.heap.get? b=some o->H1.get? b=some o:=fun b o e=>by rw[←hH];exact Heap.get?_push_of_some _ e
   have hsz:H1.objs.size=s.heap.objs.size+1:=by rw[←hH,Heap.size_push]
   have tyS:Shared.TypeIs { s with heap:=H1 } (.ref s.heap.objs.size) "set":=⟨_,hS,rfl⟩;have li0:=F.called_set.init.lookup;have bi0:=F.called_set.init.bind (.ref s.heap.objs.size)
   repeat (any_goals (first | assumption | wp_step))
   refine codeAny_mono (codeAny_call_builtin (R:=wants (fun r s2=>r=.none/\∃h' tk,s2={ s with heap:=h',toks:=tk }/\ll h' s.heap.objs.size ps /\
    (∀b o,b<s.heap.objs.size->s.heap.get? b=some o->h'.get? b=some o)) E) F.called_set.init.plain F.entry_set_init (check_set_init_1 tyS ?_)) fun r2 s2 hr2=>?_
   ·obtain⟨ol,hol,hcl,nl,hdl⟩:=hl;obtain⟨oc,od,oda,osl⟩:=ol;simp only at hcl hdl;subst hcl;subst hdl;have hol1:H1.get? l=some { cls:=.type "list",dict:=od,data:=.seq vs.toArray nl,slots:=osl }:=old _ _ hol;have sls:=F.sub_list_set;have slf:=F.sub_list_frozenset;have nld:(Value.type "list"==Value.type "dict")=false:=by decide
    have hl1:H1.IsList l vs.toArray:=⟨_,hol1,rfl,nl,rfl⟩;have llt:l<s.heap.objs.size:=Heap.lt_size hol;unfold Builtin.«set.__init__» noKeywords Builtin.Frozenset.updateFrom;generalize hPI:pyIter=PI
    wp_walk
    subst hPI;refine wpAny_pyIter_list hl1 ?_;refine wpAny_bind (wpAny_runValue ?_);generalize hH2:H1.push { cls:=.type "list_iterator",data:=.fields #[.ref l,.int 0 0] }=H2;have old2:∀b o,H1.get? b=some o->H2.get? b=some o:=fun b o e=>by rw[←hH2];exact Heap.get?_push_of_some _ e
    refine pG (l:=l) (ps:=ps) (vs:=vs) (by show A.units+1+1+1<cLine;omega) (by simp[hh]) hlen hl15 hnd hin (by show s.heap.objs.size≠H1.objs.size;rw[hsz];exact Nat.ne_of_lt (Nat.lt_succ_self _)) (Nat.ne_of_gt llt) (by show l≠H1.objs.size;rw[hsz];exact Nat.ne_of_lt (Nat.lt_succ_of_lt llt)) ps.length 0 _ (by omega) (Nat.zero_le _) ?_ ?_ ?_ ?_ ?_
    ·rw[←hH2];exact⟨_,Heap.get?_push_size _ rfl,rfl,rfl⟩
    ·exact⟨_,old2 _ _ hol1,rfl,nl,rfl⟩
    ·intro i v hv;obtain⟨a,p,e1,e2,o,items,n,e,r⟩:=hT i v hv;exact⟨a,p,e1,e2,o,items,n,old2 _ _ (old _ _ e),r⟩
    ·exact⟨#[],0,.fresh 0 0 led,old2 _ _ hS,rfl,rfl,rfl,.inl ⟨rfl,by decide⟩,fun e he=>by simp at he⟩
    ·intro h' tk kp hP;show wpAny _ _ (pure ()) _ _ _;refine wpAny_pure ?_;show wpAny _ _ (ret Value.none) _ _ _;refine wpAny_pure ⟨rfl,h',tk,rfl,hP,fun b o hb e=>?_⟩;refine kp b o (Nat.ne_of_lt hb) ?_ (old2 _ _ (old _ _ e));show b≠H1.objs.size;rw[hsz];exact Nat.ne_of_lt (Nat.lt_succ_of_lt hb)
   ·cases r2 with
    | error e=>exact hr2
    | ok f2 =>
     cases f2 with
     | ret r =>
      obtain⟨rfl,h',tk,rfl,hP,hk⟩:=hr2
      repeat (any_goals (first | assumption | wp_step))
      exact h _ _ hk hP
     | _=>exact hr2.elim
  | _=>exact hr.elim
end
end SP
namespace L2
variable {X:Cx}
def ue(S:Addr)(n:Nat):Heap->Prop:=fun h=>∃es ep t,h.get? S=some { cls:=.type "set",dict:=none,data:=.set es ep t }/\es.size=n/\t.fits es.size=true
def Prs(K:PySem.W.Frag)(H:Hp)(us:List V)(ps:List (Int×Int)):Prop:=Paired (fun(u:V) (p:Int×Int)=>∃t,u=.ref t/\SqT K H t [.int p.1,.int p.2]) us ps
theorem j2{K:PySem.W.Frag}{H:Hp}:∀{us:List V} {ps:List (Int×Int)} {i:Nat} {u:V},Prs K H us ps->us[i]?=some u->∃p t,ps[i]?=some p/\u=.ref t/\SqT K H t [.int p.1,.int p.2]
 | [],_,i,u,_,e=>by simp at e
 | _::_,_::_,0,u,.cons h _,e=>by
  obtain⟨t,h1,h2⟩:=h;simp at e;subst e;exact⟨_,t,by simp,h1,h2⟩
 | _::_,_::_,i+1,u,.cons _ t,e=>by
  obtain⟨p,a,e1,e2⟩:=j2 (i:=i) (u:=u) t (by simpa using e);exact⟨p,a,by simpa using e1,e2⟩
theorem jA{K:PySem.W.Frag}{H:Hp}{us:List V}{ps:List (Int×Int)}(h:Prs K H us ps):us.length=ps.length:=Paired.length h
theorem oZ(hc:X.calm=true)(hu:X.A.units+64<cLine):cf X (.type "set") (fun xs H Q=>∃(a:Addr) (us:List V) (ps:List (Int×Int)),xs=[.ref a]/\SqL X.K H a us/\Prs X.K H us ps/\ps.Nodup/\(∀p∈ps,p∈SP.prs)/\ps.length≤15/\∀S,H S=none->Q (.ref S) (upd H S (.ext (ue S ps.length)))):=by
 intro pins s σ H xs us Q I r h;obtain⟨a,ws,ps,rfl,hq,hP,nd,hin,h15,q⟩:=h;obtain⟨u,rfl,ru⟩:=Vals.one r;cases ru;obtain⟨its,rv,p,hz⟩:=I.list hq;have hlen:its.length=ps.length:=rv.length.symm.trans (jA hP);refine SP.iD (by omega) (I.ok.hd hc) p.isList hlen h15 nd hin ?_ fun h' tk kp P=>?_
 ·intro i v hv;have hi:i<ws.length:=by rw[rv.length];exact(List.getElem?_eq_some_iff.mp hv).1
  obtain⟨pr,t,e1,e2,hs⟩:=j2 (i:=i) hP (List.getElem?_eq_getElem hi);obtain⟨u,eu,ru⟩:=rv.get (List.getElem?_eq_getElem hi);rw[hv]at eu;cases eu;rw[e2]at ru;cases ru;obtain⟨is,r2,⟨o,ho,hcl,n,hd⟩,_⟩:=I.tuple hs;obtain⟨x,y,rfl,rx,ry⟩:=vals2 r2;obtain⟨t1,rfl⟩:=rx;obtain⟨t2,rfl⟩:=ry;exact⟨t,pr,rfl,e1,o,_,n,ho,hcl,hd,.cons (by simp[intKind,Value.isInt]) (.cons (by simp[intKind,Value.isInt]) .nil)⟩
 ·have hn:H s.heap.objs.size=none:=I.hok.fresh (Nat.le_refl _);obtain⟨es,ep,t,ho,hd,hp,hl,hm,_⟩:=P.is;have hf:t.fits es.size=true:=SP.fits_of hd hp (by rcases hm with⟨e,k⟩ |⟨e,k⟩<;>omega);refine⟨.ref s.heap.objs.size,_,I.laid (t':=tk) (o:=.ext (ue s.heap.objs.size ps.length)) (fun b o e=>kp b o (Heap.lt_size e) e) (Nat.le_refl _) ?_,rfl,q _ hn⟩;exact⟨⟨es,ep,t,ho,hl,hf⟩,⟨_,ho⟩,fun h1 h2 ⟨es,ep,t,e,l,f⟩ k=>⟨es,ep,t,k _ e,l,f⟩⟩
theorem pC:cf X (.builtin "len") (fun xs H Q=>∃(S:Addr) (n:Nat),xs=[.ref S]/\H S=some (.ext (ue S n))/\n<1000/\Q (.int n) H):=by
 intro pins s σ H xs us Q I r h;obtain⟨S,n,rfl,hS,hn,q⟩:=h;obtain⟨u,rfl,ru⟩:=Vals.one r;cases ru;obtain⟨⟨es,ep,t,ho,hl,hf⟩,_,_⟩:=(show bV X.prog X.w H s.heap S (.ext (ue S n))from I.hok S _ hS);subst hl;exact call_len_set ho ⟨rfl,rfl,rfl⟩ rfl hf (by omega) ⟨.int es.size,H,I.tok _,⟨_,rfl⟩,q⟩
end L2
namespace U
open L2
section
variable {B:Bs}{X:Cx}{e:Expr}{ta:TE'}{p p2 pos pos2:Pos}
def prV(p:Int×Int):PV:=.tup [.int p.1,.int p.2]
theorem mD{K:PySem.W.Frag}{H:Hp}:∀{ps:List (Int×Int)} {us:List V},RPs K H (ps.map prV) us->Prs K H us ps
 | [],us,h=>by
  have:us=[]:=by simpa[RPs]using h
  subst this;exact .nil
 | q::ps,us,h=>by
  simp only[List.map_cons,RPs,RP,prV]at h;obtain⟨u,r,rfl,⟨t,ws,rfl,hs,w1,r1,rfl,rfl,w2,r2,rfl,rfl,rfl⟩,h2⟩:=h;exact .cons ⟨t,rfl,hs⟩ (mD h2)
def rB(x:PV)(H:PHp)(Q:VK'):Prop:=match x with
 | .ref a=>∃ps:List (Int×Int),H a=some (.lst (ps.map prV))/\ps.Nodup/\(∀p∈ps,p∈SP.prs)/\ps.length≤15/\Q (.int ps.length) H
 | _=>False
def oy(ta:TE'):TE':=fun σ H Q=>ta σ H fun x H1=>rB x H1 Q
theorem mG(hc:X.calm=true)(hu:X.A.units+64<cLine)(hgl:Gl X "len")(hml:X.mg "len"=none)(hgs:Gl X "set")(hms:X.mg "set"=none)(bs:bootBuiltins "set"=some (.type "set"))(ha:PE' X B e ta)
  (he:starEach [.Call (.Name "set" p2) [e] [] pos2] X.env=[(false,eval (.Call (.Name "set" p2) [e] [] pos2) X.env)]:=by rfl) (he2:starEach [e] X.env=[(false,eval e X.env)]:=by rfl) :
  PE' X B (.Call (.Name "len" p) [.Call (.Name "set" p2) [e] [] pos2] [] pos) (oy ta) :=
 aT (cE pC hgl hml PySem.boot_len (bD (cU (oZ hc hu) hgs hms bs (bD ha b9 he2) (by decide) (by decide) he2 rfl) b9 he) (by decide) (by decide) he rfl) fun σ H Q h=>by
  obtain⟨σ',H',Q',s,h,k⟩:=h;refine⟨σ',H',_,s,h,fun x' H1' x H1 h1 rx s1 e1=>?_⟩;cases x' with
  | ref a =>
   obtain⟨ps,ea,nd,hin,h15,q⟩:=h1;simp only[RP]at rx;subst rx;obtain⟨us,eg,r2⟩:=s1.hp _ _ ea;refine⟨a,us,ps,rfl,.inl (.inl eg),mD r2,nd,hin,h15,fun S hS=>?_⟩;exact⟨S,ps.length,rfl,a8,by omega,k _ _ _ _ q (by simp[RP]) (s1.hid hS) (e1.trans (Ev.hid hS))⟩
  | _=>exact h1.elim
end
section
variable {B:Bs}{X:Cx}{a b:Expr}{ta tb:TE'}{pos:Pos}
def AU:R2':=uI (fun _ j=>0≤j) fun i j=>.int (i / 2 ^ j.toNat)
def wW:R2':=uI0 fun i j=>.int (Builtin.bitAnd i j)
theorem xu(ha:PE' X B a ta)(hb:PE' X B b tb):PE' X B (.BinOp a .RShift b pos) (uOp AU ta tb):=eQ zH (qq fun _ _ _=>by simp[RP]) ha hb
theorem uO(ha:PE' X B a ta)(hb:PE' X B b tb):PE' X B (.BinOp a .BitAnd b pos) (uOp wW ta tb):=eQ ym (iR fun _ _ _=>by simp[RP]) ha hb
end
end U
namespace ST
open PySem.W
def key(K:Nat->Int)(p:Array Nat)(i:Nat):Int:=K ((p[i]?).getD 0)
structure Ok (n:Nat) (p:Array Nat):Prop where
 perm:p.toList.Perm (List.range n)
def S(K:Nat->Int)(p:Array Nat)(m:Nat):Prop:=∀i j,i<j->j<m->key K p i<key K p j
theorem Ok.size{n:Nat}{p:Array Nat}(h:Ok n p):p.size=n:=by
 have:=h.perm.length_eq;simpa using this
theorem Ok.lt{n:Nat}{p:Array Nat}(h:Ok n p)(h0:0<n)(i:Nat):p.getD i 0<n:=by
 rw[Array.getD_eq_getD_getElem?];cases e:p[i]? with
 | none=>exact h0
 | some x =>
  have:x∈p.toList:=by
   obtain⟨hi,rfl⟩:=Array.getElem?_eq_some_iff.mp e;simp
  exact List.mem_range.mp (h.perm.mem_iff.mp this)
theorem Ok.of{n:Nat}{p q:Array Nat}(h:Ok n p)(r:q.Perm p):Ok n q:=⟨(Array.perm_iff_toList_perm.mp r).trans h.perm⟩
section
variable {cmp:Nat->Nat->(Bool->Shared->Prop)->Shared->Prop}{s:Shared}{n:Nat}{K:Nat->Int}{p:Array Nat}
theorem Ok.ne(hK:∀i j,i<n->j<n->K i=K j->i=j)(h:Ok n p){i j:Nat}(hi:i<n)(hj:j<n)(hne:i≠j):key K p i≠key K p j:=by
 intro e;have hs:=h.size;have h0:0<n:=by omega
 unfold key at e;rw[Array.getElem?_eq_getElem (by omega),Array.getElem?_eq_getElem (by omega)]at e;simp only[Option.getD_some]at e;have nd:p.toList.Nodup:=(h.perm.nodup_iff).mpr List.nodup_range;have l1:p[i]<n:=by have:=h.lt h0 i;rwa [Array.getD_eq_getD_getElem?,Array.getElem?_eq_getElem (by omega)]at this
 have l2:p[j]<n:=by have:=h.lt h0 j;rwa [Array.getD_eq_getD_getElem?,Array.getElem?_eq_getElem (by omega)]at this
 have q:=hK _ _ l1 l2 e;have:i=j:=by
  exact(List.getElem_inj nd (h₀:=by simpa[hs]using hi) (h₁:=by simpa[hs]using hj)).mp (by simpa using q)
 exact hne this
theorem lM(K:Nat->Int)(p:Array Nat)(i:Nat):K (p.getD i 0)=key K p i:=by
 unfold key;rw[Array.getD_eq_getD_getElem?]
variable (hc:∀i j C,i<n->j<n->C (decide (K i<K j)) s->cmp i j C s)(hK:∀i j,i<n->j<n->K i=K j->i=j)
include hc
theorem iM{G:Bool->Shared->Prop}(h0:0<n)(ok:Ok n p){i j:Nat}(h:G (decide (key K p i<key K p j)) s):cmp (p.getD i 0) (p.getD j 0) G s:=by
 refine hc _ _ _ (ok.lt h0 i) (ok.lt h0 j) ?_;rw[lM K p i,lM K p j];exact h
include hK
theorem gv{i j:Nat}(ok:Ok n p)(hi:i<n)(hj:j<n)(hne:i≠j)(h:¬key K p i<key K p j):key K p j<key K p i:=by
 have:=ok.ne hK hi hj hne;omega
theorem asc(ok:Ok n p):∀(f m:Nat) {G:Nat->Shared->Prop},1≤m->m+f≤n->S K p m ->
  (∀m',m≤m'->m'≤m+f->S K p m'->(m'<m+f->key K p m'<key K p (m' - 1))->G m' s)->(kas_asc p f m).kasWp cmp G s
 | 0,m,G,_,_,hS,h=>h m (Nat.le_refl _) (Nat.le_refl _) hS fun q=>absurd q (Nat.lt_irrefl _)
 | f+1,m,G,h1,hm,hS,h=>by
  refine iM hc (by omega) ok (G:=fun c s'=>(if c=true then KasT.ret m else kas_asc p f (m+1)).kasWp cmp G s') ?_;by_cases q:key K p m<key K p (m - 1)
  ·rw[decide_eq_true q];show G m s;exact h m (Nat.le_refl _) (by omega) hS fun _=>q
  ·rw[decide_eq_false q];show(kas_asc p f (m+1)).kasWp cmp G s;have q':=gv hc hK ok (by omega) (by omega) (by omega) q;refine asc ok f (m+1) (by omega) (by omega) ?_ fun m' a b c d=>h m' (by omega) (by omega) c fun e=>d (by omega);intro i j hij hj;by_cases hjm:j<m
   ·exact hS i j hij hjm
   ·have:j=m:=by omega
    subst this;by_cases him:i=j - 1
    ·subst him;exact q'
    ·have:=hS i (j - 1) (by omega) (by omega);omega
theorem desc(ok:Ok n p):∀(f m:Nat) {G:Array Nat×Nat×Nat->Shared->Prop},1≤m->m+f≤n->(∀i j,i<j->j<m->key K p j<key K p i) ->
  (∀m',m≤m'->m'≤m+f->(∀i j,i<j->j<m'->key K p j<key K p i)->G (p,m',0) s)->(kas_desc f p m 0).kasWp cmp G s
 | 0,m,G,_,_,hS,h=>h m (Nat.le_refl _) (Nat.le_refl _) hS
 | f+1,m,G,h1,hm,hS,h=>by
  refine iM hc (by omega) ok (G:=fun c s'=>(if c=true then(if 0>0 then kas_desc f (kas_rev p (m - (0+1)) m) (m+1) 0 else kas_desc f p (m+1) 0)
   else KasT.ask (p.getD (m - 1) 0) (p.getD m 0) fun d=>if d=true then KasT.ret (p,m,0)else kas_desc f p (m+1) (0+1)).kasWp cmp G s') ?_
  by_cases q:key K p m<key K p (m - 1)
  ·rw[decide_eq_true q,if_pos rfl,if_neg (by omega)];refine desc ok f (m+1) (by omega) (by omega) ?_ fun m' a b c=>h m' (by omega) (by omega) c;intro i j hij hj;by_cases hjm:j<m
   ·exact hS i j hij hjm
   ·have:j=m:=by omega
    subst this;by_cases him:i=j - 1
    ·subst him;exact q
    ·have:=hS i (j - 1) (by omega) (by omega);omega
  ·rw[decide_eq_false q];have q':=gv hc hK ok (by omega) (by omega) (by omega) q;refine iM hc (by omega) ok (G:=fun d s'=>(if d=true then KasT.ret (p,m,0)else kas_desc f p (m+1) (0+1)).kasWp cmp G s') ?_;rw[decide_eq_true q',if_pos rfl];exact h m (Nat.le_refl _) (by omega) hS
theorem m7{m:Nat}(ok:Ok n p)(hm:m≤n)(i:Nat):key K (kas_rev p 0 m) i=if i<m then key K p (m - 1 - i)else key K p i:=by
 unfold key kas_rev;rw[getElem?_mirror_all (by rw[ok.size];exact hm)];by_cases h:i<m
 ·rw[if_pos ⟨Nat.zero_le _,h⟩,if_pos h];congr 3;omega
 ·rw[if_neg (by omega),if_neg h]
theorem count{G:Nat×Array Nat->Shared->Prop}(ok:Ok n p)(h1:1≤n)(h:∀m p',Ok n p'->1≤m->m≤n->S K p' m->G (m,p') s):(kas_count n p).kasWp cmp G s:=by
 unfold kas_count;rw[KasT.kasWp_bind];refine asc hc hK ok (n - 1) 1 (Nat.le_refl _) (by omega) (fun i j a b=>by omega) fun m' a b hS st=>?_;by_cases e:m'=n
 ·subst e;rw[if_pos (by simp)];exact h _ _ ok (by omega) (Nat.le_refl _) hS
 ·rw[if_neg (by simpa using e)];by_cases e1:m'>1
  ·rw[if_pos e1];refine iM hc (by omega) ok (G:=fun c s'=>(if c=true then KasT.ret (m',p)else kas_descPart m' n (kas_rev p 0 m')).kasWp cmp G s') ?_;rw[decide_eq_true (hS 0 (m' - 1) (by omega) (by omega)),if_pos rfl];exact h _ _ ok (by omega) (by omega) hS
  ·rw[if_neg e1];have:m'=1:=by omega
   subst this;unfold kas_descPart;rw[KasT.kasWp_bind];have st1:=st (by omega);refine desc hc hK ok (n - (1+1)) (1+1) (by omega) (by omega) (fun i j hij hj=>?_) fun m' a b hD=>?_
   ·have h1:j=1:=by omega
    have h2:i=0:=by omega
    subst h1;subst h2;exact st1
   ·rw[if_neg (by simp)];unfold kas_tail3;rw[KasT.kasWp_bind];have ok2:Ok n (kas_rev p 0 m'):=ok.of (mirror_perm _ _ _ _);refine asc hc hK ok2 (n - m') m' (by omega) (by omega) (fun i j hij hj=>?_) fun m2 a2 b2 hS2 _=>?_
    ·rw[m7 hc hK ok (by omega),m7 hc hK ok (by omega),if_pos (by omega),if_pos hj];exact hD _ _ (by omega) (by omega)
    ·exact h m2 _ ok2 (by omega) (by omega) hS2
theorem place(ok:Ok n p){k:Nat}(hk:k<n)(hS:S K p k):∀(f l r:Nat) {G:Nat->Shared->Prop},l≤r->r≤k->r - l≤f->(∀i,i<l->key K p i<key K p k)->(∀i,r≤i->i<k->key K p k<key K p i) ->
  (∀l',l'≤k->(∀i,i<l'->key K p i<key K p k)->(∀i,l'≤i->i<k->key K p k<key K p i)->G l' s)->(kas_place p k f l r).kasWp cmp G s
 | 0,l,r,G,h1,h2,h3,ha,hb,h=>h l (by omega) ha fun i x y=>hb i (by omega) y
 | f+1,l,r,G,h1,h2,h3,ha,hb,h=>by
  unfold kas_place;by_cases e:l≥r
  ·rw[if_pos e];exact h l (by omega) ha fun i x y=>hb i (by omega) y
  ·rw[if_neg e];refine iM hc (by omega) ok (G:=fun c s'=>(if c=true then kas_place p k f l ((l+r) / 2)else kas_place p k f ((l+r) / 2+1) r).kasWp cmp G s') ?_;have hmid:(l+r) / 2<k:=by omega
   generalize hm:(l+r) / 2=mid at *;by_cases q:key K p k<key K p mid
   ·rw[decide_eq_true q,if_pos rfl];refine place ok hk hS f l mid (by omega) (by omega) (by omega) ha (fun i x y=>?_) h;by_cases z:i=mid
    ·subst z;exact q
    ·have:=hS mid i (by omega) y;omega
   ·rw[decide_eq_false q,if_neg (by simp)];have q':=gv hc hK ok hk (by omega) (by omega) q;refine place ok hk hS f (mid+1) r (by omega) h2 (by omega) (fun i x=>?_) hb h;by_cases z:i=mid
    ·subst z;exact q'
    ·have:=hS i mid (by omega) hmid;omega
theorem nj{k l:Nat}(ok:Ok n p)(hk:k<n)(hl:l≤k)(i:Nat):key K (bubble p k (k - l)) i=if i=l then key K p k else if l<i/\i≤k then key K p (i - 1)else key K p i:=by
 unfold key;rw[getElem?_bubble (by rw[ok.size];exact hk) _ (Nat.sub_le _ _)];rw[show k - (k - l)=l by omega];split
 ·rfl
 ·split<;>rfl
theorem bin:∀(f k:Nat) (p:Array Nat) {G:Array Nat->Shared->Prop},Ok n p->1≤k->k+f=n->S K p k->(∀p',Ok n p'->S K p' n->G p' s)->(kas_bin f p k).kasWp cmp G s
 | 0, k, p, G, ok, h1, h2, hS, h => h p ok (by have : k = n := by omega
                                               subst this; exact hS)
 | f+1,k,p,G,ok,h1,h2,hS,h=>by
  unfold kas_bin;rw[KasT.kasWp_bind];refine place hc hK ok (by omega) hS k 0 k (by omega) (Nat.le_refl _) (by omega) (fun i x=>by omega) (fun i x y=>by omega) fun l hl ha hb=>?_;refine bin f (k+1) _ (ok.of (bubble_perm _ _ _)) (by omega) (by omega) (fun i j hij hj=>?_) h;rw[nj hc hK ok (by omega) hl,nj hc hK ok (by omega) hl];by_cases c1:i=l
  ·rw[if_pos c1];rw[if_neg (by omega),if_pos (by omega)];exact hb _ (by omega) (by omega)
  ·rw[if_neg c1];by_cases c2:j=l
   ·rw[if_pos c2,if_neg (by omega)];exact ha _ (by omega)
   ·rw[if_neg c2];by_cases c3:l<i/\i≤k
    ·rw[if_pos c3,if_pos (by omega)];exact hS _ _ (by omega) (by omega)
    ·rw[if_neg c3];by_cases c4:l<j/\j≤k
     ·rw[if_pos c4];by_cases c5:i=j - 1
      ·omega
      ·exact hS _ _ (by omega) (by omega)
     ·rw[if_neg c4];exact hS _ _ hij (by omega)
theorem sorts{G:Array Nat->Shared->Prop}(h1:1≤n)(h:∀p,Ok n p->S K p n->G p s):(kas_sort n).kasWp cmp G s:=by
 unfold kas_sort;rw[KasT.kasWp_bind];refine count hc hK (p:=(List.range n).toArray) ⟨by simp⟩ h1 fun m p' ok a b hS=>?_;show(if m<n then kas_bin (n - max m 1) p' (max m 1)else KasT.ret p').kasWp cmp G s;by_cases e:m<n
 ·rw[if_pos e,show max m 1=m by omega];exact bin hc hK (n - m) m p' ok a (by omega) hS h
 ·rw[if_neg e];have:m=n:=by omega
  subst this;exact h p' ok hS
end
end ST
namespace ST
open PySem.W
def pk(p:Int×Int):Int:=6*p.1+p.2
def Tp(h:Heap)(v:Value)(p:Int×Int):Prop:=∃t o k u1 u2,v=.ref t/\h.get? t=some o/\o.cls=.type "tuple"/\o.data=.seq #[.int p.1 u1,.int p.2 u2] k
def Tps(h:Heap)(vs:List Value)(ps:List (Int×Int)):Prop:=vs.length=ps.length/\∀i v,vs[i]?=some v->Tp h v (ps.getD i (0,0))
theorem Tp.kp{h h':Heap}{v:Value}{p:Int×Int}(x:Tp h v p)(k:∀b o,o.cls=.type "tuple"->h.get? b=some o->h'.get? b=some o):Tp h' v p:=by
 obtain⟨t,o,n,u1,u2,e,ho,hc,hd⟩:=x;exact⟨t,o,n,u1,u2,e,k _ _ hc ho,hc,hd⟩
section
variable {prog:Program}{w:World}{A:Around}{E:Value->Shared->Prop}{s:Shared}
theorem uF{x y:Value}{p q:Int×Int}{C:Bool->Shared->Prop}(hx:Tp s.heap x p)(hy:Tp s.heap y q)(bp:0≤p.2/\p.2<6)(bq:0≤q.2/\q.2<6)(h:C (decide (pk p<pk q)) s) :
  wpAny (model prog w) A (keyLt' (tuples' true) x y) C E s:=by
 obtain⟨t,o,n,u1,u2,rfl,ho,hc,hd⟩:=hx;obtain⟨t',o',n',w1,w2,rfl,ho',hc',hd'⟩:=hy;refine kat_lt ho hd ho' hd' ?_;show KatLex prog w A true (decide (2<2)) C [(.int p.1 u1,.int q.1 w1),(.int p.2 u2,.int q.2 w2)] 0 s;refine kat_cons (wpAny_eqBool_int ?_);refine kat_go (fun e1=>kat_yes (kat_cons (wpAny_eqBool_int ?_))) (fun e1=>kat_no ?_)
 ·have e1:p.1=q.1:=by simpa using e1
  refine kat_go (fun e2=>kat_yes (kat_nil ?_)) (fun e2=>kat_no ?_)
  ·have e2:p.2=q.2:=by simpa using e2
   have:decide (pk p<pk q)=decide (2<2):=by unfold pk;rw[e1,e2];simp
   rw[←this];exact h
  ·refine kat_one _ _ (PyProof.Rows.lt_int ?_);have:decide (pk p<pk q)=decide (p.2<q.2):=by
    rw[decide_eq_decide];unfold pk;omega
   show C (decide (p.2<q.2)) s;rw[←this];exact h
 ·have e1:¬p.1=q.1:=by simpa using e1
  refine oneLt_int ?_;have:decide (pk p<pk q)=decide (p.1<q.1):=by
   rw[decide_eq_decide];unfold pk;omega
  rw[←this];exact h
theorem ox{h:Heap}:∀{vs:List Value} {ps:List (Int×Int)},Tps h vs ps->∃fs,KatTups h vs fs/\fs.length=vs.length/\∀v∈fs,∃i t,v=.int i t
 | [],ps,_=>⟨[],KatTups.nil,rfl,by simp⟩
 | v::vs,[],x=>by have:=x.1;simp at this
 | v::vs,p::ps,x=>by
  obtain⟨fs,t,l,q⟩:=ox (h:=h) (vs:=vs) (ps:=ps) ⟨by have:=x.1;simpa using this,fun i v e=>by simpa using x.2 (i+1) v (by simpa using e)⟩;obtain⟨t0,o,n,u1,u2,rfl,ho,hc,hd⟩:=x.2 0 v (by simp);refine⟨.int _ u1::fs,KatTups.cons ho hc hd rfl t,by simp[l],?_⟩;intro z hz;rcases List.mem_cons.mp hz with rfl | hz
  ·exact⟨_,_,rfl⟩
  ·exact q z hz
theorem gO{a:Addr}{vs:List Value}{ps:List (Int×Int)}{n:Nat}{P:PySem.Fin->Shared->Prop}(ho:s.heap.get? a=some (seqObj "list" vs.toArray n))(hT:Tps s.heap vs ps)(nd:ps.Nodup)
  (hb:∀p∈ps,0≤p.2/\p.2<6) (h64:vs.length<64)
  (h:∀q:List Nat,q.Perm (List.range vs.length)->(q.map fun i=>ps.getD i (0,0)).Pairwise (fun x y=>pk x<pk y)->P (.done (.ret .none)) { s with heap:=sortedHeap s.heap a vs (q.map fun i=>vs.getD i Value.none).toArray }) :
  wpAny (model prog w) A (Builtin.«list.sort» ⟨[.ref a],[]⟩) P E s:=by
 rw[list_sort_plain];have hls:vs.length≤sizeLine:=by rw[sizeLine_eq];omega
 refine wpAny_bind (listItems_at ho rfl (wpAny_bind ?_));refine(listUpdate_at ho rfl ?_ (by rw[List.size_toArray];omega) (Nat.zero_le _));obtain⟨ea0,oa0⟩:∃ea0,(s.heap.update a (Obj.mapSeq fun _=>#[])).get? a=some (seqObj "list" #[] ea0):=⟨_,get?_update_seq ho (fun _=>#[])⟩;refine wpAny_bind (seqEpoch_at oa0 rfl ?_);refine wpAny_bind (wpAny_newTuple ?_ (by show vs.length≤_;omega));refine wpAny_bind (wpAny_newList ?_ (Nat.zero_le _));refine wpAny_holding ?_;have kq0:∀b o,b≠a->s.heap.get? b=some o->(((s.heap.update a (Obj.mapSeq fun _=>#[])).push (seqObj "tuple" vs.toArray 0)).push (seqObj "list" #[] 0)).get? b=some o:=fun b o hne q =>
  Heap.get?_push_of_some _ (Heap.get?_push_of_some _ (by rw[Heap.get?_update_ne _ _ _ _ hne];exact q))
 have og0:(((s.heap.update a (Obj.mapSeq fun _=>#[])).push (seqObj "tuple" vs.toArray 0)).push (seqObj "list" #[] 0)).get? a=some (seqObj "list" #[] ea0) :=
  Heap.get?_push_of_some _ (Heap.get?_push_of_some _ oa0)
 have hT6:Tps (((s.heap.update a (Obj.mapSeq fun _=>#[])).push (seqObj "tuple" vs.toArray 0)).push (seqObj "list" #[] 0)) vs ps:=⟨hT.1,fun i v e=>(hT.2 i v e).kp fun b o hcl q=>kq0 b o (fun z=>by
  subst z;rw[ho]at q;cases q;exact absurd hcl (by simp[seqObj])) q⟩
 show wpAny (model prog w) _ _ P _ { s with heap:=((s.heap.update a (Obj.mapSeq fun _=>#[])).push (seqObj "tuple" vs.toArray 0)).push (seqObj "list" #[] 0) };dsimp only;have zq0:vs.toArray.size=vs.length:=by simp
 by_cases hq2:vs.toArray.size<2
 ·rw[if_pos hq2,if_pos hq2];refine wpAny_bind (wpAny_pure ?_);rw[StateT.run_pure];refine wpAny_bind (wpAny_pure ?_);dsimp only;refine wpAny_bind (seqEpoch_at og0 rfl ?_);refine wpAny_bind (listUpdate_at og0 rfl ?_ (Nat.zero_le _) (by rw[Array.size_map];show(pairsOf vs).size≤_;rw[pairsOf_size];omega));simp only[bne_self_eq_false,Bool.false_eq_true,if_false];have hq:=h (List.range vs.length) (List.Perm.refl _) ?_
  ·have e:(arrOf (SortSt.mk' general' (vs.toArray.zip vs.toArray) #[] 7 none)).map (·.2)=((List.range vs.length).map fun i=>vs.getD i Value.none).toArray:=by
    show(vs.toArray.zip vs.toArray).map (·.2)=_
    match vs,hq2 with
    | [],_=>apply Array.toList_inj.mp;simp
    | [v],_=>apply Array.toList_inj.mp;simp[List.range_succ]
    | _::_::_,hq2=>exact absurd hq2 (by simp)
   refine wpAny_pure ?_;rw[e];exact hq
  ·match vs,hq2 with
   | [],_=>exact List.Pairwise.nil
   | [v],_=>exact List.pairwise_singleton _ _
   | _::_::_,hq2=>exact absurd hq2 (by simp)
 ·rw[if_neg hq2,if_neg hq2];obtain⟨fs,hfs,hfl,hfi⟩:=ox hT6;rw[zq0]at hq2;refine wpAny_bind (kat_kind hfs (by omega) (T:=.type "int") (fun v hv=>?_) rfl ?_)
  ·obtain⟨i,t,rfl⟩:=hfi v hv;exact Looks.of_pure rfl
  ·show wpAny (model prog w) A _ P E _;have hinj:∀i j,i<vs.length->j<vs.length->pk (ps.getD i (0,0))=pk (ps.getD j (0,0))->i=j:=by
    intro i j hi hj e;have hi':i<ps.length:=by rw[←hT.1];exact hi
    have hj':j<ps.length:=by rw[←hT.1];exact hj
    have g1:ps.getD i (0,0)=ps[i]:=by rw[List.getD_eq_getElem?_getD,List.getElem?_eq_getElem hi'];rfl
    have g2:ps.getD j (0,0)=ps[j]:=by rw[List.getD_eq_getElem?_getD,List.getElem?_eq_getElem hj'];rfl
    rw[g1,g2]at e;have b1:=hb _ (List.getElem_mem hi');have b2:=hb _ (List.getElem_mem hj');unfold pk at e;have e2:ps[i]=ps[j]:=Prod.ext (by omega) (by omega);exact(List.getElem_inj nd).mp e2
   refine wpAny_bind (wpAny_mono (kat_run (ks:=vs) (vs:=vs) (κ:=tuples' true)
    (Q:=fun st' s'=>s'={ s with heap:=((s.heap.update a (Obj.mapSeq fun _=>#[])).push (seqObj "tuple" vs.toArray 0)).push (seqObj "list" #[] 0) }/\∃p:Array Nat,Ok vs.length p/\S (fun i=>pk (ps.getD i (0,0))) p vs.length/\arrOf st'=p.map (kas_item (vs.toArray.zip vs.toArray))/\failedOf st'=none)
    (G:=fun p s'=>s'={ s with heap:=((s.heap.update a (Obj.mapSeq fun _=>#[])).push (seqObj "tuple" vs.toArray 0)).push (seqObj "list" #[] 0) }/\Ok vs.length p/\S (fun i=>pk (ps.getD i (0,0))) p vs.length)
    rfl (by omega) h64 (fun p st' s' a1 a2 a3 a4=>⟨a4.1,p,a4.2.1,a4.2.2,a2,a3⟩) ?run) ?post fun _ _ e=>e)
   case run =>
    refine sorts (n:=vs.length) (K:=fun i=>pk (ps.getD i (0,0))) (fun i j C hi hj hC=>?_) hinj (by omega) fun p ok sS=>⟨rfl,ok,sS⟩;unfold kas_ask;have hi':i<ps.length:=by rw[←hT.1];exact hi
    have hj':j<ps.length:=by rw[←hT.1];exact hj
    refine uF (hT6.2 i _ ?_) (hT6.2 j _ ?_) (hb _ ?_) (hb _ ?_) hC
    ·rw[List.getD_eq_getElem?_getD,List.getElem?_eq_getElem hi];rfl
    ·rw[List.getD_eq_getElem?_getD,List.getElem?_eq_getElem hj];rfl
    ·rw[List.getD_eq_getElem?_getD,List.getElem?_eq_getElem hi'];exact List.getElem_mem hi'
    ·rw[List.getD_eq_getElem?_getD,List.getElem?_eq_getElem hj'];exact List.getElem_mem hj'
   case post =>
    rintro⟨⟨⟩,st'⟩ s' ⟨rfl,p,ok,sS,har,hf⟩;dsimp only;have hout:=kat_snds (ks:=vs) (vs:=vs) rfl har;have hpz:(List.toArray (p.toList.map fun i=>vs.getD i Value.none)).size=vs.length:=by rw[List.size_toArray,List.length_map,Array.length_toList,ok.size]
    rw[hout];refine wpAny_bind (seqEpoch_at og0 rfl ?_);refine wpAny_bind (listUpdate_at og0 rfl ?_ (Nat.zero_le _) (by omega));rw[hf];simp only[bne_self_eq_false,Bool.false_eq_true,if_false];refine wpAny_pure (h p.toList ok.perm ?_);rw[List.pairwise_map,List.pairwise_iff_getElem];intro i j hi hj hij;have:=sS i j hij (by rw[←ok.size];simpa using hj);unfold key at this;have hi2:i<p.size:=by simpa using hi
    have hj2:j<p.size:=by simpa using hj
    rw[Array.getElem?_eq_getElem hi2,Array.getElem?_eq_getElem hj2]at this;simpa using this
theorem jM{l:Addr}{vs:List Value}{ps:List (Int×Int)}{Q:Value->Shared->Prop}(hl:s.heap.IsList l vs.toArray)(hT:Tps s.heap vs ps)(nd:ps.Nodup)(hb:∀p∈ps,0≤p.2/\p.2<6)(h64:vs.length<64)
  (h:∀q:List Nat,q.Perm (List.range vs.length)->(q.map fun i=>ps.getD i (0,0)).Pairwise (fun x y=>pk x<pk y)->Q (.ref (s.heap.objs.size+1)) { s with heap:=sortedAll s.heap vs (q.map fun i=>vs.getD i Value.none).toArray }) :
  wpAny (model prog w) A (call (.builtin "sorted") [.ref l]) Q E s:=by
 refine Calls.call_function_entry kind_sorted plain_sorted entry_sorted (args_sorted1 _) ?_;unfold Builtin.«sorted»;refine wpAny_bind (m:=checkCount "sorted" 1 1 _) (wpAny_pure (wpAny_bind (collect_list hl (wpAny_bind (wpAny_newList ?_ (by rw[sizeLine_eq];omega))) (by rw[sizeLine_eq];omega))));have zq0:((s.heap.push (seqObj "list" #[] 0)).update s.heap.objs.size (Obj.mapSeq (·++vs.toArray))).objs.size=s.heap.objs.size+1:=by
  rw[Heap.size_update,size_push']
 have oq0:(((s.heap.push (seqObj "list" #[] 0)).update s.heap.objs.size (Obj.mapSeq (·++vs.toArray))).push (seqObj "list" vs.toArray 0)).get? (s.heap.objs.size+1)=some (seqObj "list" vs.toArray 0):=by
  rw[←zq0];exact Heap.get?_push_size _ rfl
 have kq0:∀b o,s.heap.get? b=some o->(((s.heap.push (seqObj "list" #[] 0)).update s.heap.objs.size (Obj.mapSeq (·++vs.toArray))).push (seqObj "list" vs.toArray 0)).get? b=some o:=fun b o q=>by
  have lq0:b<s.heap.objs.size:=Heap.lt_size q;rw[Heap.get?_push_ne _ _ _ (by rw[zq0];exact Nat.ne_of_lt (Nat.lt_succ_of_lt lq0)),Heap.get?_update_ne _ _ _ _ (Nat.ne_of_lt lq0),Heap.get?_push_ne _ _ _ (Nat.ne_of_lt lq0)];exact q
 show wpAny (model prog w) _ _ _ _ { s with heap:=((s.heap.push (seqObj "list" #[] 0)).update s.heap.objs.size (Obj.mapSeq (·++vs.toArray))).push (seqObj "list" vs.toArray 0) };rw[zq0];refine wpAny_bind (wpAny_holding (wpAny_call_entry slot_list_sort ⟨_,oq0,rfl⟩ entry_list_sort (gO (ps:=ps) oq0 ⟨hT.1,fun i v e=>(hT.2 i v e).kp fun b o _ q=>kq0 b o q⟩ nd hb h64 fun q a1 a2=>⟨_,rfl,?_⟩) (args_list_sort _)));exact wpAny_pure ⟨_,rfl,h q a1 a2⟩
end
end ST
namespace L2
variable {X:Cx}
def tN(K:PySem.W.Frag):List V->Hp->VK->Prop:=fun xs H Q=>∃(a:Addr) (us:List V) (ps:List (Int×Int)),xs=[.ref a]/\SqL K H a us/\Prs K H us ps/\ps.Nodup/\(∀p∈ps,0≤p.2/\p.2<6)/\ps.length<64 /\
 ∀(r:Addr) (q:List Nat),H r=none->q.Perm (List.range ps.length)->(q.map fun i=>ps.getD i (0,0)).Pairwise (fun x y=>ST.pk x<ST.pk y)->Q (.ref r) (upd H r (.lst (q.map fun i=>us.getD i .non)))
theorem jf{us:List V}{vs:List Value}(r:Vals us vs):∀(q:List Nat),(∀i∈q,i<us.length)->Vals (q.map fun i=>us.getD i .non) (q.map fun i=>vs.getD i Value.none)
 | [],_=>.nil
 | i::q,h=>by
  have hi:=h i List.mem_cons_self;obtain⟨u,eu,ru⟩:=r.get (List.getElem?_eq_getElem hi);refine .cons ?_ (jf r q fun j hj=>h j (List.mem_cons_of_mem _ hj));dsimp only;rw[List.getD_eq_getElem?_getD,List.getElem?_eq_getElem hi,List.getD_eq_getElem?_getD,eu];exact ru
theorem dF:cf X (.builtin "sorted") (tN X.K):=by
 intro pins s σ H xs us Q I r h;obtain⟨a,ws,ps,rfl,hq,hP,nd,hb,h64,q⟩:=h;obtain⟨u,rfl,ru⟩:=Vals.one r;cases ru;obtain⟨its,rv,p,hz⟩:=I.list hq;have hlen:its.length=ps.length:=rv.length.symm.trans (jA hP);refine ST.jM (ps:=ps) p.isList ⟨hlen,fun i v hv=>?_⟩ nd hb (by omega) fun qs h1 h2=>?_
 ·have hi:i<ws.length:=by rw[rv.length];exact(List.getElem?_eq_some_iff.mp hv).1
  obtain⟨pr,t,e1,e2,hs⟩:=j2 (i:=i) hP (List.getElem?_eq_getElem hi);obtain⟨u,eu,ru⟩:=rv.get (List.getElem?_eq_getElem hi);rw[hv]at eu;cases eu;rw[e2]at ru;cases ru;obtain⟨is,r2,⟨o,ho,hcl,n,hd⟩,_⟩:=I.tuple hs;obtain⟨x,y,rfl,rx,ry⟩:=vals2 r2;obtain⟨t1,rfl⟩:=rx;obtain⟨t2,rfl⟩:=ry;refine⟨t,o,n,t1,t2,rfl,ho,hcl,?_⟩;rw[List.getD_eq_getElem?_getD,e1];exact hd
 ·have hn:H (s.heap.objs.size+1)=none:=I.hok.fresh (Nat.le_succ _);obtain⟨e,he⟩:=sortedAll_at s.heap its (qs.map fun i=>its.getD i Value.none).toArray;rw[hlen]at h1;have hin:∀i∈qs,i<ws.length:=fun i hi=>by
   have:=List.mem_range.mp (h1.mem_iff.mp hi);rw[jA hP];exact this
  have hv:=jf rv qs hin;have hz2:(qs.map fun i=>ws.getD i V.non).length≤sizeLine:=by rw[List.length_map,h1.length_eq,List.length_range,sizeLine_eq];omega
  refine⟨.ref (s.heap.objs.size+1),_,I.laid (t':=s.toks) (o:=.lst (qs.map fun i=>ws.getD i V.non)) (fun b o e=>sortedAll_old e) (Nat.le_succ _) ?_,rfl,q _ qs hn h1 h2⟩;exact⟨hz2,_,e,hv,he⟩
end L2
namespace U
open L2
section
variable {B:Bs}{X:Cx}{a b:Expr}{ta tb:TE'}{pos:Pos}
def qp:List PV->PHp->VK'->Prop:=dc fun x H Q=>match x with
 | .ref a=>∃ps:List (Int×Int),H a=some (.lst (ps.map prV))/\ps.Nodup/\(∀p∈ps,0≤p.2/\p.2<6)/\ps.length<64/\∀(r:Addr) (qs:List (Int×Int)),H r=none->qs.Perm ps->qs.Pairwise (fun x y=>ST.pk x<ST.pk y)->Q (.ref r) (put H r (.lst (qs.map prV)))
 | _=>False
theorem kE{K:PySem.W.Frag}{H:Hp}{ps:List (Int×Int)}{us:List V}(r:RPs K H (ps.map prV) us):∀(q:List Nat),(∀i∈q,i<ps.length)->RPs K H ((q.map fun i=>ps.getD i (0,0)).map prV) (q.map fun i=>us.getD i V.non)
 | [],_=>RPs.nil _
 | i::q,h=>by
  have hi:=h i List.mem_cons_self;obtain⟨u,eu,ru⟩:=RPs.get _ (i:=i) (x:=prV ps[i]) r (by rw[List.getElem?_map,List.getElem?_eq_getElem hi];rfl);refine RPs.cons _ ?_ (kE r q fun j hj=>h j (List.mem_cons_of_mem _ hj));dsimp only;rw[List.getD_eq_getElem?_getD,List.getElem?_eq_getElem hi,List.getD_eq_getElem?_getD,eu];exact ru
theorem d8{α:Type}(l:List α)(d:α){q:List Nat}(h:q.Perm (List.range l.length)):(q.map fun i=>l.getD i d).Perm l:=by
 refine(h.map _).trans ?_;have:(List.range l.length).map (fun i=>l.getD i d)=l:=by
  apply List.ext_getElem
  ·simp
  ·intro i h1 h2;simp[List.getD_eq_getElem?_getD,List.getElem?_eq_getElem h2]
 rw[this]
theorem fA{K:PySem.W.Frag}:VC K B qp (tN K):=by
 intro σ' σ H' H xs' xs Q' Q s r h k;obtain⟨x',x,rfl,rfl,rx,h⟩:=dc.ex h r;cases x' with
 | ref a =>
  obtain⟨ps,ea,nd,hb,h64,q⟩:=h;simp only[RP]at rx;subst rx;obtain⟨us,e,r2⟩:=s.hp _ _ ea;refine⟨a,us,ps,rfl,.inl (.inl e),mD r2,nd,hb,h64,fun r qs hr h1 h2=>?_⟩;have hin:∀i∈qs,i<ps.length:=fun i hi=>List.mem_range.mp (h1.mem_iff.mp hi);exact k _ _ _ _ (q r _ (s.hp.free hr) (d8 ps (0,0) h1) h2) (by simp[RP]) (s.new hr (lg hr (kE r2 qs hin))) (Ev.new hr)
 | _=>exact h.elim
def ri:PV->List PV->PHp->VK'->Prop:=fun x vs H Q=>match x,vs with
 | .ref a,[]=>∃l,H a=some (.lst l)/\Q .non (put H a (.lst l.reverse))
 | _,_=>False
def sx:PV->List PV->PHp->VK'->Prop:=fun x vs H Q=>match x,vs with
 | .ref a,[]=>∃l,H a=some (.lst l)/\Q .non (put H a (.lst []))
 | _,_=>False
def vM:PV->List PV->PHp->VK'->Prop:=fun x vs H Q=>match x,vs with
 | .ref a,[.int i,y]=>∃l,H a=some (.lst l)/\0≤i/\i.toNat≤l.length/\l.length<1000/\Q .non (put H a (.lst (l.take i.toNat++y::l.drop i.toNat)))
 | _,_=>False
theorem DZ{a:Addr}{H:PHp}{Q:VK'}:ri (.ref a) [] H Q=∃l,H a=some (.lst l)/\Q .non (put H a (.lst l.reverse)):=rfl
theorem Eh{a:Addr}{H:PHp}{Q:VK'}:sx (.ref a) [] H Q=∃l,H a=some (.lst l)/\Q .non (put H a (.lst [])):=rfl
theorem Eo{a:Addr}{i:Int}{y:PV}{H:PHp}{Q:VK'}:vM (.ref a) [.int i,y] H Q=∃l,H a=some (.lst l)/\0≤i/\i.toNat≤l.length/\l.length<1000/\Q .non (put H a (.lst (l.take i.toNat++y::l.drop i.toNat))):=rfl
end
section
theorem bN{B:Bs}{X:Cx}{x:Str}{v':PV}{v:V}{pos:Pos}(hg:Gl X x)(h:∃u,X.mg x=some u/\RelV v u)(r':∀H,RP X.K H v' v)(hd:(x==("__debug__":Str))=false:=by decide):PE' X B (.Name x pos) (uC v'):=by
 obtain⟨u,hm,r⟩:=h;exact vg hg hm r r' hd
theorem aG{ok:PHp->Prop}{g:TG'}{tt:TT'}{te:TE'}{acc:Addr}{Q:VK'}{H1:PHp}{xs:List PV}(f:PV->PV)(pz:PV->Bool)(Iv:St'->Prop)(hlen:xs.length≤1000)(hok:∀l,ok (put H1 acc (.lst l)))
  (hs:∀x∈xs,∀(l:List PV) (σ:St') (R:St'->PHp->Prop),Iv σ->l.length<sizeLine->(pz x=true->∀σ3,Iv σ3->R σ3 (put H1 acc (.lst (l++[f x]))))->(pz x=false->∀σ3,Iv σ3->R σ3 (put H1 acc (.lst l))) ->
   g x σ (put H1 acc (.lst l)) fun σ3 H2=>tt σ3 H2 fun b H3=>cif b (te σ3 H3 fun y H4=>∃l',H4 acc=some (.lst l')/\l'.length<sizeLine/\R σ3 (put H4 acc (.lst (l'++[y])))) (R σ3 H3))
  (hq:Q (.ref acc) (put H1 acc (.lst ((xs.filter pz).map f)))) {σ:St'} (h0:Iv σ):b0 ok g tt te acc Q xs σ (put H1 acc (.lst [])):=by
 have key:∀(r d:List PV) (σ:St'),xs=d++r->Iv σ->b0 ok g tt te acc Q r σ (put H1 acc (.lst ((d.filter pz).map f))):=by
  intro r
  induction r with
  | nil =>
   intro d σ e hv;have:d=xs:=by rw[e,List.append_nil]
   subst this;exact⟨hok _,hq⟩
  | cons x r ih =>
   intro d σ e hv;have hd:((d.filter pz).map f).length<sizeLine:=by
    have h1:d.length+(r.length+1)=xs.length:=by rw[e,List.length_append,List.length_cons]
    have h2:=List.length_filter_le pz d;have:=bI (n:=1000) (by decide);rw[List.length_map];omega
   refine⟨hok _,hs x (by rw[e];simp) _ σ _ hv hd (fun hp σ3 h3=>?_) (fun hp σ3 h3=>?_)⟩
   ·have:=ih (d++[x]) σ3 (by rw[e];simp) h3;rw[List.filter_append,List.map_append]at this;simpa[hp]using this
   ·have:=ih (d++[x]) σ3 (by rw[e];simp) h3;rw[List.filter_append,List.map_append]at this;simpa[hp]using this
 exact key xs [] σ rfl h0
end
section
theorem Eg{C:Addr}{f:Str}{a:Addr}{H:PHp}{Q:VK'}:wQ C f (.ref a) H Q=∃dx fs v,H a=some (.ins C dx fs)/\fs.lookup f=some v/\Q v H:=rfl
theorem B3{C:Addr}{f:Str}{a:Addr}{y:PV}{H:PHp}{Q:PHp->Prop}:wj C f (.ref a) y H Q=∃dx fs,H a=some (.ins C dx fs)/\fs.length<1000/\Q (put H a (.ins C dx (iw f y fs))):=rfl
theorem Dy{C:Addr}{m:Str}{a:Addr}{H:PHp}:isIn C m (.ref a) H=∃dx fs,H a=some (.ins C dx fs)/\fs.lookup m=none:=rfl
theorem Dj{a:Addr}{H:PHp}{Q:VK'}:BG [.ref a] H Q=∃bs:List Bool,H a=some (.lst (bs.map PV.bl))/\Q (.bl (bs.all id)) H:=rfl
theorem ED{a:Addr}{H:PHp}{Q:VK'}:rB (.ref a) H Q=∃ps:List (Int×Int),H a=some (.lst (ps.map prV))/\ps.Nodup/\(∀p∈ps,p∈SP.prs)/\ps.length≤15/\Q (.int ps.length) H:=rfl
theorem C7{a:Addr}{H:PHp}{Q:VK'}:qp [.ref a] H Q=∃ps:List (Int×Int),H a=some (.lst (ps.map prV))/\ps.Nodup/\(∀p∈ps,0≤p.2/\p.2<6)/\ps.length<64/\∀(r:Addr) (qs:List (Int×Int)),H r=none->qs.Perm ps->qs.Pairwise (fun x y=>ST.pk x<ST.pk y)->Q (.ref r) (put H r (.lst (qs.map prV))):=rfl
end
end U
namespace SI
def subs:List (List Nat):=(List.range 64).map fun b=>(List.range 6).filter fun i=>b / 2 ^ i % 2==1
def tb(led:Bool)(L:List Nat):SetTable:={ mask:=if L.length≤4 then 7 else 31,place:=L.toArray,dummies:=#[],finger:=0,led:=led,moves:=if L.length≤4 then 0 else 1,plain:=true }
def pos(L:List Nat)(x:Nat):Nat:=(L.filter (·<x)).length
def ins(L:List Nat)(x:Nat):List Nat:=L.take (pos L x)++x::L.drop (pos L x)
def tp(led:Bool)(L:List Nat)(x:Nat):SetTable:={ tb led L with place:=(ins L x).toArray }
theorem C6:∀led∈[true,false],∀L∈subs,∀x∈List.range 6,x∉L->(tb led L).freeSlot x=some (x,false)/\(tb led L).put x=(tp led L x,pos L x):=by decide +kernel
theorem CY:∀led∈[true,false],∀L∈subs,∀x∈List.range 6,x∉L->(tp led L x).fits (ins L x).length=true/\(if L.length=4 then(tp led L x).tooFull=true/\(tp led L x).relaid ((ins L x).map Int.ofNat).toArray 20=some (tb led (ins L x),#[0,1,2,3,4])else(tp led L x).tooFull=false/\tp led L x=tb led (ins L x)):=by decide +kernel
theorem gL:∀L∈subs,(∀x∈L,x<6)/\L.length≤6/\L.Nodup/\(∀x∈List.range 6,x∉L->ins L x∈subs):=by decide +kernel
theorem lI:∀L∈subs,∀led∈[true,false],(tb led L).fits L.length=true/\SetTable.below L.toArray 0=0/\∀i∈List.range L.length,SetTable.below L.toArray (L.getD i 0+1)=i+1:=by decide +kernel
def ent(i:Nat)(tk:Tok):Int×Value:=((i:Int),.int (i:Int) tk)
def cG(es:Array (Int×Value))(L:List Nat):Prop:=∃tks:List Tok,tks.length=L.length/\es.toList=List.zipWith ent L tks
theorem cG.size{es:Array (Int×Value)}{L:List Nat}(h:cG es L):es.size=L.length:=by
 obtain⟨tks,hl,e⟩:=h;rw[←Array.length_toList,e,List.length_zipWith,hl,Nat.min_self]
theorem cG.get{es:Array (Int×Value)}{L:List Nat}(h:cG es L){i:Nat}(hi:i<L.length):∃tk,es[i]?=some (ent (L.getD i 0) tk):=by
 obtain⟨tks,hl,e⟩:=h;refine⟨tks[i],?_⟩;rw[←Array.getElem?_toList,e,List.getElem?_zipWith,List.getElem?_eq_getElem hi,List.getElem?_eq_getElem (by omega),List.getD_eq_getElem?_getD,List.getElem?_eq_getElem hi];rfl
theorem cG.mem{es:Array (Int×Value)}{L:List Nat}(h:cG es L){e:Int×Value}(he:e∈es.toList):∃x∈L,∃tk,e=ent x tk:=by
 obtain⟨i,hi,rfl⟩:=List.mem_iff_getElem.mp he;have hi':i<L.length:=by rw[←h.size];simpa using hi
 obtain⟨tk,e⟩:=h.get hi';refine⟨L.getD i 0,by rw[List.getD_eq_getElem?_getD,List.getElem?_eq_getElem hi'];exact List.getElem_mem hi',tk,?_⟩;rw[Array.getElem?_eq_getElem (by simpa using hi)]at e;simpa using Option.some.inj e
theorem cG.of{es:Array (Int×Value)}{L:List Nat}(h:cG es L){x:Nat}(hx:x∈L):∃tk,ent x tk∈es.toList:=by
 obtain⟨i,hi,rfl⟩:=List.mem_iff_getElem.mp hx;obtain⟨tk,e⟩:=h.get hi;refine⟨tk,?_⟩;rw[List.getD_eq_getElem?_getD,List.getElem?_eq_getElem hi]at e;rw[←Array.getElem?_toList]at e;exact List.mem_of_getElem? e
theorem cG.ins{es:Array (Int×Value)}{L:List Nat}(h:cG es L)(x:Nat)(tk:Tok):cG (SetTable.insertAt es (pos L x) (ent x tk)) (SI.ins L x):=by
 obtain⟨tks,hl,e⟩:=h;refine⟨tks.take (pos L x)++tk::tks.drop (pos L x),?_,?_⟩
 ·unfold SI.ins;simp only[List.length_append,List.length_cons,List.length_take,List.length_drop];omega
 ·rw[SetTable.toList_insertAt,e];unfold SI.ins;rw[List.zipWith_append (by simp only[List.length_take];omega),List.zipWith_cons_cons,List.take_zipWith,List.drop_zipWith]
structure eO (h:Heap) (S:Addr) (led:Bool) (L:List Nat):Prop where
 is:L∈subs/\∃es ep,h.get? S=some { cls:=.type "set",dict:=none,data:=.set es ep (tb led L) }/\cG es L
theorem dE(led:Bool):led∈[true,false]:=by cases led<;>simp
theorem mm{α:Type}(es:Array α)(h:es.size=5):(#[0,1,2,3,4]:Array Nat).filterMap (es[·]?)=es:=by
 have e:=PySem.filterMap_getElem?_range es;rw[h]at e;apply Array.toList_inj.mp;rw[Array.toList_filterMap];exact e
section
variable {prog:Program}{w:World}{A:Around}{E:Value->Shared->Prop}{s:Shared}
theorem cG.elems{es:Array (Int×Value)}{L:List Nat}(h:cG es L)(hL:L∈subs):ElemsOf (intKind prog w) es.toList:=fun e he=>by
 obtain⟨x,hx,tk,rfl⟩:=h.mem he;refine⟨⟨(x:Int),intKind_is _ _ _ _,?_⟩,rfl⟩;have:x<6:=(gL L hL).1 x hx;have hh:∀y∈List.range 6,((y:Nat):Int)=(intKind prog w).hash ((y:Nat):Int):=by
  intro y hy;have:y=0∨y=1∨y=2∨y=3∨y=4∨y=5:=by have:=List.mem_range.mp hy;omega
  rcases this with rfl | rfl | rfl | rfl | rfl | rfl<;>rfl
 exact hh x (List.mem_range.mpr this)
theorem ko{x:Nat}(hx:x<6):(intKind prog w).hash ((x:Nat):Int)=((x:Nat):Int):=by
 have:x=0∨x=1∨x=2∨x=3∨x=4∨x=5:=by omega
 rcases this with rfl | rfl | rfl | rfl | rfl | rfl<;>rfl
theorem ib{S:Addr}{led:Bool}{L:List Nat}{x:Nat}{tk:Tok}{Q:Bool->Shared->Prop}(hP:eO s.heap S led L)(hx:x<6)
  (h:∀b h' tks,Heap.SameBut S s.heap h'->eO h' S led (if x∈L then L else ins L x)->Q b { s with heap:=h',toks:=tks }):wpAny (model prog w) A (setAdd S (.int (x:Int) tk)) Q E s:=by
 obtain⟨hL,es,ep,ho,he⟩:=hP.is;unfold setAdd;refine wpAny_holding ?_;refine wpAny_bind ((intKind prog w).pyHash (k:=(x:Int)) (intKind_is _ _ _ _) ?_);rw[ko hx];generalize hs':({ s with toks:=s.toks+1 }:Shared)=s1;have e1:s1.heap=s.heap:=by rw[←hs']
 have hs1:∀hh':Heap,({ s1 with heap:=hh' }:Shared)={ s with heap:=hh',toks:=s1.toks }:=fun hh'=>by rw[←hs']
 have ho1:s1.heap.get? S=some { cls:=.type "set",dict:=none,data:=.set es ep (tb led L) }:=by rw[e1];exact ho
 have hf:(tb led L).fits es.size=true:=by rw[he.size];exact(lI L hL led (dE led)).1
 have hel:=he.elems (prog:=prog) (w:=w) hL;have h6:=(gL L hL).2.1;have hbd:es.size<scanBound:=by rw[he.size];unfold scanBound;omega
 have scan:∀{Q':ScanMet->Shared->Prop},Q' (match es.toList.findIdx? (fun e=>(intKind prog w).is ((x:Nat):Int) e.2)with | some j=>.found (0+j) | none=>.absent) s1->wpAny (model prog w) A (setScan S (.int ((x:Nat):Int) tk) ((x:Nat):Int) true es) Q' E s1:=by
  intro Q' hq;have:=wpAny_setScan_of (knd:=intKind prog w) (adding:=true) (x:=.int ((x:Nat):Int) tk) (k:=((x:Nat):Int)) (A:=A) (E:=E) (Q:=Q') (intKind_is _ _ _ _) ho1 rfl hf hel hq
  rwa [ko hx]at this
 unfold setAddHashed setAddHashedIn;refine wpAny_holding (wpAny_bind (wpAny_setState_of ho1 rfl hf ?_));dsimp only;rw[byScan_of (knd:=intKind prog w) rfl hbd hel];simp only[↓reduceIte];unfold setAddByScan;refine wpAny_bind ?_;refine wpAny_bind (wpAny_rule ?_);refine wpAny_bind (scan ?_);cases hr:List.findIdx? (fun e=>(intKind prog w).is ((x:Nat):Int) e.2) es.toList with
 | some j =>
  dsimp only;obtain⟨hj,hpj,_⟩:=List.findIdx?_eq_some_iff_getElem.mp hr;obtain⟨y,hy,tk',ee⟩:=he.mem (List.getElem_mem hj);have hxy:x=y:=by
   rw[ee]at hpj;have q:(intKind prog w).is ((x:Nat):Int) (.int ((y:Nat):Int) tk')=true:=hpj;have:=(intKind prog w).inj _ _ _ q (intKind_is _ _ _ _);omega
  subst hxy;refine wpAny_pure (wpAny_pure ?_);have:=h false s.heap s1.toks (Heap.SameBut.refl S s.heap) (by rw[if_pos hy];exact hP);have e:s1={ s with heap:=s.heap,toks:=s1.toks }:=by rw[←hs1];cases s1;simp only at e1;rw[e1]
  rw[e];exact this
 | none =>
  dsimp only;have hn:x∉L:=fun hm=>by
   obtain⟨tk',hm'⟩:=he.of hm;have:=List.findIdx?_eq_none_iff.mp hr _ hm';have q:(intKind prog w).is ((x:Nat):Int) (.int ((x:Nat):Int) tk')=true:=intKind_is _ _ _ _;have this':(intKind prog w).is ((x:Nat):Int) (.int ((x:Nat):Int) tk')=false:=this;rw[q]at this';cases this'
  obtain⟨f1,f2⟩:=C6 led (dE led) L hL x (List.mem_range.mpr hx) hn;obtain⟨f3,f4⟩:=CY led (dE led) L hL x (List.mem_range.mpr hx) hn;have hins:=(gL L hL).2.2.2 x (List.mem_range.mpr hx) hn;have hin2:=he.ins x tk;have hsz2:=hin2.size;have hln:(ins L x).length=L.length+1:=by unfold ins;simp only[List.length_append,List.length_cons,List.length_take,List.length_drop];omega
  have hlay:layNew (tb led L) es ((x:Nat):Int) (.int ((x:Nat):Int) tk)=(SetTable.insertAt es (pos L x) (ent x tk),tp led L x,false,false):=by
   unfold layNew;rw[f1];dsimp only;rw[f2];dsimp only;have e2:(tp led L x).fits (SetTable.insertAt es (pos L x) (ent x tk)).size=true:=by rw[hsz2];exact f3
   show(SetTable.insertAt es (pos L x) (ent x tk),(tp led L x).orStandIn (SetTable.insertAt es (pos L x) (ent x tk)).size,false,!(tp led L x).fits (SetTable.insertAt es (pos L x) (ent x tk)).size)=_;unfold SetTable.orStandIn;rw[if_pos e2,e2];rfl
  rw[hlay];dsimp only;refine wpAny_bind (wpAny_pure ?_);have hpl:(tp led L x).plain=true:=rfl;rw[hpl];simp only[↓reduceIte];refine wpAny_bind ?_;rw[hashByValue_scannable 8 (x:=.int ((x:Nat):Int) tk) rfl];refine wpAny_pure ?_;have hpk:plainKind (.int ((x:Nat):Int) tk)=true:=rfl;rw[hpk];simp only[↓reduceIte];have hz:(SetTable.insertAt es (pos L x) (ent x tk)).size≤sizeLine:=by rw[hsz2,hln,sizeLine_eq];omega
  refine wpAny_bind (wpAny_storeSet_of ho1 rfl ?_ hz);have hg:(s1.heap.update S (Obj.putSet (SetTable.insertAt es (pos L x) (ent x tk)) (tp led L x))).get? S=some { cls:=.type "set",dict:=none,data:=.set (SetTable.insertAt es (pos L x) (ent x tk)) (ep+1) (tp led L x) } :=
   Heap.get?_update_self _ ho1 rfl
  have sb1:Heap.SameBut S s.heap (s1.heap.update S (Obj.putSet (SetTable.insertAt es (pos L x) (ent x tk)) (tp led L x))):=by rw[e1];exact Heap.SameBut.update ..
  by_cases h4:L.length=4
  ·rw[if_pos h4]at f4;rw[f4.1];simp only[Bool.not_false,Bool.and_self,↓reduceIte];have hw:SetTable.grown (SetTable.insertAt es (pos L x) (ent x tk)).size=20:=by rw[hsz2,hln,h4];rfl
   have hmp:(SetTable.insertAt es (pos L x) (ent x tk)).map (·.1)=((ins L x).map Int.ofNat).toArray:=by
    obtain⟨tks,q1,q2⟩:=hin2;apply Array.toList_inj.mp;rw[Array.toList_map,q2];have gen:∀(L:List Nat) (tks:List Tok),tks.length=L.length->(List.zipWith ent L tks).map (·.1)=L.map Int.ofNat:=by
     intro L
     induction L with
     | nil=>intro tks _;rfl
     | cons a L ih =>
      intro tks hl;cases tks with
      | nil=>simp at hl
      | cons b tks=>simp only[List.zipWith_cons_cons,List.map_cons,ih tks (by simpa using hl)];rfl
    exact gen _ _ q1
   have h5:(SetTable.insertAt es (pos L x) (ent x tk)).size=5:=by rw[hsz2,hln,h4]
   have hrl:relayAll (tp led L x) (SetTable.insertAt es (pos L x) (ent x tk)) (SetTable.grown (SetTable.insertAt es (pos L x) (ent x tk)).size)=(SetTable.insertAt es (pos L x) (ent x tk),tb led (ins L x),false):=by
    unfold relayAll;rw[hw,hmp,f4.2];dsimp only;rw[mm _ h5];have c1:coversAll #[0,1,2,3,4] (SetTable.insertAt es (pos L x) (ent x tk)).size=true:=by rw[h5];decide +kernel
    have c2:(tb led (ins L x)).fits (SetTable.insertAt es (pos L x) (ent x tk)).size=true:=by rw[hsz2];exact(lI _ hins led (dE led)).1
    rw[c1,c2];rfl
   rw[hrl];dsimp only;refine wpAny_bind (wpAny_pure ?_);refine wpAny_bind (wpAny_storeSet_of hg rfl ?_ hz);have hg3:=Heap.get?_update_self (Obj.putSet (SetTable.insertAt es (pos L x) (ent x tk)) (tb led (ins L x))) hg rfl;refine wpAny_pure (wpAny_pure ?_);rw[hs1];refine h true _ _ (sb1.trans (Heap.SameBut.update ..)) ?_;rw[if_neg hn];exact⟨hins,_,_,hg3,hin2⟩
  ·rw[if_neg h4]at f4;rw[f4.1];simp only[Bool.not_false,Bool.and_false,Bool.false_eq_true,↓reduceIte];refine wpAny_pure (wpAny_pure ?_);rw[hs1];refine h true _ _ sb1 ?_;rw[if_neg hn];rw[f4.2]at hg;rw[f4.2];exact⟨hins,_,_,hg,hin2⟩
end
end SI
namespace SI
theorem slot_next:Slot "set_iterator" "__next__" "set_iterator.__next__":=.of (owner:="set_iterator") (n:="__next__") (by rw[typeLookup_type,builtinLookup_eq_fast];kernel_rfl) (by decide +kernel) (by decide +kernel) (by decide +kernel) (by first | exact .inl (by decide +kernel) | exact .inr (by decide +kernel)) (by rw[isSubtype_type];kernel_rfl)
theorem nK:Slot "set_iterator" "__iter__" "set_iterator.__iter__":=.of (owner:="set_iterator") (n:="__iter__") (by rw[typeLookup_type,builtinLookup_eq_fast];kernel_rfl) (by decide +kernel) (by decide +kernel) (by decide +kernel) (by first | exact .inl (by decide +kernel) | exact .inr (by decide +kernel)) (by rw[isSubtype_type];kernel_rfl)
theorem entry_next:entryFor table "set_iterator.__next__"=some Builtin.«set_iterator.__next__»:=entryFor_of_tree (by kernel_rfl)
theorem r9:entryFor table "set_iterator.__iter__"=some Builtin.«dict_keyiterator.__iter__»:=entryFor_alias (id':="dict_keyiterator.__iter__") (by kernel_rfl) rfl (by decide +kernel) (by kernel_rfl)
theorem mY:entryFor table "set.__iter__"=some Builtin.«frozenset.__iter__»:=entryFor_alias (id':="frozenset.__iter__") (by kernel_rfl) rfl (by decide +kernel) (by kernel_rfl)
theorem iI{α:Type}:∀(l:List α) (i:Nat) (h:i<l.length),(l[i]::l.eraseIdx i).Perm l
 | x::l,0,_=>List.Perm.refl _
 | x::l,i+1,h=>by
  have ih:=iI l i (by simpa using h);have h':i<l.length:=by simpa using h
  show(l[i]::x::l.eraseIdx i).Perm (x::l);exact(List.Perm.swap _ _ _).trans (ih.cons x)
theorem args_next(a:Value):argsOk "set_iterator.__next__" ⟨[a],[]⟩:=by unfold argsOk;kernel_rfl
theorem vk(a:Value):argsOk "set_iterator.__iter__" ⟨[a],[]⟩:=by unfold argsOk;kernel_rfl
def lY(h:Heap)(it S:Addr)(k i n ep:Nat):Prop:=h.get? it=some { cls:=.type "set_iterator",data:=.fields #[.int k 0,.int i 0,.ref S,.int n 0,.int ep 0] }
theorem lY.ty{s:Shared}{it S:Addr}{k i n ep:Nat}(h:lY s.heap it S k i n ep):s.TypeIs (.ref it) "set_iterator":=⟨_,h,rfl⟩
theorem d8{α:Type}(next:Nat->Nat):∀(f k:Nat) (l:List α) (out:Array α),f=l.length->(pickOrder.go next f k l out).toList.Perm (out.toList++l)
 | 0,k,l,out,h=>by
  have:l=[]:=List.length_eq_zero_iff.mp h.symm;subst this;show out.toList.Perm _;rw[List.append_nil]
 | f+1,k,l,out,h=>by
  have hlt:next k % l.length<l.length:=Nat.mod_lt _ (by omega)
  unfold pickOrder.go;rw[List.getElem?_eq_getElem hlt];dsimp only;refine(d8 next f (k+1) _ _ (by rw[List.length_eraseIdx_of_lt hlt];omega)).trans ?_;rw[Array.toList_push,List.append_assoc];refine List.Perm.append_left _ ?_;exact iI l _ hlt
def walk(w:World)(S:Addr)(es:Array (Int×Value))(ep:Nat):Array (Int×Value):=if w.params.followText "set-order"=true then pickOrder (w.params.setOrder S ep) es else es
theorem jq(w:World)(S:Addr)(es:Array (Int×Value))(ep:Nat):(walk w S es ep).toList.Perm es.toList:=by
 unfold walk;split
 ·have:=d8 (w.params.setOrder S ep) es.size 0 es.toList #[] (by simp);simpa[pickOrder]using this
 ·exact List.Perm.refl _
theorem d9(w:World)(S:Addr)(es:Array (Int×Value))(ep:Nat):(walk w S es ep).size=es.size:=by
 have:=(jq w S es ep).length_eq;simpa using this
def slotAt(w:World)(L:List Nat)(i:Nat):Nat:=if w.params.followText "set-order"=true then 0 else if i=0 then 0 else L.getD (i - 1) 0+1
section
variable {prog:Program}{w:World}{A:Around}{E:Value->Shared->Prop}{s:Shared}
def bb(w:World):Bool:=!w.params.followText "set-order"
theorem below_at{w:World}{L:List Nat}(hL:L∈subs)(hb:¬w.params.followText "set-order"=true){i:Nat}(hi:i≤L.length):SetTable.below L.toArray (slotAt w L i)=i:=by
 unfold slotAt;rw[if_neg hb];obtain⟨_,a,b⟩:=lI L hL true (by simp);cases i with
 | zero=>exact a
 | succ i =>
  rw[if_neg (by omega)];exact b i (List.mem_range.mpr (by omega))
theorem sN{S:Addr}{L:List Nat}{es:Array (Int×Value)}{ep:Nat}{Q:Value->Shared->Prop}(hL:L∈subs)(ho:s.heap.get? S=some { cls:=.type "set",dict:=none,data:=.set es ep (tb (bb w) L) })(he:cG es L)
  (hQ:Q (.ref s.heap.objs.size) { s with heap:=s.heap.push { cls:=.type "set_iterator",data:=.fields #[.int 0 0,.int 0 0,.ref S,.int es.size 0,.int ep 0] } }):wpAny (model prog w) A (pyIter (.ref S)) Q E s:=by
 have ty:s.TypeIs (.ref S) "set":=⟨_,ho,rfl⟩;have hf:(tb (bb w) L).fits es.size=true:=by rw[he.size];exact(lI L hL _ (dE _)).1
 refine wpAny_pyIter_slot ty F.slot_set_iter (wpAny_call_entry F.slot_set_iter ty mY ?_ (F.args_set_iter_1 _));unfold Builtin.«frozenset.__iter__» Builtin.Frozenset.slot0;refine wpAny_bind (wpAny_bind (wpAny_pure (wpAny_pure ?_)));unfold Builtin.Frozenset.sizeOf;refine wpAny_bind (wpAny_bind (wpAny_setEntries_of ho rfl hf (wpAny_pure ?_)));unfold setDrawn setsByText;refine wpAny_bind (wpAny_bind (wpAny_setState_of ho rfl hf ?_));dsimp only;refine wpAny_bind (wpAny_bind (wpAny_askSetting (wpAny_pure (wpAny_pure ?_))));refine wpAny_ite_split (fun hx=>?_) (fun _=>wpAny_bind (wpAny_pure ?_))
 ·exfalso;have hx':(!(w.params.followText "set-order")&&(!(tb (bb w) L).plain&&decide (es.size>1)))=true:=hx;have hp:(tb (bb w) L).plain=true:=rfl;rw[hp]at hx';simp at hx'
 ·refine wpAny_bind (wpAny_setEpoch_of ho rfl hf ?_);simp only[newFields];refine wpAny_bind (wpAny_newObj_type (wpAny_pure ⟨_,rfl,"set_iterator",_,⟨_,Heap.get?_push_size _ rfl,rfl⟩,slot_next.lookup,?_⟩));exact hQ
theorem lD{S:Addr}{L:List Nat}{es:Array (Int×Value)}{ep i:Nat}{Q':Option (Value×Nat)->Shared->Prop}(hL:L∈subs)(ho:s.heap.get? S=some { cls:=.type "set",dict:=none,data:=.set es ep (tb (bb w) L) })(he:cG es L)(hi:i≤es.size)
  (hq:Q' (((walk w S es ep)[i]?).map fun e=>(e.2,slotAt w L (i+1))) s):wpAny (model prog w) A (setNext S (slotAt w L i) i ep) Q' E s:=by
 have hf:(tb (bb w) L).fits es.size=true:=by rw[he.size];exact(lI L hL _ (dE _)).1
 unfold setNext;refine wpAny_bind (wpAny_setState_of ho rfl hf ?_);dsimp only;unfold setsByText;refine wpAny_bind (wpAny_bind (wpAny_askSetting (wpAny_pure ?_)));refine wpAny_ite_split (fun hb=>?_) (fun hb=>?_)
 ·have hb':w.params.followText "set-order"=true:=hb;refine wpAny_ite_split (fun hx=>absurd hx (by simp)) (fun _=>?_);unfold setWalk setsByText;refine wpAny_bind (wpAny_bind (wpAny_setState_of ho rfl hf ?_));dsimp only;refine wpAny_bind (wpAny_bind (wpAny_askSetting (wpAny_pure ?_)));refine wpAny_ite_split (fun _=>?_) (fun hc=>absurd hb hc);refine wpAny_bind (wpAny_askSetting (wpAny_pure (wpAny_pure ?_)));unfold walk slotAt at hq;rw[if_pos hb',if_pos hb']at hq;unfold slotAt;rw[if_pos hb'];exact hq
 ·have hb':¬w.params.followText "set-order"=true:=hb;refine wpAny_ite_split (fun hx=>?_) (fun _=>?_)
  ·exfalso;have hx':(!(tb (bb w) L).plain&&decide (es.size>1))=true:=hx;have hp:(tb (bb w) L).plain=true:=rfl;rw[hp]at hx';simp at hx'
  ·have hled:bb w=true:=by unfold bb;simpa using hb'
   refine wpAny_bind ?_;refine(show wpAny (model prog w) A (if (!(tb (bb w) L).led&&!es.isEmpty)=true then unsupported "set:maker-not-led" else pure ()) _ E s from ?_);refine wpAny_ite_split (fun hx=>?_) (fun _=>wpAny_pure (wpAny_pure ?_))
   ·exfalso;have hl2:(tb (bb w) L).led=true:=hled;rw[hl2]at hx;simp at hx
   ·have hbl:=below_at (w:=w) hL hb' (i:=i) (by rw[←he.size];exact hi);have hpl:(tb (bb w) L).place=L.toArray:=rfl;rw[hpl,hbl];unfold walk at hq;rw[if_neg hb']at hq;by_cases hlt:i<es.size
    ·have hlt2:i<L.length:=by rw[←he.size];exact hlt
     rw[Array.getElem?_eq_getElem hlt]at hq ⊢;have e2:L.toArray[i]?=some L[i]:=by simp[hlt2]
     rw[e2];unfold slotAt at hq;rw[if_neg hb',if_neg (by omega),Nat.add_sub_cancel,List.getD_eq_getElem?_getD,List.getElem?_eq_getElem hlt2]at hq;exact hq
    ·rw[Array.getElem?_eq_none (by omega)]at hq ⊢;exact hq
theorem next_item{it S:Addr}{L:List Nat}{es:Array (Int×Value)}{ep i:Nat}{e:Int×Value}{Q:Option Value->Shared->Prop}(hL:L∈subs)(ho:s.heap.get? S=some { cls:=.type "set",dict:=none,data:=.set es ep (tb (bb w) L) })(he:cG es L)
  (hit:lY s.heap it S (slotAt w L i) i es.size ep) (hx:(walk w S es ep)[i]?=some e)
  (hQ:∀h',lY h' it S (slotAt w L (i+1)) (i+1) es.size ep->Heap.SameBut it s.heap h'->Q (some e.2) { s with heap:=h' }):wpAny (model prog w) A (pyNext (.ref it)) Q E s:=by
 have hf:(tb (bb w) L).fits es.size=true:=by rw[he.size];exact(lI L hL _ (dE _)).1
 have hi:i<es.size:=by
  rw[←d9 w S es ep];exact(Array.getElem?_eq_some_iff.mp hx).1
 unfold pyNext;refine wpAny_bind (wpAny_attempt (wpAny_callSpecial?_slot (name:=Str.ofString "__next__") hit.ty slot_next (wpAny_call_entry slot_next hit.ty entry_next ?_ (args_next _))));unfold Builtin.«set_iterator.__next__»;refine wpAny_bind (wpAny_pure ?_);refine wpAny_bind (wpAny_fieldsOf hit rfl ?_);dsimp only;refine wpAny_bind (wpAny_setEntries_of ho rfl hf ?_);rw[if_neg (by simp)];simp only[Int.toNat_natCast];refine wpAny_bind (lD hL ho he (by omega) ?_);rw[hx];dsimp only[Option.map_some];refine wpAny_bind (wpAny_setField hit rfl (by simp) ?_);have h1:=Heap.get?_update_self (Obj.mapFields (·.setIfInBounds 0 (rawInt ((slotAt w L (i+1):Nat):Int)))) hit rfl;refine wpAny_bind (wpAny_setField h1 rfl (by simp[Obj.mapFields]) ?_);have h2:=Heap.get?_update_self (Obj.mapFields (·.setIfInBounds 1 (rawInt ((i:Nat)+1:Int)))) h1 rfl;refine wpAny_pure ⟨_,rfl,wpAny_pure (hQ _ ?_ ((Heap.SameBut.update ..).trans (Heap.SameBut.update ..)))⟩;exact h2
theorem next_end{it S:Addr}{L:List Nat}{es:Array (Int×Value)}{ep:Nat}{Q:Option Value->Shared->Prop}(hh:A.handled=none)(hL:L∈subs)(ho:s.heap.get? S=some { cls:=.type "set",dict:=none,data:=.set es ep (tb (bb w) L) })(he:cG es L)
  (hit:lY s.heap it S (slotAt w L es.size) es.size es.size ep) (hQ:∀h',Heap.ExtBut it s.heap h'->Q none { s with heap:=h' }):wpAny (model prog w) A (pyNext (.ref it)) Q E s:=by
 have hf:(tb (bb w) L).fits es.size=true:=by rw[he.size];exact(lI L hL _ (dE _)).1
 unfold pyNext;refine wpAny_bind (wpAny_attempt (wpAny_callSpecial?_slot (name:=Str.ofString "__next__") hit.ty slot_next (wpAny_call_entry slot_next hit.ty entry_next ?_ (args_next _))));unfold Builtin.«set_iterator.__next__»;refine wpAny_bind (wpAny_pure ?_);refine wpAny_bind (wpAny_fieldsOf hit rfl ?_);dsimp only;refine wpAny_bind (wpAny_setEntries_of ho rfl hf ?_);rw[if_neg (by simp)];simp only[Int.toNat_natCast];refine wpAny_bind (lD hL ho he (Nat.le_refl _) ?_);rw[Array.getElem?_eq_none (by rw[d9];exact Nat.le_refl _)];dsimp only[Option.map_none];refine wpAny_bind (wpAny_setField hit rfl (by simp) ?_);refine wpAny_bind ?_;simp only[newExc,newTuple];refine wpAny_bind (wpAny_newObj_type (wpAny_bind (m:=firstArgMember _ _) (wpAny_of_eq (a:=Value.none) (by first | rfl |(simp only[firstArgMember];rfl)) (wpAny_newObj_type ?_ (by size_fits)))) (by size_fits));simp only[raiseNew];refine wpAny_bind (wpAny_handled ?_);have hh1:A.in1.handled=none:=hh;rw[hh1];refine wpAny_bind (wpAny_pure (wpAny_throw ?_));refine wpAny_bind (wpAny_isInstance (T:="StopIteration") (b:=true) ⟨_,Heap.get?_push_size _ rfl,rfl⟩ isSubtype_stop (wpAny_pure (hQ _ (((Heap.SameBut.update ..).extBut.push _).push _))))
theorem qd(hh:A.handled=none){I S:Addr}{L:List Nat}{es:Array (Int×Value)}{ep:Nat}(hne:S≠I)(hL:L∈subs)(he:cG es L) :
  Walks prog w A I [I,S] [I] es.size (fun i v=>∃e,(walk w S es ep)[i]?=some e/\v=e.2) (fun i h=>lY h I S (slotAt w L i) i es.size ep/\h.get? S=some { cls:=.type "set",dict:=none,data:=.set es ep (tb (bb w) L) }) where
 sub:=fun b hb=>by simp at hb;simp[hb]
 frame:=fun _ _ _ st hk=>⟨hk I (by simp) _ st.1,hk S (by simp) _ st.2⟩
 item:=fun i s Q E hi st hQ=>by
  have hw:i<(walk w S es ep).size:=by rw[d9];exact hi
  have hx:(walk w S es ep)[i]?=some (walk w S es ep)[i]:=Array.getElem?_eq_getElem hw;refine next_item hL st.2 he st.1 hx fun h' it' sb=>?_;exact hQ _ h' s.toks ⟨_,hx,rfl⟩ ⟨it',sb.extBut S _ hne st.2⟩ fun b o hb e=>sb.extBut b o (fun h=>hb (by simp[h])) e
 done:=fun s Q E st hQ=>next_end hh hL st.2 he st.1 fun h' eb=>hQ h' s.toks fun b o hb e=>eb b o (fun h=>hb (by simp[h])) e
 self:=fun i s Q E st hQ=>by
  refine wpAny_pyIter_slot st.1.ty nK (wpAny_call_entry nK st.1.ty r9 ?_ (vk _));show wpAny _ _ (ret (.ref I)) _ _ s;exact wpAny_pure ⟨_,rfl,"set_iterator",_,st.1.ty,slot_next.lookup,hQ⟩
def add(L:List Nat)(x:Nat):List Nat:=if x∈L then L else ins L x
def lof(ns:List Nat):List Nat:=ns.foldl add []
theorem uk{L:List Nat}{x y:Nat}:y∈ins L x↔y=x∨y∈L:=by
 unfold ins;rw[List.mem_append,List.mem_cons];have:y∈L↔y∈L.take (pos L x)∨y∈L.drop (pos L x):=by
  rw[←List.mem_append,List.take_append_drop]
 rw[this];constructor
 ·rintro(h | h | h)
  ·exact .inr (.inl h)
  ·exact .inl h
  ·exact .inr (.inr h)
 ·rintro(h | h | h)
  ·exact .inr (.inl h)
  ·exact .inl h
  ·exact .inr (.inr h)
theorem uG{L:List Nat}{x y:Nat}:y∈add L x↔y=x∨y∈L:=by
 unfold add;split
 ·rename_i h;exact⟨.inr,fun q=>q.elim (fun e=>e▸h) id⟩
 ·exact uk
theorem qL{L:List Nat}{x:Nat}(hL:L∈subs)(hx:x<6):add L x∈subs:=by
 unfold add;split
 ·exact hL
 ·rename_i h;exact(gL L hL).2.2.2 x (List.mem_range.mpr hx) h
theorem k8{y:Nat}:∀(ns L:List Nat),y∈ns.foldl add L↔y∈ns∨y∈L
 | [],L=>by simp
 | n::ns,L=>by
  rw[List.foldl_cons,k8 ns,uG,List.mem_cons];constructor
  ·rintro(h | h | h)
   ·exact .inl (.inr h)
   ·exact .inl (.inl h)
   ·exact .inr h
  ·rintro((h | h) | h)
   ·exact .inr (.inl h)
   ·exact .inl h
   ·exact .inr (.inr h)
theorem jl:∀(ns L:List Nat),L∈subs->(∀n∈ns,n<6)->ns.foldl add L∈subs
 | [],L,h,_=>h
 | n::ns,L,h,hn=>jl ns _ (qL h (hn n List.mem_cons_self)) fun m hm=>hn m (List.mem_cons_of_mem _ hm)
theorem iP:[]∈subs:=by decide +kernel
theorem eY{ns:List Nat}(h:∀n∈ns,n<6):lof ns∈subs:=jl ns [] iP h
theorem gT{ns:List Nat}{y:Nat}:y∈lof ns↔y∈ns:=by
 unfold lof;rw[k8];simp
theorem kn{ns:List Nat}{i:Nat}(h:i<ns.length):lof (ns.take (i+1))=add (lof (ns.take i)) ns[i]:=by
 unfold lof;rw[List.take_add_one,List.getElem?_eq_getElem h,List.foldl_append];rfl
end
end SI
namespace SI
section
variable {prog:Program}{w:World}{A:Around}{E:Value->Shared->Prop}{s:Shared}
def kR(vs:List Value)(ns:List Nat):Prop:=vs.length=ns.length/\∀(i:Nat) (v:Value),vs[i]?=some v->∃tk,v=Value.int ((ns.getD i 0:Nat):Int) tk
theorem Av{S I l:Addr}{vs:List Value}{ns:List Nat}{led:Bool}{R:Result->Shared->Prop}(hh:A.in1.handled=none)(hT:kR vs ns)(hin:∀n∈ns,n<6)(hSI:S≠I)(hSl:S≠l)(hlI:l≠I) :
  ∀(k i:Nat) (s:Shared),ns.length - i=k->i≤ns.length->s.heap.IsListIter I l i->s.heap.IsList l vs.toArray->eO s.heap S led (lof (ns.take i)) ->
   (∀h' tk,(∀b o,b≠S->b≠I->s.heap.get? b=some o->h'.get? b=some o)->eO h' S led (lof ns)->R (.ok (.ret .none)) { s with heap:=h',toks:=tk }) ->
   codeAny (model prog w) A (.builtin "set.update.loop" ⟨[.ref S,.ref I],[]⟩) R s:=by
 intro k
 induction k with
 | zero =>
  intro i s hk hi hit hl hP hR;have e:i=ns.length:=by omega
  subst e;rw[List.take_length]at hP;refine codeAny_builtin F.entry_set_update_loop ?_;rw[Around.under_plainId F.plain_set_update_loop _];show wpAny _ A.in1 (pyNext (.ref I) >>= _) _ _ s;refine wpAny_bind (wpAny_pyNext_list_end hh hit hl (by simp[hT.1]) fun h' eb=>?_);show wpAny _ A.in1 (ret Value.none) _ _ _;refine wpAny_pure (hR h' s.toks (fun b o _ hb e=>eb b o hb e) ?_);obtain⟨hL,es,ep,ho,r⟩:=hP.is;exact⟨hL,es,ep,eb S _ hSI ho,r⟩
 | succ k ih =>
  intro i s hk hi hit hl hP hR;have hlt:i<ns.length:=by omega
  have hvl:i<vs.length:=by rw[hT.1];exact hlt
  have hvi:vs[i]?=some vs[i]:=List.getElem?_eq_getElem hvl;obtain⟨tk,ev⟩:=hT.2 i _ hvi;have en:ns.getD i 0=ns[i]:=by rw[List.getD_eq_getElem?_getD,List.getElem?_eq_getElem hlt];rfl
  rw[en]at ev;refine codeAny_builtin F.entry_set_update_loop ?_;rw[Around.under_plainId F.plain_set_update_loop _];show wpAny _ A.in1 (pyNext (.ref I) >>= _) _ _ s;refine wpAny_bind (wpAny_pyNext_list_item hit hl (x:=Value.int ((ns[i]:Nat):Int) tk) (by rw[←ev];simp) fun h1 hit1 sb1=>?_);have k1:∀b o,b≠I->s.heap.get? b=some o->h1.get? b=some o:=fun b o hb e=>sb1.extBut b o hb e;have hP1:eO h1 S led (lof (ns.take i)):=by
   obtain⟨hL,es,epo,ho,r⟩:=hP.is;exact⟨hL,es,epo,k1 S _ hSI ho,r⟩
  show wpAny _ A.in1 (holding [Value.int ((ns[i]:Nat):Int) tk] (setAdd S (Value.int ((ns[i]:Nat):Int) tk)) >>= _) _ _ _;refine wpAny_bind (wpAny_holding (ib (A:=A.in1) hP1 (hin _ (List.getElem_mem hlt)) fun b h2 tk2 sb2 hP2=>?_));have k2:∀b o,b≠S->h1.get? b=some o->h2.get? b=some o:=fun b o hb e=>sb2.extBut b o hb e;have hP3:eO h2 S led (lof (ns.take (i+1))):=by rw[kn hlt];exact hP2
  refine wpAny_pure ⟨plainId_quiet F.plain_set_update_loop _,ih (i+1) { s with heap:=h2,toks:=tk2 } (by omega) (by omega) (hit1.extBut (fun b o hb e=>k2 b o hb e) (Ne.symm hSI)) ?_ hP3 ?_⟩
  ·exact(hl.extBut (fun b o hb e=>k1 b o hb e) hlI).extBut (fun b o hb e=>k2 b o hb e) (Ne.symm hSl)
  ·intro h3 tk3 kp hP4;exact hR h3 tk3 (fun b o hb hb' e=>kp b o hb hb' (k2 b o hb (k1 b o hb' e))) hP4
theorem m8(a:Value){Q₁:Value->Shared->Prop}(h:Q₁ (.ref s.heap.objs.size) { s with heap:=s.heap.push { cls:=.type "set",dict:=none,data:=.set #[] 0 (.fresh 0 0 (bb w)) } }) :
  codeAny (model prog w) A (.call (.builtin "set.__new__") ⟨[.type "set",a],[]⟩) (wants Q₁ E) s:=by
 refine codeAny_of_tree ?_;show wpAny (model prog w) A.in1 (do checkBuiltinCall "set.__new__" ⟨[.type "set",a],[]⟩;again (.builtin "set.__new__" ⟨[.type "set",a],[]⟩)) _ _ _;refine wpAny_bind (wpAny_of_eq (F.newCall_set_1 a) (wpAny_pure ⟨plainId_quiet F.plain_set_new _,?_⟩));refine codeAny_builtin F.entry_set_new ?_;rw[Around.under_plainId F.plain_set_new _];unfold Builtin.«set.__new__»;unfold Builtin.Frozenset.newClass;have sub1:=sub_set_self;obtain⟨hp,g,d,tk,os⟩:=s;dsimp only
 wp_walk
 refine wpAny_askSetting (wpAny_pure ?_);dsimp only;simp only[newObj];refine wpAny_bind (wpAny_alloc (wpAny_pure (wpAny_pure ?_)));exact h
set_option maxHeartbeats 4000000 in
theorem iZ{l:Addr}{vs:List Value}{ns:List Nat}{Q:Value->Shared->Prop}(hh:A.handled=none)(hl:s.heap.IsList l vs.toArray)(hT:kR vs ns)(hin:∀n∈ns,n<6)
  (h:∀h' tk,(∀b o,b<s.heap.objs.size->s.heap.get? b=some o->h'.get? b=some o)->eO h' s.heap.objs.size (bb w) (lof ns)->Q (.ref s.heap.objs.size) { s with heap:=h',toks:=tk }) :
  wpAny (model prog w) A (call (.type "set") [.ref l]) Q E s:=by
 obtain⟨c0,tl0,mro0⟩:=F.called_set.mro;have made0:=F.called_set.made;have sub0:=F.called_set.sub;have nt0:=F.called_set.notType;have cc0:=F.called_set.canCreate;have tc0:=F.typeCall_set_1 (.ref l);refine wpAny_call (codeAny_of_tree ?_);show wpAny (model prog w) _ (callAny (.type "set") _) _ _ _;refine wpAny_pure ⟨Code.quiet_builtin _ (by decide +kernel),codeAny_builtin F.entry_type_call ?_⟩;rw[Around.under_plain (weight_type_call_type "set" [.ref l] []) rfl]
 repeat (any_goals (first | assumption | wp_step))
 refine codeAny_mono (m8 (.ref l) (E:=E) (Q₁:=fun obj s1=>obj=.ref s.heap.objs.size /\
  s1={ s with heap:=s.heap.push { cls:=.type "set",dict:=none,data:=.set #[] 0 (.fresh 0 0 (bb w)) } }) ⟨rfl,rfl⟩) fun r s1 hr=>?_
 cases r with
 | error e=>exact hr
 | ok fl =>
  cases fl with
  | ret obj =>
   obtain⟨rfl,rfl⟩:=hr;generalize hH:s.heap.push { cls:=.type "set",dict:=none,data:=.set #[] 0 (.fresh 0 0 (bb w)) }=H1;have hS:H1.get? s.heap.objs.size=some { cls:=.type "set",dict:=none,data:=.set #[] 0 (.fresh 0 0 (bb w)) }:=by rw[←hH];exact Heap.get?_push_size _ rfl
   have old:∀b o,s.heap.get? b=some o->H1.get? b=some o:=fun b o e=>by rw[←hH];exact Heap.get?_push_of_some _ e
   have hsz:H1.objs.size=s.heap.objs.size+1:=by rw[←hH,Heap.size_push]
   have tyS:Shared.TypeIs { s with heap:=H1 } (.ref s.heap.objs.size) "set":=⟨_,hS,rfl⟩;have li0:=F.called_set.init.lookup;have bi0:=F.called_set.init.bind (.ref s.heap.objs.size)
   repeat (any_goals (first | assumption | wp_step))
   refine codeAny_mono (codeAny_call_builtin (R:=wants (fun r s2=>r=.none/\∃h' tk,s2={ s with heap:=h',toks:=tk }/\eO h' s.heap.objs.size (bb w) (lof ns) /\
    (∀b o,b<s.heap.objs.size->s.heap.get? b=some o->h'.get? b=some o)) E) F.called_set.init.plain F.entry_set_init (check_set_init_1 tyS ?_)) fun r2 s2 hr2=>?_
   ·obtain⟨ol,hol,hcl,nl,hdl⟩:=hl;obtain⟨oc,od,oda,osl⟩:=ol;simp only at hcl hdl;subst hcl;subst hdl;have hol1:H1.get? l=some { cls:=.type "list",dict:=od,data:=.seq vs.toArray nl,slots:=osl }:=old _ _ hol;have sls:=F.sub_list_set;have slf:=F.sub_list_frozenset;have nld:(Value.type "list"==Value.type "dict")=false:=by decide
    have hl1:H1.IsList l vs.toArray:=⟨_,hol1,rfl,nl,rfl⟩;have llt:l<s.heap.objs.size:=Heap.lt_size hol;unfold Builtin.«set.__init__» noKeywords Builtin.Frozenset.updateFrom;generalize hPI:pyIter=PI
    wp_walk
    subst hPI;refine wpAny_pyIter_list hl1 ?_;refine wpAny_bind (wpAny_runValue ?_);generalize hH2:H1.push { cls:=.type "list_iterator",data:=.fields #[.ref l,.int 0 0] }=H2;have old2:∀b o,H1.get? b=some o->H2.get? b=some o:=fun b o e=>by rw[←hH2];exact Heap.get?_push_of_some _ e
    refine Av (l:=l) (ns:=ns) (vs:=vs) (led:=bb w) (by simp[hh]) hT hin (by show s.heap.objs.size≠H1.objs.size;rw[hsz];exact Nat.ne_of_lt (Nat.lt_succ_self _)) (Nat.ne_of_gt llt) (by show l≠H1.objs.size;rw[hsz];exact Nat.ne_of_lt (Nat.lt_succ_of_lt llt)) ns.length 0 _ (by omega) (Nat.zero_le _) ?_ ?_ ?_ ?_
    ·rw[←hH2];exact⟨_,Heap.get?_push_size _ rfl,rfl,rfl⟩
    ·exact⟨_,old2 _ _ hol1,rfl,nl,rfl⟩
    ·refine⟨iP,#[],0,old2 _ _ hS,[],rfl,rfl⟩
    ·intro h' tk kp hP;show wpAny _ _ (pure ()) _ _ _;refine wpAny_pure ?_;show wpAny _ _ (ret Value.none) _ _ _;refine wpAny_pure ⟨rfl,h',tk,rfl,hP,fun b o hb e=>?_⟩;refine kp b o (Nat.ne_of_lt hb) ?_ (old2 _ _ (old _ _ e));show b≠H1.objs.size;rw[hsz];exact Nat.ne_of_lt (Nat.lt_succ_of_lt hb)
   ·cases r2 with
    | error e=>exact hr2
    | ok f2 =>
     cases f2 with
     | ret r =>
      obtain⟨rfl,h',tk,rfl,hP,hk⟩:=hr2
      repeat (any_goals (first | assumption | wp_step))
      exact h _ _ hk hP
     | _=>exact hr2.elim
  | _=>exact hr.elim
theorem tE{r:Addr}{Q:Bool->Shared->Prop}(hT:s.TypeIs (.ref r) "set")(h:Q false s):wpAny (model prog w) A (Builtin.List.listLengthHint (.ref r)) Q E s:=by
 unfold Builtin.List.listLengthHint;refine wpAny_bind (wpAny_specialOf hT PySem.F.slot_set_len.lookup ?_);generalize hid:("set.__len__":String)=id0
 wp_delta
 rw[show splitId id0=some ("set","__len__")from by subst hid;decide +kernel];subst hid;refine wpAny_bind (wpAny_isInstance (T:="set") (b:=true) hT (by rw[isSubtype_type];kernel_rfl) (wpAny_ite_split (fun hab=>absurd hab (by decide)) (fun _=>wpAny_ite_split (fun _=>?_) (fun hab=>absurd (by decide +kernel) hab))));exact wpAny_bind (wpAny_typeOf hT (wpAny_pure h))
theorem v5{S:Addr}{L:List Nat}{es:Array (Int×Value)}{ep:Nat}(hL:L∈subs)(he:cG es L) :
  PySem.W.KdlSrc prog w "set" S S es.size (fun i v=>∃e,(walk w S es ep)[i]?=some e/\v=e.2) (fun h=>h.get? S=some { cls:=.type "set",dict:=none,data:=.set es ep (tb (bb w) L) }) where
 type:=fun s ho=>⟨_,ho,rfl⟩
 there:=fun h ho=>⟨Heap.lt_size ho,Heap.lt_size ho⟩
 keep:=fun h h' ho k=>k S (.inl rfl) _ ho
 notList:=by decide
 notTuple:=by decide
 hint:=fun A E s Q ho q=>tE ⟨_,ho,rfl⟩ q
 iter:=fun A s hh ho=>⟨_,_,fun E Q q=>sN hL ho he q,qd hh (Nat.ne_of_lt (Heap.lt_size ho)) hL he,⟨by
  show lY _ _ _ (slotAt w L 0) 0 _ _;have:slotAt w L 0=0:=by unfold slotAt;split<;>rfl
  rw[this];exact Heap.get?_push_size _ rfl,Heap.get?_push_of_some _ ho⟩⟩
theorem kZ{S:Addr}{L:List Nat}{es:Array (Int×Value)}{ep:Nat}{Q:List Value->Shared->Prop}(hh:A.handled=none)(hL:L∈subs)(he:cG es L)(ho:s.heap.get? S=some { cls:=.type "set",dict:=none,data:=.set es ep (tb (bb w) L) })
  (h:∀h' tk,s.heap.objs.size<h'.objs.size->(∀b o,s.heap.get? b=some o->h'.get? b=some o)->Q ((walk w S es ep).toList.map (·.2)) { s with heap:=h',toks:=tk }):wpAny (model prog w) A (collect (.ref S)) Q E s:=by
 have hlt:S<s.heap.objs.size:=Heap.lt_size ho;have h6:=(gL L hL).2.1;generalize hN:s.heap.objs.size=N;have hNS:N≠S:=by rw[←hN];exact Nat.ne_of_gt hlt
 have key:∀R:Result->Shared->Prop,(∀h' tk acc c,(∀b o,s.heap.get? b=some o->h'.get? b=some o)->h'.get? N=some { cls:=.type "list",dict:=none,data:=.seq acc c,slots:=#[] } ->
   ItemsOf (fun i v=>∃e,(walk w S es ep)[i]?=some e/\v=e.2) acc es.size->R (.ok (.ret (.ref N))) { s with heap:=h',toks:=tk })->codeAny (model prog w) A (.builtin "proto.collect" ⟨[.ref S],[]⟩) R s:=by
  intro R hR;refine codeAny_builtin PyProof.Rows.entry_proto_collect' ?_;rw[Around.under_plainId PySem.F.plain_proto_collect _];show wpAny (model prog w) A.in1 (newList [] >>= fun l=>again (.builtin "list.__iadd__" ⟨[l,.ref S],[]⟩)) _ _ s;refine wpAny_bind (wpAny_newObj_type ?_);refine wpAny_pure ⟨plainId_quiet PySem.F.plain_list_iadd _,codeAny_builtin PySem.F.entry_list_iadd ?_⟩;rw[Around.under_plainId PySem.F.plain_list_iadd _];rw[hN];show wpAny (model prog w) A.in1 (Builtin.List.listExtendWith (.ref N) (.ref S) (.ref N)) _ _ _;have hS:(s.heap.push { cls:=.type "list",data:=.seq ([]:List Value).toArray }).get? N=some { cls:=.type "list",data:=.seq #[] 0 }:=by rw[←hN];exact Heap.get?_push_size _ rfl
  refine PySem.W.kdl_extend (s:={ s with heap:=s.heap.push { cls:=.type "list",data:=.seq ([]:List Value).toArray } }) (v5 (ep:=ep) hL he) (by simpa using hh) (Heap.get?_push_of_some _ ho) N hNS hNS (.ref N) 0 hS (fun h' tk acc c kp hS' hacc=>?_) (by rw[he.size,sizeLine_eq];omega);exact hR h' tk acc c (fun b o q=>kp b o (by rw[←hN];exact Nat.ne_of_lt (Heap.lt_size q)) (Heap.get?_push_of_some _ q)) hS' hacc
 unfold collect;refine wpAny_bind (wpAny_runValue (key _ fun h' tk acc c kp hS' hacc=>?_));show wpAny (model prog w) A (load N >>= _) _ _ _;refine wpAny_bind (wpAny_load hS' ?_);refine wpAny_pure ?_;have e:acc.toList=(walk w S es ep).toList.map (·.2):=by
  apply List.ext_getElem?;intro j;by_cases hj:j<acc.size
  ·obtain⟨e,e1,e2⟩:=hacc.2 j _ (Array.getElem?_eq_getElem hj);rw[Array.getElem?_toList,Array.getElem?_eq_getElem hj,List.getElem?_map,Array.getElem?_toList,e1,e2];rfl
  ·have hz:(walk w S es ep).size≤j:=by rw[d9];have:=hacc.1;omega
   rw[Array.getElem?_toList,Array.getElem?_eq_none (by omega),List.getElem?_map,Array.getElem?_toList,Array.getElem?_eq_none hz];rfl
 show Q acc.toList _;rw[e];exact h h' tk (by rw[hN];exact Heap.lt_size hS') kp
theorem mT{S:Addr}{L:List Nat}{Q:Value->Shared->Prop}(hh:A.handled=none)(hP:eO s.heap S (bb w) L)
  (h:∀(r:Addr) (h':Heap) (tk n:Nat) (out:List Value) (ms:List Int),s.heap.objs.size≤r->(∀b o,s.heap.get? b=some o->h'.get? b=some o)->h'.get? r=some (seqObj "list" out.toArray n)->IntsAre out ms->ms.Pairwise (·≤·)->ms.Perm (L.map fun(i:Nat)=>(i:Int))->Q (.ref r) { s with heap:=h',toks:=tk }) :
  wpAny (model prog w) A (call (.builtin "sorted") [.ref S]) Q E s:=by
 obtain⟨hL,es,ep,ho,he⟩:=hP.is;have h6:=(gL L hL).2.1;refine Calls.call_function_entry kind_sorted plain_sorted entry_sorted (args_sorted1 _) ?_;unfold Builtin.«sorted»;refine wpAny_bind (m:=checkCount "sorted" 1 1 _) (wpAny_pure ?_);refine wpAny_bind (kZ (by simpa using hh) hL he ho fun h1 tk1 hgt k1=>?_);have hil:∃ns:List Int,IntsAre ((walk w S es ep).toList.map (·.2)) ns/\ns.Perm (L.map fun(i:Nat)=>(i:Int)):=by
  have hp:=jq w S es ep;obtain⟨tks,q1,q2⟩:=he;have gen:∀(l:List (Int×Value)),(∀e∈l,∃x tk,e=ent x tk)->IntsAre (l.map (·.2)) (l.map (·.1)):=by
   intro l
   induction l with
   | nil=>intro _;exact .nil
   | cons e l ih =>
    intro hm;obtain⟨x,tk,rfl⟩:=hm e List.mem_cons_self;exact .cons _ _ (ih fun e he=>hm e (List.mem_cons_of_mem _ he))
  refine⟨(walk w S es ep).toList.map (·.1),gen _ fun e hm=>?_,?_⟩
  ·obtain⟨x,_,tk,e⟩:=cG.mem ⟨tks,q1,q2⟩ (hp.mem_iff.mp hm);exact⟨x,tk,e⟩
  ·refine(hp.map _).trans ?_;rw[q2];have gen2:∀(L:List Nat) (tks:List Tok),tks.length=L.length->(List.zipWith ent L tks).map (·.1)=L.map fun(i:Nat)=>(i:Int):=by
    intro L
    induction L with
    | nil=>intro tks _;rfl
    | cons a L ih =>
     intro tks hl;cases tks with
     | nil=>simp at hl
     | cons b tks=>simp only[List.zipWith_cons_cons,List.map_cons,ih tks (by simpa using hl)];rfl
   rw[gen2 L tks q1]
 obtain⟨ns,hi,hpm⟩:=hil;generalize (walk w S es ep).toList.map (·.2)=vs at hi ⊢;have hlen:vs.length=L.length:=by
  have a:=hpm.length_eq;have b:=IntsAre.length hi;rw[List.length_map]at a;omega
 refine wpAny_bind (wpAny_newList ?_ (by rw[hlen,sizeLine_eq];omega));have hoL:(h1.push (seqObj "list" vs.toArray 0)).get? h1.objs.size=some (seqObj "list" vs.toArray 0):=Heap.get?_push_size _ rfl;show wpAny (model prog w) _ _ _ _ { s with heap:=h1.push (seqObj "list" vs.toArray 0),toks:=tk1 };refine wpAny_bind (wpAny_holding (wpAny_call_entry slot_list_sort ⟨_,hoL,rfl⟩ entry_list_sort (list_sort_tree hoL hi (by omega) fun out ms a1 a2 a3=>⟨_,rfl,?_⟩) (args_list_sort _)));refine wpAny_pure ⟨_,rfl,?_⟩;obtain⟨e,he2⟩:=sortedHeap_at (out:=out) hoL;have hge:s.heap.objs.size≤h1.objs.size:=Nat.le_of_lt hgt;refine h h1.objs.size (sortedHeap (h1.push (seqObj "list" vs.toArray 0)) h1.objs.size vs out) tk1 e out.toList ms hge (fun b o q=>?_) (by simpa using he2) a1 a3 (a2.trans hpm);rw[sortedHeap_old (Nat.ne_of_lt (Heap.lt_size (k1 b o q))) (by rw[Heap.size_push];exact Nat.lt_succ_of_lt (Heap.lt_size (k1 b o q)))];exact Heap.get?_push_of_some _ (k1 b o q)
end
end SI
namespace L2
variable {X:Cx}
def fo(w:World)(S:Addr)(L:List Nat):Heap->Prop:=fun h=>SI.eO h S (SI.bb w) L
def tT(n:Nat):V:=.int (n:Int)
theorem gg:∀{ns:List Nat} {us:List Value},Vals (ns.map tT) us->SI.kR us ns
 | [],_,.nil=>⟨rfl,fun i v h=>by simp at h⟩
 | n::ns,_,.cons r t=>by
  obtain⟨tk,rfl⟩:=r;obtain⟨a,b⟩:=gg t;refine⟨by simp[a],fun i v h=>?_⟩;cases i with
  | zero=>simp at h;exact⟨tk,h.symm⟩
  | succ i=>simpa using b i v (by simpa using h)
theorem jv(hc:X.calm=true):cf X (.type "set") (fun xs H Q=>∃(a:Addr) (ns:List Nat),xs=[.ref a]/\SqL X.K H a (ns.map tT)/\(∀n∈ns,n<6)/\∀S,H S=none->Q (.ref S) (upd H S (.ext (fo X.w S (SI.lof ns))))):=by
 intro pins s σ H xs us Q I r h;obtain⟨a,ns,rfl,hq,hin,q⟩:=h;obtain⟨u,rfl,ru⟩:=Vals.one r;cases ru;obtain⟨its,rv,p,hz⟩:=I.list hq;refine SI.iZ (ns:=ns) (I.ok.hd hc) p.isList (gg rv) hin fun h' tk kp P=>?_;have hn:H s.heap.objs.size=none:=I.hok.fresh (Nat.le_refl _);refine⟨.ref s.heap.objs.size,_,I.laid (t':=tk) (o:=.ext (fo X.w s.heap.objs.size (SI.lof ns))) (fun b o e=>kp b o (Heap.lt_size e) e) (Nat.le_refl _) ?_,rfl,q _ hn⟩;obtain⟨hL,es,ep,ho,he⟩:=P.is;exact⟨P,⟨_,ho⟩,fun h1 h2 x k=>by obtain⟨a,es,ep,e,l⟩:=x.is;exact⟨a,es,ep,k _ e,l⟩⟩
theorem iS(hc:X.calm=true):cf X (.builtin "sorted") (fun xs H Q=>∃(S:Addr) (L:List Nat),xs=[.ref S]/\H S=some (.ext (fo X.w S L))/\∀(r:Addr) (ms:List Int),H r=none->ms.Pairwise (·≤·)->ms.Perm (L.map fun(i:Nat)=>(i:Int))->Q (.ref r) (upd H r (.lst (ms.map V.int)))):=by
 intro pins s σ H xs us Q I r h;obtain⟨S,L,rfl,hS,q⟩:=h;obtain⟨u,rfl,ru⟩:=Vals.one r;cases ru;obtain⟨P,_,_⟩:=(show bV X.prog X.w H s.heap S (.ext (fo X.w S L))from I.hok S _ hS);have h6:=(SI.gL L P.is.1).2.1;refine SI.mT (I.ok.hd hc) P fun r h' tk n out ms hge kp ho hi hs hp=>?_;have hn:H r=none:=I.hok.fresh hge;have hl:ms.length≤6:=by have:=hp.length_eq;rw[List.length_map]at this;omega
 refine⟨.ref r,_,I.laid (t':=tk) (o:=.lst (ms.map V.int)) (fun b o e=>kp b o e) hge ?_,rfl,q r ms hn hs hp⟩;exact⟨by rw[List.length_map,sizeLine_eq];omega,out,n,gx hi,ho⟩
def kC(K:PySem.W.Frag):V->List V->Hp->VK->Prop:=fun x vs H Q=>∃l b xs zs,x=.ref l/\vs=[.ref b]/\H l=some (.lst xs)/\SqT K H b zs/\xs.length+zs.length≤sizeLine/\Q .non (upd H l (.lst (xs++zs)))
end L2
namespace U
open L2
variable {B:Bs}{X:Cx}{e:Expr}{ta:TE'}{p p2 pos pos2:Pos}
def cV(n:Nat):PV:=.int (n:Int)
theorem fI{K:PySem.W.Frag}{H:Hp}:∀{ns:List Nat} {us:List V},RPs K H (ns.map cV) us->us=ns.map tT
 | [],us,h=>by simpa[RPs]using h
 | b::bs,us,h=>by
  simp only[List.map_cons,RPs,RP,cV]at h;obtain⟨u,r,rfl,rfl,h2⟩:=h;rw[fI h2];rfl
def om(x:PV)(H:PHp)(Q:VK'):Prop:=match x with
 | .ref a=>∃ns:List Nat,H a=some (.lst (ns.map cV))/\(∀n∈ns,n<6)/\∀(r:Addr) (ms:List Nat),H r=none->ms.Pairwise (·<·)->(∀x,x∈ms↔x∈ns)->Q (.ref r) (put H r (.lst (ms.map cV)))
 | _=>False
theorem CM{a:Addr}{H:PHp}{Q:VK'}:om (.ref a) H Q=∃ns:List Nat,H a=some (.lst (ns.map cV))/\(∀n∈ns,n<6)/\∀(r:Addr) (ms:List Nat),H r=none->ms.Pairwise (·<·)->(∀x,x∈ms↔x∈ns)->Q (.ref r) (put H r (.lst (ms.map cV))):=rfl
def lQ(ta:TE'):TE':=fun σ H Q=>ta σ H fun x H1=>om x H1 Q
theorem iC{L:List Nat}:∀{ms:List Int},(∀x∈ms,∃n∈L,x=((n:Nat):Int))->ms=(ms.map Int.toNat).map fun(n:Nat)=>(n:Int)
 | [],_=>rfl
 | x::ms,h=>by
  obtain⟨n,_,rfl⟩:=h x List.mem_cons_self;rw[List.map_cons,List.map_cons,← iC (ms:=ms) fun y hy=>h y (List.mem_cons_of_mem _ hy)];rfl
theorem iV(hc:X.calm=true)(hu:X.A.units+64<cLine)(hgl:Gl X "sorted")(hml:X.mg "sorted"=none)(hgs:Gl X "set")(hms:X.mg "set"=none)(bs:bootBuiltins "set"=some (.type "set"))(ha:PE' X B e ta)(bo:bootBuiltins "sorted"=some (.builtin "sorted"):=by decide +kernel)
  (he:starEach [.Call (.Name "set" p2) [e] [] pos2] X.env=[(false,eval (.Call (.Name "set" p2) [e] [] pos2) X.env)]:=by rfl) (he2:starEach [e] X.env=[(false,eval e X.env)]:=by rfl) :
  PE' X B (.Call (.Name "sorted" p) [.Call (.Name "set" p2) [e] [] pos2] [] pos) (lQ ta) :=
 aT (cE (iS hc) hgl hml bo (bD (cU (jv hc) hgs hms bs (bD ha b9 he2) (by decide) (by decide) he2 rfl) b9 he) (by decide) (by decide) he rfl) fun σ H Q h=>by
  obtain⟨σ',H',Q',s,h,k⟩:=h;refine⟨σ',H',_,s,h,fun x' H1' x H1 h1 rx s1 e1=>?_⟩;cases x' with
  | ref a =>
   obtain⟨ns,ea,hin,q⟩:=h1;simp only[RP]at rx;subst rx;obtain⟨us,eg,r2⟩:=s1.hp _ _ ea;rw[fI r2]at eg;refine⟨a,ns,rfl,.inl (.inl eg),hin,fun S hS=>⟨S,SI.lof ns,rfl,a8,fun r ms hr hs hp=>?_⟩⟩;have s2:=s1.hid (o:=.ext (fo X.w S (SI.lof ns))) hS;have e2:Ev H1' H1 H1' (upd H1 S (.ext (fo X.w S (SI.lof ns)))):=Ev.hid hS;have nd:=(SI.gL _ (SI.eY hin)).2.2.1;have hm:∀x∈ms,∃n∈SI.lof ns,x=((n:Nat):Int):=fun x hx=>by
    obtain⟨n,h1,h2⟩:=List.mem_map.mp (hp.mem_iff.mp hx);exact⟨n,h1,h2.symm⟩
   have em:=iC hm;generalize ms.map Int.toNat=ks at em;subst em;have pk:ks.Perm (SI.lof ns):=by
    have:=hp.map Int.toNat
    simpa[List.map_map,Function.comp_def]using this
   have ndk:ks.Nodup:=pk.nodup_iff.mpr nd;have hsk:ks.Pairwise (·<·):=by
    rw[List.pairwise_map]at hs;refine List.Pairwise.imp₂ (fun a b h1 h2=>?_) hs ndk;have:a≠b:=h2;omega
   have hq:=q r ks (s2.hp.free hr) hsk fun x=>pk.mem_iff.trans SI.gT;have rr:RPs X.K (upd H1 S (.ext (fo X.w S (SI.lof ns)))) (ks.map cV) ((ks.map fun(n:Nat)=>(n:Int)).map V.int):=by
    have e3:ks.map cV=(ks.map fun(n:Nat)=>(n:Int)).map PV.int:=by rw[List.map_map];rfl
    rw[e3];exact iq
   exact k _ _ _ _ hq (by simp[RP]) (s2.new hr (lg hr rr)) ((e1.trans e2).trans (Ev.new hr))
  | _=>exact h1.elim
end U
namespace L2
variable {X:Cx}{tg:Expr}
theorem ij:MtM X "list.extend" (kC X.K):=by
 intro pins s σ H x vs v us Q I rx rv h;obtain⟨l,b,xs,zs,rfl,rfl,hH,hB,hz,q⟩:=h;cases rx;obtain⟨u,rfl,ru⟩:=rv.one;cases ru;obtain⟨z,its,n,r,hl,e⟩:=I.lstM hH;obtain⟨is2,r2,⟨o2,ho2,hc2,n2,hd2⟩,hz2⟩:=I.tuple hB;have hne:l≠b:=by
  rintro rfl;rw[e]at ho2;cases ho2;exact absurd (show Value.type "list"=Value.type "tuple" from hc2) (by decide)
 have hlen2:=r2.length;refine wpAny_call_entry F.slot_list_extend ⟨_,e,rfl⟩ F.entry_list_extend ?_ (F.args_list_extend_2 _ _);show wpAny _ _ (Builtin.List.listExtendWith (.ref l) (.ref b) .none) _ _ _;unfold Builtin.List.listExtendWith;refine wpAny_bind (wpAny_typeOf (T:="tuple") ⟨o2,ho2,hc2⟩ ?_);rw[if_pos (by rw[show(Value.type "tuple"==Value.type "tuple")=true from rfl];simp)];refine wpAny_bind (listItems_at ho2 hd2 ?_);refine wpAny_bind (listItems_at (xs:=its.toArray) (n:=n) e rfl ?_);have hsz:its.toArray.size+is2.toArray.size≤sizeLine:=by rw[List.size_toArray,List.size_toArray];omega
 rw[if_neg (by rw[kJ hsz,Bool.and_false];exact Bool.false_ne_true)];refine wpAny_bind (listUpdate_at (xs:=its.toArray) (n:=n) e rfl ?_ (by rw[List.size_toArray];omega) (by show(its.toArray++is2.toArray).size≤_;rw[Array.size_append];omega));refine wpAny_pure ⟨_,rfl,?_⟩;refine⟨.non,_,I.lset (its':=its++is2) hH e (by simp) (r.append r2) ?_,rfl,q⟩;rw[List.length_append];omega
def Itd(lo:Int)(n:Nat):It:=⟨fun i _=>i<n,fun i H x H'=>H'=H/\x=.int (lo - i),fun i _=>n≤i⟩
theorem pR{P:Program}{w:World}{K:PySem.W.Frag}(it:Addr)(lo:Int)(n:Nat):Turn P w K tg (Itd lo n) [it] it (fun i h=>IsRangeIter h it (lo+(i:Nat)*(-1)) ((n:Int) - (i:Nat)) (-1)) where
 mem:=by simp
 obj:=fun i h st b hb=>by
  have q:b=it:=by simpa using hb
  subst q;exact⟨_,st,fun v z=>by
   have z':Data.fields _=Data.cell v:=z;cases z'⟩
 keep:=fun i h h' st k=>k it (by simp) _ st
 item:=by
  intro X hP hw hK hc i pins s σ H E I hf st hg;subst hP hw hK;obtain⟨f0,f1,f2,f3,f4,f5⟩:=hf it (by simp);have W:=Walks.range (prog:=X.prog) (w:=X.w) (I.ok.hd hc) it lo (-1) n;refine W.item i s _ _ hg st fun v h' tk hv st' kk=>?_;obtain⟨t,rfl⟩:=hv;have J:Inv X pins σ H { s with heap:=h',toks:=tk }:=I.turned (fun b o hb e=>kk b o (by simpa using hb) e) f0 f1 f3 f4 f5;refine⟨_,rfl,ny (s:={ s with heap:=h',toks:=tk }) (n:="range_iterator") st' rfl rfl (by decide) ⟨.int (lo - i),H,J,⟨t,?_⟩,⟨rfl,rfl⟩,st',fun b hb=>(hf b hb).1⟩⟩;congr 1;omega
 done:=by
  intro X hP hw hK hc i pins s σ H E I hf st hg;subst hP hw hK;obtain⟨f0,f1,f2,f3,f4,f5⟩:=hf it (by simp);exact wpAny_pyNext_range_end (I.ok.hd hc) st (by have q:n≤i:=hg;omega) fun h' eb=>⟨rfl,I.turned (t':=s.toks) (fun b o hb e=>eb b o hb e) f0 f1 f3 f4 f5⟩
 self:=fun _ _ _ _ _ st h=>wpAny_pyIter_rangeiter st h
def Am(ta:TA):TI:=fun σ H R=>ta σ H fun vs H1=>∃j:Int,vs=[.int j,.int (-1),.int (-1)]/\-1≤j/\j<1000/\R (Itd j (j+1).toNat) H1
theorem i4{j:Int}(h:-1≤j):Builtin.Range.rangeSize j (-1) (-1)=j+1:=by
 unfold Builtin.Range.rangeSize;rw[if_neg (by decide)];have e:-(-1:Int)=1:=rfl;rw[e,Int.ediv_one];split<;>omega
theorem mh{j:Int}(h:-1≤j)(h2:j<1000):Builtin.Range.small j (-1) (-1)=true:=by
 unfold Builtin.Range.small;rw[i4 h];simp only[Builtin.Range.rangeFitsLong,Bool.and_eq_true,Bool.or_eq_true,decide_eq_true_eq,beq_iff_eq];refine⟨⟨⟨⟨by omega,by decide⟩,by decide⟩,by omega⟩,.inr (by decide)⟩
theorem tY{a b c:Expr}{ta:TA}{p pos:Pos}(hg:Gl X "range")(hm:X.mg "range"=none)(ha:PA X [a,b,c] ta)(hs:starEach [a,b,c] X.env=[(false,eval a X.env),(false,eval b X.env),(false,eval c X.env)]:=by rfl)
  (hs2:starEach [b,c] X.env=[(false,eval b X.env),(false,eval c X.env)]:=by rfl):PI X tg (.Call (.Name "range" p) [a,b,c] [] pos) (Am ta):=by
 intro pins s σ H R I h;refine Call_ (cR I hg hm boot_range (PyProof.Rows.callWith_type1 (thn (ha pos pins s σ H _ I h) fun us s1 ⟨vs,H1,I1,r1,q1⟩=>?_) (by rw[hs,hs2]) (by rw[hs2];rfl)));obtain⟨j,e,q1,q2,q⟩:=q1;subst e;cases r1 with
 | cons r rr =>
  cases rr with
  | cons r' rr =>
   cases rr with
   | cons r'' rr =>
    cases rr;obtain⟨t,rfl⟩:=r;obtain⟨t',rfl⟩:=r';obtain⟨t'',rfl⟩:=r'';refine call_range_3 (by decide) ?_ (Or.inl (PyProof.noPylong_of_log2 (by decide +kernel)));generalize hh:s1.heap.push { cls:=.type "range",data:=.fields #[.int j t,.int (-1) t',.int (-1) t''] }=h2;have I2:Inv X pins σ H1 { s1 with heap:=h2 }:=by rw[←hh];exact I1.kept (t':=s1.toks) fun b o e=>Heap.get?_push_of_some _ e
    refine wpAny_pyIter_range (s:={ s1 with heap:=h2,toks:=s1.toks }) (by rw[←hh];exact IsRange.new ..) (mh q1 q2) ?_;refine⟨h2.objs.size,[h2.objs.size],_,_,H1,rfl,I2.kept (t':=s1.toks) fun b o e=>Heap.get?_push_of_some _ e,pR _ j (j+1).toNat,?_,fun b hb=>?_,q⟩
    ·show IsRangeIter _ _ (j+((0:Nat):Int)*(-1)) ((((j+1).toNat:Nat):Int) - ((0:Nat):Int)) (-1);have e1:j+((0:Nat):Int)*(-1)=j:=by simp
     have e2:(((j+1).toNat:Nat):Int) - ((0:Nat):Int)=Builtin.Range.rangeSize j (-1) (-1):=by rw[i4 q1];omega
     rw[e1,e2];exact Heap.get?_push_size _ rfl
    ·have e:b=h2.objs.size:=by simpa using hb
     subst e;exact I2.fpOk (Nat.le_refl _) (I2.hok.fresh (Nat.le_refl _))
end L2
namespace U
open L2
section
variable {B:Bs}{X:Cx}{a b c:Expr}{pos:Pos}
def qQ:PV->List PV->PHp->VK'->Prop:=fun x vs H Q=>match x,vs with
 | .ref a,[.tup m]=>∃l,H a=some (.lst l)/\l.length+m.length≤sizeLine/\Q .non (put H a (.lst (l++m)))
 | _,_=>False
theorem CS{a:Addr}{m:List PV}{H:PHp}{Q:VK'}:qQ (.ref a) [.tup m] H Q=∃l,H a=some (.lst l)/\l.length+m.length≤sizeLine/\Q .non (put H a (.lst (l++m))):=rfl
theorem oG{K:PySem.W.Frag}:VM K B qQ (kC K):=by
 intro σ' σ H' H x' xs' x xs Q' Q s rx r h k;unfold qQ at h;split at h
 ·rename_i a m;obtain⟨l,e,hl,h⟩:=h;obtain⟨us,q,r2⟩:=s.hp _ _ e;simp only[RP,RPs]at rx r;obtain⟨u,r1,rfl,⟨b,ws,rfl,hb,r3⟩,rfl⟩:=r;subst rx;exact⟨a,b,us,ws,rfl,rfl,q,hb,by rw[RPs.length _ r2,RPs.length _ r3];exact hl,k _ _ _ _ h (by simp[RP]) (s.wr e (wrL s.hp e (RPs.append _ r2 r3))) (Ev.wr e)⟩
 ·exact h.elim
def lh(lo:Int)(n:Nat):List PV:=(List.range n).map fun k=>PV.int (lo - (k:Nat))
theorem oK{K:PySem.W.Frag}{H1:Hp}{lo:Int}{n:Nat}:Walks K H1 (Itd lo n) ⟨lh lo n,fun _=>True⟩ where
 go:=fun H' H i _ _ _ hi=>by
  have q:i<n:=by simpa[lh]using hi
  exact q
 yld:=fun H' H i x H2 _ _ _ y=>by
  obtain⟨rfl,rfl⟩:=y;refine⟨rfl,fun x' hx=>?_⟩;unfold lh at hx;rw[List.getElem?_map]at hx;cases q:(List.range n)[i]? with
  | none=>rw[q]at hx;cases hx
  | some j =>
   rw[q]at hx;have:j=i:=by
    have:=(List.getElem?_eq_some_iff.mp q).2;simpa using this.symm
   subst this;cases hx;simp[RP]
 stop:=fun H' H i _ _ _ hi=>by
  have q:n≤i:=by simpa[lh]using hi
  exact q
def qk(vs:List PV)(H1:PHp)(R:It'->PHp->Prop):Prop:=match vs with
 | [.int j,.int e,.int f]=>e=-1/\f=-1/\-1≤j/\j<1000/\R ⟨lh j (j+1).toNat,fun _=>True⟩ H1
 | _=>False
theorem CG{j e f:Int}{H1:PHp}{R:It'->PHp->Prop}:qk [.int j,.int e,.int f] H1 R=(e=-1/\f=-1/\-1≤j/\j<1000/\R ⟨lh j (j+1).toNat,fun _=>True⟩ H1):=rfl
def wI(t:TA'):TI':=fun σ H R=>t σ H fun vs H1=>qk vs H1 R
theorem o9{tg:Expr}{t:TA'}{p:Pos}(hg:Gl X "range")(hm:X.mg "range"=none)(ha:PA' X B [a,b,c] t)(hs:starEach [a,b,c] X.env=[(false,eval a X.env),(false,eval b X.env),(false,eval c X.env)]:=by rfl)
  (hs2:starEach [b,c] X.env=[(false,eval b X.env),(false,eval c X.env)]:=by rfl):PI' X B tg (.Call (.Name "range" p) [a,b,c] [] pos) (wI t) :=
 gk (tY hg hm ha hs hs2) fun σ H R ⟨σ',H',R',s,h,k⟩=>by
  refine⟨σ',H',_,s,h,fun vs' H1' vs H1 h1 r1 s1 e1=>?_⟩;unfold qk at h1;split at h1
  ·rename_i j e f;obtain⟨rfl,rfl,h2,h3,q⟩:=h1;simp only[RPs,RP]at r1;obtain⟨u,r,rfl,rfl,u2,r2,rfl,rfl,u3,r3,rfl,rfl,rfl⟩:=r1;exact⟨j,rfl,h2,h3,k _ _ _ _ q oK s1 e1⟩
  ·exact h1.elim
end
section
variable {B:Bs}{X:Cx}{a b:Expr}{ta tb:TE'}{pos:Pos}
def tQ:R2':=fun x y H Q=>match x,y with
 | .ref a,.ref b=>∃l m,H a=some (.lst l)/\H b=some (.lst m)/\l.length+m.length≤sizeLine/\∀p,H p=none->Q (.ref p) (put H p (.lst (l++m)))
 | _,_=>False
theorem Cd{a b:Addr}{H:PHp}{Q:VK'}:tQ (.ref a) (.ref b) H Q=∃l m,H a=some (.lst l)/\H b=some (.lst m)/\l.length+m.length≤sizeLine/\∀p,H p=none->Q (.ref p) (put H p (.lst (l++m))):=rfl
theorem xt{K:PySem.W.Frag}:VR K B tQ Bm:=by
 intro σ' σ H' H x' y' x y Q' Q s rx ry h k;unfold tQ at h;split at h
 ·rename_i a b;obtain⟨l,m,e1,e2,hl,h⟩:=h;simp only[RP]at rx ry;subst rx;subst ry;obtain⟨us,q1,r1⟩:=s.hp _ _ e1;obtain⟨ws,q2,r2⟩:=s.hp _ _ e2;refine⟨a,b,us,ws,rfl,rfl,q1,q2,by rw[RPs.length _ r1,RPs.length _ r2];exact hl,fun p hp=>?_⟩;exact k _ _ _ _ (h p (s.hp.free hp)) (by simp[RP]) (s.new hp (lg hp (RPs.append _ r1 r2))) (Ev.new hp)
 ·exact h.elim
theorem dq(ha:PE' X B a ta)(hb:PE' X B b tb):PE' X B (.BinOp a .Add b pos) (uOp tQ ta tb):=eQ zf xt ha hb
theorem Ew{a:Addr}{H:PHp}{Q:VK'}:xU [.ref a] H Q=∃ns:List Int,H a=some (.lst (ns.map PV.int))/\ns.length<64/\∀(r:Addr) (ms:List Int),H r=none->ms.Perm ns->ms.Pairwise (·≤·)->Q (.ref r) (put H r (.lst (ms.map PV.int))):=rfl
theorem Bo(ns:List Int)(lo hi:Option Int):∃ms:List Int,bO (ns.map PV.int) lo hi=ms.map PV.int/\ms.length≤ns.length:=by
 unfold bO;refine⟨(ns.drop (HT.sIx (ns.map PV.int).length 0 lo)).take (HT.sIx (ns.map PV.int).length (ns.map PV.int).length hi - HT.sIx (ns.map PV.int).length 0 lo),?_,?_⟩
 ·rw[List.map_take,List.map_drop]
 ·rw[List.length_take,List.length_drop];omega
theorem eG{F:List Int}(h:∀x∈F,0≤x/\x<6):F.map PV.int=(F.map Int.toNat).map cV:=by
 rw[List.map_map];refine List.map_congr_left fun x hx=>?_;have:=h x hx;show PV.int x=PV.int ((x.toNat:Nat):Int);congr 1;omega
end
end U
set_option Elab.async false
namespace L2
section
variable {κ:Type}[DecidableEq κ]
end
section
variable {P:Program}{w:World}{H:Hp}{h:Heap}{a:Addr}
end
section
variable {X:Cx}{pins:List (Addr×Obj)}{σ:St}{H:Hp}{s:Shared}{a:Addr}{y v:V}{u r:Value}{o:Option V}{A:Around}{E:Value->Shared->Prop}
end
section
variable {X:Cx}{pins:List (Addr×Obj)}{σ:St}{H:Hp}{s:Shared}{a:Addr}{kvs:List (Key×V)}{k:Key}{u:Value}{A:Around}{E:Value->Shared->Prop}
end
section
variable {X:Cx}{o i e value:Expr}{pos pos' tpos:Pos}{td ty tv:TE}
end
section
variable {X:Cx}{pos:Pos}
end
end L2
namespace SI
section
variable {prog:Program}{w:World}{A:Around}{E:Value->Shared->Prop}{s:Shared}{T:String}{r d:Addr}{n:Nat}{P:Nat->Value->Prop}{OK:Heap->Prop}
end
end SI
namespace L2
variable {X:Cx}
end L2
namespace U
open L2
section
variable {B:Bs}{X:Cx}{a b o i value:Expr}{ta tb td ty:TE'}{pos pos':Pos}
def dkP(ks:List Int):PO:=.dK (ks.map fun n=>(Sum.inl n,PV.bl true))
def DL(y x:PV)(H:PHp)(Q:VK'):Prop:=match y,x with
 | .int n,.ref a=>∃ks,H a=some (dkP ks)/\Q (.bl (!decide (n∈ks))) H
 | _,_=>False
def Cf:List PV->PHp->VK'->Prop:=dc fun x H Q=>match x with
 | .ref a=>∃ks:List Int,H a=some (dkP ks)/\ks.length<64/\∀(r:Addr) (ms:List Int),H r=none->ms.Pairwise (·≤·)->ms.Perm ks->Q (.ref r) (put H r (.lst (ms.map PV.int)))
 | _=>False
end
section
theorem xy:∀x H Q,u7 x [] H Q->match x with | .ref a=>∃l,H a=some (.lst l) | _=>False:=by
 intro x H Q h;cases x with
 | ref a=>obtain⟨l,y,e,_⟩:=h;exact⟨l,e⟩
 | _=>exact h
end
end U
namespace L2
variable {X:Cx}
def Bl(K:PySem.W.Frag):List V->Hp->VK->Prop:=fun xs H Q=>∃(p:Addr) (bs:List Bool),xs=[.ref p]/\SqL K H p (bs.map V.bl)/\Q (.bl (bs.any id)) H
theorem rY(hc:X.calm=true):cf X (.builtin "any") (Bl X.K):=by
 intro pins s σ H xs us Q I r h;obtain⟨a,bs,rfl,hq,q⟩:=h;obtain⟨u,rfl,ru⟩:=Vals.one r;cases ru;obtain⟨its,rv,p,hz⟩:=I.list hq;have e:=eV rv;subst e;have hl:s.heap.IsList a (bs.map Value.bool).toArray:=p.isList;have llt:a<s.heap.objs.size:=by obtain⟨o,e,_⟩:=hl;exact Heap.lt_size e
 have hne:a≠s.heap.objs.size:=Nat.ne_of_lt llt;refine call_any_walk (wpAny_pyIter_list hl ?_);refine⟨s.heap.objs.size,[s.heap.objs.size,a],[s.heap.objs.size],(bs.map Value.bool).toArray.size,_,_,fun i=>bs.getD i false,rfl,Walks.list (by simpa using I.ok.hd hc) _ a hne _,⟨⟨_,Heap.get?_push_size _ rfl,rfl,rfl⟩,hl.at fun o e=>Heap.get?_push_of_some _ e⟩,?_,?_⟩
 ·intro i v s' Q' E' hv hQ;have:v=Value.bool (bs.getD i false):=by
   have hv':(bs.map Value.bool)[i]?=some v:=by simpa using hv
   rw[List.getElem?_map]at hv';cases hb:bs[i]? with
   | none=>rw[hb]at hv';cases hv'
   | some b=>rw[hb]at hv';cases hv';rw[List.getD_eq_getElem?_getD,hb];rfl
  subst this;exact wpAny_truthy_bool hQ
 ·intro h' tk kp;have e:(List.range (bs.map Value.bool).toArray.size).any (fun i=>bs.getD i false)=bs.any id:=by
   have hs:(bs.map Value.bool).toArray.size=bs.length:=by simp
   rw[hs];rw[Bool.eq_iff_iff,List.any_eq_true,List.any_eq_true];constructor
   ·rintro⟨i,hi,h⟩;have hi:=List.mem_range.mp hi;rw[List.getD_eq_getElem?_getD,List.getElem?_eq_getElem hi]at h;exact⟨_,List.getElem_mem hi,h⟩
   ·rintro⟨b,hb,h⟩;obtain⟨i,hi,e⟩:=List.getElem_of_mem hb;refine⟨i,List.mem_range.mpr hi,?_⟩;rw[List.getD_eq_getElem?_getD,List.getElem?_eq_getElem hi,e];exact h
  rw[e];refine⟨.bl (bs.any id),H,I.kept (t':=tk) fun b o e=>?_,rfl,q⟩;exact kp b o (by simpa using Nat.ne_of_lt (Heap.lt_size e)) (Heap.get?_push_of_some _ e)
theorem g4{ns:List Nat}(hin:∀n∈ns,n<6)(nd:ns.Nodup):(SI.lof ns).length=ns.length:=by
 have h1:=(SI.gL _ (SI.eY hin)).2.2.1;exact((List.perm_ext_iff_of_nodup h1 nd).mpr fun x=>SI.gT).length_eq
theorem pw:cf X (.builtin "len") (fun xs H Q=>∃(S:Addr) (L:List Nat),xs=[.ref S]/\H S=some (.ext (fo X.w S L))/\Q (.int L.length) H):=by
 intro pins s σ H xs us Q I r h;obtain⟨S,L,rfl,hS,q⟩:=h;obtain⟨u,rfl,ru⟩:=Vals.one r;cases ru;obtain⟨P,_,_⟩:=(show bV X.prog X.w H s.heap S (.ext (fo X.w S L))from I.hok S _ hS);obtain⟨hL,es,ep,ho,he⟩:=P.is;have h6:=(SI.gL L hL).2.1;have hz:=he.size;have hf:=(SI.lI L hL _ (SI.dE (SI.bb X.w))).1;rw[←hz]at hf q h6;exact call_len_set ho ⟨rfl,rfl,rfl⟩ rfl hf (by omega) ⟨.int es.size,H,I.tok _,⟨_,rfl⟩,q⟩
end L2
namespace U
open L2
variable {B:Bs}{X:Cx}{a b e:Expr}{ta tb:TE'}{p p2 pos pos2:Pos}
def Be:List PV->PHp->VK'->Prop:=dc fun x H Q=>match x with
 | .ref a=>∃bs:List Bool,H a=some (.lst (bs.map PV.bl))/\Q (.bl (bs.any id)) H
 | _=>False
theorem C3{a:Addr}{H:PHp}{Q:VK'}:Be [.ref a] H Q=∃bs:List Bool,H a=some (.lst (bs.map PV.bl))/\Q (.bl (bs.any id)) H:=rfl
theorem yG{K:PySem.W.Frag}:VC K B Be (Bl K):=by
 intro σ' σ H' H xs' xs Q' Q s r h k;obtain⟨x',x,rfl,rfl,rx,h⟩:=dc.ex h r;cases x' with
 | ref a =>
  obtain⟨bs,ea,q⟩:=h;simp only[RP]at rx;subst rx;obtain⟨us,e,r2⟩:=s.hp _ _ ea;rw[gj r2]at e;exact⟨a,bs,rfl,.inl (.inl e),k _ _ _ _ q (by simp[RP]) s (Ev.refl _ _)⟩
 | _=>exact h.elim
end U
namespace L2
variable {X:Cx}{pos:Pos}
end L2
namespace U
open L2
variable {B:Bs}{X:Cx}{es:List Expr}{pos:Pos}
def CK(n:Nat)(t:gK):TG':=fun v σ H Q=>match v with
 | .ref a=>∃l,H a=some (.lst l)/\l.length=n/\t l σ H Q
 | _=>False
theorem B9{n:Nat}{t:gK}{a:Addr}{σ:St'}{H:PHp}{Q:St'->PHp->Prop}:CK n t (.ref a) σ H Q=∃l,H a=some (.lst l)/\l.length=n/\t l σ H Q:=rfl
end U
namespace EN
section
variable {prog:Program}{w:World}{A:Around}{E:Value->Shared->Prop}{s:Shared}
end
end EN
namespace L2
theorem jX{h:Heap}{a b:Addr}{n m:String}{o u:Obj}(ha:h.get? a=some o)(hb:h.get? b=some u)(ca:o.cls=.type n)(cb:u.cls=.type m)(ne:(Value.type n:Value)≠.type m):a≠b:=by
 rintro rfl;rw[ha]at hb;cases hb;exact ne (ca.symm.trans cb)
section
variable {X:Cx}
theorem v7:bootBuiltins "enumerate"=some (.type "enumerate"):=by decide +kernel
end
end L2
namespace U
open L2
variable {B:Bs}{X:Cx}{pos:Pos}
structure xw (K:PySem.W.Frag) (H1:Hp) (J:It) (J':It'):Prop where
 go:∀H' H i,Kp H1 H->HR K H' H->J'.ok H'->i<J'.items.length->J.go i H
 yld:∀H' H i x H2,Kp H1 H->HR K H' H->J'.ok H'->J.yld i H x H2->HR K H' H2/\Ev H' H H' H2/\∀x',J'.items[i]?=some x'->RP K H2 x' x
 stop:∀H' H,Kp H1 H->HR K H' H->J'.ok H'->J.stop J'.items.length H
def wF(K:PySem.W.Frag)(B:Bs)(t:TI'):TI:=fun σ H R=>∃σ' H' R',SR K B σ' H' σ H/\t σ' H' R'/\∀J' H1' J H1,R' J' H1'->xw K H1 J J'->SR K B σ' H1' σ H1->Ev H' H H1' H1->R J H1
abbrev PIH(X:Cx)(B:Bs)(tg e:Expr)(t:TI'):Prop:=PI X tg e (wF X.K B t)
theorem pE{K:PySem.W.Frag}{nt:Nat}{js:List Nat}{wi:TI'}{g:TG'}{tt:TT'}{te:TE'}{σ:L2.St}{H:Hp}{Q:VK}(h:low K B (jw nt js wi g tt te) σ H Q) :
  oJ nt js (wF K B wi) (lowG K B g) (j3 K B tt) (low K B te) σ H Q:=by
 obtain⟨σ',H',Q',s,h,k⟩:=h;refine⟨σ',H',_,s,h,fun J' H1' J H1 h1 wk s1 e1 acc ha=>?_⟩;have h1:=h1 acc (s1.hp.free ha);have sn:SR K B σ' (put H1' acc (.lst [])) σ (upd H1 acc (.lst [])):=s1.new ha ⟨[],a8,RPs.nil _⟩;have en:Ev H1' H1 (put H1' acc (.lst [])) (upd H1 acc (.lst [])):=Ev.new ha;refine⟨fun i m σ2 H2=>i≤J'.items.length/\m=J'.items.length - i/\∃σ2' H2',SR K B σ2' H2' σ2 H2/\SR K B σ' H2' σ H2/\Ev H1' H1 H2' H2/\b0 J'.ok g tt te acc Q' (J'.items.drop i) σ2' H2',
  ⟨J'.items.length,Nat.zero_le _,by simp,_,_,sn.sig nt js,sn,en,h1⟩,?_⟩
 rintro i m σ2 H2 ⟨hi,rfl,σ2',H2',s2,so,e2,h2⟩;have k2:=e2.kp s1.hp;by_cases hlt:i<J'.items.length
 ·obtain⟨x',hx⟩:∃x',J'.items[i]?=some x':=⟨_,List.getElem?_eq_getElem hlt⟩;have hd:J'.items.drop i=x'::J'.items.drop (i+1):=by
   rw[List.drop_eq_getElem_cons hlt];rw[List.getElem?_eq_getElem hlt]at hx;cases hx;rfl
  rw[hd]at h2;obtain⟨ok2,h2⟩:=(show J'.ok H2'/\_ from h2);refine .inr ⟨wk.go H2' H2 i k2 s2.hp ok2 hlt,fun x H3 y=>?_⟩;obtain⟨hr3,ev3,rx⟩:=wk.yld H2' H2 i x H3 k2 s2.hp ok2 y;have s2b:=s2.kp ev3 hr3;have sob:=so.kp ev3 hr3;have e2b:=e2.trans ev3;refine⟨x',σ2',H2',_,rx x' hx,s2b,h2,fun σ3' H3' σ3 H3 h3 s3 e3=>⟨σ3',H3',_,s3,h3,fun b H4' H4 h4 s4 e4=>?_⟩⟩;cases b with
  | false =>
   have e24:=e3.trans e4;exact jI ⟨J'.items.length - (i+1),by omega,hlt,rfl,σ3',H4',s4,sob.kp e24 s4.hp,e2b.trans e24,h4⟩
  | true =>
   refine j0 ⟨σ3',H4',_,s4,h4,fun y' H5' y H5 h5 ry5 s5 e5=>?_⟩;obtain⟨l,a1,a2,h5⟩:=h5;have e25:=(e3.trans e4).trans e5;obtain⟨us,q1,q2⟩:=s5.hp _ _ a1;have wr:=wrL s5.hp a1 (RPs.append _ q2 (RPs.cons _ ry5 (RPs.nil _)));refine⟨us,q1,by rw[RPs.length _ q2];exact a2,J'.items.length - (i+1),by omega,hlt,rfl,σ3',_,s5.wr a1 wr,(sob.kp e25 s5.hp).wr a1 wr,(e2b.trans e25).trans (Ev.wr a1),h5⟩
 ·have hi':i=J'.items.length:=by omega
  subst hi';rw[List.drop_length]at h2;obtain⟨ok2,h2⟩:=(show J'.ok H2'/\_ from h2);exact .inl ⟨wk.stop H2' H2 k2 s2.hp ok2,k _ _ _ _ h2 (by simp[RP]) so (e1.trans e2)⟩
section
variable {N2:List Str}{nt:Nat}{js:List Nat}{scope sc:Scope}{cl:List (Str×Addr)}{elt iter tg:Expr}{ifs:List Expr}{wi:TI'}{g:TG'}{tt:TT'}{te:TE'}
theorem rC(O:cg X N2 nt js scope cl sc)(hc:X.calm=true)(hi:PIH X B tg iter wi)(b:∀(s0:Shared) (H0:Hp) (fp:List Addr) (ps:List (Addr×Obj)),mP (cS X N2 scope cl s0 H0 fp ps) B tg ifs elt g tt te)
  (hs:∀x,foldedSetIterable iter X.env x=pure x:=by intro _;rfl):PE' X B (.ListComp elt [⟨tg,iter,ifs,0⟩] scope pos) (jw nt js wi g tt te) :=
 aT (kW (g:=lowG X.K B g) (tt:=j3 X.K B tt) (te:=low X.K B te) O hc hi (fun s0 H0 fp ps=>⟨(b s0 H0 fp ps).tgt,(b s0 H0 fp ps).tst,(b s0 H0 fp ps).elt⟩) hs) fun _ _ _ h=>pE h
end
def mv(l:List PV):List PV:=l.mapIdx fun i x=>.tup [.int (i:Nat),x]
def en1(vs:List PV)(H1:PHp)(R:It'->PHp->Prop):Prop:=match vs with
 | [.tup l]=>R ⟨mv l,fun _=>True⟩ H1
 | _=>False
theorem CO{l:List PV}{H:PHp}{R:It'->PHp->Prop}:en1 [.tup l] H R=R ⟨mv l,fun _=>True⟩ H:=rfl
def uEn(t:TA'):TI':=fun σ H R=>t σ H fun vs H1=>en1 vs H1 R
end U
namespace L2
section
variable {X:Cx}{pins:List (Addr×Obj)}{σ:St}{H:Hp}{s:Shared}{h':Heap}
theorem Inv.turnedN{t':Nat}{ch:List Addr}(I:Inv X pins σ H s)(k:∀b o,b∉ch->s.heap.get? b=some o->h'.get? b=some o)(hf:∀b∈ch,fj X pins H b):Inv X pins σ H { s with heap:=h',toks:=t' }:=by
 have nit:∀b u,H b=some u->b∉ch:=fun b u e z=>by rw[(hf b z).1]at e;cases e
 refine I.step (g':=s.gens) (d':=s.drawn) (ch:=ch) (fun b hb=>?_) (fun b o _ _ hc e _=>k b o hc e) (fun b o _ _ hc e _=>⟨o.slots,k b o hc e⟩) (fun _ _ _ _ n=>n)
  (fun b o hc e=>⟨o,k b o hc e⟩) (fun _ _ e=>e) (fun _ _ _ e=>e) (fun b ps e=>⟨#[],by rw[e];simp⟩) (fun m hm=>?_) (fun b u e=>?_) I.bare
 ·have f:=hf b hb;exact⟨f.2.2.2.1,f.2.1,f.2.2.2.2.1,f.2.2.2.2.2⟩
 ·obtain⟨o,es,ep,ho,r⟩:=hm;exact⟨o,es,ep,k _ o (fun z=>(hf _ z).2.1 rfl) ho,r⟩
 ·refine(I.hok b u e).stay (fun c z hc q2=>?_) (fun c q2=>q2) fun c ys q2=>q2;have nn:c∉ch:=by
   rcases hc with z | z
   ·rw[z];exact nit b u e
   ·exact nit c _ z
  exact k c z nn q2
end
def Itz(K:PySem.W.Frag)(a b:Addr):It :=
 ⟨fun i H=>∃xs ys x y,SqL K H a xs/\SqL K H b ys/\xs[i]?=some x/\ys[i]?=some y,fun i H x H'=>∃T u v,H T=none/\x=.ref T/\H'=upd H T (.tup [u,v])/\∀xs ys,SqL K H a xs->SqL K H b ys->xs[i]?=some u/\ys[i]?=some v,
  fun i H=>∃xs ys,SqL K H a xs/\SqL K H b ys/\(xs[i]?=none∨ys[i]?=none)⟩
theorem jh:∀{xs:List V} {its:List Value} {i:Nat},Vals xs its->xs[i]?=none->its[i]?=none:=fun {xs its i} r h=>by
 have hl:=r.length;rw[List.getElem?_eq_none_iff]at h ⊢;omega
theorem ro{P:Program}{w:World}{K:PySem.W.Frag}{elts:List Expr}{k1}{tpos:Pos}(z TI TO i1 i2 a b:Addr)(D:ZipApart z TI TO i1 i2 a b):Turn P w K (.Tuple elts k1 tpos) (Itz K a b) [z,TI,TO,i1,i2] z
  (fun i h=>IsZip h z TI TO .none/\IsPair h TI (.ref i1) (.ref i2)/\(∃x y,IsPair h TO x y)/\h.IsListIter i1 a i/\h.IsListIter i2 b i) where
 mem:=by simp
 obj:=fun i h st c hc=>by
  obtain⟨hz,hI,⟨x,y,hO⟩,⟨o1,e1,c1,d1⟩,⟨o2,e2,c2,d2⟩⟩:=st;simp only[List.mem_cons,List.not_mem_nil,or_false]at hc;rcases hc with rfl | rfl | rfl | rfl | rfl
  ·exact⟨_,hz,fun v q=>by cases (show Data.fields _=Data.cell v from q)⟩
  ·exact⟨_,hI,fun v q=>by cases (show Data.seq _ _=Data.cell v from q)⟩
  ·exact⟨_,hO,fun v q=>by cases (show Data.seq _ _=Data.cell v from q)⟩
  ·exact⟨_,e1,fun v q=>by rw[d1]at q;cases q⟩
  ·exact⟨_,e2,fun v q=>by rw[d2]at q;cases q⟩
 keep:=fun i h h' st k=>by
  obtain⟨hz,hI,⟨x,y,hO⟩,h1,h2⟩:=st;exact⟨k z (by simp) _ hz,k TI (by simp) _ hI,⟨x,y,k TO (by simp) _ hO⟩,h1.at fun o e=>k i1 (by simp) o e,h2.at fun o e=>k i2 (by simp) o e⟩
 item:=by
  intro X hP hw hK hc i pins s σ H E I hf st hg;subst hP hw hK;obtain⟨xs,ys,x,y,qx,qy,hx,hy⟩:=hg;obtain⟨its,rv,p,_⟩:=I.list qx;obtain⟨jts,rw',p',_⟩:=I.list qy;obtain⟨u,hu,ru⟩:=rv.get hx;obtain⟨v,hv,rv2⟩:=rw'.get hy;obtain⟨hz,hI,⟨x0,y0,hO⟩,h1,h2⟩:=st;refine wpAny_pyNext_zip_item D hz hI hO h1 h2 p.isList p'.isList (show its.toArray[i]?=some u by simpa using hu) (show jts.toArray[i]?=some v by simpa using hv) fun h' a1 a2 a3 a4 a5 a6 hk=>?_;refine⟨_,rfl,wpAny_letOwnedTupleGo_zip (s:={ s with heap:=h' }) a1 fun h2 hz2 sb=>?_⟩;have sb2:Heap.SameBut z h' h2:=sb;have hzlt:z<s.heap.objs.size:=Heap.lt_size hz;have hT2:h2.get? s.heap.objs.size=some { cls:=.type "tuple",data:=.seq #[u,v] }:=(sb2.2 _ (Nat.ne_of_gt hzlt)).trans a5;have kk:∀c o,c∉[z,TO,i1,i2]->s.heap.get? c=some o->h2.get? c=some o:=fun c o n q=>by
   simp only[List.mem_cons,List.not_mem_nil,or_false,not_or]at n;exact(sb2.2 c n.1).trans (hk c o n.1 n.2.1 n.2.2.1 n.2.2.2 q)
  have hn:H s.heap.objs.size=none:=I.hok.fresh (Nat.le_refl _);have hf4:∀c∈[z,TO,i1,i2],fj X pins H c:=fun c hc=>hf c (by simp only[List.mem_cons,List.not_mem_nil,or_false]at hc ⊢;rcases hc with e | e | e | e<;>simp[e]);have nit:∀c v,H c=some v->c∉[z,TO,i1,i2]:=fun c v q zc=>by rw[(hf4 c zc).1]at q;cases q
  have ltT:∀{c o},s.heap.get? c=some o->c≠s.heap.objs.size:=fun e=>Nat.ne_of_lt (Heap.lt_size e);have up:∀{c o},c≠z->h'.get? c=some o->h2.get? c=some o:=fun {c o} n e=>(sb2.2 c n).trans e;refine⟨.ref s.heap.objs.size,upd H s.heap.objs.size (.tup [x,y]),?_,rfl,⟨_,x,y,hn,rfl,rfl,fun zs ws q1 q2=>⟨by rw[I.list_inj q1 qx];exact hx,by rw[I.list_inj q2 qy];exact hy⟩⟩,?_,fun c hc=>?_⟩
  ·show Inv X pins σ _ { s with heap:=h2,toks:=s.toks };refine I.step (h':=h2) (g':=s.gens) (d':=s.drawn) (t':=s.toks) (ch:=[z,TO,i1,i2]) (fun c hc=>?_) (fun c o _ _ hc q _=>kk c o hc q) (fun c o _ _ hc q _=>⟨o.slots,kk c o hc q⟩)
    (fun c o _ q n=>by rw[aD (ltT q)];exact n) (fun c o hc q=>⟨o,kk c o hc q⟩) (fun c ys q=>by rw[aD (aK q hn)];exact q) (fun c o v q=>by rw[aD (aK q hn)];exact q)
    (fun c ps q=>⟨#[],by rw[aD (aK q hn),q];simp⟩) (fun m hm=>?_) (fun c v' q=>?_) I.bare
   ·have f:=hf4 c hc;exact⟨f.2.2.2.1,f.2.1,f.2.2.2.2.1,f.2.2.2.2.2⟩
   ·obtain⟨o,es,ep,q,r⟩:=hm;exact⟨o,es,ep,kk _ o (fun zc=>(hf4 _ zc).2.1 rfl) q,r⟩
   ·by_cases hb:c=s.heap.objs.size
    ·subst hb;rw[a8]at q;cases q;exact⟨by show 2≤sizeLine;rw[sizeLine_eq];omega,[u,v],.cons ru (.cons rv2 .nil),⟨_,hT2,rfl,_,rfl⟩⟩
    ·rw[aD hb]at q;refine(I.hok c v' q).stay (fun d zd hd q2=>?_) (fun d q2=>by rw[aD (aK q2 hn)];exact q2) fun d ys q2=>by rw[aD (aK q2 hn)];exact q2
     have nn:d∉[z,TO,i1,i2]:=by
      rcases hd with e | e
      ·rw[e];exact nit c v' q
      ·exact nit d _ e
     exact kk d zd nn q2
  ·refine⟨hz2,?_,⟨_,_,up D.TOz a2⟩,a3.at fun o e=>up D.i1z e,a4.at fun o e=>up D.i2z e⟩;exact up D.TIz (hk _ _ D.TIz D.TITO D.TIi1 D.TIi2 hI)
  ·have hc2:c<s.heap.objs.size:=by
    simp only[List.mem_cons,List.not_mem_nil,or_false]at hc;rcases hc with rfl | rfl | rfl | rfl | rfl
    ·exact hzlt
    ·exact Heap.lt_size hI
    ·exact Heap.lt_size hO
    ·obtain⟨_,e,_⟩:=h1;exact Heap.lt_size e
    ·obtain⟨_,e,_⟩:=h2;exact Heap.lt_size e
   rw[aD (Nat.ne_of_lt hc2)];exact(hf c hc).1
 done:=by
  intro X hP hw hK hc i pins s σ H E I hf st hg;subst hP hw hK;obtain⟨xs,ys,qx,qy,hend⟩:=hg;obtain⟨its,rv,p,_⟩:=I.list qx;obtain⟨jts,rw',p',_⟩:=I.list qy;obtain⟨hz,hI,⟨x0,y0,hO⟩,h1,h2⟩:=st;have hend':its.toArray[i]?=none∨jts.toArray[i]?=none:=by
   rcases hend with e | e
   ·exact .inl (by simpa using jh rv e)
   ·exact .inr (by simpa using jh rw' e)
  refine wpAny_pyNext_zip_end (I.ok.hd hc) D hz hI hO h1 h2 p.isList p'.isList hend' fun h' hk=>⟨rfl,I.turnedN (t':=s.toks) (ch:=[z,TO,i1,i2]) (fun c o n q=>?_) fun c hc=>hf c ?_⟩
  ·simp only[List.mem_cons,List.not_mem_nil,or_false,not_or]at n;exact hk c o n.1 n.2.1 n.2.2.1 n.2.2.2 q
  ·simp only[List.mem_cons,List.not_mem_nil,or_false]at hc ⊢;rcases hc with e | e | e | e<;>simp[e]
 self:=fun _ _ _ _ _ st h=>wpAny_pyIter_zip st.1 h
section
variable {X:Cx}
def C0(K:PySem.W.Frag)(ta:TA):TI:=fun σ H R=>ta σ H fun vs H1=>∃a b,vs=[.ref a,.ref b]/\(∃xs,SqL K H1 a xs)/\(∃ys,SqL K H1 b ys)/\R (Itz K a b) H1
theorem yu{elts:List Expr}{k1}{tpos:Pos}{c d:Expr}{ta:TA}{p pos:Pos}(hg:Gl X "zip")(hm:X.mg "zip"=none)(ha:PA X [c,d] ta)(hs:starEach [c,d] X.env=[(false,eval c X.env),(false,eval d X.env)]:=by rfl)(hs2:starEach [d] X.env=[(false,eval d X.env)]:=by rfl) :
  PI X (.Tuple elts k1 tpos) (.Call (.Name "zip" p) [c,d] [] pos) (C0 X.K ta):=by
 intro pins s σ H R I h;refine Call_ (cR I hg hm PyProof.Rows.boot_zip (PyProof.Rows.callWith_type1 (thn (ha pos pins s σ H _ I h) fun us s1 ⟨vs,H1,I1,r1,q1⟩=>?_) (by rw[hs,hs2]) (by rw[hs2];rfl)));obtain⟨a,b,e,⟨xs,qx⟩,⟨ys,qy⟩,q⟩:=q1;subst e;cases r1 with
 | cons r rr =>
  cases rr with
  | cons r' rr =>
   cases rr;cases r;cases r';obtain⟨its,rv,p,_⟩:=I1.list qx;obtain⟨jts,rw',p',_⟩:=I1.list qy;obtain⟨_,ea,_⟩:=id p.isList;obtain⟨_,eb,_⟩:=id p'.isList;refine call_zip_2 p.isList p'.isList fun h1 hz hI hO l1 l2 hsz kk=>wpAny_pyIter_zip hz ?_;refine⟨_,_,_,_,H1,rfl,I1.kept (t':=s1.toks) kk,ro _ _ _ _ _ a b (PyProof.Rows.zipApart_new (Heap.lt_size ea) (Heap.lt_size eb)),⟨hz,hI,⟨_,_,hO⟩,l1,l2⟩,fun c hc=>?_,q⟩;have hb2:s1.heap.objs.size≤c:=by
    simp only[List.mem_cons,List.not_mem_nil,or_false]at hc;rcases hc with rfl | rfl | rfl | rfl | rfl
    ·exact Nat.le_add_right _ _
    ·exact Nat.le_add_right _ _
    ·exact Nat.le_add_right _ _
    ·exact Nat.le_refl _
    ·exact Nat.le_add_right _ _
   exact I1.fpOk hb2 (I1.hok.fresh hb2)
end
end L2
namespace U
open L2
variable {B:Bs}{X:Cx}{pos:Pos}
def dX:List PV->List PV->List PV
 | x::xs,y::ys=>.tup [x,y]::dX xs ys
 | _,_=>[]
theorem ia:∀(l m:List PV),(dX l m).length=min l.length m.length
 | [],_=>by simp[dX]
 | _::_,[]=>by simp[dX]
 | x::l,y::m=>by simp[dX,ia l m]
theorem fk:∀{l m:List PV} {i:Nat} {z:PV},(dX l m)[i]?=some z->∃x y,l[i]?=some x/\m[i]?=some y/\z=.tup [x,y]
 | [],_,i,z,h=>by simp[dX]at h
 | _::_,[],i,z,h=>by simp[dX]at h
 | x::l,y::m,0,z,h=>⟨x,y,rfl,rfl,by simpa[dX]using h.symm⟩
 | x::l,y::m,i+1,z,h=>by
  have:=fk (l:=l) (m:=m) (i:=i) (z:=z) (by simpa[dX]using h);simpa using this
def zip2(vs:List PV)(H1:PHp)(R:It'->PHp->Prop):Prop:=match vs with
 | [.ref a,.ref b]=>∃l m,H1 a=some (.lst l)/\H1 b=some (.lst m)/\R ⟨dX l m,fun H=>H a=some (.lst l)/\H b=some (.lst m)⟩ H1
 | _=>False
theorem DU{a b:Addr}{H:PHp}{R:It'->PHp->Prop}:zip2 [.ref a,.ref b] H R=∃l m,H a=some (.lst l)/\H b=some (.lst m)/\R ⟨dX l m,fun H=>H a=some (.lst l)/\H b=some (.lst m)⟩ H:=rfl
def AL(t:TA'):TI':=fun σ H R=>t σ H fun vs H1=>zip2 vs H1 R
theorem xO{elts:List Expr}{k1}{tpos:Pos}{c d:Expr}{t:TA'}{p:Pos}(hg:Gl X "zip")(hm:X.mg "zip"=none)(ha:PA' X B [c,d] t)(hs:starEach [c,d] X.env=[(false,eval c X.env),(false,eval d X.env)]:=by rfl)(hs2:starEach [d] X.env=[(false,eval d X.env)]:=by rfl) :
  PIH X B (.Tuple elts k1 tpos) (.Call (.Name "zip" p) [c,d] [] pos) (AL t):=gk (yu hg hm ha hs hs2) fun σ H R ⟨σ',H',R',s,h,k⟩=>by
 refine⟨σ',H',_,s,h,fun vs' H1' vs H1 h1 r1 s1 e1=>?_⟩;unfold zip2 at h1;split at h1
 ·rename_i a b;simp only[RPs,RP]at r1;obtain⟨u,r,rfl,rfl,u2,r2,rfl,rfl,rfl⟩:=r1;obtain⟨l,m,ha,hb,h1⟩:=h1;obtain⟨us,q1,_⟩:=s1.hp _ _ ha;obtain⟨ws,q2,_⟩:=s1.hp _ _ hb;have lk:∀H2' H2,HR X.K H2' H2->H2' a=some (.lst l)/\H2' b=some (.lst m)->∃us ws,SqL X.K H2 a us/\SqL X.K H2 b ws/\RPs X.K H2 l us/\RPs X.K H2 m ws:=fun H2' H2 hr o=>by
   obtain⟨us,a1,a2⟩:=hr _ _ o.1;obtain⟨ws,b1,b2⟩:=hr _ _ o.2;exact⟨us,ws,SqL.of a1,SqL.of b1,a2,b2⟩
  refine⟨a,b,rfl,⟨us,SqL.of q1⟩,⟨ws,SqL.of q2⟩,k _ H1' _ H1 h1 ⟨fun H2' H2 i k2 hr o hi=>?_,fun H2' H2 i x H3 k2 hr o y=>?_,fun H2' H2 k2 hr o=>?_⟩ s1 e1⟩
  ·obtain⟨us,ws,c1,c2,d1,d2⟩:=lk _ _ hr o;obtain⟨x,y,e1,e2,_⟩:=fk (List.getElem?_eq_getElem hi);obtain⟨u,f1,_⟩:=RPs.get _ d1 e1;obtain⟨v,f2,_⟩:=RPs.get _ d2 e2;exact⟨us,ws,u,v,c1,c2,f1,f2⟩
  ·obtain⟨T,u,v,hT,rfl,rfl,hy⟩:=y;obtain⟨us,ws,c1,c2,d1,d2⟩:=lk _ _ hr o;refine⟨hr.hid hT,Ev.hid hT,fun x' hx=>?_⟩;obtain⟨x,y,e1,e2,rfl⟩:=fk hx;obtain⟨u',f1,g1⟩:=RPs.get _ d1 e1;obtain⟨v',f2,g2⟩:=RPs.get _ d2 e2;obtain⟨y1,y2⟩:=hy us ws c1 c2;rw[f1]at y1;cases y1;rw[f2]at y2;cases y2;exact lR hT (RPs.cons _ g1 (RPs.cons _ g2 (RPs.nil _)))
  ·obtain⟨us,ws,c1,c2,d1,d2⟩:=lk _ _ hr o;refine⟨us,ws,c1,c2,?_⟩;show us[(dX l m).length]?=none∨ws[(dX l m).length]?=none;rw[ia,List.getElem?_eq_none_iff,List.getElem?_eq_none_iff,RPs.length _ d1,RPs.length _ d2];omega
 ·exact h1.elim
theorem vA{t:TS'}{iter tg:Expr}{body:List Stmt}{wi:TI'}{g:TG'}(hp:PassesOwn (model X.prog X.w) X.A X.env X.xe)(hc:X.calm=true)(hi:PIH X B tg iter wi)(hg:PG' X B tg g)(hb:gJ X B body t)
  (hs:∀x,foldedSetIterable iter X.env x=pure x:=by intro _;rfl):PS' X B (.For tg iter body [] pos) (xn wi g t):=dw (sW hp hc hi hg hb hs) fun D σ H ⟨σ',H',D',s,h,d⟩=>by
 refine⟨σ',H',_,s,h,fun J' H1' J H1 h1 wk s1 e1=>?_⟩;refine⟨fun i m σ2 H2=>i≤J'.items.length/\m=J'.items.length - i/\∃σ2' H2',SR X.K B σ2' H2' σ2 H2/\Ev H1' H1 H2' H2/\dS J'.ok g t D' (J'.items.drop i) σ2' H2',⟨J'.items.length,Nat.zero_le _,by simp,σ',H1',s1,Ev.refl _ _,h1⟩,?_⟩;rintro i m σ2 H2 ⟨hi,rfl,σ2',H2',s2,e2,h2⟩;have k2:=e2.kp s1.hp;by_cases hlt:i<J'.items.length
 ·obtain⟨x',hx⟩:∃x',J'.items[i]?=some x':=⟨_,List.getElem?_eq_getElem hlt⟩;have hd:J'.items.drop i=x'::J'.items.drop (i+1):=by
   rw[List.drop_eq_getElem_cons hlt];rw[List.getElem?_eq_getElem hlt]at hx;cases hx;rfl
  rw[hd]at h2;obtain⟨ok2,h2⟩:=(show J'.ok H2'/\_ from h2);refine .inr ⟨wk.go H2' H2 i k2 s2.hp ok2 hlt,fun σ3 H3=>∃σ3' H3',SR X.K B σ3' H3' σ3 H3/\Ev H1' H1 H3' H3/\dS J'.ok g t D' (J'.items.drop (i+1)) σ3' H3',?_,fun x H3 y=>?_⟩
  ·rintro σ3 H3 ⟨σ3',H3',s3,e3,h3⟩;exact⟨J'.items.length - (i+1),by omega,hlt,rfl,σ3',H3',s3,e3,h3⟩
  ·obtain⟨hr3,ev3,rx⟩:=wk.yld H2' H2 i x H3 k2 s2.hp ok2 y;have s2b:=s2.kp ev3 hr3;have e2b:=e2.trans ev3;refine⟨x',σ2',H2',_,rx x' hx,s2b,h2,fun σ3' H3' σ3 H3 h3 s3 e3=>⟨σ3',H3',_,s3,h3,?_,?_,?_,?_⟩⟩
   ·intro σ4' H4' σ4 H4 h4 s4 e4;exact⟨σ4',H4',s4,e2b.trans (e3.trans e4),h4⟩
   ·intro v' H4' v H4 h4 r4 s4 e4;exact d.rt _ _ _ _ h4 r4 s4 (e1.trans (e2b.trans (e3.trans e4)))
   ·intro σ4' H4' σ4 H4 h4 s4 e4;exact d.nx _ _ _ _ h4 s4 (e1.trans (e2b.trans (e3.trans e4)))
   ·intro σ4' H4' σ4 H4 h4 s4 e4;exact⟨σ4',H4',s4,e2b.trans (e3.trans e4),h4⟩
 ·have hi':i=J'.items.length:=by omega
  subst hi';rw[List.drop_length]at h2;obtain⟨ok2,h2⟩:=(show J'.ok H2'/\_ from h2);exact .inl ⟨wk.stop H2' H2 k2 s2.hp ok2,d.nx _ _ _ _ h2 s2 (e1.trans e2)⟩
end U
namespace L2
def As(K:PySem.W.Frag)(a:Addr):It :=
 ⟨fun i H=>∃xs x,SqL K H a xs/\xs[i]?=some x,fun i H x H'=>∃T y,H T=none/\x=.ref T/\H'=upd H T (.tup [.int (i:Nat),y])/\∀xs,SqL K H a xs->xs[i]?=some y,fun i H=>∃xs,SqL K H a xs/\xs.length=i⟩
theorem qN{P:Program}{w:World}{K:PySem.W.Frag}{elts:List Expr}{k1}{tpos:Pos}(a it e:Addr):Turn P w K (.Tuple elts k1 tpos) (As K a) [e,it] e (fun i h=>(∃old,IsEnum h e it (i:Nat) old)/\h.IsListIter it a i) where
 mem:=by simp
 obj:=fun i h st b hb=>by
  obtain⟨⟨old,he⟩,o,ho,hc,hd⟩:=st;rcases List.mem_cons.mp hb with rfl | hb
  ·exact⟨_,he,fun v z=>by
    have z':Data.fields _=Data.cell v:=z;cases z'⟩
  ·rw[List.mem_singleton.mp hb];exact⟨o,ho,fun v z=>by rw[hd]at z;cases z⟩
 keep:=fun i h h' st k=>by
  obtain⟨⟨old,he⟩,hi⟩:=st;exact⟨⟨old,k e (by simp) _ he⟩,hi.at fun o x=>k it (by simp) o x⟩
 item:=by
  intro X hP hw hK hc i pins s σ H E I hf st hg;subst hP hw hK;obtain⟨xs,x,hq,hx⟩:=hg;obtain⟨its,rv,p,hz⟩:=I.list hq;obtain⟨u,hu,ru⟩:=rv.get hx;obtain⟨⟨old,he⟩,hi⟩:=st;have p':s.heap.IsList a its.toArray:=p.isList;obtain⟨oa,ha,ca,_⟩:=id p';obtain⟨oi,hoi,ci,_⟩:=id hi;have nai:a≠it:=jX ha hoi ca ci (by decide);have nei:e≠it:=jX he hoi rfl ci (by decide);have nea:e≠a:=jX he ha rfl ca (by decide);refine wpAny_pyNext_enum_item (x:=u) he hi p' (by simpa using hu) nei fun h1 ho hs1 hT hsz hk=>?_;refine⟨_,rfl,wpAny_letOwnedTupleGo_enum (s:={ s with heap:=h1,toks:=s.toks+1 }) ho fun h2 he2 sb=>?_⟩;have sb2:Heap.SameBut e h1 h2:=sb;have hlte:e<s.heap.objs.size:=Heap.lt_size he;have hT2:h2.get? s.heap.objs.size=some { cls:=.type "tuple",data:=.seq #[.int i s.toks,u] }:=(sb2.2 _ (Nat.ne_of_gt hlte)).trans hT;have kk:∀b o,b≠e->b≠it->s.heap.get? b=some o->h2.get? b=some o:=fun b o n1 n2 q=>(sb2.2 b n1).trans (hk b o n1 n2 q);have hn:H s.heap.objs.size=none:=I.hok.fresh (Nat.le_refl _);have fe:=hf e (by simp);have fi:=hf it (by simp);have nit:∀b v,H b=some v->b≠e/\b≠it:=fun b v q=>⟨fun z=>(by rw[z,fe.1]at q;cases q),fun z=>(by rw[z,fi.1]at q;cases q)⟩;refine⟨.ref s.heap.objs.size,upd H s.heap.objs.size (.tup [.int (i:Nat),x]),?_,rfl,⟨_,x,hn,rfl,rfl,fun ys hy'=>by rw[I.list_inj hy' hq];exact hx⟩,⟨⟨u,by simpa using he2⟩,?_⟩,fun b hb=>?_⟩
  ·show Inv X pins σ _ { s with heap:=h2,toks:=s.toks+1 };refine I.step (h':=h2) (g':=s.gens) (d':=s.drawn) (t':=s.toks+1) (ch:=[e,it]) (fun b hb=>?_) (fun b o _ _ hc q _=>kk b o (fun z=>hc (by simp[z])) (fun z=>hc (by simp[z])) q) (fun b o _ _ hc q _=>⟨o.slots,kk b o (fun z=>hc (by simp[z])) (fun z=>hc (by simp[z])) q⟩)
    (fun b o _ q n=>by rw[aD (Nat.ne_of_lt (Heap.lt_size q))];exact n) (fun b o hc q=>⟨o,kk b o (fun z=>hc (by simp[z])) (fun z=>hc (by simp[z])) q⟩) (fun b ys q=>by rw[aD (aK q hn)];exact q) (fun b o v q=>by rw[aD (aK q hn)];exact q)
    (fun b ps q=>⟨#[],by rw[aD (aK q hn),q];simp⟩) (fun m hm=>?_) (fun b v q=>?_) I.bare
   ·rcases List.mem_cons.mp hb with rfl | hb
    ·exact⟨fe.2.2.2.1,fe.2.1,fe.2.2.2.2.1,fe.2.2.2.2.2⟩
    ·rw[List.mem_singleton.mp hb];exact⟨fi.2.2.2.1,fi.2.1,fi.2.2.2.2.1,fi.2.2.2.2.2⟩
   ·obtain⟨o,es,ep,q,r⟩:=hm;exact⟨o,es,ep,kk _ o (Ne.symm fe.2.1) (Ne.symm fi.2.1) q,r⟩
   ·by_cases hb:b=s.heap.objs.size
    ·subst hb;rw[a8]at q;cases q;exact⟨by show 2≤sizeLine;rw[sizeLine_eq];omega,[.int i s.toks,u],.cons ⟨s.toks,rfl⟩ (.cons ru .nil),⟨_,hT2,rfl,_,rfl⟩⟩
    ·rw[aD hb]at q;refine(I.hok b v q).stay (fun c z hc q2=>?_) (fun c q2=>by rw[aD (aK q2 hn)];exact q2) fun c ys q2=>by rw[aD (aK q2 hn)];exact q2
     have nn:c≠e/\c≠it:=by
      rcases hc with z | z
      ·rw[z];exact nit b v q
      ·exact nit c _ z
     exact kk c z nn.1 nn.2 q2
  ·obtain⟨o,q,r⟩:=hs1;exact⟨o,(sb2.2 _ (Ne.symm nei)).trans q,r⟩
  ·have hb2:b<s.heap.objs.size:=by
    rcases List.mem_cons.mp hb with rfl | hb
    ·exact hlte
    ·rw[List.mem_singleton.mp hb];exact Heap.lt_size hoi
   rw[aD (Nat.ne_of_lt hb2)];exact(hf b hb).1
 done:=by
  intro X hP hw hK hc i pins s σ H E I hf st hg;subst hP hw hK;obtain⟨xs,hq,rfl⟩:=hg;obtain⟨its,rv,p,hz⟩:=I.list hq;obtain⟨⟨old,he⟩,hi⟩:=st;have p':s.heap.IsList a its.toArray:=p.isList;obtain⟨oa,ha,ca,_⟩:=id p';obtain⟨oi,hoi,ci,_⟩:=id hi;have nai:a≠it:=jX ha hoi ca ci (by decide);have hl:=rv.length;have es:xs.length=its.toArray.size:=by simp;omega
  obtain⟨f0,f1,f2,f3,f4,f5⟩:=hf it (by simp);refine wpAny_pyNext_enum_end (I.ok.hd hc) he hi p' (by simp;omega) fun h1 eb=>⟨rfl,I.turned (t':=s.toks) (fun b o hb q=>eb b o hb q) f0 f1 f3 f4 f5⟩
 self:=fun _ _ _ _ _ st h=>let ⟨⟨_,he⟩,_⟩:=st;wpAny_pyIter_enum he h
section
variable {X:Cx}
def Eb(K:PySem.W.Frag)(ta:TA):TI:=fun σ H R=>ta σ H fun vs H1=>∃a,vs=[.ref a]/\(∃xs,SqL K H1 a xs)/\R (As K a) H1
theorem xE{elts:List Expr}{k1}{tpos:Pos}{c:Expr}{ta:TA}{p pos:Pos}(hg:Gl X "enumerate")(hm:X.mg "enumerate"=none)(ha:PA X [c] ta)(hs:starEach [c] X.env=[(false,eval c X.env)]:=by rfl) :
  PI X (.Tuple elts k1 tpos) (.Call (.Name "enumerate" p) [c] [] pos) (Eb X.K ta):=by
 intro pins s σ H R I h;refine Call_ (cR I hg hm v7 (PyProof.Rows.callWith_type1 (thn (ha pos pins s σ H _ I h) fun us s1 ⟨vs,H1,I1,r1,q1⟩=>?_) hs rfl));obtain⟨a,e,⟨xs,hq⟩,q⟩:=q1;subst e;cases r1 with
 | cons r rr =>
  cases rr;cases r;obtain⟨its,rv,p,hz⟩:=I1.list hq;refine call_enumerate_list p.isList fun h1 he hi hsz kk=>wpAny_pyIter_enum he ?_;refine⟨s1.heap.objs.size+1,[s1.heap.objs.size+1,s1.heap.objs.size],_,_,H1,rfl,I1.kept (t':=s1.toks) kk,qN a _ _,⟨⟨_,he⟩,hi⟩,fun b hb=>?_,q⟩;have hb2:s1.heap.objs.size≤b:=by
   rcases List.mem_cons.mp hb with rfl | hb
   ·exact Nat.le_succ _
   ·rw[List.mem_singleton.mp hb];exact Nat.le_refl _
  exact I1.fpOk hb2 (I1.hok.fresh hb2)
end
end L2
namespace U
open L2
variable {B:Bs}{X:Cx}{pos:Pos}
def yh(vs:List PV)(H1:PHp)(R:It'->PHp->Prop):Prop:=match vs with
 | [.ref a]=>∃l,H1 a=some (.lst l)/\R ⟨mv l,fun H=>H a=some (.lst l)⟩ H1
 | _=>False
theorem BS{a:Addr}{H:PHp}{R:It'->PHp->Prop}:yh [.ref a] H R=(∃l,H a=some (.lst l)/\R ⟨mv l,fun H=>H a=some (.lst l)⟩ H):=rfl
def AZ(t:TA'):TI':=fun σ H R=>t σ H fun vs H1=>yh vs H1 R
theorem xP{elts:List Expr}{k1}{tpos:Pos}{c:Expr}{t:TA'}{p:Pos}(hg:Gl X "enumerate")(hm:X.mg "enumerate"=none)(ha:PA' X B [c] t)(hs:starEach [c] X.env=[(false,eval c X.env)]:=by rfl) :
  PIH X B (.Tuple elts k1 tpos) (.Call (.Name "enumerate" p) [c] [] pos) (AZ t):=gk (xE hg hm ha hs) fun σ H R ⟨σ',H',R',s,h,k⟩=>by
 refine⟨σ',H',_,s,h,fun vs' H1' vs H1 h1 r1 s1 e1=>?_⟩;unfold yh at h1;split at h1
 ·rename_i a;simp only[RPs,RP]at r1;obtain⟨u,r,rfl,rfl,rfl⟩:=r1;obtain⟨l,ha,h1⟩:=h1;obtain⟨us,q1,_⟩:=s1.hp _ _ ha;have lk:∀H2' H2,HR X.K H2' H2->H2' a=some (.lst l)->∃us,SqL X.K H2 a us/\RPs X.K H2 l us:=fun H2' H2 hr o=>by
   obtain⟨us,a1,a2⟩:=hr _ _ o;exact⟨us,SqL.of a1,a2⟩
  refine⟨a,rfl,⟨us,SqL.of q1⟩,k _ H1' _ H1 h1 ⟨fun H2' H2 i k2 hr o hi=>?_,fun H2' H2 i x H3 k2 hr o y=>?_,fun H2' H2 k2 hr o=>?_⟩ s1 e1⟩
  ·obtain⟨us,c1,d1⟩:=lk _ _ hr o;have hi':i<l.length:=by simpa[mv]using hi
   obtain⟨u,e,_⟩:=RPs.get _ d1 (List.getElem?_eq_getElem hi');exact⟨us,u,c1,e⟩
  ·obtain⟨T,y1,hT,rfl,rfl,hy⟩:=y;obtain⟨us,c1,d1⟩:=lk _ _ hr o;refine⟨hr.hid hT,Ev.hid hT,fun x' hx=>?_⟩;obtain⟨z,hz,rfl⟩:∃z,l[i]?=some z/\x'=.tup [.int (i:Nat),z]:=by
    unfold mv at hx;rw[List.getElem?_mapIdx]at hx;cases e:l[i]? with
    | none=>rw[e]at hx;cases hx
    | some z=>rw[e]at hx;exact⟨z,rfl,(Option.some.inj hx).symm⟩
   obtain⟨u,e,ru⟩:=RPs.get _ d1 hz;have ey:=hy us c1;rw[e]at ey;cases ey;exact lR hT (RPs.cons _ (by simp[RP]) (RPs.cons _ ru (RPs.nil _)))
  ·obtain⟨us,c1,d1⟩:=lk _ _ hr o;refine⟨us,c1,?_⟩;rw[RPs.length _ d1];simp[mv]
 ·exact h1.elim
end U
namespace L2
theorem iB:∀{b a:List Nat},a.Nodup->(∀x∈a,x∈b)->a.length≤b.length
 | [],a,_,h=>by
  cases a with
  | nil=>exact Nat.le_refl _
  | cons x a=>exact absurd (h x List.mem_cons_self) List.not_mem_nil
 | y::b,a,na,h=>by
  have e:=iB (b:=b) (a:=a.erase y) (na.erase y) fun x hx=>by
   have hm:=(na.mem_erase_iff).mp hx;rcases List.mem_cons.mp (h x hm.2)with q | q
   ·exact absurd q hm.1
   ·exact q
  have l:=List.length_erase (a:=y) (l:=a);rw[List.length_cons];split at l<;>omega
theorem jy:∀{b a:List Nat},¬b.Nodup->a.Nodup->(∀x∈a,x∈b)->a.length<b.length
 | [],a,nb,_,_=>absurd List.nodup_nil nb
 | y::b,a,nb,na,h=>by
  by_cases hy:y∈b
  ·have:=iB (b:=b) na fun x hx=>by
    rcases List.mem_cons.mp (h x hx)with q | q
    ·rw[q];exact hy
    ·exact q
   rw[List.length_cons];omega
  ·have e:=jy (b:=b) (a:=a.erase y) (fun n=>nb (List.nodup_cons.mpr ⟨hy,n⟩)) (na.erase y) fun x hx=>by
    have hm:=(na.mem_erase_iff).mp hx;rcases List.mem_cons.mp (h x hm.2)with q | q
    ·exact absurd q hm.1
    ·exact q
   have l:=List.length_erase (a:=y) (l:=a);rw[List.length_cons];split at l<;>omega
theorem g9{ns:List Nat}(hin:∀n∈ns,n<6)(nd:¬ns.Nodup):(SI.lof ns).length<ns.length :=
 jy nd (SI.gL _ (SI.eY hin)).2.2.1 fun x hx=>SI.gT.mp hx
end L2
namespace U
open L2
variable {B:Bs}{X:Cx}{a b e:Expr}{ta tb:TE'}{p p2 pos pos2:Pos}
def nz(x:PV)(H:PHp)(Q:VK'):Prop:=match x with
 | .ref a=>∃ns:List Nat,H a=some (.lst (ns.map cV))/\(∀n∈ns,n<6)/\Q (.int (SI.lof ns).length) H
 | _=>False
theorem CH{a:Addr}{H:PHp}{Q:VK'}:nz (.ref a) H Q=∃ns:List Nat,H a=some (.lst (ns.map cV))/\(∀n∈ns,n<6)/\Q (.int (SI.lof ns).length) H:=rfl
def ku(ta:TE'):TE':=fun σ H Q=>ta σ H fun x H1=>nz x H1 Q
theorem gD(hc:X.calm=true)(hgl:Gl X "len")(hml:X.mg "len"=none)(hgs:Gl X "set")(hms:X.mg "set"=none)(bs:bootBuiltins "set"=some (.type "set"))(ha:PE' X B e ta)
  (he:starEach [.Call (.Name "set" p2) [e] [] pos2] X.env=[(false,eval (.Call (.Name "set" p2) [e] [] pos2) X.env)]:=by rfl) (he2:starEach [e] X.env=[(false,eval e X.env)]:=by rfl) :
  PE' X B (.Call (.Name "len" p) [.Call (.Name "set" p2) [e] [] pos2] [] pos) (ku ta) :=
 aT (cE pw hgl hml PySem.boot_len (bD (cU (jv hc) hgs hms bs (bD ha b9 he2) (by decide) (by decide) he2 rfl) b9 he) (by decide) (by decide) he rfl) fun σ H Q h=>by
  obtain⟨σ',H',Q',s,h,k⟩:=h;refine⟨σ',H',_,s,h,fun x' H1' x H1 h1 rx s1 e1=>?_⟩;cases x' with
  | ref a =>
   obtain⟨ns,ea,hin,q⟩:=h1;simp only[RP]at rx;subst rx;obtain⟨us,eg,r2⟩:=s1.hp _ _ ea;rw[fI r2]at eg;refine⟨a,ns,rfl,.inl (.inl eg),hin,fun S hS=>⟨S,SI.lof ns,rfl,a8,?_⟩⟩;exact k _ _ _ _ q (by simp[RP]) (s1.hid hS) (e1.trans (Ev.hid hS))
  | _=>exact h1.elim
end U
namespace SI
section
variable {prog:Program}{w:World}{A:Around}{E:Value->Shared->Prop}{s:Shared}
theorem A0{S I l:Addr}{vs:List Value}{ns:List Nat}{led:Bool}{R:Result->Shared->Prop}(hh:A.in1.handled=none)(hT:kR vs ns)(hin:∀n∈ns,n<6)(hSI:S≠I)(hSl:S≠l)(hlI:l≠I) :
  ∀(k i:Nat) (s:Shared),ns.length - i=k->i≤ns.length->s.heap.IsTupleIter I l i->s.heap.IsTuple l vs.toArray->eO s.heap S led (lof (ns.take i)) ->
   (∀h' tk,(∀b o,b≠S->b≠I->s.heap.get? b=some o->h'.get? b=some o)->eO h' S led (lof ns)->R (.ok (.ret .none)) { s with heap:=h',toks:=tk }) ->
   codeAny (model prog w) A (.builtin "set.update.loop" ⟨[.ref S,.ref I],[]⟩) R s:=by
 intro k
 induction k with
 | zero =>
  intro i s hk hi hit hl hP hR;have e:i=ns.length:=by omega
  subst e;rw[List.take_length]at hP;refine codeAny_builtin F.entry_set_update_loop ?_;rw[Around.under_plainId F.plain_set_update_loop _];show wpAny _ A.in1 (pyNext (.ref I) >>= _) _ _ s;refine wpAny_bind (wpAny_pyNext_tuple_end hh hit hl (by simp[hT.1]) fun h' eb=>?_);show wpAny _ A.in1 (ret Value.none) _ _ _;refine wpAny_pure (hR h' s.toks (fun b o _ hb e=>eb b o hb e) ?_);obtain⟨hL,es,ep,ho,r⟩:=hP.is;exact⟨hL,es,ep,eb S _ hSI ho,r⟩
 | succ k ih =>
  intro i s hk hi hit hl hP hR;have hlt:i<ns.length:=by omega
  have hvl:i<vs.length:=by rw[hT.1];exact hlt
  have hvi:vs[i]?=some vs[i]:=List.getElem?_eq_getElem hvl;obtain⟨tk,ev⟩:=hT.2 i _ hvi;have en:ns.getD i 0=ns[i]:=by rw[List.getD_eq_getElem?_getD,List.getElem?_eq_getElem hlt];rfl
  rw[en]at ev;refine codeAny_builtin F.entry_set_update_loop ?_;rw[Around.under_plainId F.plain_set_update_loop _];show wpAny _ A.in1 (pyNext (.ref I) >>= _) _ _ s;refine wpAny_bind (wpAny_pyNext_tuple_item hit hl (x:=Value.int ((ns[i]:Nat):Int) tk) (by rw[←ev];simp) fun h1 hit1 sb1=>?_);have k1:∀b o,b≠I->s.heap.get? b=some o->h1.get? b=some o:=fun b o hb e=>sb1.extBut b o hb e;have hP1:eO h1 S led (lof (ns.take i)):=by
   obtain⟨hL,es,epo,ho,r⟩:=hP.is;exact⟨hL,es,epo,k1 S _ hSI ho,r⟩
  show wpAny _ A.in1 (holding [Value.int ((ns[i]:Nat):Int) tk] (setAdd S (Value.int ((ns[i]:Nat):Int) tk)) >>= _) _ _ _;refine wpAny_bind (wpAny_holding (ib (A:=A.in1) hP1 (hin _ (List.getElem_mem hlt)) fun b h2 tk2 sb2 hP2=>?_));have k2:∀b o,b≠S->h1.get? b=some o->h2.get? b=some o:=fun b o hb e=>sb2.extBut b o hb e;have hP3:eO h2 S led (lof (ns.take (i+1))):=by rw[kn hlt];exact hP2
  refine wpAny_pure ⟨plainId_quiet F.plain_set_update_loop _,ih (i+1) { s with heap:=h2,toks:=tk2 } (by omega) (by omega) (hit1.extBut (fun b o hb e=>k2 b o hb e) (Ne.symm hSI)) ?_ hP3 ?_⟩
  ·exact(hl.extBut (fun b o hb e=>k1 b o hb e) hlI).extBut (fun b o hb e=>k2 b o hb e) (Ne.symm hSl)
  ·intro h3 tk3 kp hP4;exact hR h3 tk3 (fun b o hb hb' e=>kp b o hb hb' (k2 b o hb (k1 b o hb' e))) hP4
theorem j4{l:Addr}{vs:List Value}{ns:List Nat}{Q:Value->Shared->Prop}(hh:A.handled=none)(hl:s.heap.IsTuple l vs.toArray)(hT:kR vs ns)(hin:∀n∈ns,n<6)
  (h:∀h' tk,(∀b o,b<s.heap.objs.size->s.heap.get? b=some o->h'.get? b=some o)->eO h' s.heap.objs.size (bb w) (lof ns)->Q (.ref s.heap.objs.size) { s with heap:=h',toks:=tk }) :
  wpAny (model prog w) A (call (.type "set") [.ref l]) Q E s:=by
 obtain⟨c0,tl0,mro0⟩:=F.called_set.mro;have made0:=F.called_set.made;have sub0:=F.called_set.sub;have nt0:=F.called_set.notType;have cc0:=F.called_set.canCreate;have tc0:=F.typeCall_set_1 (.ref l);refine wpAny_call (codeAny_of_tree ?_);show wpAny (model prog w) _ (callAny (.type "set") _) _ _ _;refine wpAny_pure ⟨Code.quiet_builtin _ (by decide +kernel),codeAny_builtin F.entry_type_call ?_⟩;rw[Around.under_plain (weight_type_call_type "set" [.ref l] []) rfl]
 repeat (any_goals (first | assumption | wp_step))
 refine codeAny_mono (m8 (.ref l) (E:=E) (Q₁:=fun obj s1=>obj=.ref s.heap.objs.size /\
  s1={ s with heap:=s.heap.push { cls:=.type "set",dict:=none,data:=.set #[] 0 (.fresh 0 0 (bb w)) } }) ⟨rfl,rfl⟩) fun r s1 hr=>?_
 cases r with
 | error e=>exact hr
 | ok fl =>
  cases fl with
  | ret obj =>
   obtain⟨rfl,rfl⟩:=hr;generalize hH:s.heap.push { cls:=.type "set",dict:=none,data:=.set #[] 0 (.fresh 0 0 (bb w)) }=H1;have hS:H1.get? s.heap.objs.size=some { cls:=.type "set",dict:=none,data:=.set #[] 0 (.fresh 0 0 (bb w)) }:=by rw[←hH];exact Heap.get?_push_size _ rfl
   have old:∀b o,s.heap.get? b=some o->H1.get? b=some o:=fun b o e=>by rw[←hH];exact Heap.get?_push_of_some _ e
   have hsz:H1.objs.size=s.heap.objs.size+1:=by rw[←hH,Heap.size_push]
   have tyS:Shared.TypeIs { s with heap:=H1 } (.ref s.heap.objs.size) "set":=⟨_,hS,rfl⟩;have li0:=F.called_set.init.lookup;have bi0:=F.called_set.init.bind (.ref s.heap.objs.size)
   repeat (any_goals (first | assumption | wp_step))
   refine codeAny_mono (codeAny_call_builtin (R:=wants (fun r s2=>r=.none/\∃h' tk,s2={ s with heap:=h',toks:=tk }/\eO h' s.heap.objs.size (bb w) (lof ns) /\
    (∀b o,b<s.heap.objs.size->s.heap.get? b=some o->h'.get? b=some o)) E) F.called_set.init.plain F.entry_set_init (check_set_init_1 tyS ?_)) fun r2 s2 hr2=>?_
   ·obtain⟨ol,hol,hcl,nl,hdl⟩:=hl;obtain⟨oc,od,oda,osl⟩:=ol;simp only at hcl hdl;subst hcl;subst hdl;have hol1:H1.get? l=some { cls:=.type "tuple",dict:=od,data:=.seq vs.toArray nl,slots:=osl }:=old _ _ hol;have sls:=F.sub_tuple_set;have slf:=F.sub_tuple_frozenset;have nld:(Value.type "tuple"==Value.type "dict")=false:=by decide
    have hl1:H1.IsTuple l vs.toArray:=⟨_,hol1,rfl,nl,rfl⟩;have llt:l<s.heap.objs.size:=Heap.lt_size hol;unfold Builtin.«set.__init__» noKeywords Builtin.Frozenset.updateFrom;generalize hPI:pyIter=PI
    wp_walk
    subst hPI;refine wpAny_pyIter_tuple hl1 ?_;refine wpAny_bind (wpAny_runValue ?_);generalize hH2:H1.push { cls:=.type "tuple_iterator",data:=.fields #[.ref l,.int 0 0] }=H2;have old2:∀b o,H1.get? b=some o->H2.get? b=some o:=fun b o e=>by rw[←hH2];exact Heap.get?_push_of_some _ e
    refine A0 (l:=l) (ns:=ns) (vs:=vs) (led:=bb w) (by simp[hh]) hT hin (by show s.heap.objs.size≠H1.objs.size;rw[hsz];exact Nat.ne_of_lt (Nat.lt_succ_self _)) (Nat.ne_of_gt llt) (by show l≠H1.objs.size;rw[hsz];exact Nat.ne_of_lt (Nat.lt_succ_of_lt llt)) ns.length 0 _ (by omega) (Nat.zero_le _) ?_ ?_ ?_ ?_
    ·rw[←hH2];exact⟨_,Heap.get?_push_size _ rfl,rfl,rfl⟩
    ·exact⟨_,old2 _ _ hol1,rfl,nl,rfl⟩
    ·refine⟨iP,#[],0,old2 _ _ hS,[],rfl,rfl⟩
    ·intro h' tk kp hP;show wpAny _ _ (pure ()) _ _ _;refine wpAny_pure ?_;show wpAny _ _ (ret Value.none) _ _ _;refine wpAny_pure ⟨rfl,h',tk,rfl,hP,fun b o hb e=>?_⟩;refine kp b o (Nat.ne_of_lt hb) ?_ (old2 _ _ (old _ _ e));show b≠H1.objs.size;rw[hsz];exact Nat.ne_of_lt (Nat.lt_succ_of_lt hb)
   ·cases r2 with
    | error e=>exact hr2
    | ok f2 =>
     cases f2 with
     | ret r =>
      obtain⟨rfl,h',tk,rfl,hP,hk⟩:=hr2
      repeat (any_goals (first | assumption | wp_step))
      exact h _ _ hk hP
     | _=>exact hr2.elim
  | _=>exact hr.elim
end
end SI
namespace L2
variable {X:Cx}
theorem oR(hc:X.calm=true):cf X (.type "set") (fun xs H Q=>∃(a:Addr) (ns:List Nat),xs=[.ref a]/\SqT X.K H a (ns.map tT)/\(∀n∈ns,n<6)/\∀S,H S=none->Q (.ref S) (upd H S (.ext (fo X.w S (SI.lof ns))))):=by
 intro pins s σ H xs us Q I r h;obtain⟨a,ns,rfl,hq,hin,q⟩:=h;obtain⟨u,rfl,ru⟩:=Vals.one r;cases ru;obtain⟨its,rv,p,hz⟩:=I.tuple hq;refine SI.j4 (ns:=ns) (I.ok.hd hc) (show s.heap.IsTuple a its.toArray from p) (gg rv) hin fun h' tk kp P=>?_;have hn:H s.heap.objs.size=none:=I.hok.fresh (Nat.le_refl _);refine⟨.ref s.heap.objs.size,_,I.laid (t':=tk) (o:=.ext (fo X.w s.heap.objs.size (SI.lof ns))) (fun b o e=>kp b o (Heap.lt_size e) e) (Nat.le_refl _) ?_,rfl,q _ hn⟩;obtain⟨hL,es,ep,ho,he⟩:=P.is;exact⟨P,⟨_,ho⟩,fun h1 h2 x k=>by obtain⟨a,es,ep,e,l⟩:=x.is;exact⟨a,es,ep,k _ e,l⟩⟩
end L2
namespace U
open L2
variable {B:Bs}{X:Cx}{a b e:Expr}{ta tb:TE'}{p p2 pos pos2:Pos}
def nv(x:PV)(H:PHp)(Q:VK'):Prop:=match x with
 | .tup l=>∃ns:List Nat,l=ns.map cV/\(∀n∈ns,n<6)/\Q (.int (SI.lof ns).length) H
 | _=>False
theorem Dz{l:List PV}{H:PHp}{Q:VK'}:nv (.tup l) H Q=∃ns:List Nat,l=ns.map cV/\(∀n∈ns,n<6)/\Q (.int (SI.lof ns).length) H:=rfl
def rp(ta:TE'):TE':=fun σ H Q=>ta σ H fun x H1=>nv x H1 Q
def kU(x:PV)(H:PHp)(Q:VK'):Prop:=match x with
 | .tup l=>∃ns:List Nat,l=ns.map cV/\(∀n∈ns,n<6)/\∀(r:Addr) (ks:List Nat),H r=none->ks.Pairwise (·<·)->(∀x,x∈ks↔x∈ns)->Q (.ref r) (put H r (.lst (ks.map cV)))
 | _=>False
theorem A8{l:List PV}{H:PHp}{Q:VK'}:kU (.tup l) H Q=∃ns:List Nat,l=ns.map cV/\(∀n∈ns,n<6)/\∀(r:Addr) (ks:List Nat),H r=none->ks.Pairwise (·<·)->(∀x,x∈ks↔x∈ns)->Q (.ref r) (put H r (.lst (ks.map cV))):=rfl
def jg(ta:TE'):TE':=fun σ H Q=>ta σ H fun x H1=>kU x H1 Q
theorem ie(hc:X.calm=true)(hu:X.A.units+64<cLine)(hgl:Gl X "sorted")(hml:X.mg "sorted"=none)(hgs:Gl X "set")(hms:X.mg "set"=none)(bs:bootBuiltins "set"=some (.type "set"))(ha:PE' X B e ta)(bo:bootBuiltins "sorted"=some (.builtin "sorted"):=by decide +kernel)
  (he:starEach [.Call (.Name "set" p2) [e] [] pos2] X.env=[(false,eval (.Call (.Name "set" p2) [e] [] pos2) X.env)]:=by rfl) (he2:starEach [e] X.env=[(false,eval e X.env)]:=by rfl) :
  PE' X B (.Call (.Name "sorted" p) [.Call (.Name "set" p2) [e] [] pos2] [] pos) (jg ta) :=
 aT (cE (iS hc) hgl hml bo (bD (cU (oR hc) hgs hms bs (bD ha b9 he2) (by decide) (by decide) he2 rfl) b9 he) (by decide) (by decide) he rfl) fun σ H Q h=>by
  obtain⟨σ',H',Q',s,h,k⟩:=h;refine⟨σ',H',_,s,h,fun x' H1' x H1 h1 rx s1 e1=>?_⟩;cases x' with
  | tup l =>
   obtain⟨ns,rfl,hin,q⟩:=h1;simp only[RP]at rx;obtain⟨a,us,rfl,hq,r2⟩:=rx;rw[fI r2]at hq;refine⟨a,ns,rfl,hq,hin,fun S hS=>⟨S,SI.lof ns,rfl,a8,fun r ms hr hs hp=>?_⟩⟩;have s2:=s1.hid (o:=.ext (fo X.w S (SI.lof ns))) hS;have e2:Ev H1' H1 H1' (upd H1 S (.ext (fo X.w S (SI.lof ns)))):=Ev.hid hS;have nd:=(SI.gL _ (SI.eY hin)).2.2.1;have hm:∀x∈ms,∃n∈SI.lof ns,x=((n:Nat):Int):=fun x hx=>by
    obtain⟨n,h1,h2⟩:=List.mem_map.mp (hp.mem_iff.mp hx);exact⟨n,h1,h2.symm⟩
   have em:=iC hm;generalize ms.map Int.toNat=ks at em;subst em;have pk:ks.Perm (SI.lof ns):=by
    have:=hp.map Int.toNat
    simpa[List.map_map,Function.comp_def]using this
   have ndk:ks.Nodup:=pk.nodup_iff.mpr nd;have hsk:ks.Pairwise (·<·):=by
    rw[List.pairwise_map]at hs;refine List.Pairwise.imp₂ (fun a b h1 h2=>?_) hs ndk;have:a≠b:=h2;omega
   have hq:=q r ks (s2.hp.free hr) hsk fun x=>pk.mem_iff.trans SI.gT;have rr:RPs X.K (upd H1 S (.ext (fo X.w S (SI.lof ns)))) (ks.map cV) ((ks.map fun(n:Nat)=>(n:Int)).map V.int):=by
    have e3:ks.map cV=(ks.map fun(n:Nat)=>(n:Int)).map PV.int:=by rw[List.map_map];rfl
    rw[e3];exact iq
   exact k _ _ _ _ hq (by simp[RP]) (s2.new hr (lg hr rr)) ((e1.trans e2).trans (Ev.new hr))
  | _=>exact h1.elim
end U
namespace L2
variable {X:Cx}
def m6:List Int->List DictEntry->Bool
 | [],[]=>true
 | k::ks,e::es=>e.key.isInt k&&(e.hash==hashInt k)&&m6 ks es
 | _,_=>false
def okIn(K:PySem.W.Frag)(a:Addr)(ks:List Int):Bool :=
 !(a==sysModules)&&match K.lookup a with
 | some ⟨c,d,.dict es _,sl⟩=>(c==.type "dict")&&d.isNone&&(sl.size==0)&&m6 ks es.toList
 | _=>false
theorem nk{prog:Program}{w:World}:∀{ks:List Int} {es:List DictEntry},m6 ks es=true ->
  (∀e∈es,∃k,(intKind prog w).is k e.key=true/\e.hash=(intKind prog w).hash k)/\∀k,((es.find? fun e=>(intKind prog w).is k e.key).map (·.val)).isSome=decide (k∈ks)
 | [],[],_=>⟨fun _ h=>(by cases h),fun _=>rfl⟩
 | k::ks,e::es,h=>by
  simp only[m6,Bool.and_eq_true,beq_iff_eq]at h;obtain⟨⟨h1,h2⟩,h3⟩:=h;obtain⟨i1,i2⟩:=nk (prog:=prog) (w:=w) h3;have hj:(intKind prog w).is k e.key=true:=h1;refine⟨fun x hx=>(List.mem_cons.mp hx).elim (fun q=>q▸⟨k,hj,h2⟩) (i1 x),fun y=>?_⟩;rw[List.find?_cons,KeyKind.is_eq_decide hj y];by_cases q:y=k
  ·subst q;simp
  ·simp only[q,decide_false];rw[i2 y];simp[q]
theorem uN{prog:Program}{w:World}{K:PySem.W.Frag}{a:Addr}{ks:List Int}{h:Heap}(o:okIn K a ks=true)(kin:K.In h):(a==sysModules)=false/\∃f,h.MapOf (intKind prog w) a f/\∀k,(f k).isSome=decide (k∈ks):=by
 unfold okIn at o;rw[Bool.and_eq_true]at o;refine⟨by simpa using o.1,?_⟩;have o2:=o.2;split at o2
 ·rename_i c d es ep sl hl;simp only[Bool.and_eq_true,beq_iff_eq]at o2;obtain⟨⟨⟨rfl,o3⟩,o4⟩,o5⟩:=o2;obtain⟨k1,k2⟩:=nk (prog:=prog) (w:=w) o5;have ed:d=none:=by simpa using o3
  have es0:sl=#[]:=by simpa using o4
  refine⟨fun k=>findBy (intKind prog w).is es k,⟨_,es,ep,kin _ _ hl,⟨rfl,ed,es0⟩,rfl,fun e he=>k1 e (by simpa using he),fun _=>rfl⟩,fun k=>?_⟩;rw[←k2 k];simp[findBy]
 ·cases o2
def wB(a:Addr)(ks:List Int):R2:=fun x y H Q=>∃n,x=.int n/\y=.ref a/\Q (.bl (!decide (n∈ks))) H
theorem uP{a:Addr}{ks:List Int}(o:okIn X.K a ks=true):OpR X (compareOp .NotIn) (wB a ks):=by
 intro pins s σ H x y v u Q I rx ry h;obtain⟨n,rfl,rfl,q⟩:=h;obtain⟨t,rfl⟩:=rx;cases ry;obtain⟨lo,f,hm,hf⟩:=uN (prog:=X.prog) (w:=X.w) o I.kIn;refine wpAny_notIn_of (knd:=intKind X.prog X.w) (k:=n) (by first | rfl | simp[intKind,Value.isInt]) lo hm ?_;rw[hf];exact⟨.bl (!decide (n∈ks)),H,I.tok _,rfl,q⟩
end L2
namespace U
open L2
section
variable {B:Bs}{X:Cx}{pos:Pos}
def sC(a:Addr)(ks:List Int):R2':=fun x y H Q=>match x,y with
 | .int n,.ref b=>b=a/\Q (.bl (!decide (n∈ks))) H
 | _,_=>False
theorem Ek{a b:Addr}{ks:List Int}{n:Int}{H:PHp}{Q:VK'}:sC a ks (.int n) (.ref b) H Q=(b=a/\Q (.bl (!decide (n∈ks))) H):=rfl
theorem uQ{K:PySem.W.Frag}{a:Addr}{ks:List Int}:VR K B (sC a ks) (wB a ks):=by
 intro σ' σ H' H x' y' x y Q' Q s rx ry h k;unfold sC at h;split at h
 ·rename_i n b;obtain⟨rfl,q⟩:=h;simp only[RP,RPs]at rx ry;subst rx;subst ry;exact⟨n,rfl,rfl,k _ _ _ _ q (by simp[RP]) s (Ev.refl _ _)⟩
 ·exact h.elim
end
section
variable {B:Bs}
section
variable {X:Cx}{k:Nat}{f C:Addr}{fd:FuncData}{ps:List Str}{sp:Sp'}{E:XK}{E':XK'}{x m:Str}{p pos apos:Pos}{e o:Expr}{es:List Expr}{ta:TE'}{t:TA'}
theorem oO{K:PySem.W.Frag}(hE:XL K B E' E){σ:L2.St}{H:Hp}{Q:VK}(h:low K B (kz C m sp E' ta t) σ H Q):rP C m (c7 K sp) [] E (low K B ta) (l8 K B t) σ H Q:=by
 obtain⟨σ',H',Q',s,h,k⟩:=h;refine⟨σ',H',_,s,h,fun x' H1' x H1 h1 rx s1 e1=>?_⟩;obtain⟨hi,h1⟩:=h1;cases x' with
 | ref a =>
  obtain⟨dx,fs,ea,l⟩:=hi;simp only[RP]at rx;subst rx;obtain⟨gs,eg,fr⟩:=s1.hp _ _ ea;refine⟨a,dx,gs,rfl,eg,gc fr l,σ',H1',_,s1,h1,fun vs' H2' vs H2 h2 r2 s2 e2=>?_⟩;show c7 K sp (V.ref a::(vs++[])) H2 Q E;rw[List.append_nil];exact⟨.ref a::vs',H2',Q',E',RPs.cons _ (by simp[RP]) r2,s2.hp,h2,fun v' H3' v H3 q r3 h3 e3=>k v' H3' v H3 q r3 (s2.kp e3 h3) ((e1.trans e2).trans e3),fun c d H3' H3 q h3 e3=>hE c d H3' H3 q h3 (s2.ev.trans e3)⟩
 | _=>exact hi.elim
theorem tw{pl:Sem Bool}(l:Lv X E)(pn:Plain X)(hE:XL X.K B E' E)(he:PE' X B o ta)(cl:Cls X.K C)(hm:Meth X.K C m f)(F:aN X.prog X.w X.K X.mg X.base (CXU X.prog X.w) k f fd ps sp)(hr:bP k X.A)(hb:Binds X.K fd ps [])(ha:PA' X B (e::es) t)
  (hst:starEach (e::es) X.env=(false,eval e X.env)::starEach es X.env:=by rfl) (hpl:(backTo pos (starEach es X.env)).any (·.1)=false:=by rfl)
  (ht:eval (.Call (.Attribute o m apos) (e::es) [] pos) X.env=(do
   let ov←eval o X.env
   standAt apos.atName
   let (f,first)←holding [ov] (getMethod ov m pl)
   callWith pos f first (backTo pos (starEach (e::es) X.env)) (backToKw pos (keywordEach [] X.env))):=by rfl) :
  PE' X B (.Call (.Attribute o m apos) (e::es) [] pos) (kz C m sp E' ta t):=aT (oq he cl hm F hr hb .nil (nR l pn) ha hst hpl ht) fun _ _ _ h=>oO hE h
def AS(C:Addr)(m:Str)(sp:Sp')(ta:TE')(t:TA'):TX':=fun σ H Q E=>ta σ H fun x H1=>isIn C m x H1/\t σ H1 fun vs H2=>sp (x::vs) H2 Q E
end
end
end U
namespace L2
section
variable {prog:Program}{w:World}{A:Around}{E:Value->Shared->Prop}{s:Shared}
theorem eL{t sl:Addr}{items:Array Value}{vl vu:Value}{lo hi:Option Int}{Q:Value->Shared->Prop}(tA:IsTup s.heap t items)(sA:s.heap.IsSliceOf sl vl vu .none)(pA:IsPart vl lo)(pB:IsPart vu hi)
  (hw:HT.sIx items.size 0 lo=0/\HT.sIx items.size items.size hi=items.size) (h:Q (.ref t) s):wpAny (model prog w) A (getItem (.ref t) (.ref sl)) Q E s:=by
 obtain⟨os,hos,hcs,hds⟩:=id sA;have tB:s.TypeIs (.ref sl) "slice":=⟨os,hos,hcs⟩;unfold getItem
 try with_reducible refine wpAny_holding ?_
 first | refine wpAny_bind (wpAny_pure ?_) | skip
 refine wpAny_bind (wpAny_sequenceKey tA.typeIs (by decide) ?_);refine wpAny_bind (wpAny_callSpecial?_slot (name:=Str.ofString "__getitem__") tA.typeIs PyProof.Rows.slot_tuple_getitem
  (wpAny_call_entry PyProof.Rows.slot_tuple_getitem tA.typeIs entry_tuple_getitem ?_ (args_tuple_getitem _ _)))
 show wpAny _ _ (Builtin.Tuple.tupleItemsOf (.ref t) >>= _) _ _ s;refine wpAny_bind (tupleItemsOf_ tA ?_);refine wpAny_bind (wpAny_typeOf tB ?_);rw[if_pos (by decide)];refine wpAny_bind (HT.c8 sA pA pB ?_);have hyes:(((HT.sIx items.size 0 lo:Nat):Int)==0&&(1:Int)==1&&(HT.sIx items.size items.size hi - HT.sIx items.size 0 lo)==items.size)=true:=by
  rw[hw.1,hw.2];simp
 show wpAny _ _ (if (((HT.sIx items.size 0 lo:Nat):Int)==0&&(1:Int)==1&&(HT.sIx items.size items.size hi - HT.sIx items.size 0 lo)==items.size)=true then _ else _) _ _ s;rw[if_pos hyes];unfold Builtin.Tuple.tupleIsExact;have hT:=tA.typeIs
 wp_walk
 exact⟨_,rfl,wpAny_pure h⟩
end
variable {X:Cx}
def DA(K:PySem.W.Frag):V->Option Int->Option Int->Hp->VK->Prop:=fun x lo hi H Q=>∃a xs,x=.ref a/\SqT K H a xs /\
 ((HT.sIx xs.length 0 lo=0/\HT.sIx xs.length xs.length hi=xs.length)->Q (.ref a) H)/\(¬(HT.sIx xs.length 0 lo=0/\HT.sIx xs.length xs.length hi=xs.length)->∀p,H p=none->Q (.ref p) (upd H p (.tup (jT xs lo hi))))
theorem uZ:SlR X (DA X.K):=by
 intro pins s σ H x v vl vu lo hi sl Q I rx hs pl pu h;obtain⟨a,xs,rfl,hx,q1,q2⟩:=h;by_cases hw:HT.sIx xs.length 0 lo=0/\HT.sIx xs.length xs.length hi=xs.length
 ·cases rx;obtain⟨its,r,ht,hz⟩:=I.tuple hx;have hlen:its.toArray.size=xs.length:=by rw[List.size_toArray];exact r.length.symm
  refine⟨"tuple",_,PyProof.Rows.slot_tuple_getitem.lookup,ht.typeIs,?_⟩;exact eL ht hs pl pu (by rw[hlen];exact hw) ⟨.ref a,H,I,rfl,q1 hw⟩
 ·exact sF pins s σ H _ v vl vu lo hi sl Q I rx hs pl pu ⟨a,xs,rfl,hx,hw,q2 hw⟩
end L2
namespace U
open L2
variable {B:Bs}{X:Cx}{e:Expr}{ta:TE'}{pos:Pos}
def tL(x:PV)(lo hi:Option Int)(H3:PHp)(Q:VK'):Prop:=match x with
 | .tup l=>Q (.tup (bO l lo hi)) H3
 | _=>False
theorem CN{l:List PV}{lo hi:Option Int}{H:PHp}{Q:VK'}:tL (.tup l) lo hi H Q=Q (.tup (bO l lo hi)) H:=rfl
def oC(ta:TE')(tl th:TO'):TE':=fun σ H Q=>ta σ H fun x H1=>tl σ H1 fun lo H2=>th σ H2 fun hi H3=>tL x lo hi H3 Q
theorem pV{lo hi:Option Expr}{tl th:TO'}{p2:Pos}(he:PE' X B e ta)(hl:PO' X B lo tl)(hu:PO' X B hi th):PE' X B (.Subscript e (.Slice lo hi none p2) pos) (oC ta tl th) :=
 aT (lH uZ he hl hu) fun σ H Q ⟨σ',H',Q',s,h,k⟩=>by
 refine⟨σ',H',_,s,h,fun x H1' v H1 h1 r1 s1 e1=>⟨σ',H1',_,s1,h1,fun l H2' H2 h2 s2 e2=>⟨σ',H2',_,s2,h2,fun u H3' H3 h3 s3 e3=>?_⟩⟩⟩;have r3:=RP.kp _ (e3.kp s2.hp) (RP.kp _ (e2.kp s1.hp) r1);have e123:=e1.trans (e2.trans e3);cases x with
 | tup xs =>
  have r3':=r3;simp only[RP]at r3;obtain⟨a,us,e,q,r⟩:=r3;refine⟨a,us,e,q,fun hw=>?_,fun _ p n=>?_⟩
  ·have ex:bO xs l u=xs:=by
    unfold bO;rw[RPs.length _ r]at hw;rw[hw.1,hw.2,List.drop_zero,Nat.sub_zero,List.take_length]
   have h4:Q' (.tup (bO xs l u)) H3':=h3;rw[ex]at h4;rw[←e];exact k _ _ _ _ h4 r3' s3 e123
  ·exact k _ _ _ _ h3 (lR n (j6 r)) (s3.hid n) (e123.trans (Ev.hid n))
 | _=>exact h3.elim
end U
namespace L2
variable {X:Cx}
end L2
namespace U
open L2
variable {B:Bs}{X:Cx}{a b:Expr}{ta tb:TE'}{pos:Pos}
end U
namespace L2
variable {X:Cx}
theorem sH{prog:Program}{w:World}{A:Around}{E:Value->Shared->Prop}{s:Shared}{t b:Addr}{ws:List Value}{Q:Value->Shared->Prop}(ht:IsTup s.heap t ([]:List Value).toArray)(hb:IsTup s.heap b ws.toArray)(h:Q (.ref b) s):wpAny (model prog w) A (binaryOp .Add (.ref t) (.ref b)) Q E s:=by
 obtain⟨⟨cls,dd,data,sl⟩,g,hc,n,g2⟩:=id ht;obtain⟨⟨cls2,dd2,data2,sl2⟩,k,hc2,n2,k2⟩:=id hb;simp only at hc g2 hc2 k2;subst hc g2 hc2 k2;exact concat_meets ⟨_,g,rfl⟩ ⟨_,k,rfl⟩ noFill_tuple_add seq_tuple_add PySem.F.slot_tuple_add PySem.F.entry_tuple_add (PySem.F.args_tuple_add_2 _ _) (tuple_addW0 t b _ ws.toArray n n2 dd dd2 sl sl2 rfl) ⟨g,k,h⟩
def wc(K:PySem.W.Frag):R2:=fun x y H Q=>∃a b xs ys,x=.ref a/\y=.ref b/\SqT K H a xs/\SqT K H b ys/\xs.length+ys.length≤sizeLine/\(xs=[]->Q (.ref b) H)/\(ys=[]->Q (.ref a) H)/\(ys≠[]->∀p,H p=none->Q (.ref p) (upd H p (.tup (xs++ys))))
theorem t9:OpR X (binaryOp .Add) (wc X.K):=by
 intro pins s σ H x y v u Q I rx ry h;obtain⟨a,b,xs,ys,rfl,rfl,ha,hb,hz,q0,q1,q2⟩:=h;by_cases e:xs=[]
 ·cases rx;cases ry;subst e;obtain⟨its,r1,p1,_⟩:=I.tuple ha;obtain⟨its2,r2,p2,_⟩:=I.tuple hb;cases r1;exact sH p1 p2 ⟨.ref b,H,I,rfl,q0 rfl⟩
 ·exact ur pins s σ H _ _ v u Q I rx ry ⟨a,b,xs,ys,rfl,rfl,ha,hb,e,hz,q1,q2⟩
end L2
namespace U
open L2
variable {B:Bs}{X:Cx}{a b:Expr}{ta tb:TE'}{pos:Pos}
def kM:R2':=fun x y H Q=>match x,y with
 | .tup l,.tup m=>l.length+m.length≤sizeLine/\Q (.tup (l++m)) H
 | _,_=>False
theorem Et{l m:List PV}{H:PHp}{Q:VK'}:kM (.tup l) (.tup m) H Q=(l.length+m.length≤sizeLine/\Q (.tup (l++m)) H):=rfl
theorem vY{K:PySem.W.Frag}:VR K B kM (wc K):=by
 intro σ' σ H' H x' y' x y Q' Q s rx ry h k;unfold kM at h;split at h
 ·rename_i l m;obtain⟨hl,q⟩:=h;have rx':=rx;have ry':=ry;simp only[RP]at rx ry;obtain⟨a,us,rfl,ha,r1⟩:=rx;obtain⟨b,ws,rfl,hb,r2⟩:=ry;have l1:=RPs.length _ r1;have l2:=RPs.length _ r2;refine⟨a,b,us,ws,rfl,rfl,ha,hb,by rw[l1,l2];exact hl,fun e=>?_,fun e=>?_,fun e p hp=>?_⟩
  ·have:l=[]:=List.length_eq_zero_iff.mp (by rw[←l1,e];rfl);rw[this,List.nil_append]at q;exact k _ _ _ _ q ry' s (Ev.refl _ _)
  ·have:m=[]:=List.length_eq_zero_iff.mp (by rw[←l2,e];rfl);rw[this,List.append_nil]at q;exact k _ _ _ _ q rx' s (Ev.refl _ _)
  ·exact k _ _ _ _ q (lR hp (RPs.append _ r1 r2)) (s.hid hp) (Ev.hid hp)
 ·exact h.elim
theorem eJ(ha:PE' X B a ta)(hb:PE' X B b tb):PE' X B (.BinOp a .Add b pos) (uOp kM ta tb):=eQ t9 vY ha hb
end U
namespace TR
section
variable {prog:Program}{w:World}{A:Around}{E:Value->Shared->Prop}{s:Shared}
theorem iW{Q:List Value->Shared->Prop}{r:Addr}{a b c:Int}{t u v:Tok}{n:Nat}(hh:A.handled=none)(hr:IsRange s.heap r a b c t u v)(hs:Builtin.Range.small a b c=true)(hn:Builtin.Range.rangeSize a b c=n)(hl:n≤2 ^ 24)
  (q:∀(h':Heap) tk acc,(∀b o,s.heap.get? b=some o->h'.get? b=some o)->ItemsOf (fun i v=>∃t,v=.int (a+i*c) t) acc n->Q acc.toList { s with heap:=h',toks:=tk }):wpAny (model prog w) A (collect (.ref r)) Q E s:=by
 unfold collect;refine wpAny_bind (wpAny_runValue (codeAny_builtin F.entry_proto_collect ?go))
 case go =>
  rw[Around.under_plainId F.plain_proto_collect _];show wpAny _ A.in1 (newList [] >>= fun l=>again (.builtin "list.__iadd__" ⟨[l,.ref r],[]⟩)) _ _ s;refine wpAny_bind (wpAny_newObj_type (wpAny_pure ⟨plainId_quiet F.plain_list_iadd _,codeAny_builtin F.entry_list_iadd ?_⟩));rw[Around.under_plainId F.plain_list_iadd _];show wpAny _ A.in1 (Builtin.List.listExtendWith (.ref s.heap.objs.size) (.ref r) (.ref s.heap.objs.size)) _ _ _;have hS0:(s.heap.push { cls:=.type "list",data:=.seq ([]:List Value).toArray }).get? s.heap.objs.size=some { cls:=.type "list",data:=.seq #[] }:=Heap.get?_push_size _ rfl;refine wpAny_extend_range (R:=fun r s'=>match r with | .ok (.ret v)=>wpAny (model prog w) A (match v with | .ref a=>(do match (← load a).data with | .seq xs _=>pure xs.toList | _=>unsupported "internal:collect") | _=>unsupported "internal:collect") Q E s' | .ok _=>False | .error e=>E e s') (s:={ s with heap:=s.heap.push { cls:=.type "list",data:=.seq ([]:List Value).toArray } }) hh (Heap.get?_push_of_some _ hr) hs hn hl _ _ 0 hS0 fun h' tk acc c' hk hS hacc=>?_;show wpAny _ A (load s.heap.objs.size >>= _) _ _ _;exact wpAny_bind (wpAny_load hS (wpAny_pure (q h' tk acc (fun b o e=>hk b o (Nat.ne_of_lt (Heap.lt_size e)) (Heap.get?_push_of_some _ e)) hacc)))
end
open AutoSeq1 (wpAny_loadPart')
theorem i3{r:Addr}{a b c:Int}{t u v:Tok}{n:Nat}(hs:Builtin.Range.small a b c=true)(hn:Builtin.Range.rangeSize a b c=n)(hl:n≤2 ^ 24) :
  Meets (Builtin.«tuple.__new__» ⟨[.type "tuple",.ref r],[]⟩)
   (fun A R s=>A.handled=none/\IsRange s.heap r a b c t u v/\∀(h':Heap) tk acc,(∀b o,s.heap.get? b=some o->h'.get? b=some o)->ItemsOf (fun i v=>∃t,v=.int (a+i*c) t) acc n ->
    R (.ok (.ret (.ref h'.objs.size))) { s with heap:=h'.push { cls:=.type "tuple",data:=.seq acc },toks:=tk }) :=
 .of_wp fun prog w A R s h=>by
  obtain⟨hh,hr,h⟩:=h;have hsub:=sub_tuple_self;have hinit:=init_tuple_lookup;have hmh:=madeHere_tuple;have hT:s.TypeIs (.ref r) "range":=⟨_,hr,rfl⟩;have hh1:A.in1.handled=none:=hh
  wp_walk using wpAny_typeOf hT,iW hh1 hr hs hn hl
  intro h' tk acc hk hacc;show wpAny _ _ (Builtin.Tuple.tupleExact acc.toList.toArray >>= fun v=>ret v) _ _ _;unfold Builtin.Tuple.tupleExact;have e:acc.toList.toArray=acc:=by simp
  rw[e];refine wpAny_bind (wpAny_newObj_type (wpAny_pure ⟨_,rfl,h h' tk acc hk hacc⟩) (show acc.size≤sizeLine by rw[hacc.1,sizeLine_eq];omega))
section
variable {prog:Program}{w:World}{A:Around}{E:Value->Shared->Prop}{s:Shared}
end
end TR
namespace L2
variable {X:Cx}{a:Expr}{ta:TE}{p p2 pos pos2:Pos}
end L2
namespace U
open L2
variable {B:Bs}{X:Cx}{a:Expr}{ta:TE'}{p p2 pos pos2:Pos}
def Ao(x:PV)(H:PHp)(Q:VK'):Prop:=match x with
 | .int i=>0≤i/\i<1000/\Q (.tup (cH 0 i.toNat)) H
 | _=>False
theorem Cq{i:Int}{H:PHp}{Q:VK'}:Ao (.int i) H Q=(0≤i/\i<1000/\Q (.tup (cH 0 i.toNat)) H):=rfl
def z0(ta:TE'):TE':=fun σ H Q=>ta σ H fun x H1=>Ao x H1 Q
end U
namespace RT
theorem kf:Manifest.owners.lookup (String.ofList ['d','e','s','r','e','v','e','r'].reverse)=some Manifest.sig_reversed:=by kernel_rfl
theorem iG:Slot "reversed" "__next__" "reversed.__next__" :=
 .of (owner:="reversed") (n:="__next__") (by rw[typeLookup_type,builtinLookup_eq_fast];kernel_rfl) (by decide +kernel) (by decide +kernel) (by decide +kernel) (by first | exact .inl (by decide +kernel) | exact .inr (by decide +kernel)) (by rw[isSubtype_type];kernel_rfl)
theorem oB:entryFor table "reversed.__next__"=some Builtin.«reversed.__next__»:=entryFor_of_tree (by kernel_rfl)
theorem qT(a:Value):argsOk "reversed.__next__" ⟨[a],[]⟩:=by
 unfold argsOk;rw[signature?_of (id:="reversed.__next__") (n:=['_','_','t','x','e','n','_','_']) (o:=['d','e','s','r','e','v','e','r']) (by kernel_rfl) kf]
 kernel_rfl
theorem tR:Slot "reversed" "__iter__" "reversed.__iter__" :=
 .of (owner:="reversed") (n:="__iter__") (by rw[typeLookup_type,builtinLookup_eq_fast];kernel_rfl) (by decide +kernel) (by decide +kernel) (by decide +kernel) (by first | exact .inl (by decide +kernel) | exact .inr (by decide +kernel)) (by rw[isSubtype_type];kernel_rfl)
theorem yk(a:Value):argsOk "reversed.__iter__" ⟨[a],[]⟩:=by
 unfold argsOk;rw[signature?_of (id:="reversed.__iter__") (n:=['_','_','r','e','t','i','_','_']) (o:=['d','e','s','r','e','v','e','r']) (by kernel_rfl) kf]
 kernel_rfl
theorem mJ:Slot "reversed" "__length_hint__" "reversed.__length_hint__" :=
 .of (owner:="reversed") (n:="__length_hint__") (by rw[typeLookup_type,builtinLookup_eq_fast];kernel_rfl) (by decide +kernel) (by decide +kernel) (by decide +kernel) (by first | exact .inl (by decide +kernel) | exact .inr (by decide +kernel)) (by rw[isSubtype_type];kernel_rfl)
theorem u5:entryFor table "reversed.__length_hint__"=some Builtin.«reversed.__length_hint__»:=entryFor_of_tree (by kernel_rfl)
theorem y8(a:Value):argsOk "reversed.__length_hint__" ⟨[a],[]⟩:=by
 unfold argsOk;rw[signature?_of (id:="reversed.__length_hint__") (n:=['_','_','t','n','i','h','_','h','t','g','n','e','l','_','_']) (o:=['d','e','s','r','e','v','e','r']) (by kernel_rfl) kf]
 kernel_rfl
theorem xX:typeLookup (.type "reversed") "__len__"=pure none:=by rw[typeLookup_type,builtinLookup_eq_fast];kernel_rfl
theorem yR:typeLookup (.type "tuple") "__reversed__"=pure none:=by rw[typeLookup_type,builtinLookup_eq_fast];kernel_rfl
theorem vw:entryFor table "reversed.__iter__"=some Builtin.«dict_keyiterator.__iter__» :=
 entryFor_alias (id':="dict_keyiterator.__iter__") (by kernel_rfl) (by first | rfl | decide +kernel |(unfold String.splitOn;simp +decide [String.splitOnAux])) (by decide +kernel) (by kernel_rfl)
theorem px:Slot "reversed" "__init__" "object.__init__" :=
 .of (owner:="object") (n:="__init__") (by rw[typeLookup_type,builtinLookup_eq_fast];kernel_rfl) (by decide +kernel) (by decide +kernel) (by decide +kernel) (by first | exact .inl (by decide +kernel) | exact .inr (by decide +kernel)) (by rw[isSubtype_type];kernel_rfl)
theorem called:TypeCalled "reversed" "reversed.__new__" "object.__init__" :=
 ⟨by decide +kernel,by decide +kernel,⟨_,_,F.mro_reversed⟩,F.made_reversed,by decide +kernel,by rw[isSubtype_type];kernel_rfl,px⟩
def rv(t:Addr)(i:Int):Obj:={ cls:=.type "reversed",data:=.fields #[.ref t,rawInt i] }
theorem tV:isSubtype (.type "tuple") (.type "dict")=pure false:=by rw[isSubtype_type];kernel_rfl
theorem i3(t:Addr)(its:Array Value):Meets (Builtin.«reversed.__new__» ⟨[.type "reversed",.ref t],[]⟩) (fun A R s=>IsTup s.heap t its/\(its.size:Int)<2 ^ 63/\R (.ok (.ret (.ref s.heap.objs.size))) { s with heap:=s.heap.push (rv t ((its.size:Int) - 1)),toks:=s.toks+1+1 }) :=
 .of_wp fun prog w A R s h=>by
  obtain⟨ht,hz,h⟩:=h;unfold Builtin.«reversed.__new__»;refine wpAny_bind (wpAny_of_eq (newClass_reversed _) ?_)
  try dsimp only
  refine wpAny_bind (wpAny_of_eq (a:=()) (by first | rfl | kernel_rfl) ?_);refine wpAny_bind (wpAny_of_eq (a:=()) (by first | rfl | kernel_rfl) ?_)
  try dsimp only
  refine wpAny_bind (wpAny_specialOf ht.typeIs yR ?_)
  try dsimp only
  refine wpAny_bind ?_
  wp_delta
  refine wpAny_bind (wpAny_isInstance (T:="tuple") (b:=false) ht.typeIs tV ?_);rw[if_neg (by decide)];refine wpAny_bind (wpAny_specialOf ht.typeIs slot_tuple_getitem.lookup ?_);dsimp only;rw[if_pos (by decide +kernel)];refine wpAny_pure ?_;rw[if_neg (by decide)];refine wpAny_bind (len_tuple ht hz ?_);refine wpAny_bind (m:=asInt? _) (wpAny_pure ?_);dsimp only;refine wpAny_bind ?_;unfold Builtin.SmallTypes.newRecord;exact wpAny_newObj_type (wpAny_pure ⟨_,rfl,h⟩)
def dI(h:Heap)(a t:Addr)(i:Int):Prop:=∃o,h.get? a=some o/\o.cls=.type "reversed"/\o.data=.fields #[.ref t,rawInt i]
theorem dI.at{h h':Heap}{a t:Addr}{i:Int}(x:dI h a t i)(e:∀o,h.get? a=some o->h'.get? a=some o):dI h' a t i:=let ⟨o,ho,r⟩:=x;⟨o,e _ ho,r⟩
section
variable {prog:Program}{w:World}{A:Around}{E:Value->Shared->Prop}{s:Shared}{it t:Addr}{its:Array Value}
theorem dI.ty{i:Int}(x:dI s.heap it t i):s.TypeIs (.ref it) "reversed":=let ⟨o,ho,hc,_⟩:=x;⟨o,ho,hc⟩
theorem sm{Q:Value->Shared->Prop}(ht:IsTup s.heap t its)(hz:(its.size:Int)<2 ^ 63)(h:Q (.ref s.heap.objs.size) { s with heap:=s.heap.push (rv t ((its.size:Int) - 1)),toks:=s.toks+1+1 }) :
  wpAny (model prog w) A (call (.type "reversed") [.ref t]) Q E s :=
 callType_new called (by decide) (F.typeCall_reversed_1 _) (F.newCall_reversed_1 _) (fun obj=>F.args_object_init_2 obj _) F.entry_reversed_new (i3 t its) ⟨ht,hz,⟨⟨_,Heap.get?_push_size _ rfl,rfl⟩,h⟩⟩
theorem xl{i n:Nat}(h:i<n):seqIndex? ((i:Nat):Int) n=some i:=by
 unfold seqIndex?;simp only[show ¬(((i:Nat):Int)<0) by omega,if_false];rw[if_pos (by simp;omega),Int.toNat_natCast]
theorem next_item{i:Nat}{x:Value}{Q:Option Value->Shared->Prop}(hit:dI s.heap it t ((i:Nat):Int))(ht:IsTup s.heap t its)(hx:its[i]?=some x)(hz:its.size<2 ^ 62)
  (hQ:∀h' tk,dI h' it t (((i:Nat):Int) - 1)->Heap.SameBut it s.heap h'->Q (some x) { s with heap:=h',toks:=tk }):wpAny (model prog w) A (pyNext (.ref it)) Q E s:=by
 obtain⟨o,ho,hc,hd⟩:=id hit;have hi:i<its.size:=by
  rcases Nat.lt_or_ge i its.size with q | q
  ·exact q
  ·rw[Array.getElem?_eq_none q]at hx;cases hx
 unfold pyNext;refine wpAny_bind (wpAny_attempt (wpAny_callSpecial?_slot (name:=Str.ofString "__next__") hit.ty iG (wpAny_call_entry iG hit.ty oB ?_ (qT _))));unfold Builtin.«reversed.__next__»;refine wpAny_bind (wpAny_of_eq (a:=(Value.ref it,[])) rfl ?_);dsimp only;refine wpAny_bind (wpAny_field ho hd (x:=.ref t) rfl ?_);refine wpAny_bind (wpAny_field ho hd (x:=rawInt ((i:Nat):Int)) rfl ?_);show wpAny _ _ (if ((i:Nat):Int)<0 then _ else _) _ _ s;rw[if_neg (by omega)];refine wpAny_bind (wpAny_specialOf ht.typeIs slot_tuple_getitem.lookup ?_);rw[if_neg (by decide)];refine wpAny_bind (wpAny_mkInt ?_);refine wpAny_bind (wpAny_attempt (getItem_tuple (j:=i) (x:=x) (s:={ s with toks:=s.toks+1 }) ht (by omega) (by omega) (xl hi) hx ?_));dsimp only;refine wpAny_bind (wpAny_field ho hd (x:=rawInt ((i:Nat):Int)) rfl ?_);refine wpAny_bind (wpAny_setField (s:={ s with toks:=s.toks+1 }) ho hd (by simp) ?_);refine wpAny_pure ⟨x,rfl,wpAny_pure (hQ _ _ ?_ (Heap.SameBut.update ..))⟩;refine⟨_,Heap.get?_update_self _ ho (Obj.isFreed_of_fields (Obj.data_mapFields hd _)),(Obj.cls_mapFields ..).trans hc,?_⟩;rw[Obj.data_mapFields hd];simp
theorem next_end{Q:Option Value->Shared->Prop}(hA:A.handled=none)(hit:dI s.heap it t (-1))(hQ:∀h',Heap.ExtBut it s.heap h'->Q none { s with heap:=h' }):wpAny (model prog w) A (pyNext (.ref it)) Q E s:=by
 obtain⟨o,ho,hc,hd⟩:=id hit;unfold pyNext;refine wpAny_bind (wpAny_attempt (wpAny_callSpecial?_slot (name:=Str.ofString "__next__") hit.ty iG (wpAny_call_entry iG hit.ty oB ?_ (qT _))));unfold Builtin.«reversed.__next__»;refine wpAny_bind (wpAny_of_eq (a:=(Value.ref it,[])) rfl ?_);dsimp only;refine wpAny_bind (wpAny_field ho hd (x:=.ref t) rfl ?_);refine wpAny_bind (wpAny_field ho hd (x:=rawInt (-1)) rfl ?_);show wpAny _ _ (if (-1:Int)<0 then _ else _) _ _ s;rw[if_pos (by decide)];refine wpAny_bind (wpAny_rule ?_);refine wpAny_bind ?_
 wp_delta
 refine wpAny_bind (wpAny_setField ho hd (by simp) ?_);have d2:=Obj.data_mapFields hd fun vs=>vs.set! 1 (rawInt (-1));have o2:=Heap.get?_update_self _ ho (Obj.isFreed_of_fields d2);refine wpAny_setField (s:={ s with heap:=s.heap.update it _ }) o2 d2 (by simp) ?_;show wpAny _ _ (Builtin.SmallTypes.stopIteration >>= _) _ _ _;refine wpAny_bind ?_;show wpAny _ _ (newExc (Value.type "StopIteration") [] >>= _) _ _ _;refine wpAny_bind (?_);simp only[newTuple,newExc];refine wpAny_bind (wpAny_newObj_type (?_) (by size_fits));refine wpAny_bind (m:=firstArgMember _ _) (wpAny_of_eq (a:=Value.none) (by first | rfl |(simp only[firstArgMember];rfl)) (?_));refine wpAny_newObj_type (?_) (by size_fits);simp only[raiseNew,bind_assoc];refine wpAny_bind (wpAny_handled (?_))
 first | rw[show A.in1.handled=none from hA] | rw[hA]
 refine wpAny_bind (wpAny_pure (wpAny_throw (?_)));refine wpAny_bind (wpAny_isInstance (T:="StopIteration") (b:=true) ⟨_,Heap.get?_push_size _ rfl,rfl⟩ isSubtype_stop ?_);exact wpAny_pure (hQ _ ((((Heap.SameBut.update ..).trans (Heap.SameBut.update ..)).extBut.push _).push _))
theorem i8{i:Int}{Q:Value->Shared->Prop}(hit:dI s.heap it t i)(h:Q (.ref it) s):wpAny (model prog w) A (pyIter (.ref it)) Q E s:=by
 refine wpAny_pyIter_slot hit.ty tR (wpAny_call_entry tR hit.ty vw ?_ (yk _));show wpAny _ _ (ret (Value.ref it)) _ _ s;exact wpAny_pure ⟨_,rfl,"reversed",_,hit.ty,iG.lookup,h⟩
theorem oX{Q:Value->Shared->Prop}(hit:dI s.heap it t ((its.size:Int) - 1))(ht:IsTup s.heap t its)(hz:its.size<2 ^ 62)(h:∀u tk,s.toks≤tk->Q (.int (its.size:Int) u) { s with toks:=tk }):wpAny (model prog w) A (call (.builtin "reversed.__length_hint__") [.ref it]) Q E s:=by
 obtain⟨o,ho,hc,hd⟩:=id hit;refine wpAny_call_entry mJ hit.ty u5 ?_ (y8 _);unfold Builtin.«reversed.__length_hint__»;refine wpAny_bind (wpAny_of_eq (a:=Value.ref it) rfl ?_);refine wpAny_bind (wpAny_field ho hd (x:=.ref t) rfl ?_);show wpAny _ _ (if (Value.ref t==Value.none)=true then _ else _) _ _ s;rw[if_neg (show ¬(Value.ref t==Value.none)=true from Bool.false_ne_true)];refine wpAny_bind (len_tuple ht (by omega) ?_);refine wpAny_bind (m:=asInt? _) (wpAny_pure ?_);dsimp only;refine wpAny_bind (wpAny_field (s:={ s with toks:=s.toks+1+1 }) ho hd (x:=rawInt ((its.size:Int) - 1)) rfl ?_);show wpAny _ _ (if ((its.size:Nat):Int)<((its.size:Int) - 1)+1 then _ else _) _ _ _;rw[if_neg (by omega),show((its.size:Int) - 1)+1=(its.size:Int) by omega];exact wpAny_bind (wpAny_mkInt (wpAny_pure ⟨_,rfl,h _ _ (by show s.toks≤s.toks+1+1+1;omega)⟩))
end
theorem walks{prog:Program}{w:World}{A:Around}(hA:A.handled=none)(it t:Addr)(ne:t≠it)(its:Array Value)(hz:its.size<2 ^ 62) :
  Walks prog w A it [it,t] [it] its.size (fun i v=>its[its.size - 1 - i]?=some v) (fun i h=>i≤its.size/\dI h it t ((its.size:Int) - 1 - (i:Int))/\h.IsTuple t its) where
 sub:=fun b hb=>by simp at hb;simp[hb]
 frame:=fun _ _ _ x hk=>⟨x.1,x.2.1.at fun o e=>hk it (by simp) o e,x.2.2.at fun o e=>hk t (by simp) o e⟩
 item:=fun i s Q E hi x hQ=>by
  have e:(its.size:Int) - 1 - (i:Int)=((its.size - 1 - i:Nat):Int):=by omega
  have hit:=x.2.1;rw[e]at hit;have hx:its[its.size - 1 - i]?=some (its[its.size - 1 - i]'(by omega)):=Array.getElem?_eq_getElem (by omega);refine next_item hit x.2.2 hx hz fun h1 tk hit1 sb=>?_;have e2:((its.size - 1 - i:Nat):Int) - 1=(its.size:Int) - 1 - ((i+1:Nat):Int):=by omega
  rw[e2]at hit1;exact hQ _ h1 tk hx ⟨hi,hit1,x.2.2.at fun o q=>(sb.2 t ne).trans q⟩ fun b o hb q=>sb.extBut b o (fun z=>hb (by simp[z])) q
 done:=fun s Q E x hQ=>by
  have hit:=x.2.1;rw[show(its.size:Int) - 1 - (its.size:Int)=-1 by omega]at hit;exact next_end hA hit fun h1 eb=>hQ h1 s.toks fun b o hb q=>eb b o (fun z=>hb (by simp[z])) q
 self:=fun _ _ _ _ x hQ=>i8 x.2.1 hQ
section
variable {prog:Program}{w:World}{A:Around}{E:Value->Shared->Prop}{s:Shared}{it t:Addr}{its:Array Value}
theorem as_int(n:Int)(u:Tok):asInt? (.int n u)=pure (some n):=rfl
theorem zh{Q:Bool->Shared->Prop}(hit:dI s.heap it t ((its.size:Int) - 1))(ht:IsTup s.heap t its)(hz:its.size<2 ^ 20)(h:∀tk,s.toks≤tk->Q ((its.size:Int) !=0) { s with toks:=tk }):wpAny (model prog w) A (Builtin.List.listLengthHint (.ref it)) Q E s:=by
 unfold Builtin.List.listLengthHint;refine wpAny_bind (wpAny_specialOf hit.ty xX ?_);dsimp only;refine wpAny_ite_split (fun hab=>absurd hab (by decide +kernel)) (fun _=>?_);refine wpAny_ite_split (fun hab=>absurd hab (by decide +kernel)) (fun _=>?_);refine wpAny_bind (wpAny_specialOf hit.ty mJ.lookup ?_);generalize hid:("reversed.__length_hint__":String)=id0
 wp_delta
 rw[show splitId id0=some ("reversed","__length_hint__")from by subst hid;decide +kernel];subst hid;refine wpAny_bind (wpAny_isInstance (T:="reversed") (b:=true) hit.ty F.sub_reversed_self ?_);refine wpAny_ite_split (fun hab=>absurd hab (by decide)) (fun _=>?_);refine wpAny_ite_split (fun hab=>absurd hab (by decide +kernel)) (fun _=>?_);refine wpAny_bind (wpAny_rule ?_);refine wpAny_bind (wpAny_of_eq (mJ.bind _) ?_);dsimp only;refine wpAny_bind (wpAny_attempt (oX hit ht (by omega) fun u tk htk=>?_));have f1:Builtin.List.listFitsIndex ((its.size:Nat):Int)=true:=by
  have a:-(2 ^ 63:Int)≤((its.size:Nat):Int):=Int.le_trans (by decide) (Int.natCast_nonneg _);have b:((its.size:Nat):Int)<2 ^ 63:=Int.lt_trans (Int.ofNat_lt.mpr hz) (by decide);unfold Builtin.List.listFitsIndex;rw[decide_eq_true a,decide_eq_true b];rfl
 have f2:Builtin.List.listTooLong ((its.size:Nat):Int).toNat=false:=by
  have hs:its.size≤sizeLine:=by rw[sizeLine_eq];omega
  unfold Builtin.List.listTooLong;rw[Int.toNat_natCast];exact decide_eq_false (Nat.not_lt.mpr hs)
 have f3:¬((its.size:Nat):Int)<0:=Int.not_lt.mpr (Int.natCast_nonneg _);have hq:=h tk htk;clear h;generalize ((its.size:Nat):Int)=n at *;show wpAny _ A (asInt? (.int n u) >>= _) _ _ _;rw[as_int,pure_bind];dsimp only;rw[if_neg (by rw[f1];decide),if_neg f3,if_neg (by rw[f2];decide)];exact wpAny_pure hq
theorem kI{Q:List Value->Shared->Prop}(hA:A.handled=none)(hit:dI s.heap it t ((its.size:Int) - 1))(ht:s.heap.IsTuple t its)(ne:t≠it)(hz:its.size<2 ^ 20)
  (hQ:∀(h1:Heap) tk acc,(∀b o,b≠it->s.heap.get? b=some o->h1.get? b=some o)->ItemsOf (fun i v=>its[its.size - 1 - i]?=some v) acc its.size->Q acc.toList { s with heap:=h1,toks:=tk }):wpAny (model prog w) A (collect (.ref it)) Q E s:=by
 have W:=walks (prog:=prog) (w:=w) (A:=A.in1) hA it t ne its (by omega);obtain⟨o,ho,_⟩:=id hit;obtain⟨ot,hot,_⟩:=id ht;have l1:it<s.heap.objs.size:=Heap.lt_size ho;have l2:t<s.heap.objs.size:=Heap.lt_size hot;have hSf:s.heap.objs.size∉[it,t]:=by simp only[List.mem_cons,List.not_mem_nil,or_false,not_or];exact⟨Nat.ne_of_gt l1,Nat.ne_of_gt l2⟩
 have hSI:s.heap.objs.size≠it:=Nat.ne_of_gt l1;unfold collect;refine wpAny_bind (wpAny_runValue (codeAny_builtin F.entry_proto_collect ?_));rw[Around.under_plainId F.plain_proto_collect _];show wpAny _ A.in1 (newList [] >>= fun l=>again (.builtin "list.__iadd__" ⟨[l,Value.ref it],[]⟩)) _ _ s;refine wpAny_bind (wpAny_newObj_type (wpAny_pure ⟨plainId_quiet F.plain_list_iadd _,codeAny_builtin F.entry_list_iadd ?_⟩));rw[Around.under_plainId F.plain_list_iadd _];have S1:(s.heap.push { cls:=.type "list",data:=.seq ([]:List Value).toArray }).get? s.heap.objs.size=some { cls:=.type "list",data:=.seq ([]:List Value).toArray }:=Heap.get?_push_size _ rfl;have it1:dI (s.heap.push { cls:=.type "list",data:=.seq ([]:List Value).toArray }) it t ((its.size:Int) - 1):=hit.at fun o e=>Heap.get?_push_of_some _ e;have t1:(s.heap.push { cls:=.type "list",data:=.seq ([]:List Value).toArray }).IsTuple t its:=ht.at fun o e=>Heap.get?_push_of_some _ e;have k1:∀b o,s.heap.get? b=some o->(s.heap.push { cls:=.type "list",data:=.seq ([]:List Value).toArray }).get? b=some o:=fun b o e=>Heap.get?_push_of_some _ e;generalize s.heap.push { cls:=.type "list",data:=.seq ([]:List Value).toArray }=g at *;show wpAny _ A.in1 (Builtin.List.listExtendWith (Value.ref s.heap.objs.size) (.ref it) (.ref s.heap.objs.size)) _ _ _;have h1:Builtin.List.listSameRef (.ref s.heap.objs.size) (.ref it)=false:=by simp[Builtin.List.listSameRef,hSI]
 have key:∀(h:Heap) (c₁ tk:Nat),(∀b o,b≠s.heap.objs.size->g.get? b=some o->h.get? b=some o)->h.get? s.heap.objs.size=some { cls:=.type "list",data:=.seq #[] c₁ } ->
   codeAny (model prog w) A (.builtin "list.extend.loop" ⟨[.ref s.heap.objs.size,.ref it,.ref s.heap.objs.size],[]⟩) (fun r s'=>match r with | .ok (.ret v)=>wpAny (model prog w) A (match v with | .ref a=>(do match (← load a).data with | .seq xs _=>pure xs.toList | _=>unsupported "internal:collect") | _=>unsupported "internal:collect") Q E s' | .ok _=>False | .error e=>E e s') { s with heap:=h,toks:=tk }:=by
  intro h c₁ tk hk hS₁;have st:(0:Nat)≤its.size/\dI h it t ((its.size:Int) - 1 - ((0:Nat):Int))/\h.IsTuple t its:=⟨Nat.zero_le _,by simpa using it1.at fun o e=>hk it o hSI.symm e,t1.at fun o e=>hk t o (Nat.ne_of_lt l2) e⟩;refine codeAny_extend_loopS W.toS (by rw[sizeLine_eq];omega) _ hSf _ its.size 0 { s with heap:=h,toks:=tk } #[] c₁ rfl (Nat.zero_le _) st hS₁ (ItemsOf.nil _) fun s' acc' c' hm hS' hacc=>?_;rw[Moved.eq_with hm]at hS' ⊢;show wpAny _ A (load s.heap.objs.size >>= _) _ _ _;refine wpAny_bind (wpAny_load hS' (wpAny_pure (hQ s'.heap s'.toks acc' (fun b o hb e=>hm.heap b o (fun hmem=>?_) (hk b o (Nat.ne_of_lt (Heap.lt_size e)) (k1 b o e))) hacc)));rcases List.mem_cons.mp hmem with q | q
  ·exact Nat.ne_of_lt (Heap.lt_size e) q
  ·exact hb (List.mem_singleton.mp q)
 unfold Builtin.List.listExtendWith;have it2:dI ({ s with heap:=g }:Shared).heap it t ((its.size:Int) - 1):=it1;refine wpAny_bind (wpAny_typeOf (T:="reversed") it2.ty ?_);simp only[h1,show(Value.type "reversed"==Value.type "list")=false by decide,show(Value.type "reversed"==Value.type "tuple")=false by decide,Bool.or_false,Bool.false_eq_true,if_false];refine wpAny_bind (i8 it2 ?_);refine wpAny_bind (wpAny_holding (zh it2 t1 hz fun tk htk=>?_));refine wpAny_ite_split (fun _=>?_) (fun _=>wpAny_pure ⟨plainId_quiet PySem.F.plain_extend_loop _,key g 0 tk (fun b o _ e=>e) S1⟩);refine wpAny_bind (wpAny_rule ?_);refine wpAny_bind ?_;show wpAny _ A.in1 (updateSeq s.heap.objs.size (·.push .none) >>= fun _=>updateSeq s.heap.objs.size (·.pop)) _ _ _;refine wpAny_bind (wpAny_updateSeq S1 rfl ?_);have S2:=Heap.get?_update_self (Obj.mapSeq (·.push Value.none)) S1 rfl;refine wpAny_updateSeq S2 rfl ?_;have S3:=Heap.get?_update_self (Obj.mapSeq (·.pop)) S2 rfl;refine wpAny_pure ⟨plainId_quiet PySem.F.plain_extend_loop _,key _ _ tk (fun b o hb e=>(Heap.get?_update_other _ _ (Ne.symm hb)).trans ((Heap.get?_update_other _ _ (Ne.symm hb)).trans e)) S3⟩
end
end RT
namespace RT
theorem rR{r t:Addr}{its:Array Value}(ne:t≠r)(hz:its.size<2 ^ 20) :
  Meets (Builtin.«tuple.__new__» ⟨[.type "tuple",.ref r],[]⟩)
   (fun A R s=>A.handled=none/\dI s.heap r t ((its.size:Int) - 1)/\s.heap.IsTuple t its/\∀(h1:Heap) tk acc,(∀b o,b≠r->s.heap.get? b=some o->h1.get? b=some o)->ItemsOf (fun i v=>its[its.size - 1 - i]?=some v) acc its.size ->
    R (.ok (.ret (.ref h1.objs.size))) { s with heap:=h1.push { cls:=.type "tuple",data:=.seq acc },toks:=tk }) :=
 .of_wp fun prog w A R s h=>by
  obtain⟨hA,hr,ht,h⟩:=h;have hsub:=sub_tuple_self;have hinit:=init_tuple_lookup;have hmh:=madeHere_tuple;have hT:s.TypeIs (.ref r) "reversed":=hr.ty;have hA1:A.in1.handled=none:=hA
  wp_walk using wpAny_typeOf hT,kI hA1 hr ht ne hz
  intro h1 tk acc hk hacc;show wpAny _ _ (Builtin.Tuple.tupleExact acc.toList.toArray >>= fun v=>ret v) _ _ _;unfold Builtin.Tuple.tupleExact;rw[show acc.toList.toArray=acc by simp];refine wpAny_bind (wpAny_newObj_type (wpAny_pure ⟨_,rfl,h h1 tk acc hk hacc⟩) (show acc.size≤sizeLine by rw[hacc.1,sizeLine_eq];omega))
theorem h8{prog:Program}{w:World}{A:Around}{E:Value->Shared->Prop}{s:Shared}{Q:Value->Shared->Prop}{r t:Addr}{its:Array Value}(ne:t≠r)(hz:its.size<2 ^ 20)(hA:A.handled=none)(hr:dI s.heap r t ((its.size:Int) - 1))(ht:s.heap.IsTuple t its)
  (q:∀(h1:Heap) tk acc,(∀b o,b≠r->s.heap.get? b=some o->h1.get? b=some o)->ItemsOf (fun i v=>its[its.size - 1 - i]?=some v) acc its.size->Q (.ref h1.objs.size) { s with heap:=h1.push { cls:=.type "tuple",data:=.seq acc },toks:=tk }) :
  wpAny (model prog w) A (call (.type "tuple") [.ref r]) Q E s :=
 callType_new F.called_tuple (by decide) (F.typeCall_tuple_1 _) (F.newCall_tuple_1 _) (fun obj=>F.args_object_init_2 obj _) F.entry_tuple_new
  (rR (t:=t) (its:=its) ne hz) ⟨hA,hr,ht,fun h1 tk acc hk hacc=>⟨⟨_,Heap.get?_push_size _ rfl,rfl⟩,q h1 tk acc hk hacc⟩⟩
end RT
namespace L2
variable {X:Cx}{a:Expr}{ta:TE}{p p2 pos pos2:Pos}
theorem jZ{α β:Type}{R:α->β->Prop}:∀{l l2:List α} {m m2:List β},Paired R l m->Paired R l2 m2->Paired R (l++l2) (m++m2)
 | [],_,[],_,.nil,h=>h
 | _::_,_,_::_,_,.cons a t,h=>.cons a (jZ t h)
theorem lz:∀{us:List V} {its:List Value},Vals us its->Vals us.reverse its.reverse
 | [],[],.nil=>.nil
 | x::us,v::its,.cons h t=>by
  rw[List.reverse_cons,List.reverse_cons];exact jZ (lz t) (.cons h .nil)
theorem pW{its:List Value}{acc:Array Value}(h:ItemsOf (fun i v=>its.toArray[its.toArray.size - 1 - i]?=some v) acc its.toArray.size):acc.toList=its.reverse:=by
 have h2:=h.2;have h1:acc.size=its.length:=by have:=h.1;simpa using this
 apply List.ext_getElem?;intro j;rw[Array.getElem?_toList];by_cases hj:j<acc.size
 ·have e:=h2 j _ (Array.getElem?_eq_getElem hj);rw[Array.getElem?_eq_getElem hj,List.getElem?_reverse (by omega),← e,List.size_toArray];simp
 ·rw[Array.getElem?_eq_none (by omega),List.getElem?_eq_none (by rw[List.length_reverse];omega)]
def CQ(K:PySem.W.Frag)(ta:TE):TE:=fun σ H Q=>ta σ H fun x H1=>∃b us,[x]=[V.ref b]/\SqT K H1 b us/\us.length≤1000/\∀r,H1 r=none->Q (.ref r) (upd H1 r (.tup us.reverse))
theorem y9(hc:X.calm=true)(hg:Gl X "tuple")(hm:X.mg "tuple"=none)(hg2:Gl X "reversed")(hm2:X.mg "reversed"=none)(b1:bootBuiltins "tuple"=some (.type "tuple"))(b2:bootBuiltins "reversed"=some (.type "reversed"))(ha:PE X a ta)
  (he:starEach [.Call (.Name "reversed" p2) [a] [] pos2] X.env=[(false,eval (.Call (.Name "reversed" p2) [a] [] pos2) X.env)]:=by rfl) (he2:starEach [a] X.env=[(false,eval a X.env)]:=by rfl) (hpl:(backTo pos (starEach [] X.env)).any (·.1)=false:=by rfl) (hpl2:(backTo pos2 (starEach [] X.env)).any (·.1)=false:=by rfl) :
  PE X (.Call (.Name "tuple" p) [.Call (.Name "reversed" p2) [a] [] pos2] [] pos) (CQ X.K ta):=by
 intro pins s σ H Q I h;refine wpAny_Call_Name_kw (cR I hg hm b1 ?_ (by decide) (by decide));refine PyProof.Rows.callWith_type1 ?_ he hpl;rw[he];show wpAny _ _ (spliced ((false,eval (.Call (.Name "reversed" p2) [a] [] pos2) X.env)::[])) _ _ s;refine Calls.spliced_cons ?_;refine wpAny_Call_Name_kw (cR I hg2 hm2 b2 ?_ (by decide) (by decide));refine PyProof.Rows.callWith_type1 ?_ he2 hpl2;refine thn (bD ha b9 he2 pos2 pins s σ H (fun xs H1=>∃b us,xs=[.ref b]/\SqT X.K H1 b us/\us.length≤1000/\∀r,H1 r=none->Q (.ref r) (upd H1 r (.tup us.reverse))) I ?_) fun us s1 ⟨vs,H1,I1,r1,q1⟩=>?_
 ·exact h
 obtain⟨b,ws,rfl,hq,hl,q⟩:=q1;obtain⟨u,rfl,ru⟩:=vals1 r1;cases ru;obtain⟨its,rv,pl,hz⟩:=I1.tuple hq;have ht:s1.heap.IsTuple b its.toArray:=pl;have hb:b<s1.heap.objs.size:=by obtain⟨o,e,_⟩:=ht;exact Heap.lt_size e
 have hlen:=rv.length;have hs:its.toArray.size=ws.length:=by simp;omega
 refine RT.sm pl (by rw[hs];omega) ?_;refine Calls.spliced_nil ?_;have lt:s1.heap.objs.size<(s1.heap.push (RT.rv b ((its.toArray.size:Int) - 1))).objs.size:=by rw[Heap.size_push];exact Nat.lt_succ_self _
 refine RT.h8 (s:={ s1 with heap:=s1.heap.push (RT.rv b ((its.toArray.size:Int) - 1)),toks:=s1.toks+1+1 }) (r:=s1.heap.objs.size) (t:=b) (its:=its.toArray) (Nat.ne_of_lt hb) (by rw[hs];omega) (I.ok.hd hc) ⟨_,Heap.get?_push_size _ rfl,rfl,rfl⟩ (ht.at fun o e=>Heap.get?_push_of_some _ e) fun h1 tk acc kp hacc=>?_;have k2:∀b o,s1.heap.get? b=some o->h1.get? b=some o:=fun b o e=>kp b o (Nat.ne_of_lt (Heap.lt_size e)) (Heap.get?_push_of_some _ e);have I2:Inv X pins σ H1 { s1 with heap:=h1,toks:=tk }:=I1.kept (t':=tk) k2;refine⟨.ref _,_,I2.laid (t':=tk) (o:=.tup ws.reverse) (fun b o e=>Heap.get?_push_of_some _ e) (Nat.le_refl _) ?_,rfl,q _ (I2.hok.fresh (Nat.le_refl _))⟩;refine⟨by rw[List.length_reverse];exact hz,its.reverse,lz rv,?_⟩;have e:its.reverse.toArray=acc:=by rw[←pW hacc]
 rw[e];exact IsTup.new _ _
end L2
namespace U
open L2
variable {B:Bs}{X:Cx}{a:Expr}{ta:TE'}{p p2 pos pos2:Pos}
def rvT(x:PV)(H:PHp)(Q:VK'):Prop:=match x with
 | .tup l=>l.length≤1000/\Q (.tup l.reverse) H
 | _=>False
theorem EA{l:List PV}{H:PHp}{Q:VK'}:rvT (.tup l) H Q=(l.length≤1000/\Q (.tup l.reverse) H):=rfl
def Au(ta:TE'):TE':=fun σ H Q=>ta σ H fun x H1=>rvT x H1 Q
theorem nN{K:PySem.W.Frag}{H:Hp}:∀{l:List PV} {us:List V},RPs K H l us->RPs K H l.reverse us.reverse
 | [],_,h=>by simp only[RPs]at h;subst h;simp[RPs]
 | x::l,_,h=>by
  simp only[RPs]at h;obtain⟨u,r,rfl,a,b⟩:=h;rw[List.reverse_cons,List.reverse_cons];exact RPs.append K (nN b) (RPs.cons K a (RPs.nil K))
theorem sV:bootBuiltins "reversed"=some (.type "reversed"):=by decide +kernel
theorem xo(hc:X.calm=true)(hg:Gl X "tuple")(hm:X.mg "tuple"=none)(hg2:Gl X "reversed")(hm2:X.mg "reversed"=none)(b1:bootBuiltins "tuple"=some (.type "tuple"))(ha:PE' X B a ta)
  (he:starEach [.Call (.Name "reversed" p2) [a] [] pos2] X.env=[(false,eval (.Call (.Name "reversed" p2) [a] [] pos2) X.env)]:=by rfl) (he2:starEach [a] X.env=[(false,eval a X.env)]:=by rfl) (hpl:(backTo pos (starEach [] X.env)).any (·.1)=false:=by rfl) (hpl2:(backTo pos2 (starEach [] X.env)).any (·.1)=false:=by rfl) :
  PE' X B (.Call (.Name "tuple" p) [.Call (.Name "reversed" p2) [a] [] pos2] [] pos) (Au ta) :=
 aT (y9 hc hg hm hg2 hm2 b1 sV ha he he2 hpl hpl2) fun σ H Q h=>by
  obtain⟨σ',H',Q',s,h,k⟩:=h;refine⟨σ',H',_,s,h,fun x' H1' x H1 h1 rx s1 e1=>?_⟩;cases x' with
  | tup l =>
   obtain⟨h0,q⟩:=h1;simp only[RP]at rx;obtain⟨b,us,rfl,hq,r⟩:=rx;refine⟨b,us,rfl,hq,by rw[RPs.length _ r];exact h0,fun r' hr=>?_⟩;exact k _ H1' _ _ q (lR hr (nN r)) (s1.hid hr) (e1.trans (Ev.hid hr))
  | _=>exact h1.elim
end U
namespace DM
abbrev P2:=Int×Int
def pk(p:P2):Int:=6*p.1+p.2
structure Good (c:Int) (l:List P2):Prop where
 nd:l.Nodup
 lo:∀p∈l,0≤p.1/\p.1<p.2/\p.2<c
theorem jk{α:Type}(k:α->Int):∀{a b:List α},a.Pairwise (fun x y=>k x<k y)->b.Pairwise (fun x y=>k x<k y)->(∀x,x∈a↔x∈b)->a=b
 | [],[],_,_,_=>rfl
 | [],y::b,_,_,h=>by have:=(h y).mpr List.mem_cons_self;simp at this
 | x::a,[],_,_,h=>by have:=(h x).mp List.mem_cons_self;simp at this
 | x::a,y::b,ha,hb,h=>by
  obtain⟨h1,h2⟩:=List.pairwise_cons.mp ha;obtain⟨g1,g2⟩:=List.pairwise_cons.mp hb;have e:x=y:=by
   rcases List.mem_cons.mp ((h x).mp List.mem_cons_self)with e | m
   ·exact e
   ·rcases List.mem_cons.mp ((h y).mpr List.mem_cons_self)with e | m'
    ·exact e.symm
    ·have a1:=g1 x m;have a2:=h1 y m';omega
  subst e;congr 1;refine jk k h2 g2 fun z=>⟨fun m=>?_,fun m=>?_⟩
  ·rcases List.mem_cons.mp ((h z).mp (List.mem_cons_of_mem _ m))with e | m'
   ·subst e;have:=h1 z m;omega
   ·exact m'
  ·rcases List.mem_cons.mp ((h z).mpr (List.mem_cons_of_mem _ m))with e | m'
   ·subst e;have:=g1 z m;omega
   ·exact m'
theorem eE{a b l:List P2}(ha:a.Perm l)(sa:a.Pairwise (fun x y=>pk x<pk y))(hb:b.Perm l)(sb:b.Pairwise (fun x y=>pk x<pk y)):a=b :=
 jk pk sa sb fun x=>ha.mem_iff.trans hb.mem_iff.symm
theorem Good.prs{c:Int}{l:List P2}(g:Good c l)(hc:c≤6):∀p∈l,p∈SP.prs:=fun p hp=>by
 have:=g.lo p hp;exact SP.vE (u:=p.1) (v:=p.2) this.1 this.2.1 (by omega)
theorem bH{α:Type}[BEq α][LawfulBEq α]{l m:List α}(nd:l.Nodup)(h:∀x∈l,x∈m):l.length≤m.length:=by
 induction l generalizing m with
 | nil=>simp
 | cons x l ih =>
  obtain⟨h1,h2⟩:=List.nodup_cons.mp nd;have hx:=h x List.mem_cons_self;have:=ih (m:=m.erase x) h2 fun y hy=>(List.mem_erase_of_ne (by rintro rfl;exact h1 hy)).mpr (h y (List.mem_cons_of_mem _ hy));have e:=List.length_erase_of_mem hx;have:0<m.length:=List.length_pos_of_mem hx;simp only[List.length_cons];omega
theorem Good.len{c:Int}{l:List P2}(g:Good c l)(hc:c≤6):l.length≤15:=bH g.nd (g.prs hc)
end DM
namespace My
def gd(a b:Int):Int:=(Int.gcd a b:Nat)
abbrev ab(x:Int):Int:=if x<0 then -x else x
end My
namespace My
open U
def BN(n:Nat)(i:Int):Prop:=i.natAbs<2 ^ n
theorem BN.fit{n:Nat}{i:Int}(h:BN n i)(hn:n≤9000):Fit i:=by
 unfold Fit;unfold BN at h;rcases Nat.eq_zero_or_pos i.natAbs with h0 | hp
 ·rw[h0,Nat.log2_zero];omega
 ·have:=(Nat.log2_lt (Nat.ne_of_gt hp)).mpr h;omega
theorem BN.of_le{n:Nat}{i j:Int}(h:BN n i)(g:j.natAbs≤i.natAbs):BN n j:=Nat.lt_of_le_of_lt g h
end My
namespace My
abbrev P2:=Int×Int
inductive Reach (E:List P2) (S:List Int):Int→Prop where
 | base {x:Int} (h:x∈S):Reach E S x
 | step {a b:Int} (h:Reach E S a) (e:(a,b)∈E):Reach E S b
def outs(E:List P2)(a:Int):List Int:=(E.filter fun p=>decide (p.1=a)).map (·.2)
theorem fE{E:List P2}{a b:Int}:b∈outs E a↔(a,b)∈E:=by
 unfold outs;rw[List.mem_map];constructor
 ·rintro⟨⟨x,y⟩,h,rfl⟩;rw[List.mem_filter]at h;have:x=a:=of_decide_eq_true h.2;subst this;exact h.1
 ·intro h;exact⟨(a,b),List.mem_filter.mpr ⟨h,decide_eq_true rfl⟩,rfl⟩
def bS(E:List P2)(f:List Int)(n:Int):List Int:=if n∈f then f++outs E n else f
theorem pP{E:List P2}{f:List Int}{n x:Int}(h:x∈f):x∈bS E f n:=by
 unfold bS;split
 ·exact List.mem_append_left _ h
 ·exact h
theorem jx{E:List P2}:∀(L:List Int) {f:List Int} {x:Int},x∈f->x∈L.foldl (bS E) f
 | [],_,_,h=>h
 | _::L,_,_,h=>jx L (pP h)
theorem gC{E:List P2}{S:List Int}:∀(L:List Int) {f:List Int},(∀x∈f,Reach E S x)->∀x∈L.foldl (bS E) f,Reach E S x
 | [],_,h,x,hx=>h x hx
 | n::L,f,h,x,hx=>by
  refine gC L (f:=bS E f n) (fun y hy=>?_) x hx;unfold bS at hy;split at hy
  ·rename_i hn;rcases List.mem_append.mp hy with hy | hy
   ·exact h y hy
   ·exact .step (h n hn) (fE.mp hy)
  ·exact h y hy
def Fwd(E:List P2)(L:List Int):Prop:=∀a b,(a,b)∈E->∀L1 L2,L=L1++L2->b∈L1->a∈L1
theorem fN{E:List P2}:∀(L1 L2:List Int) {f:List Int},(∀a b,(a,b)∈E->a∈L1++L2)->(∀a b,(a,b)∈E->∀M1 M2,L1++L2=M1++M2->b∈M1->a∈M1)->(L1++L2).Nodup ->
  (∀a b,(a,b)∈E->a∈L1->a∈f->b∈f)->∀a b,(a,b)∈E->a∈L2.foldl (bS E) f->b∈L2.foldl (bS E) f
 | L1,[],f,hA,hF,hN,hc,a,b,e,ha=>by
  have:=hA a b e;rw[List.append_nil]at this;exact hc a b e this ha
 | L1,n::L2,f,hA,hF,hN,hc,a,b,e,ha=>by
  have eq:L1++n::L2=(L1++[n])++L2:=by simp
  refine fN (L1++[n]) L2 (f:=bS E f n) (by rw[←eq];exact hA) (by rw[←eq];exact hF) (by rw[←eq];exact hN) (fun a b e ha1 ha2=>?_) a b e ha;unfold bS at ha2 ⊢;split
  ·rename_i hn;rw[if_pos hn]at ha2;rcases List.mem_append.mp ha2 with hf | ho
   ·rcases List.mem_append.mp ha1 with h1 | h1
    ·exact List.mem_append_left _ (hc a b e h1 hf)
    ·have:a=n:=by simpa using h1
     subst this;exact List.mem_append_right _ (fE.mpr e)
   ·-- a is an out of n,so it stands behind n
    have en:=fE.mp ho;rcases List.mem_append.mp ha1 with h1 | h1
    ·have q:=hF n a en L1 (n::L2) rfl h1;rw[List.nodup_append]at hN;exact absurd rfl (hN.2.2 n q n (List.mem_cons_self))
    ·have:a=n:=by simpa using h1
     subst this;exact List.mem_append_right _ (fE.mpr e)
  ·rename_i hn;rw[if_neg hn]at ha2;rcases List.mem_append.mp ha1 with h1 | h1
   ·exact hc a b e h1 ha2
   ·have:a=n:=by simpa using h1
    subst this;exact absurd ha2 hn
theorem pS{E:List P2}{L S:List Int}(hA:∀a b,(a,b)∈E->a∈L)(hF:Fwd E L)(hN:L.Nodup)(x:Int):x∈L.foldl (bS E) S↔Reach E S x:=by
 constructor
 ·exact gC L (fun y hy=>.base hy) x
 ·intro h
  induction h with
  | base h=>exact jx L h
  | step h e ih=>exact fN [] L hA hF hN (fun a b e h=>absurd h (by simp)) _ _ e ih
def BO(f:List Int)(p:P2):List Int:=if p.1∈f/\p.2∉f then f++[p.2]else f
def AX(E:List P2)(f:List Int):List Int:=E.foldl BO f
def zB(E:List P2):Nat->List Int->List Int
 | 0,f=>f
 | n+1,f=>zB E n (AX E f)
theorem bH:∀(m:Nat) (f:List Int),f.Nodup->(∀x∈f,0≤x/\x<(m:Int))->f.length≤m
 | 0,f,_,h=>by
  cases f with
  | nil=>exact Nat.le_refl _
  | cons x f=>have:=h x List.mem_cons_self;omega
 | m+1,f,hn,h=>by
  have q:=bH m (f.erase (m:Int)) (hn.erase _) (fun x hx=>by
   have hx':=List.mem_of_mem_erase hx;have:=h x hx';have ne:x≠(m:Int):=(List.Nodup.mem_erase_iff hn).mp hx |>.1
   omega)
  by_cases hm:(m:Int)∈f
  ·rw[List.length_erase_of_mem hm]at q;omega
  ·rw[List.erase_of_not_mem hm]at q;omega
theorem h7:∀{xs ys:List Int},xs.Pairwise (·<·)->ys.Pairwise (·<·)->(∀x,x∈xs↔x∈ys)->xs=ys
 | [],[],_,_,_=>rfl
 | [],y::ys,_,_,h=>absurd ((h y).mpr List.mem_cons_self) (by simp)
 | x::xs,[],_,_,h=>absurd ((h x).mp List.mem_cons_self) (by simp)
 | x::xs,y::ys,hx,hy,h=>by
  rw[List.pairwise_cons]at hx hy;have e:x=y:=by
   have h1:=(h x).mp List.mem_cons_self;have h2:=(h y).mpr List.mem_cons_self;rcases List.mem_cons.mp h1 with h1 | h1
   ·exact h1
   ·rcases List.mem_cons.mp h2 with h2 | h2
    ·exact h2.symm
    ·have:=hx.1 y h2;have:=hy.1 x h1;omega
  subst e;rw[h7 hx.2 hy.2 fun z=>?_];constructor
  ·intro hz;rcases List.mem_cons.mp ((h z).mp (List.mem_cons_of_mem _ hz))with q | q
   ·have:=hx.1 z hz;omega
   ·exact q
  ·intro hz;rcases List.mem_cons.mp ((h z).mpr (List.mem_cons_of_mem _ hz))with q | q
   ·have:=hy.1 z hz;omega
   ·exact q
end My
namespace My
section
variable {α:Type}
def Chn(R:α->α->Prop):List α->Prop
 | a::b::l=>R a b/\Chn R (b::l)
 | _=>True
theorem bM{R:α->α->Prop}:∀{p q:List α},Chn R (p++q)↔Chn R p/\Chn R q/\∀a∈p.getLast?,∀b∈q.head?,R a b
 | [],q=>by simp[Chn]
 | [a],[]=>by simp[Chn]
 | [a],b::q=>by simp[Chn,and_comm]
 | a::b::p,q=>by
  have ih:=bM (R:=R) (p:=b::p) (q:=q);have e1:Chn R (a::b::p++q)↔R a b/\Chn R (b::p++q):=Iff.rfl;have e2:Chn R (a::b::p)↔R a b/\Chn R (b::p):=Iff.rfl;rw[e1,e2,ih,List.getLast?_cons_cons,and_assoc]
theorem cF:∀(p:List α) {s:α} {t:List α},(p++s::t).getLast?=(s::t).getLast?
 | [],_,_=>rfl
 | [a],s,t=>List.getLast?_cons_cons
 | a::b::p,s,t=>by
  show(a::b::(p++s::t)).getLast?=_;rw[List.getLast?_cons_cons];exact cF (b::p)
theorem jj{β:Type}[DecidableEq β](f:α->β):∀{l:List α},¬(l.map f).Nodup->∃p s q s' t,l=p++s::(q++s'::t)/\f s=f s'
 | [],h=>absurd List.nodup_nil h
 | a::l,h=>by
  by_cases m:f a∈l.map f
  ·obtain⟨s',hs,e⟩:=List.mem_map.mp m;obtain⟨q,t,rfl⟩:=List.append_of_mem hs;exact⟨[],a,q,s',t,rfl,e.symm⟩
  ·have:¬(l.map f).Nodup:=fun n=>h (by rw[List.map_cons,List.nodup_cons];exact⟨m,n⟩);obtain⟨p,s,q,s',t,rfl,e⟩:=jj f this;exact⟨a::p,s,q,s',t,rfl,e⟩
theorem cW{β:Type}{f:α->List β}{n:Nat}:∀{l:List α},(∀x∈l,(f x).length≤n)->(l.flatMap f).length≤l.length*n
 | [],_=>by simp
 | a::l,h=>by
  have:=cW (f:=f) (l:=l) fun x hx=>h x (List.mem_cons_of_mem _ hx);have h1:=h a List.mem_cons_self;rw[List.flatMap_cons,List.length_append,List.length_cons,Nat.add_mul];omega
end
section
variable {κ:Type}[DecidableEq κ]
abbrev Stp(κ:Type):=Int×κ×Int
structure Lnk (dn up:κ) (G A:List Int) (s s':Stp κ):Prop where
 jn:s.2.2=s'.1
 mt:s.2.1≠up->s'.2.1≠dn->s.2.2∈A
 no:s.2.1=up∨s'.2.1=dn->s.2.2∉G
def nm(r:List (Stp κ)):List Int:=match r with
 | []=>[]
 | s::t=>s.1::(s::t).map (·.2.2)
structure Rd (Ed:Stp κ→Prop) (dn up:κ) (G A ones:List Int) (r:List (Stp κ)):Prop where
 hd:∃s∈r.head?,s.1∈ones
 ed:∀s∈r,Ed s
 ch:Chn (Lnk dn up G A) r
variable {Ed:Stp κ->Prop}{dn up:κ}{G A ones others:List Int}
theorem wJ(ne:dn≠up)(hA:∀a b,Ed (a,dn,b)->b∈A->a∈A):∀{q:List (Stp κ)} {s e:Stp κ},(∀x∈s::q,Ed x)->Chn (Lnk dn up G A) (s::q)->s.2.1=dn->(s::q).getLast?=some e->e.2.1=up->s.1∈A
 | [],s,e,_,_,k,l,u=>by
  simp at l;subst l;exact absurd (k.symm.trans u) ne
 | s'::q,s,e,hd,c,k,l,u=>by
  have hs:Ed (s.1,dn,s.2.2):=by rw[←k];exact hd s List.mem_cons_self
  refine hA _ _ hs ?_;by_cases k':s'.2.1=dn
  ·have:=wJ ne hA (q:=q) (s:=s') (e:=e) (fun x hx=>hd x (List.mem_cons_of_mem _ hx)) c.2 k' (by rw[←l,List.getLast?_cons_cons]) u;rw[c.1.jn];exact this
  ·exact c.1.mt (by rw[k];exact ne) k'
theorem short(ne:dn≠up)(hA:∀a b,Ed (a,dn,b)->b∈A->a∈A)(ap:∀x∈ones,x∉others):∀(n:Nat) (r:List (Stp κ)),r.length≤n->Rd Ed dn up G A ones r->(∃e∈r.getLast?,e.2.2∈others) ->
  ∃r',Rd Ed dn up G A ones r'/\(∃e∈r'.getLast?,e.2.2∈others)/\(nm r').Nodup
 | 0,r,hl,h,_=>by
  obtain⟨s,hs,_⟩:=h.hd;have:r=[]:=List.length_eq_zero_iff.mp (by omega);subst this;cases hs
 | n+1,r,hl,h,hx=>by
  by_cases nd:(nm r).Nodup
  ·exact⟨r,h,hx,nd⟩
  obtain⟨s0,hs0,h0⟩:=h.hd;obtain⟨e,he,hb⟩:=hx;cases r with
  | nil=>cases hs0
  | cons s1 t1 =>
  have es:s1=s0:=by simpa using hs0
  subst es;have cut:(∃q s t,s1::t1=q++s::t/\s.2.2=s1.1)∨¬((s1::t1).map (·.2.2)).Nodup:=by
   by_cases m:s1.1∈(s1::t1).map (·.2.2)
   ·obtain⟨s,hs,e⟩:=List.mem_map.mp m;obtain⟨q,t,e2⟩:=List.append_of_mem hs;exact .inl ⟨q,s,t,e2,e⟩
   ·exact .inr fun n=>nd (List.nodup_cons.mpr ⟨m,n⟩)
  rcases cut with⟨q,s,t,er,es⟩ | dup
  ·rw[er]at h hl he;have c:=bM.mp h.ch;cases t with
   | nil =>
    simp at he;subst he;exact absurd hb (by rw[es];exact ap _ h0)
   | cons s2 t =>
    have hl2:(s2::t).length≤n:=by simp at hl ⊢;omega
    refine short ne hA ap n (s2::t) hl2 ⟨⟨s2,rfl,?_⟩,fun x hx=>h.ed x (by simp at hx ⊢;grind),c.2.1.2⟩ ⟨e,?_,hb⟩
    ·rw[←c.2.1.1.jn,es];exact h0
    ·have:(q++s::s2::t).getLast?=(s2::t).getLast?:=by rw[cF,List.getLast?_cons_cons]
     rw[←this];exact he
  ·obtain⟨p,s,q,s',t,er,es⟩:=jj _ dup;rw[er]at h hl he;have c:=bM.mp h.ch;have c1:=c.2.1;have e1:s::(q++s'::t)=(s::q)++s'::t:=rfl;rw[e1]at c1;have c2:=bM.mp c1;have hds:∃z∈(p++[s]).head?,z.1∈ones:=by
    obtain⟨z,hz,hz1⟩:=h.hd;refine⟨z,?_,hz1⟩;cases p with
    | nil=>simpa using hz
    | cons _ _=>simpa using hz
   cases t with
   | nil =>
    refine short ne hA ap n (p++[s]) (by simp at hl ⊢;omega) ⟨hds,fun x hx=>h.ed x (by simp at hx ⊢;grind),?_⟩ ⟨s,by simp,?_⟩
    ·exact bM.mpr ⟨c.1,trivial,c.2.2⟩
    ·have:e=s':=by
      have:(p++s::(q++[s'])).getLast?=some s':=by rw[cF,← List.cons_append,cF];rfl
      rw[this]at he;exact(Option.some.inj he).symm
     subst this;show s.2.2∈others;rw[show s.2.2=e.2.2 from es];exact hb
   | cons s2 t =>
    have l2:Lnk dn up G A s' s2:=c2.2.1.1;obtain⟨m,q',eq⟩:∃m q',q++[s']=m::q':=by
     cases q with
     | nil=>exact⟨s',[],rfl⟩
     | cons m q=>exact⟨m,q++[s'],rfl⟩
    have cm:Chn (Lnk dn up G A) (s::m::(q'++s2::t)):=by
     have:s::m::(q'++s2::t)=s::(q++s'::s2::t):=by
      have e3:q++s'::s2::t=(q++[s'])++s2::t:=by simp
      rw[e3,eq];rfl
     rw[this];exact c.2.1
    have l1:Lnk dn up G A s m:=cm.1;have inA:s.2.1≠up->s2.2.1≠dn->s.2.2∈A:=fun k1 k2=>by
     by_cases km:m.2.1=dn
     ·by_cases ks:s'.2.1=up
      ·rw[l1.jn];have cq:Chn (Lnk dn up G A) (m::q'):=((bM (p:=m::q') (q:=s2::t)).mp cm.2).1;refine wJ ne hA (q:=q') (s:=m) (e:=s') (fun x hx=>h.ed x ?_) cq km (by rw[←eq];simp) ks;rw[←eq]at hx;simp at hx ⊢
       grind
      ·show s.2.2∈A;rw[show s.2.2=s'.2.2 from es];exact l2.mt ks k2
     ·exact l1.mt k1 km
    refine short ne hA ap n (p++s::s2::t) (by simp at hl ⊢;omega) ⟨?_,fun x hx=>h.ed x (by simp at hx ⊢;grind),bM.mpr ⟨c.1,⟨⟨?_,inA,?_⟩,c2.2.1.2⟩,c.2.2⟩⟩ ⟨e,?_,hb⟩
    ·obtain⟨z,hz,hz1⟩:=hds;refine⟨z,?_,hz1⟩;cases p with
     | nil=>simpa using hz
     | cons _ _=>simpa using hz
    ·rw[show s.2.2=s'.2.2 from es];exact l2.jn
    ·rintro(k | k)
     ·exact l1.no (.inl k)
     ·rw[show s.2.2=s'.2.2 from es];exact l2.no (.inr k)
    ·have h1:(p++s::s2::t).getLast?=(s2::t).getLast?:=by rw[cF,List.getLast?_cons_cons]
     have h2:(p++s::(q++s'::s2::t)).getLast?=(s2::t).getLast?:=by rw[cF,← List.cons_append,cF,List.getLast?_cons_cons]
     rw[h1,← h2];exact he
inductive RS (Ed:Stp κ→Prop) (dn up:κ) (G A ones:List Int):Int→Bool→Prop where
 | base {x:Int} (h:x∈ones):RS Ed dn up G A ones x false
 | step {n m:Int} {p:Bool} {k:κ} (h:RS Ed dn up G A ones n p) (e:Ed (n,k,m)) (h1:k=dn->n∉G) (h2:k≠dn->p=true->n∈A) (h3:k≠dn->p=false->n∉G):RS Ed dn up G A ones m (decide (k≠up))
theorem vV(gn:∀x∈ones,x∉G){x:Int}{p:Bool}(h:RS Ed dn up G A ones x p):(x∈ones/\p=false)∨∃r,Rd Ed dn up G A ones r/\∃e∈r.getLast?,e.2.2=x/\decide (e.2.1≠up)=p:=by
 induction h with
 | base h=>exact .inl ⟨h,rfl⟩
 | step h e h1 h2 h3 ih =>
  rename_i n m p k;refine .inr ?_;rcases ih with⟨ho,rfl⟩ |⟨r,rd,l,hl,rfl,hp⟩
  ·exact⟨[(n,k,m)],⟨⟨_,rfl,ho⟩,fun s hs=>by rw[List.mem_singleton.mp hs];exact e,trivial⟩,_,rfl,rfl,rfl⟩
  ·refine⟨r++[(l.2.2,k,m)],⟨?_,fun s hs=>?_,bM.mpr ⟨rd.ch,trivial,fun a ha b hb=>?_⟩⟩,(l.2.2,k,m),by simp,rfl,rfl⟩
   ·obtain⟨z,hz,h0⟩:=rd.hd;refine⟨z,?_,h0⟩;cases r with
    | nil=>cases hz
    | cons _ _=>simpa using hz
   ·rcases List.mem_append.mp hs with q | q
    ·exact rd.ed s q
    ·rw[List.mem_singleton.mp q];exact e
   ·have ea:a=l:=by rw[hl]at ha;exact(Option.some.inj ha).symm
    have eb:b=(l.2.2,k,m):=by simpa using hb.symm
    subst ea;subst eb;refine⟨rfl,fun k1 k2=>h2 k2 (by rw[←hp];exact decide_eq_true k1),?_⟩;rintro(z | z)
    ·by_cases kd:k=dn
     ·exact h1 kd
     ·exact h3 kd (by rw[←hp,z];simp)
    ·exact h1 z
theorem ux(ne:dn≠up)(hA:∀a b,Ed (a,dn,b)->b∈A->a∈A)(ap:∀x∈ones,x∉others)(gn:∀x∈ones,x∉G){x:Int}{p:Bool}(h:RS Ed dn up G A ones x p)(hx:x∈others) :
  ∃r,Rd Ed dn up G A ones r/\(∃e∈r.getLast?,e.2.2∈others)/\(nm r).Nodup:=by
 rcases vV gn h with⟨ho,_⟩ |⟨r,rd,e,he,rfl,_⟩
 ·exact absurd hx (ap x ho)
 ·exact short ne hA ap r.length r (Nat.le_refl _) rd ⟨e,he,hx⟩
end
theorem ze{ts:List P2}{G:List Int}{m:Int}(h:Reach (ts.map fun p=>(p.2,p.1)) G m):∃w,w.head?=some m/\Chn (fun a b=>(a,b)∈ts) w/\∃e∈w.getLast?,e∈G:=by
 induction h with
 | base h=>exact⟨[_],rfl,trivial,_,rfl,h⟩
 | step h e ih =>
  obtain⟨w,h1,h2,e1,h3,h4⟩:=ih;obtain⟨p,hp,ep⟩:=List.mem_map.mp e;cases ep;cases w with
  | nil=>cases h3
  | cons a w =>
   have:a=p.2:=by simpa using h1
   subst this;exact⟨p.1::p.2::w,rfl,⟨hp,h2⟩,e1,by rw[List.getLast?_cons_cons];exact h3,h4⟩
theorem mH{ts:List P2}(lt:∀a b,(a,b)∈ts->a<b):∀{w:List Int},Chn (fun a b=>(a,b)∈ts) w->w.Pairwise (·<·)
 | [],_=>.nil
 | [a],_=>List.pairwise_singleton _ a
 | a::b::w,h=>by
  have ih:=mH lt h.2;have hab:=lt a b h.1;refine List.pairwise_cons.mpr ⟨fun x hx=>?_,ih⟩;rcases List.mem_cons.mp hx with rfl | hx
  ·exact hab
  ·have:=(List.pairwise_cons.mp ih).1 x hx;omega
end My
namespace Lw
open L2 U
theorem boot_all:bootBuiltins "all"=some (.builtin "all"):=by decide +kernel
theorem boot_sorted:bootBuiltins "sorted"=some (.builtin "sorted"):=by decide +kernel
theorem boot_set:bootBuiltins "set"=some (.type "set"):=by decide +kernel
theorem gP:bootBuiltins "ValueError"=some (.type "ValueError"):=by decide +kernel
theorem x5{x y:PV}:atI [x,y] 0=some x:=rfl
theorem yO{x y:PV}:atI [x,y] 1=some y:=rfl
theorem ck{X:Cx}{N2:List Str}{nt:Nat}{js:List Nat}{scope sc:Scope}{cl:List (Str×Addr)}(clos:closureFor scope X.env=pure cl:=by exact rfl)(sub:pU X.env.cells cl:=by repeat (first | exact trivial | refine⟨rfl,?_⟩))(xsc:X.env.scope=sc:=by rfl)(kind:scope.kind=.function:=by rfl)
  (nocell:∀y∈scope.names,y.2≠.cell:=by decide +kernel) (loc:∀y∈scope.names,y.2=.local->scope.names.lookup y.1=some .local:=by decide +kernel) (names:cl.map (·.1)=((scope.names.filter (·.2==.free)).map (·.1)).reverse:=by rfl)
  (frs:∀x∈N2.drop nt,scope.names.lookup x=some .free/\sc.names.lookup x=some .cell:=by decide +kernel) (len:N2.length=nt+js.length:=by rfl) (pl:js.map (fun j=>X.N[j]?)=(N2.drop nt).map some:=by rfl):cg X N2 nt js scope cl sc:=cok clos sub xsc kind nocell loc names frs len pl
def top(i:Nat):Stmt:=PySem.Challenge.pw_doingbook_k65_statements_refused.main.body.getD i (.Pass ⟨0,0,0,0⟩)
abbrev zF:Stmt:=top 26
local macro_rules | `(tactic| walk_at "q") => `(tactic| exact ⟨rfl, rfl, rfl, by decide +kernel, rfl, by decide +kernel, by decide +kernel⟩)
theorem BP:az ["count","pair"] ["count","pair"] (ao zF):=by walk_at "q"
abbrev ub:Stmt:=top 27
theorem AF:az ["count","pairs"] ["count","pairs"] (ao ub):=by walk_at "q"
abbrev xb:Stmt:=top 28
theorem nH:az ["count","names","ahead","name"] ["count","names"] (ao xb):=by walk_at "q"
abbrev uc:Stmt:=top 30
theorem AW:az ["names","others"] ["names","others"] (ao uc):=by walk_at "q"
abbrev xq:Stmt:=top 31
theorem Bt:az ["names","others"] ["names","others"] (ao xq):=by walk_at "q"
abbrev mR:Stmt:=inClass (top 32) 0
theorem i5:az ["self","count","ties","bows","own_ties","own_bows"] ["self","count","ties","bows"] (ao mR):=by walk_at "q"
abbrev yZ:Stmt:=inClass (top 32) 2
theorem Bh:az ["self","name"] ["self","name"] (ao yZ):=by walk_at "q"
abbrev zG:Stmt:=inClass (top 32) 3
theorem wx:az ["self","names"] ["self","names"] (ao zG):=by walk_at "q"
abbrev uz:Stmt:=inClass (top 32) 4
theorem AE:az ["self","name"] ["self","name"] (ao uz):=by walk_at "q"
abbrev vN:Stmt:=inClass (top 32) 5
theorem AI:az ["self","name"] ["self","name"] (ao vN):=by walk_at "q"
abbrev zb:Stmt:=inClass (top 32) 6
theorem qZ:az ["self","names","found","name"] ["self","names"] (ao zb):=by walk_at "q"
abbrev rJ:Stmt:=inClass (top 32) 8
theorem sE:az ["self","name","ahead","behind"] ["self","name"] (ao rJ):=by walk_at "q"
abbrev rL:Stmt:=inClass (top 32) 12
theorem rF:az ["self","names","ties","bows"] ["self","names"] (ao rL):=by walk_at "q"
abbrev vP:Stmt:=inClass (top 32) 13
theorem wG:az ["self","names","ties"] ["self","names"] (ao vP):=by walk_at "q"
abbrev zD:Stmt:=top 33
theorem wa:az ["drawing","sets","names"] ["drawing","sets"] (ao zD):=by walk_at "q"
abbrev zC:Stmt:=top 34
theorem rO:az ["sets","named","names"] ["sets"] (ao zC):=by walk_at "q"
abbrev zt:Stmt:=top 36
theorem AQ:az ["drawing","ones","others","given"] ["drawing","ones","others","given"] (ao zt):=by walk_at "q"
abbrev xY:Stmt:=top 37
theorem Az:az ["step"] ["step"] (ao xY):=by walk_at "q"
abbrev yM:Stmt:=top 38
theorem AK:az ["step"] ["step"] (ao yM):=by walk_at "q"
abbrev xK:Stmt:=top 39
theorem Bp:az ["step","behind"] ["step","behind"] (ao xK):=by walk_at "q"
abbrev o7:Stmt:=top 40
theorem og:az ["drawing","name","down","up","bow"] ["drawing","name"] (ao o7):=by walk_at "q"
abbrev vX:Stmt:=top 41
theorem AO:az ["road"] ["road"] (ao vX):=by walk_at "q"
abbrev vn:Stmt:=top 42
theorem Ab:az ["road"] ["road"] (ao vn):=by walk_at "q"
abbrev zv:Stmt:=top 43
theorem Bv:az ["step","behind","given","above"] ["step","behind","given","above"] (ao zv):=by walk_at "q"
abbrev pj:Stmt:=top 44
theorem nQ:az ["drawing","standing","given","above","name","pointed","asked"] ["drawing","standing","given","above"] (ao pj):=by walk_at "q"
abbrev ud:Stmt:=top 45
theorem lP:az ["drawing","ones","given","above","waiting","told","standing"] ["drawing","ones","given"] (ao ud):=by walk_at "q"
abbrev uo:Stmt:=top 47
theorem rX:az ["drawing","names","told","name"] ["drawing","names"] (ao uo):=by walk_at "q"
abbrev zu:Stmt:=top 48
theorem jr:az ["drawing","roads","given","above","told","road","names","step"] ["drawing","roads","given"] (ao zu):=by walk_at "q"
abbrev sk:Stmt:=top 49
theorem kO:az ["drawing","ones","others","given","roads","found"] ["drawing","ones","others","given"] (ao sk):=by walk_at "q"
abbrev pY:Stmt:=top 50
theorem iF:az ["drawing","meeting","given","ways","found","longer","way"] ["drawing","meeting","given"] (ao pY):=by walk_at "q"
abbrev u6:Stmt:=top 51
theorem A1:az ["drawing","road","given"] ["drawing","road","given"] (ao u6):=by walk_at "q"
abbrev vK:Stmt:=top 52
theorem tu:az ["drawing","ones","others","given","standings","road"] ["drawing","ones","others","given"] (ao vK):=by walk_at "q"
abbrev y3:Stmt:=top 59
theorem Bx:az ["drawing","statement"] ["drawing","statement"] (ao y3):=by walk_at "q"
abbrev xJ:Stmt:=top 60
theorem Bk:az ["statement"] ["statement"] (ao xJ):=by walk_at "q"
abbrev yp:Stmt:=top 61
theorem wM:az ["drawing","number","statement","names","cut"] ["drawing","number","statement","names"] (ao yp):=by walk_at "q"
abbrev yE:Stmt:=top 62
theorem Bw:az ["drawing","number","statement","names"] ["drawing","number","statement","names"] (ao yE):=by walk_at "q"
abbrev xZ:Stmt:=top 69
theorem nF:az ["drawing","statement","chain","stands","at","step"] ["drawing","statement","chain"] (ao xZ):=by walk_at "q"
abbrev zg:Stmt:=top 71
theorem A3:az ["_law_script","_law_k"] ["_law_script","_law_k"] (ao zg):=by walk_at "q"
abbrev xM:Stmt:=top 72
theorem qO:az ["_law_cell","_law_place","_law_number"] ["_law_cell","_law_place"] (ao xM):=by walk_at "q"
abbrev yt:Stmt:=top 73
theorem dO:az ["_law_script","_law_at","_law_many","_law_ties","_law_bows","_law_cell","_law_number","_law_place","_law_one","_law_two","_law_kind"] ["_law_script","_law_at","_law_many"] (ao yt):=by walk_at "q"
abbrev rD:Stmt:=top 74
theorem iO:az ["_law_cell","_law_many","_law_kinds_here","_law_sets","_law_number","_law_name","_law_kind"] ["_law_cell","_law_many","_law_kinds_here"] (ao rD):=by walk_at "q"
abbrev vL:Stmt:=top 76
theorem wD:az ["_law_e","_law_kinds_here"] ["_law_e"] (ao vL):=by walk_at "q"
abbrev yX:Stmt:=top 77
theorem qK:az ["_law_kind","_law_drawing","_law_number","_law_sets","_law_caught","_law_e"] ["_law_kind","_law_drawing","_law_number","_law_sets"] (ao yX):=by walk_at "q"
abbrev yb:Stmt:=top 78
theorem wZ:az ["_law_names","_law_many","_law_k"] ["_law_names","_law_many"] (ao yb):=by walk_at "q"
abbrev yB:Stmt:=top 79
theorem eP:az ["_law_sets","_law_cell","_law_many","_law_kind","_law_at","_law_names"] ["_law_sets","_law_cell","_law_many"] (ao yB):=by walk_at "q"
abbrev vI:Stmt:=top 80
theorem jo:az ["_law_kind","_law_number","_law_sets","_law_many","_law_some","_law_picked","_law_names"] ["_law_kind","_law_number","_law_sets","_law_many"] (ao vI):=by walk_at "q"
abbrev zx:Stmt:=top 81
theorem eR:az ["_law_script","_law_many","_law_drawn","_law_drawing","_law_k","_law_sets","_law_cell","_law_number","_law_kind"] ["_law_script"] (ao zx):=by walk_at "q"
set_option genInjectivity false
structure Ad where
 a_zV:Addr
 d_zV:FuncData
 a_zG:Addr
 d_zG:FuncData
 a_yb:Addr
 d_yb:FuncData
 a_zW:Addr
 d_zW:FuncData
 a_zP:Addr
 d_zP:FuncData
 a_zu:Addr
 d_zu:FuncData
 a_zc:Addr
 d_zc:FuncData
 a_zd:Addr
 d_zd:FuncData
 a_zf:Addr
 d_zf:FuncData
 a_za:Addr
 d_za:FuncData
 a_zb:Addr
 d_zb:FuncData
 a_zk:Addr
 d_zk:FuncData
 a_zi:Addr
 d_zi:FuncData
 a_ze:Addr
 d_ze:FuncData
 a_zI:Addr
 d_zI:FuncData
 a_zD:Addr
 d_zD:FuncData
 a_zt:Addr
 d_zt:FuncData
 a_zs:Addr
 d_zs:FuncData
 a_zj:Addr
 d_zj:FuncData
 a_zC:Addr
 d_zC:FuncData
 a_zE:Addr
 d_zE:FuncData
 a_zO:Addr
 d_zO:FuncData
 a_zR:Addr
 d_zR:FuncData
 a_zK:Addr
 d_zK:FuncData
 a_zr:Addr
 d_zr:FuncData
 a_zB:Addr
 d_zB:FuncData
 a_zy:Addr
 d_zy:FuncData
 a_zo:Addr
 d_zo:FuncData
 a_zn:Addr
 d_zn:FuncData
 a_zq:Addr
 d_zq:FuncData
 a_zL:Addr
 d_zL:FuncData
 a_zY:Addr
 d_zY:FuncData
 a_zh:Addr
 d_zh:FuncData
 a_zS:Addr
 d_zS:FuncData
 a_zp:Addr
 d_zp:FuncData
 a_yc:Addr
 d_yc:FuncData
 a_ya:Addr
 d_ya:FuncData
 a_zw:Addr
 d_zw:FuncData
 a_zF:Addr
 d_zF:FuncData
 a_zv:Addr
 d_zv:FuncData
 a_zM:Addr
 d_zM:FuncData
 a_zN:Addr
 d_zN:FuncData
 a_zH:Addr
 d_zH:FuncData
 a_zA:Addr
 d_zA:FuncData
 a_zQ:Addr
 d_zQ:FuncData
 a_zU:Addr
 d_zU:FuncData
 a_yd:Addr
 d_yd:FuncData
 a_A:Addr
 a_B:Addr
 a_C:Addr
 a_D:Addr
 a_E:Addr
 a_F:Addr
 a_G:Addr
 a_H:Addr
 a_I:Addr
 a_J:Addr
 a_K:Addr
 a_L:Addr
 a_M:Addr
 a_N:Addr
 a_O:Addr
 a_P:Addr
 a_Q:Addr
 a_R:Addr
 a_S:Addr
 a_T:Addr
 a_U:Addr
 a_V:Addr
 a_W:Addr
abbrev kX1(K:PySem.W.Frag)(a b:Addr):=PySem.W.kitOne K (.ref a) (.ref b)=some false
abbrev nX1(K:PySem.W.Frag)(x:Str)(a:Addr):=PySem.W.nsIn K mainGlobals x=some (some (.ref a))
abbrev nX2(K:PySem.W.Frag)(x:Str):=PySem.W.nsIn K mainGlobals x=some none
abbrev fX1(K:PySem.W.Frag)(c:Addr)(x:Str)(a:Addr):=PySem.W.findIn K (.ref c) x=some (some (.ref a))
structure Tx (K:PySem.W.Frag) (mg:Str→Option Value) (t:Ad):Prop where
 F_zV:Fun K "is_pair" "is_pair" zF t.a_zV t.d_zV
 B_zV:Binds K t.d_zV ["count","pair"] []
 g_zV:mg "is_pair"=some (.ref t.a_zV)
 F_zG:Fun K "are_pairs" "are_pairs" ub t.a_zG t.d_zG
 B_zG:Binds K t.d_zG ["count","pairs"] []
 g_zG:mg "are_pairs"=some (.ref t.a_zG)
 F_yb:Fun K "is_set" "is_set" xb t.a_yb t.d_yb
 B_yb:Binds K t.d_yb ["count","names"] []
 g_yb:mg "is_set"=some (.ref t.a_yb)
 F_zW:Fun K "without" "without" uc t.a_zW t.d_zW
 B_zW:Binds K t.d_zW ["names","others"] []
 g_zW:mg "without"=some (.ref t.a_zW)
 F_zP:Fun K "together" "together" xq t.a_zP t.d_zP
 B_zP:Binds K t.d_zP ["names","others"] []
 g_zP:mg "together"=some (.ref t.a_zP)
 F_zu:Fun K "__init__" "Drawing.__init__" mR t.a_zu t.d_zu
 B_zu:Binds K t.d_zu ["self","count","ties","bows"] []
 F_zc:Fun K "need_name" "Drawing.need_name" yZ t.a_zc t.d_zc
 B_zc:Binds K t.d_zc ["self","name"] []
 m_zc:Meth K t.a_D "need_name" t.a_zc
 F_zd:Fun K "need_set" "Drawing.need_set" zG t.a_zd t.d_zd
 B_zd:Binds K t.d_zd ["self","names"] []
 m_zd:Meth K t.a_D "need_set" t.a_zd
 F_zf:Fun K "sources" "Drawing.sources" uz t.a_zf t.d_zf
 B_zf:Binds K t.d_zf ["self","name"] []
 m_zf:Meth K t.a_D "sources" t.a_zf
 F_za:Fun K "followers" "Drawing.followers" vN t.a_za t.d_za
 B_za:Binds K t.d_za ["self","name"] []
 m_za:Meth K t.a_D "followers" t.a_za
 F_zb:Fun K "ancestors" "Drawing.ancestors" zb t.a_zb t.d_zb
 B_zb:Binds K t.d_zb ["self","names"] []
 m_zb:Meth K t.a_D "ancestors" t.a_zb
 F_zk:Fun K "bowed" "Drawing.bowed" rJ t.a_zk t.d_zk
 B_zk:Binds K t.d_zk ["self","name"] []
 m_zk:Meth K t.a_D "bowed" t.a_zk
 F_zi:Fun K "cut_in" "Drawing.cut_in" rL t.a_zi t.d_zi
 B_zi:Binds K t.d_zi ["self","names"] []
 m_zi:Meth K t.a_D "cut_in" t.a_zi
 F_ze:Fun K "cut_out" "Drawing.cut_out" vP t.a_ze t.d_ze
 B_ze:Binds K t.d_ze ["self","names"] []
 m_ze:Meth K t.a_D "cut_out" t.a_ze
 F_zI:Fun K "need_sets" "need_sets" zD t.a_zI t.d_zI
 B_zI:Binds K t.d_zI ["drawing","sets"] []
 g_zI:mg "need_sets"=some (.ref t.a_zI)
 F_zD:Fun K "need_apart" "need_apart" zC t.a_zD t.d_zD
 B_zD:Binds K t.d_zD ["sets"] []
 g_zD:mg "need_apart"=some (.ref t.a_zD)
 F_zt:Fun K "need_barring" "need_barring" zt t.a_zt t.d_zt
 B_zt:Binds K t.d_zt ["drawing","ones","others","given"] []
 g_zt:mg "need_barring"=some (.ref t.a_zt)
 F_zs:Fun K "points_at_to" "points_at_to" xY t.a_zs t.d_zs
 B_zs:Binds K t.d_zs ["step"] []
 g_zs:mg "points_at_to"=some (.ref t.a_zs)
 F_zj:Fun K "points_at_from" "points_at_from" yM t.a_zj t.d_zj
 B_zj:Binds K t.d_zj ["step"] []
 g_zj:mg "points_at_from"=some (.ref t.a_zj)
 F_zC:Fun K "is_meeting" "is_meeting" xK t.a_zC t.d_zC
 B_zC:Binds K t.d_zC ["step","behind"] []
 g_zC:mg "is_meeting"=some (.ref t.a_zC)
 F_zE:Fun K "steps_from" "steps_from" o7 t.a_zE t.d_zE
 B_zE:Binds K t.d_zE ["drawing","name"] []
 g_zE:mg "steps_from"=some (.ref t.a_zE)
 F_zO:Fun K "names_on" "names_on" vX t.a_zO t.d_zO
 B_zO:Binds K t.d_zO ["road"] []
 g_zO:mg "names_on"=some (.ref t.a_zO)
 F_zR:Fun K "meetings" "meetings" vn t.a_zR t.d_zR
 B_zR:Binds K t.d_zR ["road"] []
 g_zR:mg "meetings"=some (.ref t.a_zR)
 F_zK:Fun K "is_passed" "is_passed" zv t.a_zK t.d_zK
 B_zK:Binds K t.d_zK ["step","behind","given","above"] []
 g_zK:mg "is_passed"=some (.ref t.a_zK)
 F_zr:Fun K "asked_beside" "asked_beside" pj t.a_zr t.d_zr
 B_zr:Binds K t.d_zr ["drawing","standing","given","above"] []
 g_zr:mg "asked_beside"=some (.ref t.a_zr)
 F_zB:Fun K "least_shut" "least_shut" ud t.a_zB t.d_zB
 B_zB:Binds K t.d_zB ["drawing","ones","given"] []
 g_zB:mg "least_shut"=some (.ref t.a_zB)
 F_zy:Fun K "first_roads" "first_roads" uo t.a_zy t.d_zy
 B_zy:Binds K t.d_zy ["drawing","names"] []
 g_zy:mg "first_roads"=some (.ref t.a_zy)
 F_zo:Fun K "longer_roads" "longer_roads" zu t.a_zo t.d_zo
 B_zo:Binds K t.d_zo ["drawing","roads","given"] []
 g_zo:mg "longer_roads"=some (.ref t.a_zo)
 F_zn:Fun K "shortest_road" "shortest_road" sk t.a_zn t.d_zn
 B_zn:Binds K t.d_zn ["drawing","ones","others","given"] []
 g_zn:mg "shortest_road"=some (.ref t.a_zn)
 F_zq:Fun K "shortest_way" "shortest_way" pY t.a_zq t.d_zq
 B_zq:Binds K t.d_zq ["drawing","meeting","given"] []
 g_zq:mg "shortest_way"=some (.ref t.a_zq)
 F_zL:Fun K "ways_down" "ways_down" u6 t.a_zL t.d_zL
 B_zL:Binds K t.d_zL ["drawing","road","given"] []
 g_zL:mg "ways_down"=some (.ref t.a_zL)
 F_zY:Fun K "barred" "barred" vK t.a_zY t.d_zY
 B_zY:Binds K t.d_zY ["drawing","ones","others","given"] []
 g_zY:mg "barred"=some (.ref t.a_zY)
 F_zh:Fun K "need_statement" "need_statement" y3 t.a_zh t.d_zh
 B_zh:Binds K t.d_zh ["drawing","statement"] []
 g_zh:mg "need_statement"=some (.ref t.a_zh)
 F_zS:Fun K "given_by" "given_by" xJ t.a_zS t.d_zS
 B_zS:Binds K t.d_zS ["statement"] []
 g_zS:mg "given_by"=some (.ref t.a_zS)
 F_zp:Fun K "rule_drawing" "rule_drawing" yp t.a_zp t.d_zp
 B_zp:Binds K t.d_zp ["drawing","number","statement","names"] []
 g_zp:mg "rule_drawing"=some (.ref t.a_zp)
 F_yc:Fun K "joins" "joins" yE t.a_yc t.d_yc
 B_yc:Binds K t.d_yc ["drawing","number","statement","names"] []
 g_yc:mg "joins"=some (.ref t.a_yc)
 F_ya:Fun K "end_of" "end_of" xZ t.a_ya t.d_ya
 B_ya:Binds K t.d_ya ["drawing","statement","chain"] []
 g_ya:mg "end_of"=some (.ref t.a_ya)
 F_zw:Fun K "_law_cell_at" "_law_cell_at" zg t.a_zw t.d_zw
 B_zw:Binds K t.d_zw ["_law_script","_law_k"] []
 g_zw:mg "_law_cell_at"=some (.ref t.a_zw)
 F_zF:Fun K "_law_mixed" "_law_mixed" xM t.a_zF t.d_zF
 B_zF:Binds K t.d_zF ["_law_cell","_law_place"] []
 g_zF:mg "_law_mixed"=some (.ref t.a_zF)
 F_zv:Fun K "_law_pairs_of" "_law_pairs_of" yt t.a_zv t.d_zv
 B_zv:Binds K t.d_zv ["_law_script","_law_at","_law_many"] []
 g_zv:mg "_law_pairs_of"=some (.ref t.a_zv)
 F_zM:Fun K "_law_roles" "_law_roles" rD t.a_zM t.d_zM
 B_zM:Binds K t.d_zM ["_law_cell","_law_many","_law_kinds_here"] []
 g_zM:mg "_law_roles"=some (.ref t.a_zM)
 F_zN:Fun K "_law_kinds" "_law_kinds" vL t.a_zN t.d_zN
 B_zN:Binds K t.d_zN ["_law_e"] []
 g_zN:mg "_law_kinds"=some (.ref t.a_zN)
 F_zH:Fun K "_law_asked" "_law_asked" yX t.a_zH t.d_zH
 B_zH:Binds K t.d_zH ["_law_kind","_law_drawing","_law_number","_law_sets"] []
 g_zH:mg "_law_asked"=some (.ref t.a_zH)
 F_zA:Fun K "_law_is_set" "_law_is_set" yb t.a_zA t.d_zA
 B_zA:Binds K t.d_zA ["_law_names","_law_many"] []
 g_zA:mg "_law_is_set"=some (.ref t.a_zA)
 F_zQ:Fun K "_law_bent" "_law_bent" yB t.a_zQ t.d_zQ
 B_zQ:Binds K t.d_zQ ["_law_sets","_law_cell","_law_many"] []
 g_zQ:mg "_law_bent"=some (.ref t.a_zQ)
 F_zU:Fun K "_law_due" "_law_due" vI t.a_zU t.d_zU
 B_zU:Binds K t.d_zU ["_law_kind","_law_number","_law_sets","_law_many"] []
 g_zU:mg "_law_due"=some (.ref t.a_zU)
 F_yd:Fun K "law" "law" zx t.a_yd t.d_yd
 B_yd:Binds K t.d_yd ["_law_script"] []
 g_yd:mg "law"=some (.ref t.a_yd)
 g_A:mg "BadPaper"=some (.ref t.a_A)
 g_B:mg "BadStep"=some (.ref t.a_B)
 g_C:mg "DoingError"=some (.ref t.a_C)
 g_D:mg "Drawing"=some (.ref t.a_D)
 cl_D:Cls K t.a_D
 mk_D:Mk K t.a_D t.a_zu
 g_E:mg "NoAnswer"=some (.ref t.a_E)
 g_F:mg "NoBow"=some (.ref t.a_F)
 g_G:mg "NoCount"=some (.ref t.a_G)
 g_H:mg "NoDoor"=some (.ref t.a_H)
 g_I:mg "NoFormula"=some (.ref t.a_I)
 g_J:mg "NoFraction"=some (.ref t.a_J)
 g_K:mg "NoName"=some (.ref t.a_K)
 g_L:mg "NoNest"=some (.ref t.a_L)
 g_M:mg "NoQuestion"=some (.ref t.a_M)
 g_N:mg "NoRoad"=some (.ref t.a_N)
 g_O:mg "NoRule"=some (.ref t.a_O)
 g_P:mg "NoSets"=some (.ref t.a_P)
 g_Q:mg "NoShare"=some (.ref t.a_Q)
 g_R:mg "NoText"=some (.ref t.a_R)
 g_S:mg "NoThinning"=some (.ref t.a_S)
 g_T:mg "NoTie"=some (.ref t.a_T)
 g_U:mg "NoValue"=some (.ref t.a_U)
 g_V:mg "NoWorld"=some (.ref t.a_V)
 x_C:eM K t.a_C
 x_K:eM K t.a_K
 x_O:eM K t.a_O
 x_P:eM K t.a_P
 s_K:PySem.W.mroIn K t.a_K (.ref t.a_C)=some true
 kK_:PySem.W.kitOne K (.ref t.a_K) (.type "ValueError")=some true
 kKR:kX1 K t.a_K t.a_R
 kKB:kX1 K t.a_K t.a_B
 kKI:kX1 K t.a_K t.a_I
 kKM:kX1 K t.a_K t.a_M
 kKE:kX1 K t.a_K t.a_E
 kKS:kX1 K t.a_K t.a_S
 kKH:kX1 K t.a_K t.a_H
 kKL:kX1 K t.a_K t.a_L
 kKA:kX1 K t.a_K t.a_A
 kKO:kX1 K t.a_K t.a_O
 kKN:kX1 K t.a_K t.a_N
 kKQ:kX1 K t.a_K t.a_Q
 kKU:kX1 K t.a_K t.a_U
 kKV:kX1 K t.a_K t.a_V
 kKP:kX1 K t.a_K t.a_P
 kKK:PySem.W.kitOne K (.ref t.a_K) (.ref t.a_K)=some true
 kKF:kX1 K t.a_K t.a_F
 kKT:kX1 K t.a_K t.a_T
 kKG:kX1 K t.a_K t.a_G
 kKJ:kX1 K t.a_K t.a_J
 s_P:PySem.W.mroIn K t.a_P (.ref t.a_C)=some true
 kP_:PySem.W.kitOne K (.ref t.a_P) (.type "ValueError")=some true
 kPR:kX1 K t.a_P t.a_R
 kPB:kX1 K t.a_P t.a_B
 kPI:kX1 K t.a_P t.a_I
 kPM:kX1 K t.a_P t.a_M
 kPE:kX1 K t.a_P t.a_E
 kPS:kX1 K t.a_P t.a_S
 kPH:kX1 K t.a_P t.a_H
 kPL:kX1 K t.a_P t.a_L
 kPA:kX1 K t.a_P t.a_A
 kPO:kX1 K t.a_P t.a_O
 kPN:kX1 K t.a_P t.a_N
 kPQ:kX1 K t.a_P t.a_Q
 kPU:kX1 K t.a_P t.a_U
 kPV:kX1 K t.a_P t.a_V
 kPP:PySem.W.kitOne K (.ref t.a_P) (.ref t.a_P)=some true
 kPK:kX1 K t.a_P t.a_K
 kPF:kX1 K t.a_P t.a_F
 kPT:kX1 K t.a_P t.a_T
 kPG:kX1 K t.a_P t.a_G
 kPJ:kX1 K t.a_P t.a_J
 s_O:PySem.W.mroIn K t.a_O (.ref t.a_C)=some true
 kO_:PySem.W.kitOne K (.ref t.a_O) (.type "ValueError")=some true
 kOR:kX1 K t.a_O t.a_R
 kOB:kX1 K t.a_O t.a_B
 kOI:kX1 K t.a_O t.a_I
 kOM:kX1 K t.a_O t.a_M
 kOE:kX1 K t.a_O t.a_E
 kOS:kX1 K t.a_O t.a_S
 kOH:kX1 K t.a_O t.a_H
 kOL:kX1 K t.a_O t.a_L
 kOA:kX1 K t.a_O t.a_A
 kOO:PySem.W.kitOne K (.ref t.a_O) (.ref t.a_O)=some true
 kON:kX1 K t.a_O t.a_N
 kOQ:kX1 K t.a_O t.a_Q
 kOU:kX1 K t.a_O t.a_U
 kOV:kX1 K t.a_O t.a_V
 kOP:kX1 K t.a_O t.a_P
 kOK:kX1 K t.a_O t.a_K
 kOF:kX1 K t.a_O t.a_F
 kOT:kX1 K t.a_O t.a_T
 kOG:kX1 K t.a_O t.a_G
 kOJ:kX1 K t.a_O t.a_J
 b_ValueError:mg "ValueError"=none
 b_all:mg "all"=none
 b_any:mg "any"=none
 b_enumerate:mg "enumerate"=none
 b_isinstance:mg "isinstance"=none
 b_len:mg "len"=none
 b_list:mg "list"=none
 b_range:mg "range"=none
 b_reversed:mg "reversed"=none
 b_set:mg "set"=none
 b_sorted:mg "sorted"=none
 b_tuple:mg "tuple"=none
 b_zip:mg "zip"=none
 c_ASKED:∃u,mg "ASKED"=some u/\RelV (.int 0) u
 c_MOST_BOWS:∃u,mg "MOST_BOWS"=some u/\RelV (.int 6) u
 c_MOST_NAMES:∃u,mg "MOST_NAMES"=some u/\RelV (.int 6) u
 c_SEEN:∃u,mg "SEEN"=some u/\RelV (.int 2) u
 c_SET:∃u,mg "SET"=some u/\RelV (.int 1) u
 nfD_bows:cA K t.a_D "bows"
 nfD_count:cA K t.a_D "count"
 nfD_ties:cA K t.a_D "ties"
 c_W:∃u,mg "MORE"=some u/\RelV (.ref t.a_W) u
 o_W:okIn K t.a_W [1,2,3]=true
section
variable {P:Program}{w:World}{K:PySem.W.Frag}{mg:Str->Option Value}{base:Heap}{t:Ad}
open DM (P2 Good)
def DF(c:Int)(ts bs:List P2):List (Str×PV):=[("count",.int c),("ties",.tup (ts.map prV)),("bows",.tup (bs.map prV))]
def Srt(l:List P2):Prop:=l.Pairwise (fun x y=>ST.pk x<ST.pk y)
def Row(H:PHp)(y:PV)(p:P2):Prop:=y=prV p∨∃r,y=.ref r/\H r=some (.lst [.int p.1,.int p.2])
abbrev Rows(H:PHp):List PV->List P2->Prop:=Paired (Row H)
def el:Sp':=fun vs H Q _=>match vs with
 | [.int c,.tup [.int u,.int v]]=>(0≤u/\u<v/\v<c)/\Q (.bl true) H
 | _=>False
theorem qt{c u v:Int}{H:PHp}{Q:VK'}{E:XK'}:el [.int c,.tup [.int u,.int v]] H Q E=((0≤u/\u<v/\v<c)/\Q (.bl true) H):=rfl
def cI:Sp':=fun vs H Q _=>match vs with
 | [.int c,.ref a]=>∃ps,H a=some (.lst (ps.map prV))/\Good c ps/\c≤6/\Q (.bl true) H
 | _=>False
theorem mM{c:Int}{a:Addr}{H:PHp}{Q:VK'}{E:XK'}:cI [.int c,.ref a] H Q E=∃ps,H a=some (.lst (ps.map prV))/\Good c ps/\c≤6/\Q (.bl true) H:=rfl
def g5(t:Ad):Sp':=fun vs H Q _=>match vs with
 | [.ref x,.int c,.ref a,.ref b]=>∃dx ys zs ps qs,H x=some (.ins t.a_D dx [])/\H a=some (.lst ys)/\H b=some (.lst zs)/\Rows H ys ps/\Rows H zs qs/\Good c ps/\Good c qs/\(1≤c/\c≤6/\qs.length≤6) /\
  ∀ts bs,ts.Perm ps->Srt ts->bs.Perm qs->Srt bs->Q .non (put H x (.ins t.a_D dx (DF c ts bs)))
 | _=>False
theorem yY{x a b:Addr}{c:Int}{H:PHp}{Q:VK'}{E:XK'}:g5 t [.ref x,.int c,.ref a,.ref b] H Q E=∃dx ys zs ps qs,H x=some (.ins t.a_D dx [])/\H a=some (.lst ys)/\H b=some (.lst zs)/\Rows H ys ps/\Rows H zs qs/\Good c ps/\Good c qs/\(1≤c/\c≤6/\qs.length≤6) /\
  ∀ts bs,ts.Perm ps->Srt ts->bs.Perm qs->Srt bs->Q .non (put H x (.ins t.a_D dx (DF c ts bs))):=rfl
def cP(t:Ad):Sp':=fun vs H Q _=>match vs with
 | [.ref x,.int n]=>∃dx c ts bs,H x=some (.ins t.a_D dx (DF c ts bs))/\(0≤n/\n<c)/\Q .non H
 | _=>False
theorem l7{x:Addr}{n:Int}{H:PHp}{Q:VK'}{E:XK'}:cP t [.ref x,.int n] H Q E=∃dx c ts bs,H x=some (.ins t.a_D dx (DF c ts bs))/\(0≤n/\n<c)/\Q .non H:=rfl
def fol(ts:List P2)(n:Int):List Int:=(ts.filter (fun p=>decide (p.1=n))).map (·.2)
def src(ts:List P2)(n:Int):List Int:=(ts.filter (fun p=>decide (p.2=n))).map (·.1)
def bwd(bs:List P2)(n:Int):List Int:=src bs n++fol bs n
def du(t:Ad):Sp':=fun vs H Q _=>match vs with
 | [.ref x,.int n]=>∃dx c ts bs,H x=some (.ins t.a_D dx (DF c ts bs))/\(0≤n/\n<c)/\ts.length≤15/\Q (.tup ((src ts n).map PV.int)) H
 | _=>False
theorem oP{x:Addr}{n:Int}{H:PHp}{Q:VK'}{E:XK'}:du t [.ref x,.int n] H Q E=∃dx c ts bs,H x=some (.ins t.a_D dx (DF c ts bs))/\(0≤n/\n<c)/\ts.length≤15/\Q (.tup ((src ts n).map PV.int)) H:=rfl
def cv(t:Ad):Sp':=fun vs H Q _=>match vs with
 | [.ref x,.int n]=>∃dx c ts bs,H x=some (.ins t.a_D dx (DF c ts bs))/\(0≤n/\n<c)/\ts.length≤15/\Q (.tup ((fol ts n).map PV.int)) H
 | _=>False
theorem lG{x:Addr}{n:Int}{H:PHp}{Q:VK'}{E:XK'}:cv t [.ref x,.int n] H Q E=∃dx c ts bs,H x=some (.ins t.a_D dx (DF c ts bs))/\(0≤n/\n<c)/\ts.length≤15/\Q (.tup ((fol ts n).map PV.int)) H:=rfl
def g8:Sp':=fun vs H Q _=>match vs with
 | [.fls l,.int k]=>(0≤k/\k<100)/\∃ns:List Int,l=ns.map PV.int/\Q (.int (ns.getD k.toNat 0)) H
 | _=>False
theorem yQ{l:List PV}{k:Int}{H:PHp}{Q:VK'}{E:XK'}:g8 [.fls l,.int k] H Q E=((0≤k/\k<100)/\∃ns:List Int,l=ns.map PV.int/\Q (.int (ns.getD k.toNat 0)) H):=rfl
theorem gr{l:List PV}{i:Nat}(h:i<l.length):atI l ((i:Nat):Int)=some l[i]:=by
 unfold atI ixN;rw[if_pos (by omega),if_pos (by omega)];show l[((i:Nat):Int).toNat]?=_;rw[Int.toNat_natCast,List.getElem?_eq_getElem h]
theorem qj{α β:Type}{R:α->β->Prop}:∀{l:List α} {m:List β} {i:Nat},Paired R l m->(hi:i<l.length)->(hj:i<m.length)->R l[i] m[i]
 | _::_,_::_,0,.cons h _,_,_=>h
 | _::_,_::_,i+1,.cons _ t,hi,hj=>qj t (by simpa using hi) (by simpa using hj)
theorem fY{α β:Type}{R:α->β->Prop}{x:α}:∀{l:List α} {m:List β},Paired R l m->x∈l->∃y∈m,R x y
 | _::_,_::_,.cons h t,hx=>by
  rcases List.mem_cons.mp hx with rfl | hx
  ·exact⟨_,List.mem_cons_self,h⟩
  ·obtain⟨y,hy,r⟩:=fY t hx;exact⟨y,List.mem_cons_of_mem _ hy,r⟩
theorem fm{a b:Int}(h:0<b):0≤a.fmod b/\a.fmod b<b:=by
 rw[Int.fmod_eq_emod_of_nonneg _ (by omega)];exact⟨Int.emod_nonneg _ (by omega),Int.emod_lt_of_pos _ h⟩
theorem kG{A B:PHp}{x:Addr}{o:PO}(s:∀a u,a≠x->A a=some u->B a=some u)(h:B x=some o):U.Sub (put A x o) B:=fun a u e=>by
 by_cases q:a=x
 ·subst q;rw[ai]at e;cases e;exact h
 ·rw[ar q]at e;exact s a u q e
theorem d0{f:Str}{v:PV}:∀{fs:List (Str×PV)},(iw f v fs).length≤fs.length+1
 | []=>by simp[iw]
 |(g,y)::r=>by
  unfold iw;split
  ·simp
  ·have:=d0 (f:=f) (v:=v) (fs:=r);simp only[List.length_cons];omega
theorem jJ{i j:Int}(h:j≠0)(f:j.natAbs<2 ^ 64):tD i j:=⟨h,(show My.BN 64 j from f).fit (by decide)⟩
theorem v9{i:Int}(f:i.natAbs<2 ^ 64):Fit i:=(show My.BN 64 i from f).fit (by decide)
def lJ(H:PHp)(y:PV):PV:=match y with
 | .ref r=>(match H r with | some (.lst l)=>.tup l | _=>.non)
 | y=>y
theorem cY{H:PHp}{r:Addr}{l:List PV}(h:H r=some (.lst l)):lJ H (.ref r)=.tup l:=by
 unfold lJ;dsimp only;rw[h]
theorem fO{H:PHp}:∀{ys:List PV} {ps:List P2},Rows H ys ps->ys.map (lJ H)=ps.map prV
 | [],[],.nil=>rfl
 | y::ys,p::ps,.cons h t=>by
  rw[List.map_cons,List.map_cons,fO t];congr 1;rcases h with rfl |⟨r,rfl,hr⟩
  ·rfl
  ·exact cY hr
theorem Rows.up{H H1:PHp}{ys:List PV}{ps:List P2}(h:Rows H ys ps)(s:U.Sub H H1):Rows H1 ys ps:=Paired.mapP h fun y p r=>r.elim .inl fun⟨q,e,hq⟩=>.inr ⟨q,e,s _ _ hq⟩
theorem da{H:PHp}:∀{ps:List P2},Rows H (ps.map prV) ps
 | []=>.nil
 | _::_=>.cons (.inl rfl) da
def at1(n:Int)(y:PV):Bool:=match y with | .tup [.int _,.int v]=>decide (v=n) | _=>false
def at0(n:Int)(y:PV):Bool:=match y with | .tup [.int u,.int _]=>decide (u=n) | _=>false
def g0(y:PV):PV:=match y with | .tup [u,_]=>u | _=>.non
def g1(y:PV):PV:=match y with | .tup [_,v]=>v | _=>.non
theorem src_list{n:Int}:∀{ts:List P2},((ts.map prV).filter (at1 n)).map g0=((ts.filter (fun p=>decide (p.2=n))).map (·.1)).map PV.int
 | []=>rfl
 | p::ts=>by
  have e:at1 n (prV p)=decide (p.2=n):=rfl;rw[List.map_cons,List.filter_cons,List.filter_cons,e];by_cases q:decide (p.2=n)=true
  ·rw[if_pos q,if_pos q,List.map_cons,List.map_cons,List.map_cons,src_list];rfl
  ·rw[if_neg q,if_neg q,src_list]
theorem fC{n:Int}:∀{ts:List P2},((ts.map prV).filter (at0 n)).map g1=((ts.filter (fun p=>decide (p.1=n))).map (·.2)).map PV.int
 | []=>rfl
 | p::ts=>by
  have e:at0 n (prV p)=decide (p.1=n):=rfl;rw[List.map_cons,List.filter_cons,List.filter_cons,e];by_cases q:decide (p.1=n)=true
  ·rw[if_pos q,if_pos q,List.map_cons,List.map_cons,List.map_cons,fC];rfl
  ·rw[if_neg q,if_neg q,fC]
structure GJ (v j:Int) (l:List P2):Prop where
 nd:l.Nodup
 lo:∀p∈l,0≤p.1/\p.1<p.2/\(p.2<v∨(p.2=v/\p.1<j))
theorem GJ.app{v j:Int}{l:List P2}(h:GJ v j l)(h0:0≤j)(hj:j<v):GJ v (j+1) (l++[(j,v)]):=by
 refine⟨List.nodup_append.mpr ⟨h.nd,by simp,?_⟩,fun p hp=>?_⟩
 ·intro a ha b hb e;rw[List.mem_singleton]at hb;subst hb;subst e;have:=h.lo _ ha;simp only at this;omega
 ·rcases List.mem_append.mp hp with hp | hp
  ·have:=h.lo p hp;omega
  ·rw[List.mem_singleton]at hp;subst hp;exact⟨h0,hj,.inr ⟨rfl,Int.lt_succ j⟩⟩
theorem GJ.up{v j:Int}{l:List P2}(h:GJ v j l):GJ v (j+1) l:=⟨h.nd,fun p hp=>by have:=h.lo p hp;omega⟩
theorem GJ.of{v:Int}{l:List P2}(h:Good v l):GJ v 0 l:=⟨h.nd,fun p hp=>by have:=h.lo p hp;omega⟩
theorem GJ.good{v:Int}{l:List P2}(h:GJ v v l):Good (v+1) l:=⟨h.nd,fun p hp=>by have:=h.lo p hp;omega⟩
theorem a9{l:List Int}:(l.map PV.int).all (flat 8)=true:=by
 rw[List.all_eq_true];intro z hz;obtain⟨p,_,rfl⟩:=List.mem_map.mp hz;rfl
theorem bE{l:List Int}{n:Int}:((l.map PV.int).any fun z=>deq z (.int n))=decide (n∈l):=by
 rw[Bool.eq_iff_iff,List.any_eq_true,decide_eq_true_eq];constructor
 ·rintro⟨z,hz,e⟩;obtain⟨p,hp,rfl⟩:=List.mem_map.mp hz;have:p=n:=by simpa[deq]using e
  rw[←this];exact hp
 ·intro h;exact⟨_,List.mem_map.mpr ⟨_,h,rfl⟩,by simp[deq]⟩
def swp(p:P2):P2:=(p.2,p.1)
structure Nms (c:Int) (L:List Int):Prop where
 up:L.Pairwise (·<·)
 lo:∀x∈L,0≤x/\x<c
theorem Nms.nd{c:Int}{L:List Int}(h:Nms c L):L.Nodup:=h.up.imp fun h=>by omega
theorem Nms.len{c:Int}{L:List Int}(h:Nms c L)(hc:c≤6):L.length≤6:=My.bH 6 L h.nd fun x hx=>by have:=h.lo x hx;omega
def Ins(t:Ad)(H:PHp)(x:Addr)(c:Int)(ts:List P2):Prop:=∃dx bs,H x=some (.ins t.a_D dx (DF c ts bs))
theorem Ins.up{t:Ad}{H H1:PHp}{x:Addr}{c:Int}{ts:List P2}(h:Ins t H x c ts)(s:U.Sub H H1):Ins t H1 x c ts:=by
 obtain⟨dx,bs,e⟩:=h;exact⟨dx,bs,s _ _ e⟩
def dt(t:Ad):Sp':=fun vs H Q _=>match vs with
 | [.ref x,.tup l]=>∃c ts,∃L:List Int,Ins t H x c ts/\l=L.map PV.int/\Nms c L/\Q .non H
 | _=>False
theorem qi{x:Addr}{l:List PV}{H:PHp}{Q:VK'}{E:XK'}:dt t [.ref x,.tup l] H Q E=∃c ts,∃L:List Int,Ins t H x c ts/\l=L.map PV.int/\Nms c L/\Q .non H:=rfl
def jV(t:Ad)(f:P2->P2):Sp':=fun vs H Q _=>match vs with
 | [.ref x,.tup l]=>∃c ts,∃L:List Int,Ins t H x c ts/\l=L.map PV.int/\Nms c L/\(1≤c/\c≤6)/\Good c ts/\∀M:List Int,M.Pairwise (·<·)->(∀y,y∈M↔My.Reach (ts.map f) L y)->Q (.tup (M.map PV.int)) H
 | _=>False
theorem Ba{f:P2->P2}{x:Addr}{l:List PV}{H:PHp}{Q:VK'}{E:XK'}:jV t f [.ref x,.tup l] H Q E=∃c ts,∃L:List Int,Ins t H x c ts/\l=L.map PV.int/\Nms c L/\(1≤c/\c≤6)/\Good c ts/\∀M:List Int,M.Pairwise (·<·)->(∀y,y∈M↔My.Reach (ts.map f) L y)->Q (.tup (M.map PV.int)) H:=rfl
def Dm(b:Bool):P2->P2:=if b then swp else fun p=>p
theorem sM{c:Int}{E:List P2}{S:List Int}(hE:∀a b,(a,b)∈E->0≤b/\b<c)(hS:∀x∈S,0≤x/\x<c){y:Int}(r:My.Reach E S y):0≤y/\y<c:=by
 cases r with
 | base h=>exact hS _ h
 | step _ e=>exact hE _ _ e
def onI(q:Int->Bool)(y:PV):Bool:=match y with | .int u=>q u | _=>false
def ulN(c:Int):List Int:=(List.range c.toNat).map fun k=>((k:Nat):Int)
def dlN(c:Int):List Int:=(List.range c.toNat).map fun k=>c - 1 - ((k:Nat):Int)
theorem Ar(c:Int):(ulN c).Pairwise (·<·):=by
 unfold ulN;rw[List.pairwise_map];exact List.pairwise_lt_range.imp fun h=>by omega
theorem ni(c:Int):(dlN c).Pairwise (·>·):=by
 unfold dlN;rw[List.pairwise_map];refine List.Pairwise.imp (fun {a b} h=>?_) (List.pairwise_lt_range (n:=c.toNat));show c - 1 - ((a:Nat):Int)>c - 1 - ((b:Nat):Int);omega
theorem hU{c x:Int}:x∈ulN c↔0≤x/\x<c:=by
 unfold ulN;simp only[List.mem_map,List.mem_range];constructor
 ·rintro⟨k,hk,rfl⟩;omega
 ·intro h;exact⟨x.toNat,by omega,by omega⟩
theorem jC{c x:Int}:x∈dlN c↔0≤x/\x<c:=by
 unfold dlN;simp only[List.mem_map,List.mem_range];constructor
 ·rintro⟨k,hk,rfl⟩;omega
 ·intro h;exact⟨(c - 1 - x).toNat,by omega,by omega⟩
theorem xI{R:Int->Int->Prop}{E:List P2}{L:List Int}(hp:L.Pairwise R)(as:∀a b,R a b->¬R b a)(hE:∀a b,(a,b)∈E->a∈L/\R a b):My.Fwd E L:=by
 intro a b e L1 L2 hl hb;obtain⟨ha,hr⟩:=hE a b e;rw[hl]at ha hp;rcases List.mem_append.mp ha with h | h
 ·exact h
 ·exact absurd ((List.pairwise_append.mp hp).2.2 b hb a h) (as _ _ hr)
theorem nW{ts:List P2}{a b:Int}:(a,b)∈ts.map swp↔(b,a)∈ts:=by
 rw[List.mem_map];constructor
 ·rintro⟨p,hp,e⟩;unfold swp at e;cases e;exact hp
 ·intro h;exact⟨_,h,rfl⟩
theorem rH{c:Int}{ts:List P2}{L:List Int}(g:Good c ts)(y:Int):y∈(dlN c).foldl (My.bS (ts.map swp)) L↔My.Reach (ts.map swp) L y:=by
 refine My.pS (fun a b e=>?_) (xI (ni c) (fun a b h=>by omega) fun a b e=>?_) ((ni c).imp fun h=>by omega) y
 ·have:=g.lo _ (nW.mp e);simp only at this;exact jC.mpr ⟨by omega,by omega⟩
 ·have:=g.lo _ (nW.mp e);simp only at this;exact⟨jC.mpr ⟨by omega,by omega⟩,by omega⟩
theorem kl{n:Int}:∀{ts:List P2},My.outs (ts.map swp) n=(ts.filter (fun p=>decide (p.2=n))).map (·.1)
 | []=>rfl
 | p::ts=>by
  have ih:=kl (n:=n) (ts:=ts);unfold My.outs at ih ⊢;rw[List.map_cons,List.filter_cons,List.filter_cons];by_cases h:decide (p.2=n)=true
  ·have h':decide ((swp p).1=n)=true:=h;rw[if_pos h,if_pos h',List.map_cons,List.map_cons,ih];rfl
  ·have h':¬decide ((swp p).1=n)=true:=h;rw[if_neg h,if_neg h',ih]
theorem qW{E:List P2}{n:Int}:(My.outs E n).length≤E.length:=by
 unfold My.outs;rw[List.length_map];exact List.length_filter_le _ _
theorem p8{E:List P2}{f:List Int}{n:Int}:(My.bS E f n).length≤f.length+E.length:=by
 unfold My.bS;split
 ·rw[List.length_append];have:=qW (E:=E) (n:=n);omega
 ·omega
theorem pd{α β:Type}{f:β->α->β}{l:List α}{i:Nat}{b:β}{x:α}(h:l[i]?=some x):(l.take (i+1)).foldl f b=f ((l.take i).foldl f b) x:=by
 rw[List.take_add_one,h,List.foldl_append];rfl
theorem qD{c:Int}{ps:List P2}(g:Good c ps)(b:Bool):∀x y,(x,y)∈ps.map (Dm b)->0≤y/\y<c:=by
 intro x y h;obtain⟨p,hp,e⟩:=List.mem_map.mp h;have:=g.lo p hp;cases b with
 | true=>have e':swp p=(x,y):=e;unfold swp at e';cases e';omega
 | false=>have e':p=(x,y):=e;subst e';simp only at this;omega
theorem pJ{c:Int}{F:List Int}{ms:List Nat}{R:Int->Prop}(hc:c≤6)(hF:∀x∈F,0≤x/\x<c)(hR:∀y,y∈F↔R y)(hs:ms.Pairwise (·<·))(hm:∀x,x∈ms↔x∈F.map Int.toNat) :
  ((ms.map fun(n:Nat)=>(n:Int)).Pairwise (·<·))/\∀y,y∈(ms.map fun(n:Nat)=>(n:Int))↔R y:=by
 constructor
 ·rw[List.pairwise_map];exact hs.imp fun h=>by omega
 ·intro y;rw[←hR,List.mem_map];constructor
  ·rintro⟨n,hn,rfl⟩;obtain⟨z,hz,e⟩:=List.mem_map.mp ((hm n).mp hn);have:=hF z hz;have:((n:Nat):Int)=z:=by omega
   rw[this];exact hz
  ·intro h;have:=hF y h;exact⟨y.toNat,(hm _).mpr (List.mem_map.mpr ⟨y,h,rfl⟩),by omega⟩
def fx(t:Ad):Sp':=fun vs H Q _=>match vs with
 | [.ref x,.int n]=>∃dx c ts bs,H x=some (.ins t.a_D dx (DF c ts bs))/\(0≤n/\n<c)/\bs.length≤15/\Q (.tup ((bwd bs n).map PV.int)) H
 | _=>False
theorem uL{x:Addr}{n:Int}{H:PHp}{Q:VK'}{E:XK'}:fx t [.ref x,.int n] H Q E=∃dx c ts bs,H x=some (.ins t.a_D dx (DF c ts bs))/\(0≤n/\n<c)/\bs.length≤15/\Q (.tup ((bwd bs n).map PV.int)) H:=rfl
def Ak(bs:List P2)(L:List Int):List P2:=bs.filter fun p=>decide (p.1∈L)&&decide (p.2∈L)
def both(bs:List P2)(L:List Int):List P2:=Ak bs L++(Ak bs L).map swp
def tupI(M:List Int):PV:=.tup (M.map PV.int)
structure OkD (c:Int) (ts bs:List P2):Prop where
 c1:1≤c
 c6:c≤6
 gt:Good c ts
 gb:Good c bs
 st:Srt ts
 sb:Srt bs
 b6:bs.length≤6
def FT(k:Nat)(L:List Int)(p:P2):Bool:=match k with
 | 0=>decide (p.1∈L)&&decide (p.2∈L)
 | 1=>!decide (p.2∈L)
 | _=>!decide (p.1∈L)
def FB(k:Nat)(L:List Int)(p:P2):Bool:=match k with
 | 0=>decide (p.1∈L)&&decide (p.2∈L)
 | 1=>!decide (p.1∈L)&&!decide (p.2∈L)
 | _=>true
theorem gG{c:Int}{ps:List P2}(g:Good c ps)(f:P2->Bool):Good c (ps.filter f):=⟨g.nd.sublist List.filter_sublist,fun p hp=>g.lo p (List.mem_filter.mp hp).1⟩
theorem OkD.filter{c:Int}{ts bs:List P2}(h:OkD c ts bs)(f g:P2->Bool):OkD c (ts.filter f) (bs.filter g) :=
 ⟨h.c1,h.c6,gG h.gt f,gG h.gb g,List.Pairwise.sublist List.filter_sublist h.st,List.Pairwise.sublist List.filter_sublist h.sb,Nat.le_trans (List.length_filter_le _ _) h.b6⟩
def Dr(t:Ad)(H:PHp)(x:Addr)(c:Int)(ts bs:List P2):Prop:=∃dx,H x=some (.ins t.a_D dx (DF c ts bs))
theorem Dr.up{t:Ad}{H H1:PHp}{x:Addr}{c:Int}{ts bs:List P2}(h:Dr t H x c ts bs)(s:U.Sub H H1):Dr t H1 x c ts bs:=by
 obtain⟨dx,e⟩:=h;exact⟨dx,s _ _ e⟩
def shp(c:Int)(ts bs:List P2):PV:=.tup [.int c,.tup (ts.map prV),.tup (bs.map prV)]
abbrev Sd:=Int×Bool
def sdV(s:Sd):PV:=.tup [.int s.1,.bl s.2]
abbrev Sp3:=My.Stp Str
def stV(s:Sp3):PV:=.tup [.int s.1,.str s.2.1,.int s.2.2]
theorem dg{ts:List P2}{n m:Int}:m∈fol ts n↔(n,m)∈ts:=by
 unfold fol;simp only[List.mem_map,List.mem_filter,decide_eq_true_eq];exact⟨fun⟨p,⟨h,e⟩,f⟩=>by subst e;subst f;exact h,fun h=>⟨_,⟨h,rfl⟩,rfl⟩⟩
theorem fH{ts:List P2}{n m:Int}:m∈src ts n↔(m,n)∈ts:=by
 unfold src;simp only[List.mem_map,List.mem_filter,decide_eq_true_eq];exact⟨fun⟨p,⟨h,e⟩,f⟩=>by subst e;subst f;exact h,fun h=>⟨_,⟨h,rfl⟩,rfl⟩⟩
theorem jD{bs:List P2}{n m:Int}:m∈bwd bs n↔(n,m)∈bs∨(m,n)∈bs:=by
 unfold bwd;rw[List.mem_append,fH,dg,or_comm]
def EdG(ts bs:List P2)(s:Sp3):Prop:=(s.2.1="down"/\(s.1,s.2.2)∈ts)∨(s.2.1="up"/\(s.2.2,s.1)∈ts)∨(s.2.1="bow"/\((s.1,s.2.2)∈bs∨(s.2.2,s.1)∈bs))
def stp(ts bs:List P2)(n:Int):List Sp3:=(fol ts n).map (fun m=>(n,("down":Str),m))++(src ts n).map (fun m=>(n,("up":Str),m))++(bwd bs n).map (fun m=>(n,("bow":Str),m))
theorem gQ{ts bs:List P2}{n:Int}{s:Sp3}:s∈stp ts bs n↔s.1=n/\EdG ts bs s:=by
 obtain⟨a,k,b⟩:=s;unfold stp EdG;simp only[List.mem_append,List.mem_map,dg,fH,jD,Prod.mk.injEq];constructor
 ·rintro((⟨m,h,rfl,rfl,rfl⟩ |⟨m,h,rfl,rfl,rfl⟩) |⟨m,h,rfl,rfl,rfl⟩)
  ·exact⟨rfl,.inl ⟨rfl,h⟩⟩
  ·exact⟨rfl,.inr (.inl ⟨rfl,h⟩)⟩
  ·exact⟨rfl,.inr (.inr ⟨rfl,h⟩)⟩
 ·rintro⟨rfl,⟨rfl,h⟩ |⟨rfl,h⟩ |⟨rfl,h⟩⟩
  ·exact .inl (.inl ⟨_,h,rfl,rfl,rfl⟩)
  ·exact .inl (.inr ⟨_,h,rfl,rfl,rfl⟩)
  ·exact .inr ⟨_,h,rfl,rfl,rfl⟩
theorem tM{c:Int}{ts bs:List P2}(gt:Good c ts)(gb:Good c bs){s:Sp3}(h:EdG ts bs s):(0≤s.1/\s.1<c)/\0≤s.2.2/\s.2.2<c:=by
 rcases h with⟨_,h⟩ |⟨_,h⟩ |⟨_,h | h⟩
 ·have:=gt.lo _ h;simp only at this;omega
 ·have:=gt.lo _ h;simp only at this;omega
 ·have:=gb.lo _ h;simp only at this;omega
 ·have:=gb.lo _ h;simp only at this;omega
theorem qA{c:Int}{ts:List P2}(g:Good c ts)(n:Int):(fol ts n).Nodup:=by
 unfold fol;rw[List.nodup_iff_pairwise_ne,List.pairwise_map];refine List.Pairwise.imp_of_mem (fun {x y} hx hy hxy e=>hxy ?_) (List.nodup_iff_pairwise_ne.mp (g.nd.sublist List.filter_sublist));simp only[List.mem_filter,decide_eq_true_eq]at hx hy;exact Prod.ext (hx.2.trans hy.2.symm) e
theorem tJ{c:Int}{ts:List P2}(g:Good c ts)(n:Int):(src ts n).Nodup:=by
 unfold src;rw[List.nodup_iff_pairwise_ne,List.pairwise_map];refine List.Pairwise.imp_of_mem (fun {x y} hx hy hxy e=>hxy ?_) (List.nodup_iff_pairwise_ne.mp (g.nd.sublist List.filter_sublist));simp only[List.mem_filter,decide_eq_true_eq]at hx hy;exact Prod.ext e (hx.2.trans hy.2.symm)
theorem cJ{c:Int}{ts:List P2}(g:Good c ts)(hc:c≤6)(n:Int):(fol ts n).length≤6:=My.bH 6 _ (qA g n) fun x hx=>by have:=g.lo _ (dg.mp hx);simp only at this;omega
theorem dm{c:Int}{ts:List P2}(g:Good c ts)(hc:c≤6)(n:Int):(src ts n).length≤6:=My.bH 6 _ (tJ g n) fun x hx=>by have:=g.lo _ (fH.mp hx);simp only at this;omega
theorem df{c:Int}{ts:List P2}(g:Good c ts)(hc:c≤6)(n:Int):(bwd ts n).length≤6:=by
 refine My.bH 6 _ (List.nodup_append.mpr ⟨tJ g n,qA g n,fun x hx y hy e=>?_⟩) fun x hx=>?_
 ·subst e;have h1:=g.lo _ (fH.mp hx);have h2:=g.lo _ (dg.mp hy);simp only at h1 h2;omega
 ·rcases jD.mp hx with h | h
  ·have:=g.lo _ h;simp only at this;omega
  ·have:=g.lo _ h;simp only at this;omega
theorem gU{c:Int}{ts bs:List P2}(gt:Good c ts)(gb:Good c bs)(hc:c≤6)(n:Int):(stp ts bs n).length≤18:=by
 unfold stp;have h1:=cJ gt hc n;have h2:=dm gt hc n;have h3:=df gb hc n;simp only[List.length_append,List.length_map];omega
def mtg(s s':Sp3):Bool:=!(s.2.1=="up")&&!(s'.2.1=="down")
def psd(G A:List Int)(s s':Sp3):Bool:=if mtg s s' then decide (s.2.2∈A)else !decide (s.2.2∈G)
abbrev LnG(G A:List Int):=My.Lnk ("down":Str) "up" G A
abbrev RdG(ts bs:List P2)(G A ones:List Int)(r:List Sp3):=My.Rd (EdG ts bs) ("down":Str) "up" G A ones r
abbrev RSG(ts bs:List P2)(G A ones:List Int):=My.RS (EdG ts bs) ("down":Str) "up" G A ones
theorem tq:("down":Str)≠"up":=by decide
theorem zX:decide (("down":Str)≠"up")=true:=by decide
theorem zR:decide (("up":Str)≠"up")=false:=by decide
theorem BC:decide (("bow":Str)≠"up")=true:=by decide
theorem fL{s s':Sp3}:mtg s s'=true↔s.2.1≠"up"/\s'.2.1≠"down":=by
 unfold mtg;simp
theorem oo{G A:List Int}{s s':Sp3}:LnG G A s s'↔s.2.2=s'.1/\psd G A s s'=true:=by
 constructor
 ·intro h;refine⟨h.jn,?_⟩;unfold psd;split
  ·rename_i m;have:=fL.mp m;exact decide_eq_true (h.mt this.1 this.2)
  ·rename_i m;have:s.2.2∉G:=h.no (by
    by_cases e:s.2.1="up"
    ·exact .inl e
    ·exact .inr (Classical.byContradiction fun z=>m (fL.mpr ⟨e,z⟩)))
   simpa using this
 ·rintro⟨j,h⟩;unfold psd at h;refine⟨j,fun a b=>?_,fun a=>?_⟩
  ·rw[if_pos (fL.mpr ⟨a,b⟩)]at h;exact of_decide_eq_true h
  ·rw[if_neg (fun z=>by have:=fL.mp z;rcases a with a | a;exact this.1 a;exact this.2 a)]at h;simpa using h
def bes(ts bs:List P2)(G A:List Int)(s:Sd):List Sd :=
 (if s.1∈G then []else(fol ts s.1).map fun m=>(m,true))++(if (s.2=true/\s.1∈A)∨(s.2=false/\s.1∉G)then(src ts s.1).map (fun m=>(m,false))++(bwd bs s.1).map (fun m=>(m,true))else [])
theorem vm{c:Int}{ts bs:List P2}(gt:Good c ts)(gb:Good c bs)(hc:c≤6){G A:List Int}(s:Sd):(bes ts bs G A s).length≤18:=by
 have h1:=cJ gt hc s.1;have h2:=dm gt hc s.1;have h3:=df gb hc s.1;unfold bes;rw[List.length_append];have a:(if s.1∈G then []else(fol ts s.1).map fun m=>(m,true)).length≤6:=by split<;>simp<;>omega
 have b:(if (s.2=true/\s.1∈A)∨(s.2=false/\s.1∉G)then(src ts s.1).map (fun m=>(m,false))++(bwd bs s.1).map (fun m=>(m,true))else []).length≤12:=by split<;>simp<;>omega
 omega
theorem oI{ts bs:List P2}{G A:List Int}{s z:Sd}:z∈bes ts bs G A s↔(s.1∉G/\(s.1,z.1)∈ts/\z.2=true)∨(((s.2=true/\s.1∈A)∨(s.2=false/\s.1∉G))/\(((z.1,s.1)∈ts/\z.2=false)∨(((s.1,z.1)∈bs∨(z.1,s.1)∈bs)/\z.2=true))):=by
 obtain⟨x,p⟩:=z;unfold bes;rw[List.mem_append];refine or_congr ?_ ?_
 ·by_cases h:s.1∈G
  ·simp[h]
  ·simp only[if_neg h,List.mem_map,dg,Prod.mk.injEq];exact⟨fun⟨m,a,e,f⟩=>by subst e;exact⟨h,a,f.symm⟩,fun⟨_,a,f⟩=>⟨_,a,rfl,f.symm⟩⟩
 ·by_cases h:(s.2=true/\s.1∈A)∨(s.2=false/\s.1∉G)
  ·simp only[if_pos h,List.mem_append,List.mem_map,fH,jD,Prod.mk.injEq];constructor
   ·rintro(⟨m,a,rfl,rfl⟩ |⟨m,a,rfl,rfl⟩)
    ·exact⟨h,.inl ⟨a,rfl⟩⟩
    ·exact⟨h,.inr ⟨a,rfl⟩⟩
   ·rintro⟨_,⟨a,rfl⟩ |⟨a,rfl⟩⟩
    ·exact .inl ⟨_,a,rfl,rfl⟩
    ·exact .inr ⟨_,a,rfl,rfl⟩
  ·rw[if_neg h];simp only[List.not_mem_nil,h,false_and]
theorem zl{ts bs:List P2}{G A ones:List Int}{s z:Sd}(h:RSG ts bs G A ones s.1 s.2)(hz:z∈bes ts bs G A s):RSG ts bs G A ones z.1 z.2:=by
 rcases oI.mp hz with⟨hg,e,hp⟩ |⟨hc,⟨e,hp⟩ |⟨e,hp⟩⟩
 ·have:=My.RS.step (k:=("down":Str)) (m:=z.1) h (.inl ⟨rfl,e⟩) (fun _=>hg) (fun k=>absurd rfl k) (fun k=>absurd rfl k);rw[hp];exact zX▸this
 ·have:=My.RS.step (k:=("up":Str)) (m:=z.1) h (.inr (.inl ⟨rfl,e⟩)) (fun k=>absurd k.symm tq) (fun _ hp=>hc.elim (fun q=>q.2) fun q=>by rw[hp]at q;exact absurd q.1 (by decide)) (fun _ hp=>hc.elim (fun q=>by rw[hp]at q;exact absurd q.1 (by decide)) fun q=>q.2);rw[hp];exact zR▸this
 ·have:=My.RS.step (k:=("bow":Str)) (m:=z.1) h (.inr (.inr ⟨rfl,e⟩)) (fun k=>absurd k (by decide)) (fun _ hp=>hc.elim (fun q=>q.2) fun q=>by rw[hp]at q;exact absurd q.1 (by decide)) (fun _ hp=>hc.elim (fun q=>by rw[hp]at q;exact absurd q.1 (by decide)) fun q=>q.2);rw[hp];exact BC▸this
theorem u0{ts bs:List P2}{G A ones:List Int}{L:List Sd}(h0:∀x∈ones,(x,false)∈L)(hs:∀s∈L,∀z∈bes ts bs G A s,z∈L){x:Int}{p:Bool}(h:RSG ts bs G A ones x p):(x,p)∈L:=by
 induction h with
 | base h=>exact h0 _ h
 | step h e h1 h2 h3 ih =>
  rename_i n m p k;have cond:k≠"down"->(p=true/\n∈A)∨(p=false/\n∉G):=fun kd=>by
   cases p with
   | true=>exact .inl ⟨rfl,h2 kd rfl⟩
   | false=>exact .inr ⟨rfl,h3 kd rfl⟩
  refine hs (n,p) ih _ (oI.mpr ?_);rcases e with⟨ek,e⟩ |⟨ek,e⟩ |⟨ek,e⟩
  ·have ek:k="down":=ek;subst ek;exact .inl ⟨h1 rfl,e,zX⟩
  ·have ek:k="up":=ek;subst ek;exact .inr ⟨cond (by decide),.inl ⟨e,zR⟩⟩
  ·have ek:k="bow":=ek;subst ek;exact .inr ⟨cond (by decide),.inr ⟨e,BC⟩⟩
def zy(c:Int):List Sd:=(ulN c).flatMap fun x=>[(x,false),(x,true)]
theorem ma{c:Int}(hc:c≤6){L:List Sd}(nd:L.Nodup)(h:∀s∈L,0≤s.1/\s.1<c):L.length≤12:=by
 have h1:L.length≤(zy c).length:=DM.bH nd fun s hs=>by
  unfold zy;obtain⟨x,p⟩:=s;rw[List.mem_flatMap];refine⟨x,hU.mpr (h _ hs),?_⟩;cases p<;>simp
 have h2:(zy c).length≤(ulN c).length*2:=My.cW fun x _=>by simp
 have h3:(ulN c).length≤6:=by unfold ulN;rw[List.length_map,List.length_range];omega
 omega
theorem n5{c:Int}{ts bs:List P2}{G A ones:List Int}(gt:Good c ts)(gb:Good c bs)(h1:∀x∈ones,0≤x/\x<c){x:Int}{p:Bool}(h:RSG ts bs G A ones x p):0≤x/\x<c:=by
 cases h with
 | base h=>exact h1 x h
 | step _ e _ _ _=>exact(tM gt gb e).2
def aZ(H:PHp)(q:Addr)(vs:List PV)(ls:List (List PV)):Prop:=Paired (fun v l=>∃r,v=PV.ref r/\r≠q/\H r=some (.lst l)) vs ls
theorem aZ.up{H H1:PHp}{q:Addr}{vs:List PV}{ls:List (List PV)}(h:aZ H q vs ls)(s:U.Sub H H1):aZ H1 q vs ls:=Paired.mapP h fun _ _ ⟨r,e,n,hr⟩=>⟨r,e,n,s _ _ hr⟩
theorem aZ.put{H:PHp}{q:Addr}{o:PO}{vs:List PV}{ls:List (List PV)}(h:aZ H q vs ls):aZ (U.put H q o) q vs ls:=Paired.mapP h fun _ _ ⟨r,e,n,hr⟩=>⟨r,e,n,(ar n).trans hr⟩
theorem gZ{α β:Type}{R:α->β->Prop}{a:α}{b:β}(r:R a b):∀{l:List α} {m:List β},Paired R l m->Paired R (l++[a]) (m++[b])
 | [],[],.nil=>.cons r .nil
 | _::_,_::_,.cons h t=>.cons h (gZ r t)
theorem aZ.snoc{H:PHp}{q r:Addr}{vs:List PV}{ls:List (List PV)}{l:List PV}(h:aZ H q vs ls)(n:r≠q)(e:H r=some (.lst l)):aZ H q (vs++[.ref r]) (ls++[l]):=gZ ⟨r,rfl,n,e⟩ h
theorem wK{α β:Type}{R:α->β->Prop}{v:α}:∀{l:List α} {m:List β} {i:Nat},Paired R l m->l[i]?=some v->∃w,m[i]?=some w/\R v w
 | _::_,_::_,0,.cons h _,e=>by cases e;exact⟨_,rfl,h⟩
 | _::_,_::_,i+1,.cons _ t,e=>by obtain⟨w,q,r⟩:=wK (i:=i) t (by simpa using e);exact⟨w,by simpa using q,r⟩
 | [],[],i,.nil,e=>by simp at e
theorem aZ.at{H:PHp}{q:Addr}{vs:List PV}{ls:List (List PV)}{i:Nat}{v:PV}(h:aZ H q vs ls)(e:vs[i]?=some v):∃l r,ls[i]?=some l/\v=.ref r/\r≠q/\H r=some (.lst l):=by
 obtain⟨l,hl,r,e,n,hr⟩:=wK h e;exact⟨l,r,hl,e,n,hr⟩
theorem aZ.len{H:PHp}{q:Addr}{vs:List PV}{ls:List (List PV)}(h:aZ H q vs ls):vs.length=ls.length:=Paired.length h
theorem aZ.fr{H H0:PHp}{a q:Addr}{o:PO}(e:H0 q=some o):∀{vs:List PV} {ls:List (List PV)},aZ H a vs ls->(∀v∈vs,∀b,v=.ref b->H0 b=none)->aZ H q vs ls
 | [],[],_,_=>.nil
 | _::_,_::_,.cons ⟨r,er,_,hr⟩ t,f=>.cons ⟨r,er,(au e (f _ List.mem_cons_self r er)).symm,hr⟩ (aZ.fr e t fun v hv=>f v (List.mem_cons_of_mem _ hv))
def Frs(H:PHp)(vs:List PV):Prop:=∀v∈vs,∀b,v=PV.ref b->H b=none
theorem Frs.nil{H:PHp}:Frs H []:=fun _ h=>by cases h
theorem Frs.app{H:PHp}{vs ws:List PV}(a:Frs H vs)(b:Frs H ws):Frs H (vs++ws):=fun v hv=>(List.mem_append.mp hv).elim (a v) (b v)
theorem Frs.one{H:PHp}{r:Addr}(h:H r=none):Frs H [.ref r]:=fun v hv b e=>by rw[List.mem_singleton]at hv;rw[hv]at e;cases e;exact h
theorem Frs.mono{H H1:PHp}{vs:List PV}(s:U.Sub H H1)(h:Frs H1 vs):Frs H vs:=fun v hv b e=>s.free (h v hv b e)
theorem Frs.sub{H:PHp}{vs ws:List PV}(h:Frs H vs)(k:∀v∈ws,v∈vs):Frs H ws:=fun v hv=>h v (k v hv)
theorem iu{l:List PV}{y:PV}:atI (l++[y]) (-1)=some y:=by
 unfold atI ixN;rw[if_neg (by omega),List.length_append,List.length_singleton,if_pos (by omega),show(-1+((l.length+1:Nat):Int)).toNat=l.length by omega];simp
theorem k9{ok:PHp->Prop}{g:TG'}{tt:TT'}{te:TE'}{acc:Addr}{Q:VK'}{H1:PHp}{xs:List PV}(f:PV->PV)(pz:PV->Bool)(Iv:St'->Prop)(hlen:xs.length≤sizeLine)(hok:∀l,ok (put H1 acc (.lst l)))
  (hs:∀x∈xs,∀(l:List PV) (σ:St') (R:St'->PHp->Prop),Iv σ->l.length<sizeLine->(pz x=true->∀σ3,Iv σ3->R σ3 (put H1 acc (.lst (l++[f x]))))->(pz x=false->∀σ3,Iv σ3->R σ3 (put H1 acc (.lst l))) ->
   g x σ (put H1 acc (.lst l)) fun σ3 H2=>tt σ3 H2 fun b H3=>cif b (te σ3 H3 fun y H4=>∃l',H4 acc=some (.lst l')/\l'.length<sizeLine/\R σ3 (put H4 acc (.lst (l'++[y])))) (R σ3 H3))
  (hq:Q (.ref acc) (put H1 acc (.lst ((xs.filter pz).map f)))) {σ:St'} (h0:Iv σ):b0 ok g tt te acc Q xs σ (put H1 acc (.lst [])):=by
 have key:∀(r d:List PV) (σ:St'),xs=d++r->Iv σ->b0 ok g tt te acc Q r σ (put H1 acc (.lst ((d.filter pz).map f))):=by
  intro r
  induction r with
  | nil =>
   intro d σ e hv;have:d=xs:=by rw[e,List.append_nil]
   subst this;exact⟨hok _,hq⟩
  | cons x r ih =>
   intro d σ e hv;have hd:((d.filter pz).map f).length<sizeLine:=by
    have h1:d.length+(r.length+1)=xs.length:=by rw[e,List.length_append,List.length_cons]
    have h2:=List.length_filter_le pz d;rw[List.length_map];omega
   refine⟨hok _,hs x (by rw[e];simp) _ σ _ hv hd (fun hp σ3 h3=>?_) (fun hp σ3 h3=>?_)⟩
   ·have:=ih (d++[x]) σ3 (by rw[e];simp) h3;rw[List.filter_append,List.map_append]at this;simpa[hp]using this
   ·have:=ih (d++[x]) σ3 (by rw[e];simp) h3;rw[List.filter_append,List.map_append]at this;simpa[hp]using this
 exact key xs [] σ rfl h0
theorem Bb{x y z:PV}:atI [x,y,z] 0=some x:=rfl
theorem A6{x y z:PV}:atI [x,y,z] 1=some y:=rfl
theorem BD{x y z:PV}:atI [x,y,z] 2=some z:=rfl
theorem DO{n:Nat}{k:Str}:flat n (.str k)=true:=by cases n<;>rfl
theorem mX{n:Int}{k:Str}{L:List Int}:((L.map PV.int).filter (fun _=>true)).map (fun y=>PV.tup [.int n,.str k,y])=(L.map fun m=>((n,k,m):Sp3)).map stV:=by
 rw[List.filter_eq_self.mpr (fun _ _=>rfl),List.map_map,List.map_map];rfl
theorem fZ{b:Bool}{L:List Int}:((L.map PV.int).filter (fun _=>true)).map (fun y=>PV.tup [y,.bl b])=(L.map fun m=>((m,b):Sd)).map sdV:=by
 rw[List.filter_eq_self.mpr (fun _ _=>rfl),List.map_map,List.map_map];rfl
def g32(y:PV):PV:=match y with | .tup [_,_,b]=>b | _=>.non
theorem zP{road:List Sp3}:((road.map stV).filter (fun _=>true)).map g32=(road.map (·.2.2)).map PV.int:=by
 rw[List.filter_eq_self.mpr (fun _ _=>rfl),List.map_map,List.map_map];rfl
theorem rT{α:Type}(f:α->PV)(l:List α):bO (l.map f) (some 1) none=l.tail.map f:=by
 unfold bO;rw[show(1:Int)=((1:Nat):Int)from rfl,HT.um,HT.iN,List.length_map];cases l with
 | nil=>rfl
 | cons a l =>
  rw[Nat.min_eq_left (by simp),List.map_cons,List.drop_one,List.tail_cons,List.tail_cons];exact List.take_of_length_le (by simp)
theorem se{α:Type}(f:α->PV)(l:List α):bO (l.map f) none (some (-1))=l.dropLast.map f:=by
 have e:HT.sIx (l.map f).length (l.map f).length (some (-1))=l.length - 1:=by
  unfold HT.sIx;rw[List.length_map];simp;omega
 unfold bO;rw[e,HT.iN,List.drop_zero,Nat.sub_zero,List.dropLast_eq_take,List.map_take]
def mts:List Sp3->List Int
 | s::s'::r=>if mtg s s' then s.2.2::mts (s'::r)else mts (s'::r)
 | _=>[]
def mtF(y:PV):Bool:=match y with | .tup [.tup [.int a,.str k,.int b],.tup [.int a',.str k',.int b']]=>mtg (a,k,b) (a',k',b') | _=>false
def mtN(y:PV):PV:=match y with | .tup [.tup [_,_,b],_]=>b | _=>.non
theorem m4:∀(r:List Sp3),((dX (r.dropLast.map stV) (r.tail.map stV)).filter mtF).map mtN=(mts r).map PV.int
 | []=>rfl
 | [s]=>rfl
 | s::s'::r=>by
  have ih:=m4 (s'::r);have e1:(s::s'::r).dropLast=s::(s'::r).dropLast:=rfl;have e2:(s::s'::r).tail.map stV=stV s'::(s'::r).tail.map stV:=rfl;have e3:mtF (.tup [stV s,stV s'])=mtg s s':=rfl;rw[e1,e2,List.map_cons,dX,List.filter_cons,e3];unfold mts;by_cases q:mtg s s'=true
  ·rw[if_pos q,if_pos q,List.map_cons,List.map_cons,ih];rfl
  ·rw[if_neg q,if_neg q,ih]
theorem vC:∀{l m:List PV} {z:PV},z∈dX l m->∃x∈l,∃y∈m,z=.tup [x,y]:=fun {l m z} h=>by
 obtain⟨i,hi⟩:=List.getElem?_of_mem h;obtain⟨x,y,h1,h2,e⟩:=fk hi;exact⟨x,List.mem_of_getElem? h1,y,List.mem_of_getElem? h2,e⟩
theorem gm{c:TT'}{tb:TS'}{D:cM}{σ:St'}{H:PHp}(h:∀R:TS',R=tb->jB c R D σ H):jB c tb D σ H:=h tb rfl
theorem xF{tb:TS'}{rt:VK'}{bk:St'->PHp->Prop}{σ:St'}{H1:PHp}{m:Nat}{Pv:Nat->St'->PHp->Prop}(h:∀(N bk:St'->PHp->Prop),(∀σ' H',(∃m',m'<m/\Pv m' σ' H')->N σ' H')->tb { nx:=N,rt:=rt,bk:=bk,ct:=N } σ H1) :
  ∃N:St'->PHp->Prop,(∀σ' H',N σ' H'->∃m',m'<m/\Pv m' σ' H')/\tb { nx:=N,rt:=rt,bk:=bk,ct:=N } σ H1:=⟨fun σ' H'=>∃m',m'<m/\Pv m' σ' H',fun _ _ h=>h,h _ _ fun _ _ h=>h⟩
theorem uV{L:List Sd}:(L.map sdV).all (flat 8)=true:=by
 rw[List.all_eq_true];intro z hz;obtain⟨p,_,rfl⟩:=List.mem_map.mp hz;rfl
theorem zK{L:List Sd}{n:Int}{b:Bool}:((L.map sdV).any fun z=>deq z (.tup [.int n,.bl b]))=decide ((n,b)∈L):=by
 rw[Bool.eq_iff_iff,List.any_eq_true,decide_eq_true_eq];constructor
 ·rintro⟨z,hz,e⟩;obtain⟨p,hp,rfl⟩:=List.mem_map.mp hz;simp only[sdV,deq,fK,Bool.and_true,Bool.and_eq_true,beq_iff_eq]at e;obtain⟨p1,p2⟩:=p;simp only at e;rw[←e.1,← e.2];exact hp
 ·intro h;exact⟨_,List.mem_map.mpr ⟨_,h,rfl⟩,by simp[sdV,deq,fK]⟩
structure LI (ts bs:List P2) (G A O:List Int) (W L:List Sd):Prop where
 nd:L.Nodup
 rl:∀s∈L,RSG ts bs G A O s.1 s.2
 rw:∀s∈W,RSG ts bs G A O s.1 s.2
 st:∀x∈O,(x,false)∈L∨(x,false)∈W
 sh:∀s∈L,∀z∈bes ts bs G A s,z∈L∨z∈W
theorem LI.iff{ts bs:List P2}{G A O:List Int}{L:List Sd}(h:LI ts bs G A O [] L)(s:Sd):s∈L↔RSG ts bs G A O s.1 s.2:=by
 refine⟨h.rl s,fun r=>?_⟩;have:=u0 (L:=L) (fun x hx=>(h.st x hx).resolve_right (by simp)) (fun s hs z hz=>(h.sh s hs z hz).resolve_right (by simp)) r;exact this
theorem LI.old{ts bs:List P2}{G A O:List Int}{W L:List Sd}{s:Sd}(h:LI ts bs G A O (W++[s]) L)(hs:s∈L):LI ts bs G A O W L:=by
 have go:∀z,z∈L∨z∈W++[s]->z∈L∨z∈W:=fun z hz=>by
  rcases hz with q | q
  ·exact .inl q
  ·rcases List.mem_append.mp q with q | q
   ·exact .inr q
   ·rw[List.mem_singleton.mp q];exact .inl hs
 exact⟨h.nd,h.rl,fun z hz=>h.rw z (List.mem_append_left _ hz),fun x hx=>go _ (h.st x hx),fun z hz y hy=>go _ (h.sh z hz y hy)⟩
theorem LI.new{ts bs:List P2}{G A O:List Int}{W L:List Sd}{s:Sd}(h:LI ts bs G A O (W++[s]) L)(hs:s∉L):LI ts bs G A O (W++bes ts bs G A s) (L++[s]):=by
 have go:∀z,z∈L∨z∈W++[s]->z∈L++[s]∨z∈W++bes ts bs G A s:=fun z hz=>by
  rcases hz with q | q
  ·exact .inl (List.mem_append_left _ q)
  ·rcases List.mem_append.mp q with q | q
   ·exact .inr (List.mem_append_left _ q)
   ·exact .inl (List.mem_append_right _ q)
 have rs:RSG ts bs G A O s.1 s.2:=h.rw s (by simp);refine⟨List.nodup_append.mpr ⟨h.nd,by simp,fun x hx y hy e=>hs (by rw[List.mem_singleton.mp hy]at e;rw[←e];exact hx)⟩,fun z hz=>?_,fun z hz=>?_,fun x hx=>go _ (h.st x hx),fun z hz y hy=>?_⟩
 ·rcases List.mem_append.mp hz with q | q
  ·exact h.rl z q
  ·rw[List.mem_singleton.mp q];exact rs
 ·rcases List.mem_append.mp hz with q | q
  ·exact h.rw z (List.mem_append_left _ q)
  ·exact zl rs q
 ·rcases List.mem_append.mp hz with q | q
  ·exact go _ (h.sh z q y hy)
  ·rw[List.mem_singleton.mp q]at hy;exact .inr (List.mem_append_right _ hy)
theorem fV{ok:PHp->Prop}{g:TG'}{tt:TT'}{te:TE'}{acc:Addr}{Q:VK'}{xs:List PV}(I:Nat->St'->PHp->Prop)
  (hs:∀(i:Nat) (x:PV) (σ:St') (H:PHp) (R:St'->PHp->Prop),xs[i]?=some x->I i σ H->(∀σ' H',I (i+1) σ' H'->R σ' H') ->
   ok H/\g x σ H fun σ3 H2=>tt σ3 H2 fun b H3=>cif b (te σ3 H3 fun y H4=>∃l',H4 acc=some (.lst l')/\l'.length<sizeLine/\R σ3 (put H4 acc (.lst (l'++[y])))) (R σ3 H3))
  (hq:∀σ H,I xs.length σ H->ok H/\Q (.ref acc) H) {σ:St'} {H:PHp} (h0:I 0 σ H):b0 ok g tt te acc Q xs σ H:=by
 have key:∀(r d:List PV) (σ:St') (H:PHp),xs=d++r->I d.length σ H->b0 ok g tt te acc Q r σ H:=by
  intro r
  induction r with
  | nil =>
   intro d σ H e hv;rw[List.append_nil]at e;subst e;exact hq σ H hv
  | cons x r ih =>
   intro d σ H e hv;refine hs d.length x σ H _ (by rw[e];simp) hv fun σ' H' h'=>?_;exact ih (d++[x]) σ' H' (by rw[e];simp) (by rw[List.length_append];exact h')
 exact key xs [] σ H rfl h0
structure Ap (c:Int) (A B G:List Int):Prop where
 a:Nms c A
 b:Nms c B
 g:Nms c G
 nd:(A++(B++(G++[]))).Nodup
 na:A≠[]
 nb:B≠[]
theorem Ap.ab{c:Int}{A B G:List Int}(h:Ap c A B G):∀x∈A,x∉B:=fun x hx hb=>(List.nodup_append.mp h.nd).2.2 x hx x (List.mem_append_left _ hb) rfl
theorem Ap.ag{c:Int}{A B G:List Int}(h:Ap c A B G):∀x∈A,x∉G:=fun x hx hb=>(List.nodup_append.mp h.nd).2.2 x hx x (List.mem_append_right _ (List.mem_append_left _ hb)) rfl
def jG:Sp':=fun vs H Q _=>match vs with
 | [.tup [_,.str k,_]]=>Q (.bl (!(k=="up"))) H
 | _=>False
theorem Ac{x y:PV}{k:Str}{H:PHp}{Q:VK'}{E:XK'}:jG [.tup [x,.str k,y]] H Q E=Q (.bl (!(k=="up"))) H:=rfl
def ki:Sp':=fun vs H Q _=>match vs with
 | [.tup [_,.str k,_]]=>Q (.bl (!(k=="down"))) H
 | _=>False
theorem AM{x y:PV}{k:Str}{H:PHp}{Q:VK'}{E:XK'}:ki [.tup [x,.str k,y]] H Q E=Q (.bl (!(k=="down"))) H:=rfl
def gS:Sp':=fun vs H Q _=>match vs with
 | [.tup [.int a,.str k,.int b],.tup [.int a',.str k',.int b']]=>Q (.bl (mtg (a,k,b) (a',k',b'))) H
 | _=>False
theorem yU{a b a' b':Int}{k k':Str}{H:PHp}{Q:VK'}{E:XK'}:gS [.tup [.int a,.str k,.int b],.tup [.int a',.str k',.int b']] H Q E=Q (.bl (mtg (a,k,b) (a',k',b'))) H:=rfl
def d5:Sp':=fun vs H Q _=>match vs with
 | [.tup [.int a,.str k,.int b],.tup [.int a',.str k',.int b'],.tup l,.tup m]=>∃G A:List Int,l=G.map PV.int/\m=A.map PV.int/\Q (.bl (psd G A (a,k,b) (a',k',b'))) H
 | _=>False
theorem tP{a b a' b':Int}{k k':Str}{l m:List PV}{H:PHp}{Q:VK'}{E:XK'}:d5 [.tup [.int a,.str k,.int b],.tup [.int a',.str k',.int b'],.tup l,.tup m] H Q E=(∃G A:List Int,l=G.map PV.int/\m=A.map PV.int/\Q (.bl (psd G A (a,k,b) (a',k',b'))) H):=rfl
def fD(t:Ad):Sp':=fun vs H Q _=>match vs with
 | [.ref x,.int n]=>∃c ts bs,Dr t H x c ts bs/\OkD c ts bs/\(0≤n/\n<c)/\∀r H1,H r=none->U.Sub H H1->H1 r=some (.lst ((stp ts bs n).map stV))->Q (.ref r) H1
 | _=>False
theorem uh{x:Addr}{n:Int}{H:PHp}{Q:VK'}{E:XK'}:fD t [.ref x,.int n] H Q E=(∃c ts bs,Dr t H x c ts bs/\OkD c ts bs/\(0≤n/\n<c)/\∀r H1,H r=none->U.Sub H H1->H1 r=some (.lst ((stp ts bs n).map stV))->Q (.ref r) H1):=rfl
def fW:Sp':=fun vs H Q _=>match vs with
 | [.ref a]=>∃road:List Sp3,H a=some (.lst (road.map stV))/\road≠[]/\road.length≤100/\∀r H1,H r=none->U.Sub H H1->H1 r=some (.lst ((My.nm road).map PV.int))->Q (.ref r) H1
 | _=>False
theorem tW{a:Addr}{H:PHp}{Q:VK'}{E:XK'}:fW [.ref a] H Q E=(∃road:List Sp3,H a=some (.lst (road.map stV))/\road≠[]/\road.length≤100/\∀r H1,H r=none->U.Sub H H1->H1 r=some (.lst ((My.nm road).map PV.int))->Q (.ref r) H1):=rfl
def fF:Sp':=fun vs H Q _=>match vs with
 | [.ref a]=>∃road:List Sp3,H a=some (.lst (road.map stV))/\road.length≤100/\∀r H1,H r=none->U.Sub H H1->H1 r=some (.lst ((mts road).map PV.int))->Q (.ref r) H1
 | _=>False
theorem tU{a:Addr}{H:PHp}{Q:VK'}{E:XK'}:fF [.ref a] H Q E=(∃road:List Sp3,H a=some (.lst (road.map stV))/\road.length≤100/\∀r H1,H r=none->U.Sub H H1->H1 r=some (.lst ((mts road).map PV.int))->Q (.ref r) H1):=rfl
def eF(t:Ad):Sp':=fun vs H Q _=>match vs with
 | [.ref x,.tup [.int n,.bl p],.tup l,.tup m]=>∃c ts bs,∃G A:List Int,Dr t H x c ts bs/\OkD c ts bs/\(0≤n/\n<c)/\l=G.map PV.int/\m=A.map PV.int/\∀r H1,H r=none->U.Sub H H1->H1 r=some (.lst ((bes ts bs G A (n,p)).map sdV))->Q (.ref r) H1
 | _=>False
theorem rV{x:Addr}{n:Int}{p:Bool}{l m:List PV}{H:PHp}{Q:VK'}{E:XK'}:eF t [.ref x,.tup [.int n,.bl p],.tup l,.tup m] H Q E=(∃c ts bs,∃G A:List Int,Dr t H x c ts bs/\OkD c ts bs/\(0≤n/\n<c)/\l=G.map PV.int/\m=A.map PV.int/\∀r H1,H r=none->U.Sub H H1->H1 r=some (.lst ((bes ts bs G A (n,p)).map sdV))->Q (.ref r) H1):=rfl
structure An (ts:List P2) (G A:List Int):Prop where
 up:A.Pairwise (·<·)
 iff:∀y,y∈A↔My.Reach (ts.map swp) G y
theorem An.one{ts:List P2}{G A A':List Int}(h:An ts G A)(g:An ts G A'):A=A':=My.h7 h.up g.up fun y=>(h.iff y).trans (g.iff y).symm
theorem An.shut{ts:List P2}{G A:List Int}(h:An ts G A):∀a b,(a,b)∈ts->b∈A->a∈A:=fun a b e hb=>(h.iff a).mpr (.step ((h.iff b).mp hb) (List.mem_map.mpr ⟨_,e,rfl⟩))
def fh(t:Ad):Sp':=fun vs H Q _=>match vs with
 | [.ref x,.tup l,.tup m]=>∃c ts bs,∃O G:List Int,Dr t H x c ts bs/\OkD c ts bs/\l=O.map PV.int/\m=G.map PV.int/\Nms c O/\Nms c G /\
  ∀r H1 A,∀L:List Sd,H r=none->U.Sub H H1->An ts G A->H1 r=some (.lst (L.map sdV))->L.Nodup->(∀s:Sd,s∈L↔RSG ts bs G A O s.1 s.2)->Q (.ref r) H1
 | _=>False
theorem vt{x:Addr}{l m:List PV}{H:PHp}{Q:VK'}{E:XK'}:fh t [.ref x,.tup l,.tup m] H Q E=(∃c ts bs,∃O G:List Int,Dr t H x c ts bs/\OkD c ts bs/\l=O.map PV.int/\m=G.map PV.int/\Nms c O/\Nms c G /\
  ∀r H1 A,∀L:List Sd,H r=none->U.Sub H H1->An ts G A->H1 r=some (.lst (L.map sdV))->L.Nodup->(∀s:Sd,s∈L↔RSG ts bs G A O s.1 s.2)->Q (.ref r) H1):=rfl
def il(ts bs:List P2)(ns:List Int):List (List Sp3):=ns.flatMap fun n=>(stp ts bs n).map fun s=>[s]
def lsS(r:List Sp3):Sp3:=r.getLastD (0,("":Str),0)
def gM(ts bs:List P2)(G A:List Int)(r:List Sp3):List (List Sp3):=((stp ts bs (lsS r).2.2).filter fun s=>!decide (s.2.2∈My.nm r)&&psd G A (lsS r) s).map fun s=>r++[s]
abbrev rdV(rs:List (List Sp3)):List (List PV):=rs.map fun r=>r.map stV
theorem dZ{p:List Sp3}{e:Sp3}:lsS (p++[e])=e:=by unfold lsS;simp
theorem nI{r:List Sp3}(h:r≠[]):∃l,My.nm r=l++[(lsS r).2.2]:=by
 rcases List.eq_nil_or_concat r with rfl |⟨p,e,rfl⟩
 ·exact absurd rfl h
 ·rw[List.concat_eq_append,dZ];cases p with
  | nil=>exact⟨[e.1],rfl⟩
  | cons a p=>exact⟨a.1::(a::p).map (·.2.2),by show a.1::List.map _ (a::(p++[e]))=_;simp⟩
theorem BK{r:List Sp3}(h:r≠[]):atI ((My.nm r).map PV.int) (-1)=some (.int (lsS r).2.2):=by
 obtain⟨l,e⟩:=nI h;rw[e,List.map_append];exact iu
theorem rf{r:List Sp3}(h:r≠[]):atI (r.map stV) (-1)=some (stV (lsS r)):=by
 rcases List.eq_nil_or_concat r with rfl |⟨p,e,rfl⟩
 ·exact absurd rfl h
 ·rw[List.concat_eq_append,dZ,List.map_append];exact iu
theorem nC{c:Int}{ts bs:List P2}(ok:OkD c ts bs){G A:List Int}(r:List Sp3):(gM ts bs G A r).length≤18:=by
 unfold gM;rw[List.length_map];exact Nat.le_trans (List.length_filter_le _ _) (gU ok.gt ok.gb ok.c6 _)
def fJ(t:Ad):Sp':=fun vs H Q _=>match vs with
 | [.ref x,.tup l]=>∃c ts bs,∃O:List Int,Dr t H x c ts bs/\OkD c ts bs/\l=O.map PV.int/\Nms c O/\∀r H1 us,H r=none->U.Sub H H1->H1 r=some (.lst us)->aZ H1 r us (rdV (il ts bs O))->Frs H us->Q (.ref r) H1
 | _=>False
theorem uD{x:Addr}{l:List PV}{H:PHp}{Q:VK'}{E:XK'}:fJ t [.ref x,.tup l] H Q E=(∃c ts bs,∃O:List Int,Dr t H x c ts bs/\OkD c ts bs/\l=O.map PV.int/\Nms c O/\∀r H1 us,H r=none->U.Sub H H1->H1 r=some (.lst us)->aZ H1 r us (rdV (il ts bs O))->Frs H us->Q (.ref r) H1):=rfl
def eo(t:Ad):Sp':=fun vs H Q _=>match vs with
 | [.ref x,.ref a,.tup l]=>∃c ts bs,∃G:List Int,∃us,∃rs:List (List Sp3),Dr t H x c ts bs/\OkD c ts bs/\l=G.map PV.int/\Nms c G/\H a=some (.lst us)/\aZ H a us (rdV rs)/\rs.length*18≤sizeLine/\(∀r∈rs,r≠[]/\r.length≤100/\0≤(lsS r).2.2/\(lsS r).2.2<c) /\
  ∀r H1 ws A,H r=none->U.Sub H H1->An ts G A->H1 r=some (.lst ws)->aZ H1 r ws (rdV (rs.flatMap (gM ts bs G A)))->Frs H ws->Q (.ref r) H1
 | _=>False
theorem sJ{x a:Addr}{l:List PV}{H:PHp}{Q:VK'}{E:XK'}:eo t [.ref x,.ref a,.tup l] H Q E=(∃c ts bs,∃G:List Int,∃us,∃rs:List (List Sp3),Dr t H x c ts bs/\OkD c ts bs/\l=G.map PV.int/\Nms c G/\H a=some (.lst us)/\aZ H a us (rdV rs)/\rs.length*18≤sizeLine/\(∀r∈rs,r≠[]/\r.length≤100/\0≤(lsS r).2.2/\(lsS r).2.2<c) /\
  ∀r H1 ws A,H r=none->U.Sub H H1->An ts G A->H1 r=some (.lst ws)->aZ H1 r ws (rdV (rs.flatMap (gM ts bs G A)))->Frs H ws->Q (.ref r) H1):=rfl
structure Opn (ts bs:List P2) (G A O:List Int) (r:List Sp3):Prop where
 rd:RdG ts bs G A O r
 nd:(My.nm r).Nodup
theorem wL{c:Int}{ts bs:List P2}(ok:OkD c ts bs){r:List Sp3}(h:∀s∈r,EdG ts bs s):∀x∈My.nm r,0≤x/\x<c:=by
 cases r with
 | nil=>intro x hx;cases hx
 | cons s r =>
  intro x hx;rcases List.mem_cons.mp hx with rfl | hx
  ·exact(tM ok.gt ok.gb (h s List.mem_cons_self)).1
  ·obtain⟨z,hz,rfl⟩:=List.mem_map.mp hx;exact(tM ok.gt ok.gb (h z hz)).2
theorem y4{r:List Sp3}(h:r≠[]):(My.nm r).length=r.length+1:=by
 cases r with
 | nil=>exact absurd rfl h
 | cons s r=>simp[My.nm]
theorem Opn.ne{ts bs:List P2}{G A O:List Int}{r:List Sp3}(h:Opn ts bs G A O r):r≠[]:=fun e=>by
 obtain⟨s,hs,_⟩:=h.rd.hd;subst e;cases hs
theorem Opn.len{c:Int}{ts bs:List P2}{G A O:List Int}{r:List Sp3}(h:Opn ts bs G A O r)(ok:OkD c ts bs):r.length≤5:=by
 have h1:=My.bH 6 _ h.nd fun x hx=>by have:=wL ok h.rd.ed x hx;have:=ok.c6;omega
 rw[y4 h.ne]at h1;omega
structure RdK (ts bs:List P2) (G A O:List Int) (tg:List Sp3) (k:Nat) (rs:List (List Sp3)):Prop where
 ok:∀r∈rs,Opn ts bs G A O r
 k1:1≤k/\k≤tg.length
 le:rs.length≤6*18 ^ k
 tg:tg.take k∈rs
theorem iQ{ts bs:List P2}{G A O:List Int}{p q:List Sp3}(h:Opn ts bs G A O (p++q))(ne:p≠[]):Opn ts bs G A O p:=by
 refine⟨⟨?_,fun s hs=>h.rd.ed s (List.mem_append_left _ hs),(My.bM.mp h.rd.ch).1⟩,?_⟩
 ·obtain⟨s,hs,ho⟩:=h.rd.hd;refine⟨s,?_,ho⟩;cases p with
  | nil=>exact absurd rfl ne
  | cons a p=>simpa using hs
 ·have:=h.nd;cases p with
  | nil=>exact absurd rfl ne
  | cons a p =>
   have e:My.nm (a::p++q)=My.nm (a::p)++q.map (·.2.2):=by simp[My.nm]
   rw[e]at this;exact(List.nodup_append.mp this).1
theorem lq{ts bs:List P2}{G A O:List Int}{r:List Sp3}{s:Sp3}:Opn ts bs G A O (r++[s])/\r≠[]↔(Opn ts bs G A O r/\s∈stp ts bs (lsS r).2.2/\s.2.2∉My.nm r/\psd G A (lsS r) s=true):=by
 have enm:r≠[]->My.nm (r++[s])=My.nm r++[s.2.2]:=fun ne=>by
  cases r with
  | nil=>exact absurd rfl ne
  | cons a p=>simp[My.nm]
 constructor
 ·rintro⟨h,ne⟩;have nd:=h.nd;rw[enm ne]at nd;have nd2:=List.nodup_append.mp nd;have c:=(My.bM.mp h.rd.ch).2.2;have hl:lsS r∈r.getLast?:=by
   rcases List.eq_nil_or_concat r with rfl |⟨p,e,rfl⟩
   ·exact absurd rfl ne
   ·rw[List.concat_eq_append,dZ];simp
  have lk:=oo.mp (c _ hl s rfl);exact⟨iQ h ne,gQ.mpr ⟨lk.1.symm,h.rd.ed s (by simp)⟩,fun hm=>nd2.2.2 _ hm _ (by simp) rfl,lk.2⟩
 ·rintro⟨h,hs,hn,hp⟩;have ne:=h.ne;obtain⟨hs1,hs2⟩:=gQ.mp hs;refine⟨⟨⟨?_,fun z hz=>?_,My.bM.mpr ⟨h.rd.ch,trivial,fun a ha b hb=>?_⟩⟩,?_⟩,ne⟩
  ·obtain⟨z,hz,ho⟩:=h.rd.hd;refine⟨z,?_,ho⟩;cases r with
   | nil=>exact absurd rfl ne
   | cons a p=>simpa using hz
  ·rcases List.mem_append.mp hz with q | q
   ·exact h.rd.ed z q
   ·rw[List.mem_singleton.mp q];exact hs2
  ·have eb:b=s:=by simpa using hb.symm
   have ea:a=lsS r:=by
    rcases List.eq_nil_or_concat r with rfl |⟨p,e,rfl⟩
    ·exact absurd rfl ne
    ·rw[List.concat_eq_append]at ha ⊢;rw[dZ];simpa using ha.symm
   subst eb;subst ea;exact oo.mpr ⟨hs1.symm,hp⟩
  ·rw[enm ne];refine List.nodup_append.mpr ⟨h.nd,by simp,fun x hx y hy e=>?_⟩;rw[List.mem_singleton]at hy;exact hn (by rw[←hy,← e];exact hx)
theorem nE{ts bs:List P2}{G A O:List Int}{s:Sp3}(lt:∀p∈ts,p.1<p.2)(lb:∀p∈bs,p.1<p.2):Opn ts bs G A O [s]↔s.1∈O/\EdG ts bs s:=by
 constructor
 ·intro h;obtain⟨z,hz,ho⟩:=h.rd.hd;have:z=s:=by simpa using hz.symm
  subst this;exact⟨ho,h.rd.ed z (by simp)⟩
 ·rintro⟨ho,he⟩;refine⟨⟨⟨s,rfl,ho⟩,fun z hz=>by rw[List.mem_singleton.mp hz];exact he,trivial⟩,?_⟩;have ne:s.1≠s.2.2:=by
   rcases he with⟨_,e⟩ |⟨_,e⟩ |⟨_,e | e⟩
   ·have:=lt _ e;simp only at this;omega
   ·have:=lt _ e;simp only at this;omega
   ·have:=lb _ e;simp only at this;omega
   ·have:=lb _ e;simp only at this;omega
  simp[My.nm,ne]
theorem uw{c:Int}{ts bs:List P2}{G A O:List Int}(ok:OkD c ts bs)(hO:Nms c O){tg:List Sp3}(ht:Opn ts bs G A O tg):RdK ts bs G A O tg 1 (il ts bs O):=by
 have lt:∀p∈ts,p.1<p.2:=fun p hp=>(ok.gt.lo p hp).2.1;have lb:∀p∈bs,p.1<p.2:=fun p hp=>(ok.gb.lo p hp).2.1;refine⟨fun r hr=>?_,⟨Nat.le_refl _,?_⟩,?_,?_⟩
 ·unfold il at hr;obtain⟨n,hn,hr⟩:=List.mem_flatMap.mp hr;obtain⟨s,hs,rfl⟩:=List.mem_map.mp hr;have:=gQ.mp hs;exact(nE lt lb).mpr ⟨by rw[this.1];exact hn,this.2⟩
 ·have:=ht.ne;cases tg with
  | nil=>exact absurd rfl this
  | cons _ _=>simp
 ·have h1:(il ts bs O).length≤O.length*18:=My.cW fun n _=>by rw[List.length_map];exact gU ok.gt ok.gb ok.c6 n
  have:=hO.len ok.c6;omega
 ·cases tg with
  | nil=>exact absurd rfl ht.ne
  | cons s t =>
   have h1:Opn ts bs G A O ([s]++t):=ht;have h2:=(nE lt lb).mp (iQ h1 (by simp));unfold il;exact List.mem_flatMap.mpr ⟨s.1,h2.1,List.mem_map.mpr ⟨s,gQ.mpr ⟨rfl,h2.2⟩,rfl⟩⟩
theorem sG{c:Int}{ts bs:List P2}{G A O:List Int}(ok:OkD c ts bs){tg:List Sp3}(ht:Opn ts bs G A O tg){k:Nat}{rs:List (List Sp3)}(h:RdK ts bs G A O tg k rs)(hk:k<tg.length):RdK ts bs G A O tg (k+1) (rs.flatMap (gM ts bs G A)):=by
 refine⟨fun r hr=>?_,⟨by omega,hk⟩,?_,?_⟩
 ·obtain⟨r0,h0,hr⟩:=List.mem_flatMap.mp hr;obtain⟨s,hs,rfl⟩:=List.mem_map.mp hr;obtain⟨h1,h2⟩:=List.mem_filter.mp hs;simp only[Bool.and_eq_true,Bool.not_eq_true',decide_eq_false_iff_not]at h2;exact(lq.mpr ⟨h.ok r0 h0,h1,h2.1,h2.2⟩).1
 ·have h1:(rs.flatMap (gM ts bs G A)).length≤rs.length*18:=My.cW fun r _=>nC ok r;have:=h.le;rw[Nat.pow_succ];omega
 ·have e:tg.take (k+1)=tg.take k++[tg[k]]:=by rw[List.take_succ,List.getElem?_eq_getElem hk];rfl
  have h1:Opn ts bs G A O (tg.take k++[tg[k]]++tg.drop (k+1)):=by rw[←e,List.take_append_drop];exact ht
  have h2:=iQ h1 (fun z=>by cases (List.append_eq_nil_iff.mp z).2);have ne:tg.take k≠[]:=(h.ok _ h.tg).ne;obtain⟨_,a1,a2,a3⟩:=lq.mp ⟨h2,ne⟩;rw[e];exact List.mem_flatMap.mpr ⟨_,h.tg,List.mem_map.mpr ⟨_,List.mem_filter.mpr ⟨a1,by simp[a2,a3]⟩,rfl⟩⟩
def hZ(H:PHp)(B:List Int)(y:PV):Bool:=match y with
 | .ref r=>(match H r with
  | some (.lst l)=>(match atI l (-1)with
   | some (.tup [_,_,.int b])=>decide (b∈B)
   | _=>false)
  | _=>false)
 | _=>false
theorem iE{H:PHp}{B:List Int}{r:Addr}{road:List Sp3}(h:H r=some (.lst (road.map stV)))(ne:road≠[]):hZ H B (.ref r)=decide ((lsS road).2.2∈B):=by
 unfold hZ;dsimp only;rw[h];dsimp only;rw[rf ne];rfl
theorem aZ.mem{H:PHp}{q:Addr}{vs:List PV}{ls:List (List PV)}{v:PV}(h:aZ H q vs ls)(hv:v∈vs):∃l r,l∈ls/\v=.ref r/\r≠q/\H r=some (.lst l):=by
 obtain⟨i,hi⟩:=List.getElem?_of_mem hv;obtain⟨l,r,h1,h2⟩:=h.at hi;exact⟨l,r,List.mem_of_getElem? h1,h2⟩
theorem aZ.of{H:PHp}{q:Addr}{vs:List PV}{ls:List (List PV)}{l:List PV}(h:aZ H q vs ls)(hl:l∈ls):∃r,PV.ref r∈vs/\H r=some (.lst l):=by
 unfold aZ at h
 induction h with
 | nil=>cases hl
 | cons a _ ih =>
  rcases List.mem_cons.mp hl with rfl | hl
  ·obtain⟨r,e,_,hr⟩:=a;exact⟨r,by rw[e];exact List.mem_cons_self,hr⟩
  ·obtain⟨r,h1,h2⟩:=ih hl;exact⟨r,List.mem_cons_of_mem _ h1,h2⟩
def fR(t:Ad):Sp':=fun vs H Q _=>match vs with
 | [.ref x,.tup l,.tup m,.tup n]=>∃c ts bs,∃O B G A:List Int,Dr t H x c ts bs/\OkD c ts bs/\l=O.map PV.int/\m=B.map PV.int/\n=G.map PV.int/\Nms c O/\Nms c G/\An ts G A/\(∃r,Opn ts bs G A O r/\(lsS r).2.2∈B) /\
  ∀r H1 road,H r=none->U.Sub H H1->H1 r=some (.lst (road.map stV))->Opn ts bs G A O road->(lsS road).2.2∈B->road.length≤5->Q (.ref r) H1
 | _=>False
theorem vQ{x:Addr}{l m n:List PV}{H:PHp}{Q:VK'}{E:XK'}:fR t [.ref x,.tup l,.tup m,.tup n] H Q E=(∃c ts bs,∃O B G A:List Int,Dr t H x c ts bs/\OkD c ts bs/\l=O.map PV.int/\m=B.map PV.int/\n=G.map PV.int/\Nms c O/\Nms c G/\An ts G A/\(∃r,Opn ts bs G A O r/\(lsS r).2.2∈B) /\
  ∀r H1 road,H r=none->U.Sub H H1->H1 r=some (.lst (road.map stV))->Opn ts bs G A O road->(lsS road).2.2∈B->road.length≤5->Q (.ref r) H1):=rfl
structure Wy (ts:List P2) (G:List Int) (m:Int) (w:List Int):Prop where
 hd:w.head?=some m
 ch:My.Chn (fun a b=>(a,b)∈ts) w
 lo:∀x∈w.dropLast,x∉G
 la:∃e∈w.getLast?,e∈G
def lsI(w:List Int):Int:=w.getLastD 0
theorem kP{p:List Int}{e:Int}:lsI (p++[e])=e:=by unfold lsI;simp
theorem qS{w:List Int}(h:w≠[]):atI (w.map PV.int) (-1)=some (.int (lsI w)):=by
 rcases List.eq_nil_or_concat w with rfl |⟨p,e,rfl⟩
 ·exact absurd rfl h
 ·rw[List.concat_eq_append,kP,List.map_append];exact iu
theorem lx{w:List Int}(h:w≠[]):w.getLast?=some (lsI w)/\w=w.dropLast++[lsI w]:=by
 rcases List.eq_nil_or_concat w with rfl |⟨p,e,rfl⟩
 ·exact absurd rfl h
 ·rw[List.concat_eq_append,kP];simp
def ix(H:PHp)(G:List Int)(y:PV):Bool:=match y with
 | .ref r=>(match H r with
  | some (.lst l)=>(match atI l (-1)with
   | some (.int b)=>decide (b∈G)
   | _=>false)
  | _=>false)
 | _=>false
theorem iL{H:PHp}{G:List Int}{r:Addr}{w:List Int}(h:H r=some (.lst (w.map PV.int)))(ne:w≠[]):ix H G (.ref r)=decide (lsI w∈G):=by
 unfold ix;dsimp only;rw[h];dsimp only;rw[qS ne]
def mC(ts:List P2)(w:List Int):List (List Int):=(fol ts (lsI w)).map fun n=>w++[n]
structure WyO (ts:List P2) (G:List Int) (m:Int) (w:List Int):Prop where
 hd:w.head?=some m
 ch:My.Chn (fun a b=>(a,b)∈ts) w
 lo:∀x∈w.dropLast,x∉G
theorem WyO.ne{ts:List P2}{G:List Int}{m:Int}{w:List Int}(h:WyO ts G m w):w≠[]:=fun e=>by have:=h.hd;rw[e]at this;cases this
structure WyK (ts:List P2) (G:List Int) (m:Int) (tg:List Int) (k:Nat) (ws:List (List Int)):Prop where
 ok:∀w∈ws,WyO ts G m w
 k1:1≤k/\k≤tg.length
 le:ws.length≤6 ^ k
 tg:tg.take k∈ws
theorem sU{c:Int}{ts bs:List P2}(ok:OkD c ts bs){G:List Int}{m:Int}{tg:List Int}(ht:My.Chn (fun a b=>(a,b)∈ts) tg){k:Nat}{ws:List (List Int)}(h:WyK ts G m tg k ws)(hk:k<tg.length)(no:∀w∈ws,lsI w∉G):WyK ts G m tg (k+1) (ws.flatMap (mC ts)):=by
 refine⟨fun w hw=>?_,⟨by omega,hk⟩,?_,?_⟩
 ·obtain⟨w0,h0,hw⟩:=List.mem_flatMap.mp hw;obtain⟨n,hn,rfl⟩:=List.mem_map.mp hw;have o:=h.ok w0 h0;obtain⟨l1,l2⟩:=lx o.ne;refine⟨?_,My.bM.mpr ⟨o.ch,trivial,fun a ha b hb=>?_⟩,fun x hx=>?_⟩
  ·have:=o.hd;cases w0 with
   | nil=>cases this
   | cons a w0=>simpa using this
  ·rw[l1]at ha;have ea:lsI w0=a:=Option.some.inj ha;have eb:n=b:=by simpa using hb
   rw[←ea,← eb];exact dg.mp hn
  ·have e:(w0++[n]).dropLast=w0:=by simp
   rw[e,l2]at hx;rcases List.mem_append.mp hx with q | q
   ·exact o.lo x q
   ·rw[List.mem_singleton.mp q];exact no w0 h0
 ·have h1:(ws.flatMap (mC ts)).length≤ws.length*6:=My.cW fun w _=>by unfold mC;rw[List.length_map];exact cJ ok.gt ok.c6 _
  have:=h.le;rw[Nat.pow_succ];omega
 ·have e:tg.take (k+1)=tg.take k++[tg[k]]:=by rw[List.take_succ,List.getElem?_eq_getElem hk];rfl
  have o:=h.ok _ h.tg;obtain⟨l1,l2⟩:=lx o.ne;have c1:My.Chn (fun a b=>(a,b)∈ts) (tg.take k++[tg[k]]++tg.drop (k+1)):=by rw[←e,List.take_append_drop];exact ht
  have c2:=(My.bM.mp (My.bM.mp c1).1).2.2 _ l1 _ rfl;rw[e];exact List.mem_flatMap.mpr ⟨_,h.tg,List.mem_map.mpr ⟨_,dg.mpr c2,rfl⟩⟩
theorem jm{ts:List P2}{G:List Int}:∀{w:List Int},My.Chn (fun a b=>(a,b)∈ts) w->(∃e∈w.getLast?,e∈G)->∀x∈w,My.Reach (ts.map swp) G x
 | [],_,_,x,hx=>by cases hx
 | [a],_,⟨e,he,hg⟩,x,hx=>by
  have:a=e:=by simpa using he
  rw[List.mem_singleton.mp hx,this];exact .base hg
 | a::b::w,c,⟨e,he,hg⟩,x,hx=>by
  have ih:=jm (w:=b::w) c.2 ⟨e,by rw[List.getLast?_cons_cons]at he;exact he,hg⟩;rcases List.mem_cons.mp hx with rfl | hx
  ·exact .step (ih b List.mem_cons_self) (List.mem_map.mpr ⟨_,c.1,rfl⟩)
  ·exact ih x hx
theorem An.lo{c:Int}{ts:List P2}{G A:List Int}(h:An ts G A)(g:Good c ts)(hG:Nms c G):∀x∈A,0≤x/\x<c:=fun x hx=>by
 cases (h.iff x).mp hx with
 | base h=>exact hG.lo x h
 | step _ e =>
  obtain⟨p,hp,ep⟩:=List.mem_map.mp e;have:=g.lo p hp;unfold swp at ep;cases ep;omega
theorem rS{c:Int}{ts:List P2}(g:Good c ts):∀{w:List Int},My.Chn (fun a b=>(a,b)∈ts) w->(∀m∈w.head?,0≤m/\m<c)->∀x∈w,0≤x/\x<c
 | [],_,_,x,hx=>by cases hx
 | [a],_,hm,x,hx=>by rw[List.mem_singleton.mp hx];exact hm a rfl
 | a::b::w,ch,hm,x,hx=>by
  rcases List.mem_cons.mp hx with rfl | hx
  ·exact hm _ rfl
  ·refine rS g (w:=b::w) ch.2 (fun m hm=>?_) x hx;have e:b=m:=by simpa using hm
   have:=g.lo _ ch.1;simp only at this;omega
theorem n8{c:Int}{ts bs:List P2}(ok:OkD c ts bs){G:List Int}(hG:Nms c G){w:List Int}(h:My.Chn (fun a b=>(a,b)∈ts) w)(hl:∃e∈w.getLast?,e∈G):w.length≤6:=by
 have up:=My.mH (fun a b e=>(ok.gt.lo _ e).2.1) h;refine My.bH 6 _ (up.imp fun h=>by omega) fun x hx=>?_;have:=ok.c6;cases jm h hl x hx with
 | base h=>have:=hG.lo x h;omega
 | step _ e =>
  obtain⟨p,hp,ep⟩:=List.mem_map.mp e;have:=ok.gt.lo p hp;unfold swp at ep;cases ep;omega
def jN(t:Ad):Sp':=fun vs H Q _=>match vs with
 | [.ref x,.int m,.tup l]=>∃c ts bs,∃G A:List Int,Dr t H x c ts bs/\OkD c ts bs/\l=G.map PV.int/\Nms c G/\An ts G A/\m∈A/\∀r H1,∀w:List Int,H r=none->U.Sub H H1->H1 r=some (.lst (w.map PV.int))->Wy ts G m w->w.length≤6->Q (.ref r) H1
 | _=>False
theorem Aj{x:Addr}{m:Int}{l:List PV}{H:PHp}{Q:VK'}{E:XK'}:jN t [.ref x,.int m,.tup l] H Q E=(∃c ts bs,∃G A:List Int,Dr t H x c ts bs/\OkD c ts bs/\l=G.map PV.int/\Nms c G/\An ts G A/\m∈A/\∀r H1,∀w:List Int,H r=none->U.Sub H H1->H1 r=some (.lst (w.map PV.int))->Wy ts G m w->w.length≤6->Q (.ref r) H1):=rfl
abbrev inV(ws:List (List Int)):List (List PV):=ws.map fun w=>w.map PV.int
def gX(t:Ad):Sp':=fun vs H Q _=>match vs with
 | [.ref x,.ref a,.tup l]=>∃c ts bs,∃G A:List Int,∃road:List Sp3,Dr t H x c ts bs/\OkD c ts bs/\l=G.map PV.int/\Nms c G/\An ts G A/\H a=some (.lst (road.map stV))/\road.length≤100/\(∀m∈mts road,m∈A) /\
  ∀r H1 us,∀ws:List (List Int),H r=none->U.Sub H H1->H1 r=some (.lst us)->aZ H1 r us (inV ws)->Frs H us->Paired (Wy ts G) (mts road) ws->(∀w∈ws,w.length≤6)->Q (.ref r) H1
 | _=>False
theorem xC{x a:Addr}{l:List PV}{H:PHp}{Q:VK'}{E:XK'}:gX t [.ref x,.ref a,.tup l] H Q E=(∃c ts bs,∃G A:List Int,∃road:List Sp3,Dr t H x c ts bs/\OkD c ts bs/\l=G.map PV.int/\Nms c G/\An ts G A/\H a=some (.lst (road.map stV))/\road.length≤100/\(∀m∈mts road,m∈A) /\
  ∀r H1 us,∀ws:List (List Int),H r=none->U.Sub H H1->H1 r=some (.lst us)->aZ H1 r us (inV ws)->Frs H us->Paired (Wy ts G) (mts road) ws->(∀w∈ws,w.length≤6)->Q (.ref r) H1):=rfl
structure Tld (ts bs:List P2) (O B G:List Int) (L:List Sd) (A:List Int):Prop where
 an:An ts G A
 nd:L.Nodup
 iff:∀s:Sd,s∈L↔RSG ts bs G A O s.1 s.2
 no:∀s∈L,s.1∉B
structure Rod (ts bs:List P2) (O B G:List Int) (road:List Sp3) (ws:List (List Int)) (A:List Int):Prop where
 an:An ts G A
 op:Opn ts bs G A O road
 la:(lsS road).2.2∈B
 l5:road.length≤5
 wy:Paired (Wy ts G) (mts road) ws
 w6:∀w∈ws,w.length≤6
 ex:∃x p,RSG ts bs G A O x p/\x∈B
theorem mq{G A:List Int}:∀{r:List Sp3},My.Chn (LnG G A) r->∀m∈mts r,m∈A
 | [],_,m,hm=>by cases hm
 | [_],_,m,hm=>by cases hm
 | s::s'::r,h,m,hm=>by
  unfold mts at hm;split at hm
  ·rename_i q;rcases List.mem_cons.mp hm with rfl | hm
   ·have:=fL.mp q;exact h.1.mt this.1 this.2
   ·exact mq h.2 m hm
  ·exact mq h.2 m hm
theorem nP:∀(r:List Sp3),(mts r).length≤r.length
 | []=>by simp[mts]
 | [_]=>by simp[mts]
 | s::s'::r=>by
  have ih:=nP (s'::r);unfold mts;split<;>simp at ih ⊢<;>omega
theorem uj{c:Int}{ts bs:List P2}{O B G A:List Int}(ap:Ap c O B G)(an:An ts G A){x:Int}{p:Bool}(h:RSG ts bs G A O x p)(hx:x∈B):∃r,Opn ts bs G A O r/\(lsS r).2.2∈B:=by
 obtain⟨r,rd,⟨e,he,hb⟩,nd⟩:=My.ux tq (fun a b e hb=>an.shut a b (by
  rcases e with⟨_,e⟩ |⟨z,_⟩ |⟨z,_⟩
  ·exact e
  ·exact absurd z tq
  ·exact absurd (show("down":Str)="bow" from z) (by decide)) hb) ap.ab ap.ag h hx
 have op:Opn ts bs G A O r:=⟨rd,nd⟩;refine⟨r,op,?_⟩;rcases List.eq_nil_or_concat r with rfl |⟨q,z,rfl⟩
 ·exact absurd rfl op.ne
 ·rw[List.concat_eq_append]at he ⊢;rw[dZ];have:z=e:=by simpa using he
  rw[this];exact hb
def Bu(B:List Int)(y:PV):PV:=match y with | .tup [.int n,_]=>.bl (decide (n∈B)) | _=>.non
theorem A9{a b:Int}{n:Nat}(h:0<b)(hb:My.BN n b):My.BN n (a.fmod b):=by
 have:=fm (a:=a) h;exact hb.of_le (by omega)
structure GL (c i j:Int) (l:List P2):Prop where
 lo:∀p∈l,0≤p.1/\p.1<p.2/\p.2<c/\(p.1<i∨(p.1=i/\p.2<j))
 st:Srt l
theorem GL.nil{c i j:Int}:GL c i j []:=⟨fun p h=>(by cases h),List.Pairwise.nil⟩
theorem GL.up{c i j j':Int}{l:List P2}(h:GL c i j l)(hj:j≤j'):GL c i j' l:=⟨fun p hp=>by have:=h.lo p hp;omega,h.st⟩
theorem GL.nx{c i j:Int}{l:List P2}(h:GL c i j l)(j':Int):GL c (i+1) j' l:=⟨fun p hp=>by have:=h.lo p hp;omega,h.st⟩
theorem GL.app{c i j:Int}{l:List P2}(h:GL c i j l)(h0:0≤i)(hj:i<j)(hc:j<c)(c6:c≤6):GL c i (j+1) (l++[(i,j)]):=by
 refine⟨fun p hp=>?_,List.pairwise_append.mpr ⟨h.st,List.pairwise_singleton _ _,fun p hp q hq=>?_⟩⟩
 ·rcases List.mem_append.mp hp with q | q
  ·have:=h.lo p q;omega
  ·rw[List.mem_singleton]at q;subst q;exact⟨h0,hj,hc,.inr ⟨rfl,by show j<j+1;omega⟩⟩
 ·rw[List.mem_singleton]at hq;subst hq;have:=h.lo p hp;show 6*p.1+p.2<6*i+j;omega
theorem GL.good{c i j:Int}{l:List P2}(h:GL c i j l):Good c l:=⟨h.st.imp fun {a b} h e=>by subst e;exact absurd h (Int.lt_irrefl _),fun p hp=>by have:=h.lo p hp;omega⟩
def oF:Sp':=fun vs H Q _=>match vs with
 | [.int u,.int k]=>(0≤k/\k<100)/\∀n:Int,Q (.int n) H
 | _=>False
theorem Ca{u k:Int}{H:PHp}{Q:VK'}{E:XK'}:oF [.int u,.int k] H Q E=((0≤k/\k<100)/\∀n:Int,Q (.int n) H):=rfl
def jz:Sp':=fun vs H Q _=>match vs with
 | [.fls l,.int k,.int c]=>(0≤k/\k<60)/\(1≤c/\c≤6)/\∃ns:List Int,l=ns.map PV.int/\∀ts bs,OkD c ts bs->Q (shp c ts bs) H
 | _=>False
theorem z8{l:List PV}{k c:Int}{H:PHp}{Q:VK'}{E:XK'}:jz [.fls l,.int k,.int c] H Q E=((0≤k/\k<60)/\(1≤c/\c≤6)/\∃ns:List Int,l=ns.map PV.int/\∀ts bs,OkD c ts bs->Q (shp c ts bs) H):=rfl
structure Pt (n:Nat) (c:Int) (Ls:List (List Int)):Prop where
 len:Ls.length=n
 up:∀L∈Ls,L.Pairwise (·<·)
 pm:Ls.flatten.Perm (ulN c)
theorem Pt.nms{n:Nat}{c:Int}{Ls:List (List Int)}(h:Pt n c Ls):∀L∈Ls,Nms c L:=fun L hL=>⟨h.up L hL,fun x hx=>hU.mp (h.pm.mem_iff.mp (List.mem_flatten.mpr ⟨L,hL,hx⟩))⟩
def fX:Sp':=fun vs H Q _=>match vs with
 | [.int _,.int c,.int k]=>(1≤c/\c≤6)/\(1≤k/\k≤10)/\∀r H1,∀Ls:List (List Int),H r=none->U.Sub H H1->H1 r=some (.lst (Ls.map tupI))->Pt k.toNat c Ls->Q (.ref r) H1
 | _=>False
theorem uT{n c k:Int}{H:PHp}{Q:VK'}{E:XK'}:fX [.int n,.int c,.int k] H Q E=((1≤c/\c≤6)/\(1≤k/\k≤10)/\∀r H1,∀Ls:List (List Int),H r=none->U.Sub H H1->H1 r=some (.lst (Ls.map tupI))->Pt k.toNat c Ls->Q (.ref r) H1):=rfl
structure Rl (H:PHp) (q:Addr) (rs:List Addr) (Ls:List (List Int)):Prop where
 nd:rs.Nodup
 at':Paired (fun r (L:List Int)=>r≠q/\H r=some (.lst (L.map PV.int))) rs Ls
theorem Rl.up{H H1:PHp}{q:Addr}{rs:List Addr}{Ls:List (List Int)}(h:Rl H q rs Ls)(s:U.Sub H H1):Rl H1 q rs Ls:=⟨h.nd,Paired.mapP h.at' fun _ _ ⟨a,b⟩=>⟨a,s _ _ b⟩⟩
theorem qR{H:PHp}{q:Addr}{M:List Int}:∀{rs:List Addr} {Ls:List (List Int)} {k:Nat} (hk:k<rs.length),rs.Nodup->Paired (fun r (L:List Int)=>r≠q/\H r=some (.lst (L.map PV.int))) rs Ls->Paired (fun r (L:List Int)=>r≠q/\put H rs[k] (.lst (M.map PV.int)) r=some (.lst (L.map PV.int))) rs (Ls.set k M)
 | r::rs,L::Ls,0,hk,nd,.cons h t=>by
  rw[List.nodup_cons]at nd;refine .cons ⟨h.1,ai⟩ ?_;have:∀{rs:List Addr} {Ls:List (List Int)},r∉rs->Paired (fun r (L:List Int)=>r≠q/\H r=some (.lst (L.map PV.int))) rs Ls->Paired (fun z (L:List Int)=>z≠q/\put H r (.lst (M.map PV.int)) z=some (.lst (L.map PV.int))) rs Ls:=fun {rs Ls} hn p=>by
   induction p with
   | nil=>exact .nil
   | cons a _ ih=>exact .cons ⟨a.1,(ar fun e=>hn (by rw[e];exact List.mem_cons_self)).trans a.2⟩ (ih fun z=>hn (List.mem_cons_of_mem _ z))
  exact this nd.1 t
 | r::rs,L::Ls,k+1,hk,nd,.cons h t=>by
  rw[List.nodup_cons]at nd;have hk':k<rs.length:=by simpa using hk
  exact .cons ⟨h.1,(ar fun e=>nd.1 (by rw[e];exact List.getElem_mem hk')).trans h.2⟩ (qR hk' nd.2 t)
theorem kv{α:Type}:∀{Ls:List (List α)} {k:Nat} (hk:k<Ls.length) (X:List α),((Ls.set k X).flatten++Ls[k]).Perm (Ls.flatten++X)
 | L::Ls,0,_,X=>by
  simp only[List.set_cons_zero,List.flatten_cons,List.getElem_cons_zero];refine(List.perm_append_comm (l₁:=X++Ls.flatten) (l₂:=L)).trans ?_;rw[List.append_assoc];exact List.Perm.append_left L List.perm_append_comm
 | L::Ls,k+1,hk,X=>by
  simp only[List.set_cons_succ,List.flatten_cons,List.getElem_cons_succ,List.append_assoc];exact List.Perm.append_left L (kv (by simpa using hk) X)
theorem uJ{i:Nat}:ulN ((i+1:Nat):Int)=ulN (i:Nat)++[((i:Nat):Int)]:=by
 unfold ulN;rw[Int.toNat_natCast,Int.toNat_natCast,List.range_succ,List.map_append];rfl
structure PtI (n:Nat) (i:Nat) (Ls:List (List Int)):Prop where
 len:Ls.length=n
 up:∀L∈Ls,L.Pairwise (·<·)
 pm:Ls.flatten.Perm (ulN (i:Nat))
theorem PtI.next{n i k:Nat}{Ls:List (List Int)}(h:PtI n i Ls)(hk:k<Ls.length):PtI n (i+1) (Ls.set k (Ls[k]++[((i:Nat):Int)])):=by
 refine⟨by rw[List.length_set];exact h.len,fun L hL=>?_,?_⟩
 ·rcases List.mem_or_eq_of_mem_set hL with q | q
  ·exact h.up L q
  ·subst q;refine List.pairwise_append.mpr ⟨h.up _ (List.getElem_mem hk),List.pairwise_singleton _ _,fun x hx y hy=>?_⟩;rw[List.mem_singleton]at hy;subst hy;exact(hU.mp (h.pm.mem_iff.mp (List.mem_flatten.mpr ⟨_,List.getElem_mem hk,hx⟩))).2
 ·have p:=kv hk (Ls[k]++[((i:Nat):Int)]);rw[uJ];have p2:((Ls.set k (Ls[k]++[((i:Nat):Int)])).flatten++Ls[k]).Perm ((Ls.flatten++[((i:Nat):Int)])++Ls[k]):=by
   refine p.trans ?_;rw[List.append_assoc];exact List.Perm.append_left _ List.perm_append_comm
  exact((List.perm_append_right_iff _).mp p2).trans (h.pm.append_right _)
theorem nS{H:PHp}{q:Addr}:∀{rs:List Addr} {Ls:List (List Int)},Paired (fun r (L:List Int)=>r≠q/\H r=some (.lst (L.map PV.int))) rs Ls->(rs.map PV.ref).map (lJ H)=Ls.map tupI
 | [],[],.nil=>rfl
 | r::rs,L::Ls,.cons h t=>by rw[List.map_cons,List.map_cons,List.map_cons,nS t,cY h.2];rfl
theorem d4{α:Type}{k:Nat}:∀{Ls:List (List α)},(∀L∈Ls,L.length≤k)->Ls.flatten.length≤Ls.length*k
 | [],_=>by simp
 | L::Ls,h=>by
  have:=d4 (k:=k) (Ls:=Ls) fun M hM=>h M (List.mem_cons_of_mem _ hM);have h1:=h L List.mem_cons_self;rw[List.flatten_cons,List.length_append,List.length_cons,Nat.add_mul];omega
theorem Pt.ap{c:Int}{O B G R:List Int}(h:Pt 4 c [O,B,G,R])(no:O≠[])(nb:B≠[]):Ap c O B G:=by
 have n:=h.nms;have nd:(O++(B++(G++(R++[])))).Nodup:=h.pm.nodup_iff.mpr ((Ar c).imp fun h=>by omega);refine⟨n O (by simp),n B (by simp),n G (by simp),nd.sublist ?_,no,nb⟩;exact List.Sublist.append_left (List.Sublist.append_left (List.Sublist.append_left (List.nil_sublist _) G) B) O
def fB:Sp':=fun vs H Q _=>match vs with
 | [.int c,.tup l]=>∃L:List Int,l=L.map PV.int/\(Nms c L->Q (.bl true) H)/\(¬Nms c L->Q (.bl false) H)
 | _=>False
theorem vG{c:Int}{l:List PV}{H:PHp}{Q:VK'}{E:XK'}:fB [.int c,.tup l] H Q E=(∃L:List Int,l=L.map PV.int/\(Nms c L->Q (.bl true) H)/\(¬Nms c L->Q (.bl false) H)):=rfl
def cO(t:Ad):Sp':=fun vs H Q E=>match vs with
 | [.ref x,.tup l]=>∃c ts bs,∃L:List Int,Dr t H x c ts bs/\l=L.map PV.int/\(Nms c L->Q .non H)/\(¬Nms c L->E (.ref t.a_K) none H)
 | _=>False
theorem lZ{x:Addr}{l:List PV}{H:PHp}{Q:VK'}{E:XK'}:cO t [.ref x,.tup l] H Q E=∃c ts bs,∃L:List Int,Dr t H x c ts bs/\l=L.map PV.int/\(Nms c L->Q .non H)/\(¬Nms c L->E (.ref t.a_K) none H):=rfl
def b4(t:Ad):Sp':=fun vs H Q E=>match vs with
 | [.ref x,.ref a]=>∃c ts bs,∃Ls:List (List Int),Dr t H x c ts bs/\H a=some (.lst (Ls.map tupI))/\((∀L∈Ls,Nms c L)->Q .non H)/\(¬(∀L∈Ls,Nms c L)->E (.ref t.a_K) none H)
 | [.ref x,.tup l]=>∃c ts bs,∃Ls:List (List Int),Dr t H x c ts bs/\l=Ls.map tupI/\((∀L∈Ls,Nms c L)->Q .non H)/\(¬(∀L∈Ls,Nms c L)->E (.ref t.a_K) none H)
 | _=>False
theorem kr{x a:Addr}{H:PHp}{Q:VK'}{E:XK'}:b4 t [.ref x,.ref a] H Q E=(∃c ts bs,∃Ls:List (List Int),Dr t H x c ts bs/\H a=some (.lst (Ls.map tupI))/\((∀L∈Ls,Nms c L)->Q .non H)/\(¬(∀L∈Ls,Nms c L)->E (.ref t.a_K) none H)):=rfl
theorem j8{x:Addr}{l:List PV}{H:PHp}{Q:VK'}{E:XK'}:b4 t [.ref x,.tup l] H Q E=(∃c ts bs,∃Ls:List (List Int),Dr t H x c ts bs/\l=Ls.map tupI/\((∀L∈Ls,Nms c L)->Q .non H)/\(¬(∀L∈Ls,Nms c L)->E (.ref t.a_K) none H)):=rfl
def bR(t:Ad):Sp':=fun vs H Q E=>match vs with
 | [.ref a]=>∃c,∃Ls:List (List Int),H a=some (.lst (Ls.map tupI))/\(∀L∈Ls,Nms c L)/\c≤6/\Ls.length≤10/\(Ls.flatten.Nodup->Q .non H)/\(¬Ls.flatten.Nodup->∀H1,U.Sub H H1->E (.ref t.a_P) none H1)
 | [.tup l]=>∃c,∃Ls:List (List Int),l=Ls.map tupI/\(∀L∈Ls,Nms c L)/\c≤6/\Ls.length≤10/\(Ls.flatten.Nodup->Q .non H)/\(¬Ls.flatten.Nodup->∀H1,U.Sub H H1->E (.ref t.a_P) none H1)
 | _=>False
theorem kh{a:Addr}{H:PHp}{Q:VK'}{E:XK'}:bR t [.ref a] H Q E=(∃c,∃Ls:List (List Int),H a=some (.lst (Ls.map tupI))/\(∀L∈Ls,Nms c L)/\c≤6/\Ls.length≤10/\(Ls.flatten.Nodup->Q .non H)/\(¬Ls.flatten.Nodup->∀H1,U.Sub H H1->E (.ref t.a_P) none H1)):=rfl
theorem iX{l:List PV}{H:PHp}{Q:VK'}{E:XK'}:bR t [.tup l] H Q E=(∃c,∃Ls:List (List Int),l=Ls.map tupI/\(∀L∈Ls,Nms c L)/\c≤6/\Ls.length≤10/\(Ls.flatten.Nodup->Q .non H)/\(¬Ls.flatten.Nodup->∀H1,U.Sub H H1->E (.ref t.a_P) none H1)):=rfl
def N3(c:Int)(A B G:List Int):Prop:=Nms c A/\Nms c B/\Nms c G
def Rf3(t:Ad)(c:Int)(A B G:List Int)(H:PHp)(E:XK'):Prop:=(¬N3 c A B G->∀H1,U.Sub H H1->E (.ref t.a_K) none H1)/\(N3 c A B G->¬Ap c A B G->∀H1,U.Sub H H1->E (.ref t.a_P) none H1)
def cK(t:Ad):Sp':=fun vs H Q E=>match vs with
 | [.ref x,.tup l,.tup m,.tup n]=>∃c ts bs,∃A B G:List Int,Dr t H x c ts bs/\c≤6/\l=A.map PV.int/\m=B.map PV.int/\n=G.map PV.int/\(Ap c A B G->Q .non H)/\Rf3 t c A B G H E
 | _=>False
theorem mO{x:Addr}{l m n:List PV}{H:PHp}{Q:VK'}{E:XK'}:cK t [.ref x,.tup l,.tup m,.tup n] H Q E=(∃c ts bs,∃A B G:List Int,Dr t H x c ts bs/\c≤6/\l=A.map PV.int/\m=B.map PV.int/\n=G.map PV.int/\(Ap c A B G->Q .non H)/\Rf3 t c A B G H E):=rfl
def de(t:Ad):Sp':=fun vs H Q E=>match vs with
 | [.ref x,.tup l,.tup m,.tup n]=>∃c ts bs,∃A B G:List Int,Dr t H x c ts bs/\OkD c ts bs/\l=A.map PV.int/\m=B.map PV.int/\n=G.map PV.int/\(Ap c A B G->∀v H1,U.Sub H H1->Q v H1)/\Rf3 t c A B G H E
 | _=>False
theorem pM{x:Addr}{l m n:List PV}{H:PHp}{Q:VK'}{E:XK'}:de t [.ref x,.tup l,.tup m,.tup n] H Q E=(∃c ts bs,∃A B G:List Int,Dr t H x c ts bs/\OkD c ts bs/\l=A.map PV.int/\m=B.map PV.int/\n=G.map PV.int/\(Ap c A B G->∀v H1,U.Sub H H1->Q v H1)/\Rf3 t c A B G H E):=rfl
theorem Ap.n3{c:Int}{A B G:List Int}(h:Ap c A B G):N3 c A B G:=⟨h.a,h.b,h.g⟩
def eD:Sp':=fun vs H Q _=>match vs with
 | [.tup l,.int c]=>∃L:List Int,l=L.map PV.int/\L.length≤100/\∀b:Bool,(b=true↔Nms c L)->Q (.bl b) H
 | _=>False
theorem qP{l:List PV}{c:Int}{H:PHp}{Q:VK'}{E:XK'}:eD [.tup l,.int c] H Q E=(∃L:List Int,l=L.map PV.int/\L.length≤100/\∀b:Bool,(b=true↔Nms c L)->Q (.bl b) H):=rfl
theorem zL{c:Int}{A B G:List Int}(h:N3 c A B G):Ap c A B G↔(A++(B++(G++[]))).Nodup/\A≠[]/\B≠[]:=⟨fun a=>⟨a.nd,a.na,a.nb⟩,fun⟨x,y,z⟩=>⟨h.1,h.2.1,h.2.2,x,y,z⟩⟩
theorem dQ{L:List Int}(h:∀x∈L,0≤x):(L.map Int.toNat).Nodup↔L.Nodup:=by
 rw[List.nodup_iff_pairwise_ne,List.nodup_iff_pairwise_ne,List.pairwise_map];constructor
 ·exact fun p=>p.imp fun n e=>n (by rw[e])
 ·exact fun p=>List.Pairwise.imp_of_mem (fun {x y} hx hy hxy=>by have h1:=h x hx;have h2:=h y hy;omega) p
theorem rm{H:PHp}{a:Addr}{l:List (Str×TE')}{bs:List Bool}{xs:List (Str×Bool)}{R:TS'}{D:cM}{o:Option PV}(hl:l.length≤30)(hx:pairs l bs=xs.map pr)(hv:x6 [some (.ref a),o] H l bs)(h:∀q,H q=none->R D [some (.ref a),some (.ref q)] (put H q (.lst (xs.map pr)))):sv (vU (xQ (jQ l)) (fQ 1)) R D [some (.ref a),o] H:=by
 show jQ l _ H fun xs H1=>_;have hn:=pairs_len l bs;refine kD hv ⟨ah (by omega),fun q hq=>?_⟩;rw[hx];exact h q hq
def kT2(y:PV):Bool:=match y with | .tup [_,.bl b]=>b | _=>false
def kN2(y:PV):PV:=match y with | .tup [n,_]=>n | _=>.non
theorem rh{H:PHp}{xs:List (Str×Bool)}{nm:Str}{Q:VK'}(hn:((xs.map pr).filter kT2).map kN2=[.str nm])(hl:xs.length≤100)(h:∀r H1,U.Sub H H1->H1 r=some (.lst [.str nm])->Q (.ref r) H1)(q:Addr)(hq:H q=none) :
  ∀acc,put H q (.lst (xs.map pr)) acc=none->b0 (fun H=>H q=some (.lst (xs.map pr))) (yn 2 (nJ (fQ 0) (nJ (fQ 1) tS))) (ig (aR 1)) (aR 0) acc (fun v H=>∃H3,U.Sub H3 H/\Q v H3) (xs.map pr) [none,none] (put (put H q (.lst (xs.map pr))) acc (.lst [])):=fun acc hacc=>by
 have nq:q≠acc:=fun e=>by subst e;rw[ai]at hacc;cases hacc
 refine aG kN2 kT2 (fun σ=>∃z z2,σ=[z,z2]) (by rw[List.length_map];omega) (fun _=>(ar nq).trans ai) ?_ ?_ ⟨_,_,rfl⟩
 ·rintro y hy l σ R' ⟨z,z2,rfl⟩ hl kT kF;obtain⟨p,hp,rfl⟩:=List.mem_map.mp hy;have e1:kT2 (pr p)=p.2:=rfl;rw[e1]at kT kF;show _/\_;refine⟨rfl,?_⟩;show([]:List PV)=[]/\_;exact⟨rfl,bw (fun q=>⟨_,ai,hl,by rw[aI];exact kT q _ ⟨_,_,rfl⟩⟩) (fun q=>kF q _ ⟨_,_,rfl⟩)⟩
 ·rw[hn];have s1:=(Sub.refl H).put (o:=.lst (xs.map pr)) hq;exact⟨_,Sub.refl _,h acc _ (s1.put (s1.free hacc)) ai⟩
noncomputable def lT (c:Int) (y:PV):Bool:=@decide (∃L:List Int,y=tupI L/\¬Nms c L) (Classical.propDecidable _)
theorem lK:∀{L M:List Int},L.map PV.int=M.map PV.int->L=M
 | [],[],_=>rfl
 | [],_::_,h=>by simp at h
 | _::_,[],h=>by simp at h
 | x::L,y::M,h=>by
  simp only[List.map_cons,List.cons.injEq,PV.int.injEq]at h;rw[h.1,lK h.2]
theorem cL{c:Int}{L:List Int}:lT c (.tup (L.map PV.int))=true↔¬Nms c L:=by
 unfold lT;rw[@decide_eq_true_iff _ (Classical.propDecidable _)];constructor
 ·rintro⟨M,e,h⟩;unfold tupI at e;injection e with e;rw[lK e];exact h
 ·exact fun h=>⟨L,rfl,h⟩
theorem gf{ns:List Str}:flat 9 (.fls (ns.map PV.str))=true:=by
 show(ns.map PV.str).all (flat 8)=true;rw[List.all_eq_true];intro z hz;obtain⟨p,_,rfl⟩:=List.mem_map.mp hz;rfl
theorem m5:(10:Int) ^ Int.toNat 30≠0:=by decide +kernel
theorem sP{α:Type}(f:α->PV)(l:List α):∃m:List α,bO (l.map f) (some (-1)) none=m.map f/\m.length≤1/\∀x∈m,x∈l:=by
 refine⟨l.drop (l.length - 1),?_,by rw[List.length_drop];omega,fun x hx=>List.mem_of_mem_drop hx⟩;have e:HT.sIx (l.map f).length 0 (some (-1))=l.length - 1:=by
  unfold HT.sIx;rw[List.length_map];simp;omega
 unfold bO;rw[e,HT.iN,List.length_map,List.map_drop];exact List.take_of_length_le (by rw[List.length_drop,List.length_map];omega)
def onP(f:P2->Bool)(y:PV):Bool:=match y with | .tup [.int u,.int v]=>f (u,v) | _=>false
theorem hW{f:P2->Bool}{p:P2}:onP f (prV p)=f p:=rfl
theorem dk{f:P2->Bool}:∀{ts:List P2},((ts.map prV).filter (onP f)).map (fun y=>y)=(ts.filter f).map prV
 | []=>rfl
 | p::ts=>by
  have ih:=dk (f:=f) (ts:=ts);rw[List.map_cons,List.filter_cons,List.filter_cons,hW];by_cases h:f p=true
  ·rw[if_pos h,if_pos h,List.map_cons,List.map_cons,ih]
  ·rw[if_neg h,if_neg h,ih]
theorem dM{q:Int->Bool}:∀{l:List Int},((l.map PV.int).filter (onI q)).map (fun y=>y)=(l.filter q).map PV.int
 | []=>rfl
 | k::l=>by
  have e:onI q (PV.int k)=q k:=rfl;rw[List.map_cons,List.filter_cons,List.filter_cons,e];by_cases h:q k=true
  ·rw[if_pos h,if_pos h,List.map_cons,List.map_cons,dM]
  ·rw[if_neg h,if_neg h,dM]
theorem p7{α:Type}{l:List α}:l.filter (fun _=>true)=l:=List.filter_eq_self.mpr fun _ _=>rfl
theorem fb2{L:List Int}{bs:List P2}:bs.filter (FB 2 L)=bs:=p7
def dj:Sp':=fun vs H Q _=>match vs with
 | [.tup l,.tup m]=>∃A B:List Int,l=A.map PV.int/\m=B.map PV.int/\A.length≤1000/\Q (.tup ((A.filter fun y=>!decide (y∈B)).map PV.int)) H
 | _=>False
theorem pK{l m:List PV}{H:PHp}{Q:VK'}{E:XK'}:dj [.tup l,.tup m] H Q E=(∃A B:List Int,l=A.map PV.int/\m=B.map PV.int/\A.length≤1000/\Q (.tup ((A.filter fun y=>!decide (y∈B)).map PV.int)) H):=rfl
def jH:Sp':=fun vs H Q _=>match vs with
 | [.tup l,.tup m]=>∃c,∃S V:List Int,c≤6/\l=S.map PV.int/\m=V.map PV.int/\Nms c S/\Nms c V/\∀G:List Int,Nms c G->(∀x,x∈G↔x∈S∨x∈V)->Q (.tup (G.map PV.int)) H
 | _=>False
theorem Bg{l m:List PV}{H:PHp}{Q:VK'}{E:XK'}:jH [.tup l,.tup m] H Q E=(∃c,∃S V:List Int,c≤6/\l=S.map PV.int/\m=V.map PV.int/\Nms c S/\Nms c V/\∀G:List Int,Nms c G->(∀x,x∈G↔x∈S∨x∈V)->Q (.tup (G.map PV.int)) H):=rfl
def dG:Sp':=fun vs H Q _=>match vs with
 | [.tup [_,.tup l,.tup m]]=>∃c,∃S V:List Int,c≤6/\l=S.map PV.int/\m=V.map PV.int/\Nms c S/\Nms c V/\∀G:List Int,Nms c G->(∀x,x∈G↔x∈S∨x∈V)->Q (.tup (G.map PV.int)) H
 | _=>False
theorem pI{a:PV}{l m:List PV}{H:PHp}{Q:VK'}{E:XK'}:dG [.tup [a,.tup l,.tup m]] H Q E=(∃c,∃S V:List Int,c≤6/\l=S.map PV.int/\m=V.map PV.int/\Nms c S/\Nms c V/\∀G:List Int,Nms c G->(∀x,x∈G↔x∈S∨x∈V)->Q (.tup (G.map PV.int)) H):=rfl
def eU(t:Ad)(k:Nat):Sp':=fun vs H Q _=>match vs with
 | [.ref x,.tup l]=>∃c ts bs,∃L:List Int,Dr t H x c ts bs/\l=L.map PV.int/\OkD c ts bs/\Nms c L/\∀y H1,U.Sub H H1->Dr t H1 y c (ts.filter (FT k L)) (bs.filter (FB k L))->Q (.ref y) H1
 | _=>False
theorem Ay{k:Nat}{x:Addr}{l:List PV}{H:PHp}{Q:VK'}{E:XK'}:eU t k [.ref x,.tup l] H Q E=(∃c ts bs,∃L:List Int,Dr t H x c ts bs/\l=L.map PV.int/\OkD c ts bs/\Nms c L/\∀y H1,U.Sub H H1->Dr t H1 y c (ts.filter (FT k L)) (bs.filter (FB k L))->Q (.ref y) H1):=rfl
def eZ(t:Ad):Sp':=fun vs H Q _=>match vs with
 | [.ref x,.int c,.ref a,.tup l]=>∃dx ys ps qs,H x=some (.ins t.a_D dx [])/\H a=some (.lst ys)/\l=qs.map prV/\Rows H ys ps/\Good c ps/\Good c qs/\(1≤c/\c≤6/\qs.length≤6) /\
  ∀ts bs,ts.Perm ps->Srt ts->bs.Perm qs->Srt bs->Q .non (put H x (.ins t.a_D dx (DF c ts bs)))
 | _=>False
theorem vJ{x a:Addr}{l:List PV}{c:Int}{H:PHp}{Q:VK'}{E:XK'}:eZ t [.ref x,.int c,.ref a,.tup l] H Q E=∃dx ys ps qs,H x=some (.ins t.a_D dx [])/\H a=some (.lst ys)/\l=qs.map prV/\Rows H ys ps/\Good c ps/\Good c qs/\(1≤c/\c≤6/\qs.length≤6) /\
  ∀ts bs,ts.Perm ps->Srt ts->bs.Perm qs->Srt bs->Q .non (put H x (.ins t.a_D dx (DF c ts bs))):=rfl
def RDr(k:Int)(ts bs:List P2)(S V N:List Int)(us cs:List P2):Prop :=
 (k=1->us=ts.filter (FT 1 S)/\cs=bs.filter (FB 1 S)) /\
 (k=2->us=(ts.filter (FT 1 S)).filter (FT 2 N)/\cs=bs.filter (FB 1 S)) /\
 (k=3->∃A,An (ts.filter (FT 1 S)) V A/\us=(ts.filter (FT 1 S)).filter (FT 1 (N.filter fun y=>!decide (y∈A)))/\cs=(bs.filter (FB 1 S)).filter (FB 1 (N.filter fun y=>!decide (y∈A))))
theorem RDr.one{k:Int}{ts bs us cs us' cs':List P2}{S V N:List Int}(hk:1≤k/\k≤3)(h:RDr k ts bs S V N us cs)(g:RDr k ts bs S V N us' cs'):us=us'/\cs=cs':=by
 have hk:k=1∨k=2∨k=3:=by omega
 rcases hk with rfl | rfl | rfl
 ·obtain⟨a,b⟩:=h.1 rfl;obtain⟨c,d⟩:=g.1 rfl;exact⟨a.trans c.symm,b.trans d.symm⟩
 ·obtain⟨a,b⟩:=h.2.1 rfl;obtain⟨c,d⟩:=g.2.1 rfl;exact⟨a.trans c.symm,b.trans d.symm⟩
 ·obtain⟨A,i,a,b⟩:=h.2.2 rfl;obtain⟨B,j,c,d⟩:=g.2.2 rfl;have e:=i.one j;subst e;exact⟨a.trans c.symm,b.trans d.symm⟩
theorem rd1{ts bs:List P2}{S V N:List Int}:RDr 1 ts bs S V N (ts.filter (FT 1 S)) (bs.filter (FB 1 S)):=⟨fun _=>⟨rfl,rfl⟩,fun h=>(by cases h),fun h=>(by cases h)⟩
theorem rd2{ts bs:List P2}{S V N:List Int}:RDr 2 ts bs S V N ((ts.filter (FT 1 S)).filter (FT 2 N)) (bs.filter (FB 1 S)):=⟨fun h=>(by cases h),fun _=>⟨rfl,rfl⟩,fun h=>(by cases h)⟩
theorem rd3{ts bs:List P2}{S V N A:List Int}(an:An (ts.filter (FT 1 S)) V A):RDr 3 ts bs S V N ((ts.filter (FT 1 S)).filter (FT 1 (N.filter fun y=>!decide (y∈A)))) ((bs.filter (FB 1 S)).filter (FB 1 (N.filter fun y=>!decide (y∈A)))):=⟨fun h=>(by cases h),fun h=>(by cases h),fun _=>⟨A,an,rfl,rfl⟩⟩
def fP(t:Ad):Sp':=fun vs H Q _=>match vs with
 | [.ref x,.int k,.tup [_,.tup l,.tup m],.tup n]=>∃c ts bs,∃S V N:List Int,Dr t H x c ts bs/\OkD c ts bs/\l=S.map PV.int/\m=V.map PV.int/\n=N.map PV.int/\Nms c S/\Nms c V/\Nms c N/\(1≤k/\k≤3)/\∀y H1 us cs,U.Sub H H1->Dr t H1 y c us cs->OkD c us cs->RDr k ts bs S V N us cs->Q (.ref y) H1
 | _=>False
theorem uU{x:Addr}{k:Int}{a:PV}{l m n:List PV}{H:PHp}{Q:VK'}{E:XK'}:fP t [.ref x,.int k,.tup [a,.tup l,.tup m],.tup n] H Q E=(∃c ts bs,∃S V N:List Int,Dr t H x c ts bs/\OkD c ts bs/\l=S.map PV.int/\m=V.map PV.int/\n=N.map PV.int/\Nms c S/\Nms c V/\Nms c N/\(1≤k/\k≤3)/\∀y H1 us cs,U.Sub H H1->Dr t H1 y c us cs->OkD c us cs->RDr k ts bs S V N us cs->Q (.ref y) H1):=rfl
structure Stm (c:Int) (A S V N:List Int):Prop where
 a:Nms c A
 s:Nms c S
 v:Nms c V
 n:Nms c N
 nd:(A++(S++(V++(N++[])))).Nodup
 na:A≠[]
 nn:N≠[]
theorem Stm.ap{c:Int}{A S V N G:List Int}(h:Stm c A S V N)(g:Nms c G)(gi:∀x,x∈G↔x∈S∨x∈V):Ap c A N G:=by
 have n1:=List.nodup_append.mp h.nd;have n2:=List.nodup_append.mp n1.2.1;have n3:=List.nodup_append.mp n2.2.1;refine⟨h.a,h.n,g,?_,h.na,h.nn⟩;refine List.nodup_append.mpr ⟨h.a.nd,List.nodup_append.mpr ⟨h.n.nd,by rw[List.append_nil];exact g.nd,fun x hx y hy e=>?_⟩,fun x hx y hy e=>?_⟩
 ·subst e;rw[List.append_nil]at hy;rcases (gi x).mp hy with q | q
  ·exact n2.2.2 x q x (List.mem_append_right _ (List.mem_append_left _ hx)) rfl
  ·exact n3.2.2 x q x (List.mem_append_left _ hx) rfl
 ·subst e;rw[List.append_nil]at hy;rcases List.mem_append.mp hy with q | q
  ·exact n1.2.2 x hx x (List.mem_append_right _ (List.mem_append_right _ (List.mem_append_left _ q))) rfl
  ·rcases (gi x).mp q with z | z
   ·exact n1.2.2 x hx x (List.mem_append_left _ z) rfl
   ·exact n1.2.2 x hx x (List.mem_append_right _ (List.mem_append_left _ z)) rfl
def N4(c:Int)(A N S V:List Int):Prop:=Nms c A/\Nms c S/\Nms c V/\Nms c N
theorem Stm.n4{c:Int}{A N S V:List Int}(h:Stm c A S V N):N4 c A N S V:=⟨h.a,h.s,h.v,h.n⟩
def Gd(A S V:List Int):Prop:=(A++(S++(V++[]))).Nodup/\A≠[]
open Classical in
noncomputable def Du (d k c:Int) (A N S V:List Int):List Str :=
 if d=0 then(if N4 c A N S V then if 1≤k/\k≤3 then if Stm c A S V N then []else ["NoSets"]else ["NoRule"]else ["NoName"])
 else if N3 c A S V then if Gd A S V then []else ["NoSets"]else ["NoName"]
section
variable {k c:Int}{A N S V:List Int}
theorem d0a(h:¬N4 c A N S V):Du 0 k c A N S V=[("NoName":Str)]:=by unfold Du;rw[if_pos rfl,if_neg h]
theorem d0b(h:N4 c A N S V)(hk:¬(1≤k/\k≤3)):Du 0 k c A N S V=[("NoRule":Str)]:=by unfold Du;rw[if_pos rfl,if_pos h,if_neg hk]
theorem d0c(h:N4 c A N S V)(hk:1≤k/\k≤3)(hs:¬Stm c A S V N):Du 0 k c A N S V=[("NoSets":Str)]:=by unfold Du;rw[if_pos rfl,if_pos h,if_pos hk,if_neg hs]
theorem d0d(hk:1≤k/\k≤3)(hs:Stm c A S V N):Du 0 k c A N S V=[]:=by unfold Du;rw[if_pos rfl,if_pos hs.n4,if_pos hk,if_pos hs]
theorem d1a(h:¬N3 c A S V):Du 1 k c A N S V=[("NoName":Str)]:=by unfold Du;rw[if_neg (by decide),if_neg h]
theorem d1b(h:N3 c A S V)(hs:¬Gd A S V):Du 1 k c A N S V=[("NoSets":Str)]:=by unfold Du;rw[if_neg (by decide),if_pos h,if_neg hs]
theorem d1c(h:N3 c A S V)(hs:Gd A S V):Du 1 k c A N S V=[]:=by unfold Du;rw[if_neg (by decide),if_pos h,if_pos hs]
end
def eI(t:Ad):Sp':=fun vs H Q E=>match vs with
 | [.ref x,.int k,.tup [.tup o,.tup l,.tup m],.tup n]=>∃c ts bs,∃A S V N:List Int,Dr t H x c ts bs/\OkD c ts bs/\o=A.map PV.int/\l=S.map PV.int/\m=V.map PV.int/\n=N.map PV.int/\(Stm c A S V N->1≤k/\k≤3->∀v H1,U.Sub H H1->Q v H1)/\(¬N4 c A N S V->∀H1,U.Sub H H1->E (.ref t.a_K) none H1)/\(N4 c A N S V->¬(1≤k/\k≤3)->∀H1,U.Sub H H1->E (.ref t.a_O) none H1)/\(N4 c A N S V->1≤k/\k≤3->¬Stm c A S V N->∀H1,U.Sub H H1->E (.ref t.a_P) none H1)
 | _=>False
theorem tI{x:Addr}{k:Int}{o l m n:List PV}{H:PHp}{Q:VK'}{E:XK'}:eI t [.ref x,.int k,.tup [.tup o,.tup l,.tup m],.tup n] H Q E=(∃c ts bs,∃A S V N:List Int,Dr t H x c ts bs/\OkD c ts bs/\o=A.map PV.int/\l=S.map PV.int/\m=V.map PV.int/\n=N.map PV.int/\(Stm c A S V N->1≤k/\k≤3->∀v H1,U.Sub H H1->Q v H1)/\(¬N4 c A N S V->∀H1,U.Sub H H1->E (.ref t.a_K) none H1)/\(N4 c A N S V->¬(1≤k/\k≤3)->∀H1,U.Sub H H1->E (.ref t.a_O) none H1)/\(N4 c A N S V->1≤k/\k≤3->¬Stm c A S V N->∀H1,U.Sub H H1->E (.ref t.a_P) none H1)):=rfl
def dz(t:Ad):Sp':=fun vs H Q E=>match vs with
 | [.ref x,.tup [.tup o,.tup l,.tup m]]=>∃c ts bs,∃A S V:List Int,Dr t H x c ts bs/\c≤6/\o=A.map PV.int/\l=S.map PV.int/\m=V.map PV.int/\(N3 c A S V->Gd A S V->Q .non H)/\(¬N3 c A S V->∀H1,U.Sub H H1->E (.ref t.a_K) none H1)/\(N3 c A S V->¬Gd A S V->∀H1,U.Sub H H1->E (.ref t.a_P) none H1)
 | _=>False
theorem qa{x:Addr}{o l m:List PV}{H:PHp}{Q:VK'}{E:XK'}:dz t [.ref x,.tup [.tup o,.tup l,.tup m]] H Q E=(∃c ts bs,∃A S V:List Int,Dr t H x c ts bs/\c≤6/\o=A.map PV.int/\l=S.map PV.int/\m=V.map PV.int/\(N3 c A S V->Gd A S V->Q .non H)/\(¬N3 c A S V->∀H1,U.Sub H H1->E (.ref t.a_K) none H1)/\(N3 c A S V->¬Gd A S V->∀H1,U.Sub H H1->E (.ref t.a_P) none H1)):=rfl
def fM(t:Ad):Sp':=fun vs H Q E=>match vs with
 | [.ref x,.tup [.tup o,.tup l,.tup m],.ref a]=>∃c ts bs,∃A S V:List Int,Dr t H x c ts bs/\c≤6/\o=A.map PV.int/\l=S.map PV.int/\m=V.map PV.int/\H a=some (.lst [])/\(N3 c A S V->Gd A S V->∀v,Q v H)/\(¬N3 c A S V->∀H1,U.Sub H H1->E (.ref t.a_K) none H1)/\(N3 c A S V->¬Gd A S V->∀H1,U.Sub H H1->E (.ref t.a_P) none H1)
 | _=>False
theorem t7{x a:Addr}{o l m:List PV}{H:PHp}{Q:VK'}{E:XK'}:fM t [.ref x,.tup [.tup o,.tup l,.tup m],.ref a] H Q E=(∃c ts bs,∃A S V:List Int,Dr t H x c ts bs/\c≤6/\o=A.map PV.int/\l=S.map PV.int/\m=V.map PV.int/\H a=some (.lst [])/\(N3 c A S V->Gd A S V->∀v,Q v H)/\(¬N3 c A S V->∀H1,U.Sub H H1->E (.ref t.a_K) none H1)/\(N3 c A S V->¬Gd A S V->∀H1,U.Sub H H1->E (.ref t.a_P) none H1)):=rfl
def Kd(t:Ad)(C:Addr)(nm:Str):Prop:=(C=t.a_K/\nm="NoName")∨(C=t.a_P/\nm="NoSets")∨(C=t.a_O/\nm="NoRule")
def fg(t:Ad):Sp':=fun vs H Q _=>match vs with
 | [.ref a]=>∃C nm,H a=some (.exc C)/\Kd t C nm/\∀r H1,U.Sub H H1->H1 r=some (.lst [.str nm])->Q (.ref r) H1
 | _=>False
theorem uB{a:Addr}{H:PHp}{Q:VK'}{E:XK'}:fg t [.ref a] H Q E=(∃C nm,H a=some (.exc C)/\Kd t C nm/\∀r H1,U.Sub H H1->H1 r=some (.lst [.str nm])->Q (.ref r) H1):=rfl
def d6(t:Ad):Sp':=fun vs H Q _=>match vs with
 | [.int d,.ref x,.int k,.ref a]=>∃c ts bs,∃A N S V:List Int,(d=0∨d=1)/\Dr t H x c ts bs/\OkD c ts bs/\H a=some (.lst [tupI A,tupI N,tupI S,tupI V])/\∀r H1,U.Sub H H1->H1 r=some (.lst ((Du d k c A N S V).map PV.str))->Q (.ref r) H1
 | _=>False
theorem rE{d k:Int}{x a:Addr}{H:PHp}{Q:VK'}{E:XK'}:d6 t [.int d,.ref x,.int k,.ref a] H Q E=(∃c ts bs,∃A N S V:List Int,(d=0∨d=1)/\Dr t H x c ts bs/\OkD c ts bs/\H a=some (.lst [tupI A,tupI N,tupI S,tupI V])/\∀r H1,U.Sub H H1->H1 r=some (.lst ((Du d k c A N S V).map PV.str))->Q (.ref r) H1):=rfl
def fy:Sp':=fun vs H Q _=>match vs with
 | [.ref a,.int _,.int c]=>∃A N S V:List Int,(1≤c/\c≤6)/\H a=some (.lst [tupI A,tupI N,tupI S,tupI V])/\A.length≤6/\N.length≤6/\S.length≤6/\V.length≤6/\∀r H1,∀A' N' S' V':List Int,U.Sub H H1->H1 r=some (.lst [tupI A',tupI N',tupI S',tupI V'])->A'.length≤20->N'.length≤20->S'.length≤20->V'.length≤20->Q (.ref r) H1
 | _=>False
theorem uA{a:Addr}{n c:Int}{H:PHp}{Q:VK'}{E:XK'}:fy [.ref a,.int n,.int c] H Q E=(∃A N S V:List Int,(1≤c/\c≤6)/\H a=some (.lst [tupI A,tupI N,tupI S,tupI V])/\A.length≤6/\N.length≤6/\S.length≤6/\V.length≤6/\∀r H1,∀A' N' S' V':List Int,U.Sub H H1->H1 r=some (.lst [tupI A',tupI N',tupI S',tupI V'])->A'.length≤20->N'.length≤20->S'.length≤20->V'.length≤20->Q (.ref r) H1):=rfl
def hJ:Sp':=fun vs H Q _=>match vs with
 | [.int d,.int k,.ref a,.int c]=>∃A N S V:List Int,(d=0∨d=1)/\(1≤c/\c≤6)/\H a=some (.lst [tupI A,tupI N,tupI S,tupI V])/\A.length≤20/\N.length≤20/\S.length≤20/\V.length≤20/\∀r H1,U.Sub H H1->H1 r=some (.lst ((Du d k c A N S V).map PV.str))->Q (.ref r) H1
 | _=>False
theorem yz{d k c:Int}{a:Addr}{H:PHp}{Q:VK'}{E:XK'}:hJ [.int d,.int k,.ref a,.int c] H Q E=(∃A N S V:List Int,(d=0∨d=1)/\(1≤c/\c≤6)/\H a=some (.lst [tupI A,tupI N,tupI S,tupI V])/\A.length≤20/\N.length≤20/\S.length≤20/\V.length≤20/\∀r H1,U.Sub H H1->H1 r=some (.lst ((Du d k c A N S V).map PV.str))->Q (.ref r) H1):=rfl
theorem ja{x y z u:PV}:atI [x,y,z,u] 0=some x:=rfl
theorem tm{x y z u:PV}:atI [x,y,z,u] 1=some y:=rfl
theorem nB{x y z u:PV}:atI [x,y,z,u] 2=some z:=rfl
theorem nD{x y z u:PV}:atI [x,y,z,u] 3=some u:=rfl
theorem Al{A N S V:List Int}{i:Int}(h0:0≤i)(h1:i<4)(hA:A.length≤6)(hN:N.length≤6)(hS:S.length≤6)(hV:V.length≤6):∃M:List Int,atI [PV.tup (A.map PV.int),.tup (N.map PV.int),.tup (S.map PV.int),.tup (V.map PV.int)] i=some (.tup (M.map PV.int))/\M.length≤6:=by
 have:i=0∨i=1∨i=2∨i=3:=by omega
 rcases this with rfl | rfl | rfl | rfl
 ·exact⟨A,rfl,hA⟩
 ·exact⟨N,rfl,hN⟩
 ·exact⟨S,rfl,hS⟩
 ·exact⟨V,rfl,hV⟩
theorem Dw{A N S V M:List Int}{i:Int}(h0:0≤i)(h1:i<4)(hA:A.length≤6)(hN:N.length≤6)(hS:S.length≤6)(hV:V.length≤6)(hM:M.length≤20):∃A' N' S' V':List Int,(bO [PV.tup (A.map PV.int),.tup (N.map PV.int),.tup (S.map PV.int),.tup (V.map PV.int)] none (some i)++[PV.tup (M.map PV.int)])++bO [PV.tup (A.map PV.int),.tup (N.map PV.int),.tup (S.map PV.int),.tup (V.map PV.int)] (some (i+1)) none=[tupI A',tupI N',tupI S',tupI V']/\A'.length≤20/\N'.length≤20/\S'.length≤20/\V'.length≤20/\(bO [PV.tup (A.map PV.int),.tup (N.map PV.int),.tup (S.map PV.int),.tup (V.map PV.int)] none (some i)).length≤4/\(bO [PV.tup (A.map PV.int),.tup (N.map PV.int),.tup (S.map PV.int),.tup (V.map PV.int)] (some (i+1)) none).length≤4:=by
 have:i=0∨i=1∨i=2∨i=3:=by omega
 rcases this with rfl | rfl | rfl | rfl
 ·exact⟨M,N,S,V,rfl,hM,by omega,by omega,by omega,Nat.le_of_ble_eq_true rfl,Nat.le_of_ble_eq_true rfl⟩
 ·exact⟨A,M,S,V,rfl,by omega,hM,by omega,by omega,Nat.le_of_ble_eq_true rfl,Nat.le_of_ble_eq_true rfl⟩
 ·exact⟨A,N,M,V,rfl,by omega,by omega,hM,by omega,Nat.le_of_ble_eq_true rfl,Nat.le_of_ble_eq_true rfl⟩
 ·exact⟨A,N,S,M,rfl,by omega,by omega,by omega,hM,Nat.le_of_ble_eq_true rfl,Nat.le_of_ble_eq_true rfl⟩
theorem nd4{A N S V:List Int}:(A++(S++(V++(N++[])))).Nodup↔[A,N,S,V].flatten.Nodup:=by
 refine List.Perm.nodup_iff ?_;show(A++(S++(V++(N++[])))).Perm (A++(N++(S++(V++[]))));refine List.Perm.append_left A ?_;rw[List.append_nil,List.append_nil,← List.append_assoc];exact List.perm_append_comm
theorem at9{a b c d e f g h i n:Int}(hn:0≤n/\n<9):∃k,atI [PV.int a,.int b,.int c,.int d,.int e,.int f,.int g,.int h,.int i] n=some (.int k):=by
 have:n=0∨n=1∨n=2∨n=3∨n=4∨n=5∨n=6∨n=7∨n=8:=by omega
 rcases this with rfl | rfl | rfl | rfl | rfl | rfl | rfl | rfl | rfl
 ·exact⟨a,rfl⟩
 ·exact⟨b,rfl⟩
 ·exact⟨c,rfl⟩
 ·exact⟨d,rfl⟩
 ·exact⟨e,rfl⟩
 ·exact⟨f,rfl⟩
 ·exact⟨g,rfl⟩
 ·exact⟨h,rfl⟩
 ·exact⟨i,rfl⟩
end
section
variable {P:Program}{w:World}{K:PySem.W.Frag}{mg:Str->Option Value}{base:Heap}{t:Ad}
local macro_rules | `(tactic| ac_rfl) => `(tactic| simp only [BV, zS, uOp, uI, uI0, uIx, aR, uC, sv, vU, fQ, AY, wm, we, ig, zo, BE, uOr, BX, wY, DN, ji, uIf, uUn, vF, lF, xV, xQ, uCB, BM, Dx, CT, wN, qI, rG, oH, wR,
 ly,jw,zU,nG,zZ,Eg,tf,B3,kz,Dy,wd,Dj,ED,C7,oy,DZ,Eh,Eo,tQ,Cd,Ew,lQ,CM,CS,wI,CG,AU,wW,z0,Cq,oC,CN,kM,Et,C3,ku,CH,uEn,CO,AZ,BS,B9,AL,DU,Au,EA,rp,Dz,jg,A8,Ek,sx,qC,wz,EF,wU,EH,xIf,AS,Ax,xn,wC,zT,uK,BT.sub,BT.nm,DY,De,Bi,ends,yd,BL,dY,flat,deq,fK,w_V,w_B,w_I,w_O,Cm,Ez,Em,Co,DH,D0,Ci,B2,D9,DX,Cg,C8,DJ,DI,CB,Cj,D5,CD,Cz,Cr,Ce,El,Di,D6,Cy,w_1,BU,Dd,D3,DT,B7,Ea,CA,DB,D8,DD,AR,Dl,Bz,C4,C9,En,Aa,BH,
 List.map_cons,List.map_nil,List.length_cons,List.length_nil,Nat.reduceAdd,Nat.reduceSub,Nat.add_sub_cancel,Nat.sub_self,Nat.zero_add,List.replicate_succ,List.replicate_zero,List.cons_append,List.nil_append,List.append_nil,List.getElem?_cons_zero,List.getElem?_cons_succ,List.set_cons_zero,List.set_cons_succ,
 x5,yO,List.all_cons,List.all_nil,Bool.and_self,Bool.and_true,Bool.true_and,Bool.not_true,Bool.not_false,true_and,and_true,ai,Option.some.injEq,PO.lst.injEq,exists_eq_left',Int.zero_add ,qt,mM,yY,l7,oP,lG,yQ,qi,Ba,uL,Bb,A6,BD,DO,Ac,AM,yU,tP,uh,tW,tU,rV,vt,uD,sJ,vQ,Aj,xC,Ca,z8,uT,vG,lZ,kr,j8,kh,iX,mO,pM,qP,pK,Bg,pI,Ay,vJ,uU,tI,qa,t7,uB,rE,uA,yz,ja,tm,nB,nD])
local macro_rules | `(tactic| eq_refl) => `(tactic| first | exact Or.inl rfl | exact Or.inr rfl)
theorem Ck(T:Tx K mg t):aN P w K mg base CX0 1 t.a_zV t.d_zV ["count","pair"] el:=by
 refine okU (k:=0) T.F_zV BP (fun vs H Q E h=>by
  unfold el at h;split at h
  ·rfl
  ·exact h.elim) (fun cdv A outer s H E B hr=>⟨_,(aq (aF (mW (eW (a7 hr.units) bj (aS aM bK rfl T.b_len PySem.boot_len (aa (qv 1) ae)) aj (aE _)) (my (qb wb wV fq fb fq fb aj (aJ (qv 1) aj (fun _ _=>rfl)) (aJ (qv 1) aj (fun _ _=>rfl)) (qv 0)))))),?_⟩)
 intro vs H Q E h;unfold el at h;split at h
 ·rename_i c u v;obtain⟨⟨h1,h2,h3⟩,h⟩:=h;ac_rfl;exact aA rfl (aA (by simpa using h1) (aA (by simpa using h2) ⟨H,Sub.refl _,by rw[decide_eq_true h3];exact h⟩))
 ·exact h.elim
theorem ui(T:Tx K mg t):aN P w K mg base CX0 2 t.a_zG t.d_zG ["count","pairs"] cI:=by
 refine okU (k:=1) T.F_zG AF (fun vs H Q E h=>by
  unfold cI at h;split at h
  ·rfl
  ·exact h.elim) (fun cdv A outer s H E B hr=>⟨_,(aq (aF (mW (aS (rq rfl) yi rfl T.b_all boot_all (aa (bG (N2:=["pair","count"]) (nt:=1) (js:=[0]) (ck (sc:=ao ub)) rfl (aP (qv 1)) (fun s0 H0 fp ps=>⟨(ax (i:=0) (show List.Nodup (["pair","count"]:List Str) by decide +kernel) rfl (by eq_refl)),bh,(aH (Ck T) (hr.mono (by decide)) rfl T.g_zV T.F_zV.kp T.B_zV (aa (qv 1) (aa (qv 0) ae)))⟩)) ae)) (my (eW (a7 hr.units) bj (mG rfl hr.units rfl T.b_len rfl T.b_set boot_set (qv 1)) (aS aM bK rfl T.b_len PySem.boot_len (aa (qv 1) ae)) (aE _)))))),?_⟩)
 intro vs H Q E h;unfold cI at h;split at h
 ·rename_i c a;obtain⟨ps,ha,gd,hc,h⟩:=h;have h15:=gd.len hc;ac_rfl;refine⟨_,ha,fun acc hacc=>?_⟩;have hna:=au ha hacc;refine aG (fun _=>.bl true) (fun _=>true) (fun σ=>∃x,σ=[x,some (.int c)]) (by rw[List.length_map];omega) (fun l=>(ar hna).trans ha) ?step ?fin ⟨_,rfl⟩
  case step =>
   rintro y hy l σ R ⟨x,rfl⟩ hl kT kF;obtain⟨p,hp,rfl⟩:=List.mem_map.mp hy;have b:=gd.lo p hp;unfold prV;ac_rfl;exact⟨b,hl,by rw[aI];exact kT rfl _ ⟨_,rfl⟩⟩
  case fin =>
   ac_rfl;refine⟨ps.map fun _=>true,by rw[List.filter_eq_self.mpr (fun _ _=>rfl),List.map_map,List.map_map];rfl,aA (by simp) ⟨ps,(ar hna).trans ha,gd.nd,gd.prs hc,h15,_,(ar hna).trans ha,H,Sub.put (Sub.refl _) hacc,?_⟩⟩;rw[List.length_map,beq_self_eq_true];exact h
 ·exact h.elim
theorem BJ(T:Tx K mg t):aN P w K mg base CX0 3 t.a_zu t.d_zu ["self","count","ties","bows"] (g5 t):=by
 refine okU (k:=2) T.F_zu i5 (fun vs H Q E h=>by
  unfold g5 at h;split at h
  ·rfl
  ·exact h.elim) (fun cdv A outer s H E B hr=>⟨_,(af (aW (bx (eS (ay fq fb (qv 1) aj (aE _)) (dP (ay gE gz (qv 1) (bN (v':=.int 6) rfl T.c_MOST_NAMES (fun _=>by simp[RP])) (aE _)))))
  bB
  aC)
  (af (bt (i:=4) i5.nd rfl (by eq_refl) (N2:=["tie"]) (nt:=1) (js:=[]) (ck (sc:=ao mR)) rfl (aP (qv 2)) (fun s0 H0 fp ps=>⟨(ax (i:=0) (show List.Nodup (["tie"]:List Str) by decide +kernel) rfl (by eq_refl)),bh,(aQ aL bf rfl T.b_tuple boot_tuple (aa (qv 0) ae))⟩))
  (af (aW (dh (bW (aH (ui T) (hr.mono (by decide)) rfl T.g_zG T.F_zG.kp T.B_zG (aa (qv 1) (aa (qv 4) ae)))))
  bB
  aC)
  (af (bt (i:=5) i5.nd rfl (by eq_refl) (N2:=["bow"]) (nt:=1) (js:=[]) (ck (sc:=ao mR)) rfl (aP (qv 3)) (fun s0 H0 fp ps=>⟨(ax (i:=0) (show List.Nodup (["bow"]:List Str) by decide +kernel) rfl (by eq_refl)),bh,(aQ aL bf rfl T.b_tuple boot_tuple (aa (qv 0) ae))⟩))
  (af (aW (dh (bW (aH (ui T) (hr.mono (by decide)) rfl T.g_zG T.F_zG.kp T.B_zG (aa (qv 1) (aa (qv 5) ae)))))
  bB
  aC)
  (af (aW (ay gE gz (aS aM bK rfl T.b_len PySem.boot_len (aa (qv 5) ae)) (bN (v':=.int 6) rfl T.c_MOST_BOWS (fun _=>by simp[RP])) (aE _))
  bB
  aC)
  (af (gw (qv 0) (qv 1) T.cl_D T.nfD_count rfl)
  (af (gw (qv 0) (aQ aL bf rfl T.b_tuple boot_tuple (aa (aS dF fA rfl T.b_sorted boot_sorted (aa (qv 4) ae)) ae)) T.cl_D T.nfD_ties rfl)
  (aq (gw (qv 0) (aQ aL bf rfl T.b_tuple boot_tuple (aa (aS dF fA rfl T.b_sorted boot_sorted (aa (qv 5) ae)) ae)) T.cl_D T.nfD_bows rfl)))))))))),?_⟩)
 intro vs H Q E h;unfold g5 at h;split at h
 ·rename_i x c a b;obtain⟨dx,ys,zs,ps,qs,hx,ha,hb,ry,rz,gp,gq,⟨c1,c6,q6⟩,h⟩:=h;have hp15:=gp.len c6;have hq15:=gq.len c6;refine ak fun R hR=>?_;ac_rfl;refine aw (by simp;omega) (aw (by simp;omega) ?_);subst hR;refine ak fun R hR=>?_;ac_rfl;refine⟨_,ha,fun p1 hp1=>?_⟩;refine aG (lJ H) (fun _=>true) (fun σ=>∃z,σ=[z]) (by rw[ry.length];omega) (fun l=>(ar (au ha hp1)).trans ha) ?_ ?_ ⟨_,rfl⟩
  ·rintro y hy l σ R' ⟨z,rfl⟩ hl kT kF;obtain⟨p,hp,row⟩:=fY ry hy;rcases row with rfl |⟨r,rfl,hr⟩
   ·unfold prV;ac_rfl;exact⟨hl,by rw[aI];exact kT rfl _ ⟨_,rfl⟩⟩
   ·rw[cY hr]at kT;ac_rfl;exact⟨_,(ar (au hr hp1)).trans hr,hl,by rw[aI];exact kT rfl _ ⟨_,rfl⟩⟩
  rw[List.filter_eq_self.mpr (fun _ _=>rfl),fO ry];subst hR;have sb1:U.Sub H (put H p1 (.lst (ps.map prV))):=Sub.put (Sub.refl _) hp1;refine ak fun R hR=>?_;ac_rfl;refine⟨ps,rfl,gp,c6,?_⟩
  try ac_rfl
  subst hR;have hp1s:put H p1 (.lst (ps.map prV)) p1=some (.lst (ps.map prV)):=ai;have hx1:=sb1 _ _ hx;have hb1:=sb1 _ _ hb;have rz1:=rz.up sb1;generalize put H p1 (.lst (ps.map prV))=H1 at *;refine ak fun R hR=>?_;ac_rfl;refine⟨_,hb1,fun p2 hp2=>?_⟩;refine aG (lJ H1) (fun _=>true) (fun σ=>∃z,σ=[z]) (by rw[rz1.length];omega) (fun l=>(ar (au hb1 hp2)).trans hb1) ?_ ?_ ⟨_,rfl⟩
  ·rintro y hy l σ R' ⟨z,rfl⟩ hl kT kF;obtain⟨p,hp,row⟩:=fY rz1 hy;rcases row with rfl |⟨r,rfl,hr⟩
   ·unfold prV;ac_rfl;exact⟨hl,by rw[aI];exact kT rfl _ ⟨_,rfl⟩⟩
   ·rw[cY hr]at kT;ac_rfl;exact⟨_,(ar (au hr hp2)).trans hr,hl,by rw[aI];exact kT rfl _ ⟨_,rfl⟩⟩
  rw[List.filter_eq_self.mpr (fun _ _=>rfl),fO rz1];subst hR;have sb2:U.Sub H1 (put H1 p2 (.lst (qs.map prV))):=Sub.put (Sub.refl _) hp2;have hp1t:=sb2 _ _ hp1s;have hx2:=sb2 _ _ hx1;have hp2s:put H1 p2 (.lst (qs.map prV)) p2=some (.lst (qs.map prV)):=ai;refine ak fun R hR=>?_;ac_rfl;refine⟨qs,rfl,gq,c6,?_⟩
  try ac_rfl
  subst hR;have sb3:=sb1.trans sb2;generalize put H1 p2 (.lst (qs.map prV))=H2 at *;refine ak fun R hR=>?_;ac_rfl;refine⟨_,hp2s,aw (by rw[List.length_map];simp;omega) ?_⟩;subst hR;refine ak fun R hR=>?_;ac_rfl;refine⟨_,_,hx2,by simp,?_⟩;subst hR;have n1:p1≠x:=fun e=>by subst e;rw[hx2]at hp1t;cases hp1t
  have n2:p2≠x:=fun e=>by subst e;rw[hx2]at hp2s;cases hp2s
  refine ak fun R hR=>?_;ac_rfl;refine⟨ps,(ar n1).trans hp1t,gp.nd,fun p hp=>?_,by omega,fun r1 ts hr1 pt st=>?_⟩
  ·have:=gp.lo p hp;omega
  try ac_rfl
  have nx1:x≠r1:=fun e=>by subst e;rw[ai]at hr1;cases hr1
  refine⟨_,_,(ar nx1).trans ai,Nat.lt_of_le_of_lt d0 (by decide),?_⟩;subst hR;have n3:p2≠r1:=fun e=>by subst e;rw[ar n2,hp2s]at hr1;cases hr1
  ac_rfl;refine⟨qs,(ar n2).trans ((ar n3).trans ((ar n2).trans hp2s)),gq.nd,fun p hp=>?_,by omega,fun r2 bs hr2 pb sb=>?_⟩
  ·have:=gq.lo p hp;omega
  try ac_rfl
  have nx2:x≠r2:=fun e=>by subst e;rw[ai]at hr2;cases hr2
  have ul:=fun f v fs=>@d0 f v fs;refine⟨_,_,(ar nx2).trans ai,?_,put H x (.ins t.a_D dx (DF c ts bs)),kG ?_ ai,h ts bs pt st pb sb⟩
  ·have l1:=ul "ties" (.tup (ts.map prV)) (iw "count" (.int c) []);have l2:=ul "count" (.int c) [];simp only[List.length_nil]at l2;omega
  ·intro z o hzx hz;have hz2:=sb3 _ _ hz;have z1:z≠r1:=fun e=>by subst e;rw[ar hzx,hz2]at hr1;cases hr1
   have z2:z≠r2:=fun e=>by subst e;rw[ar hzx,ar z1,ar hzx,hz2]at hr2;cases hr2
   rw[ar hzx,ar z2,ar hzx,ar z1,ar hzx];exact hz2
 ·exact h.elim
theorem xR(T:Tx K mg t):aN P w K mg base CX0 1 t.a_zc t.d_zc ["self","name"] (cP t):=by
 refine okU (k:=0) T.F_zc Bh (fun vs H Q E h=>by
  unfold cP at h;split at h
  ·rfl
  ·exact h.elim) (fun cdv A outer s H E B hr=>⟨_,(aq (aW (bx (eS (ay fq fb (qv 1) aj (aE _)) (dP (ay oE nY (qv 1) (bX (qv 0) T.cl_D T.nfD_count rfl) (aE _)))))
  bB
  aC)),?_⟩)
 intro vs H Q E h;unfold cP at h;split at h
 ·rename_i x n;obtain⟨dx,c,ts,bs,hx,⟨h0,h1⟩,h⟩:=h;ac_rfl;exact aw (by simpa using h0) ⟨_,_,_,hx,rfl,aw (by simpa using h1) ⟨H,Sub.refl _,h⟩⟩
 ·exact h.elim
theorem zN(T:Tx K mg t):aN P w K mg base CX0 2 t.a_zf t.d_zf ["self","name"] (du t):=by
 refine okU (k:=1) T.F_zf AE (fun vs H Q E h=>by
  unfold du at h;split at h
  ·rfl
  ·exact h.elim) (fun cdv A outer s H E B hr=>⟨_,(af (aU (bg (qv 0) T.cl_D T.m_zc (xR T) (hr.mono (by decide)) T.B_zc (aa (qv 1) ae)))
  (aq (aF (aQ aL bf rfl T.b_tuple boot_tuple (aa (bG (N2:=["tie","name"]) (nt:=1) (js:=[1]) (ck (sc:=ao uz)) rfl (aP (bX (qv 0) T.cl_D T.nfD_ties rfl)) (fun s0 H0 fp ps=>⟨(ax (i:=0) (show List.Nodup (["tie","name"]:List Str) by decide +kernel) rfl (by eq_refl)),(bF (ay (a7 hr.units) bj (aJ (qv 0) aj (fun _ _=>rfl)) (qv 1) (aE _))),(aJ (qv 0) aj (fun _ _=>rfl))⟩)) ae))))),?_⟩)
 intro vs H Q E h;unfold du at h;split at h
 ·rename_i x n;obtain⟨dx,c,ts,bs,hx,⟨h0,h1⟩,h15,h⟩:=h;ac_rfl;refine⟨⟨_,_,hx,rfl⟩,_,_,_,_,hx,⟨h0,h1⟩,_,_,_,hx,rfl,?_⟩;show ∀acc,H acc=none->_;intro acc hacc;refine aG g0 (at1 n) (fun σ=>∃z,σ=[z,some (.int n)]) (by rw[List.length_map];omega) (fun _=>trivial) ?step ?fin ⟨_,rfl⟩
  case step =>
   rintro y hy l σ R ⟨z,rfl⟩ hl kT kF;obtain⟨p,hp,rfl⟩:=List.mem_map.mp hy;have e:at1 n (prV p)=decide (p.2=n):=rfl;rw[e]at kT kF;unfold prV at *;ac_rfl;refine bw (fun q=>?_) (fun q=>?_)
   ·exact⟨hl,by rw[aI];exact kT (by simpa using q) _ ⟨_,rfl⟩⟩
   ·exact kF (by simpa using q) _ ⟨_,rfl⟩
  case fin =>
   refine⟨_,ai,H,Sub.put (Sub.refl _) hacc,?_⟩;rw[src_list];exact h
 ·exact h.elim
theorem xm(T:Tx K mg t):aN P w K mg base CX0 2 t.a_za t.d_za ["self","name"] (cv t):=by
 refine okU (k:=1) T.F_za AI (fun vs H Q E h=>by
  unfold cv at h;split at h
  ·rfl
  ·exact h.elim) (fun cdv A outer s H E B hr=>⟨_,(af (aU (bg (qv 0) T.cl_D T.m_zc (xR T) (hr.mono (by decide)) T.B_zc (aa (qv 1) ae)))
  (aq (aF (aQ aL bf rfl T.b_tuple boot_tuple (aa (bG (N2:=["tie","name"]) (nt:=1) (js:=[1]) (ck (sc:=ao vN)) rfl (aP (bX (qv 0) T.cl_D T.nfD_ties rfl)) (fun s0 H0 fp ps=>⟨(ax (i:=0) (show List.Nodup (["tie","name"]:List Str) by decide +kernel) rfl (by eq_refl)),(bF (ay (a7 hr.units) bj (aJ (qv 0) aj (fun _ _=>rfl)) (qv 1) (aE _))),(aJ (qv 0) aj (fun _ _=>rfl))⟩)) ae))))),?_⟩)
 intro vs H Q E h;unfold cv at h;split at h
 ·rename_i x n;obtain⟨dx,c,ts,bs,hx,⟨h0,h1⟩,h15,h⟩:=h;ac_rfl;refine⟨⟨_,_,hx,rfl⟩,_,_,_,_,hx,⟨h0,h1⟩,_,_,_,hx,rfl,?_⟩;show ∀acc,H acc=none->_;intro acc hacc;refine aG g1 (at0 n) (fun σ=>∃z,σ=[z,some (.int n)]) (by rw[List.length_map];omega) (fun _=>trivial) ?step ?fin ⟨_,rfl⟩
  case step =>
   rintro y hy l σ R ⟨z,rfl⟩ hl kT kF;obtain⟨p,hp,rfl⟩:=List.mem_map.mp hy;have e:at0 n (prV p)=decide (p.1=n):=rfl;rw[e]at kT kF;unfold prV at *;ac_rfl;refine bw (fun q=>?_) (fun q=>?_)
   ·exact⟨hl,by rw[aI];exact kT (by simpa using q) _ ⟨_,rfl⟩⟩
   ·exact kF (by simpa using q) _ ⟨_,rfl⟩
  case fin =>
   refine⟨_,ai,H,Sub.put (Sub.refl _) hacc,?_⟩;rw[fC];exact h
 ·exact h.elim
theorem vb(T:Tx K mg t):aN P w K mg base CX0 1 t.a_zw t.d_zw ["_law_script","_law_k"] g8:=by
 refine okU (k:=0) T.F_zw A3 (fun vs H Q E h=>by
  unfold g8 at h;split at h
  ·rfl
  ·exact h.elim) (fun cdv A outer s H E B hr=>⟨_,(af (aW (ay fq fb (qv 1) (aS aM bK rfl T.b_len PySem.boot_len (aa (qv 0) ae)) (aE _))
  (aq (aF (aJ (qv 0) (qv 1) (fun _ _=>rfl))))
  aC)
  (aq (aF aj))),?_⟩)
 intro vs H Q E h;unfold g8 at h;split at h
 ·rename_i l k;obtain⟨⟨h0,h1⟩,ns,rfl,h⟩:=h;ac_rfl;by_cases hk:k<ns.length
  ·refine aA (by rw[List.length_map];simpa using hk) ?_;rw[vd h0 hk];exact⟨H,Sub.refl _,h⟩
  ·refine aw (by rw[List.length_map];simpa using hk) ⟨H,Sub.refl _,?_⟩;rw[List.getD_eq_getElem?_getD,List.getElem?_eq_none (by omega)]at h;exact h
 ·exact h.elim
theorem Bj(T:Tx K mg t):aN P w K mg base CX0 1 t.a_yb t.d_yb ["count","names"] fB:=by
 refine okU (k:=0) T.F_yb nH (fun vs H Q E h=>by
  unfold fB at h;split at h
  ·rfl
  ·exact h.elim) (fun cdv A outer s H E B hr=>⟨_,(af (aB (i:=2) nH.nd rfl (by eq_refl) (bY aj))
  (af (bU PassesOwn.never rfl (aP (qv 1)) (ax (i:=3) nH.nd rfl (by eq_refl))
  (af (aW (bx (eS (ay wb wV (qv 3) (qv 2) (aE _)) (dP (ay oE nY (qv 3) (qv 0) (aE _)))))
   (aq (aF dH))
   aC)
   (aq (aB (i:=2) nH.nd rfl (by eq_refl) (qv 3)))))
  (aq (aF dH)))),?_⟩)
 intro vs H Q E h;unfold fB at h;split at h
 ·rename_i c l;obtain⟨L,rfl,hY,hN⟩:=h;ac_rfl;refine cc (fun i σ H2=>∃z k,σ=[some (.int c),some (.tup (L.map PV.int)),some (.int z),k]/\H2=H/\Nms c (L.take i)/\(∀x∈L.take i,x≤z)/\(z=-1∨z∈L.take i)/\-1≤z) ?_ ?_ ⟨-1,none,rfl,rfl,⟨List.Pairwise.nil,by simp⟩,by simp,.inl rfl,by decide⟩
  ·rintro σ H2 ⟨z,k,rfl,rfl,hn,_,_⟩;rw[List.length_map,List.take_length]at hn;exact⟨trivial,H2,Sub.refl _,hY hn⟩
  ·rintro G i y σ H2 hy ⟨z,k,rfl,rfl,hn,hz,hm,z1⟩ kk;refine⟨trivial,?_⟩;obtain⟨hi,e⟩:=List.getElem?_eq_some_iff.mp hy;rw[List.length_map]at hi;rw[List.getElem_map]at e;subst e;have tk:L.take (i+1)=L.take i++[L[i]]:=by rw[List.take_add_one,List.getElem?_eq_getElem hi];rfl
   have stop:(L[i]≤z∨c≤L[i])->¬Nms c L:=fun h n=>by
    have lo:=n.lo _ (List.getElem_mem hi);have hzl:z<L[i]:=by
     rcases hm with rfl | hm
     ·omega
     ·obtain⟨j,hj,e⟩:=List.mem_iff_getElem.mp hm;rw[List.getElem_take]at e;rw[List.length_take]at hj;rw[←e];exact List.pairwise_iff_getElem.mp n.up j i (by omega) hi (by omega)
    omega
   generalize L[i]=y at *;ac_rfl;by_cases h1:y≤z
   ·exact aA (by simp;omega) ⟨H2,Sub.refl _,hN (stop (.inl h1))⟩
   ·refine aw (by simp;omega) ?_;by_cases h2:c≤y
    ·exact aA (by simp;omega) ⟨H2,Sub.refl _,hN (stop (.inr h2))⟩
    ·refine aw (by simp;omega) (kk _ _ ⟨_,_,rfl,rfl,?_,?_,?_,by omega⟩)
     ·rw[tk];refine⟨List.pairwise_append.mpr ⟨hn.up,List.pairwise_singleton _ _,fun a ha b hb=>?_⟩,fun x hx=>?_⟩
      ·rw[List.mem_singleton]at hb;have:=hz a ha;omega
      ·rcases List.mem_append.mp hx with hx | hx
       ·exact hn.lo x hx
       ·rw[List.mem_singleton]at hx;omega
     ·intro x hx;rw[tk]at hx;rcases List.mem_append.mp hx with hx | hx
      ·have:=hz x hx;omega
      ·rw[List.mem_singleton]at hx;omega
     ·rw[tk];exact .inr (List.mem_append_right _ (List.mem_singleton.mpr rfl))
 ·exact h.elim
theorem zA(T:Tx K mg t):aN P w K mg base CX0 2 t.a_zd t.d_zd ["self","names"] (dt t):=by
 refine okU (k:=1) T.F_zd wx (fun vs H Q E h=>by
  unfold dt at h;split at h
  ·rfl
  ·exact h.elim) (fun cdv A outer s H E B hr=>⟨_,(aq (aW (dh (bW (aH (Bj T) (hr.mono (by decide)) rfl T.g_yb T.F_yb.kp T.B_yb (aa (bX (qv 0) T.cl_D T.nfD_count rfl) (aa (qv 1) ae)))))
  bB
  aC)),?_⟩)
 intro vs H Q E h;unfold dt at h;split at h
 ·rename_i x l;obtain⟨c,ts,L,⟨dx,bs,hx⟩,rfl,hL,h⟩:=h;ac_rfl;exact⟨_,_,_,hx,rfl,L,rfl,fun _=>⟨H,Sub.refl _,h⟩,fun n=>absurd hL n⟩
 ·exact h.elim
theorem yF(T:Tx K mg t):aN P w K mg base CX0 3 t.a_zb t.d_zb ["self","names"] (jV t swp):=by
 refine okU (k:=2) T.F_zb qZ (fun vs H Q E h=>by
  unfold jV at h;split at h
  ·rfl
  ·exact h.elim) (fun cdv A outer s H E B hr=>⟨_,(af (aU (bg (qv 0) T.cl_D T.m_zd (zA T) (hr.mono (by decide)) T.B_zd (aa (qv 1) ae)))
  (af (aB (i:=2) qZ.nd rfl (by eq_refl) (aQ cu gW rfl T.b_list boot_list (aa (qv 1) ae)))
  (af (bU PassesOwn.never rfl (o9 rfl T.b_range (aa (jR (bX (qv 0) T.cl_D T.nfD_count rfl) aj) (aa (bY aj) (aa (bY aj) ae)))) (ax (i:=3) qZ.nd rfl (by eq_refl))
  (aq (aW (ay (dR hr.units) b8 (qv 3) (qv 2) (by with_unfolding_all rfl))
   (aq (aU (cX PySem.F.slot_list_extend PySem.F.type_list_extend ij oG (qv 2) (aa (bg (qv 0) T.cl_D T.m_zf (zN T) (hr.mono (by decide)) T.B_zf (aa (qv 3) ae)) ae))))
   aC)))
  (aq (aF (aQ aL bf rfl T.b_tuple boot_tuple (aa (iV rfl hr.units rfl T.b_sorted rfl T.b_set boot_set (qv 2)) ae))))))),?_⟩)
 intro vs H Q E h;unfold jV at h;split at h
 ·rename_i x l;obtain⟨c,ts,L,⟨dx,bs,hx⟩,rfl,hL,hc,gt,h⟩:=h;have t15:=gt.len hc.2;have l6:=hL.len hc.2;ac_rfl;refine⟨⟨_,_,hx,rfl⟩,c,ts,L,⟨_,_,hx⟩,rfl,hL,fun p hp=>?_⟩;have nxp:=au hx hp;refine⟨_,_,_,(ar nxp).trans hx,rfl,?_⟩;show -1≤c - 1/\c - 1<1000/\_;refine⟨by omega,by omega,?_⟩;have ei:lh (c - 1) (c - 1+1).toNat=(dlN c).map PV.int:=by
   unfold lh dlN;rw[List.map_map,show c - 1+1=c by omega];rfl
  rw[ei];refine cc (fun i σ H2=>∃k F,σ=[some (.ref x),some (.tup (L.map PV.int)),some (.ref p),k]/\H2=put H p (.lst (F.map PV.int))/\F=((dlN c).take i).foldl (My.bS (ts.map swp)) L/\F.length≤6+15*i) ?_ ?_ ⟨none,L,rfl,rfl,rfl,by omega⟩
  ·rintro σ H2 ⟨k,F,rfl,rfl,hF,hlen⟩;rw[List.length_map,List.take_length]at hF;refine⟨trivial,?_⟩;ac_rfl;have iff:∀y,y∈F↔My.Reach (ts.map swp) L y:=fun y=>by rw[hF];exact rH gt y
   have lo:∀y∈F,0≤y/\y<c:=fun y hy=>sM (fun a b e=>qD gt true a b e) hL.lo ((iff y).mp hy);refine⟨F.map Int.toNat,by rw[eG fun y hy=>(by have:=lo y hy;omega)],fun n hn=>?_,fun r ms hr hs hm=>?_⟩
   ·obtain⟨z,hz,rfl⟩:=List.mem_map.mp hn;have:=lo z hz;omega
   ·obtain⟨q1,q2⟩:=pJ hc.2 lo iff hs hm
    try ac_rfl
    refine⟨H,((Sub.refl H).put hp).put (((Sub.refl H).put hp).free hr),?_⟩;have:=h _ q1 q2;rw[List.map_map]at this;exact this
  ·rintro G i y σ H2 hy ⟨k,F,rfl,rfl,hF,hlen⟩ kk;refine⟨trivial,?_⟩;rw[List.getElem?_map]at hy;cases hn:(dlN c)[i]? with
   | none=>rw[hn]at hy;cases hy
   | some n =>
    rw[hn]at hy;cases hy;have hnm:=jC.mp (List.mem_of_getElem? hn);have hil:i<(dlN c).length:=(List.getElem?_eq_some_iff.mp hn).1;have hi6:i<6:=by unfold dlN at hil;rw[List.length_map,List.length_range]at hil;omega
    have hnx:((dlN c).take (i+1)).foldl (My.bS (ts.map swp)) L=My.bS (ts.map swp) F n:=by rw[pd hn,← hF]
    have hpl:=p8 (E:=ts.map swp) (f:=F) (n:=n);rw[List.length_map]at hpl;ac_rfl;refine⟨a9,?_⟩;rw[bE];refine uW (fun hm=>?_) (fun hm=>?_)
    ·have e:My.bS (ts.map swp) F n=F++(ts.filter (fun p=>decide (p.2=n))).map (·.1):=by
      unfold My.bS;rw[if_pos hm,kl]
     rw[e]at hnx hpl;refine⟨⟨_,rfl⟩,⟨_,_,(ar nxp).trans hx,rfl⟩,_,_,_,_,(ar nxp).trans hx,hnm,t15,?_⟩
     try ac_rfl
     rw[List.length_append]at hpl;unfold src;refine⟨ah (by rw[List.length_map,List.length_map];omega),kk _ _ ⟨_,F++(ts.filter (fun p=>decide (p.2=n))).map (·.1),rfl,?_,hnx.symm,?_⟩⟩
     ·rw[aI,List.map_append]
     ·rw[List.length_append];omega
    ·have e:My.bS (ts.map swp) F n=F:=by
      unfold My.bS;rw[if_neg hm]
     rw[e]at hnx;exact kk _ _ ⟨_,F,rfl,rfl,hnx.symm,by omega⟩
 ·exact h.elim
theorem zW(T:Tx K mg t):aN P w K mg base CX0 2 t.a_zk t.d_zk ["self","name"] (fx t):=by
 refine okU (k:=1) T.F_zk sE (fun vs H Q E h=>by
  unfold fx at h;split at h
  ·rfl
  ·exact h.elim) (fun cdv A outer s H E B hr=>⟨_,(af (aU (bg (qv 0) T.cl_D T.m_zc (xR T) (hr.mono (by decide)) T.B_zc (aa (qv 1) ae)))
  (af (bt (i:=2) sE.nd rfl (by eq_refl) (N2:=["bow","name"]) (nt:=1) (js:=[1]) (ck (sc:=ao rJ)) rfl (aP (bX (qv 0) T.cl_D T.nfD_bows rfl)) (fun s0 H0 fp ps=>⟨(ax (i:=0) (show List.Nodup (["bow","name"]:List Str) by decide +kernel) rfl (by eq_refl)),(bF (ay (a7 hr.units) bj (aJ (qv 0) aj (fun _ _=>rfl)) (qv 1) (aE _))),(aJ (qv 0) aj (fun _ _=>rfl))⟩))
  (af (bt (i:=3) sE.nd rfl (by eq_refl) (N2:=["bow","name"]) (nt:=1) (js:=[1]) (ck (sc:=ao rJ)) rfl (aP (bX (qv 0) T.cl_D T.nfD_bows rfl)) (fun s0 H0 fp ps=>⟨(ax (i:=0) (show List.Nodup (["bow","name"]:List Str) by decide +kernel) rfl (by eq_refl)),(bF (ay (a7 hr.units) bj (aJ (qv 0) aj (fun _ _=>rfl)) (qv 1) (aE _))),(aJ (qv 0) aj (fun _ _=>rfl))⟩))
  (aq (aF (aQ aL bf rfl T.b_tuple boot_tuple (aa (dq (qv 2) (qv 3)) ae))))))),?_⟩)
 intro vs H Q E h;unfold fx at h;split at h
 ·rename_i x n;obtain⟨dx,c,ts,bs,hx,⟨h0,h1⟩,h15,h⟩:=h;have lf:∀(q:DM.P2->Bool) (g:DM.P2->Int),(((bs.filter q).map g).map PV.int).length≤15:=fun q g=>by
   rw[List.length_map,List.length_map];exact Nat.le_trans (List.length_filter_le _ _) h15
  ac_rfl;refine⟨⟨_,_,hx,rfl⟩,_,_,_,_,hx,⟨h0,h1⟩,_,_,_,hx,rfl,?_⟩;show ∀acc,H acc=none->_;intro p1 hp1;refine aG g0 (at1 n) (fun σ=>∃z,σ=[z,some (.int n)]) (by rw[List.length_map];omega) (fun _=>trivial) ?_ ?_ ⟨_,rfl⟩
  ·rintro y hy l σ R ⟨z,rfl⟩ hl kT kF;obtain⟨p,hp,rfl⟩:=List.mem_map.mp hy;have e:at1 n (prV p)=decide (p.2=n):=rfl;rw[e]at kT kF;unfold prV at *;ac_rfl;refine bw (fun q=>?_) (fun q=>?_)
   ·exact⟨hl,by rw[aI];exact kT (by simpa using q) _ ⟨_,rfl⟩⟩
   ·exact kF (by simpa using q) _ ⟨_,rfl⟩
  rw[src_list];refine⟨_,_,_,(ar (au hx hp1)).trans hx,rfl,?_⟩;show ∀acc,put H p1 _ acc=none->_;intro p2 hp2;have n12:p1≠p2:=fun e=>by subst e;rw[ai]at hp2;cases hp2
  have sa:=(Sub.refl H).put (o:=.lst (((bs.filter (fun p=>decide (p.2=n))).map (·.1)).map PV.int)) hp1;refine aG g1 (at0 n) (fun σ=>∃z,σ=[z,some (.int n)]) (by rw[List.length_map];omega) (fun _=>trivial) ?_ ?_ ⟨_,rfl⟩
  ·rintro y hy l σ R ⟨z,rfl⟩ hl kT kF;obtain⟨p,hp,rfl⟩:=List.mem_map.mp hy;have e:at0 n (prV p)=decide (p.1=n):=rfl;rw[e]at kT kF;unfold prV at *;ac_rfl;refine bw (fun q=>?_) (fun q=>?_)
   ·exact⟨hl,by rw[aI];exact kT (by simpa using q) _ ⟨_,rfl⟩⟩
   ·exact kF (by simpa using q) _ ⟨_,rfl⟩
  rw[fC];have sb:=sa.put (o:=.lst (((bs.filter (fun p=>decide (p.1=n))).map (·.2)).map PV.int)) (sa.free hp2);refine⟨_,_,(ar n12).trans ai,ai,ah (by have a1:=lf (fun p=>decide (p.2=n)) (·.1);have a2:=lf (fun p=>decide (p.1=n)) (·.2);omega),fun p3 hp3=>?_⟩
  try ac_rfl
  refine⟨H,sb.put (sb.free hp3),?_⟩;rw[←List.map_append];exact h
 ·exact h.elim
theorem CI(T:Tx K mg t):aN P w K mg base CX0 3 t.a_zu t.d_zu ["self","count","ties","bows"] (eZ t):=by
 refine okU (k:=2) T.F_zu i5 (fun vs H Q E h=>by
  unfold eZ at h;split at h
  ·rfl
  ·exact h.elim) (fun cdv A outer s H E B hr=>⟨_,(af (aW (bx (eS (ay fq fb (qv 1) aj (aE _)) (dP (ay gE gz (qv 1) (bN (v':=.int 6) rfl T.c_MOST_NAMES (fun _=>by simp[RP])) (aE _)))))
  bB
  aC)
  (af (bt (i:=4) i5.nd rfl (by eq_refl) (N2:=["tie"]) (nt:=1) (js:=[]) (ck (sc:=ao mR)) rfl (aP (qv 2)) (fun s0 H0 fp ps=>⟨(ax (i:=0) (show List.Nodup (["tie"]:List Str) by decide +kernel) rfl (by eq_refl)),bh,(aQ aL bf rfl T.b_tuple boot_tuple (aa (qv 0) ae))⟩))
  (af (aW (dh (bW (aH (ui T) (hr.mono (by decide)) rfl T.g_zG T.F_zG.kp T.B_zG (aa (qv 1) (aa (qv 4) ae)))))
  bB
  aC)
  (af (bt (i:=5) i5.nd rfl (by eq_refl) (N2:=["bow"]) (nt:=1) (js:=[]) (ck (sc:=ao mR)) rfl (aP (qv 3)) (fun s0 H0 fp ps=>⟨(ax (i:=0) (show List.Nodup (["bow"]:List Str) by decide +kernel) rfl (by eq_refl)),bh,(aQ aL bf rfl T.b_tuple boot_tuple (aa (qv 0) ae))⟩))
  (af (aW (dh (bW (aH (ui T) (hr.mono (by decide)) rfl T.g_zG T.F_zG.kp T.B_zG (aa (qv 1) (aa (qv 5) ae)))))
  bB
  aC)
  (af (aW (ay gE gz (aS aM bK rfl T.b_len PySem.boot_len (aa (qv 5) ae)) (bN (v':=.int 6) rfl T.c_MOST_BOWS (fun _=>by simp[RP])) (aE _))
  bB
  aC)
  (af (gw (qv 0) (qv 1) T.cl_D T.nfD_count rfl)
  (af (gw (qv 0) (aQ aL bf rfl T.b_tuple boot_tuple (aa (aS dF fA rfl T.b_sorted boot_sorted (aa (qv 4) ae)) ae)) T.cl_D T.nfD_ties rfl)
  (aq (gw (qv 0) (aQ aL bf rfl T.b_tuple boot_tuple (aa (aS dF fA rfl T.b_sorted boot_sorted (aa (qv 5) ae)) ae)) T.cl_D T.nfD_bows rfl)))))))))),?_⟩)
 intro vs H Q E h;unfold eZ at h;split at h
 ·rename_i x c a l;obtain⟨dx,ys,ps,qs,hx,ha,rfl,ry,gp,gq,⟨c1,c6,q6⟩,h⟩:=h;have hp15:=gp.len c6;have hq15:=gq.len c6;refine ak fun R hR=>?_;ac_rfl;refine aw (by simp;omega) (aw (by simp;omega) ?_);subst hR;refine ak fun R hR=>?_;ac_rfl;refine⟨_,ha,fun p1 hp1=>?_⟩;refine aG (lJ H) (fun _=>true) (fun σ=>∃z,σ=[z]) (by rw[ry.length];omega) (fun l=>(ar (au ha hp1)).trans ha) ?_ ?_ ⟨_,rfl⟩
  ·rintro y hy l σ R' ⟨z,rfl⟩ hl kT kF;obtain⟨p,hp,row⟩:=fY ry hy;rcases row with rfl |⟨r,rfl,hr⟩
   ·unfold prV;ac_rfl;exact⟨hl,by rw[aI];exact kT rfl _ ⟨_,rfl⟩⟩
   ·rw[cY hr]at kT;ac_rfl;exact⟨_,(ar (au hr hp1)).trans hr,hl,by rw[aI];exact kT rfl _ ⟨_,rfl⟩⟩
  rw[List.filter_eq_self.mpr (fun _ _=>rfl),fO ry];subst hR;have sb1:U.Sub H (put H p1 (.lst (ps.map prV))):=Sub.put (Sub.refl _) hp1;refine ak fun R hR=>?_;ac_rfl;refine⟨ps,rfl,gp,c6,?_⟩
  try ac_rfl
  subst hR;have hp1s:put H p1 (.lst (ps.map prV)) p1=some (.lst (ps.map prV)):=ai;have hx1:=sb1 _ _ hx;generalize put H p1 (.lst (ps.map prV))=H1 at *;refine ak fun R hR=>?_;ac_rfl;show ∀acc,H1 acc=none->_;intro p2 hp2;refine aG (fun y=>y) (fun _=>true) (fun σ=>∃z,σ=[z]) (by rw[List.length_map];omega) (fun l=>trivial) ?_ ?_ ⟨_,rfl⟩
  ·rintro y hy l σ R' ⟨z,rfl⟩ hl kT kF;obtain⟨p,hp,rfl⟩:=List.mem_map.mp hy;unfold prV;ac_rfl;exact⟨hl,by rw[aI];exact kT rfl _ ⟨_,rfl⟩⟩
  rw[List.filter_eq_self.mpr (fun _ _=>rfl),List.map_id'' (fun _=>rfl)];subst hR;have sb2:U.Sub H1 (put H1 p2 (.lst (qs.map prV))):=Sub.put (Sub.refl _) hp2;have hp1t:=sb2 _ _ hp1s;have hx2:=sb2 _ _ hx1;have hp2s:put H1 p2 (.lst (qs.map prV)) p2=some (.lst (qs.map prV)):=ai;refine ak fun R hR=>?_;ac_rfl;refine⟨qs,rfl,gq,c6,?_⟩
  try ac_rfl
  subst hR;have sb3:=sb1.trans sb2;generalize put H1 p2 (.lst (qs.map prV))=H2 at *;refine ak fun R hR=>?_;ac_rfl;refine⟨_,hp2s,aw (by rw[List.length_map];simp;omega) ?_⟩;subst hR;refine ak fun R hR=>?_;ac_rfl;refine⟨_,_,hx2,by simp,?_⟩;subst hR;have n1:p1≠x:=fun e=>by subst e;rw[hx2]at hp1t;cases hp1t
  have n2:p2≠x:=fun e=>by subst e;rw[hx2]at hp2s;cases hp2s
  refine ak fun R hR=>?_;ac_rfl;refine⟨ps,(ar n1).trans hp1t,gp.nd,fun p hp=>?_,by omega,fun r1 ts hr1 pt st=>?_⟩
  ·have:=gp.lo p hp;omega
  try ac_rfl
  have nx1:x≠r1:=fun e=>by subst e;rw[ai]at hr1;cases hr1
  refine⟨_,_,(ar nx1).trans ai,Nat.lt_of_le_of_lt d0 (by decide),?_⟩;subst hR;have n3:p2≠r1:=fun e=>by subst e;rw[ar n2,hp2s]at hr1;cases hr1
  ac_rfl;refine⟨qs,(ar n2).trans ((ar n3).trans ((ar n2).trans hp2s)),gq.nd,fun p hp=>?_,by omega,fun r2 bs hr2 pb sb=>?_⟩
  ·have:=gq.lo p hp;omega
  try ac_rfl
  have nx2:x≠r2:=fun e=>by subst e;rw[ai]at hr2;cases hr2
  have ul:=fun f v fs=>@d0 f v fs;refine⟨_,_,(ar nx2).trans ai,?_,put H x (.ins t.a_D dx (DF c ts bs)),kG ?_ ai,h ts bs pt st pb sb⟩
  ·have l1:=ul "ties" (.tup (ts.map prV)) (iw "count" (.int c) []);have l2:=ul "count" (.int c) [];simp only[List.length_nil]at l2;omega
  ·intro z o hzx hz;have hz2:=sb3 _ _ hz;have z1:z≠r1:=fun e=>by subst e;rw[ar hzx,hz2]at hr1;cases hr1
   have z2:z≠r2:=fun e=>by subst e;rw[ar hzx,ar z1,ar hzx,hz2]at hr2;cases hr2
   rw[ar hzx,ar z2,ar hzx,ar z1,ar hzx];exact hz2
 ·exact h.elim
theorem CV(T:Tx K mg t):aN P w K mg base CX0 1 t.a_zs t.d_zs ["step"] jG:=by
 refine okU (k:=0) T.F_zs Az (fun vs H Q E h=>by
  unfold jG at h;split at h
  ·rfl
  ·exact h.elim) (fun cdv A outer s H E B hr=>⟨_,(aq (aF (eW (jU hr.units) bj (aJ (qv 0) aj (fun _ _=>rfl)) aX (aE _)))),?_⟩)
 intro vs H Q E h;unfold jG at h;split at h
 ·rename_i x k y;ac_rfl;exact⟨H,Sub.refl _,h⟩
 ·exact h.elim
theorem Cp(T:Tx K mg t):aN P w K mg base CX0 1 t.a_zj t.d_zj ["step"] ki:=by
 refine okU (k:=0) T.F_zj AK (fun vs H Q E h=>by
  unfold ki at h;split at h
  ·rfl
  ·exact h.elim) (fun cdv A outer s H E B hr=>⟨_,(aq (aF (eW (jU hr.units) bj (aJ (qv 0) aj (fun _ _=>rfl)) aX (aE _)))),?_⟩)
 intro vs H Q E h;unfold ki at h;split at h
 ·rename_i x k y;ac_rfl;exact⟨H,Sub.refl _,h⟩
 ·exact h.elim
theorem AH(T:Tx K mg t):aN P w K mg base CX0 2 t.a_zC t.d_zC ["step","behind"] gS:=by
 refine okU (k:=1) T.F_zC Bp (fun vs H Q E h=>by
  unfold gS at h;split at h
  ·rfl
  ·exact h.elim) (fun cdv A outer s H E B hr=>⟨_,(aq (aF (mW (aH (CV T) (hr.mono (by decide)) rfl T.g_zs T.F_zs.kp T.B_zs (aa (qv 0) ae)) (my (aH (Cp T) (hr.mono (by decide)) rfl T.g_zj T.F_zj.kp T.B_zj (aa (qv 1) ae)))))),?_⟩)
 intro vs H Q E h;unfold gS at h;split at h
 ·rename_i a k b a' k' b';ac_rfl;unfold mtg at h;refine bw (fun q=>⟨H,Sub.refl _,?_⟩) (fun q=>⟨H,Sub.refl _,?_⟩)
  ·simp only[q,Bool.true_and]at h;exact h
  ·simp only[q,Bool.false_and]at h;exact h
 ·exact h.elim
theorem DG(T:Tx K mg t):aN P w K mg base CX0 3 t.a_zK t.d_zK ["step","behind","given","above"] d5:=by
 refine okU (k:=2) T.F_zK Bv (fun vs H Q E h=>by
  unfold d5 at h;split at h
  ·rfl
  ·exact h.elim) (fun cdv A outer s H E B hr=>⟨_,(af (aW (bW (aH (AH T) (hr.mono (by decide)) rfl T.g_zC T.F_zC.kp T.B_zC (aa (qv 0) (aa (qv 1) ae))))
  (aq (aF (eW (dR hr.units) b8 (aJ (qv 0) aj (fun _ _=>rfl)) (qv 3) (by with_unfolding_all rfl))))
  aC)
  (aq (aF (eW (bA hr.units) b8 (aJ (qv 0) aj (fun _ _=>rfl)) (qv 2) (by with_unfolding_all rfl))))),?_⟩)
 intro vs H Q E h;unfold d5 at h;split at h
 ·rename_i a k b a' k' b' l m;obtain⟨G,A,rfl,rfl,h⟩:=h;unfold psd at h;ac_rfl;refine bw (fun q=>?_) (fun q=>?_)
  ·rw[if_pos q]at h;exact⟨a9,H,Sub.refl _,by rw[bE];exact h⟩
  ·rw[if_neg (by rw[q];decide)]at h;exact⟨a9,H,Sub.refl _,by rw[bE];exact h⟩
 ·exact h.elim
theorem Af(T:Tx K mg t):aN P w K mg base CX0 3 t.a_zE t.d_zE ["drawing","name"] (fD t):=by
 refine okU (k:=2) T.F_zE og (fun vs H Q E h=>by
  unfold fD at h;split at h
  ·rfl
  ·exact h.elim) (fun cdv A outer s H E B hr=>⟨_,(af (bt (i:=2) og.nd rfl (by eq_refl) (N2:=["other","name"]) (nt:=1) (js:=[1]) (ck (sc:=ao o7)) rfl (aP (bg (qv 0) T.cl_D T.m_za (xm T) (hr.mono (by decide)) T.B_za (aa (qv 1) ae))) (fun s0 H0 fp ps=>⟨(ax (i:=0) (show List.Nodup (["other","name"]:List Str) by decide +kernel) rfl (by eq_refl)),bh,(aO (aa (qv 1) (aa aX (aa (qv 0) ae))))⟩))
  (af (bt (i:=3) og.nd rfl (by eq_refl) (N2:=["other","name"]) (nt:=1) (js:=[1]) (ck (sc:=ao o7)) rfl (aP (bg (qv 0) T.cl_D T.m_zf (zN T) (hr.mono (by decide)) T.B_zf (aa (qv 1) ae))) (fun s0 H0 fp ps=>⟨(ax (i:=0) (show List.Nodup (["other","name"]:List Str) by decide +kernel) rfl (by eq_refl)),bh,(aO (aa (qv 1) (aa aX (aa (qv 0) ae))))⟩))
  (af (bt (i:=4) og.nd rfl (by eq_refl) (N2:=["other","name"]) (nt:=1) (js:=[1]) (ck (sc:=ao o7)) rfl (aP (bg (qv 0) T.cl_D T.m_zk (zW T) (hr.mono (by decide)) T.B_zk (aa (qv 1) ae))) (fun s0 H0 fp ps=>⟨(ax (i:=0) (show List.Nodup (["other","name"]:List Str) by decide +kernel) rfl (by eq_refl)),bh,(aO (aa (qv 1) (aa aX (aa (qv 0) ae))))⟩))
  (aq (aF (dq (dq (qv 2) (qv 3)) (qv 4))))))),?_⟩)
 intro vs H Q E h;unfold fD at h;split at h
 ·rename_i x n;obtain⟨c,ts,bs,⟨dx,hx⟩,ok,hn,h⟩:=h;have t15:=ok.gt.len ok.c6;have b15:=ok.gb.len ok.c6;have lf:=cJ ok.gt ok.c6 n;have lu:=dm ok.gt ok.c6 n;have lb:=df ok.gb ok.c6 n;have s0:=Sub.refl H;refine ak fun R hR=>?_;ac_rfl;refine⟨⟨_,_,hx,rfl⟩,dx,c,ts,bs,hx,hn,t15,?_⟩;show ∀acc,H acc=none->_;intro p1 hp1;refine aG (fun y=>PV.tup [.int n,.str "down",y]) (fun _=>true) (fun σ=>∃z,σ=[z,some (.int n)]) (by rw[List.length_map];exact Nat.le_trans (cJ ok.gt ok.c6 n) (by decide)) (fun _=>trivial) ?_ ?_ ⟨_,rfl⟩
  ·rintro y hy l σ R' ⟨z,rfl⟩ hl kT kF;obtain⟨k,hk,rfl⟩:=List.mem_map.mp hy;ac_rfl;exact⟨ah (by decide),hl,by rw[aI];exact kT rfl _ ⟨_,rfl⟩⟩
  rw[mX];subst hR;have s1:=s0.put (o:=.lst (((fol ts n).map fun m=>((n,"down",m):Sp3)).map stV)) (s0.free hp1);have e1:put H p1 (.lst (((fol ts n).map fun m=>((n,"down",m):Sp3)).map stV)) p1=some (.lst (((fol ts n).map fun m=>((n,"down",m):Sp3)).map stV)):=ai;generalize put H p1 (.lst (((fol ts n).map fun m=>((n,"down",m):Sp3)).map stV))=H1 at *;refine ak fun R hR=>?_;ac_rfl;refine⟨⟨_,_,s1 _ _ hx,rfl⟩,dx,c,ts,bs,s1 _ _ hx,hn,t15,?_⟩;show ∀acc,H1 acc=none->_;intro p2 hp2;refine aG (fun y=>PV.tup [.int n,.str "up",y]) (fun _=>true) (fun σ=>∃z,σ=[z,some (.int n)]) (by rw[List.length_map];exact Nat.le_trans (dm ok.gt ok.c6 n) (by decide)) (fun _=>trivial) ?_ ?_ ⟨_,rfl⟩
  ·rintro y hy l σ R' ⟨z,rfl⟩ hl kT kF;obtain⟨k,hk,rfl⟩:=List.mem_map.mp hy;ac_rfl;exact⟨ah (by decide),hl,by rw[aI];exact kT rfl _ ⟨_,rfl⟩⟩
  rw[mX];subst hR;have s2:=s1.put (o:=.lst (((src ts n).map fun m=>((n,"up",m):Sp3)).map stV)) (s1.free hp2);have e2:put H1 p2 (.lst (((src ts n).map fun m=>((n,"up",m):Sp3)).map stV)) p2=some (.lst (((src ts n).map fun m=>((n,"up",m):Sp3)).map stV)):=ai;have e1:put H1 p2 (.lst (((src ts n).map fun m=>((n,"up",m):Sp3)).map stV)) p1=some (.lst (((fol ts n).map fun m=>((n,"down",m):Sp3)).map stV)):=(ar (au e1 hp2)).trans e1;generalize put H1 p2 (.lst (((src ts n).map fun m=>((n,"up",m):Sp3)).map stV))=H2 at *;refine ak fun R hR=>?_;ac_rfl;refine⟨⟨_,_,s2 _ _ hx,rfl⟩,dx,c,ts,bs,s2 _ _ hx,hn,b15,?_⟩;show ∀acc,H2 acc=none->_;intro p3 hp3;refine aG (fun y=>PV.tup [.int n,.str "bow",y]) (fun _=>true) (fun σ=>∃z,σ=[z,some (.int n)]) (by rw[List.length_map];exact Nat.le_trans (df ok.gb ok.c6 n) (by decide)) (fun _=>trivial) ?_ ?_ ⟨_,rfl⟩
  ·rintro y hy l σ R' ⟨z,rfl⟩ hl kT kF;obtain⟨k,hk,rfl⟩:=List.mem_map.mp hy;ac_rfl;exact⟨ah (by decide),hl,by rw[aI];exact kT rfl _ ⟨_,rfl⟩⟩
  rw[mX];subst hR;have s3:=s2.put (o:=.lst (((bwd bs n).map fun m=>((n,"bow",m):Sp3)).map stV)) (s2.free hp3);have e3:put H2 p3 (.lst (((bwd bs n).map fun m=>((n,"bow",m):Sp3)).map stV)) p3=some (.lst (((bwd bs n).map fun m=>((n,"bow",m):Sp3)).map stV)):=ai;have e1:put H2 p3 (.lst (((bwd bs n).map fun m=>((n,"bow",m):Sp3)).map stV)) p1=some (.lst (((fol ts n).map fun m=>((n,"down",m):Sp3)).map stV)):=(ar (au e1 hp3)).trans e1;have e2:put H2 p3 (.lst (((bwd bs n).map fun m=>((n,"bow",m):Sp3)).map stV)) p2=some (.lst (((src ts n).map fun m=>((n,"up",m):Sp3)).map stV)):=(ar (au e2 hp3)).trans e2;generalize put H2 p3 (.lst (((bwd bs n).map fun m=>((n,"bow",m):Sp3)).map stV))=H3 at *;ac_rfl;refine⟨_,_,e1,e2,ah (by simp only[List.length_map];omega),fun p4 hp4=>⟨_,_,rfl,(ar (au e3 hp4)).trans e3,ah (by simp only[List.length_map,List.length_append];omega),fun p5 hp5=>?_⟩⟩;have s4:=s3.put (o:=.lst ((((fol ts n).map fun m=>((n,"down",m):Sp3)).map stV)++(((src ts n).map fun m=>((n,"up",m):Sp3)).map stV))) (s3.free hp4);refine⟨_,Sub.refl _,h p5 _ (s4.free hp5) (s4.put (s4.free hp5)) ?_⟩;rw[ai,stp,List.map_append,List.map_append]
 ·exact h.elim
theorem Ct(T:Tx K mg t):aN P w K mg base CX0 1 t.a_zO t.d_zO ["road"] fW:=by
 refine okU (k:=0) T.F_zO AO (fun vs H Q E h=>by
  unfold fW at h;split at h
  ·rfl
  ·exact h.elim) (fun cdv A outer s H E B hr=>⟨_,(aq (aF (dq (aY (aa (aJ (aJ (qv 0) aj (fun _ _=>rfl)) aj (fun _ _=>rfl)) ae)) (bG (N2:=["step"]) (nt:=1) (js:=[]) (ck (sc:=ao vX)) rfl (aP (qv 0)) (fun s0 H0 fp ps=>⟨(ax (i:=0) (show List.Nodup (["step"]:List Str) by decide +kernel) rfl (by eq_refl)),bh,(aJ (qv 0) aj (fun _ _=>rfl))⟩))))),?_⟩)
 intro vs H Q E h;unfold fW at h;split at h
 ·rename_i a;obtain⟨road,ha,ne,hl,h⟩:=h;cases road with
  | nil=>exact absurd rfl ne
  | cons s0 r0 =>
  ac_rfl;refine⟨_,ha,?_⟩;have e0:atI (stV s0::r0.map stV) 0=some (stV s0):=by
   have:=gr (l:=stV s0::r0.map stV) (i:=0) (by simp);exact this
  rw[List.map_cons,e0];unfold stV;ac_rfl;refine⟨ah (by decide),fun p1 hp1=>?_⟩;have e1:put H p1 (.lst [PV.int s0.1]) p1=some (.lst [PV.int s0.1]):=ai;have a1:put H p1 (.lst [PV.int s0.1]) a=some (.lst ((s0::r0).map stV)):=(ar (au ha hp1)).trans ha;have s1:=(Sub.refl H).put (o:=.lst [PV.int s0.1]) hp1;generalize put H p1 (.lst [PV.int s0.1])=H1 at *;refine⟨_,a1,fun acc hacc=>?_⟩;have na:=au a1 hacc;refine aG g32 (fun _=>true) (fun σ=>∃z,σ=[z]) (by rw[List.length_map];omega) (fun _=>(ar na).trans a1) ?_ ?_ ⟨_,rfl⟩
  ·rintro y hy l σ R' ⟨z,rfl⟩ hl' kT kF;obtain⟨s,hs,rfl⟩:=List.mem_map.mp hy;unfold stV at *;ac_rfl;exact⟨hl',by rw[aI];exact kT rfl _ ⟨_,rfl⟩⟩
  rw[zP];ac_rfl;refine⟨_,_,(ar (au e1 hacc)).trans e1,rfl,ah (by simp at hl ⊢;omega),fun p3 hp3=>⟨_,Sub.refl _,h p3 _ ?_ ?_ ?_⟩⟩
  ·exact(s1.put (s1.free hacc)).free hp3
  ·have s2:=s1.put (o:=.lst (((s0::r0).map (·.2.2)).map PV.int)) (s1.free hacc);exact s2.put (s2.free hp3)
  ·rw[ai];rfl
 ·exact h.elim
theorem Dk(T:Tx K mg t):aN P w K mg base CX0 3 t.a_zR t.d_zR ["road"] fF:=by
 refine okU (k:=2) T.F_zR Ab (fun vs H Q E h=>by
  unfold fF at h;split at h
  ·rfl
  ·exact h.elim) (fun cdv A outer s H E B hr=>⟨_,(aq (aF (rC (N2:=["step","behind"]) (nt:=2) (js:=[]) (ck (sc:=ao vn)) rfl (xO rfl T.b_zip (aa (d3 (qv 0) eC (d7 (bY aj))) (aa (d3 (qv 0) (d7 aj) eC) ae))) (fun s0 H0 fp ps=>⟨(mE (n:=2) rfl (cZ (ax (i:=0) (show List.Nodup (["step","behind"]:List Str) by decide +kernel) rfl (by eq_refl)) (cZ (ax (i:=1) (show List.Nodup (["step","behind"]:List Str) by decide +kernel) rfl (by eq_refl)) jE))),(bF (bW (aH (AH T) (hr.mono (by decide)) rfl T.g_zC T.F_zC.kp T.B_zC (aa (qv 0) (aa (qv 1) ae))))),(aJ (qv 0) aj (fun _ _=>rfl))⟩)))),?_⟩)
 intro vs H Q E h;unfold fF at h;split at h
 ·rename_i a;obtain⟨road,ha,hl,h⟩:=h;ac_rfl;refine⟨_,ha,fun p1 hp1=>⟨_,(ar (au ha hp1)).trans ha,fun p2 hp2=>?_⟩⟩;rw[se,rT]at *;have s1:=(Sub.refl H).put (o:=.lst (road.dropLast.map stV)) hp1;have s2:=s1.put (o:=.lst (road.tail.map stV)) (s1.free hp2);have n12:p1≠p2:=fun e=>by subst e;rw[ai]at hp2;cases hp2
  have e1:put (put H p1 (.lst (road.dropLast.map stV))) p2 (.lst (road.tail.map stV)) p1=some (.lst (road.dropLast.map stV)):=(ar n12).trans ai;have e2:put (put H p1 (.lst (road.dropLast.map stV))) p2 (.lst (road.tail.map stV)) p2=some (.lst (road.tail.map stV)):=ai;generalize put (put H p1 (.lst (road.dropLast.map stV))) p2 (.lst (road.tail.map stV))=H2 at *;refine⟨_,_,e1,rfl,fun acc hacc=>?_⟩;have f1:=au e1 hacc;have f2:=au e2 hacc;refine aG mtN mtF (fun σ=>∃z y,σ=[z,y]) (by rw[ia,List.length_map,List.length_map,List.length_dropLast];omega) (fun _=>⟨(ar f1).trans e1,(ar f2).trans e2⟩) ?_ ?_ ⟨_,_,rfl⟩
  ·rintro y hy l σ R' ⟨z,z2,rfl⟩ hl' kT kF;obtain⟨u,hu,v,hv,rfl⟩:=vC hy;obtain⟨s,hs,rfl⟩:=List.mem_map.mp hu;obtain⟨s',hs',rfl⟩:=List.mem_map.mp hv;have e:mtF (.tup [stV s,stV s'])=mtg s s':=rfl;rw[e]at kT kF;unfold stV at *;ac_rfl;exact bw (fun q=>⟨hl',by rw[aI];exact kT q _ ⟨_,_,rfl⟩⟩) (fun q=>kF q _ ⟨_,_,rfl⟩)
  rw[m4];exact⟨_,Sub.refl _,h acc _ (s2.free hacc) (s2.put (s2.free hacc)) ai⟩
 ·exact h.elim
theorem B6(T:Tx K mg t):aN P w K mg base CX0 3 t.a_zr t.d_zr ["drawing","standing","given","above"] (eF t):=by
 refine okU (k:=2) T.F_zr nQ (fun vs H Q E h=>by
  unfold eF at h;split at h
  ·rfl
  ·exact h.elim) (fun cdv A outer s H E B hr=>⟨_,(af (aB (i:=4) nQ.nd rfl (by eq_refl) (aJ (qv 1) aj (fun _ _=>rfl)))
  (af (aB (i:=5) nQ.nd rfl (by eq_refl) (aJ (qv 1) aj (fun _ _=>rfl)))
  (af (aB (i:=6) nQ.nd rfl (by eq_refl) (aY ae))
  (af (aW (ay (bA hr.units) b8 (qv 4) (qv 2) (by with_unfolding_all rfl))
  (aq (aU (cX PySem.F.slot_list_extend PySem.F.type_list_extend cy cz (qv 6) (aa (bG (N2:=["other"]) (nt:=1) (js:=[]) (ck (sc:=ao pj)) rfl (aP (bg (qv 0) T.cl_D T.m_za (xm T) (hr.mono (by decide)) T.B_za (aa (qv 4) ae))) (fun s0 H0 fp ps=>⟨(ax (i:=0) (show List.Nodup (["other"]:List Str) by decide +kernel) rfl (by eq_refl)),bh,(aO (aa (qv 0) (aa dH ae)))⟩)) ae))))
  aC)
  (af (aW (bx (eS (bx (dJ (bW (qv 5)) (cN (ay (dR hr.units) b8 (qv 4) (qv 3) (by with_unfolding_all rfl))))) (dP (bx (dJ (dh (bW (qv 5))) (cN (ay (bA hr.units) b8 (qv 4) (qv 2) (by with_unfolding_all rfl))))))))
  (af (aU (cX PySem.F.slot_list_extend PySem.F.type_list_extend cy cz (qv 6) (aa (bG (N2:=["other"]) (nt:=1) (js:=[]) (ck (sc:=ao pj)) rfl (aP (bg (qv 0) T.cl_D T.m_zf (zN T) (hr.mono (by decide)) T.B_zf (aa (qv 4) ae))) (fun s0 H0 fp ps=>⟨(ax (i:=0) (show List.Nodup (["other"]:List Str) by decide +kernel) rfl (by eq_refl)),bh,(aO (aa (qv 0) (aa dH ae)))⟩)) ae)))
   (aq (aU (cX PySem.F.slot_list_extend PySem.F.type_list_extend cy cz (qv 6) (aa (bG (N2:=["other"]) (nt:=1) (js:=[]) (ck (sc:=ao pj)) rfl (aP (bg (qv 0) T.cl_D T.m_zk (zW T) (hr.mono (by decide)) T.B_zk (aa (qv 4) ae))) (fun s0 H0 fp ps=>⟨(ax (i:=0) (show List.Nodup (["other"]:List Str) by decide +kernel) rfl (by eq_refl)),bh,(aO (aa (qv 0) (aa dH ae)))⟩)) ae)))))
  aC)
  (aq (aF (qv 6)))))))),?_⟩)
 intro vs H Q E h;unfold eF at h;split at h
 ·rename_i x n b l m;obtain⟨c,ts,bs,G,A,⟨dx,hx⟩,ok,hn,rfl,rfl,h⟩:=h;have t15:=ok.gt.len ok.c6;have b15:=ok.gb.len ok.c6;have lf:=cJ ok.gt ok.c6 n;have lu:=dm ok.gt ok.c6 n;have lb:=df ok.gb ok.c6 n;refine ak fun R hR=>?_;ac_rfl;subst hR;refine ak fun R hR=>?_;ac_rfl;subst hR;refine ak fun R hR=>?_;ac_rfl;refine⟨ah (by decide),fun p hp=>?_⟩;have s0:=(Sub.refl H).put (o:=.lst []) hp;have e0:put H p (.lst []) p=some (.lst (([]:List Sd).map sdV)):=ai;generalize put H p (.lst [])=H0 at *;subst hR;refine ak fun R hR=>?_;have key:∀(L1:List Sd) (H1:PHp),U.Sub H H1->H1 p=some (.lst (L1.map sdV))->L1=(if n∈G then []else(fol ts n).map fun m=>((m,true):Sd))->R { nx:=fun _ H=>∃H3,U.Sub H3 H/\Q .non H3,rt:=fun v H=>∃H3,U.Sub H3 H/\Q v H3 } [some (.ref x),some (.tup [.int n,.bl b]),some (.tup (G.map PV.int)),some (.tup (A.map PV.int)),some (.int n),some (.bl b),some (.ref p)] H1:=fun L1 H1 s1 e1 hL=>by
   have l1:L1.length≤6:=by rw[hL];split<;>simp<;>omega
   subst hR;refine ak fun R hR=>?_;have key2:∀(L2:List Sd) (H2:PHp),U.Sub H H2->H2 p=some (.lst ((L1++L2).map sdV))->L2=(if (b=true/\n∈A)∨(b=false/\n∉G)then(src ts n).map (fun m=>((m,false):Sd))++(bwd bs n).map (fun m=>((m,true):Sd))else [])->R { nx:=fun _ H=>∃H3,U.Sub H3 H/\Q .non H3,rt:=fun v H=>∃H3,U.Sub H3 H/\Q v H3 } [some (.ref x),some (.tup [.int n,.bl b]),some (.tup (G.map PV.int)),some (.tup (A.map PV.int)),some (.int n),some (.bl b),some (.ref p)] H2:=fun L2 H2 s2 e2 hL2=>by
    subst hR;ac_rfl;refine⟨H2,Sub.refl _,h p H2 hp s2 ?_⟩;rw[e2,hL,hL2];rfl
   ac_rfl;cases b with
   | true =>
    refine aA rfl ⟨a9,?_⟩;simp only[bE];by_cases ha:n∈A
    ·refine aA (by simp[ha]) ?_;have cd:((true:Bool)=true/\n∈A)∨((true:Bool)=false/\n∉G):=.inl ⟨rfl,ha⟩;refine⟨⟨_,e1⟩,⟨_,_,s1 _ _ hx,rfl⟩,dx,c,ts,bs,s1 _ _ hx,hn,t15,?_⟩;show ∀acc,H1 acc=none->_;intro q1 hq1;refine aG (fun y=>PV.tup [y,.bl false]) (fun _=>true) (fun σ=>∃z,σ=[z]) (by rw[List.length_map];exact Nat.le_trans (dm ok.gt ok.c6 n) (by decide)) (fun _=>trivial) ?_ ?_ ⟨_,rfl⟩
     ·rintro y hy l σ R' ⟨z,rfl⟩ hl kT kF;obtain⟨k,hk,rfl⟩:=List.mem_map.mp hy;ac_rfl;exact⟨ah (by decide),hl,by rw[aI];exact kT rfl _ ⟨_,rfl⟩⟩
     rw[fZ];ac_rfl;refine⟨_,_,(ar (au e1 hq1)).trans e1,rfl,ah (by simp only[List.length_map,List.length_append,List.length_nil];omega),?_⟩;rw[←List.map_append];have s2:=(s1.put (o:=.lst (((src ts n).map fun m=>((m,false):Sd)).map sdV)) (s1.free hq1)).put (o:=.lst ((L1++(src ts n).map fun m=>((m,false):Sd)).map sdV)) hp;have e2:put (put H1 q1 (.lst (((src ts n).map fun m=>((m,false):Sd)).map sdV))) p (.lst ((L1++(src ts n).map fun m=>((m,false):Sd)).map sdV)) p=some (.lst ((L1++(src ts n).map fun m=>((m,false):Sd)).map sdV)):=ai;generalize put (put H1 q1 (.lst (((src ts n).map fun m=>((m,false):Sd)).map sdV))) p (.lst ((L1++(src ts n).map fun m=>((m,false):Sd)).map sdV))=H2 at *;refine⟨⟨_,rfl⟩,⟨_,_,s2 _ _ hx,rfl⟩,dx,c,ts,bs,s2 _ _ hx,hn,b15,?_⟩;show ∀acc,H2 acc=none->_;intro q2 hq2;refine aG (fun y=>PV.tup [y,.bl true]) (fun _=>true) (fun σ=>∃z,σ=[z]) (by rw[List.length_map];exact Nat.le_trans (df ok.gb ok.c6 n) (by decide)) (fun _=>trivial) ?_ ?_ ⟨_,rfl⟩
     ·rintro y hy l σ R' ⟨z,rfl⟩ hl kT kF;obtain⟨k,hk,rfl⟩:=List.mem_map.mp hy;ac_rfl;exact⟨ah (by decide),hl,by rw[aI];exact kT rfl _ ⟨_,rfl⟩⟩
     rw[fZ];ac_rfl;refine⟨_,_,(ar (au e2 hq2)).trans e2,rfl,ah (by simp only[List.length_map,List.length_append,List.length_nil];omega),?_⟩;rw[←List.map_append];have s3:=(s2.put (o:=.lst (((bwd bs n).map fun m=>((m,true):Sd)).map sdV)) (s2.free hq2)).put (o:=.lst (((L1++((src ts n).map fun m=>((m,false):Sd)))++(bwd bs n).map fun m=>((m,true):Sd)).map sdV)) hp;have e3:put (put H2 q2 (.lst (((bwd bs n).map fun m=>((m,true):Sd)).map sdV))) p (.lst (((L1++((src ts n).map fun m=>((m,false):Sd)))++(bwd bs n).map fun m=>((m,true):Sd)).map sdV)) p=some (.lst (((L1++((src ts n).map fun m=>((m,false):Sd)))++(bwd bs n).map fun m=>((m,true):Sd)).map sdV)):=ai;generalize put (put H2 q2 (.lst (((bwd bs n).map fun m=>((m,true):Sd)).map sdV))) p (.lst (((L1++((src ts n).map fun m=>((m,false):Sd)))++(bwd bs n).map fun m=>((m,true):Sd)).map sdV))=H3 at *;exact key2 _ H3 s3 (by rw[e3,List.append_assoc]) (by rw[if_pos cd])
    ·exact aw (by simp[ha]) (aw rfl (key2 [] H1 s1 (by rw[List.append_nil];exact e1) (by rw[if_neg (by simp[ha])])))
   | false =>
    refine aw rfl (aA rfl ⟨a9,?_⟩);simp only[bE];by_cases ha:n∈G
    ·exact aw (by simp[ha]) (key2 [] H1 s1 (by rw[List.append_nil];exact e1) (by rw[if_neg (by simp[ha])]))
    ·refine aA (by simp[ha]) ?_;have cd:((false:Bool)=true/\n∈A)∨((false:Bool)=false/\n∉G):=.inr ⟨rfl,ha⟩;refine⟨⟨_,e1⟩,⟨_,_,s1 _ _ hx,rfl⟩,dx,c,ts,bs,s1 _ _ hx,hn,t15,?_⟩;show ∀acc,H1 acc=none->_;intro q1 hq1;refine aG (fun y=>PV.tup [y,.bl false]) (fun _=>true) (fun σ=>∃z,σ=[z]) (by rw[List.length_map];exact Nat.le_trans (dm ok.gt ok.c6 n) (by decide)) (fun _=>trivial) ?_ ?_ ⟨_,rfl⟩
     ·rintro y hy l σ R' ⟨z,rfl⟩ hl kT kF;obtain⟨k,hk,rfl⟩:=List.mem_map.mp hy;ac_rfl;exact⟨ah (by decide),hl,by rw[aI];exact kT rfl _ ⟨_,rfl⟩⟩
     rw[fZ];ac_rfl;refine⟨_,_,(ar (au e1 hq1)).trans e1,rfl,ah (by simp only[List.length_map,List.length_append,List.length_nil];omega),?_⟩;rw[←List.map_append];have s2:=(s1.put (o:=.lst (((src ts n).map fun m=>((m,false):Sd)).map sdV)) (s1.free hq1)).put (o:=.lst ((L1++(src ts n).map fun m=>((m,false):Sd)).map sdV)) hp;have e2:put (put H1 q1 (.lst (((src ts n).map fun m=>((m,false):Sd)).map sdV))) p (.lst ((L1++(src ts n).map fun m=>((m,false):Sd)).map sdV)) p=some (.lst ((L1++(src ts n).map fun m=>((m,false):Sd)).map sdV)):=ai;generalize put (put H1 q1 (.lst (((src ts n).map fun m=>((m,false):Sd)).map sdV))) p (.lst ((L1++(src ts n).map fun m=>((m,false):Sd)).map sdV))=H2 at *;refine⟨⟨_,rfl⟩,⟨_,_,s2 _ _ hx,rfl⟩,dx,c,ts,bs,s2 _ _ hx,hn,b15,?_⟩;show ∀acc,H2 acc=none->_;intro q2 hq2;refine aG (fun y=>PV.tup [y,.bl true]) (fun _=>true) (fun σ=>∃z,σ=[z]) (by rw[List.length_map];exact Nat.le_trans (df ok.gb ok.c6 n) (by decide)) (fun _=>trivial) ?_ ?_ ⟨_,rfl⟩
     ·rintro y hy l σ R' ⟨z,rfl⟩ hl kT kF;obtain⟨k,hk,rfl⟩:=List.mem_map.mp hy;ac_rfl;exact⟨ah (by decide),hl,by rw[aI];exact kT rfl _ ⟨_,rfl⟩⟩
     rw[fZ];ac_rfl;refine⟨_,_,(ar (au e2 hq2)).trans e2,rfl,ah (by simp only[List.length_map,List.length_append,List.length_nil];omega),?_⟩;rw[←List.map_append];have s3:=(s2.put (o:=.lst (((bwd bs n).map fun m=>((m,true):Sd)).map sdV)) (s2.free hq2)).put (o:=.lst (((L1++((src ts n).map fun m=>((m,false):Sd)))++(bwd bs n).map fun m=>((m,true):Sd)).map sdV)) hp;have e3:put (put H2 q2 (.lst (((bwd bs n).map fun m=>((m,true):Sd)).map sdV))) p (.lst (((L1++((src ts n).map fun m=>((m,false):Sd)))++(bwd bs n).map fun m=>((m,true):Sd)).map sdV)) p=some (.lst (((L1++((src ts n).map fun m=>((m,false):Sd)))++(bwd bs n).map fun m=>((m,true):Sd)).map sdV)):=ai;generalize put (put H2 q2 (.lst (((bwd bs n).map fun m=>((m,true):Sd)).map sdV))) p (.lst (((L1++((src ts n).map fun m=>((m,false):Sd)))++(bwd bs n).map fun m=>((m,true):Sd)).map sdV))=H3 at *;exact key2 _ H3 s3 (by rw[e3,List.append_assoc]) (by rw[if_pos cd])
  ac_rfl;refine⟨a9,?_⟩;simp only[bE];by_cases hg:n∈G
  ·exact aw (by simp[hg]) (key [] H0 s0 e0 (by rw[if_pos hg]))
  refine aA (by simp[hg]) ⟨⟨_,e0⟩,⟨_,_,s0 _ _ hx,rfl⟩,dx,c,ts,bs,s0 _ _ hx,hn,t15,?_⟩;show ∀acc,H0 acc=none->_;intro q hq;refine aG (fun y=>PV.tup [y,.bl true]) (fun _=>true) (fun σ=>∃z,σ=[z]) (by rw[List.length_map];exact Nat.le_trans (cJ ok.gt ok.c6 n) (by decide)) (fun _=>trivial) ?_ ?_ ⟨_,rfl⟩
  ·rintro y hy l σ R' ⟨z,rfl⟩ hl kT kF;obtain⟨k,hk,rfl⟩:=List.mem_map.mp hy;ac_rfl;exact⟨ah (by decide),hl,by rw[aI];exact kT rfl _ ⟨_,rfl⟩⟩
  rw[fZ];ac_rfl;refine⟨_,_,(ar (au e0 hq)).trans e0,rfl,ah (by simp only[List.length_map,List.length_append,List.length_nil];omega),?_⟩;rw[←List.map_append];have s1:=(s0.put (o:=.lst (((fol ts n).map fun m=>((m,true):Sd)).map sdV)) (s0.free hq)).put (o:=.lst (([]++(fol ts n).map fun m=>((m,true):Sd)).map sdV)) hp;have e1:put (put H0 q (.lst (((fol ts n).map fun m=>((m,true):Sd)).map sdV))) p (.lst (([]++(fol ts n).map fun m=>((m,true):Sd)).map sdV)) p=some (.lst (([]++(fol ts n).map fun m=>((m,true):Sd)).map sdV)):=ai;generalize put (put H0 q (.lst (((fol ts n).map fun m=>((m,true):Sd)).map sdV))) p (.lst (([]++(fol ts n).map fun m=>((m,true):Sd)).map sdV))=H1 at *;exact key _ _ s1 e1 (by rw[if_neg hg];rfl)
 ·exact h.elim
theorem Dt(T:Tx K mg t):aN P w K mg base CX0 4 t.a_zB t.d_zB ["drawing","ones","given"] (fh t):=by
 refine okU (k:=3) T.F_zB lP (fun vs H Q E h=>by
  unfold fh at h;split at h
  ·rfl
  ·exact h.elim) (fun cdv A outer s H E B hr=>⟨_,(af (aB (i:=3) lP.nd rfl (by eq_refl) (bg (qv 0) T.cl_D T.m_zb (yF T) (hr.mono (by decide)) T.B_zb (aa (qv 2) ae)))
  (af (bt (i:=4) lP.nd rfl (by eq_refl) (N2:=["name"]) (nt:=1) (js:=[]) (ck (sc:=ao ud)) rfl (aP (qv 1)) (fun s0 H0 fp ps=>⟨(ax (i:=0) (show List.Nodup (["name"]:List Str) by decide +kernel) rfl (by eq_refl)),bh,(aO (aa (qv 0) (aa dH ae)))⟩))
  (af (aB (i:=5) lP.nd rfl (by eq_refl) (aY ae))
  (af (iy PassesOwn.never (ay gE gz (aS aM bK rfl T.b_len PySem.boot_len (aa (qv 4) ae)) aj (aE _))
  (af (aB (i:=6) lP.nd rfl (by eq_refl) (w4 PySem.F.slot_list_pop PySem.F.type_list_pop zk ya xy (qv 4)))
   (aq (aW (ay (bA hr.units) b8 (qv 6) (qv 5) (by with_unfolding_all rfl))
   (af (aU (cX PySem.F.slot_list_append PySem.F.type_list_append cx c9 (qv 5) (aa (qv 6) ae)))
    (aq (aU (cX PySem.F.slot_list_extend PySem.F.type_list_extend cy cz (qv 4) (aa (aH (B6 T) (hr.mono (by decide)) rfl T.g_zr T.F_zr.kp T.B_zr (aa (qv 0) (aa (qv 6) (aa (qv 2) (aa (qv 3) ae))))) ae)))))
   aC))))
  (aq (aF (qv 5))))))),?_⟩)
 intro vs H Q E h;unfold fh at h;split at h
 ·rename_i x l m;obtain⟨c,ts,bs,O,G,⟨dx,hx⟩,ok,rfl,rfl,hO,hG,h⟩:=h;have t15:=ok.gt.len ok.c6;have b15:=ok.gb.len ok.c6;have o6:=hO.len ok.c6;refine ak fun R hR=>?_;ac_rfl;refine⟨⟨_,_,hx,rfl⟩,c,ts,G,⟨_,_,hx⟩,rfl,hG,⟨ok.c1,ok.c6⟩,ok.gt,fun A up iff=>?_⟩;have an:An ts G A:=⟨up,iff⟩;subst hR;refine ak fun R hR=>?_;ac_rfl;show ∀acc,H acc=none->_;intro w hw;refine aG (fun y=>PV.tup [y,.bl false]) (fun _=>true) (fun σ=>∃z,σ=[z]) (by rw[List.length_map];omega) (fun _=>trivial) ?_ ?_ ⟨_,rfl⟩
  ·rintro y hy l σ R' ⟨z,rfl⟩ hl kT kF;obtain⟨k,hk,rfl⟩:=List.mem_map.mp hy;ac_rfl;exact⟨ah (by decide),hl,by rw[aI];exact kT rfl _ ⟨_,rfl⟩⟩
  rw[fZ];subst hR;refine ak fun R hR=>?_;ac_rfl;refine⟨ah (by decide),fun q hq=>?_⟩;have nwq:w≠q:=fun e=>by subst e;rw[ai]at hq;cases hq
  have s1:=(Sub.refl H).put (o:=.lst ((O.map fun m=>((m,false):Sd)).map sdV)) hw;have hqH:=s1.free hq;have s2:=s1.put (o:=.lst []) hqH;have e1:put (put H w (.lst ((O.map fun m=>((m,false):Sd)).map sdV))) q (.lst []) w=some (.lst ((O.map fun m=>((m,false):Sd)).map sdV)):=(ar nwq).trans ai;have e2:put (put H w (.lst ((O.map fun m=>((m,false):Sd)).map sdV))) q (.lst []) q=some (.lst (([]:List Sd).map sdV)):=ai;generalize put (put H w (.lst ((O.map fun m=>((m,false):Sd)).map sdV))) q (.lst [])=H1 at *;subst hR;refine ak fun R hR=>?_;refine gm fun Rb hRb=>?_;refine fc (fun m σ H2=>∃z,∃W L:List Sd,σ=[some (.ref x),some (.tup (O.map PV.int)),some (.tup (G.map PV.int)),some (.tup (A.map PV.int)),some (.ref w),some (.ref q),z]/\U.Sub H H2/\H2 w=some (.lst (W.map sdV))/\H2 q=some (.lst (L.map sdV))/\LI ts bs G A O W L/\W.length≤6+18*L.length/\m=(12 - L.length)*20+W.length) _ ⟨none,_,[],rfl,s2,e1,e2,⟨by simp,fun s hs=>(by cases hs),fun s hs=>?_,fun y hy=>.inr (List.mem_map.mpr ⟨y,hy,rfl⟩),fun s hs=>(by cases hs)⟩,by rw[List.length_map];simp;omega,rfl⟩ ?_
  ·obtain⟨y,hy,rfl⟩:=List.mem_map.mp hs;exact .base hy
  rintro m σ H2 ⟨z,W,L,rfl,s2,e1,e2,li,lw,rfl⟩;have l12:=ma ok.c6 li.nd fun s hs=>n5 ok.gt ok.gb hO.lo (li.rl s hs);ac_rfl;refine⟨_,e1,?_⟩;rcases List.eq_nil_or_concat W with rfl |⟨W',st,rfl⟩
  ·refine aw (by simp) ?_;subst hR;ac_rfl;exact⟨H2,Sub.refl _,h q H2 A L hqH s2 an e2 li.nd li.iff⟩
  rw[List.concat_eq_append]at *;refine aA (by simp) (xF fun N bk hN=>?_);have rst:=n5 ok.gt ok.gb hO.lo (li.rw st (by simp));subst hRb;refine ak fun R' hR'=>?_;ac_rfl;have dl:((W'++[st]).map sdV).dropLast=W'.map sdV:=by simp
  refine⟨_,sdV st,e1,by simp,?_⟩;rw[dl];have s3:=s2.put (o:=.lst (W'.map sdV)) hw;have e3:put H2 w (.lst (W'.map sdV)) w=some (.lst (W'.map sdV)):=ai;have e4:put H2 w (.lst (W'.map sdV)) q=some (.lst (L.map sdV)):=(ar nwq.symm).trans e2;generalize put H2 w (.lst (W'.map sdV))=H3 at *;subst hR';unfold sdV at *;ac_rfl;refine⟨_,e4,?_⟩;refine⟨uV,?_⟩;have ea:=zK (L:=L) (n:=st.1) (b:=st.2);unfold sdV at ea;rw[ea];rw[List.length_append,List.length_singleton]at lw;by_cases hm:(st.1,st.2)∈L
  ·refine aw (by simp[hm]) (hN _ _ ⟨(12 - L.length)*20+W'.length,by rw[List.length_append,List.length_singleton];omega,_,W',L,rfl,s3,e3,e4,li.old hm,by omega,rfl⟩)
  refine aA (by simp[hm]) ?_;refine⟨⟨_,e4⟩,_,e4,bI (by rw[List.length_map];omega),?_⟩;have s5:=s3.put (o:=.lst (L.map sdV++[sdV st])) hqH;have e5:put H3 q (.lst (L.map sdV++[sdV st])) w=some (.lst (W'.map sdV)):=(ar nwq).trans e3;have e6:put H3 q (.lst (L.map sdV++[sdV st])) q=some (.lst ((L++[st]).map sdV)):=by rw[ai,List.map_append];rfl
  unfold sdV at s5 e5 e6;refine⟨⟨_,e5⟩,c,ts,bs,G,A,⟨dx,s5 _ _ hx⟩,ok,rst,rfl,rfl,fun r H4 _ s6 er=>?_⟩;have e7:=s6 _ _ e5;have bl:=vm ok.gt ok.gb ok.c6 (G:=G) (A:=A) st;have bl2:(bes ts bs G A (st.1,st.2)).length≤18:=bl;refine⟨_,_,e7,er,ah (by simp only[List.length_map];omega),?_⟩;show N _ (put H4 w (.lst (List.map sdV W'++List.map sdV (bes ts bs G A st))));rw[←List.map_append];have li':=li.new hm;refine hN _ _ ⟨(12 - (L++[st]).length)*20+(W'++bes ts bs G A st).length,?_,_,_,L++[st],rfl,(s5.trans s6).put hw,ai,(ar nwq.symm).trans (s6 _ _ e6),li',?_,rfl⟩
  ·have l13:=ma ok.c6 li'.nd fun s hs=>n5 ok.gt ok.gb hO.lo (li'.rl s hs);rw[List.length_append,List.length_singleton]at l13 ⊢;rw[List.length_append,List.length_append,List.length_singleton];omega
  ·rw[List.length_append,List.length_append,List.length_singleton];omega
 ·exact h.elim
theorem C2(T:Tx K mg t):aN P w K mg base CX0 4 t.a_zy t.d_zy ["drawing","names"] (fJ t):=by
 refine okU (k:=3) T.F_zy rX (fun vs H Q E h=>by
  unfold fJ at h;split at h
  ·rfl
  ·exact h.elim) (fun cdv A outer s H E B hr=>⟨_,(af (aB (i:=2) rX.nd rfl (by eq_refl) (aY ae))
  (af (bU PassesOwn.never rfl (aP (qv 1)) (ax (i:=3) rX.nd rfl (by eq_refl))
  (aq (aU (cX PySem.F.slot_list_extend PySem.F.type_list_extend cy cz (qv 2) (aa (bG (N2:=["step"]) (nt:=1) (js:=[]) (ck (sc:=ao uo)) rfl (aP (aH (Af T) (hr.mono (by decide)) rfl T.g_zE T.F_zE.kp T.B_zE (aa (qv 0) (aa (qv 3) ae)))) (fun s0 H0 fp ps=>⟨(ax (i:=0) (show List.Nodup (["step"]:List Str) by decide +kernel) rfl (by eq_refl)),bh,(aY (aa (qv 0) ae))⟩)) ae)))))
  (aq (aF (qv 2))))),?_⟩)
 intro vs H Q E h;unfold fJ at h;split at h
 ·rename_i x l;obtain⟨c,ts,bs,O,⟨dx,hx⟩,ok,rfl,hO,h⟩:=h;have o6:=hO.len ok.c6;refine ak fun R hR=>?_;ac_rfl;refine⟨ah (by decide),fun q hq=>?_⟩;have s0:=(Sub.refl H).put (o:=.lst []) hq;have e0:put H q (.lst []) q=some (.lst []):=ai;generalize put H q (.lst [])=H0 at *;subst hR;refine ak fun R hR=>?_;ac_rfl;refine cc (fun i σ H2=>∃z us,σ=[some (.ref x),some (.tup (O.map PV.int)),some (.ref q),z]/\U.Sub H H2/\H2 q=some (.lst us)/\aZ H2 q us (rdV (il ts bs (O.take i)))/\Frs H us/\us.length≤18*i) ?_ ?_ ⟨none,[],rfl,s0,e0,by simp[il,aZ,Paired.nil],Frs.nil,by simp⟩
  ·rintro σ H2 ⟨z,us,rfl,s2,e2,ls,fu,lu⟩;refine⟨trivial,?_⟩;rw[List.length_map,List.take_length]at ls;subst hR;ac_rfl;exact⟨H2,Sub.refl _,h q H2 us hq s2 e2 ls fu⟩
  ·rintro N i y σ H2 hy ⟨z,us,rfl,s2,e2,ls,fu,lu⟩ kk;refine⟨trivial,?_⟩;rw[List.getElem?_map]at hy;obtain⟨n,hn,rfl⟩:=Option.map_eq_some_iff.mp hy;have hi:i<O.length:=(List.getElem?_eq_some_iff.mp hn).1;have hno:=hO.lo n (List.mem_of_getElem? hn);ac_rfl;refine⟨⟨_,e2⟩,c,ts,bs,⟨dx,s2 _ _ hx⟩,ok,hno,fun r H3 _ s3 er=>⟨_,er,?_⟩⟩;show ∀acc,H3 acc=none->_;intro acc hacc;have sl:=gU ok.gt ok.gb ok.c6 n;have e3:=s3 _ _ e2;have nqa:=au e3 hacc;have nra:=au er hacc;refine fV (fun j σ H4=>∃z ws,σ=[z]/\U.Sub H3 H4/\H4 acc=some (.lst ws)/\aZ H4 acc ws (rdV (((stp ts bs n).take j).map fun s=>[s]))/\Frs H3 ws) ?_ ?_ ⟨none,[],rfl,(Sub.refl H3).put hacc,ai,by simp[aZ,Paired.nil],Frs.nil⟩
   ·rintro j v σ H4 R' hv ⟨z,ws,rfl,s4,e4,l4,f4⟩ k4;rw[List.getElem?_map]at hv;obtain⟨st,hst,rfl⟩:=Option.map_eq_some_iff.mp hv;refine⟨s4 _ _ er,?_⟩;ac_rfl;refine⟨ah (by decide),fun p hp=>?_⟩;have np:=au e4 hp;have hl4:=l4.len;have tl:(((stp ts bs n).take j)).length≤18:=by rw[List.length_take];omega
    simp only[rdV,List.length_map]at hl4;refine⟨_,(ar np).trans e4,bI (by omega),?_⟩;have l5:aZ (put H4 p (.lst [stV st])) acc ws (rdV (((stp ts bs n).take j).map fun s=>[s])):=l4.up ((Sub.refl H4).put hp);have l6:=(l5.snoc (r:=p) (l:=[stV st]) np.symm ai).put (o:=.lst (ws++[.ref p]));refine k4 _ _ ⟨_,_,rfl,(s4.put (s4.free hp)).put hacc,ai,?_,f4.app (Frs.one (s4.free hp))⟩
    ·have ej:(stp ts bs n).take (j+1)=(stp ts bs n).take j++[st]:=by rw[List.take_succ,hst];rfl
     rw[ej];simpa[rdV]using l6
   ·rintro σ H4 ⟨z,ws,rfl,s4,e4,l4,f4⟩;refine⟨s4 _ _ er,?_⟩;rw[List.length_map,List.take_length]at l4;have e5:=s4 _ _ e3;have hl4:=l4.len;simp only[rdV,List.length_map]at hl4;have hqa:q≠acc:=nqa;ac_rfl;refine⟨_,_,e5,e4,ah (by omega),?_⟩;refine kk _ _ ⟨_,us++ws,rfl,((s2.trans s3).trans s4).put hq,ai,?_,fu.app (Frs.mono (s2.trans s3) f4),by rw[List.length_append];omega⟩;have ei:il ts bs (O.take (i+1))=il ts bs (O.take i)++(stp ts bs n).map fun s=>[s]:=by
     unfold il;rw[List.take_succ,hn];simp
    rw[ei];unfold rdV;rw[List.map_append];exact jZ ((ls.up (s3.trans s4)).put) (aZ.put (aZ.fr e3 l4 f4))
 ·exact h.elim
theorem CL(T:Tx K mg t):aN P w K mg base CX0 4 t.a_zo t.d_zo ["drawing","roads","given"] (eo t):=by
 refine okU (k:=3) T.F_zo jr (fun vs H Q E h=>by
  unfold eo at h;split at h
  ·rfl
  ·exact h.elim) (fun cdv A outer s H E B hr=>⟨_,(af (aB (i:=3) jr.nd rfl (by eq_refl) (bg (qv 0) T.cl_D T.m_zb (yF T) (hr.mono (by decide)) T.B_zb (aa (qv 2) ae)))
  (af (aB (i:=4) jr.nd rfl (by eq_refl) (aY ae))
  (af (bU PassesOwn.never rfl (aP (qv 1)) (ax (i:=5) jr.nd rfl (by eq_refl))
  (af (aB (i:=6) jr.nd rfl (by eq_refl) (aH (Ct T) (hr.mono (by decide)) rfl T.g_zO T.F_zO.kp T.B_zO (aa (qv 5) ae)))
   (aq (bU PassesOwn.never rfl (aP (aH (Af T) (hr.mono (by decide)) rfl T.g_zE T.F_zE.kp T.B_zE (aa (qv 0) (aa (aJ (qv 6) (bY aj) (fun _ _=>rfl)) ae)))) (ax (i:=7) jr.nd rfl (by eq_refl))
   (aq (aW (bx (dJ (ay (bA hr.units) b8 (aJ (qv 7) aj (fun _ _=>rfl)) (qv 6) (by with_unfolding_all rfl)) (cN (bW (aH (DG T) (hr.mono (by decide)) rfl T.g_zK T.F_zK.kp T.B_zK (aa (aJ (qv 5) (bY aj) (fun _ _=>rfl)) (aa (qv 7) (aa (qv 2) (aa (qv 3) ae)))))))))
    (aq (aU (cX PySem.F.slot_list_append PySem.F.type_list_append cx c9 (qv 4) (aa (dq (qv 5) (aY (aa (qv 7) ae))) ae))))
    aC))))))
  (aq (aF (qv 4)))))),?_⟩)
 intro vs H Q E h;unfold eo at h;split at h
 ·rename_i x a l;obtain⟨c,ts,bs,G,us,rs,⟨dx,hx⟩,ok,rfl,hG,ha,lsts,big,hrs,h⟩:=h;refine ak fun R hR=>?_;ac_rfl;refine⟨⟨_,_,hx,rfl⟩,c,ts,G,⟨_,_,hx⟩,rfl,hG,⟨ok.c1,ok.c6⟩,ok.gt,fun A up iff=>?_⟩;have an:An ts G A:=⟨up,iff⟩;subst hR;refine ak fun R hR=>?_;ac_rfl;refine⟨ah (by decide),fun q hq=>?_⟩;have s0:=(Sub.refl H).put (o:=.lst []) hq;have e0:put H q (.lst []) q=some (.lst []):=ai;generalize put H q (.lst [])=H0 at *;subst hR;refine ak fun R hR=>?_;ac_rfl;refine⟨_,s0 _ _ ha,?_⟩;have hlen:=lsts.len;simp only[rdV,List.length_map]at hlen;have nl:∀rs':List (List Sp3),(rs'.flatMap (gM ts bs G A)).length≤rs'.length*18:=fun rs'=>My.cW fun r _=>nC ok r;refine cc (fun i σ H2=>∃z1 z2 z3 ws,σ=[some (.ref x),some (.ref a),some (.tup (G.map PV.int)),some (.tup (A.map PV.int)),some (.ref q),z1,z2,z3]/\U.Sub H H2/\H2 q=some (.lst ws)/\aZ H2 q ws (rdV ((rs.take i).flatMap (gM ts bs G A)))/\Frs H ws) ?_ ?_ ⟨none,none,none,[],rfl,s0,e0,by simp[aZ,Paired.nil],Frs.nil⟩
  ·rintro σ H2 ⟨z1,z2,z3,ws,rfl,s2,e2,ls,fw⟩;refine⟨s2 _ _ ha,?_⟩;rw[hlen,List.take_length]at ls;subst hR;ac_rfl;exact⟨H2,Sub.refl _,h q H2 ws A hq s2 an e2 ls fw⟩
  ·rintro N i y σ H2 hy ⟨z1,z2,z3,ws,rfl,s2,e2,ls,fw⟩ kk;refine⟨s2 _ _ ha,?_⟩;obtain⟨l,ra,hl,rfl,nra,hra⟩:=lsts.at hy;have hl:(rs.map fun r=>r.map stV)[i]?=some l:=hl;rw[List.getElem?_map]at hl;obtain⟨r,hr,rfl⟩:=Option.map_eq_some_iff.mp hl;have hi:i<rs.length:=(List.getElem?_eq_some_iff.mp hr).1;obtain⟨r1,r2,r3⟩:=hrs r (List.mem_of_getElem? hr);refine ak fun R' hR'=>?_;ac_rfl;refine⟨r,s2 _ _ hra,r1,r2,fun nr H3 hnr s3 en=>?_⟩;subst hR';ac_rfl;refine⟨_,en,?_⟩;rw[BK r1];ac_rfl;refine⟨c,ts,bs,⟨dx,s3 _ _ (s2 _ _ hx)⟩,ok,r3,fun sr H4 hsr s4 es=>⟨_,es,?_⟩⟩;have sl:=gU ok.gt ok.gb ok.c6 (lsS r).2.2;have s24:=(s2.trans s3).trans s4;have nqs:sr≠q:=(au (s3 _ _ e2) hsr).symm;have nqn:nr≠q:=(au e2 hnr).symm;refine cc (fun j σ H5=>∃z3 vs,σ=[some (.ref x),some (.ref a),some (.tup (G.map PV.int)),some (.tup (A.map PV.int)),some (.ref q),some (.ref ra),some (.ref nr),z3]/\U.Sub H H5/\H5 nr=some (.lst ((My.nm r).map PV.int))/\H5 sr=some (.lst ((stp ts bs (lsS r).2.2).map stV))/\H5 q=some (.lst vs)/\aZ H5 q vs (rdV ((rs.take i).flatMap (gM ts bs G A)++(((stp ts bs (lsS r).2.2).take j).filter fun s=>!decide (s.2.2∈My.nm r)&&psd G A (lsS r) s).map fun s=>r++[s]))/\Frs H vs) ?_ ?_ ⟨_,ws,rfl,s24,s4 _ _ en,es,(s3.trans s4) _ _ e2,by simpa using ls.up (s3.trans s4),fw⟩
   ·rintro σ H5 ⟨z3,vs,rfl,s5,en5,es5,eq5,l5,fv⟩;refine⟨es5,kk _ _ ⟨_,_,_,vs,rfl,s5,eq5,?_,fv⟩⟩;rw[List.length_map,List.take_length]at l5;have ei:(rs.take (i+1)).flatMap (gM ts bs G A)=(rs.take i).flatMap (gM ts bs G A)++gM ts bs G A r:=by rw[List.take_succ,hr];simp
    rw[ei];exact l5
   ·rintro N' j v σ H5 hv ⟨z3,vs,rfl,s5,en5,es5,eq5,l5,fv⟩ kk';refine⟨es5,?_⟩;rw[List.getElem?_map]at hv;obtain⟨st,hst,rfl⟩:=Option.map_eq_some_iff.mp hv;have hj:j<(stp ts bs (lsS r).2.2).length:=(List.getElem?_eq_some_iff.mp hst).1;have ej:(stp ts bs (lsS r).2.2).take (j+1)=(stp ts bs (lsS r).2.2).take j++[st]:=by rw[List.take_succ,hst];rfl
    have no:(!decide (st.2.2∈My.nm r)&&psd G A (lsS r) st)=false->N' [some (.ref x),some (.ref a),some (.tup (G.map PV.int)),some (.tup (A.map PV.int)),some (.ref q),some (.ref ra),some (.ref nr),some (stV st)] H5:=fun z=>kk' _ _ ⟨_,vs,rfl,s5,en5,es5,eq5,by rw[ej,List.filter_append];simp only[List.filter_cons,z];simpa using l5,fv⟩;have at1:=rf r1;generalize lsS r=le at *;unfold stV at *;ac_rfl;refine⟨_,en5,a9,?_⟩;rw[bE];by_cases hm:st.2.2∈My.nm r
    ·exact aw (by simp[hm]) (no (by simp[hm]))
    refine aA (by simp[hm]) ⟨_,s5 _ _ hra,?_⟩;rw[at1];ac_rfl;refine⟨G,A,rfl,rfl,?_⟩;refine bw (fun z=>?_) (fun z=>no (by simp[hm];exact z));have ra5:=s5 _ _ hra;have hl5:=l5.len;have i2:=nl (rs.take i);have f2:=List.length_filter_le (fun s=>!decide (s.2.2∈My.nm r)&&psd G A le s) ((stp ts bs le.2.2).take j);simp only[rdV,List.length_map,List.length_append]at hl5;rw[List.length_take]at i2 f2;refine⟨⟨_,eq5⟩,ah (by decide),fun p1 hp1=>⟨_,_,(ar (au ra5 hp1)).trans ra5,rfl,ah (by simp only[List.length_map,List.length_singleton];omega),fun p2 hp2=>?_⟩⟩;have sa:=(Sub.refl H5).put (o:=.lst [PV.tup [PV.int st.1,PV.str st.2.1,PV.int st.2.2]]) hp1;have sb:=sa.put (o:=.lst (List.map (fun s=>PV.tup [PV.int s.1,PV.str s.2.1,PV.int s.2.2]) r++[PV.tup [PV.int st.1,PV.str st.2.1,PV.int st.2.2]])) (sa.free hp2);have hp2H:=sa.free hp2;refine⟨_,sb _ _ eq5,by omega,kk' _ _ ⟨_,_,rfl,(s5.trans sb).put hq,(ar nqn).trans (sb _ _ en5),(ar nqs).trans (sb _ _ es5),ai,?_,fv.app (Frs.one (s5.free hp2H))⟩⟩;have l6:=((l5.up sb).snoc (r:=p2) (au eq5 hp2H).symm ai).put (o:=.lst (vs++[PV.ref p2]));rw[ej,List.filter_append];simp only[List.filter_cons,z,hm];simp[rdV,hm,z]at l6 ⊢;exact l6
 ·exact h.elim
theorem CW(T:Tx K mg t):aN P w K mg base CX0 5 t.a_zn t.d_zn ["drawing","ones","others","given"] (fR t):=by
 refine okU (k:=4) T.F_zn kO (fun vs H Q E h=>by
  unfold fR at h;split at h
  ·rfl
  ·exact h.elim) (fun cdv A outer s H E B hr=>⟨_,(af (aB (i:=4) kO.nd rfl (by eq_refl) (aH (C2 T) (hr.mono (by decide)) rfl T.g_zy T.F_zy.kp T.B_zy (aa (qv 0) (aa (qv 1) ae))))
  (af (bt (i:=5) kO.nd rfl (by eq_refl) (N2:=["road","others"]) (nt:=1) (js:=[2]) (ck (sc:=ao sk)) rfl (aP (qv 4)) (fun s0 H0 fp ps=>⟨(ax (i:=0) (show List.Nodup (["road","others"]:List Str) by decide +kernel) rfl (by eq_refl)),(bF (ay (dR hr.units) b8 (aJ (aJ (qv 0) (bY aj) (fun _ _=>rfl)) aj (fun _ _=>rfl)) (qv 1) (by with_unfolding_all rfl))),(qv 0)⟩))
  (af (iy PassesOwn.never (ay (a7 hr.units) bj (aS aM bK rfl T.b_len PySem.boot_len (aa (qv 5) ae)) aj (aE _))
  (af (aB (i:=4) kO.nd rfl (by eq_refl) (aH (CL T) (hr.mono (by decide)) rfl T.g_zo T.F_zo.kp T.B_zo (aa (qv 0) (aa (qv 4) (aa (qv 3) ae)))))
   (aq (bt (i:=5) kO.nd rfl (by eq_refl) (N2:=["road","others"]) (nt:=1) (js:=[2]) (ck (sc:=ao sk)) rfl (aP (qv 4)) (fun s0 H0 fp ps=>⟨(ax (i:=0) (show List.Nodup (["road","others"]:List Str) by decide +kernel) rfl (by eq_refl)),(bF (ay (dR hr.units) b8 (aJ (aJ (qv 0) (bY aj) (fun _ _=>rfl)) aj (fun _ _=>rfl)) (qv 1) (by with_unfolding_all rfl))),(qv 0)⟩)))))
  (aq (aF (aJ (qv 5) aj (fun _ _=>rfl))))))),?_⟩)
 intro vs H Q E h;unfold fR at h;split at h
 ·rename_i x l m n;obtain⟨c,ts,bs,O,B,G,A,⟨dx,hx⟩,ok,rfl,rfl,rfl,hO,hG,an,⟨tg,ht,hb⟩,h⟩:=h;have o6:=hO.len ok.c6;have t5:=ht.len ok;refine ak fun R hR=>?_;ac_rfl;refine⟨c,ts,bs,O,⟨dx,hx⟩,ok,rfl,hO,fun q H1 us hq s1 e1 l1 f1=>?_⟩;subst hR;refine ak fun R hR=>?_;have scan:∀(q:Addr) (H1:PHp) (us:List PV) (k:Nat) (rs:List (List Sp3)) (K:VK'),RdK ts bs G A O tg k rs->U.Sub H H1->H1 q=some (.lst us)->aZ H1 q us (rdV rs)->Frs H us ->
   (∀f H2,U.Sub H1 H2->H2 f=some (.lst (us.filter (hZ H1 B)))->K (.ref f) H2)->∀σ1,σ1=[none,some (.tup (B.map PV.int))]->∀acc,H1 acc=none ->
   b0 (fun H=>H q=some (.lst us)) (fQ 0) (ig (uOp (uK fun b=>b) (uOp uIx (uOp uIx (aR 0) (uUn (fun x H Q=>bQ x fun i=>Q (.int (-i)) H) (uC (PV.int 1)))) (uC (PV.int 2))) (aR 1))) (aR 0) acc K us σ1 (put H1 acc (.lst [])):=fun q H1 us k rs K rk s1 e1 l1 f1 kk σ1 hσ acc hacc=>by
   subst hσ;have nq:=au e1 hacc;have hle:=l1.len;simp only[rdV,List.length_map]at hle;have h6:rs.length≤6*18 ^ 5:=Nat.le_trans rk.le (Nat.mul_le_mul_left _ (Nat.pow_le_pow_right (by decide) (by have:=rk.k1;omega)));refine k9 (fun y=>y) (hZ H1 B) (fun σ=>∃z,σ=[z,some (.tup (B.map PV.int))]) (by rw[sizeLine_eq];omega) (fun _=>(ar nq).trans e1) ?_ ?_ ⟨_,rfl⟩
   ·rintro y hy l σ R' ⟨z,rfl⟩ hl kT kF;obtain⟨l',r,hl',rfl,nr,hr⟩:=l1.mem hy;obtain⟨road,hroad,rfl⟩:=List.mem_map.mp hl';have ne:=(rk.ok road hroad).ne;rw[iE hr ne]at kT kF;ac_rfl;refine⟨_,(ar (au hr hacc)).trans hr,?_⟩;rw[rf ne];unfold stV;ac_rfl;refine⟨a9,?_⟩;rw[bE];exact bw (fun q=>⟨hl,by rw[aI];exact kT q _ ⟨_,rfl⟩⟩) (fun q=>kF q _ ⟨_,rfl⟩)
   ·have em:((us.filter (hZ H1 B)).map fun y=>y)=us.filter (hZ H1 B):=List.map_id' _;rw[em];exact kk acc _ ((Sub.refl H1).put hacc) ai
  have fnd:∀(q:Addr) (H1:PHp) (us:List PV) (k:Nat) (rs:List (List Sp3)),RdK ts bs G A O tg k rs->aZ H1 q us (rdV rs)->us.filter (hZ H1 B)=[]->k<tg.length:=fun q H1 us k rs rk l1 hf=>by
   rcases Nat.lt_or_ge k tg.length with z | z
   ·exact z
   ·have hm:=rk.tg;rw[List.take_of_length_le z]at hm;obtain⟨r,h1,h2⟩:=l1.of (List.mem_map.mpr ⟨tg,hm,rfl⟩);rw[List.filter_eq_nil_iff]at hf;exact absurd (by rw[iE h2 ht.ne];exact decide_eq_true hb) (hf _ h1)
  have fst:∀(q:Addr) (H1:PHp) (us:List PV) (k:Nat) (rs:List (List Sp3)) (v:PV) (fs:List PV),RdK ts bs G A O tg k rs->aZ H1 q us (rdV rs)->Frs H us->us.filter (hZ H1 B)=v::fs->∃r road,v=.ref r/\H r=none/\H1 r=some (.lst (road.map stV))/\Opn ts bs G A O road/\(lsS road).2.2∈B:=fun q H1 us k rs v fs rk l1 f1 hf=>by
   have hv:v∈us.filter (hZ H1 B):=by rw[hf];exact List.mem_cons_self
   obtain⟨hv1,hv2⟩:=List.mem_filter.mp hv;obtain⟨l',r,hl',rfl,nr,hr⟩:=l1.mem hv1;obtain⟨road,hroad,rfl⟩:=List.mem_map.mp hl';have op:=rk.ok road hroad;rw[iE hr op.ne]at hv2;exact⟨r,road,rfl,f1 _ hv1 r rfl,hr,op,of_decide_eq_true hv2⟩
  have rk1:=uw ok hO ht;ac_rfl;refine⟨_,e1,scan q H1 us 1 _ _ rk1 s1 e1 l1 f1 (fun f H2 s2 ef=>?_) _ rfl⟩;subst hR;refine ak fun R hR=>?_;refine gm fun Rb hRb=>?_;refine fc (fun m σ H2=>∃q f us k rs Ha,σ=[some (.ref x),some (.tup (O.map PV.int)),some (.tup (B.map PV.int)),some (.tup (G.map PV.int)),some (.ref q),some (.ref f)]/\RdK ts bs G A O tg k rs/\U.Sub H Ha/\U.Sub Ha H2/\Ha q=some (.lst us)/\aZ Ha q us (rdV rs)/\Frs H us/\H2 f=some (.lst (us.filter (hZ Ha B)))/\m=tg.length - k) _ ⟨q,f,us,1,_,H1,rfl,rk1,s1,s2,e1,l1,f1,ef,rfl⟩ ?_;rintro m σ H2 ⟨q,f,us,k,rs,Ha,rfl,rk,s1,s2,e1,l1,f1,ef,rfl⟩;ac_rfl;refine⟨_,ef,?_⟩;cases hf:us.filter (hZ Ha B)with
  | cons v fs =>
   rw[hf]at ef;refine aw (by simp;omega) ?_;obtain⟨r,road,rfl,hr,er,op,hlb⟩:=fst q Ha us k rs v fs rk l1 f1 hf;subst hR;ac_rfl;refine⟨_,ef,?_⟩;have e0:atI (PV.ref r::fs) 0=some (.ref r):=gr (l:=PV.ref r::fs) (i:=0) (by simp);rw[e0];exact⟨H2,Sub.refl _,h r H2 road hr (s1.trans s2) (s2 _ _ er) op hlb (op.len ok)⟩
  | nil =>
   have hk:=fnd q Ha us k rs rk l1 hf;refine aA (by simp) (xF fun N bk hN=>?_);subst hRb;refine ak fun R' hR'=>?_;ac_rfl;have k4:k≤4:=by omega
   have h6:rs.length≤6*18 ^ 4:=Nat.le_trans rk.le (Nat.mul_le_mul_left _ (Nat.pow_le_pow_right (by decide) k4));refine⟨c,ts,bs,G,us,rs,⟨dx,s2 _ _ (s1 _ _ hx)⟩,ok,rfl,hG,s2 _ _ e1,l1.up s2,by rw[sizeLine_eq];omega,fun r hr=>?_,fun q2 H3 ws A2 hq2 s3 an2 e3 l3 f3=>?_⟩
   ·have op:=rk.ok r hr;obtain⟨l,en⟩:=nI op.ne;have:=op.len ok;exact⟨op.ne,by omega,wL ok op.rd.ed _ (by rw[en];simp)⟩
   have eA:=an.one an2;subst eA;subst hR';have rk2:=sG ok ht rk hk;have s03:=(s1.trans s2).trans s3;have f03:=Frs.mono (s1.trans s2) f3;ac_rfl;refine⟨_,e3,scan q2 H3 ws _ _ _ rk2 s03 e3 l3 f03 (fun f2 H4 s4 ef2=>?_) _ rfl⟩;exact hN _ _ ⟨tg.length - (k+1),by omega,q2,f2,ws,k+1,_,H3,rfl,rk2,s03,s4,e3,l3,f03,ef2,rfl⟩
 ·exact h.elim
theorem Ds(T:Tx K mg t):aN P w K mg base CX0 3 t.a_zq t.d_zq ["drawing","meeting","given"] (jN t):=by
 refine okU (k:=2) T.F_zq iF (fun vs H Q E h=>by
  unfold jN at h;split at h
  ·rfl
  ·exact h.elim) (fun cdv A outer s H E B hr=>⟨_,(af (aB (i:=3) iF.nd rfl (by eq_refl) (aY (aa (aY (aa (qv 1) ae)) ae)))
  (af (bt (i:=4) iF.nd rfl (by eq_refl) (N2:=["way","given"]) (nt:=1) (js:=[2]) (ck (sc:=ao pY)) rfl (aP (qv 3)) (fun s0 H0 fp ps=>⟨(ax (i:=0) (show List.Nodup (["way","given"]:List Str) by decide +kernel) rfl (by eq_refl)),(bF (ay (dR hr.units) b8 (aJ (qv 0) (bY aj) (fun _ _=>rfl)) (qv 1) (by with_unfolding_all rfl))),(qv 0)⟩))
  (af (iy PassesOwn.never (ay (a7 hr.units) bj (aS aM bK rfl T.b_len PySem.boot_len (aa (qv 4) ae)) aj (aE _))
  (af (aB (i:=5) iF.nd rfl (by eq_refl) (aY ae))
   (af (bU PassesOwn.never rfl (aP (qv 3)) (ax (i:=6) iF.nd rfl (by eq_refl))
   (aq (aU (cX PySem.F.slot_list_extend PySem.F.type_list_extend cy cz (qv 5) (aa (bG (N2:=["name","way"]) (nt:=1) (js:=[6]) (ck (sc:=ao pY)) rfl (aP (bg (qv 0) T.cl_D T.m_za (xm T) (hr.mono (by decide)) T.B_za (aa (aJ (qv 6) (bY aj) (fun _ _=>rfl)) ae))) (fun s0 H0 fp ps=>⟨(ax (i:=0) (show List.Nodup (["name","way"]:List Str) by decide +kernel) rfl (by eq_refl)),bh,(dq (qv 1) (aY (aa (qv 0) ae)))⟩)) ae)))))
   (af (aB (i:=3) iF.nd rfl (by eq_refl) (qv 5))
   (aq (bt (i:=4) iF.nd rfl (by eq_refl) (N2:=["way","given"]) (nt:=1) (js:=[2]) (ck (sc:=ao pY)) rfl (aP (qv 3)) (fun s0 H0 fp ps=>⟨(ax (i:=0) (show List.Nodup (["way","given"]:List Str) by decide +kernel) rfl (by eq_refl)),(bF (ay (dR hr.units) b8 (aJ (qv 0) (bY aj) (fun _ _=>rfl)) (qv 1) (by with_unfolding_all rfl))),(qv 0)⟩)))))))
  (aq (aF (aJ (qv 4) aj (fun _ _=>rfl))))))),?_⟩)
 intro vs H Q E h;unfold jN at h;split at h
 ·rename_i x m l;obtain⟨c,ts,bs,G,A,⟨dx,hx⟩,ok,rfl,hG,an,hm,h⟩:=h;have t15:=ok.gt.len ok.c6;obtain⟨tg,ht0,htc,hte⟩:=My.ze ((an.iff m).mp hm);have t6:=n8 ok hG htc hte;have tne:tg≠[]:=fun e=>by rw[e]at ht0;cases ht0
  have tgG:lsI tg∈G:=by
   obtain⟨e,he,hg⟩:=hte;rw[(lx tne).1]at he;rw[Option.some.inj he];exact hg
  refine ak fun R hR=>?_;ac_rfl;refine⟨ah (by decide),fun p1 hp1=>⟨ah (by decide),fun q hq=>?_⟩⟩;have s0:=(Sub.refl H).put (o:=.lst [PV.int m]) hp1;have e0:put H p1 (.lst [PV.int m]) p1=some (.lst (([m]:List Int).map PV.int)):=ai;generalize put H p1 (.lst [PV.int m])=Hb at *;have npq:=au e0 hq;have s1:=s0.put (o:=.lst [PV.ref p1]) (s0.free hq);have e1:put Hb q (.lst [PV.ref p1]) q=some (.lst [PV.ref p1]):=ai;have l1:aZ (put Hb q (.lst [PV.ref p1])) q [PV.ref p1] (inV [[m]]):=.cons ⟨p1,rfl,npq,(ar npq).trans e0⟩ .nil;have f1:Frs H [PV.ref p1]:=Frs.one hp1;generalize put Hb q (.lst [PV.ref p1])=H1 at *;have rk1:WyK ts G m tg 1 [[m]]:=by
   refine⟨fun w hw=>?_,⟨Nat.le_refl _,?_⟩,by simp,?_⟩
   ·rw[List.mem_singleton.mp hw];exact⟨rfl,trivial,fun x hx=>(by cases hx)⟩
   ·cases tg with
    | nil=>exact absurd rfl tne
    | cons _ _=>simp
   ·cases tg with
    | nil=>exact absurd rfl tne
    | cons a t =>
     have:a=m:=by simpa using ht0
     subst this;simp
  subst hR;refine ak fun R hR=>?_;have scan:∀(q:Addr) (H1:PHp) (us:List PV) (k:Nat) (ws:List (List Int)) (K:VK'),WyK ts G m tg k ws->U.Sub H H1->H1 q=some (.lst us)->aZ H1 q us (inV ws)->Frs H us ->
   (∀f H2,U.Sub H1 H2->H2 f=some (.lst (us.filter (ix H1 G)))->K (.ref f) H2)->∀σ1,σ1=[none,some (.tup (G.map PV.int))]->∀acc,H1 acc=none ->
   b0 (fun H=>H q=some (.lst us)) (fQ 0) (ig (uOp (uK fun b=>b) (uOp uIx (aR 0) (uUn (fun x H Q=>bQ x fun i=>Q (.int (-i)) H) (uC (PV.int 1)))) (aR 1))) (aR 0) acc K us σ1 (put H1 acc (.lst [])):=fun q H1 us k ws K rk s1 e1 l1 f1 kk σ1 hσ acc hacc=>by
   subst hσ;have nq:=au e1 hacc;have hle:=l1.len;simp only[inV,List.length_map]at hle;have h6:ws.length≤6 ^ 6:=Nat.le_trans rk.le (Nat.pow_le_pow_right (by decide) (by have:=rk.k1;omega));refine k9 (fun y=>y) (ix H1 G) (fun σ=>∃z,σ=[z,some (.tup (G.map PV.int))]) (by rw[sizeLine_eq];omega) (fun _=>(ar nq).trans e1) ?_ ?_ ⟨_,rfl⟩
   ·rintro y hy l σ R' ⟨z,rfl⟩ hl kT kF;obtain⟨l',r,hl',rfl,nr,hr⟩:=l1.mem hy;obtain⟨w,hw,rfl⟩:=List.mem_map.mp hl';have ne:=(rk.ok w hw).ne;rw[iL hr ne]at kT kF;ac_rfl;refine⟨_,(ar (au hr hacc)).trans hr,?_⟩;rw[qS ne];ac_rfl;refine⟨a9,?_⟩;rw[bE];exact bw (fun q=>⟨hl,by rw[aI];exact kT q _ ⟨_,rfl⟩⟩) (fun q=>kF q _ ⟨_,rfl⟩)
   ·have em:((us.filter (ix H1 G)).map fun y=>y)=us.filter (ix H1 G):=List.map_id' _;rw[em];exact kk acc _ ((Sub.refl H1).put hacc) ai
  have fnd:∀(q:Addr) (H1:PHp) (us:List PV) (k:Nat) (ws:List (List Int)),WyK ts G m tg k ws->aZ H1 q us (inV ws)->us.filter (ix H1 G)=[]->k<tg.length/\∀w∈ws,lsI w∉G:=fun q H1 us k ws rk l1 hf=>by
   rw[List.filter_eq_nil_iff]at hf;have no:∀w∈ws,lsI w∉G:=fun w hw hg=>by
    obtain⟨r,h1,h2⟩:=l1.of (List.mem_map.mpr ⟨w,hw,rfl⟩);exact absurd (by rw[iL h2 (rk.ok w hw).ne];exact decide_eq_true hg) (hf _ h1)
   refine⟨?_,no⟩;rcases Nat.lt_or_ge k tg.length with z | z
   ·exact z
   ·have hm:=rk.tg;rw[List.take_of_length_le z]at hm;exact absurd tgG (no _ hm)
  have fst:∀(q:Addr) (H1:PHp) (us:List PV) (k:Nat) (ws:List (List Int)) (v:PV) (fs:List PV),WyK ts G m tg k ws->aZ H1 q us (inV ws)->Frs H us->us.filter (ix H1 G)=v::fs->∃r,∃w:List Int,v=.ref r/\H r=none/\H1 r=some (.lst (w.map PV.int))/\Wy ts G m w:=fun q H1 us k ws v fs rk l1 f1 hf=>by
   have hv:v∈us.filter (ix H1 G):=by rw[hf];exact List.mem_cons_self
   obtain⟨hv1,hv2⟩:=List.mem_filter.mp hv;obtain⟨l',r,hl',rfl,nr,hr⟩:=l1.mem hv1;obtain⟨w,hw,rfl⟩:=List.mem_map.mp hl';have o:=rk.ok w hw;rw[iL hr o.ne]at hv2;exact⟨r,w,rfl,f1 _ hv1 r rfl,hr,o.hd,o.ch,o.lo,_,(lx o.ne).1,of_decide_eq_true hv2⟩
  ac_rfl;refine⟨_,e1,scan q H1 _ 1 _ _ rk1 s1 e1 l1 f1 (fun f H2 s2 ef=>?_) _ rfl⟩;subst hR;refine ak fun R hR=>?_;refine gm fun Rb hRb=>?_;refine fc (fun n σ H2=>∃q f us k ws Ha z1 z2,σ=[some (.ref x),some (.int m),some (.tup (G.map PV.int)),some (.ref q),some (.ref f),z1,z2]/\WyK ts G m tg k ws/\U.Sub H Ha/\U.Sub Ha H2/\Ha q=some (.lst us)/\aZ Ha q us (inV ws)/\Frs H us/\H2 f=some (.lst (us.filter (ix Ha G)))/\n=tg.length - k) _ ⟨q,f,_,1,_,H1,none,none,rfl,rk1,s1,s2,e1,l1,f1,ef,rfl⟩ ?_;rintro n σ H2 ⟨q,f,us,k,ws,Ha,z1,z2,rfl,rk,s1,s2,e1,l1,f1,ef,rfl⟩;ac_rfl;refine⟨_,ef,?_⟩;cases hf:us.filter (ix Ha G)with
  | cons v fs =>
   rw[hf]at ef;refine aw (by simp;omega) ?_;obtain⟨r,w,rfl,hr,er,wy⟩:=fst q Ha us k ws v fs rk l1 f1 hf;subst hR;ac_rfl;refine⟨_,ef,?_⟩;have e0:atI (PV.ref r::fs) 0=some (.ref r):=gr (l:=PV.ref r::fs) (i:=0) (by simp);rw[e0];exact⟨H2,Sub.refl _,h r H2 w hr (s1.trans s2) (s2 _ _ er) wy (n8 ok hG wy.ch wy.la)⟩
  | nil =>
   obtain⟨hk,no⟩:=fnd q Ha us k ws rk l1 hf;have rk2:=sU ok htc rk hk no;have k5:k≤5:=by omega
   have h6:ws.length≤6 ^ 5:=Nat.le_trans rk.le (Nat.pow_le_pow_right (by decide) k5);have hle:=l1.len;simp only[inV,List.length_map]at hle;refine aA (by simp) (xF fun N bk hN=>?_);subst hRb;refine ak fun R' hR'=>?_;ac_rfl;refine⟨ah (by decide),fun g hg=>?_⟩;have s3:=s2.put (o:=.lst []) (s2.free hg);have hga:=s2.free hg;have hgH:=s1.free hga;have e3:put H2 g (.lst []) g=some (.lst []):=ai;generalize put H2 g (.lst [])=H3 at *;subst hR';refine ak fun R' hR'=>?_;ac_rfl;refine⟨_,s3 _ _ e1,?_⟩;refine cc (fun i σ H4=>∃z2 vs,σ=[some (.ref x),some (.int m),some (.tup (G.map PV.int)),some (.ref q),some (.ref f),some (.ref g),z2]/\U.Sub Ha H4/\H4 g=some (.lst vs)/\aZ H4 g vs (inV ((ws.take i).flatMap (mC ts)))/\Frs H vs/\vs.length≤6*i) ?_ ?_ ⟨_,[],rfl,s3,e3,by simp[aZ,Paired.nil],Frs.nil,by simp⟩
   ·rintro σ H4 ⟨z2,vs,rfl,s4,e4,l4,f4,v4⟩;refine⟨s4 _ _ e1,?_⟩;rw[hle,List.take_length]at l4;subst hR';refine ak fun R' hR'=>?_;ac_rfl;subst hR';ac_rfl;refine⟨_,e4,scan g H4 vs _ _ _ rk2 (s1.trans s4) e4 l4 f4 (fun f2 H5 s5 ef2=>?_) _ rfl⟩;exact hN _ _ ⟨tg.length - (k+1),by omega,g,f2,vs,k+1,_,H4,_,_,rfl,rk2,s1.trans s4,s5,e4,l4,f4,ef2,rfl⟩
   ·rintro N' i y σ H4 hy ⟨z2,vs,rfl,s4,e4,l4,f4,v4⟩ kk;refine⟨s4 _ _ e1,?_⟩;obtain⟨l,ra,hl,rfl,nra,hra⟩:=l1.at hy;have hl:(ws.map fun w=>w.map PV.int)[i]?=some l:=hl;rw[List.getElem?_map]at hl;obtain⟨w,hw,rfl⟩:=Option.map_eq_some_iff.mp hl;have hi:i<ws.length:=(List.getElem?_eq_some_iff.mp hw).1;have o:=rk.ok w (List.mem_of_getElem? hw);have rng:=rS ok.gt o.ch (fun z hz=>by rw[o.hd]at hz;rw[←Option.some.inj hz];exact an.lo ok.gt hG m hm);have wl:w.length≤6:=My.bH 6 w ((My.mH (fun a b e=>(ok.gt.lo _ e).2.1) o.ch).imp fun h=>by omega) fun x hx=>by have:=rng x hx;have:=ok.c6;omega
    have nlo:0≤lsI w/\lsI w<c:=rng _ (List.mem_of_getLast? (lx o.ne).1);have ra4:=s4 _ _ hra;ac_rfl;refine⟨⟨_,e4⟩,⟨_,_,s4 _ _ (s1 _ _ hx),rfl⟩,_,ra4,?_⟩;rw[qS o.ne];ac_rfl;refine⟨dx,c,ts,bs,s4 _ _ (s1 _ _ hx),nlo,t15,?_⟩;show ∀acc,H4 acc=none->_;intro acc hacc;have nga:=au e4 hacc;have fl:=cJ ok.gt ok.c6 (lsI w);refine fV (fun j σ H5=>∃z us',σ=[z,some (.ref ra)]/\U.Sub H4 H5/\H5 acc=some (.lst us')/\aZ H5 acc us' (inV (((fol ts (lsI w)).take j).map fun n=>w++[n]))/\Frs H4 us') ?_ ?_ ⟨none,[],rfl,(Sub.refl H4).put hacc,ai,by simp[aZ,Paired.nil],Frs.nil⟩
    ·rintro j v σ H5 R2 hv ⟨z,us',rfl,s5,e5,l5,f5⟩ k5';rw[List.getElem?_map]at hv;obtain⟨n,hn,rfl⟩:=Option.map_eq_some_iff.mp hv;refine⟨trivial,?_⟩;have ra5:=s5 _ _ ra4;ac_rfl;refine⟨ah (by decide),fun p1 hp1=>⟨_,_,(ar (au ra5 hp1)).trans ra5,rfl,ah (by simp only[List.length_map,List.length_singleton];omega),fun p2 hp2=>?_⟩⟩;have sa:=(Sub.refl H5).put (o:=.lst [PV.int n]) hp1;have hp2H:=sa.free hp2;have sb:=sa.put (o:=.lst (w.map PV.int++[PV.int n])) hp2H;have hl5:=l5.len;simp only[inV,List.length_map]at hl5;have ltk:((fol ts (lsI w)).take j).length≤6:=by rw[List.length_take];omega
     refine⟨_,sb _ _ e5,bI (by omega),?_⟩;have l6:=((l5.up sb).snoc (r:=p2) (au e5 hp2H).symm ai).put (o:=.lst (us'++[PV.ref p2]));refine k5' _ _ ⟨_,_,rfl,(s5.trans sb).put hacc,ai,?_,f5.app (Frs.one (s5.free hp2H))⟩;have ej:(fol ts (lsI w)).take (j+1)=(fol ts (lsI w)).take j++[n]:=by rw[List.take_succ,hn];rfl
     rw[ej];simpa[inV]using l6
    ·rintro σ H5 ⟨z,us',rfl,s5,e5,l5,f5⟩;refine⟨trivial,?_⟩;rw[List.length_map,List.take_length]at l5;have hl5:=l5.len;simp only[inV,List.length_map]at hl5;ac_rfl;refine⟨_,_,s5 _ _ e4,e5,by rw[sizeLine_eq];omega,?_⟩;refine kk _ _ ⟨_,vs++us',rfl,(s4.trans s5).put hga,ai,?_,f4.app (Frs.mono (s1.trans s4) f5),by rw[List.length_append];omega⟩;have ei:(ws.take (i+1)).flatMap (mC ts)=(ws.take i).flatMap (mC ts)++mC ts w:=by rw[List.take_succ,hw];simp
     rw[ei];unfold inV;rw[List.map_append];exact jZ ((l4.up s5).put) (aZ.put (aZ.fr e4 l5 f5))
 ·exact h.elim
theorem DE(T:Tx K mg t):aN P w K mg base CX0 4 t.a_zL t.d_zL ["drawing","road","given"] (gX t):=by
 refine okU (k:=3) T.F_zL A1 (fun vs H Q E h=>by
  unfold gX at h;split at h
  ·rfl
  ·exact h.elim) (fun cdv A outer s H E B hr=>⟨_,(aq (aF (bG (N2:=["meeting","drawing","given"]) (nt:=1) (js:=[0,2]) (ck (sc:=ao u6)) rfl (aP (aH (Dk T) (hr.mono (by decide)) rfl T.g_zR T.F_zR.kp T.B_zR (aa (qv 1) ae))) (fun s0 H0 fp ps=>⟨(ax (i:=0) (show List.Nodup (["meeting","drawing","given"]:List Str) by decide +kernel) rfl (by eq_refl)),bh,(aH (Ds T) (hr.mono (by decide)) rfl T.g_zq T.F_zq.kp T.B_zq (aa (qv 1) (aa (qv 0) (aa (qv 2) ae))))⟩)))),?_⟩)
 intro vs H Q E h;unfold gX at h;split at h
 ·rename_i x a l;obtain⟨c,ts,bs,G,A,road,⟨dx,hx⟩,ok,rfl,hG,an,ha,hl,hm,h⟩:=h;have ml:=nP road;ac_rfl;refine⟨road,ha,hl,fun mr H1 hmr s1 em=>⟨_,em,fun acc hacc=>?_⟩⟩;have na:=au em hacc;refine fV (fun j σ H2=>∃z us,∃ws:List (List Int),σ=[z,some (.ref x),some (.tup (G.map PV.int))]/\U.Sub H1 H2/\H2 acc=some (.lst us)/\aZ H2 acc us (inV ws)/\Frs H1 us/\Paired (Wy ts G) ((mts road).take j) ws/\∀w∈ws,w.length≤6) ?_ ?_ ⟨none,[],[],rfl,(Sub.refl H1).put hacc,ai,by simp[aZ,Paired.nil],Frs.nil,by simp[Paired.nil],fun w hw=>(by cases hw)⟩
  ·rintro j v σ H2 R' hv ⟨z,us,ws,rfl,s2,e2,l2,f2,p2,w6⟩ kk;rw[List.getElem?_map]at hv;obtain⟨m,hmj,rfl⟩:=Option.map_eq_some_iff.mp hv;refine⟨s2 _ _ em,?_⟩;ac_rfl;refine⟨c,ts,bs,G,A,⟨dx,s2 _ _ (s1 _ _ hx)⟩,ok,rfl,hG,an,hm m (List.mem_of_getElem? hmj),fun r H3 w hr s3 er wy wl=>?_⟩;have hl2:=l2.len;have hp2:=Paired.length p2;have ltk:((mts road).take j).length≤100:=by rw[List.length_take];omega
   simp only[inV,List.length_map]at hl2;refine⟨_,s3 _ _ e2,bI (by omega),?_⟩;have nr:=au e2 hr;refine kk _ _ ⟨_,us++[.ref r],ws++[w],rfl,(s2.trans s3).put hacc,ai,?_,f2.app (Frs.one (s2.free hr)),?_,fun w' hw'=>?_⟩
   ·have:=((l2.up s3).snoc (r:=r) nr.symm er).put (o:=.lst (us++[PV.ref r]));simpa[inV]using this
   ·have ej:(mts road).take (j+1)=(mts road).take j++[m]:=by rw[List.take_succ,hmj];rfl
    rw[ej];exact gZ wy p2
   ·rcases List.mem_append.mp hw' with q | q
    ·exact w6 w' q
    ·rw[List.mem_singleton.mp q];exact wl
  ·rintro σ H2 ⟨z,us,ws,rfl,s2,e2,l2,f2,p2,w6⟩;rw[List.length_map,List.take_length]at p2;exact⟨s2 _ _ em,H2,Sub.refl _,h acc H2 us ws (s1.free hacc) (s1.trans s2) e2 l2 (Frs.mono s1 f2) p2 w6⟩
 ·exact h.elim
theorem Ae(T:Tx K mg t):aN P w K mg base CX0 1 t.a_zF t.d_zF ["_law_cell","_law_place"] oF:=by
 refine okU (k:=0) T.F_zF qO (fun vs H Q E h=>by
  unfold oF at h;split at h
  ·rfl
  ·exact h.elim) (fun cdv A outer s H E B hr=>⟨_,(af (aB (i:=2) qO.nd rfl (by eq_refl) (bC (b7 (b7 (gh (bC (qv 0) aj) aj) (gh aj (qv 1))) aj) aj))
  (af (aB (i:=2) qO.nd rfl (by eq_refl) (bC (b7 (b7 (gh (qv 2) (qv 2)) (gh aj (qv 1))) aj) aj))
  (aq (aF (bC (b7 (gh (qv 2) (qv 2)) aj) aj))))),?_⟩)
 intro vs H Q E h;unfold oF at h;split at h
 ·rename_i u k;obtain⟨⟨k0,k1⟩,h⟩:=h;ac_rfl;have bk:My.BN 64 k:=show k.natAbs<2 ^ 64 from Nat.lt_of_lt_of_le (m:=100) (by omega) (by decide);have bm:∀a:Int,My.BN 64 (a.fmod 2147483629):=fun a=>A9 (by decide) (show My.BN 64 _ by unfold My.BN;decide);have bc:∀n:Int,n.natAbs<2 ^ 64->My.BN 64 n:=fun n h=>h;have f:∀{a b:Int},My.BN 64 a->My.BN 64 b->kS a b:=fun x y=>.inr ⟨x.fit (by decide),y.fit (by decide)⟩;exact⟨by decide,f (bm _) (bc _ (by decide)),f (bc _ (by decide)) bk,by decide,f (bm _) (bm _),f (bc _ (by decide)) bk,by decide,f (bm _) (bm _),by decide,H,Sub.refl _,h _⟩
 ·exact h.elim
theorem D4(T:Tx K mg t):aN P w K mg base CX0 2 t.a_zv t.d_zv ["_law_script","_law_at","_law_many"] jz:=by
 refine okU (k:=1) T.F_zv dO (fun vs H Q E h=>by
  unfold jz at h;split at h
  ·rfl
  ·exact h.elim) (fun cdv A outer s H E B hr=>⟨_,(af (aB (i:=3) dO.nd rfl (by eq_refl) (aY ae))
  (af (aB (i:=4) dO.nd rfl (by eq_refl) (aY ae))
  (af (aB (i:=5) dO.nd rfl (by eq_refl) (aH (vb T) (hr.mono (by decide)) rfl T.g_zw T.F_zw.kp T.B_zw (aa (qv 0) (aa (qv 1) ae))))
  (af (aB (i:=6) dO.nd rfl (by eq_refl) (cw (qv 5) aj))
  (af (aB (i:=7) dO.nd rfl (by eq_refl) aj)
  (af (bU PassesOwn.never rfl (eK rfl T.b_range (aa (qv 2) ae)) (ax (i:=8) dO.nd rfl (by eq_refl))
  (aq (bU PassesOwn.never rfl (i6 rfl T.b_range (aa (b7 (qv 8) aj) (aa (qv 2) ae))) (ax (i:=9) dO.nd rfl (by eq_refl))
   (af (aB (i:=10) dO.nd rfl (by eq_refl) (uO (xu (qv 6) (gh aj (qv 7))) aj))
    (af (aW (ay (a7 hr.units) bj (bC (qv 5) aj) aj (aE _))
    (aq (aB (i:=10) dO.nd rfl (by eq_refl) (bC (aH (Ae T) (hr.mono (by decide)) rfl T.g_zF T.F_zF.kp T.B_zF (aa (qv 5) (aa (qv 7) ae))) aj)))
    aC)
    (af (aW (ay (a7 hr.units) bj (bC (qv 10) aj) aj (aE _))
    (aq (aU (cX PySem.F.slot_list_append PySem.F.type_list_append cx c9 (qv 3) (aa (aO (aa (qv 8) (aa (qv 9) ae))) ae))))
    aC)
    (af (aW (bx (dJ (ay gE gz (qv 10) aj (aE _)) (cN (ay fq fb (aS aM bK rfl T.b_len PySem.boot_len (aa (qv 4) ae)) aj (aE _)))))
    (aq (aU (cX PySem.F.slot_list_append PySem.F.type_list_append cx c9 (qv 4) (aa (aO (aa (qv 8) (aa (qv 9) ae))) ae))))
    aC)
    (aq (aB (i:=7) dO.nd rfl (by eq_refl) (b7 (qv 7) aj))))))))))
  (aq (aF (aO (aa (qv 2) (aa (aQ aL bf rfl T.b_tuple boot_tuple (aa (qv 3) ae)) (aa (aQ aL bf rfl T.b_tuple boot_tuple (aa (qv 4) ae)) ae)))))))))))),?_⟩)
 intro vs H Q E h;unfold jz at h;split at h
 ·rename_i l k c;obtain⟨⟨k0,k1⟩,⟨c1,c6⟩,ns,rfl,h⟩:=h;refine ak fun R hR=>?_;ac_rfl;refine⟨ah (by decide),fun p hp=>?_⟩;subst hR;refine ak fun R hR=>?_;ac_rfl;refine⟨ah (by decide),fun q hq=>?_⟩;subst hR;refine ak fun R hR=>?_;ac_rfl;refine⟨⟨k0,by omega⟩,ns,rfl,?_⟩;generalize ns.getD k.toNat 0=u;have s0:=(Sub.refl H).put (o:=.lst []) hp;have hqH:=s0.free hq;have npq:p≠q:=fun e=>by subst e;rw[ai]at hq;cases hq
  have s1:=s0.put (o:=.lst []) hqH;have e1:put (put H p (.lst [])) q (.lst []) p=some (.lst (([]:List DM.P2).map prV)):=(ar npq).trans ai;have e2:put (put H p (.lst [])) q (.lst []) q=some (.lst (([]:List DM.P2).map prV)):=ai;generalize put (put H p (.lst [])) q (.lst [])=H1 at *;subst hR;refine ak fun R hR=>?_;ac_rfl;refine⟨jJ (by decide) (by decide),?_⟩;generalize u.fdiv 2=nu;subst hR;refine ak fun R hR=>?_;ac_rfl;subst hR;refine ak fun R hR=>?_;ac_rfl;refine⟨⟨by omega,by omega⟩,?_⟩;refine fS (fun i σ H2=>∃pl z1 z2 z3 ts bs,σ=[some (.fls (ns.map PV.int)),some (.int k),some (.int c),some (.ref p),some (.ref q),some (.int u),some (.int nu),some (.int pl),z1,z2,z3]/\(U.Sub H H2/\H2 p=some (.lst (ts.map prV))/\H2 q=some (.lst (bs.map prV)))/\GL c (i:Nat) 0 ts/\GL c (i:Nat) 0 bs/\bs.length≤6/\0≤pl/\pl≤6*(i:Nat)) ?_ ?_ ⟨0,none,none,none,[],[],rfl,⟨s1,e1,e2⟩,GL.nil,GL.nil,by simp,by omega,by omega⟩
  ·rintro σ H2 ⟨pl,z1,z2,z3,ts,bs,rfl,⟨s2,a1,a2⟩,g1,g2,l6,p0,p1⟩;refine⟨trivial,?_⟩;subst hR;ac_rfl;exact⟨_,a1,_,a2,ah (by decide),H,s2,h ts bs ⟨c1,c6,g1.good,g2.good,g1.st,g2.st,l6⟩⟩
  ·rintro G i σ H2 hi ⟨pl,z1,z2,z3,ts,bs,rfl,hH,g1,g2,l6,p0,p1⟩ kk;refine⟨trivial,?_⟩;ac_rfl;refine⟨⟨by omega,by omega,by omega,by omega⟩,?_⟩;have hn:(c - ((i:Nat)+1:Int)).toNat≤5:=by omega
   refine fS (fun j σ H3=>∃pl z2 z3 ts bs,σ=[some (.fls (ns.map PV.int)),some (.int k),some (.int c),some (.ref p),some (.ref q),some (.int u),some (.int nu),some (.int pl),some (.int (i:Nat)),z2,z3]/\(U.Sub H H3/\H3 p=some (.lst (ts.map prV))/\H3 q=some (.lst (bs.map prV)))/\GL c (i:Nat) ((i:Nat)+1+(j:Nat):Int) ts/\GL c (i:Nat) ((i:Nat)+1+(j:Nat):Int) bs/\bs.length≤6/\0≤pl/\pl≤6*(i:Nat)+(j:Nat)) ?_ ?_ ⟨pl,z2,z3,ts,bs,rfl,hH,g1.up (by omega),g2.up (by omega),l6,p0,by omega⟩
   ·rintro σ H3 ⟨pl,z2,z3,ts,bs,rfl,hH,g1,g2,l6,p0,p1⟩;exact⟨trivial,kk _ _ ⟨_,_,_,_,ts,bs,rfl,hH,g1.nx 0,g2.nx 0,l6,p0,by omega⟩⟩
   ·rintro G' j σ H3 hj ⟨pl,z2,z3,ts,bs,rfl,⟨s2,a1,a2⟩,g1,g2,l6,p0,p1⟩ kk';refine⟨trivial,?_⟩;have t15:=g1.good.len c6;refine ak fun R1 hR1=>?_;ac_rfl;refine⟨.inr ⟨v9 (by decide),v9 (by omega)⟩,by omega,?_⟩;generalize Builtin.bitAnd _ _=kd0;have fin:∀(kd:Int) (ts' bs':List DM.P2) (H4:PHp),(U.Sub H H4/\H4 p=some (.lst (ts'.map prV))/\H4 q=some (.lst (bs'.map prV)))->GL c (i:Nat) ((i:Nat)+1+(j:Nat)+1:Int) ts'->GL c (i:Nat) ((i:Nat)+1+(j:Nat)+1:Int) bs'->bs'.length≤6->G' [some (.fls (ns.map PV.int)),some (.int k),some (.int c),some (.ref p),some (.ref q),some (.int u),some (.int nu),some (.int (pl+1)),some (.int (i:Nat)),some (.int ((i:Nat)+1+(j:Nat):Int)),some (.int kd)] H4:=fun kd ts' bs' H4 x1 x2 x3 x4=>kk' _ _ ⟨_,_,_,ts',bs',rfl,x1,by rw[show(((i:Nat):Int)+1+((j+1:Nat):Int))=(i:Nat)+1+(j:Nat)+1 by omega];exact x2,by rw[show(((i:Nat):Int)+1+((j+1:Nat):Int))=(i:Nat)+1+(j:Nat)+1 by omega];exact x3,x4,by omega,by omega⟩;subst hR1;refine ak fun R1 hR1=>?_;have on1:∀kd:Int,R1 { nx:=G',rt:=fun v H=>∃H3,U.Sub H3 H/\Q v H3,bk:=G,ct:=G' } [some (.fls (ns.map PV.int)),some (.int k),some (.int c),some (.ref p),some (.ref q),some (.int u),some (.int nu),some (.int pl),some (.int (i:Nat)),some (.int ((i:Nat)+1+(j:Nat):Int)),some (.int kd)] H3:=fun kd=>by
     subst hR1;refine ak fun R1 hR1=>?_;have on2:∀(ts':List DM.P2) (H4:PHp),(U.Sub H H4/\H4 p=some (.lst (ts'.map prV))/\H4 q=some (.lst (bs.map prV)))->GL c (i:Nat) ((i:Nat)+1+(j:Nat)+1:Int) ts'->R1 { nx:=G',rt:=fun v H=>∃H3,U.Sub H3 H/\Q v H3,bk:=G,ct:=G' } [some (.fls (ns.map PV.int)),some (.int k),some (.int c),some (.ref p),some (.ref q),some (.int u),some (.int nu),some (.int pl),some (.int (i:Nat)),some (.int ((i:Nat)+1+(j:Nat):Int)),some (.int kd)] H4:=fun ts' H4 hH b1=>by
      subst hR1;refine ak fun R1 hR1=>?_;have on3:∀(bs':List DM.P2) (H5:PHp),(U.Sub H H5/\H5 p=some (.lst (ts'.map prV))/\H5 q=some (.lst (bs'.map prV)))->GL c (i:Nat) ((i:Nat)+1+(j:Nat)+1:Int) bs'->bs'.length≤6->R1 { nx:=G',rt:=fun v H=>∃H3,U.Sub H3 H/\Q v H3,bk:=G,ct:=G' } [some (.fls (ns.map PV.int)),some (.int k),some (.int c),some (.ref p),some (.ref q),some (.int u),some (.int nu),some (.int pl),some (.int (i:Nat)),some (.int ((i:Nat)+1+(j:Nat):Int)),some (.int kd)] H5:=fun bs' H5 hH' b2 b6=>by
       subst hR1;ac_rfl;exact fin kd ts' bs' H5 hH' b1 b2 b6
      obtain⟨u1,u3,u4⟩:=id hH;ac_rfl;refine bw (fun _=>?_) (fun _=>on3 bs H4 hH (g2.up (by omega)) l6);refine⟨_,u4,?_⟩;by_cases h6:bs.length<6
      ·refine aA (by rw[List.length_map];simp;omega) ?_;refine⟨⟨_,u4⟩,ah (by decide),_,u4,by rw[List.length_map];exact bI (by omega),?_⟩;refine on3 (bs++[(((i:Nat):Int),((i:Nat):Int)+1+((j:Nat):Int))]) _ ⟨u1.put hqH,(ar npq).trans u3,?_⟩ (g2.app (by omega) (by omega) (by omega) c6) (by rw[List.length_append];simp;omega);rw[ai,List.map_append];rfl
      ·exact aw (by rw[List.length_map];simp;omega) (on3 bs H4 hH (g2.up (by omega)) l6)
     ac_rfl;refine⟨by decide,bw (fun _=>?_) (fun _=>on2 ts H3 ⟨s2,a1,a2⟩ (g1.up (by omega)))⟩;refine⟨⟨_,a1⟩,ah (by decide),_,a1,by rw[List.length_map];exact bI (by omega),?_⟩;refine on2 (ts++[(((i:Nat):Int),((i:Nat):Int)+1+((j:Nat):Int))]) _ ⟨s2.put hp,?_,(ar npq.symm).trans a2⟩ (g1.app (by omega) (by omega) (by omega) c6);rw[ai,List.map_append];rfl
    ac_rfl;refine⟨by decide,bw (fun _=>?_) (fun _=>on1 _)⟩;exact⟨⟨p0,by omega⟩,fun n=>⟨by decide,on1 _⟩⟩
 ·exact h.elim
theorem CU(T:Tx K mg t):aN P w K mg base CX0 2 t.a_zM t.d_zM ["_law_cell","_law_many","_law_kinds_here"] fX:=by
 refine okU (k:=1) T.F_zM iO (fun vs H Q E h=>by
  unfold fX at h;split at h
  ·rfl
  ·exact h.elim) (fun cdv A outer s H E B hr=>⟨_,(af (bt (i:=3) iO.nd rfl (by eq_refl) (N2:=["_law_kind"]) (nt:=1) (js:=[]) (ck (sc:=ao rD)) rfl (eK rfl T.b_range (aa (qv 2) ae)) (fun s0 H0 fp ps=>⟨(ax (i:=0) (show List.Nodup (["_law_kind"]:List Str) by decide +kernel) rfl (by eq_refl)),bh,(aY ae)⟩))
  (af (aB (i:=4) iO.nd rfl (by eq_refl) (cw (qv 0) aj))
  (af (bU PassesOwn.never rfl (eK rfl T.b_range (aa (qv 1) ae)) (ax (i:=5) iO.nd rfl (by eq_refl))
  (af (aB (i:=6) iO.nd rfl (by eq_refl) (bC (qv 4) (qv 2)))
   (af (aB (i:=4) iO.nd rfl (by eq_refl) (cw (qv 4) (qv 2)))
   (af (aW (ay (a7 hr.units) bj (bC (qv 0) aj) aj (aE _))
   (aq (aB (i:=6) iO.nd rfl (by eq_refl) (bC (aH (Ae T) (hr.mono (by decide)) rfl T.g_zF T.F_zF.kp T.B_zF (aa (qv 0) (aa (b7 aj (qv 5)) ae))) (qv 2))))
   aC)
   (aq (aU (cX PySem.F.slot_list_append PySem.F.type_list_append cx c9 (aJ (qv 3) (qv 6) (fun _ _=>rfl)) (aa (qv 5) ae))))))))
  (aq (aF (bG (N2:=["_law_names"]) (nt:=1) (js:=[]) (ck (sc:=ao rD)) rfl (aP (qv 3)) (fun s0 H0 fp ps=>⟨(ax (i:=0) (show List.Nodup (["_law_names"]:List Str) by decide +kernel) rfl (by eq_refl)),bh,(aQ aL bf rfl T.b_tuple boot_tuple (aa (qv 0) ae))⟩))))))),?_⟩)
 intro vs H Q E h;unfold fX at h;split at h
 ·rename_i u c k;obtain⟨⟨c1,c6⟩,⟨k1,k10⟩,h⟩:=h;refine ak fun R hR=>?_;ac_rfl;refine⟨⟨by omega,by omega⟩,?_⟩;show ∀acc,H acc=none->_;intro q hq;refine fV (fun j σ H2=>∃z,∃rs:List Addr,σ=[z]/\U.Sub H H2/\H2 q=some (.lst (rs.map PV.ref))/\Rl H2 q rs (List.replicate j [])/\∀r∈rs,H r=none) ?_ ?_ ⟨none,[],rfl,(Sub.refl H).put hq,ai,⟨List.nodup_nil,.nil⟩,fun r hr=>(by cases hr)⟩
  ·rintro j v σ H2 R' hv ⟨z,rs,rfl,s2,e2,rl,fr⟩ kk;refine⟨trivial,?_⟩;have hlr:=Paired.length rl.at';rw[List.length_replicate]at hlr;have hj:j<k.toNat:=by have:=(List.getElem?_eq_some_iff.mp hv).1;simpa[cH]using this
   ac_rfl;refine⟨ah (by decide),fun p hp=>?_⟩;have np:=au e2 hp;refine⟨_,(ar np).trans e2,bI (by rw[List.length_map];omega),?_⟩;have sa:=(Sub.refl H2).put (o:=.lst []) hp;have pn:∀r∈rs,r≠p/\r≠q:=fun r hr=>by
    obtain⟨L,_,h1,h2⟩:=fY rl.at' hr;exact⟨au h2 hp,h1⟩
   refine kk _ _ ⟨_,rs++[p],rfl,(s2.trans sa).put hq,by rw[ai,List.map_append];rfl,⟨?_,?_⟩,fun r hr=>?_⟩
   ·exact List.nodup_append.mpr ⟨rl.nd,by simp,fun x hx y hy e=>(pn x hx).1 (by rw[List.mem_singleton.mp hy]at e;exact e)⟩
   ·rw[List.replicate_succ'];refine gZ ⟨np.symm,(ar np.symm).trans ai⟩ (Paired.mapP rl.at' fun r L ⟨h1,h2⟩=>⟨h1,(ar h1).trans (sa _ _ h2)⟩)
   ·rcases List.mem_append.mp hr with z | z
    ·exact fr r z
    ·rw[List.mem_singleton.mp z];exact s2.free hp
  rintro σ H1 ⟨z,rs,rfl,s1,e1,rl,fr⟩;refine⟨trivial,?_⟩;have hrl:(cH 0 k.toNat).length=k.toNat:=by simp[cH]
  rw[hrl]at rl;have hk:rs.length=k.toNat:=by have:=Paired.length rl.at';rw[List.length_replicate]at this;exact this
  have pt0:PtI k.toNat 0 (List.replicate k.toNat []):=by
   refine⟨List.length_replicate ..,fun L hL=>?_,?_⟩
   ·rw[(List.mem_replicate.mp hL).2];exact .nil
   ·have:(List.replicate k.toNat ([]:List Int)).flatten=[]:=by simp
    rw[this];exact List.Perm.nil
  subst hR;refine ak fun R hR=>?_;ac_rfl;refine⟨jJ (by decide) (by decide),?_⟩;generalize u.fdiv 2=nu;subst hR;refine ak fun R hR=>?_;ac_rfl;refine⟨⟨by omega,by omega⟩,?_⟩;refine fS (fun i σ H2=>∃nu z1 z2 Ls,σ=[some (.int u),some (.int c),some (.int k),some (.ref q),some (.int nu),z1,z2]/\U.Sub H H2/\H2 q=some (.lst (rs.map PV.ref))/\Rl H2 q rs Ls/\PtI k.toNat i Ls) ?_ ?_ ⟨nu,none,none,_,rfl,s1,e1,rl,pt0⟩
  ·rintro σ H2 ⟨nu,z1,z2,Ls,rfl,s2,e2,rl,pt⟩;refine⟨trivial,?_⟩;have ec:((c.toNat:Nat):Int)=c:=by omega
   subst hR;ac_rfl;refine⟨_,e2,fun acc hacc=>?_⟩;refine aG (lJ H2) (fun _=>true) (fun σ=>∃z,σ=[z]) (by rw[List.length_map];omega) (fun _=>(ar (au e2 hacc)).trans e2) ?_ ?_ ⟨_,rfl⟩
   ·rintro y hy l σ R' ⟨z,rfl⟩ hl kT kF;obtain⟨r,hr,rfl⟩:=List.mem_map.mp hy;obtain⟨L,_,h1,h2⟩:=fY rl.at' hr;rw[cY h2]at kT;ac_rfl;exact⟨_,(ar (au h2 hacc)).trans h2,hl,by rw[aI];exact kT rfl _ ⟨_,rfl⟩⟩
   rw[List.filter_eq_self.mpr (fun _ _=>rfl),nS rl.at'];refine⟨_,Sub.refl _,h acc _ Ls (s2.free hacc) (s2.put (s2.free hacc)) ai ⟨pt.len,pt.up,?_⟩⟩;have:=pt.pm;rw[ec]at this;exact this
  ·rintro N i σ H2 hi ⟨nu,z1,z2,Ls,rfl,s2,e2,rl,pt⟩ kk;refine⟨trivial,?_⟩;refine ak fun R' hR'=>?_;ac_rfl;refine⟨by omega,?_⟩;have f1:=fm (a:=nu) (b:=k) (by omega);generalize nu.fmod k=kd0 at *;subst hR';refine ak fun R' hR'=>?_;ac_rfl;refine⟨jJ (by omega) (by omega),?_⟩;generalize nu.fdiv k=nu2 at *;subst hR';refine ak fun R' hR'=>?_;have fin:∀kd:Int,0≤kd/\kd<k->R' { nx:=N,rt:=fun v H=>∃H3,U.Sub H3 H/\Q v H3,bk:=R { nx:=fun _ H=>∃H3,U.Sub H3 H/\Q .non H3,rt:=fun v H=>∃H3,U.Sub H3 H/\Q v H3 },ct:=N } [some (.int u),some (.int c),some (.int k),some (.ref q),some (.int nu2),some (.int (i:Nat)),some (.int kd)] H2:=fun kd hd=>by
    have hkd:kd.toNat<rs.length:=by omega
    have hkL:kd.toNat<Ls.length:=by rw[pt.len];omega
    have ea:atI (rs.map PV.ref) kd=some (.ref rs[kd.toNat]):=by
     have:=gr (l:=rs.map PV.ref) (i:=kd.toNat) (by rw[List.length_map];exact hkd);rw[List.getElem_map,show((kd.toNat:Nat):Int)=kd by omega]at this;exact this
    have hr:=qj rl.at' hkd hkL;have fl:Ls[kd.toNat].length≤6:=My.bH 6 _ ((pt.up _ (List.getElem_mem hkL)).imp fun h=>by omega) fun x hx=>by
     have:=hU.mp (pt.pm.mem_iff.mp (List.mem_flatten.mpr ⟨_,List.getElem_mem hkL,hx⟩));omega
    subst hR';ac_rfl;refine⟨_,e2,?_⟩;rw[ea];ac_rfl;refine⟨⟨_,hr.2⟩,_,hr.2,bI (by rw[List.length_map];omega),?_⟩;have hfr:H rs[kd.toNat]=none:=fr _ (List.getElem_mem hkd);refine kk _ _ ⟨_,_,_,Ls.set kd.toNat (Ls[kd.toNat]++[((i:Nat):Int)]),rfl,s2.put hfr,(ar hr.1.symm).trans e2,⟨rl.nd,?_⟩,pt.next hkL⟩;have:=qR (M:=Ls[kd.toNat]++[((i:Nat):Int)]) hkd rl.nd rl.at';rw[List.map_append]at this;exact this
   ac_rfl;refine⟨by decide,bw (fun _=>?_) (fun _=>fin _ f1)⟩;exact⟨⟨by omega,by omega⟩,fun n=>⟨by omega,fin _ (fm (by omega))⟩⟩
 ·exact h.elim
theorem EC(T:Tx K mg t):aN P w K mg base (CXU P w) 2 t.a_zd t.d_zd ["self","names"] (cO t):=by
 refine okX (k:=1) T.F_zd wx (fun vs H Q E h=>by
  unfold cO at h;split at h
  ·rfl
  ·exact h.elim) (fun cdv A outer s H0 E0 vs H Q E hr hE h=>⟨_,(aq (aW (dh (bW (aH (Bj T) (hr.mono (by decide)) rfl T.g_yb T.F_yb.kp T.B_yb (aa (bX (qv 0) T.cl_D T.nfD_count rfl) (aa (qv 1) ae)))))
  (aq (dU rfl br hE rfl T.x_K rfl T.g_K))
  aC)),?_⟩)
 unfold cO at h;split at h
 ·rename_i x l;obtain⟨c,ts,bs,L,⟨dx,hx⟩,rfl,hY,hN⟩:=h;ac_rfl;refine⟨_,_,_,hx,rfl,L,rfl,fun n=>?_,fun n=>?_⟩
  ·exact⟨H,Sub.refl _,hY n⟩
  ·exact hN n
 ·exact h.elim
theorem x8(T:Tx K mg t):aN P w K mg base (CXU P w) 3 t.a_zI t.d_zI ["drawing","sets"] (b4 t):=by
 refine okX (k:=2) T.F_zI wa (fun vs H Q E h=>by
  unfold b4 at h;split at h
  ·rfl
  ·rfl
  ·exact h.elim) (fun cdv A outer s H0 E0 vs H Q E hr hE h=>⟨_,(aq (bU (sO rfl) rfl (aP (qv 1)) (ax (i:=2) wa.nd rfl (by eq_refl))
  (aq (aU (tw rfl br hE (qv 0) T.cl_D T.m_zd (EC T) (hr.mono (by decide)) T.B_zd (aa (qv 2) ae)))))),?_⟩)
 unfold b4 at h;split at h
 ·rename_i x a;obtain⟨c,ts,bs,Ls,⟨dx,hx⟩,ha,hY,hN⟩:=h;ac_rfl;refine⟨_,ha,?_⟩;refine cc (fun i σ H2=>∃z,σ=[some (.ref x),some (.ref a),z]/\H2=H/\∀L∈Ls.take i,Nms c L) ?_ ?_ ⟨none,rfl,rfl,fun L hL=>(by simp at hL)⟩
  ·rintro σ H2 ⟨z,rfl,rfl,hall⟩;rw[List.length_map,List.take_length]at hall;exact⟨ha,H2,Sub.refl _,hY hall⟩
  ·rintro G i y σ H2 hy ⟨z,rfl,rfl,hall⟩ kk;refine⟨ha,?_⟩;rw[List.getElem?_map]at hy;obtain⟨M,hM,rfl⟩:=Option.map_eq_some_iff.mp hy;have ej:Ls.take (i+1)=Ls.take i++[M]:=by rw[List.take_succ,hM];rfl
   unfold tupI;ac_rfl;refine⟨⟨_,_,hx,rfl⟩,c,ts,bs,M,⟨_,hx⟩,rfl,fun n=>kk _ _ ⟨_,rfl,rfl,fun L hL=>?_⟩,fun n=>hN fun z=>n (z M (List.mem_of_getElem? hM))⟩;rw[ej]at hL;rcases List.mem_append.mp hL with q | q
   ·exact hall L q
   ·rw[List.mem_singleton.mp q];exact n
 ·rename_i x l;obtain⟨c,ts,bs,Ls,⟨dx,hx⟩,rfl,hY,hN⟩:=h;ac_rfl;refine cc (fun i σ H2=>∃z,σ=[some (.ref x),some (.tup (Ls.map tupI)),z]/\H2=H/\∀L∈Ls.take i,Nms c L) ?_ ?_ ⟨none,rfl,rfl,fun L hL=>(by simp at hL)⟩
  ·rintro σ H2 ⟨z,rfl,rfl,hall⟩;rw[List.length_map,List.take_length]at hall;exact⟨trivial,H2,Sub.refl _,hY hall⟩
  ·rintro G i y σ H2 hy ⟨z,rfl,rfl,hall⟩ kk;refine⟨trivial,?_⟩;rw[List.getElem?_map]at hy;obtain⟨M,hM,rfl⟩:=Option.map_eq_some_iff.mp hy;have ej:Ls.take (i+1)=Ls.take i++[M]:=by rw[List.take_succ,hM];rfl
   unfold tupI;ac_rfl;refine⟨⟨_,_,hx,rfl⟩,c,ts,bs,M,⟨_,hx⟩,rfl,fun n=>kk _ _ ⟨_,rfl,rfl,fun L hL=>?_⟩,fun n=>hN fun z=>n (z M (List.mem_of_getElem? hM))⟩;rw[ej]at hL;rcases List.mem_append.mp hL with q | q
   ·exact hall L q
   ·rw[List.mem_singleton.mp q];exact n
 ·exact h.elim
theorem zq(T:Tx K mg t):aN P w K mg base (CXU P w) 1 t.a_zD t.d_zD ["sets"] (bR t):=by
 refine okX (k:=0) T.F_zD rO (fun vs H Q E h=>by
  unfold bR at h;split at h
  ·rfl
  ·rfl
  ·exact h.elim) (fun cdv A outer s H0 E0 vs H Q E hr hE h=>⟨_,(af (aB (i:=1) rO.nd rfl (by eq_refl) (aY ae))
  (af (bU (sO rfl) rfl (aP (qv 0)) (ax (i:=2) rO.nd rfl (by eq_refl))
  (aq (aU (cX PySem.F.slot_list_extend PySem.F.type_list_extend ij oG (qv 1) (aa (qv 2) ae)))))
  (aq (aW (ay (jU hr.units) bj (gD rfl rfl T.b_len rfl T.b_set boot_set (qv 1)) (aS aM bK rfl T.b_len PySem.boot_len (aa (qv 1) ae)) (aE _))
  (aq (dU rfl br hE rfl T.x_P rfl T.g_P))
  aC)))),?_⟩)
 unfold bR at h;split at h
 ·rename_i a;obtain⟨c,Ls,ha,hl,c6,l10,hY,hN⟩:=h;have f60:Ls.flatten.length≤Ls.length*6:=d4 fun L hL=>(hl L hL).len c6;ac_rfl;refine⟨ah (by decide),fun p hp=>⟨_,(ar (au ha hp)).trans ha,?_⟩⟩;have nap:=au ha hp;have hpa:∀o,put H p o a=some (.lst (Ls.map tupI)):=fun o=>(ar nap).trans ha;refine cc (fun i σ H2=>∃z,σ=[some (.ref a),some (.ref p),z]/\H2=put H p (.lst (((Ls.take i).flatten).map PV.int))) ?_ ?_ ⟨none,rfl,by simp⟩
  ·rintro σ H2 ⟨z,rfl,rfl⟩;refine⟨hpa _,?_⟩;rw[List.length_map,List.take_length];ac_rfl;have ng:∀y∈Ls.flatten,0≤y/\y<6:=fun x hx=>by obtain⟨L,hL,hx⟩:=List.mem_flatten.mp hx;have:=(hl L hL).lo x hx;omega
   have n6:∀n∈Ls.flatten.map Int.toNat,n<6:=fun n hn=>by
    obtain⟨z,hz,rfl⟩:=List.mem_map.mp hn;have:=ng z hz;omega
   refine⟨Ls.flatten.map Int.toNat,by rw[eG ng],n6,?_⟩;by_cases nd:Ls.flatten.Nodup
   ·rw[g4 n6 ((dQ fun x hx=>(ng x hx).1).mpr nd)];exact aw (by rw[List.length_map,List.length_map];simp) ⟨H,Sub.put (Sub.refl _) hp,hY nd⟩
   ·have lt:=g9 n6 (fun z=>nd ((dQ fun x hx=>(ng x hx).1).mp z));rw[List.length_map]at lt;exact aA (by rw[List.length_map];simp at lt ⊢;omega) (hN nd _ (Sub.put (Sub.refl _) hp))
  ·rintro G i y σ H2 hy ⟨z,rfl,rfl⟩ kk;refine⟨hpa _,?_⟩;rw[List.getElem?_map]at hy;obtain⟨M,hM,rfl⟩:=Option.map_eq_some_iff.mp hy;have e:(Ls.take (i+1)).flatten=(Ls.take i).flatten++M:=by rw[List.take_succ,hM];simp
   have l1:((Ls.take (i+1)).flatten).length≤Ls.flatten.length:=by
    conv=>rhs;rw[←List.take_append_drop (i+1) Ls,List.flatten_append,List.length_append]
    omega
   rw[e,List.length_append]at l1;unfold tupI;ac_rfl;exact⟨⟨_,rfl⟩,ah (by rw[List.length_map,List.length_map];omega),kk _ _ ⟨_,rfl,by rw[aI,← List.map_append,e]⟩⟩
 ·rename_i l;obtain⟨c,Ls,rfl,hl,c6,l10,hY,hN⟩:=h;have f60:Ls.flatten.length≤Ls.length*6:=d4 fun L hL=>(hl L hL).len c6;ac_rfl;refine⟨ah (by decide),fun p hp=>?_⟩;refine cc (fun i σ H2=>∃z,σ=[some (.tup (Ls.map tupI)),some (.ref p),z]/\H2=put H p (.lst (((Ls.take i).flatten).map PV.int))) ?_ ?_ ⟨none,rfl,by simp⟩
  ·rintro σ H2 ⟨z,rfl,rfl⟩;refine⟨trivial,?_⟩;rw[List.length_map,List.take_length];ac_rfl;have ng:∀y∈Ls.flatten,0≤y/\y<6:=fun x hx=>by obtain⟨L,hL,hx⟩:=List.mem_flatten.mp hx;have:=(hl L hL).lo x hx;omega
   have n6:∀n∈Ls.flatten.map Int.toNat,n<6:=fun n hn=>by
    obtain⟨z,hz,rfl⟩:=List.mem_map.mp hn;have:=ng z hz;omega
   refine⟨Ls.flatten.map Int.toNat,by rw[eG ng],n6,?_⟩;by_cases nd:Ls.flatten.Nodup
   ·rw[g4 n6 ((dQ fun x hx=>(ng x hx).1).mpr nd)];exact aw (by rw[List.length_map,List.length_map];simp) ⟨H,Sub.put (Sub.refl _) hp,hY nd⟩
   ·have lt:=g9 n6 (fun z=>nd ((dQ fun x hx=>(ng x hx).1).mp z));rw[List.length_map]at lt;exact aA (by rw[List.length_map];simp at lt ⊢;omega) (hN nd _ (Sub.put (Sub.refl _) hp))
  ·rintro G i y σ H2 hy ⟨z,rfl,rfl⟩ kk;refine⟨trivial,?_⟩;rw[List.getElem?_map]at hy;obtain⟨M,hM,rfl⟩:=Option.map_eq_some_iff.mp hy;have e:(Ls.take (i+1)).flatten=(Ls.take i).flatten++M:=by rw[List.take_succ,hM];simp
   have l1:((Ls.take (i+1)).flatten).length≤Ls.flatten.length:=by
    conv=>rhs;rw[←List.take_append_drop (i+1) Ls,List.flatten_append,List.length_append]
    omega
   rw[e,List.length_append]at l1;unfold tupI;ac_rfl;exact⟨⟨_,rfl⟩,ah (by rw[List.length_map,List.length_map];omega),kk _ _ ⟨_,rfl,by rw[aI,← List.map_append,e]⟩⟩
 ·exact h.elim
theorem DQ(T:Tx K mg t):aN P w K mg base (CXU P w) 4 t.a_zt t.d_zt ["drawing","ones","others","given"] (cK t):=by
 refine okX (k:=3) T.F_zt AQ (fun vs H Q E h=>by
  unfold cK at h;split at h
  ·rfl
  ·exact h.elim) (fun cdv A outer s H0 E0 vs H Q E hr hE h=>⟨_,(af (aU (bZ rfl br hE (x8 T) (hr.mono (by decide)) rfl T.g_zI T.F_zI.kp T.B_zI (aa (qv 0) (aa (aY (aa (qv 1) (aa (qv 2) (aa (qv 3) ae)))) ae))))
  (af (aU (bZ rfl br hE (zq T) (hr.mono (by decide)) rfl T.g_zD T.F_zD.kp T.B_zD (aa (aY (aa (qv 1) (aa (qv 2) (aa (qv 3) ae)))) ae)))
  (aq (aW (bx (eS (ay (a7 hr.units) bj (aS aM bK rfl T.b_len PySem.boot_len (aa (qv 1) ae)) aj (aE _)) (dP (ay (a7 hr.units) bj (aS aM bK rfl T.b_len PySem.boot_len (aa (qv 2) ae)) aj (aE _)))))
  (aq (dU rfl br hE rfl T.x_P rfl T.g_P))
  aC)))),?_⟩)
 unfold cK at h;split at h
 ·rename_i x l m n;obtain⟨c,ts,bs,A,B,G,dr,c6,rfl,rfl,rfl,hY,hN1,hN2⟩:=h;have all3:(∀L∈[A,B,G],Nms c L)↔N3 c A B G:=by simp[N3]
  refine ak fun R hR=>?_;ac_rfl;refine⟨ah (by decide),fun p hp=>⟨c,ts,bs,[A,B,G],dr.up ((Sub.refl H).put hp),rfl,fun n3=>?_,fun n3=>hN1 (fun z=>n3 (all3.mpr z)) _ ((Sub.refl H).put hp)⟩⟩;have n3':=all3.mp n3;have s1:=(Sub.refl H).put (o:=.lst [PV.tup (A.map PV.int),.tup (B.map PV.int),.tup (G.map PV.int)]) hp;generalize put H p (.lst [PV.tup (A.map PV.int),.tup (B.map PV.int),.tup (G.map PV.int)])=H1 at *;subst hR;refine ak fun R hR=>?_;ac_rfl;refine⟨ah (by decide),fun p2 hp2=>⟨c,[A,B,G],rfl,n3,c6,by simp,fun nd=>?_,fun nd H2 t2=>hN2 n3' (fun ap=>nd ap.nd) _ (s1.trans (((Sub.refl H1).put hp2).trans t2))⟩⟩;have s2:=s1.put (o:=.lst [PV.tup (A.map PV.int),.tup (B.map PV.int),.tup (G.map PV.int)]) (s1.free hp2);generalize put H1 p2 (.lst [PV.tup (A.map PV.int),.tup (B.map PV.int),.tup (G.map PV.int)])=H2 at *;subst hR;ac_rfl;by_cases na:A=[]
  ·exact aA (by rw[na];rfl) (hN2 n3' (fun ap=>ap.na na) _ s2)
  refine aw (by rw[List.length_map];simpa using na) ?_;by_cases nb:B=[]
  ·exact aA (by rw[nb];rfl) (hN2 n3' (fun ap=>ap.nb nb) _ s2)
  exact aw (by rw[List.length_map];simpa using nb) ⟨H,s2,hY ((zL n3').mpr ⟨nd,na,nb⟩)⟩
 ·exact h.elim
theorem Dh(T:Tx K mg t):aN P w K mg base (CXU P w) 6 t.a_zY t.d_zY ["drawing","ones","others","given"] (de t):=by
 refine okX (k:=5) T.F_zY tu (fun vs H Q E h=>by
  unfold de at h;split at h
  ·rfl
  ·exact h.elim) (fun cdv A outer s H0 E0 vs H Q E hr hE h=>⟨_,(af (aU (bZ rfl br hE (DQ T) (hr.mono (by decide)) rfl T.g_zt T.F_zt.kp T.B_zt (aa (qv 0) (aa (qv 1) (aa (qv 2) (aa (qv 3) ae))))))
  (af (aB (i:=4) tu.nd rfl (by eq_refl) (aH (Dt T) (hr.mono (by decide)) rfl T.g_zB T.F_zB.kp T.B_zB (aa (qv 0) (aa (qv 1) (aa (qv 3) ae)))))
  (af (aW (dh (bW (aS (rY rfl) yG rfl T.b_any boot_any (aa (bG (N2:=["standing","others"]) (nt:=1) (js:=[2]) (ck (sc:=ao vK)) rfl (aP (qv 4)) (fun s0 H0 fp ps=>⟨(ax (i:=0) (show List.Nodup (["standing","others"]:List Str) by decide +kernel) rfl (by eq_refl)),bh,(eW (dR hr.units) b8 (aJ (qv 0) aj (fun _ _=>rfl)) (qv 1) (by with_unfolding_all rfl))⟩)) ae))))
  (aq (aF (aO (aa dH (aa (qv 4) ae)))))
  aC)
  (af (aB (i:=5) tu.nd rfl (by eq_refl) (aH (CW T) (hr.mono (by decide)) rfl T.g_zn T.F_zn.kp T.B_zn (aa (qv 0) (aa (qv 1) (aa (qv 2) (aa (qv 3) ae))))))
  (aq (aF (aO (aa dH (aa (aO (aa (qv 5) (aa (aH (DE T) (hr.mono (by decide)) rfl T.g_zL T.F_zL.kp T.B_zL (aa (qv 0) (aa (qv 5) (aa (qv 3) ae)))) ae))) ae))))))))),?_⟩)
 unfold de at h;split at h
 ·rename_i x l m n;obtain⟨c,ts,bs,A,B,G,dr,ok,rfl,rfl,rfl,hY,hN⟩:=h;refine ak fun R hR=>?_;ac_rfl;refine⟨c,ts,bs,A,B,G,dr,ok.c6,rfl,rfl,rfl,fun ap=>?_,hN⟩;subst hR;have t15:=ok.gt.len ok.c6;refine ak fun R hR=>?_;ac_rfl;refine⟨c,ts,bs,A,G,dr,ok,rfl,rfl,ap.a,ap.g,fun r H1 N L hr s1 an er nd iff=>?_⟩;have l12:=ma ok.c6 nd fun s hs=>n5 ok.gt ok.gb ap.a.lo ((iff s).mp hs);subst hR;refine ak fun R hR=>?_;ac_rfl;refine⟨_,er,?_⟩;show ∀acc,H1 acc=none->_;intro acc hacc;have na:=au er hacc;refine aG (Bu B) (fun _=>true) (fun σ=>∃z,σ=[z,some (.tup (B.map PV.int))]) (by rw[List.length_map];omega) (fun _=>(ar na).trans er) ?_ ?_ ⟨_,rfl⟩
  ·rintro y hy l σ R' ⟨z,rfl⟩ hl kT kF;obtain⟨st,hs,rfl⟩:=List.mem_map.mp hy;unfold sdV at *;ac_rfl;refine⟨a9,hl,?_⟩;rw[aI,bE];exact kT rfl _ ⟨_,rfl⟩
  have em:((L.map sdV).filter (fun _=>true)).map (Bu B)=(L.map fun s=>decide (s.1∈B)).map PV.bl:=by
   rw[List.filter_eq_self.mpr (fun _ _=>rfl),List.map_map,List.map_map];rfl
  rw[em];have s2:=(Sub.refl H1).put (o:=.lst ((L.map fun s=>decide (s.1∈B)).map PV.bl)) hacc;ac_rfl;refine⟨_,rfl,?_⟩;by_cases ex:∃s∈L,s.1∈B
  ·refine aw (by
    obtain⟨s,hs,hb⟩:=ex;simp only[List.any_map,Bool.not_eq_false'];rw[List.any_eq_true];exact⟨s,hs,by simpa using hb⟩) ?_
   generalize put H1 acc (.lst ((L.map fun s=>decide (s.1∈B)).map PV.bl))=H2 at *;have s12:=s1.trans s2;subst hR;obtain⟨s,hs,hb⟩:=ex;have rs:=(iff s).mp hs;refine ak fun R hR=>?_;ac_rfl;refine⟨c,ts,bs,A,B,G,N,dr.up s12,ok,rfl,rfl,rfl,ap.a,ap.g,an,uj ap an rs hb,fun r2 H3 road hr2 s3 er2 op hlb l5=>?_⟩;subst hR;ac_rfl;refine⟨c,ts,bs,G,N,road,dr.up (s12.trans s3),ok,rfl,ap.g,an,er2,by omega,mq op.rd.ch,fun q H4 us ws hq s4 eq l4 f4 p4 w6=>?_⟩;have s04:=(s12.trans s3).trans s4;refine⟨ah (by decide),ah (by decide),H4,Sub.refl _,hY ap _ H4 s04⟩
  ·refine aA (by
    simp only[List.any_map,Bool.not_eq_true'];rw[List.any_eq_false];intro s hs;simpa using fun hb=>ex ⟨s,hs,hb⟩) ?_
   refine⟨ah (by decide),H1,s2,hY ap _ H1 s1⟩
 ·exact h.elim
theorem Cw(T:Tx K mg t):aN P w K mg base CX0 1 t.a_zW t.d_zW ["names","others"] dj:=by
 refine okU (k:=0) T.F_zW AW (fun vs H Q E h=>by
  unfold dj at h;split at h
  ·rfl
  ·exact h.elim) (fun cdv A outer s H E B hr=>⟨_,(aq (aF (aQ aL bf rfl T.b_tuple boot_tuple (aa (bG (N2:=["name","others"]) (nt:=1) (js:=[1]) (ck (sc:=ao uc)) rfl (aP (qv 0)) (fun s0 H0 fp ps=>⟨(ax (i:=0) (show List.Nodup (["name","others"]:List Str) by decide +kernel) rfl (by eq_refl)),(bF (ay (bA hr.units) b8 (qv 0) (qv 1) (by with_unfolding_all rfl))),(qv 0)⟩)) ae)))),?_⟩)
 intro vs H Q E h;unfold dj at h;split at h
 ·rename_i l m;obtain⟨A,B,rfl,rfl,hl,h⟩:=h;ac_rfl;show ∀acc,H acc=none->_;intro acc hacc;refine aG (fun y=>y) (onI fun y=>!decide (y∈B)) (fun σ=>∃z,σ=[z,some (.tup (B.map PV.int))]) (by rw[List.length_map];exact hl) (fun _=>trivial) ?_ ?_ ⟨_,rfl⟩
  ·rintro y hy l σ R ⟨z,rfl⟩ hl kT kF;obtain⟨k,hk,rfl⟩:=List.mem_map.mp hy;have e:onI (fun y=>!decide (y∈B)) (PV.int k)=!decide (k∈B):=rfl;rw[e]at kT kF;ac_rfl;refine⟨a9,?_⟩;simp only[bE];by_cases m:k∈B
   ·exact aw (by simp[m]) (kF (by simp[m]) _ ⟨_,rfl⟩)
   ·exact aA (by simp[m]) ⟨hl,by rw[aI];exact kT (by simp[m]) _ ⟨_,rfl⟩⟩
  rw[dM];exact⟨_,ai,H,Sub.put (Sub.refl _) hacc,h⟩
 ·exact h.elim
theorem B0(T:Tx K mg t):aN P w K mg base CX0 1 t.a_zP t.d_zP ["names","others"] jH:=by
 refine okU (k:=0) T.F_zP Bt (fun vs H Q E h=>by
  unfold jH at h;split at h
  ·rfl
  ·exact h.elim) (fun cdv A outer s H E B hr=>⟨_,(aq (aF (aQ aL bf rfl T.b_tuple boot_tuple (aa (ie rfl hr.units rfl T.b_sorted rfl T.b_set boot_set (eJ (qv 0) (qv 1))) ae)))),?_⟩)
 intro vs H Q E h;unfold jH at h;split at h
 ·rename_i l m;obtain⟨c,S,V,c6,rfl,rfl,hS,hV,h⟩:=h;have s6:=hS.len c6;have v6:=hV.len c6;ac_rfl;have ng:∀y∈S++V,0≤y/\y<6:=fun y hy=>by
   rcases List.mem_append.mp hy with q | q
   ·have:=hS.lo y q;omega
   ·have:=hV.lo y q;omega
  have nc:∀y∈S++V,0≤y/\y<c:=fun y hy=>by
   rcases List.mem_append.mp hy with q | q
   ·exact hS.lo y q
   ·exact hV.lo y q
  refine⟨ah (by simp only[List.length_append,List.length_map];omega),(S++V).map Int.toNat,by rw[←List.map_append,eG ng],fun n hn=>?_,fun r ks hr up iff=>?_⟩
  ·obtain⟨z,hz,rfl⟩:=List.mem_map.mp hn;have:=ng z hz;omega
  have ek:ks.map cV=(ks.map fun n=>((n:Nat):Int)).map PV.int:=by rw[List.map_map];rfl
  rw[ek];refine⟨H,Sub.put (Sub.refl _) hr,h _ ⟨?_,fun x hx=>?_⟩ fun x=>?_⟩
  ·rw[List.pairwise_map];exact up.imp fun h=>by omega
  ·obtain⟨n,hn,rfl⟩:=List.mem_map.mp hx;obtain⟨z,hz,e⟩:=List.mem_map.mp ((iff n).mp hn);have:=nc z hz;omega
  ·rw[←List.mem_append];constructor
   ·intro hx;obtain⟨n,hn,rfl⟩:=List.mem_map.mp hx;obtain⟨z,hz,e⟩:=List.mem_map.mp ((iff n).mp hn);have:=ng z hz;have e2:((n:Nat):Int)=z:=by omega
    rw[e2];exact hz
   ·intro hx;have:=ng x hx;exact List.mem_map.mpr ⟨x.toNat,(iff _).mpr (List.mem_map.mpr ⟨x,hx,rfl⟩),by omega⟩
 ·exact h.elim
theorem Bf(T:Tx K mg t):aN P w K mg base CX0 5 t.a_zi t.d_zi ["self","names"] (eU t 1):=by
 refine okU (k:=4) T.F_zi rF (fun vs H Q E h=>by
  unfold eU at h;split at h
  ·rfl
  ·exact h.elim) (fun cdv A outer s H E B hr=>⟨_,(af (aU (bg (qv 0) T.cl_D T.m_zd (zA T) (hr.mono (by decide)) T.B_zd (aa (qv 1) ae)))
  (af (bt (i:=2) rF.nd rfl (by eq_refl) (N2:=["tie","names"]) (nt:=1) (js:=[1]) (ck (sc:=ao rL)) rfl (aP (bX (qv 0) T.cl_D T.nfD_ties rfl)) (fun s0 H0 fp ps=>⟨(ax (i:=0) (show List.Nodup (["tie","names"]:List Str) by decide +kernel) rfl (by eq_refl)),(bF (ay (bA hr.units) b8 (aJ (qv 0) aj (fun _ _=>rfl)) (qv 1) (by with_unfolding_all rfl))),(qv 0)⟩))
  (af (bt (i:=3) rF.nd rfl (by eq_refl) (N2:=["bow","names"]) (nt:=1) (js:=[1]) (ck (sc:=ao rL)) rfl (aP (bX (qv 0) T.cl_D T.nfD_bows rfl)) (fun s0 H0 fp ps=>⟨(ax (i:=0) (show List.Nodup (["bow","names"]:List Str) by decide +kernel) rfl (by eq_refl)),(bF (bx (dJ (ay (bA hr.units) b8 (aJ (qv 0) aj (fun _ _=>rfl)) (qv 1) (by with_unfolding_all rfl)) (cN (ay (bA hr.units) b8 (aJ (qv 0) aj (fun _ _=>rfl)) (qv 1) (by with_unfolding_all rfl)))))),(qv 0)⟩))
  (aq (aF (kc T.mk_D (BJ T) (hr.mono (by decide)) rfl T.g_D T.B_zu (aa (bX (qv 0) T.cl_D T.nfD_count rfl) (aa (qv 2) (aa (qv 3) ae))))))))),?_⟩)
 intro vs H Q E h;unfold eU at h;split at h
 ·rename_i x l;obtain⟨c,ts,bs,L,⟨dx,hx⟩,rfl,ok,nL,hY⟩:=h;have t15:=ok.gt.len ok.c6;have b6:=ok.b6;have ok2:=ok.filter (FT 1 L) (FB 1 L);refine ak fun R hR=>?_;ac_rfl;refine⟨⟨_,_,hx,rfl⟩,c,ts,L,⟨_,_,hx⟩,rfl,nL,?_⟩;subst hR;refine ak fun R hR=>?_;ac_rfl;refine⟨_,_,_,hx,rfl,?_⟩;show ∀acc,H acc=none->_;intro p1 hp1;refine aG (fun y=>y) (onP (FT 1 L)) (fun σ=>∃z,σ=[z,some (.tup (L.map PV.int))]) (by rw[List.length_map];omega) (fun _=>trivial) ?_ ?_ ⟨_,rfl⟩
  ·rintro y hy l σ R' ⟨z,rfl⟩ hl kT kF;obtain⟨p,hp,rfl⟩:=List.mem_map.mp hy;rw[hW]at kT kF;unfold prV at *;ac_rfl;refine⟨a9,?_⟩;simp only[bE];by_cases m:p.2∈L
   ·exact aw (by simp[m]) (kF (by simp[FT,m]) _ ⟨_,rfl⟩)
   ·exact aA (by simp[m]) ⟨hl,by rw[aI];exact kT (by simp[FT,m]) _ ⟨_,rfl⟩⟩
  rw[dk];subst hR;have s1:U.Sub H (put H p1 (.lst ((ts.filter (FT 1 L)).map prV))):=(Sub.refl H).put hp1;have i1:put H p1 (.lst ((ts.filter (FT 1 L)).map prV)) p1=some (.lst ((ts.filter (FT 1 L)).map prV)):=ai;generalize put H p1 (.lst ((ts.filter (FT 1 L)).map prV))=H1 at *;have hx1:=s1 _ _ hx;refine ak fun R hR=>?_;ac_rfl;refine⟨_,_,_,hx1,rfl,?_⟩;show ∀acc,H1 acc=none->_;intro p2 hp2;refine aG (fun y=>y) (onP (FB 1 L)) (fun σ=>∃z,σ=[z,some (.tup (L.map PV.int))]) (by rw[List.length_map];omega) (fun _=>trivial) ?_ ?_ ⟨_,rfl⟩
  ·rintro y hy l σ R' ⟨z,rfl⟩ hl kT kF;obtain⟨p,hp,rfl⟩:=List.mem_map.mp hy;rw[hW]at kT kF;unfold prV at *;ac_rfl;refine⟨a9,?_⟩;simp only[bE];by_cases m1:p.1∈L
   ·exact aw (by simp[m1]) (kF (by simp[FB,m1]) _ ⟨_,rfl⟩)
   ·refine aA (by simp[m1]) ⟨a9,?_⟩;by_cases m2:p.2∈L
    ·exact aw (by simp[m2]) (kF (by simp[FB,m1,m2]) _ ⟨_,rfl⟩)
    ·exact aA (by simp[m2]) ⟨hl,by rw[aI];exact kT (by simp[FB,m1,m2]) _ ⟨_,rfl⟩⟩
  rw[dk];subst hR;have s2:U.Sub H1 (put H1 p2 (.lst ((bs.filter (FB 1 L)).map prV))):=(Sub.refl H1).put hp2;have i2:put H1 p2 (.lst ((bs.filter (FB 1 L)).map prV)) p2=some (.lst ((bs.filter (FB 1 L)).map prV)):=ai;generalize put H1 p2 (.lst ((bs.filter (FB 1 L)).map prV))=H2 at *;have hx2:=s2 _ _ hx1;have j1:=s2 _ _ i1;have s12:=s1.trans s2;ac_rfl;refine⟨_,_,_,hx2,rfl,?_⟩;show ∀y dy,H2 y=none->H2 dy=none->dy≠y->_;intro y dy hy hdy nd;have sc:=(Sub.refl H2).put (o:=.ins t.a_D dy []) hy;refine⟨dy,_,_,_,_,ai,sc _ _ j1,sc _ _ i2,da,da,ok2.gt,ok2.gb,⟨ok.c1,ok.c6,ok2.b6⟩,fun T1 B1 pT sT pB sB=>?_⟩;have eT:=DM.eE (List.Perm.refl _) ok2.st pT sT;have eB:=DM.eE (List.Perm.refl _) ok2.sb pB sB;subst eT;subst eB;rw[aI];exact⟨rfl,_,Sub.refl _,hY y _ (s12.put (s12.free hy)) ⟨dy,ai⟩⟩
 ·exact h.elim
theorem Ef(T:Tx K mg t):aN P w K mg base CX0 5 t.a_ze t.d_ze ["self","names"] (eU t 2):=by
 refine okU (k:=4) T.F_ze wG (fun vs H Q E h=>by
  unfold eU at h;split at h
  ·rfl
  ·exact h.elim) (fun cdv A outer s H E B hr=>⟨_,(af (aU (bg (qv 0) T.cl_D T.m_zd (zA T) (hr.mono (by decide)) T.B_zd (aa (qv 1) ae)))
  (af (bt (i:=2) wG.nd rfl (by eq_refl) (N2:=["tie","names"]) (nt:=1) (js:=[1]) (ck (sc:=ao vP)) rfl (aP (bX (qv 0) T.cl_D T.nfD_ties rfl)) (fun s0 H0 fp ps=>⟨(ax (i:=0) (show List.Nodup (["tie","names"]:List Str) by decide +kernel) rfl (by eq_refl)),(bF (ay (bA hr.units) b8 (aJ (qv 0) aj (fun _ _=>rfl)) (qv 1) (by with_unfolding_all rfl))),(qv 0)⟩))
  (aq (aF (kc T.mk_D (CI T) (hr.mono (by decide)) rfl T.g_D T.B_zu (aa (bX (qv 0) T.cl_D T.nfD_count rfl) (aa (qv 2) (aa (bX (qv 0) T.cl_D T.nfD_bows rfl) ae)))))))),?_⟩)
 intro vs H Q E h;unfold eU at h;split at h
 ·rename_i x l;obtain⟨c,ts,bs,L,⟨dx,hx⟩,rfl,ok,nL,hY⟩:=h;have t15:=ok.gt.len ok.c6;have b6:=ok.b6;have ok2:=ok.filter (FT 2 L) (FB 2 L);refine ak fun R hR=>?_;ac_rfl;refine⟨⟨_,_,hx,rfl⟩,c,ts,L,⟨_,_,hx⟩,rfl,nL,?_⟩;subst hR;refine ak fun R hR=>?_;ac_rfl;refine⟨_,_,_,hx,rfl,?_⟩;show ∀acc,H acc=none->_;intro p1 hp1;refine aG (fun y=>y) (onP (FT 2 L)) (fun σ=>∃z,σ=[z,some (.tup (L.map PV.int))]) (by rw[List.length_map];omega) (fun _=>trivial) ?_ ?_ ⟨_,rfl⟩
  ·rintro y hy l σ R' ⟨z,rfl⟩ hl kT kF;obtain⟨p,hp,rfl⟩:=List.mem_map.mp hy;rw[hW]at kT kF;unfold prV at *;ac_rfl;refine⟨a9,?_⟩;simp only[bE];by_cases m:p.1∈L
   ·exact aw (by simp[m]) (kF (by simp[FT,m]) _ ⟨_,rfl⟩)
   ·exact aA (by simp[m]) ⟨hl,by rw[aI];exact kT (by simp[FT,m]) _ ⟨_,rfl⟩⟩
  rw[dk];subst hR;have s1:U.Sub H (put H p1 (.lst ((ts.filter (FT 2 L)).map prV))):=(Sub.refl H).put hp1;have i1:put H p1 (.lst ((ts.filter (FT 2 L)).map prV)) p1=some (.lst ((ts.filter (FT 2 L)).map prV)):=ai;generalize put H p1 (.lst ((ts.filter (FT 2 L)).map prV))=H1 at *;have hx1:=s1 _ _ hx;ac_rfl;refine⟨_,_,_,hx1,rfl,_,_,_,hx1,rfl,?_⟩;show ∀y dy,H1 y=none->H1 dy=none->dy≠y->_;intro y dy hy hdy nd;have s12:=s1;have sc:=(Sub.refl H1).put (o:=.ins t.a_D dy []) hy;refine⟨dy,_,_,_,ai,sc _ _ i1,rfl,da,ok2.gt,ok.gb,⟨ok.c1,ok.c6,ok.b6⟩,fun T1 B1 pT sT pB sB=>?_⟩;have eT:=DM.eE (List.Perm.refl _) ok2.st pT sT;have eB:=DM.eE (List.Perm.refl _) ok.sb pB sB;subst eT;subst eB;rw[fb2]at hY;rw[aI];exact⟨rfl,_,Sub.refl _,hY y _ (s12.put (s12.free hy)) ⟨dy,ai⟩⟩
 ·exact h.elim
theorem Cn(T:Tx K mg t):aN P w K mg base CX0 2 t.a_zS t.d_zS ["statement"] dG:=by
 refine okU (k:=1) T.F_zS Bk (fun vs H Q E h=>by
  unfold dG at h;split at h
  ·rfl
  ·exact h.elim) (fun cdv A outer s H E B hr=>⟨_,(aq (aF (aH (B0 T) (hr.mono (by decide)) rfl T.g_zP T.F_zP.kp T.B_zP (aa (aJ (qv 0) (bN (v':=.int 1) rfl T.c_SET (fun _=>by simp[RP])) (fun _ _=>rfl)) (aa (aJ (qv 0) (bN (v':=.int 2) rfl T.c_SEEN (fun _=>by simp[RP])) (fun _ _=>rfl)) ae))))),?_⟩)
 intro vs H Q E h;unfold dG at h;split at h
 ·rename_i a l m;obtain⟨c,S,V,c6,rfl,rfl,hS,hV,h⟩:=h;ac_rfl;exact⟨c,S,V,c6,rfl,rfl,hS,hV,fun G hG iff=>⟨H,Sub.refl _,h G hG iff⟩⟩
 ·exact h.elim
theorem Eu(T:Tx K mg t):aN P w K mg base CX0 6 t.a_zp t.d_zp ["drawing","number","statement","names"] (fP t):=by
 refine okU (k:=5) T.F_zp wM (fun vs H Q E h=>by
  unfold fP at h;split at h
  ·rfl
  ·exact h.elim) (fun cdv A outer s H E B hr=>⟨_,(af (aB (i:=4) wM.nd rfl (by eq_refl) (bg (qv 0) T.cl_D T.m_zi (Bf T) (hr.mono (by decide)) T.B_zi (aa (aJ (qv 2) (bN (v':=.int 1) rfl T.c_SET (fun _=>by simp[RP])) (fun _ _=>rfl)) ae)))
  (af (aW (ay (a7 hr.units) bj (qv 1) aj (aE _))
  (aq (aF (qv 4)))
  aC)
  (af (aW (ay (a7 hr.units) bj (qv 1) aj (aE _))
  (aq (aF (bg (qv 4) T.cl_D T.m_ze (Ef T) (hr.mono (by decide)) T.B_ze (aa (qv 3) ae))))
  aC)
  (aq (aF (bg (qv 4) T.cl_D T.m_zi (Bf T) (hr.mono (by decide)) T.B_zi (aa (aH (Cw T) (hr.mono (by decide)) rfl T.g_zW T.F_zW.kp T.B_zW (aa (qv 3) (aa (bg (qv 4) T.cl_D T.m_zb (yF T) (hr.mono (by decide)) T.B_zb (aa (aJ (qv 2) (bN (v':=.int 2) rfl T.c_SEEN (fun _=>by simp[RP])) (fun _ _=>rfl)) ae)) ae))) ae))))))),?_⟩)
 intro vs H Q E h;unfold fP at h;split at h
 ·rename_i x k a l m n;obtain⟨c,ts,bs,S,V,N,dr,ok,rfl,rfl,rfl,hS,hV,hN,hk,h⟩:=h;have ok1:=ok.filter (FT 1 S) (FB 1 S);refine ak fun R hR=>?_;ac_rfl;obtain⟨dx0,hx0⟩:=dr;refine⟨⟨_,_,hx0,rfl⟩,c,ts,bs,S,⟨_,hx0⟩,rfl,ok,hS,fun y H1 s1 d1=>?_⟩;obtain⟨dx1,hx1⟩:=d1;subst hR;have hk:k=1∨k=2∨k=3:=by omega
  rcases hk with rfl | rfl | rfl
  ·refine ak fun R hR=>?_;ac_rfl;exact aA rfl ⟨H1,Sub.refl _,h y H1 _ _ s1 ⟨_,hx1⟩ ok1 rd1⟩
  ·refine ak fun R hR=>?_;ac_rfl;refine aw rfl ?_;subst hR;refine ak fun R hR=>?_;ac_rfl;refine aA rfl ⟨⟨_,_,hx1,rfl⟩,c,_,_,N,⟨_,hx1⟩,rfl,ok1,hN,fun y2 H2 s2 d2=>⟨H2,Sub.refl _,h y2 H2 _ _ (s1.trans s2) (by rw[fb2]at d2;exact d2) (by have:=ok1.filter (FT 2 N) (FB 2 N);rw[fb2]at this;exact this) rd2⟩⟩
  ·refine ak fun R hR=>?_;ac_rfl;refine aw rfl ?_;subst hR;refine ak fun R hR=>?_;ac_rfl;refine aw rfl ?_;subst hR;ac_rfl;have n6:=hN.len ok.c6;refine⟨⟨_,_,hx1,rfl⟩,⟨_,_,hx1,rfl⟩,c,_,V,⟨_,_,hx1⟩,rfl,hV,⟨ok.c1,ok.c6⟩,ok1.gt,fun A up iff=>?_⟩;have hI:Nms c (N.filter fun y=>!decide (y∈A)):=⟨hN.up.sublist List.filter_sublist,fun x hx=>hN.lo x (List.mem_filter.mp hx).1⟩;refine⟨N,A,rfl,rfl,by omega,c,_,_,_,⟨_,hx1⟩,rfl,ok1,hI,fun y2 H2 s2 d2=>⟨H2,Sub.refl _,h y2 H2 _ _ (s1.trans s2) d2 (ok1.filter _ _) (rd3 ⟨up,iff⟩)⟩⟩
 ·exact h.elim
theorem Cu(T:Tx K mg t):aN P w K mg base (CXU P w) 7 t.a_yc t.d_yc ["drawing","number","statement","names"] (eI t):=by
 refine okX (k:=6) T.F_yc Bw (fun vs H Q E h=>by
  unfold eI at h;split at h
  ·rfl
  ·exact h.elim) (fun cdv A outer s H0 E0 vs H Q E hr hE h=>⟨_,(af (aU (bZ rfl br hE (x8 T) (hr.mono (by decide)) rfl T.g_zI T.F_zI.kp T.B_zI (aa (qv 0) (aa (eJ (qv 2) (aO (aa (qv 3) ae))) ae))))
  (af (aW (ay (uP T.o_W) uQ (qv 1) (bN (v':=.ref t.a_W) rfl T.c_W (fun _=>by simp[RP])) (by with_unfolding_all rfl))
  (aq (dU rfl br hE rfl T.x_O rfl T.g_O))
  aC)
  (af (aU (bZ rfl br hE (zq T) (hr.mono (by decide)) rfl T.g_zD T.F_zD.kp T.B_zD (aa (eJ (qv 2) (aO (aa (qv 3) ae))) ae)))
  (aq (aF (bZ rfl br hE (Dh T) (hr.mono (by decide)) rfl T.g_zY T.F_zY.kp T.B_zY (aa (aH (Eu T) (hr.mono (by decide)) rfl T.g_zp T.F_zp.kp T.B_zp (aa (qv 0) (aa (qv 1) (aa (qv 2) (aa (qv 3) ae))))) (aa (aJ (qv 2) (bN (v':=.int 0) rfl T.c_ASKED (fun _=>by simp[RP])) (fun _ _=>rfl)) (aa (qv 3) (aa (aH (Cn T) (hr.mono (by decide)) rfl T.g_zS T.F_zS.kp T.B_zS (aa (qv 2) ae)) ae)))))))))),?_⟩)
 unfold eI at h;split at h
 ·rename_i x k o l m n;obtain⟨c,ts,bs,A,S,V,N,dr,ok,rfl,rfl,rfl,rfl,hY,hN1,hN2,hN3⟩:=h;have all4:(∀L∈[A,S,V,N],Nms c L)↔N4 c A N S V:=by simp[N4]
  refine ak fun R hR=>?_;ac_rfl;refine⟨ah (by decide),ah (by decide),c,ts,bs,[A,S,V,N],dr,rfl,fun n4=>?_,fun n4=>hN1 (fun z=>n4 (all4.mpr z)) _ (Sub.refl _)⟩;have n4':=all4.mp n4;subst hR;refine ak fun R hR=>?_;ac_rfl;have hm:k∈[(1:Int),2,3]↔1≤k/\k≤3:=by
   simp only[List.mem_cons,List.not_mem_nil,or_false];omega
  by_cases hk:¬(1≤k/\k≤3)
  ·exact aA (by rw[decide_eq_false (fun z=>hk (hm.mp z))];rfl) (hN2 n4' hk _ (Sub.refl _))
  have hk:=Classical.not_not.mp hk;refine aw (by rw[decide_eq_true (hm.mpr hk)];rfl) ?_;subst hR;refine ak fun R hR=>?_;ac_rfl;refine⟨ah (by decide),ah (by decide),c,[A,S,V,N],rfl,n4,ok.c6,by simp,fun nd=>?_,fun nd H1 s1=>hN3 n4' hk (fun st=>nd st.nd) _ s1⟩;subst hR;ac_rfl;refine⟨c,ts,bs,S,V,N,dr,ok,rfl,rfl,rfl,n4'.2.1,n4'.2.2.1,n4'.2.2.2,hk,fun y H1 us cs s1 d1 ok1 rd=>?_⟩
  try ac_rfl
  refine⟨c,S,V,ok.c6,rfl,rfl,n4'.2.1,n4'.2.2.1,fun G hG iff=>?_⟩
  try ac_rfl
  have nst:¬Ap c A N G->¬Stm c A S V N:=fun na st=>na (st.ap hG iff);refine⟨c,us,cs,A,N,G,d1,ok1,rfl,rfl,rfl,fun ap v H2 s2=>⟨H2,Sub.refl _,hY ⟨n4'.1,n4'.2.1,n4'.2.2.1,n4'.2.2.2,nd,ap.na,ap.nb⟩ hk v H2 (s1.trans s2)⟩,fun n3=>absurd ⟨n4'.1,n4'.2.2.2,hG⟩ n3,fun n3 nap H2 s2=>hN3 n4' hk (nst nap) _ (s1.trans s2)⟩
 ·exact h.elim
theorem D7(T:Tx K mg t):aN P w K mg base (CXU P w) 4 t.a_zh t.d_zh ["drawing","statement"] (dz t):=by
 refine okX (k:=3) T.F_zh Bx (fun vs H Q E h=>by
  unfold dz at h;split at h
  ·rfl
  ·exact h.elim) (fun cdv A outer s H0 E0 vs H Q E hr hE h=>⟨_,(af (aU (bZ rfl br hE (x8 T) (hr.mono (by decide)) rfl T.g_zI T.F_zI.kp T.B_zI (aa (qv 0) (aa (qv 1) ae))))
  (af (aU (bZ rfl br hE (zq T) (hr.mono (by decide)) rfl T.g_zD T.F_zD.kp T.B_zD (aa (qv 1) ae)))
  (aq (aW (ay (a7 hr.units) bj (aS aM bK rfl T.b_len PySem.boot_len (aa (aJ (qv 1) (bN (v':=.int 0) rfl T.c_ASKED (fun _=>by simp[RP])) (fun _ _=>rfl)) ae)) aj (aE _))
  (aq (dU rfl br hE rfl T.x_P rfl T.g_P))
  aC)))),?_⟩)
 unfold dz at h;split at h
 ·rename_i x o l m;obtain⟨c,ts,bs,A,S,V,dr,c6,rfl,rfl,rfl,hY,hN1,hN2⟩:=h;have all3:(∀L∈[A,S,V],Nms c L)↔N3 c A S V:=by simp[N3]
  refine ak fun R hR=>?_;ac_rfl;refine⟨c,ts,bs,[A,S,V],dr,rfl,fun n3=>?_,fun n3=>hN1 (fun z=>n3 (all3.mpr z)) _ (Sub.refl _)⟩;have n3':=all3.mp n3;subst hR;refine ak fun R hR=>?_;ac_rfl;refine⟨c,[A,S,V],rfl,n3,c6,by simp,fun nd=>?_,fun nd H1 s1=>hN2 n3' (fun gd=>nd gd.1) _ s1⟩;subst hR;ac_rfl;by_cases na:A=[]
  ·exact aA (by rw[na];rfl) (hN2 n3' (fun gd=>gd.2 na) _ (Sub.refl _))
  exact aw (by rw[List.length_map];simpa using na) ⟨H,Sub.refl _,hY n3' ⟨nd,na⟩⟩
 ·exact h.elim
theorem Cb(T:Tx K mg t):aN P w K mg base (CXU P w) 5 t.a_ya t.d_ya ["drawing","statement","chain"] (fM t):=by
 refine okX (k:=4) T.F_ya nF (fun vs H Q E h=>by
  unfold fM at h;split at h
  ·rfl
  ·exact h.elim) (fun cdv A outer s H0 E0 vs H Q E hr hE h=>⟨_,(af (aU (bZ rfl br hE (D7 T) (hr.mono (by decide)) rfl T.g_zh T.F_zh.kp T.B_zh (aa (qv 0) (aa (qv 1) ae))))
  (af (aB (i:=3) nF.nd rfl (by eq_refl) (qv 1))
  (af (vA (sO rfl) rfl (xP rfl T.b_enumerate (aa (qv 2) ae)) (mE (n:=2) rfl (cZ (ax (i:=4) nF.nd rfl (by eq_refl)) (cZ (ax (i:=5) nF.nd rfl (by eq_refl)) jE)))
  bB)
  (aq (aF (qv 3)))))),?_⟩)
 unfold fM at h;split at h
 ·rename_i x o l m a;obtain⟨c,ts,bs,A,S,V,dr,c6,rfl,rfl,rfl,ha,hY,hN1,hN2⟩:=h;refine ak fun R hR=>?_;ac_rfl;refine⟨c,ts,bs,A,S,V,dr,c6,rfl,rfl,rfl,fun n3 gd=>?_,hN1,hN2⟩;subst hR;refine ak fun R hR=>?_;ac_rfl;subst hR;refine ak fun R hR=>?_;ac_rfl;refine⟨[],ha,?_⟩;show _/\_;refine⟨ha,?_⟩;subst hR;ac_rfl;exact⟨H,Sub.refl _,hY n3 gd _⟩
 ·exact h.elim
theorem CP(T:Tx K mg t):aN P w K mg base CX0 1 t.a_zN t.d_zN ["_law_e"] (fg t):=by
 refine okU (k:=0) T.F_zN wD (fun vs H Q E h=>by
  unfold fg at h;split at h
  ·rfl
  ·exact h.elim) (fun cdv A outer s H E B hr=>⟨_,(af (aB (i:=1) wD.nd rfl (by eq_refl) (aY (aa (aO (aa aX (aa (bz T.g_J rfl rfl T.b_isinstance (qv 0)) ae))) (aa (aO (aa aX (aa (bz T.g_G rfl rfl T.b_isinstance (qv 0)) ae))) (aa (aO (aa aX (aa (bz T.g_T rfl rfl T.b_isinstance (qv 0)) ae))) (aa (aO (aa aX (aa (bz T.g_F rfl rfl T.b_isinstance (qv 0)) ae))) (aa (aO (aa aX (aa (bz T.g_K rfl rfl T.b_isinstance (qv 0)) ae))) (aa (aO (aa aX (aa (bz T.g_P rfl rfl T.b_isinstance (qv 0)) ae))) (aa (aO (aa aX (aa (bz T.g_V rfl rfl T.b_isinstance (qv 0)) ae))) (aa (aO (aa aX (aa (bz T.g_U rfl rfl T.b_isinstance (qv 0)) ae))) (aa (aO (aa aX (aa (bz T.g_Q rfl rfl T.b_isinstance (qv 0)) ae))) (aa (aO (aa aX (aa (bz T.g_N rfl rfl T.b_isinstance (qv 0)) ae))) (aa (aO (aa aX (aa (bz T.g_O rfl rfl T.b_isinstance (qv 0)) ae))) (aa (aO (aa aX (aa (bz T.g_A rfl rfl T.b_isinstance (qv 0)) ae))) (aa (aO (aa aX (aa (bz T.g_L rfl rfl T.b_isinstance (qv 0)) ae))) (aa (aO (aa aX (aa (bz T.g_H rfl rfl T.b_isinstance (qv 0)) ae))) (aa (aO (aa aX (aa (bz T.g_S rfl rfl T.b_isinstance (qv 0)) ae))) (aa (aO (aa aX (aa (bz T.g_E rfl rfl T.b_isinstance (qv 0)) ae))) (aa (aO (aa aX (aa (bz T.g_M rfl rfl T.b_isinstance (qv 0)) ae))) (aa (aO (aa aX (aa (bz T.g_I rfl rfl T.b_isinstance (qv 0)) ae))) (aa (aO (aa aX (aa (bz T.g_B rfl rfl T.b_isinstance (qv 0)) ae))) (aa (aO (aa aX (aa (bz T.g_R rfl rfl T.b_isinstance (qv 0)) ae))) (aa (aO (aa aX (aa (xp (u9 T.b_ValueError gP rfl rfl T.b_isinstance (qv 0))) ae))) ae)))))))))))))))))))))))
  (aq (aF (bG (N2:=["_law_kind","_law_truth"]) (nt:=2) (js:=[]) (ck (sc:=ao vL)) rfl (aP (qv 1)) (fun s0 H0 fp ps=>⟨(mE (n:=2) rfl (cZ (ax (i:=0) (show List.Nodup (["_law_kind","_law_truth"]:List Str) by decide +kernel) rfl (by eq_refl)) (cZ (ax (i:=1) (show List.Nodup (["_law_kind","_law_truth"]:List Str) by decide +kernel) rfl (by eq_refl)) jE))),(bF (bW (qv 1))),(qv 0)⟩))))),?_⟩)
 intro vs H Q E h;unfold fg at h;split at h
 ·rename_i a;obtain⟨C,nm,ha,hk,h⟩:=h;rcases hk with⟨rfl,rfl⟩ |⟨rfl,rfl⟩ |⟨rfl,rfl⟩
  ·
   refine rm (l:=[("NoFraction",aV K (.ref t.a_J) (aR 0)),("NoCount",aV K (.ref t.a_G) (aR 0)),("NoTie",aV K (.ref t.a_T) (aR 0)),("NoBow",aV K (.ref t.a_F) (aR 0)),("NoName",aV K (.ref t.a_K) (aR 0)),("NoSets",aV K (.ref t.a_P) (aR 0)),("NoWorld",aV K (.ref t.a_V) (aR 0)),("NoValue",aV K (.ref t.a_U) (aR 0)),("NoShare",aV K (.ref t.a_Q) (aR 0)),("NoRoad",aV K (.ref t.a_N) (aR 0)),("NoRule",aV K (.ref t.a_O) (aR 0)),("BadPaper",aV K (.ref t.a_A) (aR 0)),("NoNest",aV K (.ref t.a_L) (aR 0)),("NoDoor",aV K (.ref t.a_H) (aR 0)),("NoThinning",aV K (.ref t.a_S) (aR 0)),("NoAnswer",aV K (.ref t.a_E) (aR 0)),("NoQuestion",aV K (.ref t.a_M) (aR 0)),("NoFormula",aV K (.ref t.a_I) (aR 0)),("BadStep",aV K (.ref t.a_B) (aR 0)),("NoText",aV K (.ref t.a_R) (aR 0)),("other",ji (aV K (.type "ValueError") (aR 0)))]) (bs:=[false,false,false,false,true,false,false,false,false,false,false,false,false,false,false,false,false,false,false,false,!true]) (xs:=[("NoFraction",false),("NoCount",false),("NoTie",false),("NoBow",false),("NoName",true),("NoSets",false),("NoWorld",false),("NoValue",false),("NoShare",false),("NoRoad",false),("NoRule",false),("BadPaper",false),("NoNest",false),("NoDoor",false),("NoThinning",false),("NoAnswer",false),("NoQuestion",false),("NoFormula",false),("BadStep",false),("NoText",false),("other",false)]) (Nat.le_of_ble_eq_true rfl) rfl ⟨av ha T.x_K T.kKJ,⟨av ha T.x_K T.kKG,⟨av ha T.x_K T.kKT,⟨av ha T.x_K T.kKF,⟨av ha T.x_K T.kKK,⟨av ha T.x_K T.kKP,⟨av ha T.x_K T.kKV,⟨av ha T.x_K T.kKU,⟨av ha T.x_K T.kKQ,⟨av ha T.x_K T.kKN,⟨av ha T.x_K T.kKO,⟨av ha T.x_K T.kKA,⟨av ha T.x_K T.kKL,⟨av ha T.x_K T.kKH,⟨av ha T.x_K T.kKS,⟨av ha T.x_K T.kKE,⟨av ha T.x_K T.kKM,⟨av ha T.x_K T.kKI,⟨av ha T.x_K T.kKB,⟨av ha T.x_K T.kKR,⟨kg (av ha T.x_K T.kK_),trivial⟩⟩⟩⟩⟩⟩⟩⟩⟩⟩⟩⟩⟩⟩⟩⟩⟩⟩⟩⟩⟩ fun q hq=>?_;ac_rfl;exact rh (xs:=[("NoFraction",false),("NoCount",false),("NoTie",false),("NoBow",false),("NoName",true),("NoSets",false),("NoWorld",false),("NoValue",false),("NoShare",false),("NoRoad",false),("NoRule",false),("BadPaper",false),("NoNest",false),("NoDoor",false),("NoThinning",false),("NoAnswer",false),("NoQuestion",false),("NoFormula",false),("BadStep",false),("NoText",false),("other",false)]) (nm:="NoName") rfl (Nat.le_of_ble_eq_true rfl) h q hq
  ·
   refine rm (l:=[("NoFraction",aV K (.ref t.a_J) (aR 0)),("NoCount",aV K (.ref t.a_G) (aR 0)),("NoTie",aV K (.ref t.a_T) (aR 0)),("NoBow",aV K (.ref t.a_F) (aR 0)),("NoName",aV K (.ref t.a_K) (aR 0)),("NoSets",aV K (.ref t.a_P) (aR 0)),("NoWorld",aV K (.ref t.a_V) (aR 0)),("NoValue",aV K (.ref t.a_U) (aR 0)),("NoShare",aV K (.ref t.a_Q) (aR 0)),("NoRoad",aV K (.ref t.a_N) (aR 0)),("NoRule",aV K (.ref t.a_O) (aR 0)),("BadPaper",aV K (.ref t.a_A) (aR 0)),("NoNest",aV K (.ref t.a_L) (aR 0)),("NoDoor",aV K (.ref t.a_H) (aR 0)),("NoThinning",aV K (.ref t.a_S) (aR 0)),("NoAnswer",aV K (.ref t.a_E) (aR 0)),("NoQuestion",aV K (.ref t.a_M) (aR 0)),("NoFormula",aV K (.ref t.a_I) (aR 0)),("BadStep",aV K (.ref t.a_B) (aR 0)),("NoText",aV K (.ref t.a_R) (aR 0)),("other",ji (aV K (.type "ValueError") (aR 0)))]) (bs:=[false,false,false,false,false,true,false,false,false,false,false,false,false,false,false,false,false,false,false,false,!true]) (xs:=[("NoFraction",false),("NoCount",false),("NoTie",false),("NoBow",false),("NoName",false),("NoSets",true),("NoWorld",false),("NoValue",false),("NoShare",false),("NoRoad",false),("NoRule",false),("BadPaper",false),("NoNest",false),("NoDoor",false),("NoThinning",false),("NoAnswer",false),("NoQuestion",false),("NoFormula",false),("BadStep",false),("NoText",false),("other",false)]) (Nat.le_of_ble_eq_true rfl) rfl ⟨av ha T.x_P T.kPJ,⟨av ha T.x_P T.kPG,⟨av ha T.x_P T.kPT,⟨av ha T.x_P T.kPF,⟨av ha T.x_P T.kPK,⟨av ha T.x_P T.kPP,⟨av ha T.x_P T.kPV,⟨av ha T.x_P T.kPU,⟨av ha T.x_P T.kPQ,⟨av ha T.x_P T.kPN,⟨av ha T.x_P T.kPO,⟨av ha T.x_P T.kPA,⟨av ha T.x_P T.kPL,⟨av ha T.x_P T.kPH,⟨av ha T.x_P T.kPS,⟨av ha T.x_P T.kPE,⟨av ha T.x_P T.kPM,⟨av ha T.x_P T.kPI,⟨av ha T.x_P T.kPB,⟨av ha T.x_P T.kPR,⟨kg (av ha T.x_P T.kP_),trivial⟩⟩⟩⟩⟩⟩⟩⟩⟩⟩⟩⟩⟩⟩⟩⟩⟩⟩⟩⟩⟩ fun q hq=>?_;ac_rfl;exact rh (xs:=[("NoFraction",false),("NoCount",false),("NoTie",false),("NoBow",false),("NoName",false),("NoSets",true),("NoWorld",false),("NoValue",false),("NoShare",false),("NoRoad",false),("NoRule",false),("BadPaper",false),("NoNest",false),("NoDoor",false),("NoThinning",false),("NoAnswer",false),("NoQuestion",false),("NoFormula",false),("BadStep",false),("NoText",false),("other",false)]) (nm:="NoSets") rfl (Nat.le_of_ble_eq_true rfl) h q hq
  ·
   refine rm (l:=[("NoFraction",aV K (.ref t.a_J) (aR 0)),("NoCount",aV K (.ref t.a_G) (aR 0)),("NoTie",aV K (.ref t.a_T) (aR 0)),("NoBow",aV K (.ref t.a_F) (aR 0)),("NoName",aV K (.ref t.a_K) (aR 0)),("NoSets",aV K (.ref t.a_P) (aR 0)),("NoWorld",aV K (.ref t.a_V) (aR 0)),("NoValue",aV K (.ref t.a_U) (aR 0)),("NoShare",aV K (.ref t.a_Q) (aR 0)),("NoRoad",aV K (.ref t.a_N) (aR 0)),("NoRule",aV K (.ref t.a_O) (aR 0)),("BadPaper",aV K (.ref t.a_A) (aR 0)),("NoNest",aV K (.ref t.a_L) (aR 0)),("NoDoor",aV K (.ref t.a_H) (aR 0)),("NoThinning",aV K (.ref t.a_S) (aR 0)),("NoAnswer",aV K (.ref t.a_E) (aR 0)),("NoQuestion",aV K (.ref t.a_M) (aR 0)),("NoFormula",aV K (.ref t.a_I) (aR 0)),("BadStep",aV K (.ref t.a_B) (aR 0)),("NoText",aV K (.ref t.a_R) (aR 0)),("other",ji (aV K (.type "ValueError") (aR 0)))]) (bs:=[false,false,false,false,false,false,false,false,false,false,true,false,false,false,false,false,false,false,false,false,!true]) (xs:=[("NoFraction",false),("NoCount",false),("NoTie",false),("NoBow",false),("NoName",false),("NoSets",false),("NoWorld",false),("NoValue",false),("NoShare",false),("NoRoad",false),("NoRule",true),("BadPaper",false),("NoNest",false),("NoDoor",false),("NoThinning",false),("NoAnswer",false),("NoQuestion",false),("NoFormula",false),("BadStep",false),("NoText",false),("other",false)]) (Nat.le_of_ble_eq_true rfl) rfl ⟨av ha T.x_O T.kOJ,⟨av ha T.x_O T.kOG,⟨av ha T.x_O T.kOT,⟨av ha T.x_O T.kOF,⟨av ha T.x_O T.kOK,⟨av ha T.x_O T.kOP,⟨av ha T.x_O T.kOV,⟨av ha T.x_O T.kOU,⟨av ha T.x_O T.kOQ,⟨av ha T.x_O T.kON,⟨av ha T.x_O T.kOO,⟨av ha T.x_O T.kOA,⟨av ha T.x_O T.kOL,⟨av ha T.x_O T.kOH,⟨av ha T.x_O T.kOS,⟨av ha T.x_O T.kOE,⟨av ha T.x_O T.kOM,⟨av ha T.x_O T.kOI,⟨av ha T.x_O T.kOB,⟨av ha T.x_O T.kOR,⟨kg (av ha T.x_O T.kO_),trivial⟩⟩⟩⟩⟩⟩⟩⟩⟩⟩⟩⟩⟩⟩⟩⟩⟩⟩⟩⟩⟩ fun q hq=>?_;ac_rfl;exact rh (xs:=[("NoFraction",false),("NoCount",false),("NoTie",false),("NoBow",false),("NoName",false),("NoSets",false),("NoWorld",false),("NoValue",false),("NoShare",false),("NoRoad",false),("NoRule",true),("BadPaper",false),("NoNest",false),("NoDoor",false),("NoThinning",false),("NoAnswer",false),("NoQuestion",false),("NoFormula",false),("BadStep",false),("NoText",false),("other",false)]) (nm:="NoRule") rfl (Nat.le_of_ble_eq_true rfl) h q hq
 ·exact h.elim
theorem Df(T:Tx K mg t):aN P w K mg base CX0 1 t.a_zA t.d_zA ["_law_names","_law_many"] eD:=by
 refine okU (k:=0) T.F_zA wZ (fun vs H Q E h=>by
  unfold eD at h;split at h
  ·rfl
  ·exact h.elim) (fun cdv A outer s H E B hr=>⟨_,(af (bU PassesOwn.never rfl (eK rfl T.b_range (aa (aS aM bK rfl T.b_len PySem.boot_len (aa (qv 0) ae)) ae)) (ax (i:=2) wZ.nd rfl (by eq_refl))
  (aq (aW (bx (eS (ay fq fb (aJ (qv 0) (qv 2) (fun _ _=>rfl)) aj (aE _)) (eS (ay oE nY (aJ (qv 0) (qv 2) (fun _ _=>rfl)) (qv 1) (aE _)) (dP (bx (dJ (ay gE gz (qv 2) aj (aE _)) (cN (ay oE nY (aJ (qv 0) (jR (qv 2) aj) (fun _ _=>rfl)) (aJ (qv 0) (qv 2) (fun _ _=>rfl)) (aE _)))))))))
   (aq (aF dH))
   aC)))
  (aq (aF dH))),?_⟩)
 intro vs H Q E h;unfold eD at h;split at h
 ·rename_i l c;obtain⟨L,rfl,hl,h⟩:=h;ac_rfl;refine⟨⟨by rw[List.length_map];omega,by rw[List.length_map];omega⟩,?_⟩;rw[List.length_map,Int.toNat_natCast];refine fS (fun i σ H2=>∃z,σ=[some (.tup (L.map PV.int)),some (.int c),z]/\H2=H/\Nms c (L.take i)) ?_ ?_ ⟨none,rfl,rfl,by simp,fun x hx=>(by simp at hx)⟩
  ·rintro σ H2 ⟨z,rfl,rfl,hn⟩;rw[List.take_length]at hn;refine⟨trivial,?_⟩;ac_rfl;exact⟨H2,Sub.refl _,h true ⟨fun _=>hn,fun _=>rfl⟩⟩
  ·rintro N i σ H2 hi ⟨z,rfl,rfl,hn⟩ kk;refine⟨trivial,?_⟩;have a1:atI (L.map PV.int) ((i:Nat):Int)=some (.int L[i]):=by rw[gr (by rw[List.length_map];omega),List.getElem_map]
   have hm:L[i]∈L:=List.getElem_mem hi;have bad:¬Nms c L->∃H3,U.Sub H3 H2/\Q (.bl false) H3:=fun q=>⟨H2,Sub.refl _,h false ⟨fun z=>(by cases z),fun z=>absurd z q⟩⟩;have ek:L.take (i+1)=L.take i++[L[i]]:=by rw[List.take_succ,List.getElem?_eq_getElem hi];rfl
   ac_rfl;rw[a1];ac_rfl;by_cases c0:L[i]<0
   ·exact aA (by simpa using c0) (bad fun n=>by have:=n.lo _ hm;omega)
   refine aw (by simpa using c0) ?_
   try rw[a1]
   try ac_rfl
   by_cases c1:L[i]≥c
   ·exact aA (by simpa using c1) (bad fun n=>by have:=n.lo _ hm;omega)
   refine aw (by simpa using c1) ?_;have ok:(∀x∈L.take i,x<L[i])->N [some (.tup (L.map PV.int)),some (.int c),some (.int (i:Nat))] H2:=fun q=>kk _ _ ⟨_,rfl,rfl,by
    rw[ek];refine⟨List.pairwise_append.mpr ⟨hn.up,List.pairwise_singleton _ _,fun x hx y hy=>?_⟩,fun x hx=>?_⟩
    ·rw[List.mem_singleton.mp hy];exact q x hx
    ·rcases List.mem_append.mp hx with z | z
     ·exact hn.lo x z
     ·rw[List.mem_singleton.mp z];omega⟩
   cases i with
   | zero=>exact aw (by simp) (ok fun x hx=>(by simp at hx))
   | succ i =>
    refine aA (by simp) ?_;have a2:atI (L.map PV.int) (((i+1:Nat):Int) - 1)=some (.int L[i]):=by
     rw[show((i+1:Nat):Int) - 1=((i:Nat):Int) by omega,gr (by rw[List.length_map];omega),List.getElem_map]
    try rw[a2]
    try ac_rfl
    try rw[a1]
    try ac_rfl
    by_cases c2:L[i]≥L[i+1]
    ·refine aA (by simpa using c2) (bad fun n=>?_);have:=List.pairwise_iff_getElem.mp n.up i (i+1) (by omega) hi (by omega);omega
    refine aw (by simpa using c2) (ok fun x hx=>?_);have e2:L.take (i+1)=L.take i++[L[i]]:=by rw[List.take_succ,List.getElem?_eq_getElem (by omega)];rfl
    have up:=hn.up;rw[e2]at hx up;rcases List.mem_append.mp hx with z | z
    ·have:=(List.pairwise_append.mp up).2.2 x z L[i] (by simp);omega
    ·rw[List.mem_singleton.mp z];omega
 ·exact h.elim
theorem Er(T:Tx K mg t):aN P w K mg base CX0 8 t.a_zH t.d_zH ["_law_kind","_law_drawing","_law_number","_law_sets"] (d6 t):=by
 refine okU (k:=7) T.F_zH qK (fun vs H Q E h=>by
  unfold d6 at h;split at h
  ·rfl
  ·exact h.elim) (fun cdv A outer s H E B hr=>⟨_,(af (aB (i:=4) qK.nd rfl (by eq_refl) tH)
  (af (xj (i:=5) (j:=4) ⟨rfl,rfl,rfl⟩ qK.nd rfl rfl rfl rfl T.x_C rfl T.g_C
  (jK (AA (ay (a7 hr.units) bj (qv 0) aj (aE _))
   (jK (nU (oh ⟨rfl,rfl,rfl⟩ (Cu T) (hr.mono (by decide)) rfl T.g_yc T.F_yc.kp T.B_yc (aa (qv 1) (aa (qv 2) (aa (aO (aa (aJ (qv 3) aj (fun _ _=>rfl)) (aa (aJ (qv 3) aj (fun _ _=>rfl)) (aa (aJ (qv 3) aj (fun _ _=>rfl)) ae)))) (aa (aJ (qv 3) aj (fun _ _=>rfl)) ae)))))))
   (jK (nU (oh ⟨rfl,rfl,rfl⟩ (Cb T) (hr.mono (by decide)) rfl T.g_ya T.F_ya.kp T.B_ya (aa (qv 1) (aa (aO (aa (aJ (qv 3) aj (fun _ _=>rfl)) (aa (aJ (qv 3) aj (fun _ _=>rfl)) (aa (aJ (qv 3) aj (fun _ _=>rfl)) ae)))) (aa (aY ae) ae)))))))))
  (af (aW (ay xf yr (qv 4) tH (aE _))
  (aq (aF (aY ae)))
  aC)
  (aq (aF (aH (CP T) (hr.mono (by decide)) rfl T.g_zN T.F_zN.kp T.B_zN (aa (qv 4) ae))))))),?_⟩)
 intro vs H Q E h;unfold d6 at h;split at h
 ·rename_i d x k a;obtain⟨c,ts,bs,A,N,S,V,hd,dr,ok,ha,h⟩:=h;unfold tupI at ha;refine ak fun R hR=>?_;ac_rfl;subst hR;refine ak fun R hR=>?_;have s0:=Sub.refl H;rcases hd with rfl | rfl
  ·ac_rfl
   repeat (first | refine aw rfl ?_ | refine aA rfl ?_)
   refine⟨_,ha,?_⟩;rw[ja];ac_rfl;refine⟨_,ha,?_⟩;rw[nB];ac_rfl;refine⟨_,ha,?_⟩;rw[nD]
   try ac_rfl
   refine⟨ah (by decide),?_⟩;refine⟨_,ha,?_⟩;rw[tm];ac_rfl;refine⟨c,ts,bs,A,S,V,N,dr,ok,rfl,rfl,rfl,rfl,fun st hk v H8 s8=>?_,fun n4 H8 s8=>?_,fun n4 hk H8 s8=>?_,fun n4 hk st H8 s8=>?_⟩
   ·
    subst hR;refine ak fun R hR=>?_;ac_rfl;refine⟨ah (by decide),fun r hr=>?_⟩;exact⟨_,Sub.refl _,h r _ (s8.put (s8.free hr)) (by rw[d0d hk st,ai];rfl)⟩
   ·
    refine⟨_,rfl,⟨T.x_K,T.s_K⟩,fun e he=>?_⟩;have s9:=s8.put (o:=.exc t.a_K) (s8.free he);have e9:put H8 e (.exc t.a_K) e=some (.exc t.a_K):=ai;generalize put H8 e (.exc t.a_K)=H9 at *;subst hR;refine ak fun R hR=>?_;ac_rfl;subst hR;ac_rfl;exact⟨_,"NoName",e9,.inl ⟨rfl,rfl⟩,fun r H1 s1 er=>⟨H1,Sub.refl _,h r H1 (s9.trans s1) (by rw[d0a n4];exact er)⟩⟩
   ·
    refine⟨_,rfl,⟨T.x_O,T.s_O⟩,fun e he=>?_⟩;have s9:=s8.put (o:=.exc t.a_O) (s8.free he);have e9:put H8 e (.exc t.a_O) e=some (.exc t.a_O):=ai;generalize put H8 e (.exc t.a_O)=H9 at *;subst hR;refine ak fun R hR=>?_;ac_rfl;subst hR;ac_rfl;exact⟨_,"NoRule",e9,.inr (.inr ⟨rfl,rfl⟩),fun r H1 s1 er=>⟨H1,Sub.refl _,h r H1 (s9.trans s1) (by rw[d0b n4 hk];exact er)⟩⟩
   ·
    refine⟨_,rfl,⟨T.x_P,T.s_P⟩,fun e he=>?_⟩;have s9:=s8.put (o:=.exc t.a_P) (s8.free he);have e9:put H8 e (.exc t.a_P) e=some (.exc t.a_P):=ai;generalize put H8 e (.exc t.a_P)=H9 at *;subst hR;refine ak fun R hR=>?_;ac_rfl;subst hR;ac_rfl;exact⟨_,"NoSets",e9,.inr (.inl ⟨rfl,rfl⟩),fun r H1 s1 er=>⟨H1,Sub.refl _,h r H1 (s9.trans s1) (by rw[d0c n4 hk st];exact er)⟩⟩
  ·ac_rfl
   repeat (first | refine aw rfl ?_ | refine aA rfl ?_)
   refine⟨_,ha,?_⟩;rw[ja];ac_rfl;refine⟨_,ha,?_⟩;rw[nB];ac_rfl;refine⟨_,ha,?_⟩;rw[nD]
   try ac_rfl
   refine⟨ah (by decide),ah (by decide),fun p hp=>?_⟩;have s1:=s0.put (o:=.lst []) hp;have e1:put H p (.lst []) p=some (.lst []):=ai;generalize put H p (.lst [])=H8 at *;refine⟨c,ts,bs,A,S,V,dr.up s1,ok.c6,rfl,rfl,rfl,fun n3 gd v=>?_,fun n3 H8 s8=>?_,fun n3 gd H8 s8=>?_⟩
   ·have s8:=s1;subst hR;refine ak fun R hR=>?_;ac_rfl;refine⟨ah (by decide),fun r hr=>?_⟩;exact⟨_,Sub.refl _,h r _ (s8.put (s8.free hr)) (by rw[d1c n3 gd,ai];rfl)⟩
   ·have s8:=s1.trans s8;refine⟨_,rfl,⟨T.x_K,T.s_K⟩,fun e he=>?_⟩;have s9:=s8.put (o:=.exc t.a_K) (s8.free he);have e9:put H8 e (.exc t.a_K) e=some (.exc t.a_K):=ai;generalize put H8 e (.exc t.a_K)=H9 at *;subst hR;refine ak fun R hR=>?_;ac_rfl;subst hR;ac_rfl;exact⟨_,"NoName",e9,.inl ⟨rfl,rfl⟩,fun r H1 s1 er=>⟨H1,Sub.refl _,h r H1 (s9.trans s1) (by rw[d1a n3];exact er)⟩⟩
   ·have s8:=s1.trans s8;refine⟨_,rfl,⟨T.x_P,T.s_P⟩,fun e he=>?_⟩;have s9:=s8.put (o:=.exc t.a_P) (s8.free he);have e9:put H8 e (.exc t.a_P) e=some (.exc t.a_P):=ai;generalize put H8 e (.exc t.a_P)=H9 at *;subst hR;refine ak fun R hR=>?_;ac_rfl;subst hR;ac_rfl;exact⟨_,"NoSets",e9,.inr (.inl ⟨rfl,rfl⟩),fun r H1 s1 er=>⟨H1,Sub.refl _,h r H1 (s9.trans s1) (by rw[d1b n3 gd];exact er)⟩⟩
 ·exact h.elim
theorem Dp(T:Tx K mg t):aN P w K mg base CX0 1 t.a_zQ t.d_zQ ["_law_sets","_law_cell","_law_many"] fy:=by
 refine okU (k:=0) T.F_zQ eP (fun vs H Q E h=>by
  unfold fy at h;split at h
  ·rfl
  ·exact h.elim) (fun cdv A outer s H E B hr=>⟨_,(af (aB (i:=3) eP.nd rfl (by eq_refl) (bC (qv 1) aj))
  (af (aB (i:=4) eP.nd rfl (by eq_refl) (bC (cw (qv 1) aj) aj))
  (af (aB (i:=5) eP.nd rfl (by eq_refl) (aJ (qv 0) (qv 4) (fun _ _=>rfl)))
  (af (aW (ay (a7 hr.units) bj (qv 3) aj (aE _))
  (aq (aB (i:=5) eP.nd rfl (by eq_refl) (aJ (qv 0) (bC (b7 (qv 4) aj) aj) (fun _ _=>rfl))))
  aC)
  (af (aW (ay (a7 hr.units) bj (qv 3) aj (aE _))
  (aq (aB (i:=5) eP.nd rfl (by eq_refl) (aO ae)))
  aC)
  (af (aW (ay (a7 hr.units) bj (qv 3) aj (aE _))
  (aq (aB (i:=5) eP.nd rfl (by eq_refl) (eJ (qv 5) (pV (qv 5) (d7 (bY aj)) eC))))
  aC)
  (af (aW (ay (a7 hr.units) bj (qv 3) aj (aE _))
  (aq (aB (i:=5) eP.nd rfl (by eq_refl) (xo rfl rfl T.b_tuple rfl T.b_reversed boot_tuple (qv 5))))
  aC)
  (af (aW (ay (a7 hr.units) bj (qv 3) aj (aE _))
  (aq (aB (i:=5) eP.nd rfl (by eq_refl) (eJ (aO (aa (jR (bY aj) (bC (cw (qv 1) aj) (ka aj aj))) ae)) (qv 5))))
  aC)
  (af (aW (ay (a7 hr.units) bj (qv 3) aj (aE _))
  (aq (aB (i:=5) eP.nd rfl (by eq_refl) (eJ (qv 5) (aO (aa (b7 (qv 2) (bC (cw (qv 1) aj) (ka aj aj))) ae)))))
  aC)
  (aq (aF (dq (dq (d3 (qv 0) eC (d7 (qv 4))) (aY (aa (qv 5) ae))) (d3 (qv 0) (d7 (b7 (qv 4) aj)) eC))))))))))))),?_⟩)
 intro vs H Q E h;unfold fy at h;split at h
 ·rename_i a u c;obtain⟨A,N,S,V,⟨c1,c6⟩,ha,hA,hN,hS,hV,h⟩:=h;unfold tupI at ha;have cdvB3:(4:Int)≠0:=by decide
  refine ak fun R hR=>?_;ac_rfl;refine⟨by decide,?_⟩;generalize u.fmod 8=kd;subst hR;refine ak fun R hR=>?_;ac_rfl;refine⟨jJ (by decide) (by decide),by decide,?_⟩;have hi:=fm (a:=u.fdiv 8) (b:=4) (by decide);generalize (u.fdiv 8).fmod 4=i at *;subst hR;refine ak fun R hR=>?_;ac_rfl;obtain⟨M0,eM0,l0⟩:=Al (A:=A) (N:=N) (S:=S) (V:=V) hi.1 hi.2 hA hN hS hV;refine⟨_,ha,?_⟩;rw[eM0];ac_rfl;subst hR;refine ak fun R hR=>?_;have key:∀M1:List Int,M1.length≤7->R { nx:=fun _ H=>∃H3,U.Sub H3 H/\Q .non H3,rt:=fun v H=>∃H3,U.Sub H3 H/\Q v H3 } [some (.ref a),some (.int u),some (.int c),some (.int kd),some (.int i),some (.tup (M1.map PV.int))] H:=fun M1 l1=>by
   subst hR;refine ak fun R hR=>?_;have key:∀M2:List Int,M2.length≤8->R { nx:=fun _ H=>∃H3,U.Sub H3 H/\Q .non H3,rt:=fun v H=>∃H3,U.Sub H3 H/\Q v H3 } [some (.ref a),some (.int u),some (.int c),some (.int kd),some (.int i),some (.tup (M2.map PV.int))] H:=fun M2 l2=>by
    subst hR;refine ak fun R hR=>?_;have key:∀M3:List Int,M3.length≤9->R { nx:=fun _ H=>∃H3,U.Sub H3 H/\Q .non H3,rt:=fun v H=>∃H3,U.Sub H3 H/\Q v H3 } [some (.ref a),some (.int u),some (.int c),some (.int kd),some (.int i),some (.tup (M3.map PV.int))] H:=fun M3 l3=>by
     subst hR;refine ak fun R hR=>?_;have key:∀M4:List Int,M4.length≤10->R { nx:=fun _ H=>∃H3,U.Sub H3 H/\Q .non H3,rt:=fun v H=>∃H3,U.Sub H3 H/\Q v H3 } [some (.ref a),some (.int u),some (.int c),some (.int kd),some (.int i),some (.tup (M4.map PV.int))] H:=fun M4 l4=>by
      subst hR;refine ak fun R hR=>?_;have key:∀M5:List Int,M5.length≤11->R { nx:=fun _ H=>∃H3,U.Sub H3 H/\Q .non H3,rt:=fun v H=>∃H3,U.Sub H3 H/\Q v H3 } [some (.ref a),some (.int u),some (.int c),some (.int kd),some (.int i),some (.tup (M5.map PV.int))] H:=fun M5 l5=>by
       subst hR;refine ak fun R hR=>?_;have key:∀M6:List Int,M6.length≤12->R { nx:=fun _ H=>∃H3,U.Sub H3 H/\Q .non H3,rt:=fun v H=>∃H3,U.Sub H3 H/\Q v H3 } [some (.ref a),some (.int u),some (.int c),some (.int kd),some (.int i),some (.tup (M6.map PV.int))] H:=fun M6 l6=>by
        subst hR;ac_rfl;obtain⟨A',N',S',V',ec,l1,l2,l3,l4,n1,n2⟩:=Dw (A:=A) (N:=N) (S:=S) (V:=V) (M:=M6) hi.1 hi.2 hA hN hS hV (by omega);refine⟨_,ha,fun p1 hp1=>⟨ah (by decide),fun p2 hp2=>?_⟩⟩;have x1:=(Sub.refl H).put (o:=.lst (bO [PV.tup (A.map PV.int),.tup (N.map PV.int),.tup (S.map PV.int),.tup (V.map PV.int)] none (some i))) hp1;have x2:=x1.put (o:=.lst [PV.tup (M6.map PV.int)]) (x1.free hp2);have n12:p1≠p2:=fun e=>by subst e;rw[ai]at hp2;cases hp2
        refine⟨_,_,(ar n12).trans ai,rfl,ah (by simp only[List.length_singleton];omega),fun p3 hp3=>?_⟩;have x3:=x2.put (o:=.lst (bO [PV.tup (A.map PV.int),.tup (N.map PV.int),.tup (S.map PV.int),.tup (V.map PV.int)] none (some i)++[PV.tup (M6.map PV.int)])) (x2.free hp3);have e3:put (put (put H p1 (.lst (bO [PV.tup (A.map PV.int),.tup (N.map PV.int),.tup (S.map PV.int),.tup (V.map PV.int)] none (some i)))) p2 (.lst [PV.tup (M6.map PV.int)])) p3 (.lst (bO [PV.tup (A.map PV.int),.tup (N.map PV.int),.tup (S.map PV.int),.tup (V.map PV.int)] none (some i)++[PV.tup (M6.map PV.int)])) p3=some (.lst (bO [PV.tup (A.map PV.int),.tup (N.map PV.int),.tup (S.map PV.int),.tup (V.map PV.int)] none (some i)++[PV.tup (M6.map PV.int)])):=ai;generalize put (put (put H p1 (.lst (bO [PV.tup (A.map PV.int),.tup (N.map PV.int),.tup (S.map PV.int),.tup (V.map PV.int)] none (some i)))) p2 (.lst [PV.tup (M6.map PV.int)])) p3 (.lst (bO [PV.tup (A.map PV.int),.tup (N.map PV.int),.tup (S.map PV.int),.tup (V.map PV.int)] none (some i)++[PV.tup (M6.map PV.int)]))=Hx at *;refine⟨_,x3 _ _ ha,fun p4 hp4=>⟨_,_,(ar (au e3 hp4)).trans e3,rfl,ah (by rw[List.length_append,List.length_singleton];omega),fun p5 hp5=>?_⟩⟩;have x4:=x3.put (o:=.lst (bO [PV.tup (A.map PV.int),.tup (N.map PV.int),.tup (S.map PV.int),.tup (V.map PV.int)] (some (i+1)) none)) (x3.free hp4);refine⟨_,Sub.refl _,h p5 _ A' N' S' V' (x4.put (x4.free hp5)) ?_ l1 l2 l3 l4⟩;rw[ai,ec]
       ac_rfl;refine bw (fun _=>?_) (fun _=>key M5 (by omega));refine⟨jJ (by decide) (by decide),⟨by decide,by decide,by decide⟩,m5,ah (by decide),ah (by rw[List.length_map];omega),?_⟩;have:=key (M5++[c+(u.fdiv 32).fmod (10 ^ Int.toNat 30)]) (by rw[List.length_append,List.length_singleton];omega);rw[List.map_append]at this;exact this
      ac_rfl;refine bw (fun _=>?_) (fun _=>key M4 (by omega));refine⟨jJ (by decide) (by decide),⟨by decide,by decide,by decide⟩,m5,ah (by decide),ah (by rw[List.length_map];omega),?_⟩;exact key ((-1 - (u.fdiv 32).fmod (10 ^ Int.toNat 30))::M4) (by rw[List.length_cons];omega)
     ac_rfl;refine bw (fun _=>?_) (fun _=>key M3 (by omega));rw[←List.map_reverse];exact⟨by rw[List.length_map];omega,key _ (by rw[List.length_reverse];omega)⟩
    ac_rfl;refine bw (fun _=>?_) (fun _=>key M2 (by omega));obtain⟨m,em,lm,_⟩:=sP PV.int M2;rw[em,← List.map_append];exact⟨ah (by simp only[List.length_map];omega),key _ (by rw[List.length_append];omega)⟩
   ac_rfl;refine bw (fun _=>?_) (fun _=>key M1 (by omega));exact⟨ah (by decide),key [] (by simp)⟩
  ac_rfl;refine bw (fun _=>?_) (fun _=>key M0 (by omega));refine⟨cdvB3,_,ha,?_⟩;obtain⟨M',eM',lM'⟩:=Al (A:=A) (N:=N) (S:=S) (V:=V) (fm (a:=i+1) (b:=4) (by decide)).1 (fm (a:=i+1) (b:=4) (by decide)).2 hA hN hS hV;rw[eM'];ac_rfl;exact key M' (by omega)
 ·exact h.elim
theorem D2(T:Tx K mg t):aN P w K mg base CX0 2 t.a_zU t.d_zU ["_law_kind","_law_number","_law_sets","_law_many"] hJ:=by
 refine okU (k:=1) T.F_zU jo (fun vs H Q E h=>by
  unfold hJ at h;split at h
  ·rfl
  ·exact h.elim) (fun cdv A outer s H E B hr=>⟨_,(af (aB (i:=4) jo.nd rfl (by eq_refl) (qv 2))
  (af (aW (ay (a7 hr.units) bj (qv 0) aj (aE _))
  (aq (aB (i:=4) jo.nd rfl (by eq_refl) (aY (aa (aJ (qv 2) aj (fun _ _=>rfl)) (aa (aJ (qv 2) aj (fun _ _=>rfl)) (aa (aJ (qv 2) aj (fun _ _=>rfl)) ae))))))
  aC)
  (af (aW (ay gE gz (aS aM bK rfl T.b_len PySem.boot_len (aa (bG (N2:=["_law_names","_law_many"]) (nt:=1) (js:=[3]) (ck (sc:=ao vI)) rfl (aP (qv 4)) (fun s0 H0 fp ps=>⟨(ax (i:=0) (show List.Nodup (["_law_names","_law_many"]:List Str) by decide +kernel) rfl (by eq_refl)),(bF (dh (bW (aH (Df T) (hr.mono (by decide)) rfl T.g_zA T.F_zA.kp T.B_zA (aa (qv 0) (aa (qv 1) ae)))))),(qv 0)⟩)) ae)) aj (aE _))
  (aq (aF (aY (aa aX ae))))
  aC)
  (af (aW (bx (dJ (ay (a7 hr.units) bj (qv 0) aj (aE _)) (cN (ay (bA hr.units) b8 (qv 1) (aO (aa aj (aa aj (aa aj ae)))) (by with_unfolding_all rfl)))))
  (aq (aF (aY (aa aX ae))))
  aC)
  (af (aB (i:=5) jo.nd rfl (by eq_refl) (aY ae))
  (af (bU PassesOwn.never rfl (aP (qv 4)) (ax (i:=6) jo.nd rfl (by eq_refl))
  (aq (aB (i:=5) jo.nd rfl (by eq_refl) (dq (qv 5) (aQ cu gW rfl T.b_list boot_list (aa (qv 6) ae))))))
  (af (aW (bx (eS (ay fq fb (gD rfl rfl T.b_len rfl T.b_set boot_set (qv 5)) (aS aM bK rfl T.b_len PySem.boot_len (aa (qv 5) ae)) (aE _)) (eS (ay (a7 hr.units) bj (aS aM bK rfl T.b_len PySem.boot_len (aa (aJ (qv 2) aj (fun _ _=>rfl)) ae)) aj (aE _)) (dP (bx (dJ (ay (a7 hr.units) bj (qv 0) aj (aE _)) (cN (ay (a7 hr.units) bj (aS aM bK rfl T.b_len PySem.boot_len (aa (aJ (qv 2) aj (fun _ _=>rfl)) ae)) aj (aE _)))))))))
  (aq (aF (aY (aa aX ae))))
  aC)
  (aq (aF (aY ae)))))))))),?_⟩)
 intro vs H Q E h;unfold hJ at h;split at h
 ·rename_i d k a c;obtain⟨A,N,S,V,hd,⟨c1,c6⟩,ha,hA,hN,hS,hV,h⟩:=h;unfold tupI at ha;refine ak fun R hR=>?_;ac_rfl;subst hR;have s0:=Sub.refl H;rcases hd with rfl | rfl
  ·refine ak fun R hR=>?_;ac_rfl;refine aw rfl ?_;subst hR;obtain⟨Ls,eLs⟩:∃Ls,Ls=[A,N,S,V]:=⟨_,rfl⟩;have hq:H a=some (.lst (Ls.map tupI)):=by rw[eLs];exact ha
   have hLs:∀L∈Ls,L.length≤20:=by
    intro L hL;rw[eLs]at hL;simp only[List.mem_cons,List.not_mem_nil,or_false]at hL;rcases hL with rfl | rfl | rfl | rfl<;>assumption
   have l4:Ls.length≤4:=by rw[eLs];exact Nat.le_of_ble_eq_true rfl
   have eN:(∀L∈Ls,Nms c L)↔N4 c A N S V:=by
    rw[eLs];simp only[List.mem_cons,List.not_mem_nil,or_false,forall_eq_or_imp,forall_eq];exact⟨fun⟨a,b,c,d⟩=>⟨a,c,d,b⟩,fun⟨a,c,d,b⟩=>⟨a,b,c,d⟩⟩
   refine ak fun R hR=>?_;ac_rfl;refine⟨_,hq,fun acc hacc=>?_⟩;refine aG (fun y=>y) (lT c) (fun σ=>∃z,σ=[z,some (.int c)]) (by rw[List.length_map];omega) (fun _=>(ar (au hq hacc)).trans hq) ?_ ?_ ⟨_,rfl⟩
   ·rintro y hy l σ R' ⟨z,rfl⟩ hl kT kF;obtain⟨L,hL,rfl⟩:=List.mem_map.mp hy;have lL:=hLs L hL;unfold tupI at *;ac_rfl;refine⟨L,rfl,by omega,fun b hb=>?_⟩;cases b with
    | true=>exact aw rfl (kF (by rw[Bool.eq_false_iff];exact fun z=>(cL.mp z) (hb.mp rfl)) _ ⟨_,rfl⟩)
    | false=>exact aA rfl ⟨hl,by rw[aI];exact kT (cL.mpr fun z=>absurd (hb.mpr z) (by decide)) _ ⟨_,rfl⟩⟩
   have ek:(((Ls.map tupI).filter (lT c)).map fun y=>y)=[]↔N4 c A N S V:=by
    rw[List.map_eq_nil_iff,List.filter_eq_nil_iff,← eN];constructor
    ·intro z L hL;have:=z (tupI L) (List.mem_map.mpr ⟨L,hL,rfl⟩);unfold tupI at this;rw[cL,Classical.not_not]at this;exact this
    ·intro z y hy;obtain⟨L,hL,rfl⟩:=List.mem_map.mp hy;unfold tupI;rw[cL,Classical.not_not];exact z L hL
   generalize (((Ls.map tupI).filter (lT c)).map fun y=>y)=bad at *;have s1:=s0.put (o:=.lst bad) (s0.free hacc);have hq1:put H acc (.lst bad) a=some (.lst (Ls.map tupI)):=(ar (au hq hacc)).trans hq;have ha1:=s1 _ _ ha;ac_rfl;generalize put H acc (.lst bad)=H1 at *;by_cases n4:¬N4 c A N S V
   ·exact aA (decide_eq_true (by have:=List.length_pos_iff.mpr (fun z=>n4 (ek.mp z));omega)) ⟨ah (by decide),fun r hr=>⟨_,Sub.refl _,h r _ (s1.put (s1.free hr)) (by rw[d0a n4,ai];rfl)⟩⟩
   have n4:=Classical.not_not.mp n4;refine aw (by rw[ek.mpr n4];rfl) ?_;subst hR;have hc:=eN.mpr n4;have ng:∀y∈Ls.flatten,0≤y/\y<6:=fun y hy=>by
    obtain⟨L,hL,hy⟩:=List.mem_flatten.mp hy;have:=(hc L hL).lo y hy;omega
   have n6:∀n∈Ls.flatten.map Int.toNat,n<6:=fun n hn=>by
    obtain⟨z,hz,rfl⟩:=List.mem_map.mp hn;have:=ng z hz;omega
   have f60:Ls.flatten.length≤Ls.length*6:=d4 fun L hL=>(hc L hL).len c6;refine ak fun R hR=>?_;ac_rfl;refine aA rfl ⟨ah (by decide),?_⟩;have em:([PV.int 1,PV.int 2,PV.int 3].any fun z=>deq z (.int k))=decide (k∈[(1:Int),2,3]):=bE (l:=[1,2,3]) (n:=k);have hm:k∈[(1:Int),2,3]↔1≤k/\k≤3:=by
    simp only[List.mem_cons,List.not_mem_nil,or_false];omega
   rw[em];by_cases hk:¬(1≤k/\k≤3)
   ·exact aA (by rw[decide_eq_false (fun z=>hk (hm.mp z))];rfl) ⟨ah (by decide),fun r hr=>⟨_,Sub.refl _,h r _ (s1.put (s1.free hr)) (by rw[d0b n4 hk,ai];rfl)⟩⟩
   have hk:=Classical.not_not.mp hk;refine aw (by rw[decide_eq_true (hm.mpr hk)];rfl) ?_;subst hR;refine ak fun R hR=>?_;ac_rfl;refine⟨ah (by decide),fun p hp=>?_⟩;have s2:=s1.put (o:=.lst []) (s1.free hp);have e2:put H1 p (.lst []) p=some (.lst []):=ai;have hq2:=(ar (au hq1 hp) (o:=.lst [])).trans hq1;have ha2:=(ar (au ha1 hp) (o:=.lst [])).trans ha1;generalize put H1 p (.lst [])=H2 at *;subst hR;refine ak fun R hR=>?_;ac_rfl;refine⟨_,hq2,?_⟩;refine cc (fun i σ H3=>∃z p,σ=[some (.int 0),some (.int k),some (.ref a),some (.int c),some (.ref a),some (.ref p),z]/\U.Sub H2 H3/\H3 p=some (.lst ((Ls.take i).flatten.map PV.int))) ?_ ?_ ⟨none,p,rfl,Sub.refl _,e2⟩
   ·rintro σ H3 ⟨z,p3,rfl,s3,e3⟩;refine⟨s3 _ _ hq2,?_⟩;rw[List.length_map,List.take_length]at e3;have s23:=s2.trans s3;have ha3:=s3 _ _ ha2;subst hR;dsimp only;refine ak fun R hR=>?_;ac_rfl;refine⟨Ls.flatten.map Int.toNat,by rw[e3,eG ng],n6,_,e3,?_⟩;have noset:¬Stm c A S V N->∀r,H3 r=none->∃H4,U.Sub H4 (put H3 r (.lst [PV.str (Str.ofString "NoSets")]))/\Q (.ref r) H4:=fun na r hr=>⟨_,Sub.refl _,h r _ (s23.put (s23.free hr)) (by rw[d0c n4 hk na,ai];rfl)⟩;by_cases nd:¬Ls.flatten.Nodup
    ·have lt:=g9 n6 (fun z=>nd ((dQ fun x hx=>(ng x hx).1).mp z));rw[List.length_map]at lt;exact aA (decide_eq_true (by rw[List.length_map];omega)) ⟨ah (by decide),noset fun gd=>nd (by rw[eLs];exact nd4.mp gd.nd)⟩
    have nd:=Classical.not_not.mp nd;rw[g4 n6 ((dQ fun x hx=>(ng x hx).1).mpr nd)];rw[eLs]at nd;refine aw (decide_eq_false (by rw[List.length_map,List.length_map];omega)) ⟨_,ha3,?_⟩;rw[ja];ac_rfl;by_cases na:A=[]
    ·exact aA (by rw[na];rfl) ⟨ah (by decide),noset fun gd=>gd.na na⟩
    refine aw (by rw[List.length_map];simpa using na) ?_;refine aA rfl ⟨_,ha3,?_⟩;rw[tm];ac_rfl;by_cases nb:N=[]
    ·exact aA (by rw[nb];rfl) ⟨ah (by decide),noset fun gd=>gd.nn nb⟩
    refine aw (by rw[List.length_map];simpa using nb) ?_;subst hR;ac_rfl;exact⟨ah (by decide),fun r hr=>⟨_,Sub.refl _,h r _ (s23.put (s23.free hr)) (by rw[d0d hk ⟨n4.1,n4.2.1,n4.2.2.1,n4.2.2.2,nd4.mpr nd,na,nb⟩,ai];rfl)⟩⟩
   ·rintro M i y σ H3 hy ⟨z,p3,rfl,s3,e3⟩ kk;refine⟨s3 _ _ hq2,?_⟩;rw[List.getElem?_map]at hy;obtain⟨L,hL,rfl⟩:=Option.map_eq_some_iff.mp hy;have e:(Ls.take (i+1)).flatten=(Ls.take i).flatten++L:=by rw[List.take_succ,hL];simp
    have l1:((Ls.take (i+1)).flatten).length≤Ls.flatten.length:=by
     conv=>rhs;rw[←List.take_append_drop (i+1) Ls,List.flatten_append,List.length_append]
     omega
    rw[e,List.length_append]at l1;unfold tupI;ac_rfl;intro p4 hp4;have x1:=s3.put (o:=.lst (L.map PV.int)) (s3.free hp4);refine⟨_,_,(ar (au e3 hp4)).trans e3,rfl,ah (by rw[List.length_map,List.length_map];omega),fun p5 hp5=>kk _ _ ⟨_,p5,rfl,x1.put (x1.free hp5),?_⟩⟩;rw[ai,← List.map_append,e]
  ·refine ak fun R hR=>?_;ac_rfl;refine aA rfl ?_;refine⟨_,ha,?_⟩;rw[ja];ac_rfl;refine⟨_,ha,?_⟩;rw[nB];ac_rfl;refine⟨_,ha,?_⟩;rw[nD]
   try ac_rfl
   refine⟨ah (by decide),fun p0 hp0=>?_⟩;have sq:=s0.put (o:=.lst ([A,S,V].map tupI)) hp0;have hq0:put H p0 (.lst ([A,S,V].map tupI)) p0=some (.lst ([A,S,V].map tupI)):=ai;show R _ _ (put H p0 (.lst ([A,S,V].map tupI)));generalize put H p0 (.lst ([A,S,V].map tupI))=Hq at *;subst hR;obtain⟨Ls,eLs⟩:∃Ls,Ls=[A,S,V]:=⟨_,rfl⟩;have hq:Hq p0=some (.lst (Ls.map tupI)):=by rw[eLs];exact hq0
   have hLs:∀L∈Ls,L.length≤20:=by
    intro L hL;rw[eLs]at hL;simp only[List.mem_cons,List.not_mem_nil,or_false]at hL;rcases hL with rfl | rfl | rfl<;>assumption
   have l4:Ls.length≤4:=by rw[eLs];exact Nat.le_of_ble_eq_true rfl
   have eN:(∀L∈Ls,Nms c L)↔N3 c A S V:=by
    rw[eLs];simp only[List.mem_cons,List.not_mem_nil,or_false,forall_eq_or_imp,forall_eq];exact⟨id,id⟩
   refine ak fun R hR=>?_;ac_rfl;refine⟨_,hq,fun acc hacc=>?_⟩;refine aG (fun y=>y) (lT c) (fun σ=>∃z,σ=[z,some (.int c)]) (by rw[List.length_map];omega) (fun _=>(ar (au hq hacc)).trans hq) ?_ ?_ ⟨_,rfl⟩
   ·rintro y hy l σ R' ⟨z,rfl⟩ hl kT kF;obtain⟨L,hL,rfl⟩:=List.mem_map.mp hy;have lL:=hLs L hL;unfold tupI at *;ac_rfl;refine⟨L,rfl,by omega,fun b hb=>?_⟩;cases b with
    | true=>exact aw rfl (kF (by rw[Bool.eq_false_iff];exact fun z=>(cL.mp z) (hb.mp rfl)) _ ⟨_,rfl⟩)
    | false=>exact aA rfl ⟨hl,by rw[aI];exact kT (cL.mpr fun z=>absurd (hb.mpr z) (by decide)) _ ⟨_,rfl⟩⟩
   have ek:(((Ls.map tupI).filter (lT c)).map fun y=>y)=[]↔N3 c A S V:=by
    rw[List.map_eq_nil_iff,List.filter_eq_nil_iff,← eN];constructor
    ·intro z L hL;have:=z (tupI L) (List.mem_map.mpr ⟨L,hL,rfl⟩);unfold tupI at this;rw[cL,Classical.not_not]at this;exact this
    ·intro z y hy;obtain⟨L,hL,rfl⟩:=List.mem_map.mp hy;unfold tupI;rw[cL,Classical.not_not];exact z L hL
   generalize (((Ls.map tupI).filter (lT c)).map fun y=>y)=bad at *;have s1:=sq.put (o:=.lst bad) (sq.free hacc);have hq1:put Hq acc (.lst bad) p0=some (.lst (Ls.map tupI)):=(ar (au hq hacc)).trans hq;have ha1:=s1 _ _ ha;ac_rfl;generalize put Hq acc (.lst bad)=H1 at *;by_cases n4:¬N3 c A S V
   ·exact aA (decide_eq_true (by have:=List.length_pos_iff.mpr (fun z=>n4 (ek.mp z));omega)) ⟨ah (by decide),fun r hr=>⟨_,Sub.refl _,h r _ (s1.put (s1.free hr)) (by rw[d1a n4,ai];rfl)⟩⟩
   have n4:=Classical.not_not.mp n4;refine aw (by rw[ek.mpr n4];rfl) ?_;subst hR;have hc:=eN.mpr n4;have ng:∀y∈Ls.flatten,0≤y/\y<6:=fun y hy=>by
    obtain⟨L,hL,hy⟩:=List.mem_flatten.mp hy;have:=(hc L hL).lo y hy;omega
   have n6:∀n∈Ls.flatten.map Int.toNat,n<6:=fun n hn=>by
    obtain⟨z,hz,rfl⟩:=List.mem_map.mp hn;have:=ng z hz;omega
   have f60:Ls.flatten.length≤Ls.length*6:=d4 fun L hL=>(hc L hL).len c6;refine ak fun R hR=>?_;ac_rfl;refine aw rfl ?_;subst hR;refine ak fun R hR=>?_;ac_rfl;refine⟨ah (by decide),fun p hp=>?_⟩;have s2:=s1.put (o:=.lst []) (s1.free hp);have e2:put H1 p (.lst []) p=some (.lst []):=ai;have hq2:=(ar (au hq1 hp) (o:=.lst [])).trans hq1;have ha2:=(ar (au ha1 hp) (o:=.lst [])).trans ha1;generalize put H1 p (.lst [])=H2 at *;subst hR;refine ak fun R hR=>?_;ac_rfl;refine⟨_,hq2,?_⟩;refine cc (fun i σ H3=>∃z p,σ=[some (.int 1),some (.int k),some (.ref a),some (.int c),some (.ref p0),some (.ref p),z]/\U.Sub H2 H3/\H3 p=some (.lst ((Ls.take i).flatten.map PV.int))) ?_ ?_ ⟨none,p,rfl,Sub.refl _,e2⟩
   ·rintro σ H3 ⟨z,p3,rfl,s3,e3⟩;refine⟨s3 _ _ hq2,?_⟩;rw[List.length_map,List.take_length]at e3;have s23:=s2.trans s3;have ha3:=s3 _ _ ha2;subst hR;dsimp only;refine ak fun R hR=>?_;ac_rfl;refine⟨Ls.flatten.map Int.toNat,by rw[e3,eG ng],n6,_,e3,?_⟩;have noset:¬Gd A S V->∀r,H3 r=none->∃H4,U.Sub H4 (put H3 r (.lst [PV.str (Str.ofString "NoSets")]))/\Q (.ref r) H4:=fun na r hr=>⟨_,Sub.refl _,h r _ (s23.put (s23.free hr)) (by rw[d1b n4 na,ai];rfl)⟩;by_cases nd:¬Ls.flatten.Nodup
    ·have lt:=g9 n6 (fun z=>nd ((dQ fun x hx=>(ng x hx).1).mp z));rw[List.length_map]at lt;exact aA (decide_eq_true (by rw[List.length_map];omega)) ⟨ah (by decide),noset fun gd=>nd (by rw[eLs];exact gd.1)⟩
    have nd:=Classical.not_not.mp nd;rw[g4 n6 ((dQ fun x hx=>(ng x hx).1).mpr nd)];rw[eLs]at nd;refine aw (decide_eq_false (by rw[List.length_map,List.length_map];omega)) ⟨_,ha3,?_⟩;rw[ja];ac_rfl;by_cases na:A=[]
    ·exact aA (by rw[na];rfl) ⟨ah (by decide),noset fun gd=>gd.2 na⟩
    refine aw (by rw[List.length_map];simpa using na) ?_;refine aw rfl ?_;subst hR;ac_rfl;exact⟨ah (by decide),fun r hr=>⟨_,Sub.refl _,h r _ (s23.put (s23.free hr)) (by rw[d1c n4 ⟨nd,na⟩,ai];rfl)⟩⟩
   ·rintro M i y σ H3 hy ⟨z,p3,rfl,s3,e3⟩ kk;refine⟨s3 _ _ hq2,?_⟩;rw[List.getElem?_map]at hy;obtain⟨L,hL,rfl⟩:=Option.map_eq_some_iff.mp hy;have e:(Ls.take (i+1)).flatten=(Ls.take i).flatten++L:=by rw[List.take_succ,hL];simp
    have l1:((Ls.take (i+1)).flatten).length≤Ls.flatten.length:=by
     conv=>rhs;rw[←List.take_append_drop (i+1) Ls,List.flatten_append,List.length_append]
     omega
    rw[e,List.length_append]at l1;unfold tupI;ac_rfl;intro p4 hp4;have x1:=s3.put (o:=.lst (L.map PV.int)) (s3.free hp4);refine⟨_,_,(ar (au e3 hp4)).trans e3,rfl,ah (by rw[List.length_map,List.length_map];omega),fun p5 hp5=>kk _ _ ⟨_,p5,rfl,x1.put (x1.free hp5),?_⟩⟩;rw[ai,← List.map_append,e]
 ·exact h.elim
theorem Dc(T:Tx K mg t):aN P w K mg base CX0 10 t.a_yd t.d_yd ["_law_script"] spL:=by
 refine okU (k:=9) T.F_yd eR (fun vs H Q E h=>by
  unfold spL at h;split at h
  ·rfl
  ·exact h.elim) (fun cdv A outer s H E B hr=>⟨_,(af (aB (i:=1) eR.nd rfl (by eq_refl) (b7 aj (bC (aH (vb T) (hr.mono (by decide)) rfl T.g_zw T.F_zw.kp T.B_zw (aa (qv 0) (aa aj ae))) aj)))
  (af (aB (i:=2) eR.nd rfl (by eq_refl) (aH (D4 T) (hr.mono (by decide)) rfl T.g_zv T.F_zv.kp T.B_zv (aa (qv 0) (aa aj (aa (qv 1) ae)))))
  (af (aB (i:=3) eR.nd rfl (by eq_refl) (kc T.mk_D (BJ T) (hr.mono (by decide)) rfl T.g_D T.B_zu (aa (qv 1) (aa (aQ cu gW rfl T.b_list boot_list (aa (aJ (qv 2) aj (fun _ _=>rfl)) ae)) (aa (aQ cu gW rfl T.b_list boot_list (aa (aJ (qv 2) aj (fun _ _=>rfl)) ae)) ae)))))
  (af (bU PassesOwn.never rfl (i6 rfl T.b_range (aa aj (aa aj ae))) (ax (i:=4) eR.nd rfl (by eq_refl))
  (af (aB (i:=5) eR.nd rfl (by eq_refl) (d3 (aH (CU T) (hr.mono (by decide)) rfl T.g_zM T.F_zM.kp T.B_zM (aa (aH (vb T) (hr.mono (by decide)) rfl T.g_zw T.F_zw.kp T.B_zw (aa (qv 0) (aa (qv 4) ae))) (aa (qv 1) (aa aj ae)))) eC (d7 aj)))
   (af (aB (i:=6) eR.nd rfl (by eq_refl) (aH (vb T) (hr.mono (by decide)) rfl T.g_zw T.F_zw.kp T.B_zw (aa (qv 0) (aa (b7 aj (qv 4)) ae))))
   (af (aB (i:=5) eR.nd rfl (by eq_refl) (aH (Dp T) (hr.mono (by decide)) rfl T.g_zQ T.F_zQ.kp T.B_zQ (aa (qv 5) (aa (cw (qv 6) aj) (aa (qv 1) ae)))))
   (@af _ _ _ _ _ _ (@aB _ _ _ _ _ 7 _ _ eR.nd rfl (by eq_refl) (@aJ _ _ _ _ _ _ _ (@aY _ _ _ _ _ (@aa _ _ _ _ _ _ aj (@aa _ _ _ _ _ _ aj (@aa _ _ _ _ _ _ aj (@aa _ _ _ _ _ _ aj (@aa _ _ _ _ _ _ aj (@aa _ _ _ _ _ _ aj (@aa _ _ _ _ _ _ aj (@aa _ _ _ _ _ _ (b7 aj (bC (cw (qv 6) aj) (ka aj aj))) (@aa _ _ _ _ _ _ (jR (bY aj) (bC (cw (qv 6) aj) (ka aj aj))) (@ae _ _) (by rfl)) (by rfl)) (by rfl)) (by rfl)) (by rfl)) (by rfl)) (by rfl)) (by rfl)) (by rfl))) (bC (qv 6) aj) (fun _ _=>rfl)) (by rfl) (by first | exact .inl rfl | exact .inr rfl | assumption))
   (aq (bU PassesOwn.never rfl (aP (aY (aa aj (aa aj (aa aj ae))))) (ax (i:=8) eR.nd rfl (by eq_refl))
   (aq (aW (ay (jU hr.units) bj (aH (Er T) (hr.mono (by decide)) rfl T.g_zH T.F_zH.kp T.B_zH (aa (qv 8) (aa (qv 3) (aa (qv 7) (aa (qv 5) ae))))) (aH (D2 T) (hr.mono (by decide)) rfl T.g_zU T.F_zU.kp T.B_zU (aa (qv 8) (aa (qv 7) (aa (qv 5) (aa (qv 1) ae))))) (aE _))
    (aq (aF dH))
    aC)))))))))
  (aq (aF dH)))))),?_⟩)
 intro vs H Q E h;unfold spL at h;split at h
 ·rename_i l;obtain⟨ns,rfl,hl,h⟩:=h;refine ak fun R hR=>?_;ac_rfl;refine⟨⟨by decide,by decide⟩,ns,rfl,by decide,?_⟩;have hc:=fm (a:=ns.getD (Int.toNat 0) 0) (b:=6) (by decide);generalize hcc:1+(ns.getD (Int.toNat 0) 0).fmod 6=c at *;have c2:1≤c/\c≤6:=by omega
  subst hR;refine ak fun R hR=>?_;ac_rfl;refine⟨⟨by decide,by decide⟩,c2,ns,rfl,fun ts bs ok=>?_⟩;subst hR;unfold shp;refine ak fun R hR=>?_;ac_rfl;intro p5 hp5;refine fun p6 hp6 x dx hx hdx nd=>?_;have n56:p5≠p6:=fun e=>by subst e;rw[ai]at hp6;cases hp6
  have sa:=(Sub.refl H).put (o:=.lst (ts.map prV)) hp5;have sb:=sa.put (o:=.lst (bs.map prV)) (sa.free hp6);have i1:put (put H p5 (.lst (ts.map prV))) p6 (.lst (bs.map prV)) p5=some (.lst (ts.map prV)):=(ar n56).trans ai;have i2:put (put H p5 (.lst (ts.map prV))) p6 (.lst (bs.map prV)) p6=some (.lst (bs.map prV)):=ai;generalize put (put H p5 (.lst (ts.map prV))) p6 (.lst (bs.map prV))=H6 at *;have sc:=(Sub.refl H6).put (o:=.ins t.a_D dx []) hx;refine⟨dx,_,_,ts,bs,rfl,sc _ _ i1,sc _ _ i2,da,da,ok.gt,ok.gb,⟨by omega,c2.2,ok.b6⟩,fun T1 B1 pT sT pB sB=>?_⟩;rw[aI];have eT:=DM.eE (List.Perm.refl _) ok.st pT sT;have eB:=DM.eE (List.Perm.refl _) ok.sb pB sB;subst eT;subst eB;have sd:=sb.put (o:=.ins t.a_D dx (DF c ts bs)) (sb.free hx);have x3:put H6 x (.ins t.a_D dx (DF c ts bs)) x=some (.ins t.a_D dx (DF c ts bs)):=ai;generalize put H6 x (.ins t.a_D dx (DF c ts bs))=H7 at *;subst hR;refine ak fun R hR=>?_;ac_rfl;refine⟨⟨by decide,by decide,by decide,by decide⟩,?_⟩;refine fS (fun i σ H9=>∃z1 z2 z3 z4 z5,σ=[some (.fls (ns.map PV.int)),some (.int c),some (.tup [.int c,.tup (ts.map prV),.tup (bs.map prV)]),some (.ref x),z1,z2,z3,z4,z5]/\U.Sub H7 H9) ?_ ?_ ⟨none,none,none,none,none,rfl,Sub.refl _⟩
  ·rintro σ H9 ⟨z1,z2,z3,z4,z5,rfl,s9⟩;refine⟨trivial,?_⟩;subst hR;ac_rfl;exact⟨H,sd.trans s9,h⟩
  ·rintro N i σ H9 hi ⟨z1,z2,z3,z4,z5,rfl,s9⟩ kk;refine⟨trivial,?_⟩;have hi:i<22:=hi;refine ak fun R1 hR1=>?_;ac_rfl;refine⟨⟨by omega,by omega⟩,ns,rfl,c2,⟨by decide,by decide⟩,fun r1 Ha L1 _ sa1 er1 pt1=>?_⟩;have pt1:Pt 5 c L1:=pt1;obtain⟨A,N2,S,V,W,rfl⟩:∃A N2 S V W,L1=[A,N2,S,V,W]:=by
    have:=pt1.len
    match L1,this with
    | [A,N2,S,V,W],_=>exact⟨A,N2,S,V,W,rfl⟩
   have nm:=pt1.nms;have lA:=(nm A (by simp)).len c2.2;have lN:=(nm N2 (by simp)).len c2.2;have lS:=(nm S (by simp)).len c2.2;have lV:=(nm V (by simp)).len c2.2;refine⟨_,er1,fun p hp=>?_⟩;have ec:bO ([A,N2,S,V,W].map tupI) none (some 4)=[tupI A,tupI N2,tupI S,tupI V]:=rfl;rw[ec];have s10:=(s9.trans sa1).put (o:=.lst [tupI A,tupI N2,tupI S,tupI V]) ((s9.trans sa1).free hp);have e10:put Ha p (.lst [tupI A,tupI N2,tupI S,tupI V]) p=some (.lst [tupI A,tupI N2,tupI S,tupI V]):=ai;generalize put Ha p (.lst [tupI A,tupI N2,tupI S,tupI V])=Hb at *;subst hR1;refine ak fun R1 hR1=>?_;ac_rfl;refine⟨⟨by omega,by omega⟩,ns,rfl,?_⟩;generalize ns.getD (Int.toNat (24+(2+((i:Nat):Int)))) 0=u;subst hR1;refine ak fun R1 hR1=>?_;ac_rfl;refine⟨jJ (by decide) (by decide),A,N2,S,V,c2,e10,lA,lN,lS,lV,fun r2 Hc A' N' S' V' sc1 er2 l1 l2 l3 l4=>?_⟩;have s11:=s10.trans sc1;subst hR1;refine ak fun R1 hR1=>?_;ac_rfl;have cp:zJ 10 30:=⟨by decide,by decide,by decide⟩;refine⟨jJ (by decide) (by decide),cp,m5,jJ (by decide) (by decide),cp,m5,ah (by decide),fun p2 hp2=>⟨by decide,?_⟩⟩;obtain⟨k,ek⟩:=at9 (a:=1) (b:=2) (c:=3) (d:=1) (e:=2) (f:=3) (g:=0) (h:=4+(u.fdiv 9).fmod (10 ^ Int.toNat 30)) (i:=-1 - (u.fdiv 9).fmod (10 ^ Int.toNat 30)) (fm (a:=u) (b:=9) (by decide));rw[ek];generalize [PV.int 1,PV.int 2,PV.int 3,PV.int 1,PV.int 2,PV.int 3,PV.int 0,PV.int (4+(u.fdiv 9).fmod (10 ^ Int.toNat 30)),PV.int (-1 - (u.fdiv 9).fmod (10 ^ Int.toNat 30))]=nine;have s12:=s11.put (o:=.lst nine) (s11.free hp2);have er3:put Hc p2 (.lst nine) r2=some (.lst [tupI A',tupI N',tupI S',tupI V']):=(ar (au er2 hp2)).trans er2;generalize put Hc p2 (.lst nine)=He at *;show R1 _ _ _;subst hR1;ac_rfl;refine⟨ah (by decide),fun q hq=>?_⟩;have s13:=s12.put (o:=.lst [PV.int 0,.int 1,.int 0]) (s12.free hq);have e13:put He q (.lst [PV.int 0,.int 1,.int 0]) q=some (.lst [PV.int 0,.int 1,.int 0]):=ai;have er4:put He q (.lst [PV.int 0,.int 1,.int 0]) r2=some (.lst [tupI A',tupI N',tupI S',tupI V']):=(ar (au er3 hq)).trans er3;generalize put He q (.lst [PV.int 0,.int 1,.int 0])=Hd at *;refine cc (fun j σ H13=>∃z5,σ=[some (.fls (ns.map PV.int)),some (.int c),some (.tup [.int c,.tup (ts.map prV),.tup (bs.map prV)]),some (.ref x),some (.int (2+(i:Nat))),some (.ref r2),some (.int u),some (.int k),z5]/\U.Sub Hd H13) ?_ ?_ ⟨_,rfl,Sub.refl _⟩
   ·rintro σ H13 ⟨z5,rfl,s14⟩;exact⟨s14 _ _ e13,kk _ _ ⟨_,_,_,_,_,rfl,s13.trans s14⟩⟩
   ·rintro M j y σ H13 hy ⟨z5,rfl,s14⟩ kk2;refine⟨s14 _ _ e13,?_⟩;have sh:∃d:Int,y=.int d/\(d=0∨d=1):=by
     have:=List.mem_of_getElem? hy;simp only[List.mem_cons,List.not_mem_nil,or_false]at this;rcases this with rfl | rfl | rfl
     ·exact⟨0,rfl,.inl rfl⟩
     ·exact⟨1,rfl,.inr rfl⟩
     ·exact⟨0,rfl,.inl rfl⟩
    obtain⟨d,rfl,hd⟩:=sh;ac_rfl;refine⟨c,ts,bs,A',N',S',V',hd,⟨dx,s14 _ _ (s13 _ _ x3)⟩,ok,s14 _ _ er4,fun r3 H14 s15 e14=>?_⟩;refine⟨A',N',S',V',hd,c2,s15 _ _ (s14 _ _ er4),l1,l2,l3,l4,fun r4 H15 s16 e15=>?_⟩;refine⟨_,s16 _ _ e14,_,e15,?_⟩;refine⟨gf,gf,?_⟩;have ed:fK ((Du d k c A' N' S' V').map PV.str) ((Du d k c A' N' S' V').map PV.str)=true:=by have:=dW (x:=.fls ((Du d k c A' N' S' V').map PV.str)) gf;rwa [deq]at this
    rw[ed];exact aw rfl (kk2 _ _ ⟨_,rfl,s14.trans (s15.trans s16)⟩)
 ·exact h.elim
end
theorem kY{fd:FuncData}{ps:List Str}(h:∀a,bindArgs fd ⟨[a],[]⟩=pure (List.zip ps [a]))(us:List Value)(hl:us.length=1):bindArgs fd ⟨us,[]⟩=pure (List.zip ps us):=Ag (P:=fun us=>bindArgs fd ⟨us,[]⟩=pure (List.zip ps us)) h us hl
theorem cT{fd:FuncData}{ps:List Str}(h:∀a b,bindArgs fd ⟨[a,b],[]⟩=pure (List.zip ps [a,b]))(us:List Value)(hl:us.length=2):bindArgs fd ⟨us,[]⟩=pure (List.zip ps us):=BZ (P:=fun us=>bindArgs fd ⟨us,[]⟩=pure (List.zip ps us)) h us hl
theorem lC{fd:FuncData}{ps:List Str}(h:∀a b c,bindArgs fd ⟨[a,b,c],[]⟩=pure (List.zip ps [a,b,c]))(us:List Value)(hl:us.length=3):bindArgs fd ⟨us,[]⟩=pure (List.zip ps us):=Bc (P:=fun us=>bindArgs fd ⟨us,[]⟩=pure (List.zip ps us)) h us hl
theorem iY{fd:FuncData}{ps:List Str}(h:∀a b c d,bindArgs fd ⟨[a,b,c,d],[]⟩=pure (List.zip ps [a,b,c,d]))(us:List Value)(hl:us.length=4):bindArgs fd ⟨us,[]⟩=pure (List.zip ps us):=DS (P:=fun us=>bindArgs fd ⟨us,[]⟩=pure (List.zip ps us)) h us hl
open PySem.W in
theorem mV{K:Frag}{h:Heap}{mg:Str->Option Value}{f_zV f_zG f_yb f_zW f_zP f_zu f_zc f_zd f_zf f_za f_zb f_zk f_zi f_ze f_zI f_zD f_zt f_zs f_zj f_zC f_zE f_zO f_zR f_zK f_zr f_zB f_zy f_zo f_zn f_zq f_zL f_zY f_zh f_zS f_zp f_yc f_ya f_zw f_zF f_zv f_zM f_zN f_zH f_zA f_zQ f_zU f_yd k_A k_B k_C k_D k_E k_F k_G k_H k_I k_J k_K k_L k_M k_N k_O k_P k_Q k_R k_S k_T k_U k_V k_W:Addr}(X:K.In h)(G:h.Ns mainGlobals mg)
  {d_zV d_zG d_yb d_zW d_zP d_zu d_zc d_zd d_zf d_za d_zb d_zk d_zi d_ze d_zI d_zD d_zt d_zs d_zj d_zC d_zE d_zO d_zR d_zK d_zr d_zB d_zy d_zo d_zn d_zq d_zL d_zY d_zh d_zS d_zp d_yc d_ya d_zw d_zF d_zv d_zM d_zN d_zH d_zA d_zQ d_zU d_yd:FuncData}
  {tk_ASKED tk_MOST_BOWS tk_MOST_NAMES tk_SEEN tk_SET:Tok}
  (C_A:nX1 K "BadPaper" k_A)
  (C_B:nX1 K "BadStep" k_B)
  (C_C:nX1 K "DoingError" k_C)
  (C_D:nX1 K "Drawing" k_D)
  (C_E:nX1 K "NoAnswer" k_E)
  (C_F:nX1 K "NoBow" k_F)
  (C_G:nX1 K "NoCount" k_G)
  (C_H:nX1 K "NoDoor" k_H)
  (C_I:nX1 K "NoFormula" k_I)
  (C_J:nX1 K "NoFraction" k_J)
  (C_K:nX1 K "NoName" k_K)
  (C_L:nX1 K "NoNest" k_L)
  (C_M:nX1 K "NoQuestion" k_M)
  (C_N:nX1 K "NoRoad" k_N)
  (C_O:nX1 K "NoRule" k_O)
  (C_P:nX1 K "NoSets" k_P)
  (C_Q:nX1 K "NoShare" k_Q)
  (C_R:nX1 K "NoText" k_R)
  (C_S:nX1 K "NoThinning" k_S)
  (C_T:nX1 K "NoTie" k_T)
  (C_U:nX1 K "NoValue" k_U)
  (C_V:nX1 K "NoWorld" k_V)
  (a_zV:nX1 K "is_pair" f_zV)
  (l_zV:Fun K "is_pair" "is_pair" zF f_zV d_zV)
  (a_zG:nX1 K "are_pairs" f_zG)
  (l_zG:Fun K "are_pairs" "are_pairs" ub f_zG d_zG)
  (a_yb:nX1 K "is_set" f_yb)
  (l_yb:Fun K "is_set" "is_set" xb f_yb d_yb)
  (a_zW:nX1 K "without" f_zW)
  (l_zW:Fun K "without" "without" uc f_zW d_zW)
  (a_zP:nX1 K "together" f_zP)
  (l_zP:Fun K "together" "together" xq f_zP d_zP)
  (a_zu:fX1 K k_D "__init__" f_zu)
  (i_zu:isFn K (.ref f_zu)=true)
  (l_zu:Fun K "__init__" "Drawing.__init__" mR f_zu d_zu)
  (a_zc:fX1 K k_D "need_name" f_zc)
  (i_zc:isFn K (.ref f_zc)=true)
  (l_zc:Fun K "need_name" "Drawing.need_name" yZ f_zc d_zc)
  (a_zd:fX1 K k_D "need_set" f_zd)
  (i_zd:isFn K (.ref f_zd)=true)
  (l_zd:Fun K "need_set" "Drawing.need_set" zG f_zd d_zd)
  (a_zf:fX1 K k_D "sources" f_zf)
  (i_zf:isFn K (.ref f_zf)=true)
  (l_zf:Fun K "sources" "Drawing.sources" uz f_zf d_zf)
  (a_za:fX1 K k_D "followers" f_za)
  (i_za:isFn K (.ref f_za)=true)
  (l_za:Fun K "followers" "Drawing.followers" vN f_za d_za)
  (a_zb:fX1 K k_D "ancestors" f_zb)
  (i_zb:isFn K (.ref f_zb)=true)
  (l_zb:Fun K "ancestors" "Drawing.ancestors" zb f_zb d_zb)
  (a_zk:fX1 K k_D "bowed" f_zk)
  (i_zk:isFn K (.ref f_zk)=true)
  (l_zk:Fun K "bowed" "Drawing.bowed" rJ f_zk d_zk)
  (a_zi:fX1 K k_D "cut_in" f_zi)
  (i_zi:isFn K (.ref f_zi)=true)
  (l_zi:Fun K "cut_in" "Drawing.cut_in" rL f_zi d_zi)
  (a_ze:fX1 K k_D "cut_out" f_ze)
  (i_ze:isFn K (.ref f_ze)=true)
  (l_ze:Fun K "cut_out" "Drawing.cut_out" vP f_ze d_ze)
  (a_zI:nX1 K "need_sets" f_zI)
  (l_zI:Fun K "need_sets" "need_sets" zD f_zI d_zI)
  (a_zD:nX1 K "need_apart" f_zD)
  (l_zD:Fun K "need_apart" "need_apart" zC f_zD d_zD)
  (a_zt:nX1 K "need_barring" f_zt)
  (l_zt:Fun K "need_barring" "need_barring" zt f_zt d_zt)
  (a_zs:nX1 K "points_at_to" f_zs)
  (l_zs:Fun K "points_at_to" "points_at_to" xY f_zs d_zs)
  (a_zj:nX1 K "points_at_from" f_zj)
  (l_zj:Fun K "points_at_from" "points_at_from" yM f_zj d_zj)
  (a_zC:nX1 K "is_meeting" f_zC)
  (l_zC:Fun K "is_meeting" "is_meeting" xK f_zC d_zC)
  (a_zE:nX1 K "steps_from" f_zE)
  (l_zE:Fun K "steps_from" "steps_from" o7 f_zE d_zE)
  (a_zO:nX1 K "names_on" f_zO)
  (l_zO:Fun K "names_on" "names_on" vX f_zO d_zO)
  (a_zR:nX1 K "meetings" f_zR)
  (l_zR:Fun K "meetings" "meetings" vn f_zR d_zR)
  (a_zK:nX1 K "is_passed" f_zK)
  (l_zK:Fun K "is_passed" "is_passed" zv f_zK d_zK)
  (a_zr:nX1 K "asked_beside" f_zr)
  (l_zr:Fun K "asked_beside" "asked_beside" pj f_zr d_zr)
  (a_zB:nX1 K "least_shut" f_zB)
  (l_zB:Fun K "least_shut" "least_shut" ud f_zB d_zB)
  (a_zy:nX1 K "first_roads" f_zy)
  (l_zy:Fun K "first_roads" "first_roads" uo f_zy d_zy)
  (a_zo:nX1 K "longer_roads" f_zo)
  (l_zo:Fun K "longer_roads" "longer_roads" zu f_zo d_zo)
  (a_zn:nX1 K "shortest_road" f_zn)
  (l_zn:Fun K "shortest_road" "shortest_road" sk f_zn d_zn)
  (a_zq:nX1 K "shortest_way" f_zq)
  (l_zq:Fun K "shortest_way" "shortest_way" pY f_zq d_zq)
  (a_zL:nX1 K "ways_down" f_zL)
  (l_zL:Fun K "ways_down" "ways_down" u6 f_zL d_zL)
  (a_zY:nX1 K "barred" f_zY)
  (l_zY:Fun K "barred" "barred" vK f_zY d_zY)
  (a_zh:nX1 K "need_statement" f_zh)
  (l_zh:Fun K "need_statement" "need_statement" y3 f_zh d_zh)
  (a_zS:nX1 K "given_by" f_zS)
  (l_zS:Fun K "given_by" "given_by" xJ f_zS d_zS)
  (a_zp:nX1 K "rule_drawing" f_zp)
  (l_zp:Fun K "rule_drawing" "rule_drawing" yp f_zp d_zp)
  (a_yc:nX1 K "joins" f_yc)
  (l_yc:Fun K "joins" "joins" yE f_yc d_yc)
  (a_ya:nX1 K "end_of" f_ya)
  (l_ya:Fun K "end_of" "end_of" xZ f_ya d_ya)
  (a_zw:nX1 K "_law_cell_at" f_zw)
  (l_zw:Fun K "_law_cell_at" "_law_cell_at" zg f_zw d_zw)
  (a_zF:nX1 K "_law_mixed" f_zF)
  (l_zF:Fun K "_law_mixed" "_law_mixed" xM f_zF d_zF)
  (a_zv:nX1 K "_law_pairs_of" f_zv)
  (l_zv:Fun K "_law_pairs_of" "_law_pairs_of" yt f_zv d_zv)
  (a_zM:nX1 K "_law_roles" f_zM)
  (l_zM:Fun K "_law_roles" "_law_roles" rD f_zM d_zM)
  (a_zN:nX1 K "_law_kinds" f_zN)
  (l_zN:Fun K "_law_kinds" "_law_kinds" vL f_zN d_zN)
  (a_zH:nX1 K "_law_asked" f_zH)
  (l_zH:Fun K "_law_asked" "_law_asked" yX f_zH d_zH)
  (a_zA:nX1 K "_law_is_set" f_zA)
  (l_zA:Fun K "_law_is_set" "_law_is_set" yb f_zA d_zA)
  (a_zQ:nX1 K "_law_bent" f_zQ)
  (l_zQ:Fun K "_law_bent" "_law_bent" yB f_zQ d_zQ)
  (a_zU:nX1 K "_law_due" f_zU)
  (l_zU:Fun K "_law_due" "_law_due" vI f_zU d_zU)
  (a_yd:nX1 K "law" f_yd)
  (l_yd:Fun K "law" "law" zx f_yd d_yd)
  (pg_D:plainGet K k_D Str.empty=true)
  (hd_D:hasDictIn K k_D=true)
  (po_D:plainOver K k_D=true)
  (sa_D:findIn K (.ref k_D) "__setattr__"=some (some (.builtin "object.__setattr__")))
  (mk_D:makesIn K k_D=true)
  (kc_D:keepIn K (.ref k_D)=true)
  (xe_C:excIn K k_C [.type "ValueError",.type "Exception",.type "BaseException",.type "object"] "ValueError.__new__"=true)
  (xo_C:mroIn K k_C (.type "object")=some true)
  (xb_C:mroIn K k_C (.type "BaseException")=some true)
  (xg_C:findIn K (.ref k_C) "__getattribute__"=some (some (.builtin "BaseException.__getattribute__")))
  (xt_C:findIn K (.ref k_C) "__getattr__"=some none)
  (xc_C:findIn K (.ref k_C) "__class__"=some (some (.builtin "object.__class__")))
  (xe_K:excIn K k_K [.type "ValueError",.type "Exception",.type "BaseException",.type "object"] "ValueError.__new__"=true)
  (xo_K:mroIn K k_K (.type "object")=some true)
  (xb_K:mroIn K k_K (.type "BaseException")=some true)
  (xg_K:findIn K (.ref k_K) "__getattribute__"=some (some (.builtin "BaseException.__getattribute__")))
  (xt_K:findIn K (.ref k_K) "__getattr__"=some none)
  (xc_K:findIn K (.ref k_K) "__class__"=some (some (.builtin "object.__class__")))
  (xe_O:excIn K k_O [.type "ValueError",.type "Exception",.type "BaseException",.type "object"] "ValueError.__new__"=true)
  (xo_O:mroIn K k_O (.type "object")=some true)
  (xb_O:mroIn K k_O (.type "BaseException")=some true)
  (xg_O:findIn K (.ref k_O) "__getattribute__"=some (some (.builtin "BaseException.__getattribute__")))
  (xt_O:findIn K (.ref k_O) "__getattr__"=some none)
  (xc_O:findIn K (.ref k_O) "__class__"=some (some (.builtin "object.__class__")))
  (xe_P:excIn K k_P [.type "ValueError",.type "Exception",.type "BaseException",.type "object"] "ValueError.__new__"=true)
  (xo_P:mroIn K k_P (.type "object")=some true)
  (xb_P:mroIn K k_P (.type "BaseException")=some true)
  (xg_P:findIn K (.ref k_P) "__getattribute__"=some (some (.builtin "BaseException.__getattribute__")))
  (xt_P:findIn K (.ref k_P) "__getattr__"=some none)
  (xc_P:findIn K (.ref k_P) "__class__"=some (some (.builtin "object.__class__")))
  (s_K:mroIn K k_K (.ref k_C)=some true)
  (s_P:mroIn K k_P (.ref k_C)=some true)
  (s_O:mroIn K k_O (.ref k_C)=some true)
  (kkK_:kitOne K (.ref k_K) (.type "ValueError")=some true)
  (kkKR:kX1 K k_K k_R)
  (kkKB:kX1 K k_K k_B)
  (kkKI:kX1 K k_K k_I)
  (kkKM:kX1 K k_K k_M)
  (kkKE:kX1 K k_K k_E)
  (kkKS:kX1 K k_K k_S)
  (kkKH:kX1 K k_K k_H)
  (kkKL:kX1 K k_K k_L)
  (kkKA:kX1 K k_K k_A)
  (kkKO:kX1 K k_K k_O)
  (kkKN:kX1 K k_K k_N)
  (kkKQ:kX1 K k_K k_Q)
  (kkKU:kX1 K k_K k_U)
  (kkKV:kX1 K k_K k_V)
  (kkKP:kX1 K k_K k_P)
  (kkKK:kitOne K (.ref k_K) (.ref k_K)=some true)
  (kkKF:kX1 K k_K k_F)
  (kkKT:kX1 K k_K k_T)
  (kkKG:kX1 K k_K k_G)
  (kkKJ:kX1 K k_K k_J)
  (kkP_:kitOne K (.ref k_P) (.type "ValueError")=some true)
  (kkPR:kX1 K k_P k_R)
  (kkPB:kX1 K k_P k_B)
  (kkPI:kX1 K k_P k_I)
  (kkPM:kX1 K k_P k_M)
  (kkPE:kX1 K k_P k_E)
  (kkPS:kX1 K k_P k_S)
  (kkPH:kX1 K k_P k_H)
  (kkPL:kX1 K k_P k_L)
  (kkPA:kX1 K k_P k_A)
  (kkPO:kX1 K k_P k_O)
  (kkPN:kX1 K k_P k_N)
  (kkPQ:kX1 K k_P k_Q)
  (kkPU:kX1 K k_P k_U)
  (kkPV:kX1 K k_P k_V)
  (kkPP:kitOne K (.ref k_P) (.ref k_P)=some true)
  (kkPK:kX1 K k_P k_K)
  (kkPF:kX1 K k_P k_F)
  (kkPT:kX1 K k_P k_T)
  (kkPG:kX1 K k_P k_G)
  (kkPJ:kX1 K k_P k_J)
  (kkO_:kitOne K (.ref k_O) (.type "ValueError")=some true)
  (kkOR:kX1 K k_O k_R)
  (kkOB:kX1 K k_O k_B)
  (kkOI:kX1 K k_O k_I)
  (kkOM:kX1 K k_O k_M)
  (kkOE:kX1 K k_O k_E)
  (kkOS:kX1 K k_O k_S)
  (kkOH:kX1 K k_O k_H)
  (kkOL:kX1 K k_O k_L)
  (kkOA:kX1 K k_O k_A)
  (kkOO:kitOne K (.ref k_O) (.ref k_O)=some true)
  (kkON:kX1 K k_O k_N)
  (kkOQ:kX1 K k_O k_Q)
  (kkOU:kX1 K k_O k_U)
  (kkOV:kX1 K k_O k_V)
  (kkOP:kX1 K k_O k_P)
  (kkOK:kX1 K k_O k_K)
  (kkOF:kX1 K k_O k_F)
  (kkOT:kX1 K k_O k_T)
  (kkOG:kX1 K k_O k_G)
  (kkOJ:kX1 K k_O k_J)
  (z_ValueError:nX2 K "ValueError")
  (z_all:nX2 K "all")
  (z_any:nX2 K "any")
  (z_enumerate:nX2 K "enumerate")
  (z_isinstance:nX2 K "isinstance")
  (z_len:nX2 K "len")
  (z_list:nX2 K "list")
  (z_range:nX2 K "range")
  (z_reversed:nX2 K "reversed")
  (z_set:nX2 K "set")
  (z_sorted:nX2 K "sorted")
  (z_tuple:nX2 K "tuple")
  (z_zip:nX2 K "zip")
  (v_ASKED:nsIn K mainGlobals "ASKED"=some (some (.int 0 tk_ASKED)))
  (v_MOST_BOWS:nsIn K mainGlobals "MOST_BOWS"=some (some (.int 6 tk_MOST_BOWS)))
  (v_MOST_NAMES:nsIn K mainGlobals "MOST_NAMES"=some (some (.int 6 tk_MOST_NAMES)))
  (v_SEEN:nsIn K mainGlobals "SEEN"=some (some (.int 2 tk_SEEN)))
  (v_SET:nsIn K mainGlobals "SET"=some (some (.int 1 tk_SET)))
  (nD_bows:findIn K (.ref k_D) "bows"=some none)
  (nD_count:findIn K (.ref k_D) "count"=some none)
  (nD_ties:findIn K (.ref k_D) "ties"=some none)
  (C_W:nX1 K "MORE" k_W)
  (o_W:okIn K k_W [1,2,3]=true) :
  ∃t:Ad,Tx K mg t/\t.a_yd=f_yd/\∀(s:Shared) (v:Value),BindsTo s t.d_yd ⟨[v],[]⟩ [("_law_script",v)]:=by
 obtain⟨oc,od,kV,doc,pm,an,cdv,ct,osl,rfl,lk,hcd⟩:=l_yd.ex;exact⟨⟨f_zV,_,f_zG,_,f_yb,_,f_zW,_,f_zP,_,f_zu,_,f_zc,_,f_zd,_,f_zf,_,f_za,_,f_zb,_,f_zk,_,f_zi,_,f_ze,_,f_zI,_,f_zD,_,f_zt,_,f_zs,_,f_zj,_,f_zC,_,f_zE,_,f_zO,_,f_zR,_,f_zK,_,f_zr,_,f_zB,_,f_zy,_,f_zo,_,f_zn,_,f_zq,_,f_zL,_,f_zY,_,f_zh,_,f_zS,_,f_zp,_,f_yc,_,f_ya,_,f_zw,_,f_zF,_,f_zv,_,f_zM,_,f_zN,_,f_zH,_,f_zA,_,f_zQ,_,f_zU,_,f_yd,_,k_A,k_B,k_C,k_D,k_E,k_F,k_G,k_H,k_I,k_J,k_K,k_L,k_M,k_N,k_O,k_P,k_Q,k_R,k_S,k_T,k_U,k_V,k_W⟩,⟨l_zV,
  l_zV.binds fun _ _ _ _ _ _=>cT fun _ _=>rfl,
  mg_of X G a_zV,
  l_zG,
  l_zG.binds fun _ _ _ _ _ _=>cT fun _ _=>rfl,
  mg_of X G a_zG,
  l_yb,
  l_yb.binds fun _ _ _ _ _ _=>cT fun _ _=>rfl,
  mg_of X G a_yb,
  l_zW,
  l_zW.binds fun _ _ _ _ _ _=>cT fun _ _=>rfl,
  mg_of X G a_zW,
  l_zP,
  l_zP.binds fun _ _ _ _ _ _=>cT fun _ _=>rfl,
  mg_of X G a_zP,
  l_zu,
  l_zu.binds fun _ _ _ _ _ _=>iY fun _ _ _ _=>rfl,
  l_zc,
  l_zc.binds fun _ _ _ _ _ _=>cT fun _ _=>rfl,
  ⟨a_zc,i_zc,l_zc.kp⟩,
  l_zd,
  l_zd.binds fun _ _ _ _ _ _=>cT fun _ _=>rfl,
  ⟨a_zd,i_zd,l_zd.kp⟩,
  l_zf,
  l_zf.binds fun _ _ _ _ _ _=>cT fun _ _=>rfl,
  ⟨a_zf,i_zf,l_zf.kp⟩,
  l_za,
  l_za.binds fun _ _ _ _ _ _=>cT fun _ _=>rfl,
  ⟨a_za,i_za,l_za.kp⟩,
  l_zb,
  l_zb.binds fun _ _ _ _ _ _=>cT fun _ _=>rfl,
  ⟨a_zb,i_zb,l_zb.kp⟩,
  l_zk,
  l_zk.binds fun _ _ _ _ _ _=>cT fun _ _=>rfl,
  ⟨a_zk,i_zk,l_zk.kp⟩,
  l_zi,
  l_zi.binds fun _ _ _ _ _ _=>cT fun _ _=>rfl,
  ⟨a_zi,i_zi,l_zi.kp⟩,
  l_ze,
  l_ze.binds fun _ _ _ _ _ _=>cT fun _ _=>rfl,
  ⟨a_ze,i_ze,l_ze.kp⟩,
  l_zI,
  l_zI.binds fun _ _ _ _ _ _=>cT fun _ _=>rfl,
  mg_of X G a_zI,
  l_zD,
  l_zD.binds fun _ _ _ _ _ _=>kY fun _=>rfl,
  mg_of X G a_zD,
  l_zt,
  l_zt.binds fun _ _ _ _ _ _=>iY fun _ _ _ _=>rfl,
  mg_of X G a_zt,
  l_zs,
  l_zs.binds fun _ _ _ _ _ _=>kY fun _=>rfl,
  mg_of X G a_zs,
  l_zj,
  l_zj.binds fun _ _ _ _ _ _=>kY fun _=>rfl,
  mg_of X G a_zj,
  l_zC,
  l_zC.binds fun _ _ _ _ _ _=>cT fun _ _=>rfl,
  mg_of X G a_zC,
  l_zE,
  l_zE.binds fun _ _ _ _ _ _=>cT fun _ _=>rfl,
  mg_of X G a_zE,
  l_zO,
  l_zO.binds fun _ _ _ _ _ _=>kY fun _=>rfl,
  mg_of X G a_zO,
  l_zR,
  l_zR.binds fun _ _ _ _ _ _=>kY fun _=>rfl,
  mg_of X G a_zR,
  l_zK,
  l_zK.binds fun _ _ _ _ _ _=>iY fun _ _ _ _=>rfl,
  mg_of X G a_zK,
  l_zr,
  l_zr.binds fun _ _ _ _ _ _=>iY fun _ _ _ _=>rfl,
  mg_of X G a_zr,
  l_zB,
  l_zB.binds fun _ _ _ _ _ _=>lC fun _ _ _=>rfl,
  mg_of X G a_zB,
  l_zy,
  l_zy.binds fun _ _ _ _ _ _=>cT fun _ _=>rfl,
  mg_of X G a_zy,
  l_zo,
  l_zo.binds fun _ _ _ _ _ _=>lC fun _ _ _=>rfl,
  mg_of X G a_zo,
  l_zn,
  l_zn.binds fun _ _ _ _ _ _=>iY fun _ _ _ _=>rfl,
  mg_of X G a_zn,
  l_zq,
  l_zq.binds fun _ _ _ _ _ _=>lC fun _ _ _=>rfl,
  mg_of X G a_zq,
  l_zL,
  l_zL.binds fun _ _ _ _ _ _=>lC fun _ _ _=>rfl,
  mg_of X G a_zL,
  l_zY,
  l_zY.binds fun _ _ _ _ _ _=>iY fun _ _ _ _=>rfl,
  mg_of X G a_zY,
  l_zh,
  l_zh.binds fun _ _ _ _ _ _=>cT fun _ _=>rfl,
  mg_of X G a_zh,
  l_zS,
  l_zS.binds fun _ _ _ _ _ _=>kY fun _=>rfl,
  mg_of X G a_zS,
  l_zp,
  l_zp.binds fun _ _ _ _ _ _=>iY fun _ _ _ _=>rfl,
  mg_of X G a_zp,
  l_yc,
  l_yc.binds fun _ _ _ _ _ _=>iY fun _ _ _ _=>rfl,
  mg_of X G a_yc,
  l_ya,
  l_ya.binds fun _ _ _ _ _ _=>lC fun _ _ _=>rfl,
  mg_of X G a_ya,
  l_zw,
  l_zw.binds fun _ _ _ _ _ _=>cT fun _ _=>rfl,
  mg_of X G a_zw,
  l_zF,
  l_zF.binds fun _ _ _ _ _ _=>cT fun _ _=>rfl,
  mg_of X G a_zF,
  l_zv,
  l_zv.binds fun _ _ _ _ _ _=>lC fun _ _ _=>rfl,
  mg_of X G a_zv,
  l_zM,
  l_zM.binds fun _ _ _ _ _ _=>lC fun _ _ _=>rfl,
  mg_of X G a_zM,
  l_zN,
  l_zN.binds fun _ _ _ _ _ _=>kY fun _=>rfl,
  mg_of X G a_zN,
  l_zH,
  l_zH.binds fun _ _ _ _ _ _=>iY fun _ _ _ _=>rfl,
  mg_of X G a_zH,
  l_zA,
  l_zA.binds fun _ _ _ _ _ _=>cT fun _ _=>rfl,
  mg_of X G a_zA,
  l_zQ,
  l_zQ.binds fun _ _ _ _ _ _=>lC fun _ _ _=>rfl,
  mg_of X G a_zQ,
  l_zU,
  l_zU.binds fun _ _ _ _ _ _=>iY fun _ _ _ _=>rfl,
  mg_of X G a_zU,
  l_yd,
  l_yd.binds fun _ _ _ _ _ _=>kY fun _=>rfl,
  mg_of X G a_yd,
  mg_of X G C_A,
  mg_of X G C_B,
  mg_of X G C_C,
  mg_of X G C_D,
  ⟨pg_D,hd_D,po_D,sa_D⟩,
  ⟨mk_D,a_zu,i_zu,kc_D⟩,
  mg_of X G C_E,
  mg_of X G C_F,
  mg_of X G C_G,
  mg_of X G C_H,
  mg_of X G C_I,
  mg_of X G C_J,
  mg_of X G C_K,
  mg_of X G C_L,
  mg_of X G C_M,
  mg_of X G C_N,
  mg_of X G C_O,
  mg_of X G C_P,
  mg_of X G C_Q,
  mg_of X G C_R,
  mg_of X G C_S,
  mg_of X G C_T,
  mg_of X G C_U,
  mg_of X G C_V,
  ⟨xe_C,xo_C,xb_C,xg_C,xt_C,xc_C⟩,
  ⟨xe_K,xo_K,xb_K,xg_K,xt_K,xc_K⟩,
  ⟨xe_O,xo_O,xb_O,xg_O,xt_O,xc_O⟩,
  ⟨xe_P,xo_P,xb_P,xg_P,xt_P,xc_P⟩,
  s_K,
  kkK_,
  kkKR,
  kkKB,
  kkKI,
  kkKM,
  kkKE,
  kkKS,
  kkKH,
  kkKL,
  kkKA,
  kkKO,
  kkKN,
  kkKQ,
  kkKU,
  kkKV,
  kkKP,
  kkKK,
  kkKF,
  kkKT,
  kkKG,
  kkKJ,
  s_P,
  kkP_,
  kkPR,
  kkPB,
  kkPI,
  kkPM,
  kkPE,
  kkPS,
  kkPH,
  kkPL,
  kkPA,
  kkPO,
  kkPN,
  kkPQ,
  kkPU,
  kkPV,
  kkPP,
  kkPK,
  kkPF,
  kkPT,
  kkPG,
  kkPJ,
  s_O,
  kkO_,
  kkOR,
  kkOB,
  kkOI,
  kkOM,
  kkOE,
  kkOS,
  kkOH,
  kkOL,
  kkOA,
  kkOO,
  kkON,
  kkOQ,
  kkOU,
  kkOV,
  kkOP,
  kkOK,
  kkOF,
  kkOT,
  kkOG,
  kkOJ,
  mg_none_of X G z_ValueError,
  mg_none_of X G z_all,
  mg_none_of X G z_any,
  mg_none_of X G z_enumerate,
  mg_none_of X G z_isinstance,
  mg_none_of X G z_len,
  mg_none_of X G z_list,
  mg_none_of X G z_range,
  mg_none_of X G z_reversed,
  mg_none_of X G z_set,
  mg_none_of X G z_sorted,
  mg_none_of X G z_tuple,
  mg_none_of X G z_zip,
  ⟨_,mg_of X G v_ASKED,⟨_,rfl⟩⟩,
  ⟨_,mg_of X G v_MOST_BOWS,⟨_,rfl⟩⟩,
  ⟨_,mg_of X G v_MOST_NAMES,⟨_,rfl⟩⟩,
  ⟨_,mg_of X G v_SEEN,⟨_,rfl⟩⟩,
  ⟨_,mg_of X G v_SET,⟨_,rfl⟩⟩,
  nD_bows,
  nD_count,
  nD_ties,
  ⟨_,mg_of X G C_W,rfl⟩,o_W⟩,rfl,fun s v=>.of_eq rfl⟩
theorem Ah{K:PySem.W.Frag}{mg:Str->Option Value}{f:Addr}{x:Str}(h:∃t:Ad,Tx K mg t/\t.a_yd=f/\∀(s:Shared) (v:Value),BindsTo s t.d_yd ⟨[v],[]⟩ [(x,v)])(e:mg "law"=some (.ref f)) :
  ∃t:Ad,Tx K mg t/\mg "law"=some (.ref t.a_yd)/\∀(s:Shared) (v:Value),BindsTo s t.d_yd ⟨[v],[]⟩ [(x,v)]:=by
 obtain⟨t,T,rfl,b⟩:=h;exact⟨t,T,e,b⟩
end Lw
end
open PySem PySem.W PyProof.Rows
set_option maxRecDepth 100000 in
set_option maxHeartbeats 0 in
theorem PySem.Challenge.cw_doingbook_k65_statements_refused_holds : PySem.Challenge.rw_doingbook_k65_statements_refused.Holds := by
 w_on;o_law;k_head;(case hw=>w_witness2)
 k_fill
 refine L2.sZ (l:=PySem.Challenge.rw_doingbook_k65_statements_refused) (n:=63) (k:=10) (x:="_law_script") (CX:=L2.CX0) (sp:=fun K=>U.c7 K U.spL) rfl (by decide) rfl ⟨rfl,by decide,by decide⟩ (fun w h Y=>PySem.W.kIn_of Y) ?F (fun K H a ns hl hO hS=>U.pF hl hO hS) (fun _ _ _ _ z=>z)
 case F =>
  intro w mg fa h KX G hmg;have T:∃t:Lw.Ad,Lw.Tx (L2.KOf KX) mg t/\mg "law"=some (.ref t.a_yd)/\∀(s:Shared) (v:Value),BindsTo s t.d_yd ⟨[v],[]⟩ [("_law_script",v)]:=by
   dsimp only[L2.KOf];refine' Lw.Ah (Lw.mV KX G ?C_A ?C_B ?C_C ?C_D ?C_E ?C_F ?C_G ?C_H ?C_I ?C_J ?C_K ?C_L ?C_M ?C_N ?C_O ?C_P ?C_Q ?C_R ?C_S ?C_T ?C_U ?C_V ?a_zV ?l_zV ?a_zG ?l_zG ?a_yb ?l_yb ?a_zW ?l_zW ?a_zP ?l_zP ?a_zu ?i_zu ?l_zu ?a_zc ?i_zc ?l_zc ?a_zd ?i_zd ?l_zd ?a_zf ?i_zf ?l_zf ?a_za ?i_za ?l_za ?a_zb ?i_zb ?l_zb ?a_zk ?i_zk ?l_zk ?a_zi ?i_zi ?l_zi ?a_ze ?i_ze ?l_ze ?a_zI ?l_zI ?a_zD ?l_zD ?a_zt ?l_zt ?a_zs ?l_zs ?a_zj ?l_zj ?a_zC ?l_zC ?a_zE ?l_zE ?a_zO ?l_zO ?a_zR ?l_zR ?a_zK ?l_zK ?a_zr ?l_zr ?a_zB ?l_zB ?a_zy ?l_zy ?a_zo ?l_zo ?a_zn ?l_zn ?a_zq ?l_zq ?a_zL ?l_zL ?a_zY ?l_zY ?a_zh ?l_zh ?a_zS ?l_zS ?a_zp ?l_zp ?a_yc ?l_yc ?a_ya ?l_ya ?a_zw ?l_zw ?a_zF ?l_zF ?a_zv ?l_zv ?a_zM ?l_zM ?a_zN ?l_zN ?a_zH ?l_zH ?a_zA ?l_zA ?a_zQ ?l_zQ ?a_zU ?l_zU ?a_yd ?l_yd ?pg_D ?hd_D ?po_D ?sa_D ?mk_D ?kc_D ?xe_C ?xo_C ?xb_C ?xg_C ?xt_C ?xc_C ?xe_K ?xo_K ?xb_K ?xg_K ?xt_K ?xc_K ?xe_O ?xo_O ?xb_O ?xg_O ?xt_O ?xc_O ?xe_P ?xo_P ?xb_P ?xg_P ?xt_P ?xc_P ?s_K ?s_P ?s_O ?kkK_ ?kkKR ?kkKB ?kkKI ?kkKM ?kkKE ?kkKS ?kkKH ?kkKL ?kkKA ?kkKO ?kkKN ?kkKQ ?kkKU ?kkKV ?kkKP ?kkKK ?kkKF ?kkKT ?kkKG ?kkKJ ?kkP_ ?kkPR ?kkPB ?kkPI ?kkPM ?kkPE ?kkPS ?kkPH ?kkPL ?kkPA ?kkPO ?kkPN ?kkPQ ?kkPU ?kkPV ?kkPP ?kkPK ?kkPF ?kkPT ?kkPG ?kkPJ ?kkO_ ?kkOR ?kkOB ?kkOI ?kkOM ?kkOE ?kkOS ?kkOH ?kkOL ?kkOA ?kkOO ?kkON ?kkOQ ?kkOU ?kkOV ?kkOP ?kkOK ?kkOF ?kkOT ?kkOG ?kkOJ ?z_ValueError ?z_all ?z_any ?z_enumerate ?z_isinstance ?z_len ?z_list ?z_range ?z_reversed ?z_set ?z_sorted ?z_tuple ?z_zip ?v_ASKED ?v_MOST_BOWS ?v_MOST_NAMES ?v_SEEN ?v_SET ?nD_bows ?nD_count ?nD_ties ?C_W ?o_W) ?tl
   case C_A|C_B|C_C|C_D|C_E|C_F|C_G|C_H|C_I|C_J|C_K|C_L|C_M|C_N|C_O|C_P|C_Q|C_R|C_S|C_T|C_U|C_V|a_zV|a_zG|a_yb|a_zW|a_zP|a_zI|a_zD|a_zt|a_zs|a_zj|a_zC|a_zE|a_zO|a_zR|a_zK|a_zr|a_zB|a_zy|a_zo|a_zn|a_zq|a_zL|a_zY|a_zh|a_zS|a_zp|a_yc|a_ya|a_zw|a_zF|a_zv|a_zM|a_zN|a_zH|a_zA|a_zQ|a_zU|a_yd|C_W=>delta Lw.nX1;k_is
   case z_ValueError|z_all|z_any|z_enumerate|z_isinstance|z_len|z_list|z_range|z_reversed|z_set|z_sorted|z_tuple|z_zip=>delta Lw.nX2;k_is
   case a_zu|a_zc|a_zd|a_zf|a_za|a_zb|a_zk|a_zi|a_ze=>delta Lw.fX1;k_is
   case i_zu|i_zc|i_zd|i_zf|i_za|i_zb|i_zk|i_zi|i_ze|pg_D|hd_D|po_D|sa_D|mk_D|kc_D|xo_C|xb_C|xg_C|xt_C|xc_C|xo_K|xb_K|xg_K|xt_K|xc_K|xo_O|xb_O|xg_O|xt_O|xc_O|xo_P|xb_P|xg_P|xt_P|xc_P|s_K|s_P|s_O|v_ASKED|v_MOST_BOWS|v_MOST_NAMES|v_SEEN|v_SET|nD_bows|nD_count|nD_ties=>k_is
   case l_zV|l_zG|l_yb|l_zW|l_zP|l_zu|l_zc|l_zd|l_zf|l_za|l_zb|l_zk|l_zi|l_ze|l_zI|l_zD|l_zt|l_zs|l_zj|l_zC|l_zE|l_zO|l_zR|l_zK|l_zr|l_zB|l_zy|l_zo|l_zn|l_zq|l_zL|l_zY|l_zh|l_zS|l_zp|l_yc|l_ya|l_zw|l_zF|l_zv|l_zM|l_zN|l_zH|l_zA|l_zQ|l_zU|l_yd=>apply L2.yS<;>k_is
   case xe_C|xe_K|xe_O|xe_P|o_W=>kernel_rfl
   case kkKR|kkKB|kkKI|kkKM|kkKE|kkKS|kkKH|kkKL|kkKA|kkKO|kkKN|kkKQ|kkKU|kkKV|kkKP|kkKF|kkKT|kkKG|kkKJ|kkPR|kkPB|kkPI|kkPM|kkPE|kkPS|kkPH|kkPL|kkPA|kkPO|kkPN|kkPQ|kkPU|kkPV|kkPK|kkPF|kkPT|kkPG|kkPJ|kkOR|kkOB|kkOI|kkOM|kkOE|kkOS|kkOH|kkOL|kkOA|kkON|kkOQ|kkOU|kkOV|kkOP|kkOK|kkOF|kkOT|kkOG|kkOJ=>delta Lw.kX1;kit_is
   case kkK_|kkKK|kkP_|kkPP|kkO_|kkOO=>kit_is
   (case tl=>exact PySem.W.mg_of KX G (by k_is))
  obtain⟨t,T,e,hb⟩:=T;have e0:=hmg.symm.trans e;cases e0;exact⟨t.d_yd,hb,fun base kb nb=>Lw.Dc T⟩
