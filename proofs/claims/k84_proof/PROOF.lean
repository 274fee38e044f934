import PyProof.Rows.All
import Wide.All
import OpenK.AllK
import Wide.FinOn
import Lean
import PyProof.EqAt
import PyProof.EqKinds
import PyProof.TupleCall
import PyProof.NeKinds
import PyProof.StationsW
import PyProof.RulesAs
import PyProof.ExcClass2
import PyProof.IsiH_tuple
import PyProof.NsDelKeeps
import PyProof.ConsumeWalk
import PyProof.Rows.SortWalk
import PySem.SetOps
import PySem.Builtin.Tuple.Common
import PyProof.Rows.SetFrom
import PyProof.TupleKey
import PyProof.SetRoads
import KE.KSortTup
import PyProof.DictWalks
import PyProof.FactsAll.set
import PyProof.CollectWalk
import KE.KDictList
import PyProof.Rows.Range3
import PyProof.Rows.StrWeight2
import PyProof.StrBlock
import PyProof.ListStr
import PyProof.SliceStr2
import PyProof.StrBlockI
import PyProof.StrOps2
import PyProof.StrLaws
import PyProof.StrLawsIdx
import PySem.Challenge.RW_doingbook_k84_where_a_formulas_text_fail
set_option Elab.async false
namespace PySem.W.Fast
def tw15925239625111386417:=()
def tw3514711600830012734:=()
def tw10231794931233198348:=()
def tw12431103235161862838:=()
def tw4631581479653945156:=()
def tw3756429150630171592:=()
def tw6018816964081195471:=()
def tw14514946724429626452:=()
def tw10623799424086853097:=()
def tw11565386553131959673:=()
def tw12170350842240089322:=()
def tw8528032987099425949:=()
def tw6810882359388633119:=()
def tw13491259557084905048:=()
def tw12652868086780375466:=()
def tw8844800091314883183:=()
def tw14834419512682910660:=()
def tw12305202555529851147:=()
def tw5360477785932977640:=()
def tw10290225917667764109:=()
def tw581283128696147914:=()
def tw16602038387272703519:=()
def tw16537748104059086556:=()
def tw12153889518794720608:=()
def tw8810011225682340241:=()
def tw6441213008356234386:=()
def tw15097766721528338713:=()
def tw12798521535417560467:=()
def tw17095785857835435438:=()
def tw3504781744844253279:=()
def tw15988346926778285232:=()
def tw9136454122529689727:=()
def tw2792057867123616971:=()
def tw5635763808867876585:=()
def tw1726798064815367977:=()
def tw10891366994263866682:=()
def tw9864882692227246371:=()
def tw10228092369435200049:=()
def tw16949203186936658736:=()
def tw8162159675099898209:=()
def tw12091349687356826804:=()
def tw3636929667158106299:=()
def tw10139690314421359398:=()
def tw7535707905592897576:=()
def tw16968896527611196821:=()
def tw11778857112669031943:=()
def tw5390960951365728609:=()
def tw6034376701750404597:=()
def tw3884656518786484549:=()
def tw5283716921670397749:=()
def tw11203334894360551402:=()
def tw16078838050116503418:=()
def tw3316839142831307518:=()
def tw2321842243504109741:=()
def tw10170402424728704440:=()
def tw16232067810283892538:=()
def tw4311944661078831051:=()
def tw12713721777249324226:=()
def tw14590165152361886336:=()
def tw949633976681550511:=()
def tw16375292311752774228:=()
def tw1473712617105458460:=()
def tw14909069641733703207:=()
def tw13813618298037139812:=()
def tw16279158683577767076:=()
def tw10933365306155604405:=()
def tw2098998959794836145:=()
def tw96786891693820614:=()
def tw13080327462230974965:=()
def tw5854066310107067344:=()
def tw2297582912730984516:=()
def tw13095598916929524511:=()
def tw13919275629622636887:=()
def tw10103371404413190057:=()
def tw8028819903591775887:=()
def tw5996183550002507438:=()
def tw3242601253893026875:=()
def tw15012818447091259223:=()
def tw17372370864197488034:=()
def tw8170723407381796104:=()
def tw9090644291368996680:=()
def tw17922790328186451356:=()
def tw16537578611440907190:=()
def tw14559017192208674050:=()
def tw16885275355016573360:=()
def tw2167050629701817016:=()
def tw5707923520778480494:=()
def tw9105103624920082919:=()
def tw2343719558767417243:=()
def tw9576857047933036843:=()
def tw7773347635396399712:=()
def tw358747577465214834:=()
def tw2221508524089674357:=()
def tw7804164760582203887:=()
def tw11143221913865524334:=()
def tw10622874919922026036:=()
def tw14542968533267612191:=()
def tw6038432591291161579:=()
def tw3067544485390429219:=()
def tw8524036926474239014:=()
def tw1797957888627287037:=()
def tw8884383773682526073:=()
def tw7453906813431036084:=()
def tw3379867232858436068:=()
def tw16112003109863257422:=()
def tw13340063665929348780:=()
def tw7191889589651549792:=()
def tw16202981801502234639:=()
def tw10204592933515698002:=()
def tw14898329207361901420:=()
def tw968664360229009300:=()
def tw9932981931125948571:=()
def tw11697648683514507686:=()
def tw12474483793690953713:=()
def tw10630614205322794998:=()
def tw6907550749292402872:=()
def tw5819888256612002123:=()
def tw3489652806422037881:=()
def tw8758693338035622687:=()
def tw18411605621149834046:=()
def tw11175419389640618043:=()
def tw12077466648490949485:=()
def tw3380708667102372920:=()
def tw17381444290700743935:=()
def tw8717243690843976295:=()
def tw4006547745193289431:=()
def tw18136278806543765602:=()
def tw6693734193876185233:=()
def tw10349101428124503590:=()
def tw11648041847321650629:=()
def tw1986128422858754349:=()
def tw492745223943169208:=()
def tw17564556925807317856:=()
def tw8885811295596067910:=()
def tw3362049497612262233:=()
def tw9491425994375555944:=()
def tw7553040926611827856:=()
def tw16550776270052165116:=()
def tw16450166932199919658:=()
def tw3914597945615412753:=()
def tw864520103906332869:=()
def tw11696884773605432083:=()
def tw8867619022379064758:=()
def tw7890290944790219061:=()
def tw5605584042667805049:=()
def tw16083726477327495804:=()
def tw7493608393850966115:=()
def tw12465346137740108034:=()
def tw18152549163684572244:=()
def tw12506034404250973588:=()
def tw16260871655064453194:=()
def tw14202226881326305473:=()
def tw5879888886263274228:=()
def tw5826836296821609151:=()
def tw966820937631182313:=()
def tw6827635632154970677:=()
def tw2298899610088555624:=()
def tw8059008456909113169:=()
def tw13983701054951040427:=()
def tw13120441120214033404:=()
def tw570896013597110208:=()
def tw17235165112575833532:=()
def tw4312852242340256889:=()
def tw17669201550084851741:=()
def tw1051217528058873823:=()
def tw18273723326045150732:=()
def tw13168112271755085621:=()
def tw6972136334999816799:=()
def tw14975990945924731894:=()
def tw12061429274939525558:=()
def tw9458956378921478195:=()
def tw3676019197069095684:=()
def tw5643624403557020866:=()
def tw12030024453739588564:=()
def tw1531327375524316392:=()
def tw10574529540757684541:=()
def tw1717930564281417290:=()
def tw6539157319525649742:=()
def tw1375259548874901258:=()
def tw10047156989384054831:=()
def tw5912804020477044626:=()
def tw15787142232260954581:=()
def tw4391588185016424641:=()
def tw11961289087492167188:=()
def tw10922614200417545641:=()
def tw15944649637081179662:=()
def tw10380048716260478705:=()
def tw4273713633556819967:=()
def tw6752543008005080203:=()
def tw10362821909564566569:=()
def tw696817210023376084:=()
def tw10201211670859041591:=()
def tw3847433568824198953:=()
def tw12578441876298186955:=()
def tw9786465019613784716:=()
def tw7166350266425557897:=()
def tw15125197458907285775:=()
def tw15487685833562236468:=()
def tw8495383462244109710:=()
def tw17771355346644468665:=()
def tw15384820484119435712:=()
def tw7607648695409969886:=()
def tw8694225943699887262:=()
def tw1883534370366180527:=()
def tw3430205464712064177:=()
def tw8850287400594436425:=()
def tw11333140673161506988:=()
def tw4288991011524838089:=()
def tw13895652603768335824:=()
def tw10379895766528804484:=()
def tw4040584161527562702:=()
def tw4612882236663981217:=()
def tw12934363970500595347:=()
def tw4929001343276060970:=()
def tw470387744674664214:=()
def tw1067589000062157867:=()
def tw14172861185130435009:=()
def tw13127914830840082166:=()
def tw17735090626030107842:=()
def tw3250551030454843846:=()
def tw2173902299815395192:=()
def tw3634653942013186411:=()
def tw4117796686883094996:=()
def tw12423262008176289392:=()
def tw8910523964181486877:=()
def tw13471534268182440272:=()
def tw10281596732410252361:=()
def tw16736959310507162479:=()
def tw5201475797124989571:=()
def tw1888271378669586863:=()
def tw9763803455842032939:=()
def tw2664084982003442443:=()
def tw16682076182781269380:=()
def tw10364594495353159541:=()
def tw7318044522351395782:=()
def tw7912050039978466211:=()
def tw17341114827999330115:=()
def tw13847925798972128367:=()
def tw17190125792248481786:=()
def tw3448190711368169898:=()
def tw2830233359332214216:=()
def tw1115453798354014101:=()
def tw4001013038994072466:=()
def tw17305447004021126046:=()
def tw6295687830923952668:=()
def tw17644103219021890660:=()
def tw6831328876125957751:=()
def tw12366269586808524366:=()
def tw3993876710145055521:=()
def tw2234651014405511689:=()
def tw5949366112737565394:=()
end PySem.W.Fast
set_option genSizeOf false
-- CHANGE: your row's module here, as the last of these rows
set_option Elab.async false
set_option linter.all false
set_option maxRecDepth 100000
namespace L2
open PySem PySem.Spec PyProof.Rows

abbrev Key := Sum Int Str
def keyIs : Key → Value → Bool
  | .inl k, v => Value.isInt k v
  | .inr x, v => Value.isStrOf x v
def keyH (w : World) : Key → Int
  | .inl k => hashInt k
  | .inr x => hashStr w x
theorem keyIs_shape : ∀ {k : Key} {v : Value}, keyIs k v = true → (∃ i t, k = Sum.inl i ∧ v = Value.int i t) ∨ (∃ x t, k = Sum.inr x ∧ v = Value.str x t)
  | .inl i, v, h => by
    obtain ⟨t, e⟩ := Value.isInt_shape (k := i) (v := v) h
    exact .inl ⟨i, t, rfl, e⟩
  | .inr x, v, h => by
    obtain ⟨t, e⟩ := Value.isStrOf_shape (x := x) (v := v) h
    exact .inr ⟨x, t, rfl, e⟩
theorem key_ll (a b : Int) : decide ((Sum.inl a : Key) = Sum.inl b) = (a == b) := by
  by_cases e : a = b
  · subst e; simp
  · have h : ¬ (Sum.inl a : Key) = Sum.inl b := fun q => e (Sum.inl.inj q)
    rw [decide_eq_false h]
    exact (beq_eq_false_iff_ne.mpr e).symm
theorem key_rr (a b : Str) : decide ((Sum.inr a : Key) = Sum.inr b) = decide (a = b) := by
  by_cases e : a = b
  · subst e; simp
  · have h : ¬ (Sum.inr a : Key) = Sum.inr b := fun q => e (Sum.inr.inj q)
    rw [decide_eq_false h, decide_eq_false e]
theorem key_lr (a : Int) (b : Str) : decide ((Sum.inl a : Key) = Sum.inr b) = false := decide_eq_false (fun q => nomatch q)
theorem key_rl (a : Str) (b : Int) : decide ((Sum.inr a : Key) = Sum.inl b) = false := decide_eq_false (fun q => nomatch q)

def mixKind (prog : Program) (w : World) : PySem.KeyKind prog w Key where
  is := keyIs
  hash := keyH w
  inj := fun v a b ha hb => by
    rcases keyIs_shape ha with ⟨i, t, rfl, rfl⟩ | ⟨x, t, rfl, rfl⟩
    · rcases keyIs_shape hb with ⟨j, u, rfl, e⟩ | ⟨y, u, rfl, e⟩
      · injection e with e1 _; rw [e1]
      · exact nomatch e
    · rcases keyIs_shape hb with ⟨j, u, rfl, e⟩ | ⟨y, u, rfl, e⟩
      · exact nomatch e
      · injection e with e1 _; rw [e1]
  byValue := fun k v h => by
    rcases keyIs_shape h with ⟨i, t, rfl, rfl⟩ | ⟨x, t, rfl, rfl⟩ <;> rfl
  pyHash := fun hv h => by
    rcases keyIs_shape hv with ⟨i, t, rfl, rfl⟩ | ⟨x, t, rfl, rfl⟩
    · exact wpAny_pyHash_int h
    · exact wpAny_pyHash_str h
  eqBool := fun hu hv h => by
    rcases keyIs_shape hu with ⟨i, t, rfl, rfl⟩ | ⟨x, t, rfl, rfl⟩
    · rcases keyIs_shape hv with ⟨j, u, rfl, rfl⟩ | ⟨y, u, rfl, rfl⟩
      · rw [key_ll] at h; exact wpAny_eqBool_int h
      · rw [key_lr] at h; exact SeqAt.EqAt.int_str i t y u _ _ _ _ h
    · rcases keyIs_shape hv with ⟨j, u, rfl, rfl⟩ | ⟨y, u, rfl, rfl⟩
      · rw [key_rl] at h; exact SeqAt.EqAt.str_int x t j u _ _ _ _ h
      · rw [key_rr] at h; exact wpAny_eqBool_str h
  «strs» := fun k x t v h => by
    rcases keyIs_shape h with ⟨i, u, rfl, e⟩ | ⟨y, u, rfl, e⟩
    · exact nomatch e
    · injection e with e1 _
      subst e1
      cases v <;> rfl

end L2

namespace L2
open PySem PySem.Spec PyProof.Rows

inductive V where
  | non | bl (b : Bool) | int (i : Int) | str (x : Str) | byt (b : Array UInt8) | flt (b : UInt64) | ref (a : Addr) | ty (n : String)
  deriving DecidableEq

def RelV : V → Value → Prop
  | .non, u => u = Value.none
  | .bl b, u => u = Value.bool b
  | .int i, u => ∃ t, u = Value.int i t
  | .str x, u => ∃ t, u = Value.str x t
  | .byt b, u => ∃ t, u = Value.bytes b t
  | .flt b, u => ∃ t, u = Value.float b t
  | .ref a, u => u = Value.ref a
  | .ty n, u => u = Value.type n

abbrev Vals : List V → List Value → Prop := Paired RelV
theorem Vals.length {xs : List V} {us : List Value} (r : Vals xs us) : xs.length = us.length := Paired.length r
theorem Vals.get : ∀ {xs : List V} {us : List Value} {i : Nat} {x : V}, Vals xs us → xs[i]? = some x → ∃ u, us[i]? = some u ∧ RelV x u
  | _, _, _, _, .nil, e => by simp at e
  | _, _, 0, _, .cons r _, e => by simp at e; subst e; exact ⟨_, rfl, r⟩
  | _, _, i + 1, x, .cons _ t, e => by
    obtain ⟨u, h1, h2⟩ := Vals.get (i := i) (x := x) t (by simpa using e)
    exact ⟨u, by simpa using h1, h2⟩
theorem Vals.set {x : V} {u : Value} (r : RelV x u) : ∀ {xs : List V} {us : List Value} (i : Nat), Vals xs us → Vals (xs.set i x) (us.set i u)
  | _, _, _, .nil => .nil
  | _, _, 0, .cons _ t => .cons r t
  | _, _, i + 1, .cons q t => .cons q (Vals.set r i t)
theorem Vals.append : ∀ {xs ys : List V} {us ws : List Value}, Vals xs us → Vals ys ws → Vals (xs ++ ys) (us ++ ws)
  | _, _, _, _, .nil, s => s
  | _, _, _, _, .cons r t, s => .cons r (Vals.append t s)
theorem Vals.take : ∀ {xs : List V} {us : List Value} (n : Nat), Vals xs us → Vals (xs.take n) (us.take n)
  | _, _, 0, _ => .nil
  | _, _, _ + 1, .nil => .nil
  | _, _, n + 1, .cons r t => .cons r (Vals.take n t)
theorem Vals.drop : ∀ {xs : List V} {us : List Value} (n : Nat), Vals xs us → Vals (xs.drop n) (us.drop n)
  | _, _, 0, r => r
  | _, _, _ + 1, .nil => .nil
  | _, _, n + 1, .cons _ t => Vals.drop n t
def RelO : Option V → Option Value → Prop
  | some v, some u => RelV v u
  | none, none => True
  | _, _ => False
def KV {κ : Type} : List (κ × V) → List (κ × Value) → Prop := Paired fun (p : κ × V) (q : κ × Value) => p.1 = q.1 ∧ RelV p.2 q.2

def kV : Key → V
  | .inl i => .int i
  | .inr x => .str x

inductive HO where
    | lst (xs : List V)
    | tup (xs : List V)
    | dK (kvs : List (Key × V)) | dT (kvs : List (List Key × V))
    | set (S : Int → Bool) (n : Nat)
    | ins (C dx : Addr) (fs : List (Str × V))
    | own (x : Addr)
    | xd (fs : List (Str × V))
    | met (f x : Addr)
    | rng (lo hi : Int)
    | frz (o : Obj) (u : HO)
    | tbl (ps : Array Value)
    | ext (φ : Heap → Prop)

abbrev Hp := Addr → Option HO
def upd (H : Hp) (a : Addr) (o : HO) : Hp := fun b => if b = a then some o else H b
theorem upd_same {H : Hp} {a : Addr} {o : HO} : upd H a o a = some o := by unfold upd; rw [if_pos rfl]
theorem upd_ne {H : Hp} {a b : Addr} {o : HO} (h : b ≠ a) : upd H a o b = H b := by unfold upd; rw [if_neg h]
theorem upd_upd {H : Hp} {a : Addr} {o u : HO} : upd (upd H a o) a u = upd H a u := by
  funext b; unfold upd; split <;> rfl
theorem ne_of {H : Hp} {a b : Addr} {o u : HO} (h : H a = some o) (h' : H b = some u) (d : o ≠ u) : a ≠ b := by
  intro e; subst e; rw [h] at h'; exact d (Option.some.inj h')
theorem ne_of_none {H : Hp} {a b : Addr} {o : HO} (h : H a = some o) (h' : H b = none) : a ≠ b := by
  intro e; subst e; rw [h] at h'; cases h'

section
variable (P : Program) (w : World)
def ObjOk (H : Hp) (h : Heap) (a : Addr) : HO → Prop
  | .lst xs => xs.length ≤ sizeLine ∧ ∃ (its : List Value) (n : Nat), Vals xs its ∧ h.get? a = some { cls := .type "list", data := .seq its.toArray n }
  | .tup xs => xs.length ≤ sizeLine ∧ ∃ its : List Value, Vals xs its ∧ IsTup h a its.toArray
  | .dK kvs => kvs.length ≤ sizeLine ∧ (a == sysModules) = false ∧ ∃ vs, KV kvs vs ∧ h.DictOf (mixKind P w) a vs
  | .dT kvs => kvs.length ≤ sizeLine ∧ (a == sysModules) = false ∧ ∃ xs : List (List Key × Addr × Value),
      Paired (fun (p : List Key × V) (q : List Key × Addr × Value) => p.1 = q.1 ∧ H q.2.1 = some (.tup (p.1.map kV)) ∧ RelV p.2 q.2.2) kvs xs ∧
      ∃ o es ep, h.get? a = some o ∧ o.ExactDict ∧ o.data = .dict es ep ∧ es.toList = xs.map (entryOfKey (tupleKind (mixKind P w))) ∧ (xs.map (·.1)).Nodup
  | .set S n => h.SetOf (intKind P w) a S n
  | .ins C dx fs => H dx = some (.own a) ∧ fs.length ≤ 1000 ∧ dx ≠ a ∧ h.get? a = some (PySem.W.instObj C dx) ∧
      ∃ mA, h.Ns1 dx mA ∧ (∀ f, RelO (fs.lookup f) (mA f)) ∧ PySem.Within mA (fs.map (·.1))
  | .own _ => ∃ o, h.get? a = some o
  | .xd fs => ∃ mA, h.Ns1 a mA ∧ ∀ f, RelO (fs.lookup f) (mA f)
  | .rng lo hi => ∃ t u v, h.get? a = some { cls := .type "range", data := .fields #[.int lo t, .int hi u, .int 1 v] }
  | .frz o u => h.get? a = some o ∧ ObjOk H h a u
  | .tbl ps => h.get? a = some { cls := .none, data := .fields ps }
  | .met f x => h.get? a = some (PySem.W.methodObj (.ref f) (.ref x))
  | .ext φ => φ h ∧ (∃ o, h.get? a = some o) ∧ ∀ h1 h2 : Heap, φ h1 → (∀ o, h1.get? a = some o → h2.get? a = some o) → φ h2
def HOk (H : Hp) (h : Heap) : Prop := ∀ a o, H a = some o → ObjOk P w H h a o
end

section
variable {P : Program} {w : World} {H H' : Hp} {h h' : Heap} {a : Addr} {o : HO}
theorem ObjOk.lt (x : ObjOk P w H h a o) : a < h.objs.size := by
  cases o with
  | lst xs => obtain ⟨_, _, _, _, e⟩ := x; exact Heap.lt_size e
  | tup xs => obtain ⟨_, _, _, p⟩ := x; exact p.lt
  | dK kvs => obtain ⟨_, _, _, _, o, _, _, e, _⟩ := x; exact Heap.lt_size e
  | dT kvs => obtain ⟨_, _, _, _, o, _, _, e, _⟩ := x; exact Heap.lt_size e
  | set S n => obtain ⟨o, _, _, _, e, _⟩ := x; exact Heap.lt_size e
  | ins C dx fs => obtain ⟨_, _, _, e, _⟩ := x; exact Heap.lt_size e
  | own y => obtain ⟨_, e⟩ := x; exact Heap.lt_size e
  | xd fs => obtain ⟨_, ⟨_, _, _, e, _⟩, _⟩ := x; exact Heap.lt_size e
  | rng lo hi => obtain ⟨_, _, _, e⟩ := x; exact Heap.lt_size e
  | frz ob u => obtain ⟨e, _⟩ := x; exact Heap.lt_size e
  | tbl ps => exact Heap.lt_size (show h.get? a = some _ from x)
  | met f y => exact Heap.lt_size (show h.get? a = some _ from x)
  | ext φ => obtain ⟨_, ⟨_, e⟩, _⟩ := x; exact Heap.lt_size e
theorem Paired.mapP {α β : Type} {F G : α → β → Prop} : ∀ {l₁ : List α} {l₂ : List β}, Paired F l₁ l₂ → (∀ a b, F a b → G a b) → Paired G l₁ l₂
  | _, _, .nil, _ => .nil
  | _, _, .cons r t, f => .cons (f _ _ r) (Paired.mapP t f)
theorem ObjOk.stay (x : ObjOk P w H h a o) (k : ∀ b u, (b = a ∨ H b = some (.own a)) → h.get? b = some u → h'.get? b = some u)
    (ho : ∀ b, H b = some (.own a) → H' b = some (.own a)) (ht : ∀ b xs, H b = some (.tup xs) → H' b = some (.tup xs)) : ObjOk P w H' h' a o := by
  induction o with
  | lst xs => obtain ⟨z, its, n, r, e⟩ := x; exact ⟨z, its, n, r, k _ _ (.inl rfl) e⟩
  | tup xs => obtain ⟨z, its, r, ob, e, c⟩ := x; exact ⟨z, its, r, ob, k _ _ (.inl rfl) e, c⟩
  | dK kvs => obtain ⟨z, y, vs, r, ob, es, ep, e, c⟩ := x; exact ⟨z, y, vs, r, ob, es, ep, k _ _ (.inl rfl) e, c⟩
  | dT kvs =>
    obtain ⟨z, y, xs, r, ob, es, ep, e, c⟩ := x
    exact ⟨z, y, xs, Paired.mapP r fun p q z => ⟨z.1, ht _ _ z.2.1, z.2.2⟩, ob, es, ep, k _ _ (.inl rfl) e, c⟩
  | set S n => obtain ⟨ob, es, ep, t, e, c⟩ := x; exact ⟨ob, es, ep, t, k _ _ (.inl rfl) e, c⟩
  | ins C dx fs =>
    obtain ⟨d, z, ne, e, mA, ⟨od, es, ep, e2, c⟩, r⟩ := x
    exact ⟨ho _ d, z, ne, k _ _ (.inl rfl) e, mA, ⟨od, es, ep, k _ _ (.inr d) e2, c⟩, r⟩
  | own y => obtain ⟨ob, e⟩ := x; exact ⟨ob, k _ _ (.inl rfl) e⟩
  | xd fs => obtain ⟨mA, ⟨od, es, ep, e, c⟩, r⟩ := x; exact ⟨mA, ⟨od, es, ep, k _ _ (.inl rfl) e, c⟩, r⟩
  | rng lo hi => obtain ⟨t, u, v, e⟩ := x; exact ⟨t, u, v, k _ _ (.inl rfl) e⟩
  | frz ob u ih => obtain ⟨e, q⟩ := x; exact ⟨k _ _ (.inl rfl) e, ih q⟩
  | tbl ps =>
    have e : h.get? a = some { cls := .none, data := .fields ps } := x
    show h'.get? a = some { cls := .none, data := .fields ps }
    exact k a _ (.inl rfl) e
  | met f y =>
    have e : h.get? a = some (PySem.W.methodObj (.ref f) (.ref y)) := x
    show h'.get? a = some (PySem.W.methodObj (.ref f) (.ref y))
    exact k a _ (.inl rfl) e
  | ext φ => obtain ⟨p, ⟨o, e⟩, st⟩ := x; exact ⟨st _ _ p fun o q => k _ _ (.inl rfl) q, ⟨o, k _ _ (.inl rfl) e⟩, st⟩
theorem HOk.lt (x : HOk P w H h) (e : H a = some o) : a < h.objs.size := (x a o e).lt
theorem HOk.fresh (x : HOk P w H h) (e : h.objs.size ≤ a) : H a = none := by
  cases q : H a with
  | none => rfl
  | some u => exact absurd (Nat.lt_of_lt_of_le (x.lt q) e) (Nat.lt_irrefl _)
theorem HOk.kept (x : HOk P w H h) (k : ∀ b u, h.get? b = some u → h'.get? b = some u) : HOk P w H h' := fun a o e =>
  (x a o e).stay (fun b u _ q => k b u q) (fun _ q => q) fun _ _ q => q
theorem HOk.laid (x : HOk P w H h) (k : ∀ b u, h.get? b = some u → h'.get? b = some u) (hp : h.objs.size ≤ a) (new : ObjOk P w (upd H a o) h' a o) : HOk P w (upd H a o) h' := fun b u e => by
  have hn := x.fresh hp
  by_cases hb : b = a
  · subst hb; rw [upd_same] at e; cases e; exact new
  · rw [upd_ne hb] at e
    exact (x b u e).stay (fun c v _ q => k c v q) (fun c q => by rw [upd_ne (ne_of_none q hn)]; exact q) fun c xs q => by rw [upd_ne (ne_of_none q hn)]; exact q
end

def Rd (H : Hp) (a : Addr) (u : HO) : Prop := H a = some u ∨ ∃ o, H a = some (.frz o u)
theorem Rd.ok {P : Program} {w : World} {H : Hp} {h : Heap} {a : Addr} {u : HO} (r : Rd H a u) (x : HOk P w H h) : ObjOk P w H h a u := by
  rcases r with r | ⟨o, r⟩
  · exact x a u r
  · obtain ⟨_, q⟩ := x a _ r
    exact q
def Mut : Option HO → Prop
  | some (.lst _) => True
  | some (.dK _) => True
  | some (.dT _) => True
  | some (.set _ _) => True
  | some (.ins _ _ _) => True
  | some (.ext _) => True
  | _ => False
section
variable {P : Program} {w : World} {H : Hp} {h h' : Heap} {x e : Addr} {o' : HO}
theorem HOk.write (ok : HOk P w H h) (mu : Mut (H x)) (he : e = x ∨ H e = some (.own x)) (k : ∀ b u, b ≠ e → h.get? b = some u → h'.get? b = some u) (heo : ∃ u, h'.get? e = some u)
    (new : ObjOk P w (upd H x o') h' x o') : HOk P w (upd H x o') h' := fun b u q => by
  have nown : ∀ c y, H c = some (.own y) → c ≠ x := fun c y r z => by subst z; rw [r] at mu; exact mu
  have ntup : ∀ c xs, H c = some (.tup xs) → c ≠ x := fun c xs r z => by subst z; rw [r] at mu; exact mu
  by_cases hb : b = x
  · subst hb; rw [upd_same] at q; cases q; exact new
  · rw [upd_ne hb] at q
    by_cases hbe : b = e
    · have q' : H b = some (.own x) := by
        rcases he with z | z
        · exact absurd (hbe.trans z) hb
        · rw [hbe]; exact z
      rw [q] at q'; cases q'
      obtain ⟨v, hv⟩ := heo
      exact ⟨v, by rw [hbe]; exact hv⟩
    · refine (ok b u q).stay (fun c v hc r => k c v ?_ r) (fun c r => by rw [upd_ne (nown c b r)]; exact r) fun c xs r => by rw [upd_ne (ntup c xs r)]; exact r
      rcases hc with rfl | hc
      · exact hbe
      · rintro rfl
        rcases he with z | z
        · exact nown c b hc z
        · rw [hc] at z; cases z; exact hb rfl
end

structure Un (fs ex : List Addr) (H H' : Hp) (h h' : Heap) : Prop where
  keep : ∀ b o, h.get? b = some o → H b = none → b ∉ fs → b ∉ ex → h'.get? b = some o
  slot : ∀ b o, h.get? b = some o → H b = none → b ∈ fs → b ∉ ex → ∃ sl, h'.get? b = some { o with slots := sl }
  free : ∀ b o, h.get? b = some o → H b = none → b ∉ ex → H' b = none
  there : ∀ b o, h.get? b = some o → b ∉ ex → ∃ o', h'.get? b = some o'
  tups : ∀ b xs, H b = some (.tup xs) → H' b = some (.tup xs)
  frzs : ∀ b o u, H b = some (.frz o u) → H' b = some (.frz o u)
  tbls : ∀ b ps, H b = some (.tbl ps) → ∃ more, H' b = some (.tbl (ps ++ more))
section
variable {fs fs' ex ex' : List Addr} {H H1 H2 : Hp} {h h1 h2 h' : Heap} {a x e : Addr} {o : HO}
theorem Un.any (u : Un fs ex H H1 h h1) {b : Addr} {ob : Obj} (q : h.get? b = some ob) (n : H b = none) (hx : b ∉ ex) : ∃ sl, h1.get? b = some { ob with slots := sl } := by
  by_cases hb : b ∈ fs
  · exact u.slot b ob q n hb hx
  · exact ⟨ob.slots, u.keep b ob q n hb hx⟩
theorem Un.kept (k : ∀ b u, h.get? b = some u → h'.get? b = some u) : Un fs ex H H h h' :=
  ⟨fun b ob q _ _ _ => k b ob q, fun b ob q _ _ _ => ⟨ob.slots, k b ob q⟩, fun _ _ _ n _ => n, fun b ob q _ => ⟨ob, k b ob q⟩, fun _ _ q => q, fun _ _ _ q => q, fun _ ps q => ⟨#[], by rw [q]; simp⟩⟩
theorem Un.refl : Un fs ex H H h h := Un.kept fun _ _ q => q
theorem Un.laid (k : ∀ b u, h.get? b = some u → h'.get? b = some u) (hp : h.objs.size ≤ a) (hn : H a = none) : Un fs ex H (upd H a o) h h' where
  keep := fun b u q _ _ _ => k b u q
  slot := fun b u q _ _ _ => ⟨u.slots, k b u q⟩
  free := fun b u q n _ => by rw [upd_ne (Nat.ne_of_lt (Nat.lt_of_lt_of_le (Heap.lt_size q) hp))]; exact n
  there := fun b u q _ => ⟨u, k b u q⟩
  tups := fun b xs q => by rw [upd_ne (ne_of_none q hn)]; exact q
  frzs := fun b u xs q => by rw [upd_ne (ne_of_none q hn)]; exact q
  tbls := fun b ps q => ⟨#[], by rw [upd_ne (ne_of_none q hn), q]; simp⟩
theorem Un.write (mu : Mut (H x)) (he : e = x ∨ H e = some (.own x)) (k : ∀ b u, b ≠ e → h.get? b = some u → h'.get? b = some u) (heo : ∃ u, h'.get? e = some u) : Un fs ex H (upd H x o) h h' := by
  have hx : ∀ b, H b = none → b ≠ x := fun b n z => by subst z; rw [n] at mu; exact mu
  have hb : ∀ b, H b = none → b ≠ e := fun b n z => by
    subst z
    rcases he with r | r
    · exact hx b n r
    · rw [n] at r; cases r
  have hm : ∀ b u, H b = some u → ¬ Mut (some u) → b ≠ x := fun b u q nm z => by subst z; rw [q] at mu; exact nm mu
  refine ⟨fun b u q n _ _ => k b u (hb b n) q, fun b u q n _ _ => ⟨u.slots, k b u (hb b n) q⟩, fun b u q n _ => by rw [upd_ne (hx b n)]; exact n, fun b u q _ => ?_,
    fun b xs q => by rw [upd_ne (hm b _ q fun z => z)]; exact q, fun b u xs q => by rw [upd_ne (hm b _ q fun z => z)]; exact q, fun b ps q => ⟨#[], by rw [upd_ne (hm b _ q fun z => z), q]; simp⟩⟩
  by_cases hbe : b = e
  · subst hbe; exact heo
  · exact ⟨u, k b u hbe q⟩
end

def trk (h : Heap) (H : Hp) : List Addr := (List.range h.objs.size).filter fun a => (H a).isSome
def hidT (h : Heap) (H : Hp) : Heap := PySem.W.hideAll h (trk h H)
theorem hidT_size (h : Heap) (H : Hp) : (hidT h H).objs.size = h.objs.size := PySem.W.hideAll_size _ _
theorem hidT_get {h : Heap} {H : Hp} {b : Addr} {o : Obj} (e : h.get? b = some o) (n : H b = none) : (hidT h H).get? b = some o :=
  PySem.W.hideAll_get _ e fun hm => by
    have q : (H b).isSome = true := (List.mem_filter.mp hm).2
    rw [n] at q; simp at q
theorem of_hidT {h : Heap} {H : Hp} {b : Addr} {o : Obj} (e : (hidT h H).get? b = some o) : h.get? b = some o ∧ H b = none := by
  have e' : h.get? b = some o := PySem.W.of_hideAll (trk h H) e
  refine ⟨e', ?_⟩
  cases q : H b with
  | none => rfl
  | some x =>
    have hm : b ∈ trk h H := List.mem_filter.mpr ⟨List.mem_range.mpr (Heap.lt_size e'), by simp [q]⟩
    have z : (hidT h H).get? b = none := PySem.W.hideAll_none (trk h H) hm
    rw [z] at e; cases e

def allNews (g h : Heap) (L : Addr) : List (Addr × Obj) := (List.range h.objs.size).filterMap fun a => if a = L ∨ (g.get? a).isSome = true then none else (h.get? a).map fun o => (a, o)
def rest (g h : Heap) (L d : Addr) : List (Addr × Obj) := (allNews g h L).filter fun p => decide (p.1 ≠ d)
end L2

namespace L2
open PySem PySem.Spec PyProof.Rows

structure Mod (K : PySem.W.Frag) (mg : Str → Option Value) (base : Heap) : Prop where
  kin : K.In base
  glob : base.Ns mainGlobals mg
  blt : ∃ mb, base.Ns builtinsNs mb ∧ ∀ x : Str, x ≠ "__name__" → mb x = bootBuiltins x
  nolimit : base.NoLimit

structure Cx where
  prog : Program
  w : World
  K : PySem.W.Frag
  mg : Str → Option Value
  base : Heap
  A : Around
  N : List Str
  s₀ : Shared
  H₀ : Hp
  env : Env
  outer : List Env
  stack : List Env
  ex : List Addr
  fn : Str → Bool
  calm : Bool
  pn : List (Addr × Obj)
  xe : Value → Shared → Prop
def frs (l : List Env) : List Addr := l.filterMap (·.frame)
abbrev Cx.fs (X : Cx) : List Addr := frs X.outer

def Vis (sc : Scope) (x : Str) : Prop := sc.names.lookup x = some .local ∨ sc.names.lookup x = some .cell ∨ sc.names.lookup x = some .free
def Loc (sc : Scope) (x : Str) : Prop := sc.names.lookup x = some .local ∨ sc.names.lookup x = some .cell
def Look (env : Env) (h : Heap) (m : Str → Option Value) (x : Str) (u : Value) : Prop :=
  (env.kindOf x = some .local ∧ m x = some u) ∨ ((env.kindOf x = some .cell ∨ env.kindOf x = some .free) ∧ ∃ c, env.cells.lookup x = some c ∧ h.IsCell c (some u))

structure Cx.Ok (X : Cx) : Prop where
  mod : Mod X.K X.mg X.base
  kind : X.env.scope.kind = .function
  glob : X.env.globals = mainGlobals
  blt : X.env.builtins = builtinsNs
  above : X.s₀.heap.objs.size ≤ X.env.locals
  inj : ∀ x y c, X.env.cells.lookup x = some c → X.env.cells.lookup y = some c → x = y
  has : ∀ x, (X.env.kindOf x = some .cell ∨ X.env.kindOf x = some .free) → ∃ c, X.env.cells.lookup x = some c
  cab : ∀ x c, X.fn x = true → X.env.cells.lookup x = some c → X.s₀.heap.objs.size ≤ c
  hd : X.calm = true → X.A.handled = none
  frames : X.A.frames = some X.stack
  stk : X.stack = X.outer ∨ (X.stack = X.env :: X.outer ∧ X.env.frame = some X.env.locals)
  exf : ∀ b ∈ X.ex, b ≠ X.env.locals ∧ ∀ x c, X.env.cells.lookup x = some c → c ≠ b
  bs : ∀ b o, X.base.get? b = some o → X.s₀.heap.get? b = some o ∧ X.H₀ b = none
  bsz : X.base.objs.size ≤ X.s₀.heap.objs.size
  noex : ∀ b o, X.base.get? b = some o → b ∉ X.ex
  exfs : ∀ b ∈ X.ex, b ∉ X.fs
  funs : X.s₀.heap.FunFrames X.base X.outer
  frf : ∀ b ∈ X.fs, X.H₀ b = none

structure Inv (X : Cx) (pins : List (Addr × Obj)) (σ : List (Option V)) (H : Hp) (s : Shared) : Prop where
  ok : X.Ok
  os : s.os = X.s₀.os
  bare : AllBare s.gens
  base : Un X.fs X.ex X.H₀ H X.s₀.heap s.heap
  loc : ∃ m, s.heap.Ns X.env.locals m ∧ ∀ (i : Nat) (x : Str) (v : V), X.N[i]? = some x → σ[i]? = some (some v) → Vis X.env.scope x → ∃ u, RelV v u ∧ Look X.env s.heap m x u
  cell : ∀ x c, X.env.cells.lookup x = some c → ∃ v, s.heap.IsCell c v
  free : H X.env.locals = none
  freeC : ∀ x c, X.env.cells.lookup x = some c → H c = none
  pin : ∀ p ∈ X.pn ++ pins, s.heap.get? p.1 = some p.2 ∧ H p.1 = none ∧ p.1 ≠ X.env.locals ∧ p.1 ∉ X.fs ∧ ∀ v, p.2.data ≠ .cell v
  hok : HOk X.prog X.w H s.heap
  len : σ.length = X.N.length

section
variable {X : Cx} {pins : List (Addr × Obj)} {σ : List (Option V)} {H H' : Hp} {s : Shared} {h' : Heap}

theorem Cx.Ok.nofr (ok : X.Ok) {b : Addr} {o : Obj} (e : X.base.get? b = some o) : b ∉ X.fs := fun hb => by
  have := (ok.funs.mem hb).1
  rw [e] at this; cases this
theorem Inv.bs (I : Inv X pins σ H s) : ∀ b o, X.base.get? b = some o → s.heap.get? b = some o ∧ H b = none := fun b o e =>
  ⟨I.base.keep b o (I.ok.bs b o e).1 (I.ok.bs b o e).2 (I.ok.nofr e) (I.ok.noex b o e), I.base.free b o (I.ok.bs b o e).1 (I.ok.bs b o e).2 (I.ok.noex b o e)⟩
theorem Inv.bk (I : Inv X pins σ H s) : ∀ b o, X.base.get? b = some o → s.heap.get? b = some o := fun b o e => (I.bs b o e).1
theorem Inv.mod (I : Inv X pins σ H s) : Mod X.K X.mg X.base := I.ok.mod
theorem Inv.kIn (I : Inv X pins σ H s) : X.K.In s.heap := I.ok.mod.kin.keeps I.bk
theorem Inv.lt (I : Inv X pins σ H s) : X.env.locals < s.heap.objs.size := let ⟨_, hn, _⟩ := I.loc; hn.lt
theorem Inv.sz (I : Inv X pins σ H s) : X.s₀.heap.objs.size ≤ s.heap.objs.size := Nat.le_trans I.ok.above (Nat.le_of_lt I.lt)
theorem Inv.nofs (I : Inv X pins σ H s) {a : Addr} (h : s.heap.objs.size ≤ a) : a ∉ X.fs := fun hb => by
  obtain ⟨_, o, ho, _⟩ := I.ok.funs.mem hb
  exact absurd (Nat.lt_of_lt_of_le (Heap.lt_size ho) (Nat.le_trans I.sz h)) (Nat.lt_irrefl _)
theorem Inv.cne (I : Inv X pins σ H s) : ∀ x c, X.env.cells.lookup x = some c → c ≠ X.env.locals := fun x c e z => by
  obtain ⟨v, o, ho, hd⟩ := I.cell x c e
  obtain ⟨m, ⟨o', es, ep, ho', hd', _⟩, _⟩ := I.loc
  rw [z, ho'] at ho; cases ho; rw [hd'] at hd; cases hd
theorem Inv.funs (I : Inv X pins σ H s) : s.heap.FunFrames X.base X.outer := by
  have all : ∀ (l : List Env), (∀ b ∈ frs l, b ∈ X.fs) → X.s₀.heap.FunFrames X.base l → s.heap.FunFrames X.base l := by
    intro l
    induction l with
    | nil => intro _ _; trivial
    | cons env r ih =>
      intro hs hl
      obtain ⟨hk, ⟨L, o, hf, hn, ho, hd⟩, hr⟩ := hl
      have hL : L ∈ X.fs := hs L (by unfold frs; rw [List.filterMap_cons, hf]; exact List.mem_cons_self)
      obtain ⟨sl, e⟩ := I.base.slot L o ho (I.ok.frf L hL) hL fun z => I.ok.exfs L z hL
      exact ⟨hk, ⟨L, _, hf, hn, e, hd⟩, ih (fun b hb => hs b (by unfold frs; rw [List.filterMap_cons, hf]; exact List.mem_cons_of_mem _ hb)) hr⟩
  exact all X.outer (fun _ hb => hb) I.ok.funs

theorem Inv.stack (I : Inv X pins σ H s) : s.heap.FunFrames X.base X.stack := by
  rcases I.ok.stk with e | ⟨e, hf⟩
  · rw [e]; exact I.funs
  · rw [e]
    obtain ⟨m, hn, _⟩ := I.loc
    refine .cons (by rw [I.ok.kind]; decide) hf hn ?_ I.funs
    exact Heap.get?_none_of_le (Nat.le_trans I.ok.bsz I.ok.above)
theorem Inv.stkSub (I : Inv X pins σ H s) : ∀ b ∈ frs X.stack, b ∈ X.env.locals :: X.fs := fun b hb => by
  rcases I.ok.stk with e | ⟨e, hf⟩
  · rw [e] at hb; exact List.mem_cons_of_mem _ hb
  · rw [e] at hb
    unfold frs at hb
    rw [List.filterMap_cons, hf] at hb
    exact hb
theorem Inv.stkFree (I : Inv X pins σ H s) : ∀ b ∈ frs X.stack, H b = none := fun b hb => by
  rcases List.mem_cons.mp (I.stkSub b hb) with e | hb
  · rw [e]; exact I.free
  · obtain ⟨_, o, ho, _⟩ := I.ok.funs.mem hb
    exact I.base.free b o ho (I.ok.frf b hb) fun z => I.ok.exfs b z hb

theorem Inv.step {g' : Array GenState} {t' : Nat} {d' : Drawn} {ch : List Addr} (I : Inv X pins σ H s)
    (hch : ∀ b ∈ ch, (b ∈ X.ex ∨ X.s₀.heap.objs.size ≤ b) ∧ b ≠ X.env.locals ∧ (∀ x c, X.env.cells.lookup x = some c → c ≠ b) ∧ ∀ p ∈ X.pn ++ pins, p.1 ≠ b)
    (keep : ∀ b o, b ≠ X.env.locals → b ∉ X.fs → b ∉ ch → s.heap.get? b = some o → H b = none → h'.get? b = some o)
    (slot : ∀ b o, b ≠ X.env.locals → b ∈ X.fs → b ∉ ch → s.heap.get? b = some o → H b = none → ∃ sl, h'.get? b = some { o with slots := sl }) (free : ∀ b o, b ∉ ch → s.heap.get? b = some o → H b = none → H' b = none)
    (there : ∀ b o, b ∉ ch → s.heap.get? b = some o → ∃ o', h'.get? b = some o')
    (tups : ∀ b xs, H b = some (.tup xs) → H' b = some (.tup xs)) (frzs : ∀ b o u, H b = some (.frz o u) → H' b = some (.frz o u)) (tbls : ∀ b ps, H b = some (.tbl ps) → ∃ more, H' b = some (.tbl (ps ++ more)))
    (ns : ∀ m, s.heap.Ns X.env.locals m → h'.Ns X.env.locals m) (hok : HOk X.prog X.w H' h') (hg : AllBare g') :
    Inv X pins σ H' { s with heap := h', gens := g', drawn := d', toks := t' } := by
  have neL : ∀ b o, X.s₀.heap.get? b = some o → b ≠ X.env.locals := fun b o e => Nat.ne_of_lt (Nat.lt_of_lt_of_le (Heap.lt_size e) I.ok.above)
  have neC : ∀ b o, X.s₀.heap.get? b = some o → b ∉ X.ex → b ∉ ch := fun b o e hx hb => by
    rcases (hch b hb).1 with z | z
    · exact hx z
    · exact absurd (Nat.lt_of_lt_of_le (Heap.lt_size e) z) (Nat.lt_irrefl _)
  have cellK : ∀ x c, X.env.cells.lookup x = some c → ∀ v, s.heap.IsCell c v → h'.IsCell c v := fun x c e v ⟨o, ho, hd⟩ => by
    have nch : c ∉ ch := fun z => (hch c z).2.2.1 x c e rfl
    by_cases hc : c ∈ X.fs
    · obtain ⟨sl, q⟩ := slot c o (I.cne x c e) hc nch ho (I.freeC x c e)
      exact ⟨_, q, hd⟩
    · exact ⟨o, keep c o (I.cne x c e) hc nch ho (I.freeC x c e), hd⟩
  refine ⟨I.ok, I.os, hg, ⟨fun b o e n hb hx => ?_, fun b o e n hb hx => ?_, fun b o e n hx => ?_, fun b o e hx => ?_, fun b xs e => tups b xs (I.base.tups b xs e), fun b o xs e => frzs b o xs (I.base.frzs b o xs e), fun b ps e => ?_⟩, ?_, fun x c e => ?_, ?_, fun x c e => ?_, fun p hp => ?_, hok, I.len⟩
  · exact keep b o (neL b o e) hb (neC b o e hx) (I.base.keep b o e n hb hx) (I.base.free b o e n hx)
  · obtain ⟨sl, e1⟩ := I.base.slot b o e n hb hx
    obtain ⟨sl', e2⟩ := slot b _ (neL b o e) hb (neC b o e hx) e1 (I.base.free b o e n hx)
    exact ⟨sl', e2⟩
  · obtain ⟨o', e1⟩ := I.base.there b o e hx
    exact free b o' (neC b o e hx) e1 (I.base.free b o e n hx)
  · obtain ⟨o', e1⟩ := I.base.there b o e hx
    exact there b o' (neC b o e hx) e1
  · obtain ⟨m1, e1⟩ := I.base.tbls b ps e
    obtain ⟨m2, e2⟩ := tbls b _ e1
    exact ⟨m1 ++ m2, by rw [e2, Array.append_assoc]⟩
  · obtain ⟨m, hn, hl⟩ := I.loc
    refine ⟨m, ns m hn, fun i x v e1 e2 e3 => ?_⟩
    obtain ⟨u, r, l⟩ := hl i x v e1 e2 e3
    refine ⟨u, r, ?_⟩
    rcases l with l | ⟨k, c, e, z⟩
    · exact .inl l
    · exact .inr ⟨k, c, e, cellK x c e _ z⟩
  · obtain ⟨v, z⟩ := I.cell x c e
    exact ⟨v, cellK x c e v z⟩
  · obtain ⟨m, ⟨o, _, _, ho, _⟩, _⟩ := I.loc
    exact free _ o (fun z => (hch _ z).2.1 rfl) ho I.free
  · obtain ⟨v, o, ho, hd⟩ := I.cell x c e
    exact free c o (fun z => (hch c z).2.2.1 x c e rfl) ho (I.freeC x c e)
  · obtain ⟨e, n, ne, nf, d⟩ := I.pin p hp
    have nch : p.1 ∉ ch := fun z => (hch p.1 z).2.2.2 p hp rfl
    exact ⟨keep p.1 p.2 ne nf nch e n, free p.1 p.2 nch e n, ne, nf, d⟩
theorem Inv.un {t' : Nat} (I : Inv X pins σ H s) (u : Un X.fs [] H H' s.heap h') (hok : HOk X.prog X.w H' h') : Inv X pins σ H' { s with heap := h', toks := t' } := by
  obtain ⟨m, ⟨o, es, ep, ho, r⟩, _⟩ := id I.loc
  obtain ⟨sl, hL⟩ := u.any ho I.free (by simp)
  exact I.step (g' := s.gens) (d' := s.drawn) (ch := []) (fun _ z => nomatch z) (fun b o _ hb _ e n => u.keep b o e n hb (by simp)) (fun b o _ hb _ e n => u.slot b o e n hb (by simp)) (fun b o _ e n => u.free b o e n (by simp)) (fun b o _ e => u.there b o e (by simp)) u.tups u.frzs u.tbls (fun m' hm => by
    obtain ⟨o', es', ep', ho', r'⟩ := hm
    rw [ho] at ho'; cases ho'
    exact ⟨_, es', ep', hL, r'⟩) hok I.bare
theorem Inv.call {g' : Array GenState} {t' : Nat} {d' : Drawn} {ch : List Addr} (I : Inv X pins σ H s) (u : Un (frs X.stack) ch H H' s.heap h') (hok : HOk X.prog X.w H' h') (hg : AllBare g')
    (hch : ∀ b ∈ ch, (b ∈ X.ex ∨ X.s₀.heap.objs.size ≤ b) ∧ b ≠ X.env.locals ∧ (∀ x c, X.env.cells.lookup x = some c → c ≠ b) ∧ ∀ p ∈ X.pn ++ pins, p.1 ≠ b) :
    Inv X pins σ H' { s with heap := h', gens := g', drawn := d', toks := t' } := by
  obtain ⟨m, ⟨o, es, ep, ho, r⟩, _⟩ := id I.loc
  obtain ⟨sl, hL⟩ := u.any ho I.free fun z => (hch _ z).2.1 rfl
  exact I.step (ch := ch) hch (fun b o hL hb hc e n => u.keep b o e n (fun z => (List.mem_cons.mp (I.stkSub b z)).elim hL hb) hc) (fun b o _ _ hc e n => u.any e n hc) (fun b o hc e n => u.free b o e n hc) (fun b o hc e => u.there b o e hc) u.tups u.frzs u.tbls (fun m' hm => by
    obtain ⟨o', es', ep', ho', r'⟩ := hm
    rw [ho] at ho'; cases ho'
    exact ⟨_, es', ep', hL, r'⟩) hok hg
theorem Inv.turned {t' : Nat} {it : Addr} (I : Inv X pins σ H s) (k : ∀ b o, b ≠ it → s.heap.get? b = some o → h'.get? b = some o) (hn : H it = none) (hL : it ≠ X.env.locals)
    (h1 : it ∈ X.ex ∨ X.s₀.heap.objs.size ≤ it) (h2 : ∀ x c, X.env.cells.lookup x = some c → c ≠ it) (h3 : ∀ p ∈ X.pn ++ pins, p.1 ≠ it) : Inv X pins σ H { s with heap := h', toks := t' } := by
  have nit : ∀ b u, H b = some u → b ≠ it := fun b u e z => by rw [z, hn] at e; cases e
  refine I.step (g' := s.gens) (d' := s.drawn) (ch := [it]) (fun b hb => ?_) (fun b o _ _ hc e _ => k b o (fun z => hc (by simp [z])) e) (fun b o _ _ hc e _ => ⟨o.slots, k b o (fun z => hc (by simp [z])) e⟩) (fun _ _ _ _ n => n)
    (fun b o hc e => ⟨o, k b o (fun z => hc (by simp [z])) e⟩) (fun _ _ e => e) (fun _ _ _ e => e) (fun b ps e => ⟨#[], by rw [e]; simp⟩) (fun m hm => ?_) (fun b u e => ?_) I.bare
  · have e : b = it := by simpa using hb
    subst e
    exact ⟨h1, hL, h2, h3⟩
  · obtain ⟨o, es, ep, ho, r⟩ := hm
    exact ⟨o, es, ep, k _ o (Ne.symm hL) ho, r⟩
  · refine (I.hok b u e).stay (fun c v hc q => k c v ?_ q) (fun _ q => q) fun _ _ q => q
    rcases hc with z | z
    · rw [z]; exact nit b u e
    · exact nit c _ z
theorem Inv.tok (I : Inv X pins σ H s) (t : Nat) : Inv X pins σ H { s with toks := t } := I.un (h' := s.heap) (t' := t) Un.refl I.hok
theorem Inv.kept {t' : Nat} (I : Inv X pins σ H s) (k : ∀ b u, s.heap.get? b = some u → h'.get? b = some u) : Inv X pins σ H { s with heap := h', toks := t' } := I.un (Un.kept k) (I.hok.kept k)
theorem Inv.laid {a : Addr} {o : HO} {t' : Nat} (I : Inv X pins σ H s) (k : ∀ b u, s.heap.get? b = some u → h'.get? b = some u) (hp : s.heap.objs.size ≤ a) (new : ObjOk X.prog X.w (upd H a o) h' a o) :
    Inv X pins σ (upd H a o) { s with heap := h', toks := t' } := I.un (Un.laid k hp (I.hok.fresh hp)) (I.hok.laid k hp new)
theorem Inv.write {x e : Addr} {o : HO} {t' : Nat} (I : Inv X pins σ H s) (mu : Mut (H x)) (he : e = x ∨ H e = some (.own x)) (k : ∀ b u, b ≠ e → s.heap.get? b = some u → h'.get? b = some u) (heo : ∃ u, h'.get? e = some u)
    (new : ObjOk X.prog X.w (upd H x o) h' x o) : Inv X pins σ (upd H x o) { s with heap := h', toks := t' } := I.un (Un.write mu he k heo) (I.hok.write mu he k heo new)
theorem Inv.pins_of {pins' : List (Addr × Obj)} (I : Inv X pins σ H s) (h : ∀ p ∈ pins', s.heap.get? p.1 = some p.2 ∧ H p.1 = none ∧ p.1 ≠ X.env.locals ∧ p.1 ∉ X.fs ∧ ∀ v, p.2.data ≠ .cell v) : Inv X pins' σ H s :=
  ⟨I.ok, I.os, I.bare, I.base, I.loc, I.cell, I.free, I.freeC, fun p hp => (List.mem_append.mp hp).elim (fun z => I.pin p (List.mem_append_left _ z)) (h p), I.hok, I.len⟩

theorem nodup_ix {N : List Str} (hN : N.Nodup) {i j : Nat} {x : Str} (a : N[i]? = some x) (b : N[j]? = some x) : i = j := by
  obtain ⟨h1, e1⟩ := List.getElem?_eq_some_iff.mp a
  obtain ⟨h2, e2⟩ := List.getElem?_eq_some_iff.mp b
  exact (List.getElem_inj hN).mp (e1.trans e2.symm)

theorem store_ok2 {M : Model} {A : Around} {E : Value → Shared → Prop} {i : Nat} {x : Str} {v : V} {u : Value} {Q : Unit → Shared → Prop} (I : Inv X pins σ H s) (hN : X.N.Nodup) (hi : X.N[i]? = some x) (hx : Loc X.env.scope x) (r : RelV v u)
    (h : ∀ s', Inv X pins (σ.set i (some v)) H s' → (∃ a, Heap.SameBut a s.heap s'.heap ∧ (a = X.env.locals ∨ X.env.cells.lookup x = some a)) → Q () s') (hf : X.fn x = true ∨ X.env.scope.names.lookup x = some .local := by first | exact .inl rfl | exact .inr rfl | assumption) : wpAny M A (storeName X.env x u) Q E s := by
  obtain ⟨m, hn, hl⟩ := id I.loc
  have hcls : (X.env.scope.kind == .class || (X.env.scope.kind == .module && X.env.locals != X.env.globals)) = false := by rw [I.ok.kind]; rfl
  have hiσ : i < σ.length := by rw [I.len]; exact (List.getElem?_eq_some_iff.mp hi).1
  have cne := I.cne
  have tracked : ∀ {a : Addr} {h' : Heap}, (∃ o, s.heap.get? a = some o ∧ H a = none) → Heap.SameBut a s.heap h' → HOk X.prog X.w H h' := fun {a h'} ha hs b ob e => by
    obtain ⟨_, _, hfree⟩ := ha
    refine (I.hok b ob e).stay (fun c w' hc q => (hs.2 c ?_).trans q) (fun _ q => q) fun _ _ q => q
    rintro rfl
    rcases hc with rfl | hc
    · rw [hfree] at e; cases e
    · rw [hfree] at hc; cases hc
  rcases hx with hk | hk
  · refine wpAny_storeName_local hk hn (fun h' hn' hs => ?_) hcls
    obtain ⟨oL, _, _, hoL, _⟩ := id hn
    refine h _ ⟨I.ok, I.os, I.bare, ⟨fun b o e n hb hx => ?_, fun b o e n hb hx => ?_, I.base.free, fun b o e hx => ?_, I.base.tups, I.base.frzs, I.base.tbls⟩, ⟨_, hn', fun j y v' e1 e2 e3 => ?_⟩, fun y c e => ?_, I.free, I.freeC, fun p hp => ?_, tracked ⟨oL, hoL, I.free⟩ hs, by simpa using I.len⟩ ⟨_, hs, .inl rfl⟩
    · exact (hs.2 b (Nat.ne_of_lt (Nat.lt_of_lt_of_le (Heap.lt_size e) I.ok.above))).trans (I.base.keep b o e n hb hx)
    · obtain ⟨sl, e1⟩ := I.base.slot b o e n hb hx
      exact ⟨sl, (hs.2 b (Nat.ne_of_lt (Nat.lt_of_lt_of_le (Heap.lt_size e) I.ok.above))).trans e1⟩
    · obtain ⟨o', e1⟩ := I.base.there b o e hx
      exact ⟨o', (hs.2 b (Nat.ne_of_lt (Nat.lt_of_lt_of_le (Heap.lt_size e) I.ok.above))).trans e1⟩
    · by_cases hj : j = i
      · subst hj
        rw [hi] at e1; cases e1
        rw [List.getElem?_set_self hiσ] at e2
        cases e2
        exact ⟨u, r, .inl ⟨hk, by simp⟩⟩
      · rw [List.getElem?_set_ne (Ne.symm hj)] at e2
        obtain ⟨u', r', q⟩ := hl j y v' e1 e2 e3
        refine ⟨u', r', ?_⟩
        rcases q with ⟨k, e⟩ | ⟨k, c, e, z⟩
        · refine .inl ⟨k, ?_⟩
          have : y ≠ x := fun e => hj (nodup_ix hN e1 (e ▸ hi))
          simp [this, e]
        · exact .inr ⟨k, c, e, z.sameBut hs (cne y c e)⟩
    · obtain ⟨w', z⟩ := I.cell y c e
      exact ⟨w', z.sameBut hs (cne y c e)⟩
    · obtain ⟨e, n, ne, nf, d⟩ := I.pin p hp
      exact ⟨(hs.2 p.1 ne).trans e, n, ne, nf, d⟩
  · have hfn : X.fn x = true := by
      rcases hf with z | z
      · exact z
      · rw [z] at hk; cases hk
    obtain ⟨c, hc⟩ := I.ok.has x (.inl hk)
    obtain ⟨w', z⟩ := I.cell x c hc
    refine wpAny_storeName_cell I.ok.kind hk hc z (fun h' hc' hs => ?_)
    obtain ⟨oc, hoc, hocd⟩ := id z
    refine h { s with heap := h' } ⟨I.ok, I.os, I.bare, ⟨fun b o e n hb hx => ?_, fun b o e n hb hx => ?_, I.base.free, fun b o e hx => ?_, I.base.tups, I.base.frzs, I.base.tbls⟩, ⟨m, hn.sameBut hs (Ne.symm (cne x c hc)), fun j y v' e1 e2 e3 => ?_⟩, fun y c' e => ?_, I.free, I.freeC, fun p hp => ?_, tracked ⟨oc, hoc, I.freeC x c hc⟩ hs, by simpa using I.len⟩ ⟨c, hs, .inr hc⟩
    · exact (hs.2 b (Nat.ne_of_lt (Nat.lt_of_lt_of_le (Heap.lt_size e) (I.ok.cab x c hfn hc)))).trans (I.base.keep b o e n hb hx)
    · obtain ⟨sl, e1⟩ := I.base.slot b o e n hb hx
      exact ⟨sl, (hs.2 b (Nat.ne_of_lt (Nat.lt_of_lt_of_le (Heap.lt_size e) (I.ok.cab x c hfn hc)))).trans e1⟩
    · obtain ⟨o', e1⟩ := I.base.there b o e hx
      exact ⟨o', (hs.2 b (Nat.ne_of_lt (Nat.lt_of_lt_of_le (Heap.lt_size e) (I.ok.cab x c hfn hc)))).trans e1⟩
    · by_cases hj : j = i
      · subst hj
        rw [hi] at e1; cases e1
        rw [List.getElem?_set_self hiσ] at e2
        cases e2
        exact ⟨u, r, .inr ⟨.inl hk, c, hc, hc'⟩⟩
      · rw [List.getElem?_set_ne (Ne.symm hj)] at e2
        obtain ⟨u', r', q⟩ := hl j y v' e1 e2 e3
        refine ⟨u', r', ?_⟩
        rcases q with q | ⟨k, c', e, z'⟩
        · exact .inl q
        · refine .inr ⟨k, c', e, z'.sameBut hs ?_⟩
          rintro rfl
          exact hj (nodup_ix hN e1 (I.ok.inj _ _ _ e hc ▸ hi))
    · by_cases hcc : c' = c
      · subst hcc; exact ⟨_, hc'⟩
      · obtain ⟨w2, z2⟩ := I.cell y c' e
        exact ⟨w2, z2.sameBut hs hcc⟩
    · obtain ⟨e, n, ne, nf, d⟩ := I.pin p hp
      refine ⟨(hs.2 p.1 ?_).trans e, n, ne, nf, d⟩
      intro q
      rw [q, hoc] at e
      have q' : oc = p.2 := Option.some.inj e
      exact d w' (by rw [← q']; exact hocd)
theorem store_ok {M : Model} {A : Around} {E : Value → Shared → Prop} {i : Nat} {x : Str} {v : V} {u : Value} {Q : Unit → Shared → Prop} (I : Inv X pins σ H s) (hN : X.N.Nodup) (hi : X.N[i]? = some x) (hx : Loc X.env.scope x) (r : RelV v u)
    (h : ∀ s', Inv X pins (σ.set i (some v)) H s' → Q () s') (hf : X.fn x = true ∨ X.env.scope.names.lookup x = some .local := by first | exact .inl rfl | exact .inr rfl | assumption) : wpAny M A (storeName X.env x u) Q E s :=
  store_ok2 I hN hi hx r (fun s' I' _ => h s' I') hf
theorem Inv.call' {s' : Shared} {ch : List Addr} (I : Inv X pins σ H s) (ho : s'.os = s.os) (u : Un (frs X.stack) ch H H' s.heap s'.heap) (hok : HOk X.prog X.w H' s'.heap) (hg : AllBare s'.gens)
    (hch : ∀ b ∈ ch, (b ∈ X.ex ∨ X.s₀.heap.objs.size ≤ b) ∧ b ≠ X.env.locals ∧ (∀ x c, X.env.cells.lookup x = some c → c ≠ b) ∧ ∀ p ∈ X.pn ++ pins, p.1 ≠ b) : Inv X pins σ H' s' := by
  obtain ⟨h', g', d', t', o'⟩ := s'
  have e : o' = s.os := ho
  subst e
  exact I.call (g' := g') (t' := t') (d' := d') u hok hg hch
end

abbrev XK := Value → Option Addr → Hp → Prop
abbrev St := List (Option V)
abbrev VK := V → Hp → Prop
abbrev TE := St → Hp → VK → Prop
abbrev TT := St → Hp → (Bool → Hp → Prop) → Prop
abbrev TA := St → Hp → (List V → Hp → Prop) → Prop
structure Ends where
  nx : St → Hp → Prop
  rt : VK
  bk : St → Hp → Prop := fun _ _ => False
  ct : St → Hp → Prop := fun _ _ => False
abbrev TS := Ends → St → Hp → Prop

def EP (X : Cx) (pins : List (Addr × Obj)) (σ : St) (Q : VK) (u : Value) (s' : Shared) : Prop := ∃ v H', Inv X pins σ H' s' ∧ RelV v u ∧ Q v H'
def TP (X : Cx) (pins : List (Addr × Obj)) (σ : St) (Q : Bool → Hp → Prop) (b : Bool) (s' : Shared) : Prop := ∃ H', Inv X pins σ H' s' ∧ Q b H'
def AP (X : Cx) (pins : List (Addr × Obj)) (σ : St) (Q : List V → Hp → Prop) (us : List Value) (s' : Shared) : Prop := ∃ vs H', Inv X pins σ H' s' ∧ Vals vs us ∧ Q vs H'
def SP (X : Cx) (pins : List (Addr × Obj)) (D : Ends) (f : Flow) (s' : Shared) : Prop :=
  match f with
  | .next => ∃ σ' H', Inv X pins σ' H' s' ∧ D.nx σ' H'
  | .brk => ∃ σ' H', Inv X pins σ' H' s' ∧ D.bk σ' H'
  | .cont => ∃ σ' H', Inv X pins σ' H' s' ∧ D.ct σ' H'
  | .ret u => ∃ v σ' H', Inv X pins σ' H' s' ∧ RelV v u ∧ D.rt v H'

def PE (X : Cx) (e : Expr) (t : TE) : Prop :=
  ∀ (pins : List (Addr × Obj)) (s : Shared) (σ : St) (H : Hp) (Q : VK), Inv X pins σ H s → t σ H Q → wpAny (model X.prog X.w) X.A (eval e X.env) (EP X pins σ Q) X.xe s
def PT (X : Cx) (e : Expr) (t : TT) : Prop :=
  ∀ (pins : List (Addr × Obj)) (s : Shared) (σ : St) (H : Hp) (Q : Bool → Hp → Prop), Inv X pins σ H s → t σ H Q → wpAny (model X.prog X.w) X.A (isTrue e X.env (eval e X.env)) (TP X pins σ Q) X.xe s
def PW (X : Cx) (e : Expr) (t : TT) : Prop :=
  ∀ (whole : Sem Value) (pins : List (Addr × Obj)) (s : Shared) (σ : St) (H : Hp) (Q : Bool → Hp → Prop), Inv X pins σ H s → t σ H Q → wpAny (model X.prog X.w) X.A (isTrue e X.env whole) (TP X pins σ Q) X.xe s
theorem PW.pt {X : Cx} {e : Expr} {t : TT} (h : PW X e t) : PT X e t := h _
def PA (X : Cx) (es : List Expr) (t : TA) : Prop :=
  ∀ (pos : Pos) (pins : List (Addr × Obj)) (s : Shared) (σ : St) (H : Hp) (Q : List V → Hp → Prop), Inv X pins σ H s → t σ H Q → wpAny (model X.prog X.w) X.A (spliced (backTo pos (starEach es X.env))) (AP X pins σ Q) X.xe s
def PS (X : Cx) (st : Stmt) (t : TS) : Prop :=
  ∀ (pins : List (Addr × Obj)) (s : Shared) (σ : St) (H : Hp) (D : Ends), Inv X pins σ H s → t D σ H → wpAny (model X.prog X.w) X.A (exec st X.env) (SP X pins D) X.xe s
def PSs (X : Cx) (st : List Stmt) (t : TS) : Prop :=
  ∀ (pins : List (Addr × Obj)) (s : Shared) (σ : St) (H : Hp) (D : Ends), Inv X pins σ H s → t D σ H → wpAny (model X.prog X.w) X.A (execs st X.env) (SP X pins D) X.xe s
theorem thn {α : Type} {t : Sem α} {Q Q' : α → Shared → Prop} {M : Model} {A : Around} {E : Value → Shared → Prop} {s : Shared} (h : wpAny M A t Q E s) (hQ : ∀ a s, Q a s → Q' a s) : wpAny M A t Q' E s := wpAny_mono h hQ fun _ _ x => x
end L2

namespace L2
open PySem PySem.Spec PyProof.Rows
section
variable {X : Cx}

theorem bin {a b : Expr} {ta tb : TE} (ha : PE X a ta) (hb : PE X b tb) {pins : List (Addr × Obj)} {s : Shared} {σ : St} {H : Hp} {R : V → V → Hp → Prop} (I : Inv X pins σ H s) (h : ta σ H fun x H1 => tb σ H1 fun y H2 => R x y H2)
    {α : Type} {Q : α → Shared → Prop} {f : Value → Value → Sem α}
    (hf : ∀ v u s2 x y H2, Inv X pins σ H2 s2 → RelV x v → RelV y u → R x y H2 → wpAny (model X.prog X.w) X.A (f v u) Q X.xe s2) :
    wpAny (model X.prog X.w) X.A (eval a X.env) (fun v s₁ => wpAny (model X.prog X.w) X.A (eval b X.env) (fun u s₂ => wpAny (model X.prog X.w) X.A (f v u) Q X.xe s₂) X.xe s₁) X.xe s := by
  refine thn (ha pins s σ H _ I h) fun v s1 ⟨x, H1, I1, r1, q1⟩ => ?_
  refine thn (hb pins s1 σ H1 _ I1 q1) fun u s2 ⟨y, H2, I2, r2, q2⟩ => ?_
  exact hf v u s2 x y H2 I2 r1 r2 q2

def tVar (i : Nat) : TE := fun σ H Q => ∃ v, σ[i]? = some (some v) ∧ Q v H
def tC (v : V) : TE := fun _ H Q => Q v H
theorem pe_var {i : Nat} {x : Str} {pos : Pos} (hN : X.N[i]? = some x) (hv : Vis X.env.scope x) (hd : (x == ("__debug__" : Str)) = false := by decide) (hcd : (x == ("__classdict__" : Str)) = false := by decide) : PE X (.Name x pos) (tVar i) := by
  intro pins s σ H Q I h
  obtain ⟨v, e, h⟩ := h
  obtain ⟨m, hn, hl⟩ := I.loc
  obtain ⟨u, r, l⟩ := hl i x v hN e hv
  have fin : EP X pins σ Q u s := ⟨v, H, I, r, h⟩
  rcases l with ⟨hk, hm⟩ | ⟨hk, c, hc, hcell⟩
  · exact wpAny_Name (wpAny_loadName_local I.ok.kind hk hn hm fin) hd
  · rcases hk with hk | hk
    · exact wpAny_Name (wpAny_loadName_cell I.ok.kind hk hc hcell fin) hd
    · exact wpAny_Name (wpAny_loadName_free I.ok.kind hk hc hcell fin hcd) hd
theorem pe_int {i j pos} : PE X (.Constant (.int i) j pos) (tC (.int i)) := fun _ _ _ H _ I h => wpAny_Constant_int ⟨.int i, H, I.tok _, ⟨_, rfl⟩, h⟩
theorem pe_bl {b j pos} : PE X (.Constant (.bool b) j pos) (tC (.bl b)) := fun _ _ _ H _ I h => Constant_bool ⟨.bl b, H, I, rfl, h⟩
theorem pe_non {j pos} : PE X (.Constant .none j pos) (tC .non) := fun _ _ _ H _ I h => Constant_none ⟨.non, H, I, rfl, h⟩
theorem pe_str {x j pos} : PE X (.Constant (.str x) j pos) (tC (.str x)) := fun _ _ _ H _ I h => Calls.Constant_str ⟨.str x, H, I.tok _, ⟨_, rfl⟩, h⟩

def Gl (X : Cx) (x : Str) : Prop := X.env.kindOf x = some .globalImplicit
theorem ld_glob {E : Value → Shared → Prop} {pins : List (Addr × Obj)} {s : Shared} {σ : St} {H : Hp} {x : Str} {u : Value} {pos : Pos} {Q : Value → Shared → Prop} (I : Inv X pins σ H s) (hg : Gl X x) (hm : X.mg x = some u) (h : Q u s)
    (hd : (x == ("__debug__" : Str)) = false := by decide) : wpAny (model X.prog X.w) X.A (eval (.Name x pos) X.env) Q E s :=
  Calls.Name_function_global I.ok.kind hg (Calls.loadGlobal_global (by rw [I.ok.glob]; exact I.mod.glob.keeps I.bk) hm h) hd
theorem ld_blt {E : Value → Shared → Prop} {pins : List (Addr × Obj)} {s : Shared} {σ : St} {H : Hp} {x : Str} {u : Value} {pos : Pos} {Q : Value → Shared → Prop} (I : Inv X pins σ H s) (hg : Gl X x) (hm : X.mg x = none) (hv : bootBuiltins x = some u) (h : Q u s)
    (hn : x ≠ "__name__" := by decide) (hd : (x == ("__debug__" : Str)) = false := by decide) : wpAny (model X.prog X.w) X.A (eval (.Name x pos) X.env) Q E s := by
  obtain ⟨mb, h1, h2⟩ := I.mod.blt
  exact Calls.Name_function_global I.ok.kind hg (Calls.loadGlobal_builtin (by rw [I.ok.glob]; exact I.mod.glob.keeps I.bk) hm (by rw [I.ok.blt]; exact h1.keeps I.bk) ((h2 x hn).trans hv) h) hd
theorem pe_glob {x : Str} {v : V} {u : Value} {pos : Pos} (hg : Gl X x) (hm : X.mg x = some u) (r : RelV v u) (hd : (x == ("__debug__" : Str)) = false := by decide) : PE X (.Name x pos) (tC v) :=
  fun _ _ _ H _ I h => ld_glob I hg hm ⟨v, H, I, r, h⟩ hd
theorem pe_bltn {x : Str} {v : V} {u : Value} {pos : Pos} (hg : Gl X x) (hm : X.mg x = none) (hv : bootBuiltins x = some u) (r : RelV v u) (hn : x ≠ "__name__" := by decide) (hd : (x == ("__debug__" : Str)) = false := by decide) : PE X (.Name x pos) (tC v) :=
  fun _ _ _ H _ I h => ld_blt I hg hm hv ⟨v, H, I, r, h⟩ hn hd

variable {a b : Expr} {ta tb : TE} {pos : Pos}
def PC (X : Cx) (op : CmpOp) (a b : Expr) (t : TE) : Prop :=
  ∀ (pins : List (Addr × Obj)) (s : Shared) (σ : St) (H : Hp) (Q : VK), Inv X pins σ H s → t σ H Q →
    wpAny (model X.prog X.w) X.A (eval a X.env) (fun v s₁ => wpAny (model X.prog X.w) X.A (eval b X.env) (fun u s₂ => wpAny (model X.prog X.w) X.A (compareOp op v u) (EP X pins σ Q) X.xe s₂) X.xe s₁) X.xe s
theorem nobehind (b : Expr) {op : CmpOp} (h : op ≠ .In) (h2 : op ≠ .NotIn) : behindInMarks op b = false := by
  have e1 : (op == CmpOp.In) = false := by cases op <;> first | rfl | exact absurd rfl h
  have e2 : (op == CmpOp.NotIn) = false := by cases op <;> first | rfl | exact absurd rfl h2
  cases b <;> simp [behindInMarks, e1, e2]
def tB (t : TE) : TT := fun σ H Q => t σ H fun x H1 => ∃ c, x = .bl c ∧ Q c H1
theorem pt_cmp {op : CmpOp} {t : TE} (h : PC X op a b t) (h1 : behindInMarks op b = false := by first | exact nobehind _ (by decide) (by decide) | rfl) : PT X (.Compare a [op] [b] pos) (tB t) := by
  intro pins s σ H Q I hw
  refine wpAny_isTrue_Compare1 (thn (h pins s σ H _ I hw) fun v s1 h1 => thn h1 fun u s2 h2 => thn h2 fun c s3 ⟨x, H1, I1, r1, q1⟩ => ?_) h1
  obtain ⟨d, rfl, q⟩ := q1
  cases r1
  exact wpAny_truthy_bool ⟨H1, I1, q⟩
theorem pt_val {e : Expr} {t : TE} (h : PE X e t) (he : ∀ whole, isTrue e X.env whole = (do let v ← whole; standAt e.pos; holding [v] (truthy v)) := by intro _; rfl) : PT X e (tB t) := by
  intro pins s σ H Q I hw
  refine isTrue_plain (thn (h pins s σ H _ I hw) fun v s1 ⟨x, H1, I1, r1, q1⟩ => ?_) (he _)
  obtain ⟨d, rfl, q⟩ := q1
  cases r1
  exact wpAny_truthy_bool ⟨H1, I1, q⟩

variable {tA tB' : TT} {rest : List Expr}
def tAnd (t u : TT) : TT := fun σ H Q => t σ H fun c H1 => if c = true then u σ H1 Q else Q false H1
def tOr (t u : TT) : TT := fun σ H Q => t σ H fun c H1 => if c = true then Q true H1 else u σ H1 Q
def tNot (t : TT) : TT := fun σ H Q => t σ H fun c H1 => Q (!c) H1
theorem pw_and1 (ha : PT X a tA) : PW X (.BoolOp .And [a] pos) tA := by
  intro wh pins s σ H Q I h
  refine isTrue_and (thn (ha pins s σ H Q I h) fun c s1 e => ?_)
  cases c with
  | true => exact isTrue_and_nil e
  | false => exact e
theorem pw_or1 (ha : PT X a tA) : PW X (.BoolOp .Or [a] pos) tA := by
  intro wh pins s σ H Q I h
  refine isTrue_or (thn (ha pins s σ H Q I h) fun c s1 e => ?_)
  cases c with
  | false => exact isTrue_or_nil e
  | true => exact e
theorem pw_and (ha : PT X a tA) (hb : PW X (.BoolOp .And (b :: rest) pos) tB') : PW X (.BoolOp .And (a :: b :: rest) pos) (tAnd tA tB') := by
  intro wh pins s σ H Q I h
  refine isTrue_and (thn (ha pins s σ H _ I h) fun c s1 ⟨H1, I1, q1⟩ => ?_)
  cases c with
  | true => exact hb wh pins s1 σ H1 Q I1 q1
  | false => exact ⟨H1, I1, q1⟩
theorem pw_or (ha : PT X a tA) (hb : PW X (.BoolOp .Or (b :: rest) pos) tB') : PW X (.BoolOp .Or (a :: b :: rest) pos) (tOr tA tB') := by
  intro wh pins s σ H Q I h
  refine isTrue_or (thn (ha pins s σ H _ I h) fun c s1 ⟨H1, I1, q1⟩ => ?_)
  cases c with
  | true => exact ⟨H1, I1, q1⟩
  | false => exact hb wh pins s1 σ H1 Q I1 q1
theorem pt_not (ha : PT X a tA) : PT X (.UnaryOp .Not a pos) (tNot tA) := by
  intro pins s σ H Q I h
  exact isTrue_not (ha pins s σ H (fun c H1 => Q (!c) H1) I h)
def tAndV (ta tb : TE) : TE := fun σ H Q => ta σ H fun x H1 => ∃ c, x = .bl c ∧ if c = true then tb σ H1 Q else Q (.bl false) H1
def tNotV (ta : TE) : TE := fun σ H Q => ta σ H fun x H1 => ∃ c, x = .bl c ∧ Q (.bl (!c)) H1
theorem pe_one {op} {t : TE} (h : PE X a t) : PE X (.BoolOp op [a] pos) t := fun pins s σ H Q I hw => BoolOp_one (h pins s σ H Q I hw)
theorem pe_and (ha : PE X a ta) (hb : PE X (.BoolOp .And (b :: rest) pos) tb) : PE X (.BoolOp .And (a :: b :: rest) pos) (tAndV ta tb) := by
  intro pins s σ H Q I h
  refine BoolOp_and (thn (ha pins s σ H _ I h) fun v s1 ⟨x, H1, I1, r1, q1⟩ => ?_)
  obtain ⟨c, rfl, q1⟩ := q1
  cases r1
  refine wpAny_truthy_bool ?_
  cases c with
  | true => exact hb pins s1 σ H1 Q I1 q1
  | false => exact ⟨.bl false, H1, I1, rfl, q1⟩
theorem pe_not (ha : PE X a ta) : PE X (.UnaryOp .Not a pos) (tNotV ta) := by
  intro pins s σ H Q I h
  refine UnaryOp_ (thn (ha pins s σ H _ I h) fun v s1 ⟨x, H1, I1, r1, q1⟩ => ?_)
  obtain ⟨c, rfl, q1⟩ := q1
  cases r1
  exact not_of (wpAny_truthy_bool ⟨.bl (!c), H1, I1, rfl, q1⟩)
def tIf (t : TT) (ta tb : TE) : TE := fun σ H Q => t σ H fun c H1 => if c = true then ta σ H1 Q else tb σ H1 Q
theorem pe_ifExp {c : Expr} (hc : PT X c tA) (ha : PE X a ta) (hb : PE X b tb) : PE X (.IfExp c a b pos) (tIf tA ta tb) := by
  intro pins s σ H Q I h
  refine wpAny_IfExp (thn (hc pins s σ H _ I h) fun d s1 ⟨H1, I1, q1⟩ => ?_)
  cases d with
  | true => exact ha pins s1 σ H1 Q I1 q1
  | false => exact hb pins s1 σ H1 Q I1 q1
end
end L2

namespace L2
open PySem PySem.Spec PyProof.Rows

def SqL (K : PySem.W.Frag) (H : Hp) (a : Addr) (xs : List V) : Prop :=
  Rd H a (.lst xs) ∨
    ∃ (o : Obj) (its : Array Value) (n : Nat), K.lookup a = some o ∧ o.cls = .type "list" ∧ o.dict = none ∧ o.data = .seq its n ∧ its.size ≤ sizeLine ∧ Vals xs its.toList
def SqT (K : PySem.W.Frag) (H : Hp) (a : Addr) (xs : List V) : Prop :=
  Rd H a (.tup xs) ∨
    ∃ (o : Obj) (its : Array Value) (n : Nat), K.lookup a = some o ∧ o.cls = .type "tuple" ∧ o.data = .seq its n ∧ its.size ≤ sizeLine ∧ Vals xs its.toList
def absV : Value → Option V
  | .none => some .non
  | .bool b => some (.bl b)
  | .int i _ => some (.int i)
  | .str x _ => some (.str x)
  | .bytes b _ => some (.byt b)
  | .float b _ => some (.flt b)
  | .ref a => some (.ref a)
  | .type n => some (.ty n)
  | _ => none
theorem RelV.abs {x : V} {u : Value} (r : RelV x u) : absV u = some x := by
  cases x with
  | non => cases r; rfl
  | bl _ => cases r; rfl
  | int _ => obtain ⟨t, rfl⟩ := r; rfl
  | str _ => obtain ⟨t, rfl⟩ := r; rfl
  | byt _ => obtain ⟨t, rfl⟩ := r; rfl
  | flt _ => obtain ⟨t, rfl⟩ := r; rfl
  | ref _ => cases r; rfl
  | ty _ => cases r; rfl
theorem RelV.inj {x y : V} {u : Value} (r : RelV x u) (q : RelV y u) : x = y := Option.some.inj (r.abs.symm.trans q.abs)
theorem Vals.inj : ∀ {xs ys : List V} {us : List Value}, Vals xs us → Vals ys us → xs = ys
  | _, _, _, .nil, .nil => rfl
  | _, _, _, .cons r t, .cons r' t' => by rw [r.inj r', Vals.inj t t']
section
variable {X : Cx} {pins : List (Addr × Obj)} {σ : St} {H : Hp} {s : Shared} {a : Addr} {xs ys : List V}
theorem SqL.of {K : PySem.W.Frag} (h : H a = some (.lst xs)) : SqL K H a xs := .inl (.inl h)
theorem SqT.of {K : PySem.W.Frag} (h : H a = some (.tup xs)) : SqT K H a xs := .inl (.inl h)
theorem Inv.list (I : Inv X pins σ H s) (h : SqL X.K H a xs) : ∃ its : List Value, Vals xs its ∧ PlainL s.heap a its.toArray ∧ xs.length ≤ sizeLine := by
  rcases h with h | ⟨o, its, n, hk, hc, hd, hs, hz, r⟩
  · obtain ⟨z, its, n, r, e⟩ := h.ok I.hok
    exact ⟨its, r, ⟨_, n, e, rfl, rfl, rfl⟩, z⟩
  · refine ⟨its.toList, r, ⟨o, n, I.kIn a o hk, hc, hd, by simpa using hs⟩, ?_⟩
    have e := r.length
    simp only [Array.length_toList] at e
    omega
theorem Inv.tuple (I : Inv X pins σ H s) (h : SqT X.K H a xs) : ∃ its : List Value, Vals xs its ∧ IsTup s.heap a its.toArray ∧ xs.length ≤ sizeLine := by
  rcases h with h | ⟨o, its, n, hk, hc, hs, hz, r⟩
  · obtain ⟨z, its, r, p⟩ := h.ok I.hok
    exact ⟨its, r, p, z⟩
  · refine ⟨its.toList, r, ⟨o, I.kIn a o hk, hc, n, by simpa using hs⟩, ?_⟩
    have e := r.length
    simp only [Array.length_toList] at e
    omega
theorem Inv.list_inj (I : Inv X pins σ H s) (h : SqL X.K H a xs) (h' : SqL X.K H a ys) : xs = ys := by
  obtain ⟨its, r, ⟨o, n, e, _, _, d⟩, _⟩ := I.list h
  obtain ⟨its', r', ⟨o', n', e', _, _, d'⟩, _⟩ := I.list h'
  rw [e] at e'; cases e'
  rw [d] at d'
  injection d' with d1 _
  have : its = its' := by simpa using congrArg Array.toList d1
  subst this
  exact r.inj r'
theorem Inv.tuple_inj (I : Inv X pins σ H s) (h : SqT X.K H a xs) (h' : SqT X.K H a ys) : xs = ys := by
  obtain ⟨its, r, ⟨o, e, _, n, d⟩, _⟩ := I.tuple h
  obtain ⟨its', r', ⟨o', e', _, n', d'⟩, _⟩ := I.tuple h'
  rw [e] at e'; cases e'
  rw [d] at d'
  injection d' with d1 _
  have : its = its' := by simpa using congrArg Array.toList d1
  subst this
  exact r.inj r'
end

abbrev Cx.wish (X : Cx) (E : Value → Shared → Prop) : Cx := { X with xe := E }
abbrev Cx.nox (X : Cx) : Cx := X.wish fun _ _ => False
theorem Cx.Ok.wish {X : Cx} (ok : X.Ok) (E : Value → Shared → Prop) : (X.wish E).Ok :=
  ⟨ok.mod, ok.kind, ok.glob, ok.blt, ok.above, ok.inj, ok.has, ok.cab, ok.hd, ok.frames, ok.stk, ok.exf, ok.bs, ok.bsz, ok.noex, ok.exfs, ok.funs, ok.frf⟩
theorem Cx.Ok.unwish {X : Cx} {E : Value → Shared → Prop} (ok : (X.wish E).Ok) : X.Ok :=
  ⟨ok.mod, ok.kind, ok.glob, ok.blt, ok.above, ok.inj, ok.has, ok.cab, ok.hd, ok.frames, ok.stk, ok.exf, ok.bs, ok.bsz, ok.noex, ok.exfs, ok.funs, ok.frf⟩
section
variable {X : Cx} {pins : List (Addr × Obj)} {σ : St} {H : Hp} {s : Shared} {E : Value → Shared → Prop}
theorem Inv.wish (I : Inv X pins σ H s) (E : Value → Shared → Prop) : Inv (X.wish E) pins σ H s := ⟨I.ok.wish E, I.os, I.bare, I.base, I.loc, I.cell, I.free, I.freeC, I.pin, I.hok, I.len⟩
theorem Inv.unwish (I : Inv (X.wish E) pins σ H s) : Inv X pins σ H s := ⟨I.ok.unwish, I.os, I.bare, I.base, I.loc, I.cell, I.free, I.freeC, I.pin, I.hok, I.len⟩
theorem SP.unwish {D : Ends} {f : Flow} {s' : Shared} (h : SP (X.wish E) pins D f s') : SP X pins D f s' := by
  cases f with
  | next => obtain ⟨σ', H', I, q⟩ := h; exact ⟨σ', H', I.unwish, q⟩
  | brk => obtain ⟨σ', H', I, q⟩ := h; exact ⟨σ', H', I.unwish, q⟩
  | cont => obtain ⟨σ', H', I, q⟩ := h; exact ⟨σ', H', I.unwish, q⟩
  | ret u => obtain ⟨v, σ', H', I, r, q⟩ := h; exact ⟨v, σ', H', I.unwish, r, q⟩
theorem PSs.nox {st : List Stmt} {t : TS} (h : PSs X.nox st t) : PSs X st t := fun pins s σ H D I hw =>
  wpAny_mono (h pins s σ H D (I.wish _) hw) (fun _ _ q => q.unwish) fun _ _ z => False.elim z
end

section
variable {X : Cx} {st : Stmt} {rest : List Stmt} {t u : TS} {e : Expr} {te : TE} {pos : Pos}
def tNext : TS := fun D σ H => D.nx σ H
def tSeq (t u : TS) : TS := fun D σ H => t { D with nx := u D } σ H
theorem pss_nil : PSs X [] tNext := fun _ _ σ H _ I h => wpAny_execs_nil ⟨σ, H, I, h⟩
theorem pss_cons (h1 : PS X st t) (h2 : PSs X rest u) : PSs X (st :: rest) (tSeq t u) := by
  intro pins s σ H D I h
  refine wpAny_execs_cons (thn (h1 pins s σ H { D with nx := u D } I h) fun f s1 q => ?_)
  cases f with
  | next =>
    obtain ⟨σ', H', I', q⟩ := q
    exact h2 pins s1 σ' H' D I' q
  | ret v => exact q
  | brk => exact q
  | cont => exact q
theorem pss_one (h1 : PS X st t) : PSs X [st] t := by
  intro pins s σ H D I h
  refine wpAny_execs_cons (thn (h1 pins s σ H D I h) fun f s1 q => ?_)
  cases f with
  | next => exact wpAny_execs_nil q
  | ret v => exact q
  | brk => exact q
  | cont => exact q
theorem Inv.quiet {pins : List (Addr × Obj)} {σ : St} {H : Hp} {s : Shared} (I : Inv X pins σ H s) : interactive X.env = false := by simp [interactive, I.ok.kind]
def tDrop (te : TE) : TS := fun D σ H => te σ H fun _ H1 => D.nx σ H1
theorem ps_expr (he : PE X e te) (hs : swapsWith e none pos.line X.env = pure false := by rfl) : PS X (.Expr e pos) (tDrop te) := by
  intro pins s σ H D I h
  exact wpAny_Expr_any (thn (he pins s σ H _ I h) fun v s1 ⟨x, H1, I1, r1, q1⟩ => ⟨σ, H1, I1, q1⟩) I.quiet hs
def tRet (te : TE) : TS := fun D σ H => te σ H D.rt
theorem ps_ret (he : PE X e te) : PS X (.Return (some e) pos) (tRet te) := by
  intro pins s σ H D I h
  exact wpAny_Return_some (thn (he pins s σ H _ I h) fun v s1 ⟨x, H1, I1, r1, q1⟩ => ⟨x, σ, H1, I1, r1, q1⟩)
def tIfS (c : TT) (t u : TS) : TS := fun D σ H => c σ H fun b H1 => if b = true then t D σ H1 else u D σ H1
theorem ps_if {c : Expr} {a b : List Stmt} {tc : TT} (hc : PT X c tc) (ha : PSs X a t) (hb : PSs X b u) : PS X (.If c a b pos) (tIfS tc t u) := by
  intro pins s σ H D I h
  refine wpAny_If (thn (hc pins s σ H _ I h) fun d s1 ⟨H1, I1, q1⟩ => ?_)
  cases d with
  | true => exact ha pins s1 σ H1 D I1 q1
  | false => exact hb pins s1 σ H1 D I1 q1
end

abbrev TG := V → St → Hp → (St → Hp → Prop) → Prop
abbrev TGs := List V → St → Hp → (St → Hp → Prop) → Prop
def PG (X : Cx) (target : Expr) (t : TG) : Prop :=
  ∀ (pins : List (Addr × Obj)) (s : Shared) (σ : St) (H : Hp) (v : V) (u : Value) (Q : St → Hp → Prop), Inv X pins σ H s → RelV v u → t v σ H Q →
    wpAny (model X.prog X.w) X.A (assign target X.env u) (fun _ s' => ∃ σ' H', Inv X pins σ' H' s' ∧ Q σ' H') X.xe s
def PGs (X : Cx) (ts : List Expr) (t : TGs) : Prop :=
  ∀ (pins : List (Addr × Obj)) (s : Shared) (σ : St) (H : Hp) (vs : List V) (us : List Value) (Q : St → Hp → Prop), Inv X pins σ H s → Vals vs us → t vs σ H Q →
    wpAny (model X.prog X.w) X.A (assignInOrder ((assignEach ts X.env).map (·.2)) us) (fun _ s' => ∃ σ' H', Inv X pins σ' H' s' ∧ Q σ' H') X.xe s
abbrev TSet := V → V → V → Hp → (Hp → Prop) → Prop
def PSet (X : Cx) (t : TSet) : Prop :=
  ∀ (pins : List (Addr × Obj)) (s : Shared) (σ : St) (H : Hp) (o i v : V) (ov iv u : Value) (Q : Hp → Prop), Inv X pins σ H s → RelV o ov → RelV i iv → RelV v u → t o i v H Q →
    wpAny (model X.prog X.w) X.A (setItem ov iv u) (fun _ s' => ∃ H', Inv X pins σ H' s' ∧ Q H') X.xe s
section
variable {X : Cx} {pos : Pos}
def gName (i : Nat) : TG := fun v σ H Q => Q (σ.set i (some v)) H
theorem pg_name {i : Nat} {x : Str} (hN : X.N.Nodup) (hi : X.N[i]? = some x) (hx : Loc X.env.scope x) (hf : X.fn x = true ∨ X.env.scope.names.lookup x = some .local := by first | exact .inl rfl | exact .inr rfl | assumption) : PG X (.Name x pos) (gName i) := by
  intro pins s σ H v u Q I r h
  exact wpAny_assign_Name (store_ok I hN hi hx r (fun s' I' => ⟨_, H, I', h⟩) hf)
def gNil : TGs := fun vs σ H Q => vs = [] ∧ Q σ H
def gCons (t : TG) (u : TGs) : TGs := fun vs σ H Q => ∃ v r, vs = v :: r ∧ t v σ H fun σ' H' => u r σ' H' Q
theorem pgs_nil : PGs X [] gNil := by
  intro pins s σ H vs us Q I r h
  obtain ⟨e, h⟩ := h
  subst e
  cases r
  exact assignInOrder_nil ⟨σ, H, I, h⟩
theorem pgs_cons {e : Expr} {es : List Expr} {t : TG} {u : TGs} (h1 : PG X e t) (h2 : PGs X es u)
    (hs : (assignEach (e :: es) X.env).map (·.2) = assign e X.env :: (assignEach es X.env).map (·.2) := by rfl) : PGs X (e :: es) (gCons t u) := by
  intro pins s σ H vs us Q I r h
  obtain ⟨v, vr, e1, h⟩ := h
  subst e1
  cases r with
  | cons r rr =>
    rw [hs]
    refine assignInOrder_cons (thn (h1 pins s σ H _ _ _ I r h) fun _ s1 ⟨σ1, H1, I1, q1⟩ => ?_)
    exact h2 pins s1 σ1 H1 _ _ Q I1 rr q1
def gTup (K : PySem.W.Frag) (n : Nat) (t : TGs) : TG := fun v σ H Q => ∃ a xs, v = .ref a ∧ SqT K H a xs ∧ xs.length = n ∧ t xs σ H Q
theorem pg_tup {es : List Expr} {k : Nat} {t : TGs} {n : Nat} (hc : X.calm = true) (h : PGs X es t)
    (hn : (assignEach es X.env).length = n := by rfl) (hst : (assignEach es X.env).findIdx? (·.1) = none := by rfl) : PG X (.Tuple es k pos) (gTup X.K n t) := by
  intro pins s σ H v u Q I r hw
  obtain ⟨a, xs, e1, hq, hl, hw⟩ := hw
  subst e1
  cases r
  obtain ⟨its, rv, ht, hz⟩ := I.tuple hq
  refine assign_Tuple_tuple (I.ok.hd hc) ht (by simp [hn, ← hl, rv.length]) hst fun h' hx => ?_
  have I1 : Inv X pins σ H { s with heap := h' } := I.kept (t' := s.toks) fun b o e => hx b o (Nat.ne_of_lt (Heap.lt_size e)) e
  exact h pins _ σ H xs _ Q I1 (by simpa using rv) hw
def gSub (to ti : TE) (t : TSet) : TG := fun v σ H Q => to σ H fun o H1 => ti σ H1 fun i H2 => t o i v H2 fun H3 => Q σ H3
theorem pg_sub {o i : Expr} {to ti : TE} {t : TSet} (ho : PE X o to) (hi : PE X i ti) (hs : PSet X t)
    (ha : ∀ v, assign (.Subscript o i pos) X.env v = (do
      let ov ← holding [v] (eval o X.env)
      let iv ← holding [v, ov] (eval i X.env)
      standAt pos
      holding [v, ov, iv] (setItem ov iv v)
      release [v, ov, iv] []) := by intro _; rfl) : PG X (.Subscript o i pos) (gSub to ti t) := by
  intro pins s σ H v u Q I r h
  rw [ha]
  refine wpAny_bind (wpAny_holding (thn (ho pins s σ H _ I h) fun ov s1 ⟨x, H1, I1, r1, q1⟩ => ?_))
  refine wpAny_bind (wpAny_holding (thn (hi pins s1 σ H1 _ I1 q1) fun iv s2 ⟨y, H2, I2, r2, q2⟩ => ?_))
  refine wpAny_bind (wpAny_standAt (wpAny_bind (wpAny_holding (thn (hs pins s2 σ H2 x y v ov iv u _ I2 r1 r2 r q2) fun _ s3 ⟨H3, I3, q3⟩ => ?_))))
  exact wpAny_release ⟨σ, H3, I3, q3⟩
def tAsg (te : TE) (g : TG) : TS := fun D σ H => te σ H fun x H1 => g x σ H1 D.nx
theorem ps_asg {tg e : Expr} {te : TE} {g : TG} (he : PE X e te) (hg : PG X tg g) (hs : swapsWithSole [tg] e pos.line X.env = pure false := by rfl) (hw : swappedStores [tg] e X.env = pure none := by rfl)
    (h1 : (assignEach [tg] X.env).map (·.2) = [assign tg X.env] := by rfl) : PS X (.Assign [tg] e pos) (tAsg te g) := by
  intro pins s σ H D I h
  refine wpAny_Assign_stores (thn (he pins s σ H _ I h) fun v s1 ⟨x, H1, I1, r1, q1⟩ => ?_) hs hw
  rw [h1]
  exact thn (hg pins s1 σ H1 x v _ I1 r1 q1) fun _ s2 q => q
theorem ps_set {i : Nat} {x : Str} {e : Expr} {te : TE} {pos' : Pos} (hN : X.N.Nodup) (hi : X.N[i]? = some x) (hx : Loc X.env.scope x) (he : PE X e te) (hs : swapsWith e (some (.Name x pos')) pos.line X.env = pure false := by rfl) (hf : X.fn x = true ∨ X.env.scope.names.lookup x = some .local := by first | exact .inl rfl | exact .inr rfl | assumption) :
    PS X (.Assign [.Name x pos'] e pos) (tAsg te (gName i)) := by
  intro pins s σ H D I h
  refine wpAny_Assign_Name (thn (he pins s σ H _ I h) fun v s1 ⟨y, H1, I1, r1, q1⟩ => ?_) hs
  exact store_ok I1 hN hi hx r1 (fun s2 I2 => ⟨_, H1, I2, q1⟩) hf
end

section
variable {X : Cx} {pos : Pos}
def tWhile (c : TT) (tb : TS) : TS := fun D σ H => ∃ W : Nat → St → Hp → Prop, (∃ m, W m σ H) ∧ ∀ m σ H, W m σ H →
  c σ H fun b H1 => if b = true then ∃ N : St → Hp → Prop, (∀ σ' H', N σ' H' → ∃ m', m' < m ∧ W m' σ' H') ∧ tb { D with nx := N, ct := N, bk := D.nx } σ H1 else D.nx σ H1
theorem ps_while {c : Expr} {body : List Stmt} {tc : TT} {tb : TS} (hp : PassesOwn (model X.prog X.w) X.A X.env X.xe) (hc : PT X c tc) (hb : PSs X body tb) : PS X (.While c body [] pos) (tWhile tc tb) := by
  intro pins s σ H D I h
  obtain ⟨W, ⟨m0, w0⟩, turn⟩ := h
  refine wpAny_While (codeAny_whileLoop (fun n s' => ∃ σ' H', Inv X pins σ' H' s' ∧ W n σ' H') ?_ m0 ⟨σ, H, I, w0⟩)
  rintro n s1 ⟨σ1, H1, I1, w1⟩
  refine wpAny_passesOwn hp (thn (hc pins s1 σ1 H1 _ I1 (turn n σ1 H1 w1)) fun b s2 ⟨H2, I2, q2⟩ => ?_)
  cases b with
  | true =>
    obtain ⟨N, hN, q2⟩ := q2
    rw [if_pos rfl]
    refine wpAny_passesOwn hp (thn (hb pins s2 σ1 H2 _ I2 q2) fun f s3 q3 => ?_)
    cases f with
    | next =>
      obtain ⟨σ3, H3, I3, n3⟩ := q3
      obtain ⟨m', hm, w3⟩ := hN σ3 H3 n3
      exact ⟨m', hm, σ3, H3, I3, w3⟩
    | cont =>
      obtain ⟨σ3, H3, I3, n3⟩ := q3
      obtain ⟨m', hm, w3⟩ := hN σ3 H3 n3
      exact ⟨m', hm, σ3, H3, I3, w3⟩
    | brk => exact q3
    | ret v => exact q3
  | false =>
    rw [if_neg Bool.false_ne_true]
    exact wpAny_execs_nil ⟨σ1, H2, I2, q2⟩
end

structure It where
  go : Nat → Hp → Prop
  yld : Nat → Hp → V → Hp → Prop
  stop : Nat → Hp → Prop
def FpOk (X : Cx) (pins : List (Addr × Obj)) (H : Hp) (b : Addr) : Prop :=
  H b = none ∧ b ≠ X.env.locals ∧ b ∉ X.fs ∧ (b ∈ X.ex ∨ X.s₀.heap.objs.size ≤ b) ∧ (∀ x c, X.env.cells.lookup x = some c → c ≠ b) ∧ ∀ p ∈ X.pn ++ pins, p.1 ≠ b
theorem Inv.fpOk {X : Cx} {pins : List (Addr × Obj)} {σ : St} {H H' : Hp} {s : Shared} {b : Addr} (I : Inv X pins σ H s) (hb : s.heap.objs.size ≤ b) (hn : H' b = none) : FpOk X pins H' b := by
  refine ⟨hn, Nat.ne_of_gt (Nat.lt_of_lt_of_le I.lt hb), I.nofs hb, .inr (Nat.le_trans I.sz hb), fun x c e z => ?_, fun p hp z => ?_⟩
  · obtain ⟨v, q⟩ := I.cell x c e
    exact absurd (Nat.lt_of_lt_of_le q.lt (by rw [z]; exact hb)) (Nat.lt_irrefl _)
  · exact absurd (Nat.lt_of_lt_of_le (Heap.lt_size (I.pin p hp).1) (by rw [z]; exact hb)) (Nat.lt_irrefl _)
structure Turn (P : Program) (w : World) (K : PySem.W.Frag) (tg : Expr) (J : It) (fp : List Addr) (it : Addr) (tn : Nat → Heap → Prop) : Prop where
  mem : it ∈ fp
  obj : ∀ i h, tn i h → ∀ b ∈ fp, ∃ o, h.get? b = some o ∧ ∀ v, o.data ≠ .cell v
  keep : ∀ i h h', tn i h → (∀ b ∈ fp, ∀ o, h.get? b = some o → h'.get? b = some o) → tn i h'
  item : ∀ (X : Cx), X.prog = P → X.w = w → X.K = K → X.calm = true → ∀ (i : Nat) (pins : List (Addr × Obj)) (s : Shared) (σ : St) (H : Hp) (E : Value → Shared → Prop), Inv X pins σ H s → (∀ b ∈ fp, FpOk X pins H b) → tn i s.heap → J.go i H →
    wpAny (model P w) X.A (pyNext (.ref it)) (fun r s1 => ∃ u, r = some u ∧
      wpAny (model P w) X.A (letOwnedTupleGo tg (.ref it) u) (fun _ s2 => ∃ x H', Inv X pins σ H' s2 ∧ RelV x u ∧ J.yld i H x H' ∧ tn (i + 1) s2.heap ∧ ∀ b ∈ fp, H' b = none) E s1) E s
  done : ∀ (X : Cx), X.prog = P → X.w = w → X.K = K → X.calm = true → ∀ (i : Nat) (pins : List (Addr × Obj)) (s : Shared) (σ : St) (H : Hp) (E : Value → Shared → Prop), Inv X pins σ H s → (∀ b ∈ fp, FpOk X pins H b) → tn i s.heap → J.stop i H →
    wpAny (model P w) X.A (pyNext (.ref it)) (fun r s1 => r = none ∧ Inv X pins σ H s1) E s
  self : ∀ (A : Around) (i : Nat) (s : Shared) (Q : Value → Shared → Prop) (E : Value → Shared → Prop), tn i s.heap → Q (.ref it) s → wpAny (model P w) A (pyIter (.ref it)) Q E s
abbrev TI := St → Hp → (It → Hp → Prop) → Prop
def PIE (X : Cx) (pins : List (Addr × Obj)) (σ : St) (tg : Expr) (R : It → Hp → Prop) (itv : Value) (s2 : Shared) : Prop :=
  ∃ (it : Addr) (fp : List Addr) (tn : Nat → Heap → Prop) (J : It) (H' : Hp), itv = .ref it ∧ Inv X pins σ H' s2 ∧ Turn X.prog X.w X.K tg J fp it tn ∧ tn 0 s2.heap ∧ (∀ b ∈ fp, FpOk X pins H' b) ∧ R J H'
def PI (X : Cx) (tg iter : Expr) (wi : TI) : Prop :=
  ∀ (pins : List (Addr × Obj)) (s : Shared) (σ : St) (H : Hp) (R : It → Hp → Prop), Inv X pins σ H s → wi σ H R →
    wpAny (model X.prog X.w) X.A (eval iter X.env) (fun v s1 => wpAny (model X.prog X.w) X.A (pyIter v) (PIE X pins σ tg R) X.xe s1) X.xe s

theorem go_of {M : Model} {A : Around} {E : Value → Shared → Prop} {s : Shared} {tg : Expr} {it : Addr} {u : Value} {o : Obj} {n : String} {vs : Array Value} {Q : Unit → Shared → Prop} (ho : s.heap.get? it = some o) (hc : o.cls = .type n) (hd : o.data = .fields vs)
    (hn : ["enumerate", "zip", "dict_itemiterator", "dict_reverseitemiterator", "odict_iterator", "itertools.zip_longest", "itertools.pairwise"].contains n = false) (hQ : Q () s) : wpAny M A (letOwnedTupleGo tg (.ref it) u) Q E s := by
  unfold letOwnedTupleGo
  cases tg <;> first
    | exact wpAny_pure hQ
    | (cases u <;> first
        | exact wpAny_pure hQ
        | (refine wpAny_bind (wpAny_load ho ?_)
           rw [hc, hd]
           show wpAny M A (if (["enumerate", "zip", "dict_itemiterator", "dict_reverseitemiterator", "odict_iterator", "itertools.zip_longest", "itertools.pairwise"].contains n && vs[0]? == some (rawInt _)) = true then _ else _) Q E s
           rw [if_neg (by intro h; rw [hn, Bool.false_and] at h; cases h)]
           exact wpAny_pure hQ))

def Itl (K : PySem.W.Frag) (a : Addr) : It :=
  ⟨fun i H => ∃ xs x, SqL K H a xs ∧ xs[i]? = some x, fun i H x H' => H' = H ∧ ∀ xs, SqL K H a xs → xs[i]? = some x, fun i H => ∃ xs, SqL K H a xs ∧ xs.length ≤ i⟩
def Itt (K : PySem.W.Frag) (a : Addr) : It :=
  ⟨fun i H => ∃ xs x, SqT K H a xs ∧ xs[i]? = some x, fun i H x H' => H' = H ∧ ∀ xs, SqT K H a xs → xs[i]? = some x, fun i H => ∃ xs, SqT K H a xs ∧ xs.length ≤ i⟩
def Itr (lo : Int) (n : Nat) : It := ⟨fun i _ => i < n, fun i H x H' => H' = H ∧ x = .int (lo + i), fun i _ => n ≤ i⟩
theorem turn_list {P : Program} {w : World} {K : PySem.W.Frag} {tg : Expr} (a it : Addr) : Turn P w K tg (Itl K a) [it] it (fun i h => h.IsListIter it a i) where
  mem := by simp
  obj := fun i h st b hb => by
    have e : b = it := by simpa using hb
    subst e
    obtain ⟨o, e, c, d⟩ := st
    exact ⟨o, e, fun v z => by rw [d] at z; cases z⟩
  keep := fun i h h' st k => st.at fun o e => k it (by simp) o e
  item := by
    intro X hP hw hK hc i pins s σ H E I hf st hg
    subst hP hw hK
    obtain ⟨xs, x, hq, hx⟩ := hg
    obtain ⟨its, rv, p, hz⟩ := I.list hq
    obtain ⟨u, hu, ru⟩ := rv.get hx
    obtain ⟨f0, f1, f2, f3, f4, f5⟩ := hf it (by simp)
    refine wpAny_pyNext_list_item st p.isList (x := u) (by simpa using hu) fun h' st' sb => ?_
    have I1 : Inv X pins σ H { s with heap := h' } := I.turned (t' := s.toks) (fun b o hb e => (sb.2 b hb).trans e) f0 f1 f3 f4 f5
    obtain ⟨o, e, c, d⟩ := id st'
    exact ⟨u, rfl, go_of (s := { s with heap := h' }) e c d (by decide) ⟨x, H, I1, ru, ⟨rfl, fun ys hy => by rw [I.list_inj hy hq]; exact hx⟩, st', fun b hb => (hf b hb).1⟩⟩
  done := by
    intro X hP hw hK hc i pins s σ H E I hf st hg
    subst hP hw hK
    obtain ⟨xs, hq, hx⟩ := hg
    obtain ⟨its, rv, p, hz⟩ := I.list hq
    obtain ⟨f0, f1, f2, f3, f4, f5⟩ := hf it (by simp)
    have hl := rv.length
    exact wpAny_pyNext_list_end (I.ok.hd hc) st p.isList (by simp; omega) fun h' eb => ⟨rfl, I.turned (t' := s.toks) (fun b o hb e => eb b o hb e) f0 f1 f3 f4 f5⟩
  self := fun _ _ _ _ _ st h => wpAny_pyIter_listiter st h
theorem turn_tuple {P : Program} {w : World} {K : PySem.W.Frag} {tg : Expr} (a it : Addr) : Turn P w K tg (Itt K a) [it] it (fun i h => h.IsTupleIter it a i) where
  mem := by simp
  obj := fun i h st b hb => by
    have e : b = it := by simpa using hb
    subst e
    obtain ⟨o, e, c, d⟩ := st
    exact ⟨o, e, fun v z => by rw [d] at z; cases z⟩
  keep := fun i h h' st k => st.at fun o e => k it (by simp) o e
  item := by
    intro X hP hw hK hc i pins s σ H E I hf st hg
    subst hP hw hK
    obtain ⟨xs, x, hq, hx⟩ := hg
    obtain ⟨its, rv, p, hz⟩ := I.tuple hq
    obtain ⟨u, hu, ru⟩ := rv.get hx
    obtain ⟨f0, f1, f2, f3, f4, f5⟩ := hf it (by simp)
    refine wpAny_pyNext_tuple_item st (show s.heap.IsTuple a its.toArray from p) (x := u) (by simpa using hu) fun h' st' sb => ?_
    have I1 : Inv X pins σ H { s with heap := h' } := I.turned (t' := s.toks) (fun b o hb e => (sb.2 b hb).trans e) f0 f1 f3 f4 f5
    obtain ⟨o, e, c, d⟩ := id st'
    exact ⟨u, rfl, go_of (s := { s with heap := h' }) e c d (by decide) ⟨x, H, I1, ru, ⟨rfl, fun ys hy => by rw [I.tuple_inj hy hq]; exact hx⟩, st', fun b hb => (hf b hb).1⟩⟩
  done := by
    intro X hP hw hK hc i pins s σ H E I hf st hg
    subst hP hw hK
    obtain ⟨xs, hq, hx⟩ := hg
    obtain ⟨its, rv, p, hz⟩ := I.tuple hq
    obtain ⟨f0, f1, f2, f3, f4, f5⟩ := hf it (by simp)
    have hl := rv.length
    exact wpAny_pyNext_tuple_end (I.ok.hd hc) st (show s.heap.IsTuple a its.toArray from p) (by simp; omega) fun h' eb => ⟨rfl, I.turned (t' := s.toks) (fun b o hb e => eb b o hb e) f0 f1 f3 f4 f5⟩
  self := fun _ _ _ _ _ st h => wpAny_pyIter_tupleiter st h
theorem turn_range {P : Program} {w : World} {K : PySem.W.Frag} {tg : Expr} (it : Addr) (lo : Int) (n : Nat) : Turn P w K tg (Itr lo n) [it] it (fun i h => IsRangeIter h it (lo + (i : Nat) * 1) ((n : Int) - (i : Nat)) 1) where
  mem := by simp
  obj := fun i h st b hb => by
    have e : b = it := by simpa using hb
    subst e
    exact ⟨_, st, fun v z => by
      have z' : Data.fields _ = Data.cell v := z
      cases z'⟩
  keep := fun i h h' st k => k it (by simp) _ st
  item := by
    intro X hP hw hK hc i pins s σ H E I hf st hg
    subst hP hw hK
    obtain ⟨f0, f1, f2, f3, f4, f5⟩ := hf it (by simp)
    have W := Walks.range (prog := X.prog) (w := X.w) (I.ok.hd hc) it lo 1 n
    refine W.item i s _ _ hg st fun v h' tk hv st' kk => ?_
    obtain ⟨t, rfl⟩ := hv
    have I1 : Inv X pins σ H { s with heap := h', toks := tk } := I.turned (fun b o hb e => kk b o (by simpa using hb) e) f0 f1 f3 f4 f5
    refine ⟨_, rfl, go_of (s := { s with heap := h', toks := tk }) (n := "range_iterator") st' rfl rfl (by decide) ⟨.int (lo + i), H, I1, ⟨t, ?_⟩, ⟨rfl, rfl⟩, st', fun b hb => (hf b hb).1⟩⟩
    rw [Int.mul_one]
  done := by
    intro X hP hw hK hc i pins s σ H E I hf st hg
    subst hP hw hK
    obtain ⟨f0, f1, f2, f3, f4, f5⟩ := hf it (by simp)
    exact wpAny_pyNext_range_end (I.ok.hd hc) st (by have : n ≤ i := hg; omega) fun h' eb => ⟨rfl, I.turned (t' := s.toks) (fun b o hb e => eb b o hb e) f0 f1 f3 f4 f5⟩
  self := fun _ _ _ _ _ st h => wpAny_pyIter_rangeiter st h
end L2

namespace L2
open PySem PySem.Spec PyProof.Rows
section
variable {X : Cx} {tg : Expr}
theorem range_it {pins : List (Addr × Obj)} {σ : St} {H : Hp} {s : Shared} {R : It → Hp → Prop} {E : Value → Shared → Prop} {lo hi : Int} {t u v : Tok} {tk : Nat} (I : Inv X pins σ H s) (h1 : -(2 ^ 62) ≤ lo) (h2 : lo < 2 ^ 62) (h3 : -(2 ^ 62) ≤ hi) (h4 : hi < 2 ^ 62)
    (q : R (Itr lo (hi - lo).toNat) H) : wpAny (model X.prog X.w) X.A (pyIter (.ref s.heap.objs.size)) (PIE X pins σ tg R) E { s with heap := s.heap.push { cls := .type "range", data := .fields #[.int lo t, .int hi u, .int 1 v] }, toks := tk } := by
  refine wpAny_pyIter_range (IsRange.new ..) (small_one h1 h2 h3 h4) ?_
  have I1 : Inv X pins σ H { s with heap := s.heap.push { cls := .type "range", data := .fields #[.int lo t, .int hi u, .int 1 v] }, toks := tk } := I.kept fun b o e => Heap.get?_push_of_some _ e
  refine ⟨(s.heap.push { cls := .type "range", data := .fields #[.int lo t, .int hi u, .int 1 v] }).objs.size, [(s.heap.push { cls := .type "range", data := .fields #[.int lo t, .int hi u, .int 1 v] }).objs.size], _, _, H, rfl,
    I1.kept (t' := tk) fun b o e => Heap.get?_push_of_some _ e, turn_range _ lo (hi - lo).toNat, ?_, fun b hb => ?_, q⟩
  · have e1 : lo + ((0 : Nat) : Int) * 1 = lo := by simp
    have e2 : (((hi - lo).toNat : Nat) : Int) - ((0 : Nat) : Int) = Builtin.Range.rangeSize lo hi 1 := by rw [rangeSize_one]; split <;> omega
    show IsRangeIter _ _ (lo + ((0 : Nat) : Int) * 1) ((((hi - lo).toNat : Nat) : Int) - ((0 : Nat) : Int)) 1
    rw [e1, e2]
    exact Heap.get?_push_size _ rfl
  · have e : b = (s.heap.push { cls := .type "range", data := .fields #[.int lo t, .int hi u, .int 1 v] }).objs.size := by simpa using hb
    subst e
    exact I1.fpOk (Nat.le_refl _) (I1.hok.fresh (Nat.le_refl _))
def iRng1 (ta : TA) : TI := fun σ H R => ta σ H fun vs H1 => ∃ j : Int, vs = [.int j] ∧ -(2 ^ 62) ≤ j ∧ j < 2 ^ 62 ∧ R (Itr 0 j.toNat) H1
theorem pi_range1 {a : Expr} {ta : TA} {p pos : Pos} (hg : Gl X "range") (hm : X.mg "range" = none) (ha : PA X [a] ta) (hs : starEach [a] X.env = [(false, eval a X.env)] := by rfl) : PI X tg (.Call (.Name "range" p) [a] [] pos) (iRng1 ta) := by
  intro pins s σ H R I h
  refine Call_ (ld_blt I hg hm boot_range (PyProof.Rows.callWith_type1 (thn (ha pos pins s σ H _ I h) fun us s1 ⟨vs, H1, I1, r1, q1⟩ => ?_) hs rfl))
  obtain ⟨j, e, q1, q2, q⟩ := q1
  subst e
  cases r1 with
  | cons r rr =>
    cases rr
    obtain ⟨t, rfl⟩ := r
    exact call_range_1 (range_it I1 (by omega) (by omega) q1 q2 (by simpa using q))
def tFor (wi : TI) (g : TG) (tb : TS) : TS := fun D σ H => wi σ H fun J H1 => ∃ W : Nat → Nat → St → Hp → Prop, (∃ m, W 0 m σ H1) ∧ ∀ i m σ H, W i m σ H →
  (J.stop i H ∧ D.nx σ H) ∨ (J.go i H ∧ ∃ N : St → Hp → Prop, (∀ σ' H', N σ' H' → ∃ m', m' < m ∧ W (i + 1) m' σ' H') ∧ ∀ x H', J.yld i H x H' → g x σ H' fun σ2 H2 => tb { D with nx := N, ct := N, bk := D.nx } σ2 H2)
def pinsAt (fp : List Addr) (h : Heap) : List (Addr × Obj) := fp.filterMap fun b => (h.get? b).map fun o => (b, o)
theorem mem_pinsAt {fp : List Addr} {h : Heap} {b : Addr} {o : Obj} (hb : b ∈ fp) (e : h.get? b = some o) : (b, o) ∈ pinsAt fp h := List.mem_filterMap.mpr ⟨b, hb, by rw [e]; rfl⟩
theorem of_pinsAt {fp : List Addr} {h : Heap} {p : Addr × Obj} (hp : p ∈ pinsAt fp h) : p.1 ∈ fp ∧ h.get? p.1 = some p.2 := by
  obtain ⟨b, hb, e⟩ := List.mem_filterMap.mp hp
  cases q : h.get? b with
  | none => rw [q] at e; cases e
  | some o =>
    rw [q] at e
    have e' : (b, o) = p := Option.some.inj e
    subst e'
    exact ⟨hb, q⟩
theorem Inv.pinned {pins : List (Addr × Obj)} {σ : St} {H : Hp} {s : Shared} {fp : List Addr} (I : Inv X pins σ H s) (hf : ∀ b ∈ fp, FpOk X pins H b) (ho : ∀ b ∈ fp, ∃ o, s.heap.get? b = some o ∧ ∀ v, o.data ≠ .cell v) : Inv X (pins ++ pinsAt fp s.heap) σ H s :=
  I.pins_of fun p hp => (List.mem_append.mp hp).elim (fun z => I.pin p (List.mem_append_right _ z)) fun z => by
    obtain ⟨hb, e⟩ := of_pinsAt z
    obtain ⟨f0, f1, f2, _⟩ := hf p.1 hb
    obtain ⟨o, e', d⟩ := ho p.1 hb
    rw [e] at e'; cases e'
    exact ⟨e, f0, f1, f2, d⟩
theorem Inv.unpinned {pins pl : List (Addr × Obj)} {σ : St} {H : Hp} {s : Shared} (I : Inv X (pins ++ pl) σ H s) : Inv X pins σ H s := I.pins_of fun p hp => I.pin p (List.mem_append_right _ (List.mem_append_left _ hp))
theorem ps_for {iter : Expr} {body : List Stmt} {wi : TI} {g : TG} {tb : TS} {pos : Pos} (hp : PassesOwn (model X.prog X.w) X.A X.env X.xe) (hc : X.calm = true) (hi : PI X tg iter wi) (hg : PG X tg g) (hb : PSs X body tb)
    (hs : ∀ x, foldedSetIterable iter X.env x = pure x := by intro _; rfl) : PS X (.For tg iter body [] pos) (tFor wi g tb) := by
  intro pins s σ H D I h
  refine wpAny_For (thn (hi pins s σ H _ I h) fun v s1 h1 => thn h1 fun itv s2 h2 => ?_) hs
  obtain ⟨it, fp, tn, J, H2, e, I2, T, st2, f2, W, ⟨m0, w0⟩, turn⟩ := h2
  subst e
  -- what stays true of the iterator's objects through the loop
  have stat : ∀ {H' : Hp}, (∀ b ∈ fp, H' b = none) → ∀ b ∈ fp, FpOk X pins H' b := fun hn b hb => ⟨hn b hb, (f2 b hb).2⟩
  refine codeAny_forLoop_any (fun n s' => ∃ i σ' H', Inv X pins σ' H' s' ∧ tn i s'.heap ∧ (∀ b ∈ fp, H' b = none) ∧ W i n σ' H') ?_ m0 ⟨0, σ, H2, I2, st2, fun b hb => (f2 b hb).1, w0⟩
  rintro n s3 ⟨i, σ3, H3, I3, st3, fr3, w3⟩
  rcases turn i n σ3 H3 w3 with ⟨stop, qn⟩ | ⟨go, N, hN, step⟩
  · refine wpAny_passesOwn hp (thn (T.done X rfl rfl rfl hc i pins s3 σ3 H3 X.xe I3 (stat fr3) st3 stop) fun r s4 ⟨hr, I4⟩ => ?_)
    subst hr
    exact wpAny_execs_nil ⟨σ3, H3, I4, qn⟩
  · refine wpAny_passesOwn hp (thn (T.item X rfl rfl rfl hc i pins s3 σ3 H3 X.xe I3 (stat fr3) st3 go) fun r s4 ⟨u, hr, h4⟩ => ?_)
    subst hr
    refine wpAny_passesOwn hp (thn h4 fun _ s5 ⟨x, H5, I5, r5, y5, st5, fr5⟩ => ?_)
    have I5' := I5.pinned (stat fr5) (T.obj _ _ st5)
    refine wpAny_passesOwn hp (thn (hg _ s5 σ3 H5 x u _ I5' r5 (step x H5 y5)) fun _ s6 ⟨σ6, H6, I6, q6⟩ => ?_)
    refine wpAny_passesOwn hp (thn (hb _ s6 σ6 H6 _ I6 q6) fun f s7 q7 => ?_)
    have again : ∀ {σ7 : St} {H7 : Hp}, Inv X (pins ++ pinsAt fp s5.heap) σ7 H7 s7 → N σ7 H7 → ∃ m, m < n ∧ ∃ i σ' H', Inv X pins σ' H' s7 ∧ tn i s7.heap ∧ (∀ b ∈ fp, H' b = none) ∧ W i m σ' H' := fun {σ7 H7} I7 n7 => by
      obtain ⟨m', hm, w7⟩ := hN σ7 H7 n7
      refine ⟨m', hm, i + 1, σ7, H7, I7.unpinned, T.keep _ _ _ st5 fun b hb o e => (I7.pin (b, o) (List.mem_append_right _ (List.mem_append_right _ (mem_pinsAt hb e)))).1, fun b hb => ?_, w7⟩
      obtain ⟨o, e, d⟩ := T.obj _ _ st5 b hb
      exact (I7.pin (b, o) (List.mem_append_right _ (List.mem_append_right _ (mem_pinsAt hb e)))).2.1
    cases f with
    | next => obtain ⟨σ7, H7, I7, n7⟩ := q7; exact again I7 n7
    | cont => obtain ⟨σ7, H7, I7, n7⟩ := q7; exact again I7 n7
    | brk => obtain ⟨σ7, H7, I7, q7⟩ := q7; exact ⟨σ7, H7, I7.unpinned, q7⟩
    | ret v => obtain ⟨x7, σ7, H7, I7, r7, q7⟩ := q7; exact ⟨x7, σ7, H7, I7.unpinned, r7, q7⟩
end

theorem while_by {c : TT} {tb : TS} {D : Ends} {σ : St} {H : Hp} (Pv : St → Hp → Prop) (μ : St → Hp → Nat) (h0 : Pv σ H)
    (hs : ∀ σ H, Pv σ H → c σ H fun b H1 => if b = true then tb { D with nx := fun σ' H' => Pv σ' H' ∧ μ σ' H' < μ σ H, ct := fun σ' H' => Pv σ' H' ∧ μ σ' H' < μ σ H, bk := D.nx } σ H1 else D.nx σ H1)
    (mono : ∀ σ H Q Q', (∀ b H1, Q b H1 → Q' b H1) → c σ H Q → c σ H Q') : tWhile c tb D σ H := by
  refine ⟨fun m σ H => m = μ σ H ∧ Pv σ H, ⟨_, rfl, h0⟩, ?_⟩
  rintro m σ H ⟨rfl, p⟩
  refine mono σ H _ _ (fun b H1 q => ?_) (hs σ H p)
  cases b with
  | true => exact ⟨_, fun σ' H' ⟨p', l⟩ => ⟨_, l, rfl, p'⟩, q⟩
  | false => exact q
end L2

namespace L2
open PySem PySem.Spec PyProof.Rows

abbrev R2 := V → V → Hp → VK → Prop
def OpR (X : Cx) (f : Value → Value → Sem Value) (r : R2) : Prop :=
  ∀ (pins : List (Addr × Obj)) (s : Shared) (σ : St) (H : Hp) (x y : V) (v u : Value) (Q : VK), Inv X pins σ H s → RelV x v → RelV y u → r x y H Q →
    wpAny (model X.prog X.w) X.A (f v u) (EP X pins σ Q) X.xe s
def UnR (X : Cx) (f : Value → Sem Value) (r : V → Hp → VK → Prop) : Prop :=
  ∀ (pins : List (Addr × Obj)) (s : Shared) (σ : St) (H : Hp) (x : V) (v : Value) (Q : VK), Inv X pins σ H s → RelV x v → r x H Q →
    wpAny (model X.prog X.w) X.A (f v) (EP X pins σ Q) X.xe s
def CallR (X : Cx) (f : Value) (r : List V → Hp → VK → Prop) : Prop :=
  ∀ (pins : List (Addr × Obj)) (s : Shared) (σ : St) (H : Hp) (xs : List V) (us : List Value) (Q : VK), Inv X pins σ H s → Vals xs us → r xs H Q →
    wpAny (model X.prog X.w) X.A (call f us) (EP X pins σ Q) X.xe s
def tOp (r : R2) (ta tb : TE) : TE := fun σ H Q => ta σ H fun x H1 => tb σ H1 fun y H2 => r x y H2 Q
def tUn (r : V → Hp → VK → Prop) (ta : TE) : TE := fun σ H Q => ta σ H fun x H1 => r x H1 Q
def rI (C : Int → Int → Prop) (g : Int → Int → V) : R2 := fun x y H Q => ∃ i j, x = .int i ∧ y = .int j ∧ C i j ∧ Q (g i j) H
def rI0 (g : Int → Int → V) : R2 := fun x y H Q => ∃ i j, x = .int i ∧ y = .int j ∧ Q (g i j) H
def rU (g : Int → V) : V → Hp → VK → Prop := fun x H Q => ∃ i, x = .int i ∧ Q (g i) H

section
variable {X : Cx} {a b c : Expr} {ta tb tc : TE} {pos : Pos}

theorem binT (ha : PE X a ta) (hb : PE X b tb) {pins : List (Addr × Obj)} {s : Shared} {σ : St} {H : Hp} {R : V → V → Hp → Prop} (I : Inv X pins σ H s)
    (h : ta σ H fun x H1 => tb σ H1 fun y H2 => R x y H2) {Q : Value → Shared → Prop} {f : Value → Value → Sem Value}
    (hf : ∀ v u s2 x y H2, Inv X pins σ H2 s2 → RelV x v → RelV y u → R x y H2 → wpAny (model X.prog X.w) X.A (f v u) Q X.xe s2) :
    wpAny (model X.prog X.w) X.A (eval a X.env) (fun v s₁ => wpAny (model X.prog X.w) X.A (eval b X.env) (fun u s₂ => wpAny (model X.prog X.w) X.A (f v u) Q X.xe s₂) X.xe s₁) X.xe s := by
  refine thn (ha pins s σ H _ I h) fun v s1 ⟨x, H1, I1, r1, q1⟩ => ?_
  refine thn (hb pins s1 σ H1 _ I1 q1) fun u s2 ⟨y, H2, I2, r2, q2⟩ => ?_
  exact hf v u s2 x y H2 I2 r1 r2 q2

theorem pe_op {op : Operator} {r : R2} (ho : OpR X (binaryOp op) r) (ha : PE X a ta) (hb : PE X b tb) : PE X (.BinOp a op b pos) (tOp r ta tb) := by
  intro pins s σ H Q I h
  exact wpAny_BinOp (binT ha hb I h fun v u s2 x y H2 I2 rx ry q => ho pins s2 σ H2 x y v u Q I2 rx ry q)
theorem pe_un {op : UnaryOp} {r : V → Hp → VK → Prop} (ho : UnR X (unaryOp op) r) (ha : PE X a ta) : PE X (.UnaryOp op a pos) (tUn r ta) := by
  intro pins s σ H Q I h
  exact UnaryOp_ (thn (ha pins s σ H _ I h) fun v s1 ⟨x, H1, I1, r1, q1⟩ => ho pins s1 σ H1 x v Q I1 r1 q1)
theorem opI {f : Value → Value → Sem Value} {C : Int → Int → Prop} {g : Int → Int → Int}
    (rule : ∀ (i j : Int) (t u : Tok) (s : Shared) (Q : Value → Shared → Prop) (E : Value → Shared → Prop), C i j → Q (.int (g i j) s.toks) { s with toks := s.toks + 1 } → wpAny (model X.prog X.w) X.A (f (.int i t) (.int j u)) Q E s) :
    OpR X f (rI C fun i j => .int (g i j)) := by
  intro pins s σ H x y v u Q I rx ry h
  obtain ⟨i, j, rfl, rfl, hc, q⟩ := h
  obtain ⟨t, rfl⟩ := rx
  obtain ⟨t', rfl⟩ := ry
  exact rule i j t t' s _ _ hc ⟨.int (g i j), H, I.tok _, ⟨_, rfl⟩, q⟩
theorem opI0 {f : Value → Value → Sem Value} {g : Int → Int → Int}
    (rule : ∀ (i j : Int) (t u : Tok) (s : Shared) (Q : Value → Shared → Prop) (E : Value → Shared → Prop), Q (.int (g i j) s.toks) { s with toks := s.toks + 1 } → wpAny (model X.prog X.w) X.A (f (.int i t) (.int j u)) Q E s) :
    OpR X f (rI0 fun i j => .int (g i j)) := by
  intro pins s σ H x y v u Q I rx ry h
  obtain ⟨i, j, rfl, rfl, q⟩ := h
  obtain ⟨t, rfl⟩ := rx
  obtain ⟨t', rfl⟩ := ry
  exact rule i j t t' s _ _ ⟨.int (g i j), H, I.tok _, ⟨_, rfl⟩, q⟩
theorem opB0 {f : Value → Value → Sem Value} {g : Int → Int → Bool}
    (rule : ∀ (i j : Int) (t u : Tok) (s : Shared) (Q : Value → Shared → Prop) (E : Value → Shared → Prop), Q (.bool (g i j)) s → wpAny (model X.prog X.w) X.A (f (.int i t) (.int j u)) Q E s) :
    OpR X f (rI0 fun i j => .bl (g i j)) := by
  intro pins s σ H x y v u Q I rx ry h
  obtain ⟨i, j, rfl, rfl, q⟩ := h
  obtain ⟨t, rfl⟩ := rx
  obtain ⟨t', rfl⟩ := ry
  exact rule i j t t' s _ _ ⟨.bl (g i j), H, I, rfl, q⟩

def CMul (i j : Int) : Prop := (-(2 ^ 64) < i ∧ i < 2 ^ 64) ∨ (-(2 ^ 64) < j ∧ j < 2 ^ 64)
theorem CMul.ok {i j : Int} (h : CMul i j) : IntMulOk i j := by
  rcases h with ⟨h1, h2⟩ | ⟨h1, h2⟩
  · exact .of_left (intBits_le_64 h1 h2)
  · exact .of_right (intBits_le_64 h1 h2)
theorem two_pow_nn (k : Nat) : (0 : Int) ≤ 2 ^ k := by
  rw [two_pow_cast]
  exact Int.natCast_nonneg _

theorem op_add : OpR X (binaryOp .Add) (rI0 fun i j => .int (i + j)) := opI0 fun _ _ _ _ _ _ _ q => add_int q
theorem op_sub : OpR X (binaryOp .Sub) (rI0 fun i j => .int (i - j)) := opI0 fun _ _ _ _ _ _ _ q => sub_int q
theorem op_modN : OpR X (binaryOp .Mod) (rI (fun _ j => j ≠ 0) fun i j => .int (i.fmod j)) := opI fun _ _ _ _ _ _ _ hc q => mod_int' hc q
theorem op_shr : OpR X (binaryOp .RShift) (rI (fun _ j => 0 ≤ j) fun i j => .int (i / 2 ^ j.toNat)) := opI fun i j _ _ _ _ _ hc q =>
  rshift_int hc (by rw [Int.fdiv_eq_ediv_of_nonneg i (two_pow_nn _)]; exact q)
theorem op_and : OpR X (binaryOp .BitAnd) (rI0 fun i j => .int (Builtin.bitAnd i j)) := opI0 fun _ _ _ _ _ _ _ q => and_int q
theorem unI {f : Value → Sem Value} {g : Int → Int}
    (rule : ∀ (i : Int) (t : Tok) (s : Shared) (Q : Value → Shared → Prop) (E : Value → Shared → Prop), Q (.int (g i) s.toks) { s with toks := s.toks + 1 } → wpAny (model X.prog X.w) X.A (f (.int i t)) Q E s) :
    UnR X f (rU fun i => .int (g i)) := by
  intro pins s σ H x v Q I rx h
  obtain ⟨i, rfl, q⟩ := h
  obtain ⟨t, rfl⟩ := rx
  exact rule i t s _ _ ⟨.int (g i), H, I.tok _, ⟨_, rfl⟩, q⟩
theorem un_neg : UnR X (unaryOp .USub) (rU fun i => .int (-i)) := unI fun _ _ _ _ _ q => neg_int q
end

section
variable {X : Cx} {a b c : Expr} {ta tb tc : TE} {pos : Pos}
theorem fin_bl {pins : List (Addr × Obj)} {σ : St} {H : Hp} {s : Shared} {Q : VK} {k k' : Bool} (I : Inv X pins σ H s) (q : Q (.bl k) H) (e : k = k') : EP X pins σ Q (.bool k') s := by
  subst e
  exact ⟨.bl k, H, I, rfl, q⟩
theorem op_lt : OpR X (compareOp .Lt) (rI0 fun i j => .bl (decide (i < j))) := opB0 fun _ _ _ _ _ _ _ q => lt_int q
theorem op_gt : OpR X (compareOp .Gt) (rI0 fun i j => .bl (decide (j < i))) := opB0 fun _ _ _ _ _ _ _ q => gt_int q
theorem op_isN : OpR X (compareOp .Is) (fun x y H Q => y = .non ∧ Q (.bl (decide (x = .non))) H) := by
  intro pins s σ H x y v u Q I rx ry h
  obtain ⟨rfl, q⟩ := h
  cases ry
  refine is_none_gen (fin_bl I q ?_)
  cases x <;> first
    | (cases rx; rfl)
    | (obtain ⟨t, rfl⟩ := rx; rfl)
theorem op_notN : OpR X (compareOp .IsNot) (fun x y H Q => y = .non ∧ Q (.bl (!decide (x = .non))) H) := by
  intro pins s σ H x y v u Q I rx ry h
  obtain ⟨rfl, q⟩ := h
  cases ry
  refine isnot_none_gen (fin_bl I q ?_)
  cases x <;> first
    | (cases rx; rfl)
    | (obtain ⟨t, rfl⟩ := rx; rfl)

theorem nomark (b : Expr) {op : CmpOp} (h : op ≠ .In := by decide) (h2 : op ≠ .NotIn := by decide) : behindInMarks op b = false := by
  have e1 : (op == CmpOp.In) = false := by cases op <;> first | rfl | exact absurd rfl h
  have e2 : (op == CmpOp.NotIn) = false := by cases op <;> first | rfl | exact absurd rfl h2
  cases b <;> simp [behindInMarks, e1, e2]
theorem pe_cmpR {op : CmpOp} {r : R2} (ho : OpR X (compareOp op) r) (ha : PE X a ta) (hb : PE X b tb) (hm : behindInMarks op b = false) : PE X (.Compare a [op] [b] pos) (tOp r ta tb) := by
  intro pins s σ H Q I h
  exact wpAny_Compare1 (binT ha hb I h fun v u s2 x y H2 I2 rx ry q => ho pins s2 σ H2 x y v u Q I2 rx ry q) hm
def tTest (t : TE) : TT := fun σ H Q => t σ H fun x H' => ∃ k, x = .bl k ∧ Q k H'
theorem pt_cmpR {op : CmpOp} {r : R2} (ho : OpR X (compareOp op) r) (ha : PE X a ta) (hb : PE X b tb) (hm : behindInMarks op b = false) : PT X (.Compare a [op] [b] pos) (tTest (tOp r ta tb)) := by
  intro pins s σ H Q I h
  refine wpAny_isTrue_Compare1 (thn (ha pins s σ H _ I h) fun v s1 ⟨x, H1, I1, r1, q1⟩ => thn (hb pins s1 σ H1 _ I1 q1) fun u s2 ⟨y, H2, I2, r2, q2⟩ =>
    thn (ho pins s2 σ H2 x y v u _ I2 r1 r2 q2) fun c s3 ⟨z, H3, I3, r3, k, e, q3⟩ => ?_) hm
  subst e
  cases r3
  exact wpAny_truthy_bool ⟨H3, I3, q3⟩
theorem line63 : (sizeLine : Nat) < 2 ^ 63 := by rw [sizeLine_eq]; decide
theorem op_add_str : OpR X (binaryOp .Add) (fun x y H Q => ∃ i j, x = .str i ∧ y = .str j ∧ i.length + j.length ≤ sizeLine ∧ Q (.str (i ++ j)) H) := by
  intro pins s σ H x y v u Q I rx ry h
  obtain ⟨i, j, rfl, rfl, hz, q⟩ := h
  obtain ⟨t, rfl⟩ := rx
  obtain ⟨t', rfl⟩ := ry
  exact add_str (fun t' tk => ⟨.str (i ++ j), H, I.tok _, ⟨_, rfl⟩, q⟩) hz
theorem vals1 {x : V} {us : List Value} (r : Vals [x] us) : ∃ u, us = [u] ∧ RelV x u := by
  cases r with
  | cons r1 r2 => cases r2; exact ⟨_, rfl, r1⟩
theorem vals2 {x y : V} {us : List Value} (r : Vals [x, y] us) : ∃ u w', us = [u, w'] ∧ RelV x u ∧ RelV y w' := by
  cases r with
  | cons r1 r2 =>
    cases r2 with
    | cons r3 r4 => cases r4; exact ⟨_, _, rfl, r1, r3⟩
theorem call_int1 : CallR X (.type "int") (fun xs H Q => (∃ i, xs = [.int i] ∧ Q (.int i) H) ∨ ∃ k, xs = [.bl k] ∧ Q (.int (if k then 1 else 0)) H) := by
  intro pins s σ H xs us Q I r h
  rcases h with ⟨i, rfl, q⟩ | ⟨k, rfl, q⟩
  · obtain ⟨u, rfl, t, rfl⟩ := vals1 r
    exact call_int_int ⟨.int i, H, I, ⟨_, rfl⟩, q⟩
  · obtain ⟨u, rfl, r1⟩ := vals1 r
    cases r1
    exact call_int_bool ⟨.int (if k then 1 else 0), H, I.tok _, ⟨_, rfl⟩, q⟩
end
end L2

namespace L2
open PySem PySem.Spec PyProof.Rows

structure ObjM (h : Heap) (x dx C : Addr) (mA : Str → Option Value) : Prop where
  obj : h.get? x = some (PySem.W.instObj C dx)
  ns : h.Ns1 dx mA
  ne : dx ≠ x

theorem lookIn_ns {h : Heap} {dx : Addr} {mA : Str → Option Value} (n : h.Ns1 dx mA) : ∃ od, h.get? dx = some od ∧ ∀ name, PySem.W.lookIn name od = some (mA name) := by
  obtain ⟨o, es, ep, ho, hd, hk, _, hm⟩ := n
  refine ⟨o, ho, fun name => ?_⟩
  have e := hm name
  unfold nsFind findBy at e
  rw [← Array.find?_toList] at e
  unfold PySem.W.lookIn
  rw [hd]
  dsimp only
  split
  · rename_i y q
    rw [q] at e
    exact congrArg some e
  · rename_i q
    rw [q] at e
    have a : es.toList.any (·.refKey) = false := by
      rw [List.any_eq_false]
      intro y hy
      obtain ⟨z, t, hkey⟩ := hk y (Array.mem_toList_iff.mp hy)
      simp [DictEntry.refKey, hkey]
    have a' : ¬ es.toList.any (·.refKey) = true := by rw [a]; exact Bool.false_ne_true
    rw [if_neg a']
    exact congrArg some e

theorem ObjM.look {h : Heap} {x dx C : Addr} {mA : Str → Option Value} (I : ObjM h x dx C mA) : ∃ od, PySem.W.InstAt h x (PySem.W.instObj C dx) C (some od) ∧ ∀ name, PySem.W.lookIn name od = some (mA name) :=
  let ⟨od, ho, hl⟩ := lookIn_ns I.ns
  ⟨od, ⟨I.obj, rfl, rfl, ho⟩, hl⟩

section
variable {prog : Program} {w : World} {A : Around} {E : Value → Shared → Prop} {s : Shared} {K : PySem.W.Frag} {x dx C f : Addr} {mA : Str → Option Value} {name : Str} {v : Value}

theorem get_map {expr : Bool} {Q : Value → Shared → Prop} (X : K.In s.heap) (I : ObjM s.heap x dx C mA) (hg : PySem.W.plainGet K C name = true) (hh : PySem.W.hasDictIn K C = true)
    (ha : PySem.W.findIn K (.ref C) name = some none) (hv : mA name = some v) (hv' : PySem.W.handedIn v = true) (h : Q v { s with toks := s.toks + 1 }) :
    wpAny (model prog w) A (getAttr (.ref x) name expr) Q E s := by
  obtain ⟨od, J, hl⟩ := I.look
  exact PySem.W.get_value X J (PySem.W.plainGet_of hg).1 (PySem.W.findObj_own hh ha rfl (by rw [hl, hv])) hv' h

theorem get_meth {pl : Sem Bool} {Q : Value × List Value → Shared → Prop} (X : K.In s.heap) (I : ObjM s.heap x dx C mA) (hg : PySem.W.plainGet K C name = true)
    (hf : PySem.W.findIn K (.ref C) name = some (some (.ref f))) (ht : PySem.W.isFn K (.ref f) = true) (hv : mA name = none) (h : Q (.ref f, [.ref x]) s) :
    wpAny (model prog w) A (getMethod (.ref x) name pl) Q E s := by
  obtain ⟨od, J, hl⟩ := I.look
  exact PySem.W.method_fn X J (PySem.W.plainGet_of hg).1 (PySem.W.plainGet_of hg).2 hf (beq_iff_eq.mp ht) (by show (PySem.W.lookIn name od).map (·.isSome) = some false; rw [hl, hv]; rfl) h

theorem set_map {ns : List Str} {Q : Unit → Shared → Prop} (X : K.In s.heap) (I : ObjM s.heap x dx C mA)
    (hs : PySem.W.findIn K (.ref C) "__setattr__" = some (some (.builtin "object.__setattr__"))) (hp : PySem.W.plainOver K C = true) (ht : PySem.W.takerIn K C name = some none) (hh : PySem.W.hasDictIn K C = true)
    (hw : PySem.Within mA ns) (hsz : ns.length ≤ sizeLine)
    (h : ∀ h', ObjM h' x dx C (fun y => if y = name then some v else mA y) → Heap.SameBut dx s.heap h' → Q () { s with heap := h', toks := s.toks + 2 }) :
    wpAny (model prog w) A (setAttr (.ref x) name v) Q E s := by
  obtain ⟨od, J, hl⟩ := I.look
  refine PySem.W.set_plain X J hs (PySem.W.osa_open (s := { s with toks := s.toks + 1 }) (r := none) X J hp ht fun b => ?_)
  obtain ⟨cd, hc, hd'⟩ := PySem.W.any_some hh
  have hx : s.heap.get? x = some ⟨.ref C, some dx, .plain, #[]⟩ := I.obj
  refine wpAny_bind (wpAny_pure (wpAny_bind (wpAny_bind (wpAny_loadPart hx (wpAny_bind (PySem.W.Looks.here (s := { s with toks := s.toks + 1 }) (PySem.W.looks_clsIn X hc) ?_))))))
  rw [hd']
  refine wpAny_pure (a := some dx) (wpAny_bind (wpAny_pure (wpAny_bind ?_)))
  refine wpAny_nsSet1 (s := { s with toks := s.toks + 1 }) I.ns fun h' hn2 hs2 => ?_
  obtain ⟨oD, esD, epD, hoD, hdD, hcD⟩ := hn2.count (PySem.Within.cons name v hw)
  refine wpAny_bind (wpAny_lookBehind hoD (by rw [hdD]; exact pastItsLine_dict (Nat.le_trans hcD (by rw [List.length_cons]; omega))) ?_)
  exact wpAny_pure (h _ ⟨(hs2.2 _ (Ne.symm I.ne)).trans I.obj, hn2, I.ne⟩ hs2)

theorem make_map {R : Result → Shared → Prop} {vs : List Value} {kw : List (Str × Value)} (X : K.In s.heap) (hm : PySem.W.makesIn K C = true)
    (hi : PySem.W.findIn K (.ref C) "__init__" = some (some (.ref f))) (hf : PySem.W.typeIn K (.ref f) = some (.type "function"))
    (h : codeAny (model prog w) (A.under (.builtin "type.__call__" ⟨.ref C :: vs, kw⟩)) (.call (.ref f) ⟨.ref (s.heap.objs.size + 1) :: vs, kw⟩) (PySem.W.InitBack (s.heap.objs.size + 1) R)
      { s with heap := (s.heap.push PySem.W.emptyDict).push (PySem.W.instObj C s.heap.objs.size) }) :
    codeAny (model prog w) A (.call (.ref C) ⟨vs, kw⟩) R s := by
  obtain ⟨hh, g, d, t, os⟩ := s
  exact PySem.W.make_core (PySem.W.makes_of X hm) (PySem.W.looks_findIn X hi) (fun self => PySem.W.bind_fn X self hf) (.inl rfl) h
end

def putF (f : Str) (v : V) : List (Str × V) → List (Str × V)
  | [] => [(f, v)]
  | (g, x) :: r => if g = f then (g, v) :: r else (g, x) :: putF f v r
theorem lookup_putF (f g : Str) (v : V) : ∀ fs : List (Str × V), (putF f v fs).lookup g = if g = f then some v else fs.lookup g
  | [] => by
    show List.lookup g [(f, v)] = _
    by_cases h : g = f
    · have hb : (g == f) = true := beq_iff_eq.mpr h
      simp only [List.lookup, hb, if_pos h]
    · have hb : (g == f) = false := beq_eq_false_iff_ne.mpr h
      simp only [List.lookup, hb, if_neg h]
  | (k, x) :: r => by
    have ih := lookup_putF f g v r
    rw [show putF f v ((k, x) :: r) = (if k = f then (k, v) :: r else (k, x) :: putF f v r) from rfl]
    by_cases hk : k = f
    · rw [if_pos hk]
      by_cases h : g = k
      · have hb : (g == k) = true := beq_iff_eq.mpr h
        simp only [List.lookup, hb, if_pos (h.trans hk)]
      · have hb : (g == k) = false := beq_eq_false_iff_ne.mpr h
        simp only [List.lookup, hb, if_neg (fun e : g = f => h (e.trans hk.symm))]
    · rw [if_neg hk]
      by_cases h : g = k
      · have hb : (g == k) = true := beq_iff_eq.mpr h
        simp only [List.lookup, hb, if_neg (fun e : g = f => hk (h.symm.trans e))]
      · have hb : (g == k) = false := beq_eq_false_iff_ne.mpr h
        simp only [List.lookup, hb]
        exact ih
theorem keys_putF (f : Str) (v : V) : ∀ fs : List (Str × V), f ∈ (putF f v fs).map (·.1) ∧ ∀ g, g ∈ fs.map (·.1) → g ∈ (putF f v fs).map (·.1)
  | [] => ⟨by simp [putF], fun g h => by simp at h⟩
  | (k, x) :: r => by
    obtain ⟨i1, i2⟩ := keys_putF f v r
    rw [show putF f v ((k, x) :: r) = (if k = f then (k, v) :: r else (k, x) :: putF f v r) from rfl]
    by_cases hk : k = f
    · rw [if_pos hk]
      subst hk
      exact ⟨by simp, fun g h => by simpa using h⟩
    · rw [if_neg hk]
      refine ⟨?_, fun g h => ?_⟩
      · rw [List.map_cons]
        exact List.mem_cons_of_mem _ i1
      · rw [List.map_cons] at h ⊢
        rcases List.mem_cons.mp h with e | e
        · exact List.mem_cons.mpr (.inl e)
        · exact List.mem_cons_of_mem _ (i2 g e)
theorem length_putF (f : Str) (v : V) : ∀ fs : List (Str × V), (putF f v fs).length ≤ fs.length + 1
  | [] => by simp [putF]
  | (k, x) :: r => by
    have ih := length_putF f v r
    rw [show putF f v ((k, x) :: r) = (if k = f then (k, v) :: r else (k, x) :: putF f v r) from rfl]
    by_cases hk : k = f
    · rw [if_pos hk, List.length_cons, List.length_cons]; omega
    · rw [if_neg hk, List.length_cons, List.length_cons]; omega

theorem RelO.some_of {v : V} {o : Option Value} (r : RelO (some v) o) : ∃ u, o = some u ∧ RelV v u := by
  cases o with
  | none => exact (show False from r).elim
  | some u => exact ⟨u, rfl, r⟩
theorem RelO.none_of {o : Option Value} (r : RelO none o) : o = none := by
  cases o with
  | none => rfl
  | some u => exact (show False from r).elim
theorem handed_of {v : V} {u : Value} (r : RelV v u) : PySem.W.handedIn u = true := by
  cases v with
  | non => cases (show u = Value.none from r); rfl
  | bl b => cases (show u = Value.bool b from r); rfl
  | int i => obtain ⟨t, e⟩ := (show ∃ t, u = Value.int i t from r); cases e; rfl
  | str x => obtain ⟨t, e⟩ := (show ∃ t, u = Value.str x t from r); cases e; rfl
  | byt b => obtain ⟨t, e⟩ := (show ∃ t, u = Value.bytes b t from r); cases e; rfl
  | flt b => obtain ⟨t, e⟩ := (show ∃ t, u = Value.float b t from r); cases e; rfl
  | ref a => cases (show u = Value.ref a from r); rfl
  | ty n => cases (show u = Value.type n from r); rfl

section
variable {P : Program} {w : World} {H H' : Hp} {h h' : Heap} {a C dx : Addr} {fs fs' : List (Str × V)}
theorem ins_get (hok : HOk P w H h) (e : H a = some (.ins C dx fs)) : ∃ mA, ObjM h a dx C mA ∧ (∀ f, RelO (fs.lookup f) (mA f)) ∧ PySem.Within mA (fs.map (·.1)) ∧ fs.length ≤ 1000 ∧ H dx = some (.own a) := by
  obtain ⟨d, z, ne, ob, mA, n, r, q⟩ := (show ObjOk P w H h a (.ins C dx fs) from hok a _ e)
  exact ⟨mA, ⟨ob, n, ne⟩, r, q, z, d⟩
end

structure Cls (K : PySem.W.Frag) (C : Addr) : Prop where
  pg : PySem.W.plainGet K C Str.empty = true
  hd : PySem.W.hasDictIn K C = true
  po : PySem.W.plainOver K C = true
  sa : PySem.W.findIn K (.ref C) "__setattr__" = some (some (.builtin "object.__setattr__"))
theorem Cls.get {K : PySem.W.Frag} {C : Addr} (c : Cls K C) (f : Str) : PySem.W.plainGet K C f = true := c.pg
def NoAttr (K : PySem.W.Frag) (C : Addr) (f : Str) : Prop := PySem.W.findIn K (.ref C) f = some none
theorem NoAttr.taker {K : PySem.W.Frag} {C : Addr} {f : Str} (n : NoAttr K C f) : PySem.W.takerIn K C f = some none := by
  unfold PySem.W.takerIn
  rw [show PySem.W.findIn K (.ref C) f = some none from n]
  rfl
structure Meth (K : PySem.W.Frag) (C : Addr) (m : Str) (f : Addr) : Prop where
  at_ : PySem.W.findIn K (.ref C) m = some (some (.ref f))
  fn : PySem.W.isFn K (.ref f) = true
  kp : PySem.W.keepIn K (.ref f) = true

section
variable {X : Cx} {pins : List (Addr × Obj)} {σ : St} {H : Hp} {s : Shared} {a C dx : Addr} {fs : List (Str × V)} {f : Str} {v : V} {A : Around} {E : Value → Shared → Prop}

theorem getattr_ok {b : Bool} {Q : Value → Shared → Prop} (I : Inv X pins σ H s) (e : H a = some (.ins C dx fs)) (c : Cls X.K C) (n : NoAttr X.K C f) (l : fs.lookup f = some v)
    (h : ∀ u s', Inv X pins σ H s' → RelV v u → Q u s') : wpAny (model X.prog X.w) A (getAttr (.ref a) f b) Q E s := by
  obtain ⟨mA, O, r, _, _, _⟩ := ins_get I.hok e
  obtain ⟨u, hu, ru⟩ := RelO.some_of (v := v) (o := mA f) (by rw [← l]; exact r f)
  exact get_map I.kIn O (c.get f) c.hd n hu (handed_of ru) (h u _ (I.tok _) ru)

theorem getmeth_ok {m : Str} {g : Addr} {pl : Sem Bool} {Q : Value × List Value → Shared → Prop} (I : Inv X pins σ H s) (e : H a = some (.ins C dx fs)) (c : Cls X.K C) (k : Meth X.K C m g) (l : fs.lookup m = none)
    (h : Q (.ref g, [.ref a]) s) : wpAny (model X.prog X.w) A (getMethod (.ref a) m pl) Q E s := by
  obtain ⟨mA, O, r, _, _, _⟩ := ins_get I.hok e
  have hn : mA m = none := RelO.none_of (by rw [← l]; exact r m)
  exact get_meth I.kIn O (c.get m) k.at_ k.fn hn h

theorem setattr_ok {y : V} {u : Value} {Q : Unit → Shared → Prop} (I : Inv X pins σ H s) (e : H a = some (.ins C dx fs)) (c : Cls X.K C) (n : NoAttr X.K C f) (hl : fs.length < 1000) (ry : RelV y u)
    (h : ∀ s', Inv X pins σ (upd H a (.ins C dx (putF f y fs))) s' → Q () s') : wpAny (model X.prog X.w) A (setAttr (.ref a) f u) Q E s := by
  obtain ⟨mA, O, r, wi, _, ho⟩ := ins_get I.hok e
  have hz : (fs.map (·.1)).length ≤ sizeLine := by rw [List.length_map, sizeLine_eq]; omega
  refine set_map I.kIn O c.sa c.po n.taker c.hd wi hz fun h' O' sb => h _ ?_
  have hd : ∃ o, h'.get? dx = some o := let ⟨o, _, _, e', _⟩ := O'.ns; ⟨o, e'⟩
  refine I.write (x := a) (e := dx) (by rw [e]; exact True.intro) (.inr ho) (fun b q hb z => (sb.2 b hb).trans z) hd ?_
  refine ⟨by rw [upd_ne O.ne]; exact ho, ?_, O.ne, O'.obj, _, O'.ns, fun g => ?_, fun g hg => ?_⟩
  · have := length_putF f y fs; omega
  · show RelO ((putF f y fs).lookup g) (if g = f then some u else mA g)
    rw [lookup_putF]
    by_cases q : g = f
    · rw [if_pos q, if_pos q]; exact ry
    · rw [if_neg q, if_neg q]; exact r g
  · by_cases q : g = f
    · rw [q]; exact (keys_putF f y fs).1
    · refine (keys_putF f y fs).2 g (wi g fun z => hg ?_)
      show (if g = f then some u else mA g) = none
      rw [if_neg q]; exact z

theorem Inv.made (I : Inv X pins σ H s) : Inv X pins σ (upd (upd H s.heap.objs.size (.own (s.heap.objs.size + 1))) (s.heap.objs.size + 1) (.ins C s.heap.objs.size []))
    { s with heap := (s.heap.push PySem.W.emptyDict).push (PySem.W.instObj C s.heap.objs.size) } := by
  have e1 : (s.heap.push PySem.W.emptyDict).get? s.heap.objs.size = some PySem.W.emptyDict := Heap.get?_push_size s.heap rfl
  have e2 : ((s.heap.push PySem.W.emptyDict).push (PySem.W.instObj C s.heap.objs.size)).get? (s.heap.objs.size + 1) = some (PySem.W.instObj C s.heap.objs.size) := by
    have := Heap.get?_push_size (s.heap.push PySem.W.emptyDict) (o := PySem.W.instObj C s.heap.objs.size) rfl
    rwa [Heap.size_push] at this
  have e3 : (s.heap.push PySem.W.emptyDict).Ns s.heap.objs.size (fun _ => none) := ⟨PySem.W.emptyDict, #[], _, e1, rfl, (fun e he => absurd he (by simp)), fun _ => rfl⟩
  have I1 := I.laid (a := s.heap.objs.size) (o := .own (s.heap.objs.size + 1)) (h' := s.heap.push PySem.W.emptyDict) (t' := s.toks) (fun b u q => Heap.get?_push_of_some _ q) (Nat.le_refl _) ⟨_, e1⟩
  refine I1.laid (a := s.heap.objs.size + 1) (o := .ins C s.heap.objs.size []) (t' := s.toks) (fun b u q => Heap.get?_push_of_some _ q) (Nat.le_of_eq (Heap.size_push _ _)) ?_
  have ne : s.heap.objs.size ≠ s.heap.objs.size + 1 := Nat.ne_of_lt (Nat.lt_succ_self _)
  refine ⟨by rw [upd_ne ne, upd_same], Nat.zero_le _, ne, e2, fun _ => none, (Heap.Ns1.of_empty e3).at fun o q => Heap.get?_push_of_some _ q, fun _ => True.intro, fun y hy => absurd rfl hy⟩

theorem attr_of {prog : Program} {w : World} {env : Env} {e : Expr} {f : Str} {pos : Pos} {s : Shared} {Q : Value → Shared → Prop} (hb : attributeBase e f env (eval e env) = eval e env)
    (h : wpAny (model prog w) A (eval e env) (fun o s₁ => wpAny (model prog w) A (getAttr o f true) Q E s₁) E s) : wpAny (model prog w) A (eval (.Attribute e f pos) env) Q E s :=
  Attribute_any_ h (by rw [arm_eval_Attribute, hb])
end

def tFld (K : PySem.W.Frag) (ta : TE) (f : Str) : TE := fun σ H Q => ta σ H fun x H1 => ∃ a C dx fs v, x = .ref a ∧ H1 a = some (.ins C dx fs) ∧ Cls K C ∧ NoAttr K C f ∧ fs.lookup f = some v ∧ Q v H1
def sFld (K : PySem.W.Frag) (ta tv : TE) (f : Str) : TS := fun D σ H => tv σ H fun y H1 => ta σ H1 fun x H2 => ∃ a C dx fs, x = .ref a ∧ H2 a = some (.ins C dx fs) ∧ Cls K C ∧ NoAttr K C f ∧ fs.length < 1000 ∧
  D.nx σ (upd H2 a (.ins C dx (putF f y fs)))
section
variable {X : Cx} {o e value : Expr} {f : Str} {pos pos' tpos : Pos} {ta tv : TE}
theorem pe_fld (he : PE X e ta) (hb : attributeBase e f X.env (eval e X.env) = eval e X.env) : PE X (.Attribute e f pos) (tFld X.K ta f) := by
  intro pins s σ H Q I h
  refine attr_of hb (thn (he pins s σ H _ I h) fun u s1 ⟨x, H1, I1, rx, a, C, dx, fs, v, ex, ea, c, n, l, q⟩ => ?_)
  subst ex
  obtain rfl : u = Value.ref a := rx
  exact getattr_ok I1 ea c n l fun u' s2 I2 ru => ⟨v, H1, I2, ru, q⟩
theorem ps_fld (ha : PE X o ta) (hv : PE X value tv) (hs : swapsWith value (some (.Attribute o f pos')) pos.line X.env = pure false) : PS X (.Assign [.Attribute o f pos'] value pos) (sFld X.K ta tv f) := by
  intro pins s σ H D I h
  refine plainObj_wpAny_Assign_Attribute (thn (hv pins s σ H _ I h) fun u s1 ⟨y, H1, I1, ry, q⟩ => thn (ha pins s1 σ H1 _ I1 q) fun ov s2 ⟨x, H2, I2, rx, a, C, dx, fs, ex, ea, c, n, l, q2⟩ => ?_) hs
  subst ex
  obtain rfl : ov = Value.ref a := rx
  exact setattr_ok I2 ea c n l ry fun s3 I3 => ⟨σ, _, I3, q2⟩
theorem methcall_of {pl : Sem Bool} {m : Str} {apos : Pos} {args : List Expr} {pins : List (Addr × Obj)} {s : Shared} {σ : St} {H : Hp} {Q : Value → Shared → Prop} {te : TE} (he : PE X e te) (I : Inv X pins σ H s)
    (h : te σ H fun x H1 => ∃ a C dx fs g, x = .ref a ∧ H1 a = some (.ins C dx fs) ∧ Cls X.K C ∧ Meth X.K C m g ∧ fs.lookup m = none ∧
      ∀ s1, Inv X pins σ H1 s1 → wpAny (model X.prog X.w) X.A (callWith pos (.ref g) [.ref a] (backTo pos (starEach args X.env)) (backToKw pos (keywordEach [] X.env))) Q X.xe s1)
    (ht : eval (.Call (.Attribute e m apos) args [] pos) X.env = (do
      let ov ← eval e X.env
      standAt apos.atName
      let (f, first) ← holding [ov] (getMethod ov m pl)
      callWith pos f first (backTo pos (starEach args X.env)) (backToKw pos (keywordEach [] X.env)))) :
    wpAny (model X.prog X.w) X.A (eval (.Call (.Attribute e m apos) args [] pos) X.env) Q X.xe s := by
  refine PySem.W.methodCall_KW (pl := pl) (thn (he pins s σ H _ I h) fun u s1 ⟨x, H1, I1, rx, a, C, dx, fs, g, ex, ea, c, k, l, q⟩ => ?_) ht
  subst ex
  obtain rfl : u = Value.ref a := rx
  exact getmeth_ok I1 ea c k l (q s1 I1)
end

section
variable {X : Cx} {pins : List (Addr × Obj)} {σ : St} {H : Hp} {s : Shared} {A : Around} {E : Value → Shared → Prop} {Q : Value → Shared → Prop} {c : Value} {b : Bool}
inductive TyOf (K : PySem.W.Frag) (H : Hp) : V → Value → Prop where
  | non : TyOf K H .non (.type "NoneType")
  | bl (x : Bool) : TyOf K H (.bl x) (.type "bool")
  | int (i : Int) : TyOf K H (.int i) (.type "int")
  | str (x : Str) : TyOf K H (.str x) (.type "str")
  | flt (x : UInt64) : TyOf K H (.flt x) (.type "float")
  | lst {a : Addr} {xs : List V} (e : H a = some (.lst xs)) : TyOf K H (.ref a) (.type "list")
  | frz {a : Addr} {o : Obj} {xs : List V} (e : H a = some (.frz o (.lst xs))) : TyOf K H (.ref a) (.type "list")
  | tup {a : Addr} {xs : List V} (e : H a = some (.tup xs)) : TyOf K H (.ref a) (.type "tuple")
  | dK {a : Addr} {kvs : List (Key × V)} (e : H a = some (.dK kvs)) : TyOf K H (.ref a) (.type "dict")
  | dT {a : Addr} {kvs : List (List Key × V)} (e : H a = some (.dT kvs)) : TyOf K H (.ref a) (.type "dict")
  | ins {a C dx : Addr} {fs : List (Str × V)} (e : H a = some (.ins C dx fs)) (cl : Cls K C) (ha : PySem.W.findIn K (.ref C) "__class__" = some (some (.builtin "object.__class__")))
      (hn : PySem.W.specialIn K (.builtin "object.__class__") "__get__" = some (some (.builtin "getset_descriptor.__get__"))) (htk : PySem.W.takesIn K (.builtin "object.__class__") = some true)
      (hm : PySem.W.mroIn K C (.type "object") = some true) : TyOf K H (.ref a) (.ref C)
theorem isinst_ok {x : V} {u t : Value} (I : Inv X pins σ H s) (rx : RelV x u) (ty : TyOf X.K H x t) (e : PySem.W.kitOne X.K t c = some b) (h : ∀ tk, Q (.bool b) { s with toks := tk }) :
    wpAny (model X.prog X.w) A (call (.builtin "isinstance") [u, c]) Q E s := by
  cases ty with
  | non => cases (show u = Value.none from rx); exact PySem.W.kia_one PySem.W.kitx_none I.kIn True.intro e (fun z => nomatch z) h
  | bl y => cases (show u = Value.bool y from rx); exact PySem.W.kia_one PySem.W.kitx_bool I.kIn True.intro e (fun z => nomatch z) h
  | int i => obtain ⟨t, q⟩ := (show ∃ t, u = Value.int i t from rx); cases q; exact PySem.W.kia_one PySem.W.kitx_int I.kIn True.intro e (fun z => nomatch z) h
  | str y => obtain ⟨t, q⟩ := (show ∃ t, u = Value.str y t from rx); cases q; exact PySem.W.kia_one PySem.W.kitx_str I.kIn True.intro e (fun z => nomatch z) h
  | flt y => obtain ⟨t, q⟩ := (show ∃ t, u = Value.float y t from rx); cases q; exact PySem.W.kia_one PySem.W.kitx_float I.kIn True.intro e (fun z => nomatch z) h
  | @lst a xs ea =>
    cases (show u = Value.ref a from rx)
    obtain ⟨_, _, n, _, h1⟩ := (show ObjOk X.prog X.w H s.heap a (.lst xs) from I.hok a _ ea)
    exact PySem.W.kia_one PySem.W.kitx_list I.kIn ⟨_, h1, rfl⟩ e (fun z => nomatch z) h
  | @frz a ob xs ea =>
    cases (show u = Value.ref a from rx)
    obtain ⟨_, _, _, n, _, h1⟩ := (show ObjOk X.prog X.w H s.heap a (.frz ob (.lst xs)) from I.hok a _ ea)
    exact PySem.W.kia_one PySem.W.kitx_list I.kIn ⟨_, h1, rfl⟩ e (fun z => nomatch z) h
  | @tup a xs ea =>
    cases (show u = Value.ref a from rx)
    obtain ⟨_, _, _, p⟩ := (show ObjOk X.prog X.w H s.heap a (.tup xs) from I.hok a _ ea)
    obtain ⟨o, h1, h2, _⟩ := p
    exact PySem.W.kia_one PySem.W.kitx_tuple I.kIn ⟨o, h1, h2⟩ e (fun z => nomatch z) h
  | @dK a kvs ea =>
    cases (show u = Value.ref a from rx)
    obtain ⟨_, _, vs, _, p⟩ := (show ObjOk X.prog X.w H s.heap a (.dK kvs) from I.hok a _ ea)
    obtain ⟨o, es, ep, h1, h2, _⟩ := p
    exact PySem.W.kia_one PySem.W.kitx_dict I.kIn ⟨o, h1, h2.1⟩ e (fun z => nomatch z) h
  | @dT a kvs ea =>
    cases (show u = Value.ref a from rx)
    obtain ⟨_, _, xs, _, o, es, ep, h1, h2, _⟩ := (show ObjOk X.prog X.w H s.heap a (.dT kvs) from I.hok a _ ea)
    exact PySem.W.kia_one PySem.W.kitx_dict I.kIn ⟨o, h1, h2.1⟩ e (fun z => nomatch z) h
  | @ins a C dx fs ea cl ha hn htk hm =>
    cases (show u = Value.ref a from rx)
    obtain ⟨mA, O, _⟩ := ins_get I.hok ea
    obtain ⟨od, J, _⟩ := O.look
    exact PySem.W.kia_one (PySem.W.kitx_own (cl.get _) cl.hd ha hn htk hm) I.kIn J e (fun z => nomatch z) h
end
end L2

namespace L2
open PySem PySem.Spec PyProof.Rows

structure Room (k : Nat) (A : Around) : Prop where
  hd : A.handled = none
  dp : A.depth + 3 * k + 5 < recursionLimit
  un : A.units + 16 * k + 200 < cLine
theorem Room.mono {j k : Nat} {A : Around} (r : Room k A) (h : j ≤ k) : Room j A := ⟨r.hd, by have := r.dp; omega, by have := r.un; omega⟩
theorem Room.deeper {k : Nat} {A : Around} (r : Room (k + 1) A) (env : Env) : Room k (A.deeper env) :=
  ⟨r.hd, by have := r.dp; show A.depth + 1 + 3 * k + 5 < _; omega, by have := r.un; show A.units + 3 + 16 * k + 200 < _; omega⟩
theorem make_depth {A : Around} {C : Addr} {us : List Value} {kw : List (Str × Value)} : (A.under (.builtin "type.__call__" ⟨.ref C :: us, kw⟩)).depth = A.depth + 1 := by
  first | rfl | simp [Around.under, Code.weight, Code.isCreation, Code.isGuard, Code.isCaller, Code.frames, Code.isFrame, guardIds]
theorem make_units {A : Around} {C : Addr} {us : List Value} {kw : List (Str × Value)} : (A.under (.builtin "type.__call__" ⟨.ref C :: us, kw⟩)).units = A.units + 1 := by
  first | rfl | simp [Around.under, Code.cUnits, Code.frames, Code.isFrame]
theorem Room.make {k : Nat} {A : Around} (r : Room (k + 1) A) (C : Addr) (us : List Value) (kw : List (Str × Value)) : Room k (A.under (.builtin "type.__call__" ⟨.ref C :: us, kw⟩)) :=
  ⟨r.hd, by have := r.dp; rw [make_depth]; omega, by have := r.un; rw [make_units]; omega⟩
theorem Room.depth {k : Nat} {A : Around} (r : Room k A) : A.depth < recursionLimit := by have := r.dp; omega
theorem Room.units {k : Nat} {A : Around} (r : Room k A) : A.units + 64 < cLine := by have := r.un; omega
def tNil : TA := fun _ H Q => Q [] H
def tCons (ta : TE) (tr : TA) : TA := fun σ H Q => ta σ H fun x H1 => tr σ H1 fun xs H2 => Q (x :: xs) H2
section
variable {X : Cx} {e : Expr} {es : List Expr} {te : TE} {t : TA} {pos : Pos}
theorem pa_nil : PA X [] tNil := fun _ _ _ _ H Q I h => Calls.spliced_nil ⟨[], H, I, .nil, h⟩
theorem pa_cons (ha : PE X e te) (hr : PA X es t) (hs : starEach (e :: es) X.env = (false, eval e X.env) :: starEach es X.env := by rfl) : PA X (e :: es) (tCons te t) := by
  intro pos pins s σ H Q I h
  rw [hs]
  show wpAny _ _ (spliced ((false, eval e X.env) :: backTo pos (starEach es X.env))) _ _ s
  refine Calls.spliced_cons (thn (ha pins s σ H _ I h) fun u s1 ⟨x, H1, I1, r1, q1⟩ => ?_)
  exact thn (hr pos pins s1 σ H1 _ I1 q1) fun us s2 ⟨xs, H2, I2, r2, q2⟩ => ⟨x :: xs, H2, I2, .cons r1 r2, q2⟩

def tTup (t : TA) : TE := fun σ H Q => t σ H fun xs H1 => xs.length ≤ sizeLine ∧ ∀ p, H1 p = none → Q (.ref p) (upd H1 p (.tup xs))
def tLst (t : TA) : TE := fun σ H Q => t σ H fun xs H1 => xs.length ≤ sizeLine ∧ ∀ p, H1 p = none → Q (.ref p) (upd H1 p (.lst xs))
theorem pe_tup {x1} (h : PA X es t) : PE X (.Tuple es x1 pos) (tTup t) := by
  intro pins s σ H Q I hq
  refine wpAny_Tuple_spliced (thn (h pos pins s σ H _ I hq) fun us s1 ⟨xs, H1, I1, r, z, q⟩ => ⟨by rw [← r.length]; exact z, ?_⟩)
  have hf : H1 s1.heap.objs.size = none := I1.hok.fresh (Nat.le_refl _)
  refine ⟨.ref s1.heap.objs.size, upd H1 s1.heap.objs.size (.tup xs), I1.laid (t' := s1.toks) (fun b u e => Heap.get?_push_of_some _ e) (Nat.le_refl _) ?_, rfl, q _ hf⟩
  exact ⟨z, us, r, ⟨_, Heap.get?_push_size _ rfl, rfl, _, rfl⟩⟩
theorem pe_lst (h : PA X es t) : PE X (.List es pos) (tLst t) := by
  intro pins s σ H Q I hq
  refine wpAny_List_spliced (thn (h pos pins s σ H _ I hq) fun us s1 ⟨xs, H1, I1, r, z, q⟩ => ⟨by rw [← r.length]; exact z, ?_⟩)
  have hf : H1 s1.heap.objs.size = none := I1.hok.fresh (Nat.le_refl _)
  refine ⟨.ref s1.heap.objs.size, upd H1 s1.heap.objs.size (.lst xs), I1.laid (t' := s1.toks) (fun b u e => Heap.get?_push_of_some _ e) (Nat.le_refl _) ?_, rfl, q _ hf⟩
  exact ⟨z, us, 0, r, Heap.get?_push_size _ rfl⟩
end

abbrev Sp := List V → Hp → VK → XK → Prop
abbrev CXT := List Env → Hp → Shared → XK → Value → Shared → Prop

structure Env0 (P : Program) (w : World) (K : PySem.W.Frag) (mg : Str → Option Value) (base : Heap) (A : Around) (outer : List Env) (s : Shared) (H : Hp) : Prop where
  frames : A.frames = some outer
  mod : Mod K mg base
  bs : ∀ b o, base.get? b = some o → s.heap.get? b = some o ∧ H b = none
  bsz : base.objs.size ≤ s.heap.objs.size
  funs : s.heap.FunFrames base outer
  frf : ∀ b ∈ frs outer, H b = none
  hok : HOk P w H s.heap
  bare : AllBare s.gens
def CE (outer : List Env) (P : Program) (w : World) (H : Hp) (s : Shared) (Q : VK) (u : Value) (s' : Shared) : Prop :=
  ∃ v H', s'.os = s.os ∧ AllBare s'.gens ∧ Un (frs outer) [] H H' s.heap s'.heap ∧ HOk P w H' s'.heap ∧ RelV v u ∧ Q v H'
def CR (CX : CXT) (outer : List Env) (P : Program) (w : World) (H : Hp) (s : Shared) (Q : VK) (E : XK) (r : Result) (s' : Shared) : Prop :=
  match r with
  | .ok (.ret u) => CE outer P w H s Q u s'
  | .ok _ => False
  | .error e => CX outer H s E e s'
structure FnOk (P : Program) (w : World) (K : PySem.W.Frag) (mg : Str → Option Value) (base : Heap) (CX : CXT) (k : Nat) (f : Addr) (fd : FuncData) (ps : List Str) (sp : Sp) : Prop where
  len : ∀ vs H Q E, sp vs H Q E → vs.length = ps.length
  run : ∀ (A : Around) (outer : List Env) (s : Shared) (H : Hp) (args : Args) (us : List Value) (vs : List V) (Q : VK) (E : XK), Room k A → Env0 P w K mg base A outer s H → BindsTo s fd args (ps.zip us) → Vals vs us → sp vs H Q E →
    codeAny (model P w) A (.call (.ref f) args) (CR CX outer P w H s Q E) s
theorem Env0.make {P : Program} {w : World} {K : PySem.W.Frag} {mg : Str → Option Value} {base : Heap} {A : Around} {outer : List Env} {s : Shared} {H : Hp} (e : Env0 P w K mg base A outer s H) (C : Addr) (us : List Value) (kw : List (Str × Value)) :
    Env0 P w K mg base (A.under (.builtin "type.__call__" ⟨.ref C :: us, kw⟩)) outer s H := ⟨by first | exact e.frames | (simpa [Around.under, Code.envs, Code.isFrame, pushEnvs] using e.frames), e.mod, e.bs, e.bsz, e.funs, e.frf, e.hok, e.bare⟩
section
variable {X : Cx} {pins : List (Addr × Obj)} {σ : St} {H : Hp} {s s' : Shared}
theorem Inv.env0 (I : Inv X pins σ H s) : Env0 X.prog X.w X.K X.mg X.base X.A X.stack s H :=
  ⟨I.ok.frames, I.ok.mod, I.bs, Nat.le_trans I.ok.bsz I.sz, I.stack, I.stkFree, I.hok, I.bare⟩
theorem Inv.after {Q : VK} {u : Value} (I : Inv X pins σ H s) (h : CE X.stack X.prog X.w H s Q u s') : EP X pins σ Q u s' := by
  obtain ⟨v, H', os, bare, un, hok, r, q⟩ := h
  obtain ⟨hh, g, d, t, os'⟩ := s'
  obtain rfl : os' = s.os := os
  exact ⟨v, H', I.call (h' := hh) (g' := g) (d' := d) (t' := t) (ch := []) un hok bare (fun b z => absurd z (by simp)), r, q⟩
end

def tCall (sp : Sp) (dvs : List V) (E : XK) (t : TA) : TE := fun σ H Q => t σ H fun vs H1 => sp (vs ++ dvs) H1 Q E
def tMeth (C : Addr) (m : Str) (sp : Sp) (dvs : List V) (E : XK) (ta : TE) (t : TA) : TE := fun σ H Q => ta σ H fun x H1 => ∃ a dx fs, x = .ref a ∧ H1 a = some (.ins C dx fs) ∧ fs.lookup m = none ∧
  t σ H1 fun vs H2 => sp (x :: (vs ++ dvs)) H2 Q E
def tMake (C : Addr) (sp : Sp) (dvs : List V) (E : XK) (t : TA) : TE := fun σ H Q => t σ H fun vs H1 => ∀ x dx, H1 x = none → H1 dx = none → dx ≠ x →
  sp (.ref x :: (vs ++ dvs)) (upd (upd H1 dx (.own x)) x (.ins C dx [])) (fun v H2 => v = .non ∧ Q (.ref x) H2) E

def Binds (K : PySem.W.Frag) (fd : FuncData) (ps : List Str) (ds : List Value) : Prop :=
  ∀ (s : Shared) (us : List Value), K.In s.heap → (us ++ ds).length = ps.length → BindsTo s fd ⟨us, []⟩ (ps.zip (us ++ ds))
theorem Binds.all {K : PySem.W.Frag} {fd : FuncData} {ps : List Str} (h : ∀ us : List Value, us.length = ps.length → bindArgs fd ⟨us, []⟩ = pure (ps.zip us)) : Binds K fd ps [] := fun s us _ hl => by
  rw [List.append_nil] at hl ⊢
  exact .of_eq (h us hl)

def Passes (CX : CXT) (X : Cx) (E : XK) : Prop := ∀ (pins : List (Addr × Obj)) (σ : St) (H : Hp) (s : Shared) (e : Value) (s' : Shared), Inv X pins σ H s → CX X.stack H s E e s' → X.xe e s'

section
variable {X : Cx} {CX : CXT} {k : Nat} {f C : Addr} {fd : FuncData} {ps : List Str} {sp : Sp} {dvs : List V} {ds : List Value} {E : XK} {x m : Str} {p pos apos : Pos} {e o : Expr} {es : List Expr} {ta : TE} {t : TA}

theorem run_fn {pins : List (Addr × Obj)} {σ : St} {H : Hp} {s : Shared} {Q : VK} {us : List Value} {vs : List V} (F : FnOk X.prog X.w X.K X.mg X.base CX k f fd ps sp) (hr : Room k X.A) (hb : Binds X.K fd ps ds) (hd : Vals dvs ds) (hx : Passes CX X E)
    (I : Inv X pins σ H s) (r : Vals vs us) (h : sp (vs ++ dvs) H Q E) : wpAny (model X.prog X.w) X.A (call (.ref f) us) (EP X pins σ Q) X.xe s := by
  have r2 : Vals (vs ++ dvs) (us ++ ds) := r.append hd
  have hl : (us ++ ds).length = ps.length := by rw [← r2.length]; exact F.len _ _ _ _ h
  refine wpAny_call (codeAny_mono (F.run X.A X.stack s H ⟨us, []⟩ (us ++ ds) (vs ++ dvs) Q E hr I.env0 (hb s us I.kIn hl) r2 h) fun r s' hq => ?_)
  cases r with
  | error e => exact hx pins σ H s e s' I hq
  | ok fl =>
    cases fl with
    | ret u => exact I.after hq
    | next => exact False.elim hq
    | brk => exact False.elim hq
    | cont => exact False.elim hq

theorem pe_call (F : FnOk X.prog X.w X.K X.mg X.base CX k f fd ps sp) (hr : Room k X.A) (hg : Gl X x) (hm : X.mg x = some (.ref f)) (hk : PySem.W.keepIn X.K (.ref f) = true) (hb : Binds X.K fd ps ds) (hd : Vals dvs ds) (hx : Passes CX X E)
    (ha : PA X (e :: es) t) (hdb : (x == ("__debug__" : Str)) = false := by decide) (he : starEach (e :: es) X.env = (false, eval e X.env) :: starEach es X.env := by rfl) (hpl : (backTo pos (starEach es X.env)).any (·.1) = false := by rfl) :
    PE X (.Call (.Name x p) (e :: es) [] pos) (tCall sp dvs E t) := by
  intro pins s σ H Q I h
  refine wpAny_Call_Name_kw (ld_glob I hg hm ?_ hdb)
  refine PySem.W.callWith_K (h₀ := X.base) I.ok.mod.kin hk (thn (ha pos pins s σ H _ I h) fun us s1 ⟨vs, H1, I1, r, q⟩ => ⟨I1.kIn, ?_⟩) he hpl
  exact run_fn F hr hb hd hx I1 r q
theorem pe_meth {pl : Sem Bool} (he : PE X o ta) (c : Cls X.K C) (hm : Meth X.K C m f) (F : FnOk X.prog X.w X.K X.mg X.base CX k f fd ps sp) (hr : Room k X.A) (hb : Binds X.K fd ps ds) (hd : Vals dvs ds) (hx : Passes CX X E) (ha : PA X (e :: es) t)
    (hst : starEach (e :: es) X.env = (false, eval e X.env) :: starEach es X.env := by rfl) (hpl : (backTo pos (starEach es X.env)).any (·.1) = false := by rfl)
    (ht : eval (.Call (.Attribute o m apos) (e :: es) [] pos) X.env = (do
      let ov ← eval o X.env
      standAt apos.atName
      let (f, first) ← holding [ov] (getMethod ov m pl)
      callWith pos f first (backTo pos (starEach (e :: es) X.env)) (backToKw pos (keywordEach [] X.env))) := by rfl) :
    PE X (.Call (.Attribute o m apos) (e :: es) [] pos) (tMeth C m sp dvs E ta t) := by
  intro pins s σ H Q I h
  refine PySem.W.methodCall_KW (pl := pl) (thn (he pins s σ H _ I h) fun u s1 ⟨x, H1, I1, rx, a, dx, fs, ex, ea, l, q⟩ => ?_) ht
  subst ex
  obtain rfl : u = Value.ref a := rx
  refine getmeth_ok I1 ea c hm l ?_
  refine PySem.W.callWith_K (first := [.ref a]) (h₀ := X.base) I.ok.mod.kin hm.kp (thn (ha pos pins s1 σ H1 _ I1 q) fun us s2 ⟨vs, H2, I2, r, q2⟩ => ⟨I2.kIn, ?_⟩) hst hpl
  exact run_fn (us := .ref a :: us) (vs := .ref a :: vs) F hr hb hd hx I2 (.cons rfl r) q2
theorem pe_meth0 {pl : Sem Bool} (he : PE X o ta) (c : Cls X.K C) (hm : Meth X.K C m f) (F : FnOk X.prog X.w X.K X.mg X.base CX k f fd ps sp) (hr : Room k X.A) (hb : Binds X.K fd ps ds) (hd : Vals dvs ds) (hx : Passes CX X E)
    (ht : eval (.Call (.Attribute o m apos) [] [] pos) X.env = (do
      let ov ← eval o X.env
      standAt apos.atName
      let (f, first) ← holding [ov] (getMethod ov m pl)
      callWith pos f first (backTo pos (starEach [] X.env)) (backToKw pos (keywordEach [] X.env))) := by rfl) :
    PE X (.Call (.Attribute o m apos) [] [] pos) (tMeth C m sp dvs E ta tNil) := by
  intro pins s σ H Q I h
  refine PySem.W.methodCall_KW (pl := pl) (thn (he pins s σ H _ I h) fun u s1 ⟨x, H1, I1, rx, a, dx, fs, ex, ea, l, q⟩ => ?_) ht
  subst ex
  obtain rfl : u = Value.ref a := rx
  refine getmeth_ok I1 ea c hm l ?_
  exact PySem.W.callWith_K0 (first := [.ref a]) I1.kIn hm.kp (run_fn (us := [.ref a]) (vs := [.ref a]) F hr hb hd hx I1 (.cons rfl .nil) q)

structure Mk (K : PySem.W.Frag) (C f : Addr) : Prop where
  makes : PySem.W.makesIn K C = true
  init : PySem.W.findIn K (.ref C) "__init__" = some (some (.ref f))
  fn : PySem.W.isFn K (.ref f) = true
  kp : PySem.W.keepIn K (.ref C) = true

theorem run_make {pins : List (Addr × Obj)} {σ : St} {H : Hp} {s : Shared} {Q : VK} {us : List Value} {vs : List V} (M : Mk X.K C f) (F : FnOk X.prog X.w X.K X.mg X.base CX k f fd ps sp) (hr : Room (k + 1) X.A) (hb : Binds X.K fd ps ds) (hd : Vals dvs ds)
    (hx : Passes CX X E) (I : Inv X pins σ H s) (r : Vals vs us)
    (h : ∀ x dx, H x = none → H dx = none → dx ≠ x → sp (.ref x :: (vs ++ dvs)) (upd (upd H dx (.own x)) x (.ins C dx [])) (fun v H2 => v = .non ∧ Q (.ref x) H2) E) :
    wpAny (model X.prog X.w) X.A (call (.ref C) us) (EP X pins σ Q) X.xe s := by
  have hq := h (s.heap.objs.size + 1) s.heap.objs.size (I.hok.fresh (Nat.le_succ _)) (I.hok.fresh (Nat.le_refl _)) (Nat.ne_of_lt (Nat.lt_succ_self _))
  have I2 := Inv.made (C := C) I
  have r2 : Vals (V.ref (s.heap.objs.size + 1) :: (vs ++ dvs)) (Value.ref (s.heap.objs.size + 1) :: (us ++ ds)) := .cons rfl (r.append hd)
  have hl : (Value.ref (s.heap.objs.size + 1) :: us ++ ds).length = ps.length := by
    have e := r2.length
    rw [F.len _ _ _ _ hq] at e
    exact e.symm
  refine wpAny_call (make_map (f := f) I.kIn M.makes M.init (beq_iff_eq.mp M.fn) (codeAny_mono (F.run _ X.stack _ _ ⟨Value.ref (s.heap.objs.size + 1) :: us, []⟩ (Value.ref (s.heap.objs.size + 1) :: (us ++ ds)) _ _ E (hr.make C us [])
    (I2.env0.make C us []) (hb _ (Value.ref (s.heap.objs.size + 1) :: us) I2.kIn hl) r2 hq) fun r s' hq' => ?_))
  cases r with
  | error e => exact hx pins σ _ _ e s' I2 hq'
  | ok fl =>
    cases fl with
    | ret u =>
      obtain ⟨v, H', I3, rv, ev, q3⟩ := I2.after hq'
      subst ev
      exact ⟨rv, ⟨V.ref (s.heap.objs.size + 1), H', I3, rfl, q3⟩⟩
    | next => exact False.elim hq'
    | brk => exact False.elim hq'
    | cont => exact False.elim hq'
theorem pe_make (M : Mk X.K C f) (F : FnOk X.prog X.w X.K X.mg X.base CX k f fd ps sp) (hr : Room (k + 1) X.A) (hg : Gl X x) (hm : X.mg x = some (.ref C)) (hb : Binds X.K fd ps ds) (hd : Vals dvs ds) (hx : Passes CX X E)
    (ha : PA X (e :: es) t) (hdb : (x == ("__debug__" : Str)) = false := by decide) (he : starEach (e :: es) X.env = (false, eval e X.env) :: starEach es X.env := by rfl) (hpl : (backTo pos (starEach es X.env)).any (·.1) = false := by rfl) :
    PE X (.Call (.Name x p) (e :: es) [] pos) (tMake C sp dvs E t) := by
  intro pins s σ H Q I h
  refine wpAny_Call_Name_kw (ld_glob I hg hm ?_ hdb)
  refine PySem.W.callWith_K (h₀ := X.base) I.ok.mod.kin M.kp (thn (ha pos pins s σ H _ I h) fun us s1 ⟨vs, H1, I1, r, q⟩ => ⟨I1.kIn, ?_⟩) he hpl
  exact run_make M F hr hb hd hx I1 r q
end

section
variable {X : Cx} {CX : CXT} {k : Nat} {f C : Addr} {fd : FuncData} {ps ks : List Str} {sp : Sp} {E : XK} {x m : Str} {p pos apos kpos : Pos} {e o : Expr} {es : List Expr} {kws : List Keyword} {te ta : TE} {t tk : TA} {nm : Option Str}
variable {g : List Value → List Value → List Value} {gV : List V → List V → List V}
end

structure FnScope (N P : List Str) (sc : Scope) : Prop where
  kind : sc.kind = .function
  co : sc.isCoroutine = false
  gen : sc.isGenerator = false
  nd : N.Nodup
  pre : N.take P.length = P
  par : ∀ x ∈ P, sc.names.lookup x = some .local ∨ sc.names.lookup x = some .cell
  nofree : ∀ y ∈ sc.names, y.2 ≠ .free

theorem bindL_out {kindOf : Str → Option NameKind} {x : Str} : ∀ {binds : List (Str × Value)} {m : Str → Option Value}, (∀ v, (x, v) ∉ binds) → bindL kindOf binds m x = m x
  | [], _, _ => rfl
  | (n, v) :: r, m, h => by
    unfold bindL
    rw [bindL_out fun w hw => h w (List.mem_cons_of_mem _ hw)]
    split
    · have : x ≠ n := by rintro rfl; exact h v List.mem_cons_self
      simp [this]
    · rfl
theorem bindC_out {kindOf : Str → Option NameKind} {x : Str} : ∀ {binds : List (Str × Value)} {m : Str → Option Value}, (∀ v, (x, v) ∉ binds) → bindC kindOf binds m x = m x
  | [], _, _ => rfl
  | (n, v) :: r, m, h => by
    unfold bindC
    rw [bindC_out fun w hw => h w (List.mem_cons_of_mem _ hw)]
    split
    · rfl
    · have : x ≠ n := by rintro rfl; exact h v List.mem_cons_self
      simp [this]
theorem bindL_get {kindOf : Str → Option NameKind} {x : Str} {v : Value} : ∀ {P : List Str} {vs : List Value} {i : Nat} {m : Str → Option Value}, P.Nodup → P[i]? = some x → vs[i]? = some v → kindOf x = some .local →
    bindL kindOf (P.zip vs) m x = some v
  | [], _, _, _, _, h, _, _ => by simp at h
  | _ :: _, [], _, _, _, _, h, _ => by simp at h
  | p :: P, w :: vs, 0, m, nd, h1, h2, hk => by
    simp at h1 h2; subst h1; subst h2
    show bindL kindOf ((p, w) :: P.zip vs) m p = _
    unfold bindL
    rw [bindL_out fun v hv => (List.nodup_cons.mp nd).1 (List.of_mem_zip hv).1, if_pos hk]
    simp
  | p :: P, w :: vs, i + 1, m, nd, h1, h2, hk => by
    show bindL kindOf ((p, w) :: P.zip vs) m x = _
    unfold bindL
    exact bindL_get (i := i) (List.nodup_cons.mp nd).2 (by simpa using h1) (by simpa using h2) hk
theorem bindC_get {kindOf : Str → Option NameKind} {x : Str} {v : Value} : ∀ {P : List Str} {vs : List Value} {i : Nat} {m : Str → Option Value}, P.Nodup → P[i]? = some x → vs[i]? = some v → kindOf x ≠ some .local →
    bindC kindOf (P.zip vs) m x = some v
  | [], _, _, _, _, h, _, _ => by simp at h
  | _ :: _, [], _, _, _, _, h, _ => by simp at h
  | p :: P, w :: vs, 0, m, nd, h1, h2, hk => by
    simp at h1 h2; subst h1; subst h2
    show bindC kindOf ((p, w) :: P.zip vs) m p = _
    unfold bindC
    rw [bindC_out fun v hv => (List.nodup_cons.mp nd).1 (List.of_mem_zip hv).1, if_neg hk]
    simp
  | p :: P, w :: vs, i + 1, m, nd, h1, h2, hk => by
    show bindC kindOf ((p, w) :: P.zip vs) m x = _
    unfold bindC
    exact bindC_get (i := i) (List.nodup_cons.mp nd).2 (by simpa using h1) (by simpa using h2) hk

def start (N : List Str) (vs : List V) : St := vs.map some ++ List.replicate (N.length - vs.length) none

def cxOf (CX : CXT) (P : Program) (w : World) (K : PySem.W.Frag) (mg : Str → Option Value) (base : Heap) (N : List Str) (qual : Str) (scope : Scope) (f : Addr) (cd : Value) (A : Around) (outer : List Env) (s : Shared) (H : Hp) (E : XK) : Cx where
  prog := P
  w := w
  K := K
  mg := mg
  base := base
  A := A.deeper (envOfC qual scope s.heap.objs.size f cd)
  N := N
  s₀ := s
  H₀ := H
  env := envOfC qual scope s.heap.objs.size f cd
  outer := outer
  stack := envOfC qual scope s.heap.objs.size f cd :: outer
  ex := []
  calm := true
  fn := fun _ => true
  pn := []
  xe := fun e s' => wpAny (model P w) (A.deeper (envOfC qual scope s.heap.objs.size f cd)) (leaving (envOfC qual scope s.heap.objs.size f cd) e) (fun _ s'' => CX outer H s E e s'') (fun e' s'' => CX outer H s E e' s'') s'

theorem cell_has {sc : Scope} {n : Nat} {x : Str} (h : sc.names.lookup x = some .cell) : ∃ c, (cellsFrom n sc.names []).lookup x = some c := by
  have q := PySem.W.cellsFrom_some sc.names n [] (.inl h)
  exact Option.isSome_iff_exists.mp q

theorem inv_start {CX : CXT} {P : Program} {w : World} {K : PySem.W.Frag} {mg : Str → Option Value} {base : Heap} {N ps : List Str} {qual : Str} {scope : Scope} {f : Addr} {cd : Value} {A : Around} {outer : List Env} {s s1 : Shared} {H : Hp} {E : XK} {us : List Value} {vs : List V}
    (S : FnScope N ps scope) (hd : A.handled = none) (e0 : Env0 P w K mg base A outer s H) (hl : vs.length = ps.length) (r : Vals vs us)
    (x : InCallC s s.heap.objs.size (bindL (envOfC qual scope s.heap.objs.size f cd).kindOf (ps.zip us) fun _ => none) (cellsFrom (s.heap.objs.size + 1) scope.names []) (bindC (envOfC qual scope s.heap.objs.size f cd).kindOf (ps.zip us) fun _ => none) s1) :
    Inv (cxOf CX P w K mg base N qual scope f cd A outer s H E) [] (start N vs) H s1 := by
  have hpl : ps.length ≤ N.length := by have := congrArg List.length S.pre; rw [List.length_take] at this; omega
  obtain ⟨h1, tk, rfl, hk⟩ := x.done
  have noA : ∀ b : Addr, b ∉ (cxOf CX P w K mg base N qual scope f cd A outer s H E).ex := fun b z => absurd (show b ∈ ([] : List Addr) from z) (by simp)
  refine ⟨⟨e0.mod, S.kind, rfl, rfl, Nat.le_refl _, fun y z c h1 h2 => ?_, fun y hy => ?_, fun y c _ h => ?_, fun _ => hd, Around.frames_deeper e0.frames, .inr ⟨rfl, rfl⟩, fun b z => absurd z (noA b), e0.bs, e0.bsz, fun b _ _ => noA b, fun b z => absurd z (noA b), e0.funs, e0.frf⟩,
    rfl, e0.bare, Un.kept hk, ⟨_, x.toInCall.ns, fun i y v h1 h2 h3 => ?_⟩, fun y c h => ⟨_, x.cell y c h⟩, e0.hok.fresh (Nat.le_refl _), fun y c h => ?_, fun p hp => absurd (show p ∈ ([] : List (Addr × Obj)) from hp) (by simp), e0.hok.kept hk, ?_⟩
  · exact name_of_addr x.apart (PySem.mem_of_lookup h1) (PySem.mem_of_lookup h2)
  · have hy : scope.names.lookup y = some .cell ∨ scope.names.lookup y = some .free := hy
    rcases hy with hy | hy
    · exact cell_has hy
    · exact absurd rfl (S.nofree _ (PySem.mem_of_lookup hy))
  · exact Nat.le_of_lt (x.above y c (PySem.mem_of_lookup h))
  · have hi : i < vs.length := by
      unfold start at h2
      by_cases hi : i < vs.length
      · exact hi
      · rw [List.getElem?_append_right (by simpa using hi)] at h2
        rw [List.getElem?_replicate] at h2
        split at h2 <;> cases h2
    have ha : vs[i]? = some v := by
      unfold start at h2
      rw [List.getElem?_append_left (by simpa using hi), List.getElem?_map] at h2
      cases e : vs[i]? with
      | none => rw [e] at h2; cases h2
      | some a => rw [e] at h2; cases h2; rfl
    obtain ⟨u, hu, rv⟩ := r.get ha
    have hp : ps[i]? = some y := by
      rw [← S.pre, List.getElem?_take_of_lt (by omega)]; exact h1
    have ndP : ps.Nodup := by rw [← S.pre]; exact S.nd.sublist (List.take_sublist _ _)
    refine ⟨u, rv, ?_⟩
    rcases S.par y (List.mem_of_getElem? hp) with k | k
    · exact .inl ⟨k, bindL_get ndP hp hu k⟩
    · obtain ⟨c, e⟩ := cell_has (n := s.heap.objs.size + 1) k
      refine .inr ⟨.inl k, c, e, ?_⟩
      have q := x.cell y c e
      rw [bindC_get ndP hp hu (by show scope.names.lookup y ≠ _; rw [k]; decide)] at q
      exact q
  · exact e0.hok.fresh (Nat.le_of_lt (x.above y c (PySem.mem_of_lookup h)))
  · unfold start
    show _ = N.length
    rw [List.length_append, List.length_map, List.length_replicate]
    omega

theorem fn_of {CX : CXT} {P : Program} {w : World} {K : PySem.W.Frag} {mg : Str → Option Value} {base : Heap} {k : Nat} {f : Addr} {name qual : Str} {params : Arguments} {body : List Stmt} {scope : Scope} {dV kV doc pm cdv ct oc : Value} {an od : Option Addr}
    {osl : Array (Option Value)} {N ps : List Str} {sp : Sp} (lk : K.lookup f = some ⟨oc, od, .func (PySem.W.fnOf name qual params body scope dV kV doc pm an cdv ct), osl⟩) (hcd : PySem.W.codeIn K cdv qual = true) (S : FnScope N ps scope)
    (len : ∀ vs H Q E, sp vs H Q E → vs.length = ps.length)
    (hbody : ∀ (A : Around) (outer : List Env) (s : Shared) (H : Hp) (vs : List V) (Q : VK) (E : XK), Room k (A.deeper (envOfC qual scope s.heap.objs.size f cdv)) → sp vs H Q E →
      ∃ t, PSs (cxOf CX P w K mg base N qual scope f cdv A outer s H E) body t ∧ t { nx := fun _ H' => Q .non H', rt := Q } (start N vs) H) :
    FnOk P w K mg base CX (k + 1) f (PySem.W.fnOf name qual params body scope dV kV doc pm an cdv ct) ps sp := by
  refine ⟨len, fun A outer s H args us vs Q E hr e0 hb r hsp => ?_⟩
  have hl := len _ _ _ _ hsp
  have KX : K.In s.heap := e0.mod.kin.keeps fun b o e => (e0.bs b o e).1
  have lim : s.heap.NoLimit := e0.mod.nolimit.keeps fun b o e => (e0.bs b o e).1
  have hkind : ∀ y ∈ ps.zip us, scope.names.lookup y.1 = some .local ∨ (scope.names.lookup y.1 = some .cell ∧ ((cellsFrom (s.heap.objs.size + 1) scope.names []).lookup y.1).isSome = true) := fun ⟨n, v⟩ hy => by
    rcases S.par n (List.of_mem_zip hy).1 with q | q
    · exact .inl q
    · exact .inr ⟨q, PySem.W.cellsFrom_some _ _ _ (.inl q)⟩
  refine codeAny_call_function hr.depth (KX _ _ lk) rfl S.co S.gen rfl (PySem.W.codeRec_of KX hcd) (hb _ _ _ _ ?_)
  refine wpAny_newFunctionEnv_cells S.kind hkind fun env he s1 x => ?_
  subst he
  refine ⟨lim.keeps x.toInCall.keep, codeAny_func ?_⟩
  obtain ⟨t, ht, hq⟩ := hbody A outer s H vs Q E (hr.deeper _) hsp
  have I : Inv (cxOf CX P w K mg base N qual scope f cdv A outer s H E) [] (start N vs) H s1 := inv_start S hr.hd e0 hl r x
  refine wpAny_mono (ht [] s1 (start N vs) H _ I hq) (fun fl s' hs => ?_) fun e s' hs => hs
  have fin : ∀ {σ' : St} {H' : Hp} {v : V} {u : Value}, Inv (cxOf CX P w K mg base N qual scope f cdv A outer s H E) [] σ' H' s' → RelV v u → Q v H' → CE outer P w H s Q u s' :=
    fun {σ' H' v u} J rv q => ⟨v, H', J.os, J.bare, J.base, J.hok, rv, q⟩
  cases fl with
  | ret u =>
    obtain ⟨v, σ', H', J, rv, q⟩ := hs
    exact fin J rv q
  | next =>
    obtain ⟨σ', H', J, q⟩ := hs
    exact fin (v := V.non) (u := Value.none) J rfl q
  | brk =>
    obtain ⟨_, _, _, q⟩ := hs
    exact False.elim q
  | cont =>
    obtain ⟨_, _, _, q⟩ := hs
    exact False.elim q
end L2

namespace L2
open PySem PySem.Spec PyProof.Rows
section
variable {X : Cx} {x : Str} {p pos : Pos} {e : Expr} {es : List Expr} {t : TA} {id T : String} {r : List V → Hp → VK → Prop}

def tCB (r : List V → Hp → VK → Prop) (t : TA) : TE := fun σ H Q => t σ H fun vs H1 => r vs H1 Q
theorem pe_callB (hc : CallR X (.builtin id) r) (hg : Gl X x) (hm : X.mg x = none) (hv : bootBuiltins x = some (.builtin id)) (ha : PA X (e :: es) t) (hn : x ≠ "__name__" := by decide) (hdb : (x == ("__debug__" : Str)) = false := by decide)
    (he : starEach (e :: es) X.env = (false, eval e X.env) :: starEach es X.env := by rfl) (hpl : (backTo pos (starEach es X.env)).any (·.1) = false := by rfl) : PE X (.Call (.Name x p) (e :: es) [] pos) (tCB r t) := by
  intro pins s σ H Q I h
  refine wpAny_Call_Name_kw (ld_blt I hg hm hv ?_ hn hdb)
  exact PyProof.Rows.callWith_builtin1 (thn (ha pos pins s σ H _ I h) fun us s1 ⟨vs, H1, I1, r1, q1⟩ => hc pins s1 σ H1 vs us Q I1 r1 q1) he hpl
theorem pe_callTy (hc : CallR X (.type T) r) (hg : Gl X x) (hm : X.mg x = none) (hv : bootBuiltins x = some (.type T)) (ha : PA X (e :: es) t) (hn : x ≠ "__name__" := by decide) (hdb : (x == ("__debug__" : Str)) = false := by decide)
    (he : starEach (e :: es) X.env = (false, eval e X.env) :: starEach es X.env := by rfl) (hpl : (backTo pos (starEach es X.env)).any (·.1) = false := by rfl) : PE X (.Call (.Name x p) (e :: es) [] pos) (tCB r t) := by
  intro pins s σ H Q I h
  refine wpAny_Call_Name_kw (ld_blt I hg hm hv ?_ hn hdb)
  exact PyProof.Rows.callWith_type1 (thn (ha pos pins s σ H _ I h) fun us s1 ⟨vs, H1, I1, r1, q1⟩ => hc pins s1 σ H1 vs us Q I1 r1 q1) he hpl
end
end L2

namespace HT
open PySem PyProof.Rows

section
open PySem.SeqAt
open PySem.AutoSeq1 (wpAny_loadPart')
open PySem.MeetsSeq PySem.MeetsSeq2 PySem.MeetsSeq3

end

section
variable {prog : Program} {w : World} {A : Around} {E : Value → Shared → Prop} {s : Shared}

def sIx (n d : Nat) : Option Int → Nat
  | none => d
  | some v => if v < 0 then (v + (n : Int)).toNat else min v.toNat n
theorem sIx_le (n d : Nat) (hd : d ≤ n) (o : Option Int) : sIx n d o ≤ n := by
  cases o with
  | none => exact hd
  | some v =>
    show (if v < 0 then (v + (n : Int)).toNat else min v.toNat n) ≤ n
    by_cases hv : v < 0
    · rw [if_pos hv]; omega
    · rw [if_neg hv]; exact Nat.min_le_right _ _
theorem clip_eq (v : Int) (n d : Nat) : (if v < 0 then max (v + (n : Int)) 0 else min v (n : Int)) = ((sIx n d (some v) : Nat) : Int) := by
  show (if v < 0 then max (v + (n : Int)) 0 else min v (n : Int)) = (((if v < 0 then (v + (n : Int)).toNat else min v.toNat n) : Nat) : Int)
  by_cases hv : v < 0
  · simp only [if_pos hv]; omega
  · simp only [if_neg hv]; omega
theorem adjust_gen (lo hi : Option Int) (n : Nat) : Builtin.Slice.sliceAdjust lo hi 1 (n : Int) = (((sIx n 0 lo : Nat) : Int), ((sIx n n hi : Nat) : Int)) := by
  have h1 : ¬ ((1 : Int) < 0) := by omega
  unfold Builtin.Slice.sliceAdjust
  simp only [h1, if_false]
  refine Prod.ext ?_ ?_
  · cases lo with
    | none => rfl
    | some v => exact clip_eq v n 0
  · cases hi with
    | none => rfl
    | some v => exact clip_eq v n n
theorem places_gen (i j : Nat) : Builtin.Slice.slicePlaces (i : Int) (j : Int) 1 = j - i := by
  unfold Builtin.Slice.slicePlaces
  have h1 : (1 : Int) > 0 := by omega
  simp only [h1, if_true, Int.ediv_one]
  split <;> omega
theorem slicePart_ {v : Value} {o : Option Int} {Q : Option Int → Shared → Prop} (p : IsPart v o) (h : Q o s) : wpAny (model prog w) A (Builtin.Slice.slicePartIndex v) Q E s := by
  cases p with
  | none => exact slicePart_none h
  | int i t => exact slicePart_int h
theorem sliceApplied_gen {sl : Addr} {vl vu : Value} {lo hi : Option Int} {n : Nat} {Q : Int × Int × Nat → Shared → Prop} (hs : s.heap.IsSliceOf sl vl vu .none) (pl : IsPart vl lo) (pu : IsPart vu hi)
    (h : Q (((sIx n 0 lo : Nat) : Int), 1, sIx n n hi - sIx n 0 lo) s) : wpAny (model prog w) A (Builtin.Slice.sliceApplied (.ref sl) (pure (n : Int))) Q E s := by
  obtain ⟨os, hos, hcs, hds⟩ := id hs
  unfold Builtin.Slice.sliceApplied Builtin.Slice.sliceFields
  refine wpAny_bind (wpAny_bind (wpAny_field hos hds (x := vl) rfl (wpAny_bind (wpAny_field hos hds (x := vu) rfl (wpAny_bind (wpAny_field hos hds (x := .none) rfl (wpAny_pure ?_)))))))
  refine wpAny_bind (slicePart_none ?_)
  show wpAny _ _ (if ((1 : Int) == 0) = true then _ else _) _ _ s
  rw [if_neg (by decide)]
  refine wpAny_bind (slicePart_ pl (wpAny_bind (slicePart_ pu (wpAny_bind (wpAny_pure ?_)))))
  show wpAny _ _ (match Builtin.Slice.sliceAdjust lo hi 1 (n : Int) with | (lo, hi) => pure (lo, (1 : Int), Builtin.Slice.slicePlaces lo hi 1)) _ _ s
  rw [adjust_gen lo hi n]
  show wpAny _ _ (pure (((sIx n 0 lo : Nat) : Int), (1 : Int), Builtin.Slice.slicePlaces ((sIx n 0 lo : Nat) : Int) ((sIx n n hi : Nat) : Int) 1)) _ _ s
  rw [places_gen]
  exact wpAny_pure h
theorem pick_gen (xs : Array Value) (i k : Nat) : ((List.range k).filterMap fun (m : Nat) => xs[((i : Int) + (m : Int) * 1).toNat]?).toArray = ((xs.toList.drop i).take k).toArray := by
  have e : (fun (m : Nat) => xs[((i : Int) + (m : Int) * 1).toNat]?) = fun m => xs[i + m]? := by
    funext m
    have : ((i : Int) + (m : Int) * 1).toNat = i + m := by omega
    rw [this]
  rw [e]
  have := pick_run xs i k
  rw [List.filterMap_map] at this
  have e2 : ((fun x => xs[x]?) ∘ fun x => i + x) = fun m => xs[i + m]? := rfl
  rw [e2] at this
  rw [this]

theorem getItem_tuple_cut {t sl : Addr} {items : Array Value} {vl vu : Value} {lo hi : Option Int} {Q : Value → Shared → Prop} (ht : IsTup s.heap t items) (hs : s.heap.IsSliceOf sl vl vu .none) (pl : IsPart vl lo) (pu : IsPart vu hi)
    (hw : ¬ (sIx items.size 0 lo = 0 ∧ sIx items.size items.size hi = items.size))
    (h : Q (.ref s.heap.objs.size) { s with heap := s.heap.push { cls := .type "tuple", data := .seq ((items.toList.drop (sIx items.size 0 lo)).take (sIx items.size items.size hi - sIx items.size 0 lo)).toArray } })
    (hsz : items.size ≤ sizeLine) : wpAny (model prog w) A (getItem (.ref t) (.ref sl)) Q E s := by
  have htake : sizeOk (.seq ((items.toList.drop (sIx items.size 0 lo)).take (sIx items.size items.size hi - sIx items.size 0 lo)).toArray) := by
    show ((items.toList.drop (sIx items.size 0 lo)).take (sIx items.size items.size hi - sIx items.size 0 lo)).toArray.size ≤ sizeLine
    rw [List.size_toArray, List.length_take, List.length_drop, Array.length_toList]
    omega
  have hj : sIx items.size items.size hi ≤ items.size := sIx_le _ _ (Nat.le_refl _) hi
  obtain ⟨os, hos, hcs, hds⟩ := id hs
  have hTs : s.TypeIs (.ref sl) "slice" := ⟨os, hos, hcs⟩
  unfold getItem
  try with_reducible refine wpAny_holding ?_
  first | refine wpAny_bind (wpAny_pure ?_) | skip
  refine wpAny_bind (wpAny_sequenceKey ht.typeIs (by decide) ?_)
  refine wpAny_bind (wpAny_callSpecial?_slot (name := Str.ofString "__getitem__") ht.typeIs PyProof.Rows.slot_tuple_getitem
    (wpAny_call_entry PyProof.Rows.slot_tuple_getitem ht.typeIs entry_tuple_getitem ?_ (args_tuple_getitem _ _)))
  show wpAny _ _ (Builtin.Tuple.tupleItemsOf (.ref t) >>= _) _ _ s
  refine wpAny_bind (tupleItemsOf_ ht ?_)
  refine wpAny_bind (wpAny_typeOf hTs ?_)
  rw [if_pos (by decide)]
  refine wpAny_bind (sliceApplied_gen hs pl pu ?_)
  have hno : ¬ ((((sIx items.size 0 lo : Nat) : Int) == 0 && (1 : Int) == 1 && (sIx items.size items.size hi - sIx items.size 0 lo) == items.size) = true) := by
    intro q
    rw [Bool.and_eq_true, Bool.and_eq_true] at q
    have q1 : ((sIx items.size 0 lo : Nat) : Int) = 0 := eq_of_beq q.1.1
    have q2 : sIx items.size items.size hi - sIx items.size 0 lo = items.size := eq_of_beq q.2
    exact hw ⟨by omega, by omega⟩
  show wpAny _ _ (if (((sIx items.size 0 lo : Nat) : Int) == 0 && (1 : Int) == 1 && (sIx items.size items.size hi - sIx items.size 0 lo) == items.size) = true then _ else _) _ _ s
  rw [if_neg hno, pick_gen]
  first
    | exact wpAny_bind (m := Builtin.Tuple.tupleExact _) (wpAny_newObj_type (wpAny_pure ⟨_, rfl, wpAny_pure h⟩) htake)
    | exact wpAny_bind (m := Builtin.Tuple.tupleExact _) (wpAny_newObj_type (wpAny_bind (wpAny_pure (wpAny_pure ⟨_, rfl, wpAny_pure h⟩))) htake)
    | exact wpAny_bind (wpAny_bind (m := Builtin.Tuple.tupleExact _) (wpAny_newObj_type (wpAny_pure (wpAny_pure ⟨_, rfl, wpAny_pure h⟩)) htake))
    | exact wpAny_bind (wpAny_bind (m := Builtin.Tuple.tupleExact _) (wpAny_newObj_type (wpAny_pure ⟨_, rfl, wpAny_pure h⟩) htake))
end
end HT

namespace L2
open PySem PySem.Spec PyProof.Rows

abbrev TO := St → Hp → (Option Int → Hp → Prop) → Prop
def PO (X : Cx) (e : Option Expr) (t : TO) : Prop :=
  ∀ (pins : List (Addr × Obj)) (s : Shared) (σ : St) (H : Hp) (Q : Option Int → Hp → Prop), Inv X pins σ H s → t σ H Q →
    wpAny (model X.prog X.w) X.A (evalPart e X.env) (fun u s' => ∃ o H', Inv X pins σ H' s' ∧ IsPart u o ∧ Q o H') X.xe s
def tNoPart : TO := fun _ H Q => Q none H
def tPart (t : TE) : TO := fun σ H Q => t σ H fun x H1 => ∃ i, x = .int i ∧ Q (some i) H1

section
variable {X : Cx} {e : Expr} {te : TE} {lo hi : Option Expr} {tl th : TO} {pos p2 : Pos}

theorem po_none : PO X none tNoPart := by
  intro pins s σ H Q I h
  rw [evalPart_none]
  exact wpAny_pure ⟨none, H, I, .none, h⟩
theorem po_some (h : PE X e te) : PO X (some e) (tPart te) := by
  intro pins s σ H Q I hw
  rw [evalPart_some]
  refine thn (h pins s σ H _ I hw) fun u s1 ⟨x, H1, I1, r1, q1⟩ => ?_
  obtain ⟨i, rfl, q⟩ := q1
  obtain ⟨t, rfl⟩ := r1
  exact ⟨some i, H1, I1, .int i t, q⟩

def SlR (X : Cx) (r : V → Option Int → Option Int → Hp → VK → Prop) : Prop :=
  ∀ (pins : List (Addr × Obj)) (s : Shared) (σ : St) (H : Hp) (x : V) (v vl vu : Value) (lo hi : Option Int) (sl : Addr) (Q : VK), Inv X pins σ H s → RelV x v → s.heap.IsSliceOf sl vl vu .none → IsPart vl lo → IsPart vu hi → r x lo hi H Q →
    ∃ T id, typeLookup (.type T) "__getitem__" = pure (some (.builtin id)) ∧ s.TypeIs v T ∧ wpAny (model X.prog X.w) X.A (getItem v (.ref sl)) (EP X pins σ Q) X.xe s
theorem SlR.or {r r' : V → Option Int → Option Int → Hp → VK → Prop} (h : SlR X r) (h' : SlR X r') : SlR X (fun x lo hi H Q => r x lo hi H Q ∨ r' x lo hi H Q) := by
  intro pins s σ H x v vl vu lo hi sl Q I rx hs pl pu q
  rcases q with q | q
  · exact h pins s σ H x v vl vu lo hi sl Q I rx hs pl pu q
  · exact h' pins s σ H x v vl vu lo hi sl Q I rx hs pl pu q
def tSl (r : V → Option Int → Option Int → Hp → VK → Prop) (te : TE) (tl th : TO) : TE := fun σ H Q => te σ H fun x H1 => tl σ H1 fun l H2 => th σ H2 fun u H3 => r x l u H3 Q
theorem pe_slice {r : V → Option Int → Option Int → Hp → VK → Prop} (hr : SlR X r) (he : PE X e te) (hl : PO X lo tl) (hu : PO X hi th) : PE X (.Subscript e (.Slice lo hi none p2) pos) (tSl r te tl th) := by
  intro pins s σ H Q I h
  refine Subscript_ (thn (he pins s σ H _ I h) fun v s1 ⟨x, H1, I1, r1, q1⟩ => ?_)
  refine wpAny_Slice (thn (hl pins s1 σ H1 _ I1 q1) fun vl s2 ⟨l, H2, I2, pl, q2⟩ => thn (hu pins s2 σ H2 _ I2 q2) fun vu s3 ⟨u, H3, I3, pu, q3⟩ => ?_)
  rw [evalPart_none]
  refine wpAny_pure ?_
  have I4 : Inv X pins σ H3 { s3 with heap := s3.heap.push { cls := .type "slice", data := .fields #[vl, vu, .none] } } := I3.kept (t' := s3.toks) fun b ob q => Heap.get?_push_of_some _ q
  obtain ⟨T, id, hT, ht, hg⟩ := hr pins { s3 with heap := s3.heap.push { cls := .type "slice", data := .fields #[vl, vu, .none] } } σ H3 x v vl vu l u s3.heap.objs.size Q I4 r1 (Heap.IsSliceOf.new ..) pl pu q3
  show wpAny (model X.prog X.w) X.A (subscriptTail e (.Slice lo hi none p2) v (.ref s3.heap.objs.size)) (EP X pins σ Q) X.xe { s3 with heap := s3.heap.push { cls := .type "slice", data := .fields #[vl, vu, .none] } }
  exact tail_any (ops := [.ref s3.heap.objs.size, v]) ht hT hg (by with_unfolding_all rfl)

def cutV (xs : List V) (lo hi : Option Int) : List V := (xs.drop (HT.sIx xs.length 0 lo)).take (HT.sIx xs.length xs.length hi - HT.sIx xs.length 0 lo)
theorem cutV_length (xs : List V) (lo hi : Option Int) : (cutV xs lo hi).length ≤ xs.length := by
  unfold cutV
  rw [List.length_take, List.length_drop]
  omega
def rSlT (K : PySem.W.Frag) : V → Option Int → Option Int → Hp → VK → Prop := fun x lo hi H Q => ∃ a xs, x = .ref a ∧ SqT K H a xs ∧
  ¬ (HT.sIx xs.length 0 lo = 0 ∧ HT.sIx xs.length xs.length hi = xs.length) ∧ ∀ p, H p = none → Q (.ref p) (upd H p (.tup (cutV xs lo hi)))
theorem sl_tup : SlR X (rSlT X.K) := by
  intro pins s σ H x v vl vu lo hi sl Q I rx hs pl pu h
  obtain ⟨a, xs, rfl, hx, hw, q⟩ := h
  cases rx
  obtain ⟨its, r, ht, hz⟩ := I.tuple hx
  have hlen : its.toArray.size = xs.length := by rw [List.size_toArray]; exact r.length.symm
  refine ⟨"tuple", _, PyProof.Rows.slot_tuple_getitem.lookup, ht.typeIs, ?_⟩
  refine HT.getItem_tuple_cut ht hs pl pu (by rw [hlen]; exact hw) ?_ (by rw [hlen]; exact hz)
  rw [hlen]
  refine ⟨.ref s.heap.objs.size, _, I.laid (t' := s.toks) (o := .tup (cutV xs lo hi)) (fun b ob q => Heap.get?_push_of_some _ q) (Nat.le_refl _) ?_, rfl, q _ (I.hok.fresh (Nat.le_refl _))⟩
  exact ⟨Nat.le_trans (cutV_length xs lo hi) hz, _, (r.drop (HT.sIx xs.length 0 lo)).take (HT.sIx xs.length xs.length hi - HT.sIx xs.length 0 lo), IsTup.new _ _⟩

end
end L2

namespace L2
open PySem PySem.Spec PyProof.Rows

def ixN (n : Nat) (i : Int) : Option Nat := if 0 ≤ i then (if i < n then some i.toNat else none) else if -(n : Int) ≤ i then some (i + n).toNat else none
def atI {α : Type} (xs : List α) (i : Int) : Option α := (ixN xs.length i).bind fun j => xs[j]?
theorem ixN_seq {n : Nat} {i : Int} {j : Nat} (h : ixN n i = some j) : seqIndex? i n = some j ∧ j < n ∧ -(n : Int) ≤ i ∧ i < n := by
  unfold ixN at h
  by_cases h0 : 0 ≤ i
  · rw [if_pos h0] at h
    by_cases h1 : i < n
    · rw [if_pos h1] at h
      have e : i.toNat = j := Option.some.inj h
      exact ⟨by rw [seqIndex_of h0 h1, e], by omega, by omega, h1⟩
    · rw [if_neg h1] at h; cases h
  · rw [if_neg h0] at h
    by_cases h1 : -(n : Int) ≤ i
    · rw [if_pos h1] at h
      have e : (i + n).toNat = j := Option.some.inj h
      exact ⟨by rw [seqIndex_neg (by omega) h1, e], by omega, h1, by omega⟩
    · rw [if_neg h1] at h; cases h
theorem atI_get {α : Type} {xs : List α} {i : Int} {v : α} (h : atI xs i = some v) : ∃ j, seqIndex? i xs.length = some j ∧ xs[j]? = some v ∧ j < xs.length ∧ -(xs.length : Int) ≤ i ∧ i < xs.length := by
  unfold atI at h
  cases e : ixN xs.length i with
  | none => rw [e] at h; cases h
  | some j =>
    rw [e] at h
    obtain ⟨h1, h2, h3, h4⟩ := ixN_seq e
    exact ⟨j, h1, h, h2, h3, h4⟩
def PlainIx (b : Expr) : Prop := ∀ o i, subscripted b false o i = operate [o, i] (getItem o i)
def IxR (X : Cx) (r : R2) : Prop :=
  ∀ (value slice : Expr) (pins : List (Addr × Obj)) (s : Shared) (σ : St) (H : Hp) (x y : V) (v u : Value) (Q : VK), Inv X pins σ H s → RelV x v → RelV y u → r x y H Q →
    subscripted slice false v u = operate [v, u] (getItem v u) → wpAny (model X.prog X.w) X.A (subscriptTail value slice v u) (EP X pins σ Q) X.xe s
def MtR (X : Cx) (id : String) (r : V → List V → Hp → VK → Prop) : Prop :=
  ∀ (pins : List (Addr × Obj)) (s : Shared) (σ : St) (H : Hp) (x : V) (xs : List V) (v : Value) (us : List Value) (Q : VK), Inv X pins σ H s → RelV x v → Vals xs us → r x xs H Q →
    wpAny (model X.prog X.w) X.A (call (.builtin id) (v :: us)) (EP X pins σ Q) X.xe s
section
variable {X : Cx} {a b : Expr} {ta tb : TE} {pos : Pos}
theorem IxR.or {r r' : R2} (h : IxR X r) (h' : IxR X r') : IxR X (fun x y H Q => r x y H Q ∨ r' x y H Q) := by
  intro value slice pins s σ H x y v u Q I rx ry q hs
  rcases q with q | q
  · exact h value slice pins s σ H x y v u Q I rx ry q hs
  · exact h' value slice pins s σ H x y v u Q I rx ry q hs
theorem pe_ix {r : R2} (hr : IxR X r) (ha : PE X a ta) (hb : PE X b tb) (hs : PlainIx b) : PE X (.Subscript a b pos) (tOp r ta tb) := by
  intro pins s σ H Q I h
  exact Subscript_ (binT ha hb I h fun v u s2 x y H2 I2 rx ry q => hr a b pins s2 σ H2 x y v u Q I2 rx ry q (hs _ _))

def rIxL (K : PySem.W.Frag) : R2 := fun x y H Q => ∃ p xs i v, x = .ref p ∧ y = .int i ∧ SqL K H p xs ∧ atI xs i = some v ∧ Q v H
def rIxT (K : PySem.W.Frag) : R2 := fun x y H Q => ∃ p xs i v, x = .ref p ∧ y = .int i ∧ SqT K H p xs ∧ atI xs i = some v ∧ Q v H
def rIxS : R2 := fun x y H Q => ∃ z i c, x = .str z ∧ y = .int i ∧ z.length ≤ sizeLine ∧ atI z.cps.toList i = some c ∧ Q (.str ⟨#[c]⟩) H
theorem ix_list : IxR X (rIxL X.K) := by
  intro value slice pins s σ H x y v u Q I rx ry h hs
  obtain ⟨p, xs, i, z, rfl, rfl, hq, he, q⟩ := h
  cases rx
  obtain ⟨t, rfl⟩ := ry
  obtain ⟨its, r, pl, hz⟩ := I.list hq
  obtain ⟨j, h1, h2, h3, h4, h5⟩ := atI_get he
  obtain ⟨w, ew, rw'⟩ := r.get h2
  have hl := r.length
  have hn := line63
  have fin : EP X pins σ Q w s := ⟨z, H, I, rw', q⟩
  by_cases h0 : 0 ≤ i
  · have hj : i.toNat = j := by
      rw [seqIndex_of h0 h5] at h1
      exact Option.some.inj h1
    exact item_listR pl.isList h0 (by omega) (by rw [hj]; simpa using ew) fin hs
  · have hj : (i + (its.toArray.size : Int)).toNat = j := by
      rw [seqIndex_neg (by omega) h4] at h1
      rw [List.size_toArray, ← hl]
      exact Option.some.inj h1
    exact subscriptTail_builtinR (x := w) pl.isList.typeIs slot_list_getitem.lookup
      (wpAny_getItem_list_neg (Q := fun r s' => r = w ∧ EP X pins σ Q r s') pl.isList (by omega) (by rw [List.size_toArray] <;> omega) (by omega) (by rw [hj]; simpa using ew) ⟨rfl, fin⟩) hs
theorem ix_tup : IxR X (rIxT X.K) := by
  intro value slice pins s σ H x y v u Q I rx ry h hs
  obtain ⟨p, xs, i, z, rfl, rfl, hq, he, q⟩ := h
  cases rx
  obtain ⟨t, rfl⟩ := ry
  obtain ⟨its, r, pl, hz⟩ := I.tuple hq
  obtain ⟨j, h1, h2, h3, h4, h5⟩ := atI_get he
  obtain ⟨w, ew, rw'⟩ := r.get h2
  have hl := r.length
  have hn := line63
  have fin : EP X pins σ Q w s := ⟨z, H, I, rw', q⟩
  exact subscriptTail_builtinR (x := w) pl.typeIs slot_tuple_getitem.lookup
    (getItem_tuple (j := j) (Q := fun r s' => r = w ∧ EP X pins σ Q r s') pl (by omega) (by omega) (by rw [List.size_toArray, ← hl]; exact h1) (by simpa using ew) ⟨rfl, fin⟩) hs
theorem ix_str : IxR X rIxS := by
  intro value slice pins s σ H x y v u Q I rx ry h hs
  obtain ⟨z, i, c, rfl, rfl, hz, he, q⟩ := h
  obtain ⟨t, rfl⟩ := rx
  obtain ⟨t', rfl⟩ := ry
  obtain ⟨j, h1, h2, h3, h4, h5⟩ := atI_get he
  have hl : z.cps.toList.length = z.length := by simp [Str.length]
  rw [hl] at h1 h4 h5
  have hn := line63
  exact tail_any (typeIs_str s z t) slot_str_getitem.lookup (getItem_str (c := c) (by
    have e1 : decide (i < -(2 ^ 63 : Int)) = false := decide_eq_false (by omega)
    have e2 : decide (i ≥ 2 ^ 63) = false := decide_eq_false (by omega)
    rw [e1, e2, Bool.or_false]) (by rw [h1]; simpa using h2) ⟨.str ⟨#[c]⟩, H, I.tok _, ⟨_, rfl⟩, q⟩) hs
theorem mapSeq_set (its : List Value) (n j : Nat) (u : Value) : Obj.mapSeq (·.setIfInBounds j u) { cls := .type "list", data := .seq its.toArray n } = { cls := .type "list", data := .seq (its.set j u).toArray n } := by
  simp [Obj.mapSeq]
theorem Inv.lst {pins : List (Addr × Obj)} {σ : St} {H : Hp} {s : Shared} {p : Addr} {xs : List V} (I : Inv X pins σ H s) (h : H p = some (.lst xs)) :
    ∃ (its : List Value) (n : Nat), Vals xs its ∧ s.heap.get? p = some { cls := .type "list", data := .seq its.toArray n } ∧ xs.length ≤ sizeLine := by
  obtain ⟨z, its, n, r, e⟩ := I.hok p _ h
  exact ⟨its, n, r, e, z⟩
theorem Inv.lstUpd {pins : List (Addr × Obj)} {σ : St} {H : Hp} {s : Shared} {p : Addr} {xs ys : List V} {its its' : List Value} {n n' : Nat} {f : Obj → Obj} (I : Inv X pins σ H s) (h : H p = some (.lst xs))
    (ho : s.heap.get? p = some { cls := .type "list", data := .seq its.toArray n }) (hf : f { cls := .type "list", data := .seq its.toArray n } = { cls := .type "list", data := .seq its'.toArray n' }) (r : Vals ys its') (hz : ys.length ≤ sizeLine) (t : Nat) :
    Inv X pins σ (upd H p (.lst ys)) { s with heap := s.heap.update p f, toks := t } := by
  have e : (s.heap.update p f).get? p = some { cls := .type "list", data := .seq its'.toArray n' } := by
    rw [Heap.get?_update_self f ho (by rw [hf] <;> rfl), hf]
  refine I.write (x := p) (e := p) (by rw [h]; trivial) (.inl rfl) (fun b u hb q => (Heap.get?_update_other _ _ (Ne.symm hb)).trans q) ⟨_, e⟩ ?_
  exact ⟨hz, its', n', r, e⟩
def rSetL : V → V → V → Hp → (Hp → Prop) → Prop := fun o i v H Q => ∃ p xs k j, o = .ref p ∧ i = .int k ∧ H p = some (.lst xs) ∧ ixN xs.length k = some j ∧ Q (upd H p (.lst (xs.set j v)))
theorem set_list : PSet X rSetL := by
  intro pins s σ H o i v ov iv u Q I ro ri rv h
  obtain ⟨p, xs, k, j, rfl, rfl, hp, hj, q⟩ := h
  cases ro
  obtain ⟨t, rfl⟩ := ri
  obtain ⟨its, n, r, ho, hz⟩ := I.lst hp
  obtain ⟨h1, h2, h3, h4⟩ := ixN_seq hj
  have hl := r.length
  have hn := line63
  have I' : Inv X pins σ (upd H p (.lst (xs.set j v))) { s with heap := s.heap.update p (Obj.mapSeq (·.setIfInBounds j u)) } :=
    I.lstUpd hp ho (mapSeq_set its n j u) (r.set rv j) (by rw [List.length_set]; exact hz) s.toks
  by_cases h0 : 0 ≤ k
  · have hk : k.toNat = j := by
      rw [seqIndex_of h0 h4] at h1
      exact Option.some.inj h1
    exact PySem.W.ki_setAt ho h0 (by omega) (by rw [List.size_toArray, ← hl]; exact h4) (by rw [hk]; exact ⟨_, I', q⟩)
  · have hk : (k + (its.toArray.size : Int)).toNat = j := by
      rw [seqIndex_neg (by omega) h3] at h1
      rw [List.size_toArray, ← hl]
      exact Option.some.inj h1
    exact PySem.W.ki_setBack ho (by omega) (by rw [List.size_toArray, ← hl]; exact h3) (by omega) (by rw [hk]; exact ⟨_, I', q⟩)

theorem slice_bounds (lo hi : Option Int) (n : Nat) : (sliceBounds lo hi none n).1 = ((HT.sIx n 0 lo : Nat) : Int) ∧ (sliceBounds lo hi none n).2.1 = ((HT.sIx n n hi : Nat) : Int) ∧ (sliceBounds lo hi none n).2.2 = 1 := by
  refine ⟨?_, ?_, rfl⟩
  · cases lo with
    | none => simp [sliceBounds, HT.sIx]
    | some i =>
      simp only [sliceBounds, HT.sIx, Option.getD_none, show (1 : Int) > 0 by decide, if_true]
      by_cases h : i < 0
      · simp only [h, if_true] <;> omega
      · simp only [h, if_false] <;> omega
  · cases hi with
    | none => simp [sliceBounds, HT.sIx]
    | some i =>
      simp only [sliceBounds, HT.sIx, Option.getD_none, show (1 : Int) > 0 by decide, if_true]
      by_cases h : i < 0
      · simp only [h, if_true] <;> omega
      · simp only [h, if_false] <;> omega
theorem slicePick_cut (its : List Value) (lo hi : Option Int) : slicePick its.toArray lo hi none = ((its.drop (HT.sIx its.length 0 lo)).take (HT.sIx its.length its.length hi - HT.sIx its.length 0 lo)).toArray := by
  obtain ⟨h1, h2, h3⟩ := slice_bounds lo hi its.toArray.size
  unfold slicePick
  rw [h1, h2, h3]
  simp only [sliceRange_one, pick_run, List.size_toArray] <;> rfl
def rSlL (K : PySem.W.Frag) : V → Option Int → Option Int → Hp → VK → Prop := fun x lo hi H Q => ∃ a xs, x = .ref a ∧ SqL K H a xs ∧ ∀ p, H p = none → Q (.ref p) (upd H p (.lst (cutV xs lo hi)))
theorem sl_list : SlR X (rSlL X.K) := by
  intro pins s σ H x v vl vu lo hi sl Q I rx hs pl pu h
  obtain ⟨a, xs, rfl, hx, q⟩ := h
  cases rx
  obtain ⟨its, r, ht, hz⟩ := I.list hx
  have hlen := r.length
  refine ⟨"list", _, slot_list_getitem.lookup, ht.isList.typeIs, ?_⟩
  refine wpAny_getItem_list_slice ht.isList hs pl pu .none (by simp) ?_ (by rw [List.size_toArray] <;> omega)
  rw [slicePick_cut, ← hlen]
  refine ⟨.ref s.heap.objs.size, _, I.laid (t' := s.toks) (o := .lst (cutV xs lo hi)) (fun b ob q => Heap.get?_push_of_some _ q) (Nat.le_refl _) ?_, rfl, q _ (I.hok.fresh (Nat.le_refl _))⟩
  exact ⟨Nat.le_trans (cutV_length xs lo hi) hz, _, 0, (r.drop (HT.sIx xs.length 0 lo)).take (HT.sIx xs.length xs.length hi - HT.sIx xs.length 0 lo), Heap.get?_push_size _ rfl⟩

theorem call_len_seq : CallR X (.builtin "len") (fun xs H Q => ∃ p ys, xs = [.ref p] ∧ (SqL X.K H p ys ∨ SqT X.K H p ys) ∧ Q (.int ys.length) H) := by
  intro pins s σ H xs us Q I r h
  obtain ⟨p, ys, rfl, hq, q⟩ := h
  obtain ⟨u, rfl, rx⟩ := vals1 r
  cases rx
  have hn := line63
  rcases hq with hq | hq
  · obtain ⟨its, r', pl, hz⟩ := I.list hq
    have hlen := r'.length
    exact Calls.call_len_list pl.isList (by simp only [List.size_toArray] <;> omega) ⟨.int ys.length, H, I.tok _, ⟨s.toks + 1, by rw [List.size_toArray, hlen]⟩, q⟩
  · obtain ⟨its, r', pl, hz⟩ := I.tuple hq
    have hlen := r'.length
    exact len_tuple pl (by simp only [List.size_toArray] <;> omega) ⟨.int ys.length, H, I.tok _, ⟨s.toks + 1, by rw [List.size_toArray, hlen]⟩, q⟩
theorem call_len_str : CallR X (.builtin "len") (fun xs H Q => ∃ z, xs = [.str z] ∧ z.length ≤ sizeLine ∧ Q (.int z.length) H) := by
  intro pins s σ H xs us Q I r h
  obtain ⟨z, rfl, hz, q⟩ := h
  obtain ⟨u, rfl, t, rfl⟩ := vals1 r
  have hn := line63
  exact len_str (by omega) ⟨.int z.length, H, I.tok _, ⟨_, rfl⟩, q⟩
theorem call_tuple_of : CallR X (.type "tuple") (fun xs H Q => ∃ p ys, xs = [.ref p] ∧ ((SqL X.K H p ys ∧ ∀ l, H l = none → Q (.ref l) (upd H l (.tup ys))) ∨ (SqT X.K H p ys ∧ Q (.ref p) H))) := by
  intro pins s σ H xs us Q I r h
  obtain ⟨p, ys, rfl, h⟩ := h
  obtain ⟨u, rfl, rx⟩ := vals1 r
  cases rx
  rcases h with ⟨hq, q⟩ | ⟨hq, q⟩
  · obtain ⟨its, r', pl, hz⟩ := I.list hq
    have hlen := r'.length
    refine call_tuple_list pl.isList (fun h' kp => ?_) (by simp only [List.size_toArray] <;> omega)
    have I1 : Inv X pins σ H { s with heap := h' } := I.kept (t' := s.toks) kp
    have I2 : Inv X pins σ (upd H h'.objs.size (.tup ys)) { s with heap := h'.push { cls := .type "tuple", data := .seq its.toArray } } :=
      I1.laid (t' := s.toks) (fun b o e => Heap.get?_push_of_some _ e) (Nat.le_refl _) (show ObjOk X.prog X.w _ _ _ (.tup ys) from ⟨hz, its, r', IsTup.new _ _⟩)
    exact ⟨.ref h'.objs.size, _, I2, rfl, q _ (I1.hok.fresh (Nat.le_refl _))⟩
  · obtain ⟨its, r', pl, hz⟩ := I.tuple hq
    exact call_tuple_same pl ⟨.ref p, H, I, rfl, q⟩

def tyV (K : PySem.W.Frag) (T : String) (x : V) (H : Hp) : Prop := match x with
  | .str _ => T = "str"
  | .int _ => T = "int"
  | .ref p => (T = "list" ∧ ∃ xs, SqL K H p xs) ∨ (T = "tuple" ∧ ∃ o, K.lookup p = some o ∧ o.cls = .type "tuple" ∧ o.dict = none) ∨
      (T = "dict" ∧ ((∃ kvs, H p = some (.dK kvs)) ∨ ∃ kvs, H p = some (.dT kvs))) ∨ (T = "set" ∧ ∃ S n, H p = some (.set S n))
  | _ => False
theorem tyV_is {pins : List (Addr × Obj)} {σ : St} {H : Hp} {s : Shared} {T : String} {x : V} {v : Value} (I : Inv X pins σ H s) (r : RelV x v) (ty : tyV X.K T x H) :
    s.TypeIs v T ∧ ∀ a, v = .ref a → ∃ ob, s.heap.get? a = some ob ∧ ob.dict = none := by
  cases x with
  | str z =>
    obtain ⟨t, rfl⟩ := r
    cases (show T = "str" from ty)
    exact ⟨typeIs_str s z t, fun _ e => nomatch e⟩
  | int i =>
    obtain ⟨t, rfl⟩ := r
    cases (show T = "int" from ty)
    exact ⟨typeIs_int s i t, fun _ e => nomatch e⟩
  | ref p =>
    cases r
    rcases ty with ⟨rfl, xs, hq⟩ | ⟨rfl, o, hk, hc, hd⟩ | ⟨rfl, hk⟩ | ⟨rfl, S, n, hk⟩
    · obtain ⟨its, _, pl, _⟩ := I.list hq
      refine ⟨pl.isList.typeIs, fun a e => ?_⟩
      cases e
      obtain ⟨o, n, e, c, hd, _⟩ := pl
      exact ⟨o, e, hd⟩
    · refine ⟨⟨o, I.kIn p o hk, hc⟩, fun a e => ?_⟩
      cases e
      exact ⟨o, I.kIn _ o hk, hd⟩
    · have z : ∃ o, s.heap.get? p = some o ∧ o.ExactDict := by
        rcases hk with ⟨kvs, hk⟩ | ⟨kvs, hk⟩
        · obtain ⟨_, _, _, _, o, _, _, e, ex, _⟩ := I.hok p _ hk
          exact ⟨o, e, ex⟩
        · obtain ⟨_, _, _, _, o, _, _, e, ex, _⟩ := I.hok p _ hk
          exact ⟨o, e, ex⟩
      obtain ⟨o, e, ex⟩ := z
      refine ⟨⟨o, e, ex.1⟩, fun a e2 => ?_⟩
      cases e2
      exact ⟨o, e, ex.2.1⟩
    · obtain ⟨o, _, _, _, e, ex, _⟩ := I.hok p _ hk
      refine ⟨⟨o, e, ex.1⟩, fun a e2 => ?_⟩
      cases e2
      exact ⟨o, e, ex.2.1⟩
  | _ => exact False.elim ty
def tBM0 (K : PySem.W.Frag) (T : String) (r : V → List V → Hp → VK → Prop) (to : TE) : TE := fun σ H Q => to σ H fun x H1 => tyV K T x H1 ∧ r x [] H1 Q
def tBM (K : PySem.W.Frag) (T : String) (r : V → List V → Hp → VK → Prop) (to : TE) (t : TA) : TE := fun σ H Q => to σ H fun x H1 => tyV K T x H1 ∧ t σ H1 fun xs H2 => r x xs H2 Q
variable {o e : Expr} {es : List Expr} {to : TE} {t : TA} {name : Str} {apos cpos : Pos} {T id : String} {r : V → List V → Hp → VK → Prop}
theorem pe_bm0 (pa : PlainAttrs T) (slot : Slot T name id) (hty : typeOf (.builtin id) = pure (.type "method_descriptor")) (hm : MtR X id r) (ho : PE X o to)
    (hbase : attributeBase o name X.env (eval o X.env) = eval o X.env := by rfl) (hline : (apos.endLine == cpos.line) = true := by rfl) : PE X (.Call (.Attribute o name apos) [] [] cpos) (tBM0 X.K T r to) := by
  intro pins s σ H Q I h
  refine wpAny_Call_method0_late hbase hline (thn (ho pins s σ H _ I h) fun v s1 ⟨x, H1, I1, r1, ty, q1⟩ => ?_)
  obtain ⟨h1, h2⟩ := tyV_is I1 r1 ty
  exact ⟨T, id, pa, slot, hty, h1, h2, Calls.callWith_builtin rfl (PySem.evalArgs_none (hm pins s1 σ H1 x [] v [] Q I1 r1 .nil q1))⟩
theorem pe_bm (pa : PlainAttrs T) (slot : Slot T name id) (hty : typeOf (.builtin id) = pure (.type "method_descriptor")) (hm : MtR X id r) (ho : PE X o to) (ha : PA X (e :: es) t)
    (hbase : attributeBase o name X.env (eval o X.env) = eval o X.env := by rfl)
    (hfew : ((backTo cpos (starEach (e :: es) X.env)).all (fun x => !x.1) && (backToKw cpos (keywordEach [] X.env)).all (fun x => x.1.isSome)
      && decide ((e :: es).length + ([] : List Keyword).length + (if ([] : List Keyword).isEmpty then 0 else 1) < 30)) = true := by rfl)
    (hline : (apos.endLine == cpos.line) = true := by rfl) (hs : starEach (e :: es) X.env = (false, eval e X.env) :: starEach es X.env := by rfl) (hplain : (backTo cpos (starEach es X.env)).any (·.1) = false := by rfl) :
    PE X (.Call (.Attribute o name apos) (e :: es) [] cpos) (tBM X.K T r to t) := by
  intro pins s σ H Q I h
  refine wpAny_Call_method_late hbase hfew hline rfl (thn (ho pins s σ H _ I h) fun v s1 ⟨x, H1, I1, r1, ty, q1⟩ => ?_)
  obtain ⟨h1, h2⟩ := tyV_is I1 r1 ty
  refine ⟨T, id, pa, slot, hty, h1, h2, ?_⟩
  have hA := ha cpos pins s1 σ H1 _ I1 q1
  rw [hs] at hA ⊢
  refine Calls.callWith_builtin (by show (false || (backTo cpos (starEach es X.env)).any (·.1)) = false; rw [hplain] <;> rfl) (Calls.evalArgs_plain ?_)
  exact thn hA fun us s2 ⟨vs, H2, I2, r2, q2⟩ => hm pins s2 σ H2 x vs v us Q I2 r1 r2 q2
/- xs.append(e), list.index on a module's tuple .. are MtR facts of 06m -/
end
end L2

namespace L2
open PySem PySem.Spec PyProof.Rows

def MtM (X : Cx) (id : String) (r : V → List V → Hp → VK → Prop) : Prop :=
  ∀ (pins : List (Addr × Obj)) (s : Shared) (σ : St) (H : Hp) (x : V) (xs : List V) (v : Value) (us : List Value) (Q : VK), Inv X pins σ H s → RelV x v → Vals xs us → r x xs H Q →
    wpAny (model X.prog X.w) X.A (call (.builtin id) (v :: us)) (EP X pins σ Q) X.xe s

theorem Vals.one : ∀ {x : V} {us : List Value}, Vals [x] us → ∃ u, us = [u] ∧ RelV x u
  | _, _, .cons r .nil => ⟨_, rfl, r⟩
theorem Vals.zero : ∀ {us : List Value}, Vals [] us → us = []
  | _, .nil => rfl
theorem Vals.dropLast {xs : List V} {us : List Value} (h : Vals xs us) : Vals xs.dropLast us.dropLast := by
  induction h with
  | nil => exact .nil
  | cons r t ih =>
    cases t with
    | nil => exact .nil
    | cons q t' => exact .cons r ih
theorem erase_last {α : Type} (l : List α) : l.eraseIdx (l.length - 1) = l.dropLast := by
  induction l with
  | nil => rfl
  | cons a r ih =>
    cases r with
    | nil => rfl
    | cons b r =>
      have e : (a :: b :: r).length - 1 = ((b :: r).length - 1) + 1 := by
        have h1 : (a :: b :: r).length = r.length + 2 := rfl
        have h2 : (b :: r).length = r.length + 1 := rfl
        omega
      rw [e, List.eraseIdx_cons_succ, ih]
      all_goals rfl
section
variable {X : Cx} {pins : List (Addr × Obj)} {σ : St} {H : Hp} {s : Shared} {l b : Addr} {xs ys zs : List V}

theorem Inv.lset {its its' : List Value} {n : Nat} {f : Array Value → Array Value} {t' : Nat} (I : Inv X pins σ H s) (hH : H l = some (.lst xs))
    (e : s.heap.get? l = some { cls := .type "list", data := .seq its.toArray n }) (hf : f its.toArray = its'.toArray) (hv : Vals ys its') (hz : ys.length ≤ sizeLine) :
    Inv X pins σ (upd H l (.lst ys)) { s with heap := s.heap.update l (Obj.mapSeq f), toks := t' } := by
  have q := PySem.IsL.update e f
  rw [hf] at q
  refine I.write (x := l) (e := l) (by rw [hH]; exact trivial) (.inl rfl) (fun b' u hb hu => (Heap.get?_update_other s.heap (Obj.mapSeq f) (Ne.symm hb)).trans hu) ⟨_, q⟩ ?_
  exact ⟨hz, its', _, hv, q⟩
theorem Inv.lnew {its : List Value} {t' : Nat} (I : Inv X pins σ H s) (hv : Vals ys its) (hz : ys.length ≤ sizeLine) :
    Inv X pins σ (upd H s.heap.objs.size (.lst ys)) { s with heap := s.heap.push { cls := .type "list", data := .seq its.toArray }, toks := t' } :=
  I.laid (fun _ _ q => Heap.get?_push_of_some _ q) (Nat.le_refl _) ⟨hz, its, 0, hv, Heap.get?_push_size _ rfl⟩
theorem Inv.fresh (I : Inv X pins σ H s) : H s.heap.objs.size = none := I.hok.fresh (Nat.le_refl _)
theorem Inv.lstM (I : Inv X pins σ H s) (hH : H l = some (.lst xs)) : xs.length ≤ sizeLine ∧ ∃ (its : List Value) (n : Nat), Vals xs its ∧ xs.length = its.length ∧ s.heap.get? l = some { cls := .type "list", data := .seq its.toArray n } := by
  obtain ⟨z, its, n, r, e⟩ := I.hok l _ hH
  exact ⟨z, its, n, r, r.length, e⟩

theorem notLongL {n : Nat} (h : n ≤ sizeLine) : Builtin.List.listTooLong n = false := by
  unfold Builtin.List.listTooLong
  exact decide_eq_false (by omega)
end

section
variable {X : Cx}

def rAppend : V → List V → Hp → VK → Prop := fun x vs H Q => ∃ l xs y, x = .ref l ∧ vs = [y] ∧ H l = some (.lst xs) ∧ xs.length < sizeLine ∧ Q .non (upd H l (.lst (xs ++ [y])))
theorem mt_append : MtM X "list.append" rAppend := by
  intro pins s σ H x vs v us Q I rx rv h
  obtain ⟨l, xs, y, rfl, rfl, hH, hz, q⟩ := h
  cases rx
  obtain ⟨u, rfl, ru⟩ := rv.one
  obtain ⟨z, its, n, r, hl, e⟩ := I.lstM hH
  refine call_meets F.slot_list_append ⟨_, e, rfl⟩ F.entry_list_append (F.args_list_append_2 _ _) (PySem.list_append l its.toArray n u (by rw [List.size_toArray]; omega)) ⟨e, ?_⟩
  refine ⟨.non, _, I.lset (its' := its ++ [u]) hH e (by simp) (r.append (.cons ru .nil)) ?_, rfl, q⟩
  rw [List.length_append, List.length_singleton]
  omega

def rExtend : V → List V → Hp → VK → Prop := fun x vs H Q => ∃ l b xs zs, x = .ref l ∧ vs = [.ref b] ∧ H l = some (.lst xs) ∧ H b = some (.lst zs) ∧ xs.length + zs.length ≤ sizeLine ∧ Q .non (upd H l (.lst (xs ++ zs)))
theorem mt_extend : MtM X "list.extend" rExtend := by
  intro pins s σ H x vs v us Q I rx rv h
  obtain ⟨l, b, xs, zs, rfl, rfl, hH, hB, hz, q⟩ := h
  cases rx
  obtain ⟨u, rfl, ru⟩ := rv.one
  cases ru
  obtain ⟨z, its, n, r, hl, e⟩ := I.lstM hH
  obtain ⟨z2, its2, n2, r2, hl2, e2⟩ := I.lstM hB
  have hsz : its.toArray.size + its2.toArray.size ≤ sizeLine := by rw [List.size_toArray, List.size_toArray]; omega
  have hlong : ¬ (!its.toArray.isEmpty && Builtin.List.listTooLong (its.toArray.size + its2.toArray.size)) = true := by
    rw [notLongL hsz, Bool.and_false]
    exact Bool.false_ne_true
  refine call_meets F.slot_list_extend ⟨_, e, rfl⟩ F.entry_list_extend (F.args_list_extend_2 _ _)
    (AutoSeq1.list_extend_list_list_0 l its.toArray n b its2.toArray n2 hlong (by rw [List.size_toArray]; omega) (by omega)) ⟨e, e2, ?_⟩
  refine ⟨.non, _, I.lset (its' := its ++ its2) hH e (by simp) (r.append r2) ?_, rfl, q⟩
  rw [List.length_append]
  omega

def rPop : V → List V → Hp → VK → Prop := fun x vs H Q => ∃ l xs y, x = .ref l ∧ vs = [] ∧ H l = some (.lst xs) ∧ xs[xs.length - 1]? = some y ∧ Q y (upd H l (.lst xs.dropLast))
theorem mt_pop : MtM X "list.pop" rPop := by
  intro pins s σ H x vs v us Q I rx rv h
  obtain ⟨l, xs, y, rfl, rfl, hH, hy, q⟩ := h
  cases rx
  have hus := rv.zero
  subst hus
  obtain ⟨z, its, n, r, hl, e⟩ := I.lstM hH
  obtain ⟨u, hu, ru⟩ := r.get hy
  have hy' : its.toArray[its.toArray.size - 1]? = some u := by
    show its.toArray[its.length - 1]? = some u
    rw [← Array.getElem?_toList, ← hl]
    exact hu
  refine call_meets F.slot_list_pop ⟨_, e, rfl⟩ F.entry_list_pop (F.args_list_pop_1 _) (MeetsSeq.list_pop_last l its.toArray n u hy' (by rw [List.size_toArray]; omega)) ⟨e, ?_⟩
  refine ⟨y, _, I.lset (its' := its.dropLast) hH e ?_ r.dropLast ?_, ru, q⟩
  · show its.toArray.eraseIdxIfInBounds (its.toArray.size - 1) = its.dropLast.toArray
    rw [List.size_toArray, List.eraseIdxIfInBounds_toArray, erase_last]
  · rw [List.length_dropLast]
    omega

def rCat : R2 := fun x y H Q => ∃ l b xs zs, x = .ref l ∧ y = .ref b ∧ H l = some (.lst xs) ∧ H b = some (.lst zs) ∧ xs.length + zs.length ≤ sizeLine ∧ ∀ p, H p = none → Q (.ref p) (upd H p (.lst (xs ++ zs)))
theorem op_cat : OpR X (binaryOp .Add) rCat := by
  intro pins s σ H x y v u Q I rx ry h
  obtain ⟨l, b, xs, zs, rfl, rfl, hH, hB, hz, q⟩ := h
  cases rx
  cases ry
  obtain ⟨z, its, n, r, hl, e⟩ := I.lstM hH
  obtain ⟨z2, its2, n2, r2, hl2, e2⟩ := I.lstM hB
  refine PySem.P.add_list e e2 ?_ (by rw [List.size_toArray, List.size_toArray]; omega)
  have ea : its.toArray ++ its2.toArray = (its ++ its2).toArray := by simp
  rw [ea]
  exact ⟨.ref _, _, I.lnew (t' := s.toks) (r.append r2) (by rw [List.length_append]; omega), rfl, q _ I.fresh⟩
end

section
variable {prog : Program} {w : World} {A : Around} {E : Value → Shared → Prop} {s : Shared}
end

section
variable {X : Cx}
end
end L2

namespace Att
open PySem PySem.W PySem.Calls PyProof.Rows

theorem ints_of_wellAll {P : Params} {h : Heap} : ∀ (ns : List Int) (vs : List Value), WellAll P h vs (ns.map WData.int) → IntsAre vs ns := by
  intro ns
  induction ns with
  | nil =>
    intro vs w
    rw [List.map_nil] at w
    cases w
    exact .nil
  | cons n ns ih =>
    intro vs w
    rw [List.map_cons] at w
    cases w with
    | cons a b =>
      cases a
      exact .cons _ _ (ih _ b)

theorem script_of {l : OpenLaw} {n : Nat} (hn : l.most = some n) {P : Params} {h : Heap} {args : List WData} {vals : List Value}
    (hpre : l.row.toRowW.claim.pre args = true) (hwl : WellAll P h vals args) :
    ∃ a vs ns, vals = [Value.ref a] ∧ args = [WData.list (ns.map WData.int)] ∧ h.get? a = some { cls := .type "list", data := .seq vs.toArray } ∧ IntsAre vs ns ∧ ns.length ≤ n := by
  have hsh : WShape.hasAll [] args [.list .int] = true := (pre_splitW hpre).1
  have hc : l.pre.holds [] { args := args } = true := (pre_splitW hpre).2
  obtain ⟨d, r, rfl, h1, h2⟩ := hasAllW_cons hsh
  obtain rfl := hasAllW_nil h2
  obtain ⟨xs, rfl, h3⟩ := hasW_list h1
  obtain ⟨ns, rfl⟩ := items_int h3
  have hlen : ns.length ≤ n := by
    unfold OpenLaw.pre at hc
    have h4 : (WTm.not (.lt (.lit (.int (n : Int))) (.len (.arg 0)))).holds [] { args := [.list (ns.map .int)] } = true := by
      have h4 := (holds_andW hc).1
      rw [hn] at h4
      exact h4
    have h5 := condW_of h4 (w_not (w_lt w_lit (w_len_list (w_arg rfl))))
    rw [List.length_map] at h5
    refine Nat.le_of_not_lt fun q => ?_
    have q' : (n : Int) < ((ns.length : Nat) : Int) := by omega
    first
      | (rw [decide_eq_true q'] at h5; exact absurd h5 (by decide))
      | (simp at h5; omega)
  cases hwl with
  | cons w1 w2 =>
    cases w2
    cases w1 with
    | list ho hall => exact ⟨_, _, ns, rfl, rfl, ho, ints_of_wellAll ns _ hall, hlen⟩

theorem post_true (l : OpenLaw) (args : List WData) : l.row.toRowW.claim.post args (.bool true) args = true :=
  postW_of (r := l.row.toRowW) (X := (true == true))
    (show WShape.has [] (.bool true) .bool = true by first | rfl | decide | simp [WShape.has, WShape.arms, WShape.armsAll])
    (show (WTm.eq .res (.lit (.bool true))).value [] { args := args, res := some (.bool true), after := args } = some (.bool (true == true)) from w_eq_bool (w_res rfl) w_lit) rfl

theorem attach_call {l : OpenLaw} {n : Nat} {q : Program} {loose : List Str} {XP : (Str → Option Value) → Heap → Prop} {YP : World → Heap → Prop} {d : DefRec}
    (hn : l.most = some n) (hdf : d.params.defaults = [])
    (call : ∀ (w : World) (s₀ s₁ : Shared) (mg mb : Str → Option Value) (fa : Addr) (o : Obj) (pm cd doc : Value) (a : Addr) (vs : List Value) (ns : List Int),
      Ground q loose [] XP w s₀ mg mb s₁.heap → YP w s₁.heap →
      s₁.heap.get? fa = some o → o.data = .func (docDef d.name d.params d.body d.scope pm cd doc) → s₁.heap.CodeRec cd d.name → mg d.name = some (.ref fa) →
      s₁.heap.get? a = some { cls := .type "list", data := .seq vs.toArray } → IntsAre vs ns → ns.length ≤ n → s₁.gens = #[] →
      codeAny (model l.prog w) callerA (.call (.ref fa) ⟨[.ref a], []⟩) (fun r s' => r = .ok (.ret (.bool true)) ∧ OldK s₁.heap s'.heap ∧ s'.os = s₁.os ∧ AllBare s'.gens) s₁) :
    WalkO q loose XP YP l.row.toRowW d [] (fun f vs => PySem.call f vs) := by
  intro w s₀ s₁ mg mb G Y fa o pm cd doc dV kV ho hd hcd hD hmg hg args vals as hpre hlay hrd hwl hlo
  obtain rfl : dV = .none := Dflts.none hD hdf
  obtain rfl : kV = .none := Dflts.noKw hD
  obtain ⟨a, vs, ns, rfl, rfl, hobj, hints, hlen⟩ := script_of hn hpre hwl
  refine enter_call (codeAny_mono (call w s₀ s₁ mg mb fa o pm cd doc a vs ns G Y ho (fd_plain hd) hcd hmg hobj hints hlen hg) fun r s' hq => ?_)
  obtain ⟨rfl, h2, h3, h4⟩ := hq
  exact ⟨.inl ⟨.bool true, .bool true, [], rfl, fun _ => rfl, .bool true, post_true l _, fun _ => ⟨List.Pairwise.nil, fun _ hm => (nomatch hm)⟩⟩, h2, h3, h4⟩

section
variable {prog : Program} {w : World} {A : Around} {E : Value → Shared → Prop} {s : Shared} {K : Frag}

def ledger (h : Heap) (L d : Addr) : List (Addr × Obj) := (List.range h.objs.size).filterMap fun a => if a = L ∨ a = d then none else (h.get? a).map fun o => (a, o)
end
end Att

namespace L2
open PySem PySem.Spec PyProof.Rows

theorem vals_ints : ∀ {vs : List Value} {ns : List Int}, IntsAre vs ns → Vals (ns.map V.int) vs
  | _, _, .nil => .nil
  | _, _, .cons n t h => .cons ⟨t, rfl⟩ (vals_ints h)

def Only (H : Hp) : Prop := ∀ b, H b = none ∨ ∃ o xs, H b = some (.frz o (.lst xs))

theorem law_call {P : Program} {w : World} {K : PySem.W.Frag} {mg mb : Str → Option Value} {CX : CXT} {k : Nat} {fa a : Addr} {fd : FuncData} {x : Str} {sp : Sp} {s₁ : Shared} {vs : List Value} {ns : List Int}
    (KX : K.In s₁.heap) (hns : s₁.heap.Ns mainGlobals mg) (hb : s₁.heap.Ns builtinsNs mb) (hbb : ∀ x : Str, x ≠ "__name__" → mb x = bootBuiltins x) (hlim : s₁.heap.NoLimit) (hg : s₁.gens = #[])
    (ha : s₁.heap.get? a = some { cls := .type "list", data := .seq vs.toArray }) (hi : IntsAre vs ns) (hl : ns.length ≤ sizeLine) (hr : Room k callerA)
    (F : ∀ base : Heap, K.In base → base.Ns mainGlobals mg → FnOk P w K mg base CX k fa fd [x] sp) (hbind : ∀ (s : Shared) (u : Value), BindsTo s fd ⟨[u], []⟩ [(x, u)])
    (hsp : ∀ H : Hp, Only H → SqL K H a (ns.map V.int) → sp [.ref a] H (fun v _ => v = .bl true) fun _ _ _ => False)
    (hCX : ∀ H e s', CX [] H s₁ (fun _ _ _ => False) e s' → False) :
    codeAny (model P w) callerA (.call (.ref fa) ⟨[.ref a], []⟩) (fun r s' => r = .ok (.ret (.bool true)) ∧ OldK s₁.heap s'.heap ∧ s'.os = s₁.os ∧ AllBare s'.gens) s₁ := by
  have rv := vals_ints hi
  have lenV := hi.length
  -- from an abstract heap in which nothing but the script may be tracked
  have core : ∀ H : Hp, Only H → SqL K H a (ns.map V.int) → HOk P w H s₁.heap → (∀ b, H b ≠ none → b = a) → (H a ≠ none → K.lookup a = none) →
      codeAny (model P w) callerA (.call (.ref fa) ⟨[.ref a], []⟩) (fun r s' => r = .ok (.ret (.bool true)) ∧ OldK s₁.heap s'.heap ∧ s'.os = s₁.os ∧ AllBare s'.gens) s₁ := by
    intro H hO hS hok hA hK
    have base_of : ∀ {b : Addr} {o : Obj}, s₁.heap.get? b = some o → H b = none → (hidT s₁.heap H).get? b = some o := fun e n => hidT_get e n
    have noA : ∀ {b : Addr} {o : Obj} {es : Array DictEntry} {ep : Nat}, s₁.heap.get? b = some o → o.data = .dict es ep → H b = none := fun {b o es ep} e d => by
      cases q : H b with
      | none => rfl
      | some u =>
        have e' : b = a := hA b (by rw [q]; simp)
        subst e'
        rw [ha] at e; cases e
        have d' : Data.seq vs.toArray _ = Data.dict es ep := d
        cases d'
    have nsK : ∀ {b : Addr} {m : Str → Option Value}, s₁.heap.Ns b m → (hidT s₁.heap H).Ns b m := fun {b m} ⟨o, es, ep, e, d, r⟩ => ⟨o, es, ep, base_of e (noA e d), d, r⟩
    have hKb : K.In (hidT s₁.heap H) := fun b o e => base_of (KX b o e) (by
      cases q : H b with
      | none => rfl
      | some u =>
        have e' : b = a := hA b (by rw [q]; simp)
        subst e'
        rw [hK (by rw [q]; simp)] at e; cases e)
    have hM : Mod K mg (hidT s₁.heap H) := ⟨hKb, nsK hns, ⟨mb, nsK hb, hbb⟩, let ⟨mc, h1, h2⟩ := hlim; ⟨mc, nsK h1, h2⟩⟩
    have e0 : Env0 P w K mg (hidT s₁.heap H) callerA [] s₁ H := ⟨rfl, hM, fun b o e => of_hidT e, Nat.le_of_eq (hidT_size _ _), trivial, fun b hb => absurd (show b ∈ ([] : List Addr) from hb) (by simp), hok, .of_eq hg⟩
    refine codeAny_mono ((F _ hKb (nsK hns)).run callerA [] s₁ H ⟨[.ref a], []⟩ [.ref a] [.ref a] _ _ hr e0 (hbind s₁ (.ref a)) (.cons rfl .nil) (hsp H hO hS)) fun r s' h => ?_
    cases r with
    | error e => exact (hCX H e s' h).elim
    | ok fl =>
      cases fl with
      | next => exact False.elim h
      | brk => exact False.elim h
      | cont => exact False.elim h
      | ret u =>
        obtain ⟨v, H', os, bare, un, hok', r', q⟩ := h
        have q' : v = .bl true := q
        subst q'
        obtain rfl : u = Value.bool true := r'
        refine ⟨rfl, OldK.of_keep fun b o e => ?_, os, bare⟩
        cases q : H b with
        | none => exact un.keep b o e q (by intro z; exact absurd (show b ∈ ([] : List Addr) from z) (by simp)) (by simp)
        | some u =>
          rcases hO b with z | ⟨ob, xs, z⟩
          · rw [q] at z; cases z
          · have z2 := un.frzs b ob _ z
            obtain ⟨e1, _⟩ := hok b _ z
            obtain ⟨e2, _⟩ := hok' b _ z2
            rw [e] at e1; cases e1
            exact e2
  cases hk : K.lookup a with
  | some o =>
    -- the script is one of the module's own objects
    have e := KX a o hk
    rw [ha] at e
    cases e
    refine core (fun _ => none) (fun _ => .inl rfl) (.inr ⟨_, vs.toArray, _, hk, rfl, rfl, rfl, by rw [List.size_toArray, lenV]; exact hl, by simpa using rv⟩) (fun b u z => by have z' : (none : Option HO) = some u := z; cases z') (fun b z => absurd rfl z) fun z => absurd rfl z
  | none =>
    refine core (fun b => if b = a then some (.frz { cls := .type "list", data := .seq vs.toArray } (.lst (ns.map V.int))) else none) (fun b => ?_) (.inl (.inr ⟨{ cls := .type "list", data := .seq vs.toArray }, if_pos rfl⟩)) (fun b u z => ?_) (fun b z => ?_) fun _ => hk
    · by_cases hb : b = a
      · exact .inr ⟨_, _, if_pos hb⟩
      · exact .inl (if_neg hb)
    · by_cases hb : b = a
      · have z' := (if_pos hb).symm.trans z
        cases z'
        subst hb
        exact ⟨ha, by rw [List.length_map]; exact hl, vs, _, rv, ha⟩
      · have z' := (if_neg hb).symm.trans z
        cases z'
    · by_cases hb : b = a
      · exact hb
      · exact absurd (if_neg hb) z
end L2

namespace L2
open PySem PySem.Spec PyProof.Rows

abbrev KOf {K : PySem.W.Frag} {h : Heap} (_ : K.In h) : PySem.W.Frag := K

theorem walk_of {l : PySem.W.OpenLaw} {n k : Nat} {q : Program} {loose : List Str} {XP : (Str → Option Value) → Heap → Prop} {YP : World → Heap → Prop} {d : DefRec} {K : Params → PySem.W.Frag} {CX : World → CXT} {sp : World → Sp} {x : Str}
    (hn : l.most = some n) (hn2 : n ≤ sizeLine) (hdf : d.params.defaults = []) (hr : Room k callerA)
    (hY : ∀ (w : World) (h : Heap), YP w h → (K w.params).In h)
    (F : ∀ (w : World) (mg : Str → Option Value) (fa : Addr) (h : Heap), (K w.params).In h → h.Ns mainGlobals mg → mg d.name = some (.ref fa) →
      ∃ fd : FuncData, (∀ (s : Shared) (u : Value), BindsTo s fd ⟨[u], []⟩ [(x, u)]) ∧
        ∀ base : Heap, (K w.params).In base → base.Ns mainGlobals mg → FnOk l.prog w (K w.params) mg base (CX w) k fa fd [x] (sp w))
    (hsp : ∀ (w : World) (H : Hp) (a : Addr) (ns : List Int), ns.length ≤ n → Only H → SqL (K w.params) H a (ns.map V.int) → sp w [.ref a] H (fun v _ => v = .bl true) fun _ _ _ => False)
    (hCX : ∀ (w : World) (H : Hp) (s : Shared) (e : Value) (s' : Shared), CX w [] H s (fun _ _ _ => False) e s' → False) :
    PySem.W.WalkO q loose XP YP l.row.toRowW d [] (fun f vs => PySem.call f vs) := by
  refine Att.attach_call hn hdf fun w s₀ s₁ mg mb fa o pm cd doc a vs ns G Y ho hd hcd hmg hobj hints hlen hg => ?_
  have KX := hY w _ Y
  obtain ⟨fd, hb, hF⟩ := F w mg fa _ KX G.T.g hmg
  exact law_call KX G.T.g G.T.b G.T.builtins G.T.nolimit hg hobj hints (Nat.le_trans hlen hn2) hr hF hb (fun H hO hS => hsp w H a ns hlen hO hS) fun H e s' => hCX w H s₁ e s'
theorem walk_ofK {l : PySem.W.OpenLaw} {n k : Nat} {q : Program} {loose : List Str} {XP : (Str → Option Value) → Heap → Prop} {YP : World → Heap → Prop} {d : DefRec} {K : Params → PySem.W.Frag} {CX : CXT} {sp : PySem.W.Frag → Sp} {x : Str}
    (hn : l.most = some n) (hn2 : n ≤ sizeLine) (hdf : d.params.defaults = []) (hr : Room k callerA)
    (hY : ∀ (w : World) (h : Heap), YP w h → (K w.params).In h)
    (F : ∀ (w : World) (mg : Str → Option Value) (fa : Addr) (h : Heap), (K w.params).In h → h.Ns mainGlobals mg → mg d.name = some (.ref fa) →
      ∃ fd : FuncData, (∀ (s : Shared) (u : Value), BindsTo s fd ⟨[u], []⟩ [(x, u)]) ∧
        ∀ base : Heap, (K w.params).In base → base.Ns mainGlobals mg → FnOk l.prog w (K w.params) mg base CX k fa fd [x] (sp (K w.params)))
    (hsp : ∀ (K : PySem.W.Frag) (H : Hp) (a : Addr) (ns : List Int), ns.length ≤ n → Only H → SqL K H a (ns.map V.int) → sp K [.ref a] H (fun v _ => v = .bl true) fun _ _ _ => False)
    (hCX : ∀ (H : Hp) (s : Shared) (e : Value) (s' : Shared), CX [] H s (fun _ _ _ => False) e s' → False) :
    PySem.W.WalkO q loose XP YP l.row.toRowW d [] (fun f vs => PySem.call f vs) :=
  walk_of (K := K) (CX := fun _ => CX) (sp := fun w => sp (K w.params)) hn hn2 hdf hr hY F (fun w H a ns h1 h2 h3 => hsp (K w.params) H a ns h1 h2 h3) fun _ H s e s' => hCX H s e s'
end L2

/- THE LAST THEOREM (shape; LID, My.* are yours):
   My.Adr: a structure of the addresses that your layer names (classes, functions); My.Txt K t: a structure (Prop) of the equations over K;
   My.txt_mk : {K} {implicit addresses ..} (e1 : nsIn K mainGlobals "law" = some (some (.ref f))) (e2 : K.lookup f = some ⟨oc, od, .func (fnOf "law" "law" params body scope dV kV doc pm an cdv ct), sl⟩) (e3 : codeIn K cdv "law" = true) .. : ∃ t, My.Txt K t

set_option maxRecDepth 100000 in
set_option maxHeartbeats 0 in
theorem PySem.Challenge.cw_LID_holds : PySem.Challenge.rw_LID.Holds := by
  w_on; o_law; k_head; (case hw => w_witness2)
  k_fill
  refine L2.walk_of (l := PySem.Challenge.rw_LID) (n := 63) (k := 40) (x := "script") (CX := fun w => ..) (sp := fun _ => My.sp_law) rfl (by decide) rfl ⟨rfl, by decide, by decide⟩ (fun w h Y => PySem.W.kIn_of Y) ?F ?S ?C
  case F =>
    intro w mg fa h KX G hmg
    have T : ∃ t, My.Txt (L2.KOf KX) t := by
      dsimp only [L2.KOf]                          -- K must stand as «<heap const> w.params» for k_is
      refine' My.txt_mk ?e1 ?e2 ?e3 ..
      (case e1 => PySem.W.k_is)                    -- in the order: a name -> its address -> its object -> its parts
      (case e2 => PySem.W.k_is)
      ..
    obtain ⟨t, T⟩ := T
    have e0 := hmg.symm.trans (PySem.W.mg_of KX G T.law)
    cases e0                                       -- fa is the law's own address
    exact ⟨_, fun s u => .of_eq rfl, fun base kb nb => My.law_fn T kb nb⟩     -- if «.of_eq rfl» comes too early: refine' ⟨_, ?b, fun base kb nb => My.law_fn T kb nb⟩; exact fun s u => .of_eq rfl
  case S => exact fun w H a ns hl hO hS => ..
  case C => exact ..
(the tactic k_is has no namespace: write k_is) -/

namespace L2
open PySem PySem.Spec PyProof.Rows

def inClass (s : Stmt) (j : Nat) : Stmt := match s with
  | .ClassDef _ _ _ body _ _ _ _ _ _ _ => body.getD j (.Pass ⟨0, 0, 0, 0⟩)
  | _ => .Pass ⟨0, 0, 0, 0⟩
def defArgs (s : Stmt) : Arguments := match s with
  | .FunctionDef _ a _ _ _ _ _ _ _ _ => a
  | _ => { posonlyargs := [], args := [], vararg := none, kwonlyargs := [], kw_defaults := [], kwarg := none, defaults := [] }
def defBody (s : Stmt) : List Stmt := match s with
  | .FunctionDef _ _ b _ _ _ _ _ _ _ => b
  | _ => []
def defScope (s : Stmt) : Scope := match s with
  | .FunctionDef _ _ _ _ _ _ sc _ _ _ => sc
  | _ => { kind := .function, names := [], isGenerator := false, isCoroutine := false }

abbrev CX0 : CXT := fun _ _ _ _ _ _ => False
abbrev E0 : XK := fun _ _ _ => False
theorem pass0 {X : Cx} : Passes CX0 X E0 := fun _ _ _ _ _ _ _ h => h.elim

structure Fun (K : PySem.W.Frag) (x qual : Str) (st : Stmt) (f : Addr) (fd : FuncData) : Prop where
  ex : ∃ (oc : Value) (od : Option Addr) (kV doc pm : Value) (an : Option Addr) (cdv ct : Value) (osl : Array (Option Value)),
    fd = PySem.W.fnOf x qual (defArgs st) (defBody st) (defScope st) .none kV doc pm an cdv ct ∧ K.lookup f = some ⟨oc, od, .func fd, osl⟩ ∧ PySem.W.codeIn K cdv qual = true
  kp : PySem.W.keepIn K (.ref f) = true
section
variable {P : Program} {w : World} {K : PySem.W.Frag} {mg : Str → Option Value} {base : Heap}
theorem Fun.ok {x qual : Str} {st : Stmt} {f : Addr} {fd : FuncData} {N ps : List Str} {k : Nat} {sp : Sp} (F : Fun K x qual st f fd) (S : FnScope N ps (defScope st)) (len : ∀ vs H Q E, sp vs H Q E → vs.length = ps.length)
    (hbody : ∀ (cdv : Value) (A : Around) (outer : List Env) (s : Shared) (H : Hp) (vs : List V) (Q : VK) (E : XK), Room k (A.deeper (envOfC qual (defScope st) s.heap.objs.size f cdv)) → sp vs H Q E →
      ∃ t, PSs (cxOf CX0 P w K mg base N qual (defScope st) f cdv A outer s H E).nox (defBody st) t ∧ t { nx := fun _ H' => Q .non H', rt := Q } (start N vs) H) : FnOk P w K mg base CX0 (k + 1) f fd ps sp := by
  obtain ⟨oc, od, kV, doc, pm, an, cdv, ct, osl, rfl, lk, hcd⟩ := F.ex
  refine fn_of lk hcd S len fun A outer s H vs Q E hr hsp => ?_
  obtain ⟨t, h, q⟩ := hbody cdv A outer s H vs Q E hr hsp
  exact ⟨t, h.nox, q⟩
theorem Fun.binds {x qual : Str} {st : Stmt} {f : Addr} {fd : FuncData} {ps : List Str} (F : Fun K x qual st f fd)
    (h : ∀ (kV doc pm : Value) (an : Option Addr) (cdv ct : Value) (us : List Value), us.length = ps.length → bindArgs (PySem.W.fnOf x qual (defArgs st) (defBody st) (defScope st) .none kV doc pm an cdv ct) ⟨us, []⟩ = pure (ps.zip us)) : Binds K fd ps [] := by
  obtain ⟨oc, od, kV, doc, pm, an, cdv, ct, osl, rfl, lk, hcd⟩ := F.ex
  exact .all (h kV doc pm an cdv ct)
theorem fun_mk {x qual : Str} {st : Stmt} {f : Addr} {oc : Value} {od an : Option Addr} {osl : Array (Option Value)} {kV doc pm cdv ct : Value} (l : K.lookup f = some ⟨oc, od, .func (PySem.W.fnOf x qual (defArgs st) (defBody st) (defScope st) .none kV doc pm an cdv ct), osl⟩)
    (c : PySem.W.codeIn K cdv qual = true) (k : PySem.W.keepIn K (.ref f) = true) : Fun K x qual st f (PySem.W.fnOf x qual (defArgs st) (defBody st) (defScope st) .none kV doc pm an cdv ct) := ⟨⟨oc, od, kV, doc, pm, an, cdv, ct, osl, rfl, l, c⟩, k⟩
end
theorem small1000 {n : Nat} (h : n ≤ 1000) : n < sizeLine := Nat.lt_of_le_of_lt h (by decide)

section
variable {X : Cx}
theorem pv (i : Nat) {x : Str} {pos : Pos} (hN : X.N[i]? = some x := by rfl) (hv : Vis X.env.scope x := by first | exact Or.inl rfl | exact Or.inr (Or.inl rfl) | exact Or.inr (Or.inr rfl)) (hd : (x == ("__debug__" : Str)) = false := by decide)
    (hcd : (x == ("__classdict__" : Str)) = false := by decide) : PE X (.Name x pos) (tVar i) := pe_var hN hv hd hcd
end

theorem iteF {A B : Prop} (h : B) : if false = true then A else B := by
  rw [if_neg Bool.false_ne_true]
  exact h
theorem iteT {A B : Prop} (h : A) : if true = true then A else B := by
  rw [if_pos rfl]
  exact h
end L2


set_option linter.all false
set_option maxRecDepth 100000
set_option maxHeartbeats 4000000
namespace U
open PySem PySem.Spec PyProof.Rows L2
inductive PV where
  | non | bl (b : Bool) | int (i : Int) | str (x : Str) | ref (a : Addr) | tup (l : List PV) | fls (l : List PV) | oth (v : V)
def FzL (K : PySem.W.Frag) (H : Hp) (a : Addr) (xs : List V) : Prop :=
  (∃ o, H a = some (.frz o (.lst xs))) ∨
    ∃ (o : Obj) (its : Array Value) (n : Nat), K.lookup a = some o ∧ o.cls = .type "list" ∧ o.dict = none ∧ o.data = .seq its n ∧ its.size ≤ sizeLine ∧ Vals xs its.toList
theorem FzL.sq {K : PySem.W.Frag} {H : Hp} {a : Addr} {xs : List V} (h : FzL K H a xs) : SqL K H a xs := by
  rcases h with h | h
  · exact .inl (.inr h)
  · exact .inr h
structure Kp (H H1 : Hp) : Prop where
  t : ∀ a us, H a = some (.tup us) → H1 a = some (.tup us)
  z : ∀ a o u, H a = some (.frz o u) → H1 a = some (.frz o u)
theorem Kp.sqT {K : PySem.W.Frag} {H H1 : Hp} (k : Kp H H1) {a : Addr} {us : List V} (h : SqT K H a us) : SqT K H1 a us := by
  rcases h with (h | ⟨o, h⟩) | h
  · exact .inl (.inl (k.t _ _ h))
  · exact .inl (.inr ⟨o, k.z _ _ _ h⟩)
  · exact .inr h
theorem Kp.fzL {K : PySem.W.Frag} {H H1 : Hp} (k : Kp H H1) {a : Addr} {us : List V} (h : FzL K H a us) : FzL K H1 a us := by
  rcases h with ⟨o, h⟩ | h
  · exact .inl ⟨o, k.z _ _ _ h⟩
  · exact .inr h
section
variable (K : PySem.W.Frag)
mutual
def RP (H : Hp) : PV → V → Prop
  | .non, v => v = .non
  | .bl b, v => v = .bl b
  | .int i, v => v = .int i
  | .str x, v => v = .str x
  | .ref a, v => v = .ref a
  | .oth w, v => v = w
  | .tup l, v => ∃ a us, v = .ref a ∧ SqT K H a us ∧ RPs H l us
  | .fls l, v => ∃ a us, v = .ref a ∧ FzL K H a us ∧ RPs H l us
def RPs (H : Hp) : List PV → List V → Prop
  | [], us => us = []
  | x :: l, us => ∃ u r, us = u :: r ∧ RP H x u ∧ RPs H l r
end
mutual
theorem RP.kp {H H1 : Hp} (k : Kp H H1) : ∀ {x : PV} {v : V}, RP K H x v → RP K H1 x v
  | .non, _, h => h
  | .bl _, _, h => h
  | .int _, _, h => h
  | .str _, _, h => h
  | .ref _, _, h => h
  | .oth _, _, h => h
  | .tup l, v, h => by
    simp only [RP] at h ⊢
    obtain ⟨a, us, e, q, r⟩ := h
    exact ⟨a, us, e, k.sqT q, RPs.kp k r⟩
  | .fls l, v, h => by
    simp only [RP] at h ⊢
    obtain ⟨a, us, e, q, r⟩ := h
    exact ⟨a, us, e, k.fzL q, RPs.kp k r⟩
theorem RPs.kp {H H1 : Hp} (k : Kp H H1) : ∀ {l : List PV} {us : List V}, RPs K H l us → RPs K H1 l us
  | [], _, h => h
  | x :: l, us, h => by
    simp only [RPs] at h ⊢
    obtain ⟨u, r, e, a, b⟩ := h
    exact ⟨u, r, e, RP.kp k a, RPs.kp k b⟩
end
theorem RPs.nil {H : Hp} : RPs K H [] [] := by simp [RPs]
theorem RPs.cons {H : Hp} {x : PV} {l : List PV} {u : V} {us : List V} (a : RP K H x u) (b : RPs K H l us) : RPs K H (x :: l) (u :: us) := by
  simp only [RPs]; exact ⟨u, us, rfl, a, b⟩
theorem RPs.length {H : Hp} : ∀ {l : List PV} {us : List V}, RPs K H l us → us.length = l.length
  | [], us, h => by simp only [RPs] at h; subst h; rfl
  | x :: l, us, h => by
    simp only [RPs] at h
    obtain ⟨u, r, rfl, _, b⟩ := h
    simp [RPs.length b]
theorem RPs.get {H : Hp} : ∀ {l : List PV} {us : List V} {i : Nat} {x : PV}, RPs K H l us → l[i]? = some x → ∃ u, us[i]? = some u ∧ RP K H x u
  | [], _, _, _, _, e => by simp at e
  | y :: l, us, i, x, h, e => by
    simp only [RPs] at h
    obtain ⟨u, r, rfl, a, b⟩ := h
    cases i with
    | zero => simp at e; subst e; exact ⟨u, by simp, a⟩
    | succ i => obtain ⟨w, e1, e2⟩ := RPs.get (i := i) (x := x) b (by simpa using e); exact ⟨w, by simpa using e1, e2⟩
theorem RPs.append {H : Hp} : ∀ {l m : List PV} {us ws : List V}, RPs K H l us → RPs K H m ws → RPs K H (l ++ m) (us ++ ws)
  | [], m, us, ws, h, g => by simp only [RPs] at h; subst h; simpa using g
  | x :: l, m, us, ws, h, g => by
    simp only [RPs] at h
    obtain ⟨u, r, rfl, a, b⟩ := h
    exact RPs.cons K a (RPs.append b g)
theorem RPs.take {H : Hp} : ∀ {l : List PV} {us : List V} (n : Nat), RPs K H l us → RPs K H (l.take n) (us.take n)
  | [], us, n, h => by simp only [RPs] at h; subst h; simp [RPs]
  | x :: l, us, 0, h => by simp [RPs]
  | x :: l, us, n + 1, h => by
    simp only [RPs] at h
    obtain ⟨u, r, rfl, a, b⟩ := h
    exact RPs.cons K a (RPs.take n b)
theorem RPs.drop {H : Hp} : ∀ {l : List PV} {us : List V} (n : Nat), RPs K H l us → RPs K H (l.drop n) (us.drop n)
  | [], us, n, h => by simp only [RPs] at h; subst h; simp [RPs]
  | x :: l, us, 0, h => h
  | x :: l, us, n + 1, h => by
    simp only [RPs] at h
    obtain ⟨u, r, rfl, a, b⟩ := h
    exact RPs.drop n b
theorem RPs.set {H : Hp} {x : PV} {u : V} (a : RP K H x u) : ∀ {l : List PV} {us : List V} (n : Nat), RPs K H l us → RPs K H (l.set n x) (us.set n u)
  | [], us, n, h => by simp only [RPs] at h; subst h; simp [RPs]
  | y :: l, us, 0, h => by
    simp only [RPs] at h
    obtain ⟨w, r, rfl, _, b⟩ := h
    exact RPs.cons K a b
  | y :: l, us, n + 1, h => by
    simp only [RPs] at h
    obtain ⟨w, r, rfl, c, b⟩ := h
    exact RPs.cons K c (RPs.set a n b)
theorem RPs.dropLast {H : Hp} {l : List PV} {us : List V} (h : RPs K H l us) : RPs K H l.dropLast us.dropLast := by
  rw [List.dropLast_eq_take, List.dropLast_eq_take, RPs.length K h]
  exact RPs.take K _ h
theorem RPs.ints {H : Hp} : ∀ (ns : List Int), RPs K H (ns.map PV.int) (ns.map V.int)
  | [] => by simp [RPs]
  | n :: ns => RPs.cons K (by simp [RP]) (RPs.ints ns)
end
def ExcA (a C : Addr) (h : Heap) : Prop := ∃ o, h.get? a = some o ∧ o.cls = .ref C
def ExcD (a C dx : Addr) (h : Heap) : Prop := ∃ o, h.get? a = some o ∧ o.cls = .ref C ∧ o.dict = some dx ∧ ∃ vs, o.data = .fields vs
def IsAt (o : Obj) (n : Nat) : Prop := ∀ (h : Heap) (d : Addr), h.get? d = some o → ∃ m u, h.Ns d m ∧ m "at" = some u ∧ RelV (.int n) u
inductive PO where
  | exc (C : Addr)
  | excA (C : Addr) (n : Nat)
  | lst (l : List PV)
  | ins (C dx : Addr) (fs : List (Str × PV))
  | dK (kvs : List (Key × PV))
  | dT (kvs : List (List Key × PV))
abbrev PHp := Addr → Option PO
def put (H : PHp) (a : Addr) (o : PO) : PHp := fun b => if b = a then some o else H b
theorem put_same {H : PHp} {a : Addr} {o : PO} : put H a o a = some o := by unfold put; rw [if_pos rfl]
theorem put_ne {H : PHp} {a b : Addr} {o : PO} (h : b ≠ a) : put H a o b = H b := by unfold put; rw [if_neg h]
theorem put_put {H : PHp} {a : Addr} {o u : PO} : put (put H a o) a u = put H a u := by
  funext b; unfold put; split <;> rfl
theorem ne_none {H : PHp} {a b : Addr} {o : PO} (h : H a = some o) (h' : H b = none) : a ≠ b := by
  intro e; subst e; rw [h] at h'; cases h'
abbrev FRel (K : PySem.W.Frag) (H : Hp) {κ : Type} : List (κ × PV) → List (κ × V) → Prop := Paired fun p q => p.1 = q.1 ∧ RP K H p.2 q.2
def OAt (K : PySem.W.Frag) (H : Hp) (a : Addr) : PO → Prop
  | .exc C => H a = some (.ext (ExcA a C))
  | .excA C n => ∃ dx o, H a = some (.ext (ExcD a C dx)) ∧ H dx = some (.frz o (.own a)) ∧ IsAt o n
  | .lst l => ∃ us, H a = some (.lst us) ∧ RPs K H l us
  | .ins C dx fs => ∃ gs, H a = some (.ins C dx gs) ∧ FRel K H fs gs
  | .dK kvs => ∃ ws, H a = some (.dK ws) ∧ FRel K H kvs ws
  | .dT kvs => ∃ ws, H a = some (.dT ws) ∧ FRel K H kvs ws
abbrev HR (K : PySem.W.Frag) (H' : PHp) (H : Hp) : Prop := ∀ a o, H' a = some o → OAt K H a o
abbrev St' := List (Option PV)
abbrev Bs := PHp × Hp
def Ev (H' : PHp) (H : Hp) (H1' : PHp) (H1 : Hp) : Prop := ∀ a o, H a = some o → H' a = none → H1 a = some o ∧ H1' a = none
structure SR (K : PySem.W.Frag) (B : Bs) (σ' : St') (H' : PHp) (σ : L2.St) (H : Hp) : Prop where
  len : σ'.length = σ.length
  loc : ∀ (i : Nat) (v' : PV), σ'[i]? = some (some v') → ∃ v, σ[i]? = some (some v) ∧ RP K H v' v
  hp : HR K H' H
  ev : Ev B.1 B.2 H' H
theorem Ev.refl (H' : PHp) (H : Hp) : Ev H' H H' H := fun _ _ h h' => ⟨h, h'⟩
theorem Ev.trans {H' : PHp} {H : Hp} {H1' : PHp} {H1 : Hp} {H2' : PHp} {H2 : Hp} (a : Ev H' H H1' H1) (b : Ev H1' H1 H2' H2) : Ev H' H H2' H2 := fun c o h h' => by
  obtain ⟨p, q⟩ := a c o h h'
  exact b c o p q
section
variable {K : PySem.W.Frag}
theorem FRel.kp {κ : Type} {H H1 : Hp} (k : Kp H H1) {fs : List (κ × PV)} {gs : List (κ × V)} (h : FRel K H fs gs) : FRel K H1 fs gs := Paired.mapP h fun _ _ ⟨a, b⟩ => ⟨a, RP.kp K k b⟩
theorem OAt.some {H : Hp} {a : Addr} : ∀ {o : PO}, OAt K H a o → ∃ u, H a = Option.some u ∧ (∀ us, u ≠ .tup us) ∧ (∀ o us, u ≠ .frz o us) ∧ (∀ x, u ≠ .own x)
  | .exc C, e => ⟨_, e, (fun _ => by nofun), (fun _ _ => by nofun), (fun _ => by nofun)⟩
  | .excA C n, ⟨_, _, e, _⟩ => ⟨_, e, (fun _ => by nofun), (fun _ _ => by nofun), (fun _ => by nofun)⟩
  | .lst l, ⟨us, e, _⟩ => ⟨_, e, (fun _ => by nofun), (fun _ _ => by nofun), (fun _ => by nofun)⟩
  | .ins C dx fs, ⟨us, e, _⟩ => ⟨_, e, (fun _ => by nofun), (fun _ _ => by nofun), (fun _ => by nofun)⟩
  | .dK l, ⟨us, e, _⟩ => ⟨_, e, (fun _ => by nofun), (fun _ _ => by nofun), (fun _ => by nofun)⟩
  | .dT l, ⟨us, e, _⟩ => ⟨_, e, (fun _ => by nofun), (fun _ _ => by nofun), (fun _ => by nofun)⟩
theorem OAt.keep {H H1 : Hp} {a : Addr} (k : Kp H H1) (e : H1 a = H a) : ∀ {o : PO}, OAt K H a o → OAt K H1 a o
  | .exc C, h => e.trans h
  | .excA C n, ⟨dx, o, h, z, i⟩ => ⟨dx, o, e.trans h, k.z _ _ _ z, i⟩
  | .lst l, ⟨us, h, r⟩ => ⟨us, e.trans h, RPs.kp K k r⟩
  | .ins C dx fs, ⟨us, h, r⟩ => ⟨us, e.trans h, FRel.kp k r⟩
  | .dK l, ⟨us, h, r⟩ => ⟨us, e.trans h, FRel.kp k r⟩
  | .dT l, ⟨us, h, r⟩ => ⟨us, e.trans h, FRel.kp k r⟩
theorem HR.tup {H' : PHp} {H : Hp} (h : HR K H' H) {a : Addr} {us : List V} (e : H a = some (.tup us)) : H' a = none := by
  cases q : H' a with
  | none => rfl
  | some o => obtain ⟨u, e1, n, _⟩ := (h a o q).some; rw [e] at e1; exact absurd (Option.some.inj e1).symm (n us)
theorem HR.frz {H' : PHp} {H : Hp} (h : HR K H' H) {a : Addr} {o : Obj} {u : HO} (e : H a = some (.frz o u)) : H' a = none := by
  cases q : H' a with
  | none => rfl
  | some o' => obtain ⟨u', e1, _, n, _⟩ := (h a o' q).some; rw [e] at e1; exact absurd (Option.some.inj e1).symm (n o u)
theorem HR.free {H' : PHp} {H : Hp} (h : HR K H' H) {a : Addr} (e : H a = none) : H' a = none := by
  cases q : H' a with
  | none => rfl
  | some o => obtain ⟨u, e1, _⟩ := (h a o q).some; rw [e] at e1; cases e1
theorem Ev.kp {H' : PHp} {H : Hp} {H1' : PHp} {H1 : Hp} (e : Ev H' H H1' H1) (h : HR K H' H) : Kp H H1 :=
  ⟨fun a us q => (e a _ q (h.tup q)).1, fun a o u q => (e a _ q (h.frz q)).1⟩
theorem kp_fresh {H : Hp} {p : Addr} {o : HO} (e : H p = none) : Kp H (upd H p o) :=
  ⟨fun a us q => by rw [upd_ne (ne_of_none q e)]; exact q, fun a o u q => by rw [upd_ne (ne_of_none q e)]; exact q⟩
theorem kp_write {H : Hp} {p : Addr} {o u : HO} (e : H p = some u) (n1 : ∀ us, u ≠ .tup us) (n2 : ∀ o us, u ≠ .frz o us) : Kp H (upd H p o) :=
  ⟨fun a us q => by rw [upd_ne (ne_of q e fun z => n1 us z.symm)]; exact q, fun a o' u' q => by rw [upd_ne (ne_of q e fun z => n2 o' u' z.symm)]; exact q⟩
theorem SR.kp {B : Bs} {σ' : St'} {H' H1' : PHp} {σ : L2.St} {H H1 : Hp} (s : SR K B σ' H' σ H) (e : Ev H' H H1' H1) (h : HR K H1' H1) : SR K B σ' H1' σ H1 :=
  ⟨s.len, fun i v' q => by obtain ⟨v, a, b⟩ := s.loc i v' q; exact ⟨v, a, RP.kp K (e.kp s.hp) b⟩, h, s.ev.trans e⟩
theorem HR.hid {H' : PHp} {H : Hp} {p : Addr} {o : HO} (h : HR K H' H) (e : H p = none) : HR K H' (upd H p o) := fun a u q => by
  have na : a ≠ p := by rintro rfl; rw [h.free e] at q; cases q
  exact (h a u q).keep (kp_fresh e) (upd_ne na)
theorem Ev.hid {H' : PHp} {H : Hp} {p : Addr} {o : HO} (e : H p = none) : Ev H' H H' (upd H p o) := fun a u q n => ⟨by rw [upd_ne (ne_of_none q e)]; exact q, n⟩
theorem HR.new {H' : PHp} {H : Hp} {p : Addr} {o : HO} {o' : PO} (h : HR K H' H) (e : H p = none) (new : OAt K (upd H p o) p o') : HR K (put H' p o') (upd H p o) := fun a u q => by
  by_cases hp : a = p
  · subst hp; rw [put_same] at q; cases q; exact new
  · rw [put_ne hp] at q; exact (h a u q).keep (kp_fresh e) (upd_ne hp)
theorem Ev.new {H' : PHp} {H : Hp} {p : Addr} {o : HO} {o' : PO} (e : H p = none) : Ev H' H (put H' p o') (upd H p o) := fun a u q n => by
  have na := ne_of_none q e
  exact ⟨by rw [upd_ne na]; exact q, by rw [put_ne na]; exact n⟩
theorem HR.wr {H' : PHp} {H : Hp} {p : Addr} {o : HO} {o' u' : PO} (h : HR K H' H) (e : H' p = some u') (new : OAt K (upd H p o) p o') : HR K (put H' p o') (upd H p o) := fun a u q => by
  obtain ⟨v, e1, n1, n2, _⟩ := (h p u' e).some
  by_cases hp : a = p
  · subst hp; rw [put_same] at q; cases q; exact new
  · rw [put_ne hp] at q; exact (h a u q).keep (kp_write e1 n1 n2) (upd_ne hp)
theorem HR.kpw {H' : PHp} {H : Hp} {p : Addr} {o : HO} {u' : PO} (h : HR K H' H) (e : H' p = some u') : Kp H (upd H p o) := by
  obtain ⟨v, e1, n1, n2, _⟩ := (h p u' e).some
  exact kp_write e1 n1 n2
theorem Ev.wr {H' : PHp} {H : Hp} {p : Addr} {o : HO} {o' u' : PO} (e : H' p = some u') : Ev H' H (put H' p o') (upd H p o) := fun a u q n => by
  have na : a ≠ p := by rintro rfl; rw [e] at n; cases n
  exact ⟨by rw [upd_ne na]; exact q, by rw [put_ne na]; exact n⟩
def Sub (A B : PHp) : Prop := ∀ a o, A a = some o → B a = some o
theorem Sub.refl (A : PHp) : Sub A A := fun _ _ h => h
theorem Sub.trans {A B C : PHp} (a : Sub A B) (b : Sub B C) : Sub A C := fun c o h => b c o (a c o h)
theorem Sub.put {A B : PHp} {p : Addr} {o : PO} (a : Sub A B) (n : A p = none) : Sub A (put B p o) := fun c u h => by rw [put_ne (ne_none h n)]; exact a c u h
theorem Sub.free {A B : PHp} (a : Sub A B) {p : Addr} (n : B p = none) : A p = none := by
  cases q : A p with
  | none => rfl
  | some o => rw [a p o q] at n; cases n
theorem HR.sub {A B : PHp} {H : Hp} (h : HR K B H) (s : Sub A B) : HR K A H := fun a o e => h a o (s a o e)
theorem Ev.sub {H' : PHp} {H : Hp} {A B : PHp} {H1 : Hp} (e : Ev H' H B H1) (s : Sub A B) : Ev H' H A H1 := fun a o q n => by
  obtain ⟨x, y⟩ := e a o q n
  exact ⟨x, s.free y⟩
end
end U


set_option linter.all false
set_option maxRecDepth 100000
set_option maxHeartbeats 4000000
namespace U
open PySem PySem.Spec PyProof.Rows L2
variable {B : Bs}
abbrev VK' := PV → PHp → Prop
abbrev TE' := St' → PHp → VK' → Prop
abbrev TT' := St' → PHp → (Bool → PHp → Prop) → Prop
abbrev TA' := St' → PHp → (List PV → PHp → Prop) → Prop
abbrev XK' := Value → Option Addr → PHp → Prop
structure Ends' where
  nx : St' → PHp → Prop
  rt : VK'
  bk : St' → PHp → Prop := fun _ _ => False
  ct : St' → PHp → Prop := fun _ _ => False
abbrev TS' := Ends' → St' → PHp → Prop
abbrev TG' := PV → St' → PHp → (St' → PHp → Prop) → Prop
abbrev TGs' := List PV → St' → PHp → (St' → PHp → Prop) → Prop
structure It' where
  items : List PV
  ok : PHp → Prop
abbrev TI' := St' → PHp → (It' → PHp → Prop) → Prop
section
variable (K : PySem.W.Frag) (B : Bs)
def low (t : TE') : TE := fun σ H Q => ∃ σ' H' Q', SR K B σ' H' σ H ∧ t σ' H' Q' ∧ ∀ v' H1' v H1, Q' v' H1' → RP K H1 v' v → SR K B σ' H1' σ H1 → Ev H' H H1' H1 → Q v H1
def lowT (t : TT') : TT := fun σ H Q => ∃ σ' H' Q', SR K B σ' H' σ H ∧ t σ' H' Q' ∧ ∀ b H1' H1, Q' b H1' → SR K B σ' H1' σ H1 → Ev H' H H1' H1 → Q b H1
def lowA (t : TA') : TA := fun σ H Q => ∃ σ' H' Q', SR K B σ' H' σ H ∧ t σ' H' Q' ∧ ∀ vs' H1' vs H1, Q' vs' H1' → RPs K H1 vs' vs → SR K B σ' H1' σ H1 → Ev H' H H1' H1 → Q vs H1
structure DR (D' : Ends') (D : Ends) (H' : PHp) (H : Hp) : Prop where
  nx : ∀ σ1' H1' σ1 H1, D'.nx σ1' H1' → SR K B σ1' H1' σ1 H1 → Ev H' H H1' H1 → D.nx σ1 H1
  rt : ∀ v' H1' v H1, D'.rt v' H1' → RP K H1 v' v → HR K H1' H1 → Ev H' H H1' H1 → D.rt v H1
  bk : ∀ σ1' H1' σ1 H1, D'.bk σ1' H1' → SR K B σ1' H1' σ1 H1 → Ev H' H H1' H1 → D.bk σ1 H1
  ct : ∀ σ1' H1' σ1 H1, D'.ct σ1' H1' → SR K B σ1' H1' σ1 H1 → Ev H' H H1' H1 → D.ct σ1 H1
theorem DR.ev {D' : Ends'} {D : Ends} {H' : PHp} {H : Hp} {H1' : PHp} {H1 : Hp} (d : DR K B D' D H' H) (e : Ev H' H H1' H1) : DR K B D' D H1' H1 :=
  ⟨fun a b c f p q r => d.nx a b c f p q (e.trans r), fun a b c f p q r s => d.rt a b c f p q r (e.trans s), fun a b c f p q r => d.bk a b c f p q (e.trans r), fun a b c f p q r => d.ct a b c f p q (e.trans r)⟩
def lowS (t : TS') : TS := fun D σ H => ∃ σ' H' D', SR K B σ' H' σ H ∧ t D' σ' H' ∧ DR K B D' D H' H
def lowG (t : TG') : TG := fun v σ H Q => ∃ v' σ' H' Q', RP K H v' v ∧ SR K B σ' H' σ H ∧ t v' σ' H' Q' ∧ ∀ σ1' H1' σ1 H1, Q' σ1' H1' → SR K B σ1' H1' σ1 H1 → Ev H' H H1' H1 → Q σ1 H1
def lowGs (t : TGs') : TGs := fun vs σ H Q => ∃ vs' σ' H' Q', RPs K H vs' vs ∧ SR K B σ' H' σ H ∧ t vs' σ' H' Q' ∧ ∀ σ1' H1' σ1 H1, Q' σ1' H1' → SR K B σ1' H1' σ1 H1 → Ev H' H H1' H1 → Q σ1 H1
structure Walks (H1 : Hp) (J : It) (J' : It') : Prop where
  go : ∀ H' H i, Kp H1 H → HR K H' H → J'.ok H' → i < J'.items.length → J.go i H
  yld : ∀ H' H i x H2, Kp H1 H → HR K H' H → J'.ok H' → J.yld i H x H2 → H2 = H ∧ ∀ x', J'.items[i]? = some x' → RP K H x' x
  stop : ∀ H' H i, Kp H1 H → HR K H' H → J'.ok H' → J'.items.length ≤ i → J.stop i H
def lowI (t : TI') : TI := fun σ H R => ∃ σ' H' R', SR K B σ' H' σ H ∧ t σ' H' R' ∧ ∀ J' H1' J H1, R' J' H1' → Walks K H1 J J' → SR K B σ' H1' σ H1 → Ev H' H H1' H1 → R J H1
end
section
variable {X : Cx}
theorem pe_imp {e : Expr} {t1 t2 : TE} (h : PE X e t2) (i : ∀ σ H Q, t1 σ H Q → t2 σ H Q) : PE X e t1 := fun pins s σ H Q I q => h pins s σ H Q I (i σ H Q q)
theorem pt_imp {e : Expr} {t1 t2 : TT} (h : PT X e t2) (i : ∀ σ H Q, t1 σ H Q → t2 σ H Q) : PT X e t1 := fun pins s σ H Q I q => h pins s σ H Q I (i σ H Q q)
theorem pw_imp {e : Expr} {t1 t2 : TT} (h : PW X e t2) (i : ∀ σ H Q, t1 σ H Q → t2 σ H Q) : PW X e t1 := fun w pins s σ H Q I q => h w pins s σ H Q I (i σ H Q q)
theorem pa_imp {e : List Expr} {t1 t2 : TA} (h : PA X e t2) (i : ∀ σ H Q, t1 σ H Q → t2 σ H Q) : PA X e t1 := fun p pins s σ H Q I q => h p pins s σ H Q I (i σ H Q q)
theorem ps_imp {e : Stmt} {t1 t2 : TS} (h : PS X e t2) (i : ∀ D σ H, t1 D σ H → t2 D σ H) : PS X e t1 := fun pins s σ H D I q => h pins s σ H D I (i D σ H q)
theorem pss_imp {e : List Stmt} {t1 t2 : TS} (h : PSs X e t2) (i : ∀ D σ H, t1 D σ H → t2 D σ H) : PSs X e t1 := fun pins s σ H D I q => h pins s σ H D I (i D σ H q)
theorem pg_imp {e : Expr} {t1 t2 : TG} (h : PG X e t2) (i : ∀ v σ H Q, t1 v σ H Q → t2 v σ H Q) : PG X e t1 := fun pins s σ H v u Q I r q => h pins s σ H v u Q I r (i v σ H Q q)
theorem pgs_imp {e : List Expr} {t1 t2 : TGs} (h : PGs X e t2) (i : ∀ v σ H Q, t1 v σ H Q → t2 v σ H Q) : PGs X e t1 := fun pins s σ H v u Q I r q => h pins s σ H v u Q I r (i v σ H Q q)
theorem pi_imp {tg e : Expr} {t1 t2 : TI} (h : PI X tg e t2) (i : ∀ σ H Q, t1 σ H Q → t2 σ H Q) : PI X tg e t1 := fun pins s σ H Q I q => h pins s σ H Q I (i σ H Q q)
abbrev PE' (X : Cx) (B : Bs) (e : Expr) (t : TE') : Prop := PE X e (low X.K B t)
abbrev PT' (X : Cx) (B : Bs) (e : Expr) (t : TT') : Prop := PT X e (lowT X.K B t)
abbrev PW' (X : Cx) (B : Bs) (e : Expr) (t : TT') : Prop := PW X e (lowT X.K B t)
abbrev PA' (X : Cx) (B : Bs) (e : List Expr) (t : TA') : Prop := PA X e (lowA X.K B t)
abbrev PS' (X : Cx) (B : Bs) (e : Stmt) (t : TS') : Prop := PS X e (lowS X.K B t)
abbrev PSs' (X : Cx) (B : Bs) (e : List Stmt) (t : TS') : Prop := PSs X e (lowS X.K B t)
abbrev PG' (X : Cx) (B : Bs) (e : Expr) (t : TG') : Prop := PG X e (lowG X.K B t)
abbrev PGs' (X : Cx) (B : Bs) (e : List Expr) (t : TGs') : Prop := PGs X e (lowGs X.K B t)
abbrev PI' (X : Cx) (B : Bs) (tg e : Expr) (t : TI') : Prop := PI X tg e (lowI X.K B t)
def withV (o : Option (Option PV)) (k : PV → Prop) : Prop := match o with
  | some (some v) => k v
  | _ => False
theorem withV.ex {o : Option (Option PV)} {k : PV → Prop} (h : withV o k) : ∃ v, o = some (some v) ∧ k v := by
  unfold withV at h; split at h
  · exact ⟨_, rfl, h⟩
  · exact h.elim
def uVar (i : Nat) : TE' := fun σ H Q => withV σ[i]? fun v => Q v H
def uC (v : PV) : TE' := fun _ H Q => Q v H
theorem qv (i : Nat) {x : Str} {pos : Pos} (hN : X.N[i]? = some x := by rfl) (hv : Vis X.env.scope x := by first | exact Or.inl rfl | exact Or.inr (Or.inl rfl) | exact Or.inr (Or.inr rfl)) (hd : (x == ("__debug__" : Str)) = false := by decide)
    (hcd : (x == ("__classdict__" : Str)) = false := by decide) : PE' X B (.Name x pos) (uVar i) := pe_imp (pv i hN hv hd hcd) fun σ H Q ⟨σ', H', Q', s, h, k⟩ => by
  obtain ⟨v', e, q⟩ := h.ex
  obtain ⟨v, a, b⟩ := s.loc i v' e
  exact ⟨v, a, k v' H' v H q b s (Ev.refl _ _)⟩
theorem lowC {K : PySem.W.Frag} {v' : PV} {v : V} (r : ∀ H, RP K H v' v) {σ : L2.St} {H : Hp} {Q : VK} (h : low K B (uC v') σ H Q) : tC v σ H Q := by
  obtain ⟨σ', H', Q', s, h, k⟩ := h
  exact k v' H' v H h (r H) s (Ev.refl _ _)
theorem qe_int {i j pos} : PE' X B (.Constant (.int i) j pos) (uC (.int i)) := pe_imp pe_int fun _ _ _ h => lowC (fun _ => by simp [RP]) h
theorem qe_bl {i j pos} : PE' X B (.Constant (.bool i) j pos) (uC (.bl i)) := pe_imp pe_bl fun _ _ _ h => lowC (fun _ => by simp [RP]) h
theorem qe_str {i j pos} : PE' X B (.Constant (.str i) j pos) (uC (.str i)) := pe_imp pe_str fun _ _ _ h => lowC (fun _ => by simp [RP]) h
theorem qe_non {j pos} : PE' X B (.Constant .none j pos) (uC .non) := pe_imp pe_non fun _ _ _ h => lowC (fun _ => by simp [RP]) h
theorem qe_glob {x : Str} {v' : PV} {v : V} {u : Value} {pos : Pos} (hg : Gl X x) (hm : X.mg x = some u) (r : RelV v u) (r' : ∀ H, RP X.K H v' v) (hd : (x == ("__debug__" : Str)) = false := by decide) : PE' X B (.Name x pos) (uC v') :=
  pe_imp (pe_glob hg hm r hd) fun _ _ _ h => lowC r' h
abbrev R2' := PV → PV → PHp → VK' → Prop
def VR (K : PySem.W.Frag) (B : Bs) (r' : R2') (r : R2) : Prop := ∀ (σ' : St') (σ : L2.St) (H' : PHp) (H : Hp) x' y' x y (Q' : VK') (Q : VK), SR K B σ' H' σ H → RP K H x' x → RP K H y' y → r' x' y' H' Q' →
  (∀ v' H1' v H1, Q' v' H1' → RP K H1 v' v → SR K B σ' H1' σ H1 → Ev H' H H1' H1 → Q v H1) → r x y H Q
def uOp (r : R2') (ta tb : TE') : TE' := fun σ H Q => ta σ H fun x H1 => tb σ H1 fun y H2 => r x y H2 Q
theorem low_op {K : PySem.W.Frag} {r' : R2'} {r : R2} {ta tb : TE'} (v : VR K B r' r) {σ : L2.St} {H : Hp} {Q : VK} (h : low K B (uOp r' ta tb) σ H Q) : tOp r (low K B ta) (low K B tb) σ H Q := by
  obtain ⟨σ', H', Q', s, h, k⟩ := h
  refine ⟨σ', H', _, s, h, fun x' H1' x H1 h1 rx s1 e1 => ⟨σ', H1', _, s1, h1, fun y' H2' y H2 h2 ry s2 e2 => ?_⟩⟩
  exact v σ' σ H2' H2 x' y' x y Q' Q s2 (RP.kp K (e2.kp s1.hp) rx) ry h2 fun v' H3' v H3 q rv s3 e3 => k v' H3' v H3 q rv s3 (e1.trans (e2.trans e3))
variable {a b c : Expr} {ta tb tc : TE'} {pos : Pos}
theorem qe_op {op : Operator} {r' : R2'} {r : R2} (ho : OpR X (binaryOp op) r) (v : VR X.K B r' r) (ha : PE' X B a ta) (hb : PE' X B b tb) : PE' X B (.BinOp a op b pos) (uOp r' ta tb) := pe_imp (pe_op ho ha hb) fun _ _ _ h => low_op v h
theorem qe_cmp {op : CmpOp} {r' : R2'} {r : R2} (ho : OpR X (compareOp op) r) (v : VR X.K B r' r) (ha : PE' X B a ta) (hb : PE' X B b tb) (hm : behindInMarks op b = false) : PE' X B (.Compare a [op] [b] pos) (uOp r' ta tb) :=
  pe_imp (pe_cmpR ho ha hb hm) fun _ _ _ h => low_op v h
def cif (b : Bool) (A B : Prop) : Prop := match b with
  | true => A
  | false => B
theorem cif_t {A B : Prop} : cif true A B = A := rfl
theorem cif_f {A B : Prop} : cif false A B = B := rfl
theorem cif_by {b : Bool} {A B : Prop} (h1 : b = true → A) (h2 : b = false → B) : cif b A B := by
  cases b
  · exact h2 rfl
  · exact h1 rfl
theorem cif_pos {b : Bool} {A B : Prop} (h : b = true) (h1 : A) : cif b A B := by subst h; exact h1
theorem cif_neg {b : Bool} {A B : Prop} (h : b = false) (h1 : B) : cif b A B := by subst h; exact h1
def withB (x : PV) (k : Bool → Prop) : Prop := match x with
  | .bl b => k b
  | _ => False
theorem withB.ex {x : PV} {k : Bool → Prop} (h : withB x k) : ∃ v, x = .bl v ∧ k v := by
  unfold withB at h; split at h
  · exact ⟨_, rfl, h⟩
  · exact h.elim
def withI (x : PV) (k : Int → Prop) : Prop := match x with
  | .int i => k i
  | _ => False
theorem withI.ex {x : PV} {k : Int → Prop} (h : withI x k) : ∃ v, x = .int v ∧ k v := by
  unfold withI at h; split at h
  · exact ⟨_, rfl, h⟩
  · exact h.elim
def uTest (t : TE') : TT' := fun σ H Q => t σ H fun x H1 => withB x fun b => Q b H1
theorem low_test {K : PySem.W.Frag} {t : TE'} {σ : L2.St} {H : Hp} {Q : Bool → Hp → Prop} (h : lowT K B (uTest t) σ H Q) : tTest (low K B t) σ H Q := by
  obtain ⟨σ', H', Q', s, h, k⟩ := h
  refine ⟨σ', H', _, s, h, fun x' H1' x H1 h1 rx s1 e1 => ?_⟩
  obtain ⟨b, rfl, q⟩ := h1.ex
  simp only [RP] at rx
  exact ⟨b, rx, k b H1' H1 q s1 e1⟩
theorem qt_val {e : Expr} {t : TE'} (h : PE' X B e t) (he : ∀ whole, isTrue e X.env whole = (do let v ← whole; standAt e.pos; holding [v] (truthy v)) := by intro _; rfl) : PT' X B e (uTest t) := pt_imp (pt_val h he) fun _ _ _ h => low_test h
theorem qt_cmp {op : CmpOp} {r' : R2'} {r : R2} (ho : OpR X (compareOp op) r) (v : VR X.K B r' r) (ha : PE' X B a ta) (hb : PE' X B b tb) (hm : behindInMarks op b = false) : PT' X B (.Compare a [op] [b] pos) (uTest (uOp r' ta tb)) :=
  pt_imp (pt_cmpR ho ha hb hm) fun _ _ _ h => by
    obtain ⟨σ', H', Q', s, h, k⟩ := low_test h
    exact low_op v ⟨σ', H', Q', s, h, k⟩
def uChain (r r' : R2') (ta tb tc : TE') : TE' := fun σ H Q => ta σ H fun x H1 => tb σ H1 fun y H2 => r x y H2 fun z H3 => withB z fun k => cif k (tc σ H3 fun w' H4 => r' y w' H4 Q) (Q (.bl false) H3)
def uI (C : Int → Int → Prop) (g : Int → Int → PV) : R2' := fun x y H Q => withI x fun i => withI y fun j => C i j ∧ Q (g i j) H
def uI0 (g : Int → Int → PV) : R2' := fun x y H Q => withI x fun i => withI y fun j => Q (g i j) H
theorem vr_I {K : PySem.W.Frag} {C : Int → Int → Prop} {g' : Int → Int → PV} {g : Int → Int → V} (r : ∀ i j H, RP K H (g' i j) (g i j)) : VR K B (uI C g') (rI C g) := by
  intro σ' σ H' H x' y' x y Q' Q s rx ry h k
  obtain ⟨i, rfl, h1⟩ := withI.ex h
  obtain ⟨j, rfl, hc, h⟩ := withI.ex h1
  simp only [RP] at rx ry
  exact ⟨i, j, rx, ry, hc, k _ H' _ H h (r i j H) s (Ev.refl _ _)⟩
theorem vr_I0 {K : PySem.W.Frag} {g' : Int → Int → PV} {g : Int → Int → V} (r : ∀ i j H, RP K H (g' i j) (g i j)) : VR K B (uI0 g') (rI0 g) := by
  intro σ' σ H' H x' y' x y Q' Q s rx ry h k
  obtain ⟨i, rfl, h1⟩ := withI.ex h
  obtain ⟨j, rfl, h⟩ := withI.ex h1
  simp only [RP] at rx ry
  exact ⟨i, j, rx, ry, k _ H' _ H h (r i j H) s (Ev.refl _ _)⟩
abbrev uAdd : R2' := uI0 fun i j => .int (i + j)
abbrev uSub : R2' := uI0 fun i j => .int (i - j)
abbrev uLt : R2' := uI0 fun i j => .bl (decide (i < j))
abbrev uGt : R2' := uI0 fun i j => .bl (decide (j < i))
def Fit (i : Int) : Prop := i.natAbs.log2 < 9000
def CMulN (i j : Int) : Prop := CMul i j ∨ (Fit i ∧ Fit j)
def CDivB (i j : Int) : Prop := j ≠ 0 ∧ Fit j
theorem CMulN.ok {i j : Int} (h : CMulN i j) : IntMulOk i j := by
  rcases h with h | ⟨h1, h2⟩
  · exact h.ok
  · unfold IntMulOk
    have e : ∀ x : Int, Fit x → Builtin.Int.intBits x ≤ 9000 := fun x hx => by
      unfold Builtin.Int.intBits Fit at *
      split <;> omega
    have e1 := e i h1
    have e2 := e j h2
    have e3 : Builtin.Int.intTooBig (Builtin.Int.intBits i + Builtin.Int.intBits j) = false := by
      unfold Builtin.Int.intTooBig
      refine decide_eq_false ?_
      show ¬ (bitsLine : Int) < _
      have hb : (18000 : Nat) ≤ bitsLine := by decide +kernel
      omega
    rw [e3]
    simp
abbrev uMul : R2' := uI CMulN fun i j => .int (i * j)
abbrev uFdiv : R2' := uI CDivB fun i j => .int (i.fdiv j)
theorem op_mulB {X : Cx} : OpR X (binaryOp .Mult) (rI CMulN fun i j => .int (i * j)) := opI fun _ _ _ _ _ _ _ hc q => mul_int q hc.ok
theorem op_fdivB {X : Cx} : OpR X (binaryOp .FloorDiv) (rI CDivB fun i j => .int (i.fdiv j)) := opI fun _ _ _ _ _ _ _ hc q => floordiv_int hc.1 q (.inl (PyProof.noPylong_of_log2 hc.2))
abbrev uMod : R2' := uI (fun _ j => j ≠ 0) fun i j => .int (i.fmod j)
theorem qe_add (ha : PE' X B a ta) (hb : PE' X B b tb) : PE' X B (.BinOp a .Add b pos) (uOp uAdd ta tb) := qe_op op_add (vr_I0 fun _ _ _ => by simp [RP]) ha hb
theorem qe_sub (ha : PE' X B a ta) (hb : PE' X B b tb) : PE' X B (.BinOp a .Sub b pos) (uOp uSub ta tb) := qe_op op_sub (vr_I0 fun _ _ _ => by simp [RP]) ha hb
theorem qe_mul (ha : PE' X B a ta) (hb : PE' X B b tb) : PE' X B (.BinOp a .Mult b pos) (uOp uMul ta tb) := qe_op op_mulB (vr_I fun _ _ _ => by simp [RP]) ha hb
theorem qe_fdiv (ha : PE' X B a ta) (hb : PE' X B b tb) : PE' X B (.BinOp a .FloorDiv b pos) (uOp uFdiv ta tb) := qe_op op_fdivB (vr_I fun _ _ _ => by simp [RP]) ha hb
theorem qe_mod (ha : PE' X B a ta) (hb : PE' X B b tb) : PE' X B (.BinOp a .Mod b pos) (uOp uMod ta tb) := qe_op op_modN (vr_I fun _ _ _ => by simp [RP]) ha hb
theorem vr_lt {K : PySem.W.Frag} : VR K B uLt (rI0 fun i j => .bl (decide (i < j))) := vr_I0 fun _ _ _ => by simp [RP]
theorem vr_gt {K : PySem.W.Frag} : VR K B uGt (rI0 fun i j => .bl (decide (j < i))) := vr_I0 fun _ _ _ => by simp [RP]
end
end U


set_option linter.all false
set_option maxRecDepth 100000
set_option maxHeartbeats 4000000
namespace U
open PySem PySem.Spec PyProof.Rows L2
variable {B : Bs}
section
variable {X : Cx} {a b c e o : Expr} {es rest : List Expr} {ta tb tc : TE'} {tA tB : TT'} {t : TA'} {pos : Pos}
def uAnd (t u : TT') : TT' := fun σ H Q => t σ H fun c H1 => cif c (u σ H1 Q) (Q false H1)
def uOr (t u : TT') : TT' := fun σ H Q => t σ H fun c H1 => cif c (Q true H1) (u σ H1 Q)
def uNot (t : TT') : TT' := fun σ H Q => t σ H fun c H1 => Q (!c) H1
theorem qw_and1 (ha : PT' X B a tA) : PW' X B (.BoolOp .And [a] pos) tA := pw_and1 ha
theorem qw_or1 (ha : PT' X B a tA) : PW' X B (.BoolOp .Or [a] pos) tA := pw_or1 ha
theorem qw_and (ha : PT' X B a tA) (hb : PW' X B (.BoolOp .And (b :: rest) pos) tB) : PW' X B (.BoolOp .And (a :: b :: rest) pos) (uAnd tA tB) := pw_imp (pw_and ha hb) fun σ H Q ⟨σ', H', Q', s, h, k⟩ => by
  refine ⟨σ', H', _, s, h, fun x H1' H1 h1 s1 e1 => ?_⟩
  cases x with
  | true => exact iteT ⟨σ', H1', _, s1, h1, fun y H2' H2 h2 s2 e2 => k y H2' H2 h2 s2 (e1.trans e2)⟩
  | false => exact iteF (k false H1' H1 h1 s1 e1)
theorem qw_or (ha : PT' X B a tA) (hb : PW' X B (.BoolOp .Or (b :: rest) pos) tB) : PW' X B (.BoolOp .Or (a :: b :: rest) pos) (uOr tA tB) := pw_imp (pw_or ha hb) fun σ H Q ⟨σ', H', Q', s, h, k⟩ => by
  refine ⟨σ', H', _, s, h, fun x H1' H1 h1 s1 e1 => ?_⟩
  cases x with
  | false => exact iteF ⟨σ', H1', _, s1, h1, fun y H2' H2 h2 s2 e2 => k y H2' H2 h2 s2 (e1.trans e2)⟩
  | true => exact iteT (k true H1' H1 h1 s1 e1)
theorem qt_bool (h : PW' X B e tA) : PT' X B e tA := PW.pt h
theorem qt_not (ha : PT' X B a tA) : PT' X B (.UnaryOp .Not a pos) (uNot tA) := pt_imp (pt_not ha) fun σ H Q ⟨σ', H', Q', s, h, k⟩ => ⟨σ', H', _, s, h, fun x H1' H1 h1 s1 e1 => k _ H1' H1 h1 s1 e1⟩
def uAndV (ta tb : TE') : TE' := fun σ H Q => ta σ H fun x H1 => withB x fun c => cif c (tb σ H1 Q) (Q (.bl false) H1)
def uOrV (ta tb : TE') : TE' := fun σ H Q => ta σ H fun x H1 => withB x fun c => cif c (Q (.bl true) H1) (tb σ H1 Q)
def uNotV (ta : TE') : TE' := fun σ H Q => ta σ H fun x H1 => withB x fun c => Q (.bl (!c)) H1
theorem qe_one {op} (h : PE' X B a ta) : PE' X B (.BoolOp op [a] pos) ta := pe_one h
theorem qe_and (ha : PE' X B a ta) (hb : PE' X B (.BoolOp .And (b :: rest) pos) tb) : PE' X B (.BoolOp .And (a :: b :: rest) pos) (uAndV ta tb) := pe_imp (pe_and ha hb) fun σ H Q ⟨σ', H', Q', s, h, k⟩ => by
  refine ⟨σ', H', _, s, h, fun x H1' v H1 h1 r1 s1 e1 => ?_⟩
  obtain ⟨y, rfl, h1⟩ := h1.ex
  simp only [RP] at r1
  refine ⟨y, r1, ?_⟩
  cases y with
  | true => exact iteT ⟨σ', H1', _, s1, h1, fun y H2' v2 H2 h2 r2 s2 e2 => k y H2' v2 H2 h2 r2 s2 (e1.trans e2)⟩
  | false => exact iteF (k _ H1' _ H1 h1 (by simp [RP]) s1 e1)
theorem qe_not (ha : PE' X B a ta) : PE' X B (.UnaryOp .Not a pos) (uNotV ta) := pe_imp (pe_not ha) fun σ H Q ⟨σ', H', Q', s, h, k⟩ => by
  refine ⟨σ', H', _, s, h, fun x H1' v H1 h1 r1 s1 e1 => ?_⟩
  obtain ⟨y, rfl, h1⟩ := h1.ex
  simp only [RP] at r1
  exact ⟨y, r1, k _ H1' _ H1 h1 (by simp [RP]) s1 e1⟩
def uIf (t : TT') (ta tb : TE') : TE' := fun σ H Q => t σ H fun c H1 => cif c (ta σ H1 Q) (tb σ H1 Q)
theorem qe_ifExp (hc : PT' X B c tA) (ha : PE' X B a ta) (hb : PE' X B b tb) : PE' X B (.IfExp c a b pos) (uIf tA ta tb) := pe_imp (pe_ifExp hc ha hb) fun σ H Q ⟨σ', H', Q', s, h, k⟩ => by
  refine ⟨σ', H', _, s, h, fun x H1' H1 h1 s1 e1 => ?_⟩
  cases x with
  | true => exact iteT ⟨σ', H1', _, s1, h1, fun y H2' v2 H2 h2 r2 s2 e2 => k y H2' v2 H2 h2 r2 s2 (e1.trans e2)⟩
  | false => exact iteF ⟨σ', H1', _, s1, h1, fun y H2' v2 H2 h2 r2 s2 e2 => k y H2' v2 H2 h2 r2 s2 (e1.trans e2)⟩
def uUn (r : PV → PHp → VK' → Prop) (ta : TE') : TE' := fun σ H Q => ta σ H fun x H1 => r x H1 Q
theorem qe_neg (ha : PE' X B a ta) : PE' X B (.UnaryOp .USub a pos) (uUn (fun x H Q => withI x fun i => Q (.int (-i)) H) ta) := pe_imp (pe_un un_neg ha) fun σ H Q ⟨σ', H', Q', s, h, k⟩ => by
  refine ⟨σ', H', _, s, h, fun x H1' v H1 h1 r1 s1 e1 => ?_⟩
  obtain ⟨i, rfl, h1⟩ := withI.ex h1
  simp only [RP] at r1
  exact ⟨i, r1, k _ H1' _ H1 h1 (by simp [RP]) s1 e1⟩
def uNil : TA' := fun _ H Q => Q [] H
def uCons (ta : TE') (tr : TA') : TA' := fun σ H Q => ta σ H fun x H1 => tr σ H1 fun xs H2 => Q (x :: xs) H2
theorem qa_nil : PA' X B [] uNil := pa_imp pa_nil fun σ H Q ⟨σ', H', Q', s, h, k⟩ => k [] H' [] H h (RPs.nil _) s (Ev.refl _ _)
theorem qa_cons (ha : PE' X B e ta) (hr : PA' X B es t) (hs : starEach (e :: es) X.env = (false, eval e X.env) :: starEach es X.env := by rfl) : PA' X B (e :: es) (uCons ta t) := pa_imp (pa_cons ha hr hs) fun σ H Q ⟨σ', H', Q', s, h, k⟩ => by
  refine ⟨σ', H', _, s, h, fun x H1' v H1 h1 r1 s1 e1 => ⟨σ', H1', _, s1, h1, fun xs H2' vs H2 h2 r2 s2 e2 => ?_⟩⟩
  exact k _ H2' _ H2 h2 (RPs.cons _ (RP.kp _ (e2.kp s1.hp) r1) r2) s2 (e1.trans e2)
def uTup (t : TA') : TE' := fun σ H Q => t σ H fun xs H1 => xs.length ≤ sizeLine ∧ Q (.tup xs) H1
def uLst (t : TA') : TE' := fun σ H Q => t σ H fun xs H1 => xs.length ≤ sizeLine ∧ ∀ p, H1 p = none → Q (.ref p) (put H1 p (.lst xs))
theorem SR.hid {K : PySem.W.Frag} {σ' : St'} {σ : L2.St} {H' : PHp} {H : Hp} {p : Addr} {o : HO} (s : SR K B σ' H' σ H) (n : H p = none) : SR K B σ' H' σ (upd H p o) := s.kp (Ev.hid n) (s.hp.hid n)
theorem SR.new {K : PySem.W.Frag} {σ' : St'} {σ : L2.St} {H' : PHp} {H : Hp} {p : Addr} {o : HO} {o' : PO} (s : SR K B σ' H' σ H) (n : H p = none) (w : OAt K (upd H p o) p o') : SR K B σ' (put H' p o') σ (upd H p o) := s.kp (Ev.new n) (s.hp.new n w)
theorem SR.wr {K : PySem.W.Frag} {σ' : St'} {σ : L2.St} {H' : PHp} {H : Hp} {p : Addr} {o : HO} {o' u' : PO} (s : SR K B σ' H' σ H) (n : H' p = some u') (w : OAt K (upd H p o) p o') : SR K B σ' (put H' p o') σ (upd H p o) := s.kp (Ev.wr n) (s.hp.wr n w)
theorem newT {K : PySem.W.Frag} {H : Hp} {p : Addr} {xs : List PV} {us : List V} (n : H p = none) (r : RPs K H xs us) : RP K (upd H p (.tup us)) (.tup xs) (.ref p) := by
  simp only [RP]
  exact ⟨p, us, rfl, SqT.of upd_same, RPs.kp K (kp_fresh n) r⟩
theorem newL {K : PySem.W.Frag} {H : Hp} {p : Addr} {xs : List PV} {us : List V} (n : H p = none) (r : RPs K H xs us) : OAt K (upd H p (.lst us)) p (.lst xs) := ⟨us, upd_same, RPs.kp K (kp_fresh n) r⟩
theorem wrL {K : PySem.W.Frag} {H' : PHp} {H : Hp} {p : Addr} {u' : PO} {xs : List PV} {us : List V} (h : HR K H' H) (n : H' p = some u') (r : RPs K H xs us) : OAt K (upd H p (.lst us)) p (.lst xs) := ⟨us, upd_same, RPs.kp K (h.kpw n) r⟩
theorem qe_tup {x1} (h : PA' X B es t) : PE' X B (.Tuple es x1 pos) (uTup t) := pe_imp (pe_tup h) fun σ H Q ⟨σ', H', Q', s, h, k⟩ => by
  refine ⟨σ', H', _, s, h, fun xs H1' us H1 h1 r1 s1 e1 => ⟨by rw [RPs.length _ r1]; exact h1.1, fun p n => ?_⟩⟩
  exact k _ H1' _ _ h1.2 (newT n r1) (s1.hid n) (e1.trans (Ev.hid n))
theorem qe_lst (h : PA' X B es t) : PE' X B (.List es pos) (uLst t) := pe_imp (pe_lst h) fun σ H Q ⟨σ', H', Q', s, h, k⟩ => by
  refine ⟨σ', H', _, s, h, fun xs H1' us H1 h1 r1 s1 e1 => ⟨by rw [RPs.length _ r1]; exact h1.1, fun p n => ?_⟩⟩
  exact k _ _ _ _ (h1.2 p (s1.hp.free n)) (by simp [RP]) (s1.new n (newL n r1)) (e1.trans (Ev.new n))
def withS (x : PV) (H : PHp) (k : List PV → Prop) : Prop := match x with
  | .tup l => k l
  | .fls l => k l
  | .ref a => ∃ l, H a = some (.lst l) ∧ k l
  | _ => False
theorem withS.ex {K : PySem.W.Frag} {σ' : St'} {σ : L2.St} {x : PV} {v : V} {H' : PHp} {H : Hp} {k : List PV → Prop} (h : withS x H' k) (s : SR K B σ' H' σ H) (r : RP K H x v) : ∃ l us p, v = .ref p ∧ RPs K H l us ∧ (SqL K H p us ∨ SqT K H p us) ∧ k l := by
  unfold withS at h
  split at h
  · simp only [RP] at r; obtain ⟨a, us, e, q, r⟩ := r; exact ⟨_, us, a, e, r, .inr q, h⟩
  · simp only [RP] at r; obtain ⟨a, us, e, q, r⟩ := r; exact ⟨_, us, a, e, r, .inl q.sq, h⟩
  · simp only [RP] at r
    obtain ⟨l, e, h⟩ := h
    obtain ⟨us, q, r2⟩ := s.hp _ _ e
    exact ⟨l, us, _, r, r2, .inl (SqL.of q), h⟩
  · exact h.elim
theorem atI_ps {K : PySem.W.Frag} {H : Hp} {l : List PV} {us : List V} {i : Int} {x : PV} (r : RPs K H l us) (e : atI l i = some x) : ∃ u, atI us i = some u ∧ RP K H x u := by
  unfold atI at e ⊢
  rw [RPs.length _ r]
  cases q : ixN l.length i with
  | none => rw [q] at e; cases e
  | some j =>
    rw [q] at e
    obtain ⟨u, e1, e2⟩ := RPs.get _ r (show l[j]? = some x from e)
    exact ⟨u, e1, e2⟩
def withO (o : Option PV) (k : PV → Prop) : Prop := match o with
  | some v => k v
  | none => False
theorem withO.ex {o : Option PV} {k : PV → Prop} (h : withO o k) : ∃ v, o = some v ∧ k v := by
  unfold withO at h; split at h
  · exact ⟨_, rfl, h⟩
  · exact h.elim
def uIx : R2' := fun x y H Q => withS x H fun l => withI y fun i => withO (atI l i) fun v => Q v H
theorem ix_both {X : Cx} : IxR X (fun x y H Q => rIxL X.K x y H Q ∨ rIxT X.K x y H Q) := ix_list.or ix_tup
theorem vr_ix {K : PySem.W.Frag} : VR K B uIx (fun x y H Q => rIxL K x y H Q ∨ rIxT K x y H Q) := by
  intro σ' σ H' H x' y' x y Q' Q s rx ry h k
  obtain ⟨l, us, p, rfl, r, q, h1⟩ := withS.ex h s rx
  obtain ⟨i, rfl, h2⟩ := withI.ex h1
  obtain ⟨v, e, h3⟩ := withO.ex h2
  simp only [RP] at ry
  obtain ⟨u, e1, e2⟩ := atI_ps r e
  have := k v H' u H h3 e2 s (Ev.refl _ _)
  rcases q with q | q
  · exact .inl ⟨p, us, i, u, rfl, ry, q, e1, this⟩
  · exact .inr ⟨p, us, i, u, rfl, ry, q, e1, this⟩
theorem qe_ix (ha : PE' X B a ta) (hb : PE' X B b tb) (hs : PlainIx b) : PE' X B (.Subscript a b pos) (uOp uIx ta tb) := pe_imp (pe_ix ix_both ha hb hs) fun _ _ _ h => low_op vr_ix h
abbrev TO' := St' → PHp → (Option Int → PHp → Prop) → Prop
def lowO (K : PySem.W.Frag) (B : Bs) (t : TO') : TO := fun σ H Q => ∃ σ' H' Q', SR K B σ' H' σ H ∧ t σ' H' Q' ∧ ∀ b H1' H1, Q' b H1' → SR K B σ' H1' σ H1 → Ev H' H H1' H1 → Q b H1
abbrev PO' (X : Cx) (B : Bs) (e : Option Expr) (t : TO') : Prop := L2.PO X e (lowO X.K B t)
theorem po_imp {e : Option Expr} {t1 t2 : TO} (h : L2.PO X e t2) (i : ∀ σ H Q, t1 σ H Q → t2 σ H Q) : L2.PO X e t1 := fun pins s σ H Q I q => h pins s σ H Q I (i σ H Q q)
def uNoPart : TO' := fun _ H Q => Q none H
def uPart (t : TE') : TO' := fun σ H Q => t σ H fun x H1 => withI x fun i => Q (some i) H1
theorem qo_none : PO' X B none uNoPart := po_imp po_none fun σ H Q ⟨σ', H', Q', s, h, k⟩ => k none H' H h s (Ev.refl _ _)
theorem qo_some (h : PE' X B e ta) : PO' X B (some e) (uPart ta) := po_imp (po_some h) fun σ H Q ⟨σ', H', Q', s, h, k⟩ => by
  refine ⟨σ', H', _, s, h, fun x H1' v H1 h1 r1 s1 e1 => ?_⟩
  obtain ⟨i, rfl, h1⟩ := withI.ex h1
  simp only [RP] at r1
  exact ⟨i, r1, k _ H1' H1 h1 s1 e1⟩
def cutP (xs : List PV) (lo hi : Option Int) : List PV := (xs.drop (HT.sIx xs.length 0 lo)).take (HT.sIx xs.length xs.length hi - HT.sIx xs.length 0 lo)
theorem cut_ps {K : PySem.W.Frag} {H : Hp} {l : List PV} {us : List V} {lo hi : Option Int} (r : RPs K H l us) : RPs K H (cutP l lo hi) (cutV us lo hi) := by
  unfold cutP cutV
  rw [RPs.length _ r]
  exact RPs.take _ _ (RPs.drop _ _ r)
def sliceOf (x : PV) (lo hi : Option Int) (H3 : PHp) (Q : VK') : Prop := match x with
  | .fls l => ∀ p, H3 p = none → Q (.ref p) (put H3 p (.lst (cutP l lo hi)))
  | .ref a => ∃ l, H3 a = some (.lst l) ∧ ∀ p, H3 p = none → Q (.ref p) (put H3 p (.lst (cutP l lo hi)))
  | .tup l => ¬ (HT.sIx l.length 0 lo = 0 ∧ HT.sIx l.length l.length hi = l.length) ∧ Q (.tup (cutP l lo hi)) H3
  | _ => False
def uSlice (ta : TE') (tl th : TO') : TE' := fun σ H Q => ta σ H fun x H1 => tl σ H1 fun lo H2 => th σ H2 fun hi H3 => sliceOf x lo hi H3 Q
theorem qe_slice {lo hi : Option Expr} {tl th : TO'} {p2 : Pos} (he : PE' X B e ta) (hl : PO' X B lo tl) (hu : PO' X B hi th) : PE' X B (.Subscript e (.Slice lo hi none p2) pos) (uSlice ta tl th) :=
  pe_imp (pe_slice (sl_list.or sl_tup) he hl hu) fun σ H Q ⟨σ', H', Q', s, h, k⟩ => by
  refine ⟨σ', H', _, s, h, fun x H1' v H1 h1 r1 s1 e1 => ⟨σ', H1', _, s1, h1, fun l H2' H2 h2 s2 e2 => ⟨σ', H2', _, s2, h2, fun u H3' H3 h3 s3 e3 => ?_⟩⟩⟩
  have r3 := RP.kp _ (e3.kp s2.hp) (RP.kp _ (e2.kp s1.hp) r1)
  have e123 := e1.trans (e2.trans e3)
  cases x with
  | fls xs =>
    simp only [RP] at r3
    obtain ⟨a, us, e, q, r⟩ := r3
    refine .inl ⟨a, us, e, q.sq, fun p n => ?_⟩
    exact k _ _ _ _ (h3 p (s3.hp.free n)) (by simp [RP]) (s3.new n (newL n (cut_ps r))) (e123.trans (Ev.new n))
  | ref a =>
    simp only [RP] at r3
    obtain ⟨xs, q, h3⟩ := h3
    obtain ⟨us, q2, r⟩ := s3.hp _ _ q
    refine .inl ⟨a, us, r3, SqL.of q2, fun p n => ?_⟩
    exact k _ _ _ _ (h3 p (s3.hp.free n)) (by simp [RP]) (s3.new n (newL n (cut_ps r))) (e123.trans (Ev.new n))
  | tup xs =>
    simp only [RP] at r3
    obtain ⟨a, us, e, q, r⟩ := r3
    refine .inr ⟨a, us, e, q, by rw [RPs.length _ r]; exact h3.1, fun p n => ?_⟩
    exact k _ _ _ _ h3.2 (newT n (cut_ps r)) (s3.hid n) (e123.trans (Ev.hid n))
  | _ => exact h3.elim
def VC (K : PySem.W.Frag) (B : Bs) (r' : List PV → PHp → VK' → Prop) (r : List V → Hp → VK → Prop) : Prop := ∀ (σ' : St') (σ : L2.St) (H' : PHp) (H : Hp) xs' xs (Q' : VK') (Q : VK), SR K B σ' H' σ H → RPs K H xs' xs → r' xs' H' Q' →
  (∀ v' H1' v H1, Q' v' H1' → RP K H1 v' v → SR K B σ' H1' σ H1 → Ev H' H H1' H1 → Q v H1) → r xs H Q
def uCB (r : List PV → PHp → VK' → Prop) (t : TA') : TE' := fun σ H Q => t σ H fun vs H1 => r vs H1 Q
theorem low_cb {K : PySem.W.Frag} {r' : List PV → PHp → VK' → Prop} {r : List V → Hp → VK → Prop} {t : TA'} (v : VC K B r' r) {σ : L2.St} {H : Hp} {Q : VK} (h : low K B (uCB r' t) σ H Q) : tCB r (lowA K B t) σ H Q := by
  obtain ⟨σ', H', Q', s, h, k⟩ := h
  exact ⟨σ', H', _, s, h, fun xs' H1' xs H1 h1 rx s1 e1 => v σ' σ H1' H1 xs' xs Q' Q s1 rx h1 fun v' H3' v H3 q rv s3 e3 => k v' H3' v H3 q rv s3 (e1.trans e3)⟩
variable {x : Str} {p : Pos}
theorem qe_callB {id : String} {r' : List PV → PHp → VK' → Prop} {r : List V → Hp → VK → Prop} (hc : CallR X (.builtin id) r) (v : VC X.K B r' r) (hg : Gl X x) (hm : X.mg x = none) (hv : bootBuiltins x = some (.builtin id)) (ha : PA' X B (e :: es) t)
    (hn : x ≠ "__name__" := by decide) (hdb : (x == ("__debug__" : Str)) = false := by decide) (he : starEach (e :: es) X.env = (false, eval e X.env) :: starEach es X.env := by rfl) (hpl : (backTo pos (starEach es X.env)).any (·.1) = false := by rfl) :
    PE' X B (.Call (.Name x p) (e :: es) [] pos) (uCB r' t) := pe_imp (pe_callB hc hg hm hv ha hn hdb he hpl) fun _ _ _ h => low_cb v h
theorem qe_callTy {id : String} {r' : List PV → PHp → VK' → Prop} {r : List V → Hp → VK → Prop} (hc : CallR X (.type id) r) (v : VC X.K B r' r) (hg : Gl X x) (hm : X.mg x = none) (hv : bootBuiltins x = some (.type id)) (ha : PA' X B (e :: es) t)
    (hn : x ≠ "__name__" := by decide) (hdb : (x == ("__debug__" : Str)) = false := by decide) (he : starEach (e :: es) X.env = (false, eval e X.env) :: starEach es X.env := by rfl) (hpl : (backTo pos (starEach es X.env)).any (·.1) = false := by rfl) :
    PE' X B (.Call (.Name x p) (e :: es) [] pos) (uCB r' t) := pe_imp (pe_callTy hc hg hm hv ha hn hdb he hpl) fun _ _ _ h => low_cb v h
def arg1 (f : PV → PHp → VK' → Prop) : List PV → PHp → VK' → Prop := fun xs H Q => match xs with
  | [x] => f x H Q
  | _ => False
theorem arg1.ex {K : PySem.W.Frag} {H : Hp} {f : PV → PHp → VK' → Prop} {xs' : List PV} {xs : List V} {H' : PHp} {Q' : VK'} (h : arg1 f xs' H' Q') (r : RPs K H xs' xs) : ∃ x' x, xs' = [x'] ∧ xs = [x] ∧ RP K H x' x ∧ f x' H' Q' := by
  unfold arg1 at h
  split at h
  · simp only [RPs] at r
    obtain ⟨u, r, rfl, q, rfl⟩ := r
    exact ⟨_, u, rfl, rfl, q, h⟩
  · exact h.elim
def uLen : List PV → PHp → VK' → Prop := arg1 fun x H Q => withS x H fun l => Q (.int l.length) H
theorem vc_len {K : PySem.W.Frag} : VC K B uLen (fun xs H Q => ∃ p ys, xs = [.ref p] ∧ (SqL K H p ys ∨ SqT K H p ys) ∧ Q (.int ys.length) H) := by
  intro σ' σ H' H xs' xs Q' Q s r h k
  obtain ⟨x', x, rfl, rfl, rx, h⟩ := arg1.ex h r
  obtain ⟨l, us, p, rfl, r, q, h⟩ := withS.ex h s rx
  exact ⟨p, us, rfl, q, k _ H' _ H h (by simp [RP, RPs.length _ r]) s (Ev.refl _ _)⟩
def uAbs : List PV → PHp → VK' → Prop := arg1 fun x H Q => withI x fun i => Q (.int (if i < 0 then -i else i)) H
def b2n (b : Bool) : Int := if b then 1 else 0
def intOf (x : PV) (k : Int → Prop) : Prop := match x with
  | .int i => k i
  | .bl b => k (b2n b)
  | _ => False
def uInt : List PV → PHp → VK' → Prop := arg1 fun x H Q => intOf x fun i => Q (.int i) H
theorem vc_int {K : PySem.W.Frag} : VC K B uInt (fun xs H Q => (∃ i, xs = [.int i] ∧ Q (.int i) H) ∨ ∃ k, xs = [.bl k] ∧ Q (.int (if k then 1 else 0)) H) := by
  intro σ' σ H' H xs' xs Q' Q s r h k
  obtain ⟨x', x, rfl, rfl, rx, h⟩ := arg1.ex h r
  cases x' with
  | int i => simp only [RP] at rx; subst rx; exact .inl ⟨i, rfl, k _ H' _ H h (by simp [RP]) s (Ev.refl _ _)⟩
  | bl i => simp only [RP] at rx; subst rx; exact .inr ⟨i, rfl, k _ H' _ H h (by simp [RP, b2n]) s (Ev.refl _ _)⟩
  | _ => exact h.elim
def uList : List PV → PHp → VK' → Prop := arg1 fun x H Q => withS x H fun l => ∀ p, H p = none → Q (.ref p) (put H p (.lst l))
def uTuple : List PV → PHp → VK' → Prop := arg1 fun x H Q => withS x H fun l => Q (.tup l) H
theorem vc_tuple {K : PySem.W.Frag} : VC K B uTuple (fun xs H Q => ∃ p ys, xs = [.ref p] ∧ ((SqL K H p ys ∧ ∀ l, H l = none → Q (.ref l) (upd H l (.tup ys))) ∨ (SqT K H p ys ∧ Q (.ref p) H))) := by
  intro σ' σ H' H xs' xs Q' Q s r h k
  obtain ⟨x', x, rfl, rfl, rx, h⟩ := arg1.ex h r
  obtain ⟨l, us, p, rfl, r, q, h⟩ := withS.ex h s rx
  refine ⟨p, us, rfl, ?_⟩
  rcases q with q | q
  · exact .inl ⟨q, fun p n => k _ _ _ _ h (newT n r) (s.hid n) (Ev.hid n)⟩
  · exact .inr ⟨q, k _ _ _ _ h (by simp only [RP]; exact ⟨p, us, rfl, q, r⟩) s (Ev.refl _ _)⟩
end
end U


set_option linter.all false
set_option maxRecDepth 100000
set_option maxHeartbeats 4000000
namespace U
open PySem PySem.Spec PyProof.Rows L2
variable {B : Bs}
section
variable {X : Cx} {a b c e o : Expr} {es : List Expr} {ta tb te : TE'} {tA tB : TT'} {st : Stmt} {sts : List Stmt} {t u : TS'} {pos : Pos}
def uNext : TS' := fun D σ H => D.nx σ H
def uSeq (t u : TS') : TS' := fun D σ H => t { D with nx := u D } σ H
theorem qss_nil : PSs' X B [] uNext := pss_imp pss_nil fun D σ H ⟨σ', H', D', s, h, d⟩ => d.nx _ _ _ _ h s (Ev.refl _ _)
theorem qss_cons (h1 : PS' X B st t) (h2 : PSs' X B sts u) : PSs' X B (st :: sts) (uSeq t u) := pss_imp (pss_cons h1 h2) fun D σ H ⟨σ', H', D', s, h, d⟩ =>
  ⟨σ', H', _, s, h, fun σ1' H1' σ1 H1 h1 s1 e1 => ⟨σ1', H1', D', s1, h1, d.ev _ _ e1⟩, d.rt, d.bk, d.ct⟩
theorem qss_one (h1 : PS' X B st t) : PSs' X B [st] t := pss_one h1
def uBreak : TS' := fun D σ H => D.bk σ H
def uCont : TS' := fun D σ H => D.ct σ H
def uDrop (te : TE') : TS' := fun D σ H => te σ H fun _ H1 => D.nx σ H1
theorem qs_expr (he : PE' X B e te) (hs : swapsWith e none pos.line X.env = pure false := by rfl) : PS' X B (.Expr e pos) (uDrop te) := ps_imp (ps_expr he hs) fun D σ H ⟨σ', H', D', s, h, d⟩ =>
  ⟨σ', H', _, s, h, fun v' H1' v H1 h1 r1 s1 e1 => d.nx _ _ _ _ h1 s1 e1⟩
def uRet (te : TE') : TS' := fun D σ H => te σ H D.rt
theorem qs_ret (he : PE' X B e te) : PS' X B (.Return (some e) pos) (uRet te) := ps_imp (ps_ret he) fun D σ H ⟨σ', H', D', s, h, d⟩ =>
  ⟨σ', H', _, s, h, fun v' H1' v H1 h1 r1 s1 e1 => d.rt _ _ _ _ h1 r1 s1.hp e1⟩
def uRetN : TS' := fun D _ H => D.rt .non H
def uIfS (c : TT') (t u : TS') : TS' := fun D σ H => c σ H fun b H1 => cif b (t D σ H1) (u D σ H1)
theorem qs_if {l1 l2 : List Stmt} (hc : PT' X B c tA) (ha : PSs' X B l1 t) (hb : PSs' X B l2 u) : PS' X B (.If c l1 l2 pos) (uIfS tA t u) := ps_imp (ps_if hc ha hb) fun D σ H ⟨σ', H', D', s, h, d⟩ => by
  refine ⟨σ', H', _, s, h, fun x H1' H1 h1 s1 e1 => ?_⟩
  cases x with
  | true => exact iteT ⟨σ', H1', D', s1, h1, d.ev _ _ e1⟩
  | false => exact iteF ⟨σ', H1', D', s1, h1, d.ev _ _ e1⟩
def uNever : TS' := fun _ _ _ => False
theorem qss_never : PSs' X B sts uNever := fun _ _ _ _ _ _ ⟨_, _, _, _, h, _⟩ => h.elim
def vName (i : Nat) : TG' := fun v σ H Q => Q (σ.set i (some v)) H
theorem SR.set {K : PySem.W.Frag} {σ' : St'} {H' : PHp} {σ : L2.St} {H : Hp} {v' : PV} {v : V} (s : SR K B σ' H' σ H) (r : RP K H v' v) (i : Nat) : SR K B (σ'.set i (some v')) H' (σ.set i (some v)) H := by
  refine ⟨by simp [s.len], fun j w e => ?_, s.hp, s.ev⟩
  by_cases hj : i = j
  · subst hj
    have hl : i < σ'.length := by
      rcases Nat.lt_or_ge i σ'.length with h | h
      · exact h
      · rw [List.getElem?_eq_none (by simpa using h)] at e; cases e
    rw [List.getElem?_set_self hl] at e
    cases e
    exact ⟨v, List.getElem?_set_self (by rw [← s.len]; exact hl), r⟩
  · rw [List.getElem?_set_ne hj] at e ⊢
    exact s.loc j w e
theorem qg_name {i : Nat} {x : Str} (hN : X.N.Nodup) (hi : X.N[i]? = some x) (hx : Loc X.env.scope x) (hf : X.fn x = true ∨ X.env.scope.names.lookup x = some .local := by first | exact .inl rfl | exact .inr rfl | assumption) : PG' X B (.Name x pos) (vName i) :=
  pg_imp (pg_name hN hi hx hf) fun v σ H Q ⟨v', σ', H', Q', r, s, h, k⟩ => k _ _ _ _ h (s.set r i) (Ev.refl _ _)
def vNil : TGs' := fun vs σ H Q => vs = [] ∧ Q σ H
def vCons (t : TG') (u : TGs') : TGs' := fun vs σ H Q => match vs with
  | v :: r => t v σ H fun σ' H' => u r σ' H' Q
  | [] => False
theorem qgs_nil : PGs' X B [] vNil := pgs_imp pgs_nil fun vs σ H Q ⟨v', σ', H', Q', r, s, h, k⟩ => by
  obtain ⟨rfl, h⟩ := h
  simp only [RPs] at r
  exact ⟨r, k _ _ _ _ h s (Ev.refl _ _)⟩
theorem qgs_cons {t : TG'} {u : TGs'} (h1 : PG' X B e t) (h2 : PGs' X B es u) (hs : (assignEach (e :: es) X.env).map (·.2) = assign e X.env :: (assignEach es X.env).map (·.2) := by rfl) : PGs' X B (e :: es) (vCons t u) :=
  pgs_imp (pgs_cons h1 h2 hs) fun vs σ H Q ⟨vs', σ', H', Q', r, s, h, k⟩ => by
  cases vs' with
  | nil => exact h.elim
  | cons v' r' =>
    simp only [RPs] at r
    obtain ⟨v, w, rfl, rv, rw'⟩ := r
    refine ⟨v, w, rfl, v', σ', H', _, rv, s, h, fun σ1' H1' σ1 H1 h1 s1 e1 => ⟨r', σ1', H1', Q', RPs.kp _ (e1.kp s.hp) rw', s1, h1, fun σ2' H2' σ2 H2 h2 s2 e2 => k _ _ _ _ h2 s2 (e1.trans e2)⟩⟩
def vTup (n : Nat) (t : TGs') : TG' := fun v σ H Q => match v with
  | .tup l => l.length = n ∧ t l σ H Q
  | _ => False
theorem qg_tup {k : Nat} {t : TGs'} {n : Nat} (hc : X.calm = true) (h : PGs' X B es t) (hn : (assignEach es X.env).length = n := by rfl) (hst : (assignEach es X.env).findIdx? (·.1) = none := by rfl) : PG' X B (.Tuple es k pos) (vTup n t) :=
  pg_imp (pg_tup hc h hn hst) fun v σ H Q ⟨v', σ', H', Q', r, s, h, k⟩ => by
  cases v' with
  | tup l =>
    obtain ⟨hl, h⟩ := h
    simp only [RP] at r
    obtain ⟨a, us, rfl, q, r⟩ := r
    exact ⟨a, us, rfl, q, by rw [RPs.length _ r]; exact hl, l, σ', H', Q', r, s, h, k⟩
  | _ => exact h.elim
def uAsg (te : TE') (g : TG') : TS' := fun D σ H => te σ H fun x H1 => g x σ H1 D.nx
theorem low_asg {K : PySem.W.Frag} {te : TE'} {g : TG'} {D : Ends} {σ : L2.St} {H : Hp} (h : lowS K B (uAsg te g) D σ H) : tAsg (low K B te) (lowG K B g) D σ H := by
  obtain ⟨σ', H', D', s, h, d⟩ := h
  exact ⟨σ', H', _, s, h, fun x H1' v H1 h1 r1 s1 e1 => ⟨x, σ', H1', _, r1, s1, h1, fun σ2' H2' σ2 H2 h2 s2 e2 => d.nx _ _ _ _ h2 s2 (e1.trans e2)⟩⟩
theorem qs_asg {tg : Expr} {g : TG'} (he : PE' X B e te) (hg : PG' X B tg g) (hs : swapsWithSole [tg] e pos.line X.env = pure false := by rfl) (hw : swappedStores [tg] e X.env = pure none := by rfl)
    (h1 : (assignEach [tg] X.env).map (·.2) = [assign tg X.env] := by rfl) : PS' X B (.Assign [tg] e pos) (uAsg te g) := ps_imp (ps_asg he hg hs hw h1) fun _ _ _ h => low_asg h
theorem qs_set {i : Nat} {x : Str} {pos' : Pos} (hN : X.N.Nodup) (hi : X.N[i]? = some x) (hx : Loc X.env.scope x) (he : PE' X B e te) (hs : swapsWith e (some (.Name x pos')) pos.line X.env = pure false := by rfl) (hf : X.fn x = true ∨ X.env.scope.names.lookup x = some .local := by first | exact .inl rfl | exact .inr rfl | assumption) :
    PS' X B (.Assign [.Name x pos'] e pos) (uAsg te (vName i)) := ps_imp (ps_set hN hi hx he hs hf) fun D σ H h => by
  obtain ⟨σ', H', D', s, h, d⟩ := h
  exact ⟨σ', H', _, s, h, fun x H1' v H1 h1 r1 s1 e1 => d.nx _ _ _ _ h1 (s1.set r1 i) e1⟩
def uWhile (c : TT') (tb : TS') : TS' := fun D σ H => ∃ W : Nat → St' → PHp → Prop, (∃ m, W m σ H) ∧ ∀ m σ H, W m σ H →
  c σ H fun b H1 => cif b (∃ N : St' → PHp → Prop, (∀ σ' H', N σ' H' → ∃ m', m' < m ∧ W m' σ' H') ∧ tb { D with nx := N, ct := N, bk := D.nx } σ H1) (D.nx σ H1)
theorem qs_while {body : List Stmt} (hp : PassesOwn (model X.prog X.w) X.A X.env X.xe) (hc : PT' X B c tA) (hb : PSs' X B body t) : PS' X B (.While c body [] pos) (uWhile tA t) := ps_imp (ps_while hp hc hb) fun D σ H ⟨σ', H', D', s, ⟨W, ⟨m0, w0⟩, turn⟩, d⟩ => by
  refine ⟨fun m σ1 H1 => ∃ σ1' H1', SR X.K B σ1' H1' σ1 H1 ∧ Ev H' H H1' H1 ∧ W m σ1' H1', ⟨m0, σ', H', s, Ev.refl _ _, w0⟩, ?_⟩
  rintro m σ1 H1 ⟨σ1', H1', s1, e1, w1⟩
  refine ⟨σ1', H1', _, s1, turn m σ1' H1' w1, fun x H2' H2 h2 s2 e2 => ?_⟩
  cases x with
  | false => exact iteF (d.nx _ _ _ _ h2 s2 (e1.trans e2))
  | true =>
    obtain ⟨N, hN, h2⟩ := (show ∃ N : St' → PHp → Prop, _ from h2)
    refine iteT ⟨fun σ3 H3 => ∃ σ3' H3', SR X.K B σ3' H3' σ3 H3 ∧ Ev H' H H3' H3 ∧ N σ3' H3', ?_, σ1', H2', _, s2, h2, ?_, ?_, ?_, ?_⟩
    · rintro σ3 H3 ⟨σ3', H3', s3, e3, n3⟩
      obtain ⟨m', hm, w'⟩ := hN _ _ n3
      exact ⟨m', hm, σ3', H3', s3, e3, w'⟩
    · intro σ3' H3' σ3 H3 n3 s3 e3
      exact ⟨σ3', H3', s3, (e1.trans e2).trans e3, n3⟩
    · intro v' H3' v H3 n3 r3 s3 e3
      exact d.rt _ _ _ _ n3 r3 s3 ((e1.trans e2).trans e3)
    · intro σ3' H3' σ3 H3 n3 s3 e3
      exact d.nx _ _ _ _ n3 s3 ((e1.trans e2).trans e3)
    · intro σ3' H3' σ3 H3 n3 s3 e3
      exact ⟨σ3', H3', s3, (e1.trans e2).trans e3, n3⟩
theorem while_by {c : TT'} {tb : TS'} {D : Ends'} {σ : St'} {H : PHp} (Pv : Nat → St' → PHp → Prop) (m0 : Nat) (h0 : Pv m0 σ H)
    (hs : ∀ m σ H, Pv m σ H → c σ H fun b H1 => cif b (∃ N : St' → PHp → Prop, (∀ σ' H', N σ' H' → ∃ m', m' < m ∧ Pv m' σ' H') ∧ tb { D with nx := N, ct := N, bk := D.nx } σ H1) (D.nx σ H1)) : uWhile c tb D σ H := ⟨Pv, ⟨m0, h0⟩, hs⟩
def uForL (ok : PHp → Prop) (g : TG') (tb : TS') (D : Ends') : List PV → St' → PHp → Prop
  | [], σ, H => ok H ∧ D.nx σ H
  | x :: r, σ, H => ok H ∧ g x σ H fun σ2 H2 => tb { D with nx := uForL ok g tb D r, ct := uForL ok g tb D r, bk := D.nx } σ2 H2
def uFor (wi : TI') (g : TG') (tb : TS') : TS' := fun D σ H => wi σ H fun J H1 => uForL J.ok g tb D J.items σ H1
theorem qs_for {iter tg : Expr} {body : List Stmt} {wi : TI'} {g : TG'} (hp : PassesOwn (model X.prog X.w) X.A X.env X.xe) (hc : X.calm = true) (hi : PI' X B tg iter wi) (hg : PG' X B tg g) (hb : PSs' X B body t)
    (hs : ∀ x, foldedSetIterable iter X.env x = pure x := by intro _; rfl) : PS' X B (.For tg iter body [] pos) (uFor wi g t) := ps_imp (ps_for hp hc hi hg hb hs) fun D σ H ⟨σ', H', D', s, h, d⟩ => by
  refine ⟨σ', H', _, s, h, fun J' H1' J H1 h1 wk s1 e1 => ?_⟩
  refine ⟨fun i m σ2 H2 => i ≤ J'.items.length ∧ m = J'.items.length - i ∧ ∃ σ2' H2', SR X.K B σ2' H2' σ2 H2 ∧ Ev H1' H1 H2' H2 ∧ uForL J'.ok g t D' (J'.items.drop i) σ2' H2', ⟨J'.items.length, Nat.zero_le _, by simp, σ', H1', s1, Ev.refl _ _, h1⟩, ?_⟩
  rintro i m σ2 H2 ⟨hi, rfl, σ2', H2', s2, e2, h2⟩
  have k2 := e2.kp s1.hp
  by_cases hlt : i < J'.items.length
  · obtain ⟨x', hx⟩ : ∃ x', J'.items[i]? = some x' := ⟨_, List.getElem?_eq_getElem hlt⟩
    have hd : J'.items.drop i = x' :: J'.items.drop (i + 1) := by
      rw [List.drop_eq_getElem_cons hlt]
      rw [List.getElem?_eq_getElem hlt] at hx
      cases hx; rfl
    rw [hd] at h2
    obtain ⟨ok2, h2⟩ := (show J'.ok H2' ∧ _ from h2)
    refine .inr ⟨wk.go H2' H2 i k2 s2.hp ok2 hlt, fun σ3 H3 => ∃ σ3' H3', SR X.K B σ3' H3' σ3 H3 ∧ Ev H1' H1 H3' H3 ∧ uForL J'.ok g t D' (J'.items.drop (i + 1)) σ3' H3', ?_, fun x H3 y => ?_⟩
    · rintro σ3 H3 ⟨σ3', H3', s3, e3, h3⟩
      exact ⟨J'.items.length - (i + 1), by omega, hlt, rfl, σ3', H3', s3, e3, h3⟩
    · obtain ⟨rfl, rx⟩ := wk.yld H2' H2 i x H3 k2 s2.hp ok2 y
      refine ⟨x', σ2', H2', _, rx x' hx, s2, h2, fun σ3' H3' σ3 H3 h3 s3 e3 => ⟨σ3', H3', _, s3, h3, ?_, ?_, ?_, ?_⟩⟩
      · intro σ4' H4' σ4 H4 h4 s4 e4
        exact ⟨σ4', H4', s4, e2.trans (e3.trans e4), h4⟩
      · intro v' H4' v H4 h4 r4 s4 e4
        exact d.rt _ _ _ _ h4 r4 s4 (e1.trans (e2.trans (e3.trans e4)))
      · intro σ4' H4' σ4 H4 h4 s4 e4
        exact d.nx _ _ _ _ h4 s4 (e1.trans (e2.trans (e3.trans e4)))
      · intro σ4' H4' σ4 H4 h4 s4 e4
        exact ⟨σ4', H4', s4, e2.trans (e3.trans e4), h4⟩
  · have hi' : i = J'.items.length := by omega
    subst hi'
    rw [List.drop_length] at h2
    obtain ⟨ok2, h2⟩ := (show J'.ok H2' ∧ _ from h2)
    exact .inl ⟨wk.stop H2' H2 _ k2 s2.hp ok2 (Nat.le_refl _), d.nx _ _ _ _ h2 s2 (e1.trans e2)⟩
def itOf (x : PV) (H1 : PHp) (R : It' → PHp → Prop) : Prop := match x with
  | .tup l => R ⟨l, fun _ => True⟩ H1
  | .fls l => R ⟨l, fun _ => True⟩ H1
  | .ref a => ∃ l, H1 a = some (.lst l) ∧ R ⟨l, fun H => H a = some (.lst l)⟩ H1
  | _ => False
def uSeqI (ta : TE') : TI' := fun σ H R => ta σ H fun x H1 => itOf x H1 R
def iSeq (K : PySem.W.Frag) (tl : TE) : TI := fun σ H R => tl σ H fun x H1 => ∃ a, x = .ref a ∧ ((∃ xs, SqL K H1 a xs) ∧ R (Itl K a) H1 ∨ (∃ xs, SqT K H1 a xs) ∧ R (Itt K a) H1)
theorem pi_seq {tg l : Expr} {tl : TE} (hl : PE X l tl) : PI X tg l (iSeq X.K tl) := by
  intro pins s σ H R I h
  refine thn (hl pins s σ H _ I h) fun v s1 ⟨x, H1, I1, r1, q1⟩ => ?_
  obtain ⟨a, e, ⟨⟨xs, hq⟩, q⟩ | ⟨⟨xs, hq⟩, q⟩⟩ := q1
  · subst e
    cases r1
    obtain ⟨its, rv, p, hz⟩ := I1.list hq
    refine wpAny_pyIter_list p.isList ?_
    refine ⟨s1.heap.objs.size, [s1.heap.objs.size], _, _, H1, rfl, I1.kept (t' := s1.toks) fun b o e => Heap.get?_push_of_some _ e, turn_list a _, ⟨_, Heap.get?_push_size _ rfl, rfl, rfl⟩, fun b hb => ?_, q⟩
    have e : b = s1.heap.objs.size := by simpa using hb
    subst e
    exact I1.fpOk (Nat.le_refl _) (I1.hok.fresh (Nat.le_refl _))
  · subst e
    cases r1
    obtain ⟨its, rv, p, hz⟩ := I1.tuple hq
    refine wpAny_pyIter_tuple (show s1.heap.IsTuple a its.toArray from p) ?_
    refine ⟨s1.heap.objs.size, [s1.heap.objs.size], _, _, H1, rfl, I1.kept (t' := s1.toks) fun b o e => Heap.get?_push_of_some _ e, turn_tuple a _, ⟨_, Heap.get?_push_size _ rfl, rfl, rfl⟩, fun b hb => ?_, q⟩
    have e : b = s1.heap.objs.size := by simpa using hb
    subst e
    exact I1.fpOk (Nat.le_refl _) (I1.hok.fresh (Nat.le_refl _))
theorem walks_list {K : PySem.W.Frag} {H1 : Hp} {J' : It'} {a : Addr} (h : ∀ H' H, Kp H1 H → HR K H' H → J'.ok H' → ∃ us, SqL K H a us ∧ RPs K H J'.items us) : Walks K H1 (Itl K a) J' where
  go := fun H' H i k s o hi => by
    obtain ⟨us, q, r⟩ := h H' H k s o
    obtain ⟨u, e, _⟩ := RPs.get _ r (List.getElem?_eq_getElem hi)
    exact ⟨us, u, q, e⟩
  yld := fun H' H i x H2 k s o y => by
    obtain ⟨us, q, r⟩ := h H' H k s o
    refine ⟨y.1, fun x' hx => ?_⟩
    obtain ⟨u, e, ru⟩ := RPs.get _ r hx
    have := y.2 us q
    rw [e] at this; cases this; exact ru
  stop := fun H' H i k s o hi => by
    obtain ⟨us, q, r⟩ := h H' H k s o
    exact ⟨us, q, by rw [RPs.length _ r]; exact hi⟩
theorem walks_tup {K : PySem.W.Frag} {H1 : Hp} {J' : It'} {a : Addr} (h : ∀ H' H, Kp H1 H → HR K H' H → J'.ok H' → ∃ us, SqT K H a us ∧ RPs K H J'.items us) : Walks K H1 (Itt K a) J' where
  go := fun H' H i k s o hi => by
    obtain ⟨us, q, r⟩ := h H' H k s o
    obtain ⟨u, e, _⟩ := RPs.get _ r (List.getElem?_eq_getElem hi)
    exact ⟨us, u, q, e⟩
  yld := fun H' H i x H2 k s o y => by
    obtain ⟨us, q, r⟩ := h H' H k s o
    refine ⟨y.1, fun x' hx => ?_⟩
    obtain ⟨u, e, ru⟩ := RPs.get _ r hx
    have := y.2 us q
    rw [e] at this; cases this; exact ru
  stop := fun H' H i k s o hi => by
    obtain ⟨us, q, r⟩ := h H' H k s o
    exact ⟨us, q, by rw [RPs.length _ r]; exact hi⟩
theorem qi_seq {tg : Expr} (ha : PE' X B a ta) : PI' X B tg a (uSeqI ta) := pi_imp (pi_seq ha) fun σ H R ⟨σ', H', R', s, h, k⟩ => by
  refine ⟨σ', H', _, s, h, fun x' H1' x H1 h1 r1 s1 e1 => ?_⟩
  cases x' with
  | tup l =>
    simp only [RP] at r1
    obtain ⟨p, us, rfl, q, r⟩ := r1
    exact ⟨p, rfl, .inr ⟨⟨us, q⟩, k _ H1' _ H1 h1 (walks_tup fun _ H2 k2 _ _ => ⟨us, k2.sqT q, RPs.kp _ k2 r⟩) s1 e1⟩⟩
  | fls l =>
    simp only [RP] at r1
    obtain ⟨p, us, rfl, q, r⟩ := r1
    exact ⟨p, rfl, .inl ⟨⟨us, q.sq⟩, k _ H1' _ H1 h1 (walks_list fun _ H2 k2 _ _ => ⟨us, (k2.fzL q).sq, RPs.kp _ k2 r⟩) s1 e1⟩⟩
  | ref p =>
    simp only [RP] at r1
    obtain ⟨l, q, h1⟩ := h1
    obtain ⟨us, q2, r⟩ := s1.hp _ _ q
    refine ⟨p, r1, .inl ⟨⟨us, SqL.of q2⟩, k _ H1' _ H1 h1 (walks_list fun H2' H2 k2 s2 o2 => ?_) s1 e1⟩⟩
    obtain ⟨us2, q3, r3⟩ := s2 _ _ o2
    exact ⟨us2, SqL.of q3, r3⟩
  | _ => exact h1.elim
def rngL (lo : Int) (n : Nat) : List PV := (List.range n).map fun k => PV.int (lo + (k : Nat))
theorem walks_rng {K : PySem.W.Frag} {H1 : Hp} {lo : Int} {n : Nat} : Walks K H1 (Itr lo n) ⟨rngL lo n, fun _ => True⟩ where
  go := fun H' H i k s o hi => by
    have h : i < n := by simpa [rngL] using hi
    exact h
  yld := fun H' H i x H2 k s o y => by
    obtain ⟨e, rfl⟩ := y
    refine ⟨e, fun x' hx => ?_⟩
    simp only [rngL, List.getElem?_map] at hx
    cases q : (List.range n)[i]? with
    | none => rw [q] at hx; cases hx
    | some j =>
      rw [q] at hx
      obtain ⟨h1, h2⟩ := List.getElem?_eq_some_iff.mp q
      rw [List.getElem_range] at h2
      subst h2
      cases hx
      simp [RP]
  stop := fun H' H i k s o hi => by
    have h : n ≤ i := by simpa [rngL] using hi
    exact h
def rng1 (vs : List PV) (H1 : PHp) (R : It' → PHp → Prop) : Prop := match vs with
  | [.int j] => (-(2 ^ 62) ≤ j ∧ j < 2 ^ 62) ∧ R ⟨rngL 0 j.toNat, fun _ => True⟩ H1
  | _ => False
def uRng1 (t : TA') : TI' := fun σ H R => t σ H fun vs H1 => rng1 vs H1 R
def rng2 (vs : List PV) (H1 : PHp) (R : It' → PHp → Prop) : Prop := match vs with
  | [.int i, .int j] => (-(2 ^ 62) ≤ i ∧ i < 2 ^ 62 ∧ -(2 ^ 62) ≤ j ∧ j < 2 ^ 62) ∧ R ⟨rngL i (j - i).toNat, fun _ => True⟩ H1
  | _ => False
def uRng2 (t : TA') : TI' := fun σ H R => t σ H fun vs H1 => rng2 vs H1 R
theorem qi_range1 {tg : Expr} {t : TA'} {p : Pos} (hg : Gl X "range") (hm : X.mg "range" = none) (ha : PA' X B [a] t) (hs : starEach [a] X.env = [(false, eval a X.env)] := by rfl) : PI' X B tg (.Call (.Name "range" p) [a] [] pos) (uRng1 t) :=
  pi_imp (pi_range1 hg hm ha hs) fun σ H R ⟨σ', H', R', s, h, k⟩ => by
  refine ⟨σ', H', _, s, h, fun vs' H1' vs H1 h1 r1 s1 e1 => ?_⟩
  unfold rng1 at h1
  split at h1
  · rename_i j
    simp only [RPs, RP] at r1
    obtain ⟨u, r, rfl, rfl, rfl⟩ := r1
    exact ⟨j, rfl, h1.1.1, h1.1.2, k _ H1' _ H1 h1.2 walks_rng s1 e1⟩
  · exact h1.elim
end
end U


set_option linter.all false
set_option maxRecDepth 100000
set_option maxHeartbeats 4000000
namespace U
open PySem PySem.Spec PyProof.Rows L2
variable {B : Bs}
abbrev Sp' := List PV → PHp → VK' → XK' → Prop
def lowSp (K : PySem.W.Frag) (sp : Sp') : Sp := fun vs H Q E => ∃ vs' H' Q' E', RPs K H vs' vs ∧ HR K H' H ∧ sp vs' H' Q' E' ∧ (∀ v' H1' v H1, Q' v' H1' → RP K H1 v' v → HR K H1' H1 → Ev H' H H1' H1 → Q v H1) ∧
  (∀ c d H1' H1, E' c d H1' → HR K H1' H1 → Ev H' H H1' H1 → E c d H1)
abbrev FnOk' (P : Program) (w : World) (K : PySem.W.Frag) (mg : Str → Option Value) (base : Heap) (CX : CXT) (k : Nat) (f : Addr) (fd : FuncData) (ps : List Str) (sp : Sp') : Prop := FnOk P w K mg base CX k f fd ps (lowSp K sp)
def start' (N : List Str) (vs : List PV) : St' := vs.map some ++ List.replicate (N.length - vs.length) none
theorem sr_start {K : PySem.W.Frag} {N : List Str} {vs' : List PV} {vs : List V} {H' : PHp} {H : Hp} (r : RPs K H vs' vs) (h : HR K H' H) : SR K (H', H) (start' N vs') H' (L2.start N vs) H := by
  have hl := RPs.length _ r
  refine ⟨by simp [start', L2.start, hl], fun i v' e => ?_, h, Ev.refl _ _⟩
  unfold start' at e
  unfold L2.start
  by_cases hi : i < vs'.length
  · rw [List.getElem?_append_left (by simpa using hi)] at e
    rw [List.getElem?_append_left (by simpa [hl] using hi)]
    rw [List.getElem?_map] at e ⊢
    cases q : vs'[i]? with
    | none => rw [q] at e; cases e
    | some w =>
      rw [q] at e
      cases e
      obtain ⟨u, e1, e2⟩ := RPs.get _ r q
      exact ⟨u, by rw [e1]; rfl, e2⟩
  · rw [List.getElem?_append_right (by simpa using hi)] at e
    rw [List.getElem?_replicate] at e
    split at e <;> cases e
def ends (Q : VK') : Ends' where
  nx := fun _ H => ∃ H3, Sub H3 H ∧ Q .non H3
  rt := fun v H => ∃ H3, Sub H3 H ∧ Q v H3
section
variable {P : Program} {w : World} {K : PySem.W.Frag} {mg : Str → Option Value} {base : Heap}
theorem okU {x qual : Str} {st : Stmt} {f : Addr} {fd : FuncData} {N ps : List Str} {k : Nat} {sp : Sp'} (F : Fun K x qual st f fd) (S : FnScope N ps (defScope st)) (len : ∀ vs H Q E, sp vs H Q E → vs.length = ps.length)
    (hbody : ∀ (cdv : Value) (A : Around) (outer : List Env) (s : Shared) (H : Hp) (E : XK) (B : Bs), Room k (A.deeper (envOfC qual (defScope st) s.heap.objs.size f cdv)) →
      ∃ t, PSs' (cxOf CX0 P w K mg base N qual (defScope st) f cdv A outer s H E).nox B (defBody st) t ∧ ∀ vs' H' Q' E', sp vs' H' Q' E' → t (ends Q') (start' N vs') H') : FnOk' P w K mg base CX0 (k + 1) f fd ps sp := by
  refine F.ok S (fun vs H Q E zz => ?_) (fun cdv A outer s H vs Q E hr h => ?_)
  · obtain ⟨vs', H', Q', E', r, hr, h, _⟩ := zz
    rw [RPs.length _ r]; exact len _ _ _ _ h
  · obtain ⟨vs', H', Q', E', r, hh, h, k1, k2⟩ := h
    obtain ⟨t, ht, hq⟩ := hbody cdv A outer s H E (H', H) hr
    refine ⟨_, ht, start' N vs', H', _, sr_start r hh, hq vs' H' Q' E' h, ?_, ?_, ?_, ?_⟩
    · rintro σ1' H1' σ1 H1 ⟨H3, sb, q⟩ s1 e1
      exact k1 _ H3 _ H1 q (by simp [RP]) (s1.hp.sub sb) (e1.sub sb)
    · rintro v' H1' v H1 ⟨H3, sb, q⟩ r1 s1 e1
      exact k1 _ H3 _ H1 q r1 (s1.sub sb) (e1.sub sb)
    · intro _ _ _ _ z; exact z.elim
    · intro _ _ _ _ z; exact z.elim
end
section
variable {X : Cx} {CX : CXT} {k : Nat} {f C : Addr} {fd : FuncData} {ps : List Str} {sp : Sp'} {E : XK} {E' : XK'} {x m : Str} {p pos apos : Pos} {e o : Expr} {es : List Expr} {ta : TE'} {t : TA'}
def uCall (sp : Sp') (E' : XK') (t : TA') : TE' := fun σ H Q => t σ H fun vs H1 => sp vs H1 Q E'
abbrev X0 : XK' := fun _ _ _ => False
theorem low_call0 {K : PySem.W.Frag} {σ : L2.St} {H : Hp} {Q : VK} (h : low K B (uCall sp X0 t) σ H Q) : tCall (lowSp K sp) [] E0 (lowA K B t) σ H Q := by
  obtain ⟨σ', H', Q', s, h, k⟩ := h
  refine ⟨σ', H', _, s, h, fun vs' H1' vs H1 h1 r1 s1 e1 => ?_⟩
  show lowSp K sp (vs ++ []) H1 Q E0
  rw [List.append_nil]
  exact ⟨vs', H1', Q', X0, r1, s1.hp, h1, fun v' H2' v H2 q r2 h2 e2 => k v' H2' v H2 q r2 (s1.kp e2 h2) (e1.trans e2), fun _ _ _ _ z => z.elim⟩
theorem qe_call (F : FnOk' X.prog X.w X.K X.mg X.base CX0 k f fd ps sp) (hr : Room k X.A) (hg : Gl X x) (hm : X.mg x = some (.ref f)) (hk : PySem.W.keepIn X.K (.ref f) = true) (hb : Binds X.K fd ps [])
    (ha : PA' X B (e :: es) t) (hdb : (x == ("__debug__" : Str)) = false := by decide) (he : starEach (e :: es) X.env = (false, eval e X.env) :: starEach es X.env := by rfl) (hpl : (backTo pos (starEach es X.env)).any (·.1) = false := by rfl) :
    PE' X B (.Call (.Name x p) (e :: es) [] pos) (uCall sp X0 t) := pe_imp (pe_call F hr hg hm hk hb .nil pass0 ha hdb he hpl) fun _ _ _ h => low_call0 h
theorem fz_of {K : PySem.W.Frag} {H : Hp} {a : Addr} {xs : List V} (o : Only H) (h : SqL K H a xs) : FzL K H a xs := by
  rcases h with (h | h) | h
  · rcases o a with z | ⟨ob, ys, z⟩
    · rw [z] at h; cases h
    · rw [z] at h; cases h
  · exact .inl h
  · exact .inr h
def spL : Sp' := fun vs H Q _ => match vs with
  | [.fls l] => ∃ ns : List Int, l = ns.map PV.int ∧ ns.length ≤ 63 ∧ Q (.bl true) H
  | _ => False
theorem spL_start {K : PySem.W.Frag} {H : Hp} {a : Addr} {ns : List Int} (hl : ns.length ≤ 63) (o : Only H) (h : SqL K H a (ns.map V.int)) : lowSp K spL [.ref a] H (fun v _ => v = .bl true) fun _ _ _ => False := by
  refine ⟨[.fls (ns.map PV.int)], fun _ => none, fun v _ => v = .bl true, X0, ?_, fun _ _ z => (nomatch z), ⟨ns, rfl, hl, rfl⟩, fun v' _ v _ q r _ _ => ?_, fun _ _ _ _ z => z.elim⟩
  · refine RPs.cons _ ?_ (RPs.nil _)
    simp only [RP]
    exact ⟨a, _, rfl, fz_of o h, RPs.ints _ _⟩
  · subst q
    simpa [RP] using r
end
end U


set_option linter.all false
set_option maxRecDepth 100000
set_option maxHeartbeats 4000000
namespace U
open PySem PySem.Spec PyProof.Rows L2
variable {B : Bs}
mutual
def deq : PV → PV → Bool
  | .non, .non => true
  | .bl a, .bl b => a == b
  | .int a, .int b => a == b
  | .bl a, .int b => (if a then 1 else 0) == b
  | .int a, .bl b => a == (if b then 1 else 0)
  | .str a, .str b => a == b
  | .tup l, .tup m => deqs l m
  | .fls l, .fls m => deqs l m
  | _, _ => false
def deqs : List PV → List PV → Bool
  | [], [] => true
  | x :: l, y :: m => deq x y && deqs l m
  | _, _ => false
end
def flat : Nat → PV → Bool
  | _, .non => true
  | _, .bl _ => true
  | _, .int _ => true
  | _, .str _ => true
  | n + 1, .tup l => l.all (flat n)
  | n + 1, .fls l => l.all (flat n)
  | _, _ => false
theorem deqs_range : ∀ (l m : List PV), deqs l m = ((List.range (min l.length m.length)).all (fun i => deq (l.getD i .non) (m.getD i .non)) && l.length == m.length)
  | [], [] => by simp [deqs]
  | [], _ :: _ => by simp [deqs]
  | _ :: _, [] => by simp [deqs]
  | x :: l, y :: m => by
    simp only [deqs, deqs_range l m, List.length_cons]
    rw [show min (l.length + 1) (m.length + 1) = min l.length m.length + 1 by omega, List.range_succ_eq_map, List.all_cons, List.all_map]
    simp only [List.getD_cons_zero, Bool.and_assoc]
    congr 1
    congr 1
    simp
theorem deqs_refl {n : Nat} : ∀ (l : List PV), (∀ x ∈ l, deq x x = true) → deqs l l = true
  | [], _ => rfl
  | x :: l, h => by
    have h1 := h x (by simp)
    have h2 := deqs_refl (n := n) l fun y hy => h y (by simp [hy])
    simp only [deqs, h1, h2, Bool.and_self]
theorem deq_refl : ∀ {n : Nat} {x : PV}, flat n x = true → deq x x = true
  | _, .non, _ => by simp [deq]
  | _, .bl _, _ => by simp [deq]
  | _, .int _, _ => by simp [deq]
  | _, .str _, _ => by simp [deq]
  | n + 1, .tup l, h => by
    simp only [flat, List.all_eq_true] at h
    simp only [deq]
    exact deqs_refl (n := 0) l fun x hx => deq_refl (h x hx)
  | n + 1, .fls l, h => by
    simp only [flat, List.all_eq_true] at h
    simp only [deq]
    exact deqs_refl (n := 0) l fun x hx => deq_refl (h x hx)
  | 0, .tup _, h => by cases h
  | 0, .fls _, h => by cases h
  | n, .ref _, h => by cases n <;> cases h
  | n, .oth _, h => by cases n <;> cases h
section
variable {X : Cx} {pins : List (Addr × Obj)} {σ : L2.St} {H : Hp} {s : Shared}
def RR (K : PySem.W.Frag) (H : Hp) (x : PV) (u : Value) : Prop := ∃ v, RP K H x v ∧ RelV v u
def RL (K : PySem.W.Frag) (H : Hp) (l : List PV) (us : List Value) : Prop := ∃ vs, RPs K H l vs ∧ Vals vs us
def RD (K : PySem.W.Frag) (H : Hp) (x : PV) (u : Value) : Prop := match x with
  | .fls l => ∃ a vs, u = .ref a ∧ SqL K H a vs ∧ RPs K H l vs
  | x => RR K H x u
theorem RL.get {K : PySem.W.Frag} {l : List PV} {us : List Value} (r : RL K H l us) {i : Nat} {u : Value} (e : us[i]? = some u) : ∃ x, l[i]? = some x ∧ RR K H x u := by
  obtain ⟨vs, r1, r2⟩ := r
  have hl := r2.length
  have hl2 := RPs.length _ r1
  have hi : i < l.length := by
    have := (List.getElem?_eq_some_iff.mp e).1
    omega
  obtain ⟨v, e1, e2⟩ := RPs.get _ r1 (List.getElem?_eq_getElem hi)
  obtain ⟨w, e3, e4⟩ := r2.get e1
  rw [e] at e3; cases e3
  exact ⟨_, List.getElem?_eq_getElem hi, v, e2, e4⟩
theorem RL.length {K : PySem.W.Frag} {l : List PV} {us : List Value} (r : RL K H l us) : us.length = l.length := by
  obtain ⟨vs, r1, r2⟩ := r
  rw [← r2.length, RPs.length _ r1]
theorem RR.rd {K : PySem.W.Frag} {x : PV} {u : Value} (r : RR K H x u) : RD K H x u := by
  cases x with
  | fls l =>
    obtain ⟨v, r1, r2⟩ := r
    simp only [RP] at r1
    obtain ⟨a, us, rfl, q, rr⟩ := r1
    cases r2
    exact ⟨a, us, rfl, q.sq, rr⟩
  | _ => exact r
theorem rd_tup (I : Inv X pins σ H s) {l : List PV} {u : Value} (r : RD X.K H (.tup l) u) : ∃ a its, u = .ref a ∧ RL X.K H l its ∧ s.heap.IsTuple a its.toArray := by
  obtain ⟨v, r1, r2⟩ := r
  simp only [RP] at r1
  obtain ⟨a, us, rfl, q, rr⟩ := r1
  cases r2
  obtain ⟨its, rv, p, _⟩ := I.tuple q
  exact ⟨a, its, rfl, ⟨us, rr, rv⟩, p⟩
theorem rd_lst (I : Inv X pins σ H s) {l : List PV} {u : Value} (r : RD X.K H (.fls l) u) : ∃ a its, u = .ref a ∧ RL X.K H l its ∧ s.heap.IsList a its.toArray := by
  obtain ⟨a, us, rfl, q, rr⟩ := r
  obtain ⟨its, rv, p, _⟩ := I.list q
  exact ⟨a, its, rfl, ⟨us, rr, rv⟩, p.isList⟩
theorem isTuple_inj {a : Addr} {x y : Array Value} (h1 : s.heap.IsTuple a x) (h2 : s.heap.IsTuple a y) : x = y := by
  obtain ⟨o, e, c, n, d⟩ := h1
  obtain ⟨o', e', c', n', d'⟩ := h2
  rw [e] at e'; cases e'; rw [d] at d'; cases d'; rfl
theorem isList_inj {a : Addr} {x y : Array Value} (h1 : s.heap.IsList a x) (h2 : s.heap.IsList a y) : x = y := by
  obtain ⟨o, e, c, n, d⟩ := h1
  obtain ⟨o', e', c', n', d'⟩ := h2
  rw [e] at e'; cases e'; rw [d] at d'; cases d'; rfl
theorem not_both {a : Addr} {x y : Array Value} (h1 : s.heap.IsTuple a x) (h2 : s.heap.IsList a y) : False := by
  obtain ⟨o, e, c, n, d⟩ := h1
  obtain ⟨o', e', c', n', d'⟩ := h2
  rw [e] at e'; cases e'; rw [c] at c'; exact absurd c' (by decide)
theorem RL.list_inj {K : PySem.W.Frag} {n : Nat} (ih : ∀ {x y : PV} {u : Value}, flat n x = true → flat n y = true → RD K H x u → RD K H y u → x = y) {l m : List PV} {us : List Value} (h1 : l.all (flat n) = true) (h2 : m.all (flat n) = true)
    (r1 : RL K H l us) (r2 : RL K H m us) : l = m := by
  rw [List.all_eq_true] at h1 h2
  refine List.ext_getElem? fun i => ?_
  cases e : us[i]? with
  | none =>
    have := List.getElem?_eq_none_iff.mp e
    rw [List.getElem?_eq_none (by rw [← r1.length]; exact this), List.getElem?_eq_none (by rw [← r2.length]; exact this)]
  | some u =>
    obtain ⟨x, ex, rx⟩ := r1.get e
    obtain ⟨y, ey, ry⟩ := r2.get e
    rw [ex, ey, ih (h1 x (List.mem_of_getElem? ex)) (h2 y (List.mem_of_getElem? ey)) rx.rd ry.rd]
theorem rd_inj (I : Inv X pins σ H s) : ∀ (n : Nat) {x y : PV} {u : Value}, flat n x = true → flat n y = true → RD X.K H x u → RD X.K H y u → x = y := by
  have sc : ∀ {x : PV} {u : Value}, RD X.K H x u → (∀ l, x ≠ .fls l) → RR X.K H x u := fun {x u} r h => by
    cases x with
    | fls l => exact absurd rfl (h l)
    | _ => exact r
  intro n
  induction n with
  | zero =>
    intro x y u hx hy rx ry
    cases x <;> first | (cases hx; done) | skip
    all_goals cases y <;> first | (cases hy; done) | skip
    all_goals
      obtain ⟨v, r1, r2⟩ := sc rx (by intro l z; cases z)
      obtain ⟨v', r1', r2'⟩ := sc ry (by intro l z; cases z)
      simp only [RP] at r1 r1'
      subst r1; subst r1'
      have := RelV.inj r2 r2'
      first | rfl | (cases this; done) | (cases this; rfl)
  | succ n ih =>
    intro x y u hx hy rx ry
    cases x with
    | tup l =>
      obtain ⟨a, its, rfl, rl, p⟩ := rd_tup I rx
      cases y with
      | tup m =>
        obtain ⟨b, its', e, rl', p'⟩ := rd_tup I ry
        cases e
        have := isTuple_inj p p'
        have e2 : its = its' := by simpa using this
        subst e2
        rw [RL.list_inj (n := n) ih hx hy rl rl']
      | fls m =>
        obtain ⟨b, its', e, rl', p'⟩ := rd_lst I ry
        cases e
        exact (not_both p p').elim
      | ref a => cases hy
      | oth a => cases hy
      | _ =>
        obtain ⟨v', r1', r2'⟩ := sc ry (by intro l z; cases z)
        simp only [RP] at r1'
        subst r1'
        simp [L2.RelV] at r2'
    | fls l =>
      obtain ⟨a, its, rfl, rl, p⟩ := rd_lst I rx
      cases y with
      | tup m =>
        obtain ⟨b, its', e, rl', p'⟩ := rd_tup I ry
        cases e
        exact (not_both p' p).elim
      | fls m =>
        obtain ⟨b, its', e, rl', p'⟩ := rd_lst I ry
        cases e
        have := isList_inj p p'
        have e2 : its = its' := by simpa using this
        subst e2
        rw [RL.list_inj (n := n) ih hx hy rl rl']
      | ref a => cases hy
      | oth a => cases hy
      | _ =>
        obtain ⟨v', r1', r2'⟩ := sc ry (by intro l z; cases z)
        simp only [RP] at r1'
        subst r1'
        simp [L2.RelV] at r2'
    | ref a => cases hx
    | oth a => cases hx
    | _ =>
      cases y with
      | tup m =>
        obtain ⟨b, its', e, rl', p'⟩ := rd_tup I ry
        subst e
        obtain ⟨v', r1', r2'⟩ := sc rx (by intro l z; cases z)
        simp only [RP] at r1'
        subst r1'
        simp [L2.RelV] at r2'
      | fls m =>
        obtain ⟨b, its', e, rl', p'⟩ := rd_lst I ry
        subst e
        obtain ⟨v', r1', r2'⟩ := sc rx (by intro l z; cases z)
        simp only [RP] at r1'
        subst r1'
        simp [L2.RelV] at r2'
      | ref a => cases hy
      | oth a => cases hy
      | _ =>
        obtain ⟨v, r1, r2⟩ := sc rx (by intro l z; cases z)
        obtain ⟨v', r1', r2'⟩ := sc ry (by intro l z; cases z)
        simp only [RP] at r1 r1'
        subst r1; subst r1'
        have := RelV.inj r2 r2'
        first | rfl | (cases this; done) | (cases this; rfl)

open SeqAt in
theorem eq_core (I : Inv X pins σ H s) : ∀ (n : Nat) {A : Around} {x y : PV} {u w : Value}, A.units + n < cLine → flat n x = true → flat n y = true → RD X.K H x u → RD X.K H y w → EqAt A s u w (deq x y) ∧ RcAt A s u w (deq x y) := by
  have sc : ∀ {x : PV} {u : Value}, RD X.K H x u → (∀ l, x ≠ .fls l) → RR X.K H x u := fun {x u} r h => by
    cases x with
    | fls l => exact absurd rfl (h l)
    | _ => exact r
  have v_non : ∀ {u : Value}, RD X.K H .non u → u = .none := fun {u} r => by
    obtain ⟨v, r1, r2⟩ := sc r (by intro l z; cases z); simp only [RP] at r1; subst r1; exact r2
  have v_bl : ∀ {b : Bool} {u : Value}, RD X.K H (.bl b) u → u = .bool b := fun {b u} r => by
    obtain ⟨v, r1, r2⟩ := sc r (by intro l z; cases z); simp only [RP] at r1; subst r1; exact r2
  have v_int : ∀ {i : Int} {u : Value}, RD X.K H (.int i) u → ∃ t, u = .int i t := fun {b u} r => by
    obtain ⟨v, r1, r2⟩ := sc r (by intro l z; cases z); simp only [RP] at r1; subst r1; exact r2
  have v_str : ∀ {i : Str} {u : Value}, RD X.K H (.str i) u → ∃ t, u = .str i t := fun {b u} r => by
    obtain ⟨v, r1, r2⟩ := sc r (by intro l z; cases z); simp only [RP] at r1; subst r1; exact r2
  intro n
  induction n with
  | zero =>
    intro A x y u w hu hx hy rx ry
    cases x with
    | non =>
      rw [v_non rx]
      cases y with
      | non => rw [v_non ry]; exact ⟨EqAt.same _, RcAt.none_none⟩
      | bl b => rw [v_bl ry]; exact ⟨EqAt.none_bool b, RcAt.none_bool b⟩
      | int b => obtain ⟨t, rfl⟩ := v_int ry; exact ⟨EqAt.none_int b t, RcAt.none_int b t⟩
      | str b => obtain ⟨t, rfl⟩ := v_str ry; exact ⟨EqAt.none_str b t, RcAt.none_str b t⟩
      | _ => cases hy
    | bl a =>
      rw [v_bl rx]
      cases y with
      | non => rw [v_non ry]; exact ⟨EqAt.bool_none a, RcAt.bool_none a⟩
      | bl b => rw [v_bl ry]; exact ⟨EqAt.bool_bool a b, RcAt.bool_bool a b⟩
      | int b => obtain ⟨t, rfl⟩ := v_int ry; exact ⟨EqAt.bool_int a b t, RcAt.bool_int a b t⟩
      | str b => obtain ⟨t, rfl⟩ := v_str ry; exact ⟨EqAt.bool_str a b t, RcAt.bool_str a b t⟩
      | _ => cases hy
    | int a =>
      obtain ⟨t0, rfl⟩ := v_int rx
      cases y with
      | non => rw [v_non ry]; exact ⟨EqAt.int_none a t0, RcAt.int_none a t0⟩
      | bl b => rw [v_bl ry]; exact ⟨EqAt.int_bool a t0 b, RcAt.int_bool a t0 b⟩
      | int b => obtain ⟨t, rfl⟩ := v_int ry; exact ⟨EqAt.int_int a t0 b t, RcAt.int_int a t0 b t⟩
      | str b => obtain ⟨t, rfl⟩ := v_str ry; exact ⟨EqAt.int_str a t0 b t, RcAt.int_str a t0 b t⟩
      | _ => cases hy
    | str a =>
      obtain ⟨t0, rfl⟩ := v_str rx
      cases y with
      | non => rw [v_non ry]; exact ⟨EqAt.str_none a t0, RcAt.str_none a t0⟩
      | bl b => rw [v_bl ry]; exact ⟨EqAt.str_bool a t0 b, RcAt.str_bool a t0 b⟩
      | int b => obtain ⟨t, rfl⟩ := v_int ry; exact ⟨EqAt.str_int a t0 b t, RcAt.str_int a t0 b t⟩
      | str b => obtain ⟨t, rfl⟩ := v_str ry; exact ⟨EqAt.str_str a t0 b t, RcAt.str_str a t0 b t⟩
      | _ => cases hy
    | _ => cases hx
  | succ n ih =>
    intro A x y u w hu hx hy rx ry
    have hu0 : A.units < cLine := by omega
    have hu1 : A.in1.units + n < cLine := by show A.units + 1 + n < cLine; omega
    cases x with
    | tup l =>
      obtain ⟨a, its, rfl, rl, p⟩ := rd_tup I rx
      cases y with
      | non => rw [v_non ry]; exact ⟨EqAt.tuple_none p hu0, RcAt.tuple_none p hu0⟩
      | bl b => rw [v_bl ry]; exact ⟨EqAt.tuple_bool b p hu0, RcAt.tuple_bool b p hu0⟩
      | int b => obtain ⟨t, rfl⟩ := v_int ry; exact ⟨EqAt.tuple_int b t p hu0, RcAt.tuple_int b t p hu0⟩
      | str b => obtain ⟨t, rfl⟩ := v_str ry; exact ⟨EqAt.tuple_str b t p hu0, RcAt.tuple_str b t p hu0⟩
      | tup m =>
        obtain ⟨b, its', rfl, rl', p'⟩ := rd_tup I ry
        have key : RcAt A s (.ref a) (.ref b) (deq (.tup l) (.tup m)) := by
          have := RcAt.tuples (e := fun i => deq (l.getD i .non) (m.getD i .non)) p p' hu0 fun j h1 h2 => by
            have h1' : j < its.length := by simpa using h1
            have h2' : j < its'.length := by simpa using h2
            obtain ⟨x, ex, rx'⟩ := rl.get (List.getElem?_eq_getElem h1')
            obtain ⟨y, ey, ry'⟩ := rl'.get (List.getElem?_eq_getElem h2')
            have q := ih hu1 (List.all_eq_true.mp hx x (List.mem_of_getElem? ex)) (List.all_eq_true.mp hy y (List.mem_of_getElem? ey)) rx'.rd ry'.rd
            have e1 : l.getD j .non = x := by rw [List.getD_eq_getElem?_getD, ex]; rfl
            have e2 : m.getD j .non = y := by rw [List.getD_eq_getElem?_getD, ey]; rfl
            rw [e1, e2]
            simpa using q.1
          have e : deq (.tup l) (.tup m) = ((List.range (min its.toArray.size its'.toArray.size)).all (fun i => deq (l.getD i .non) (m.getD i .non)) && its.toArray.size == its'.toArray.size) := by
            simp only [deq, deqs_range, List.size_toArray, rl.length, rl'.length]
          rw [e]; exact this
        refine ⟨?_, key⟩
        by_cases hab : a = b
        · subst hab
          have := rd_inj I (n + 1) hx hy rx ry
          rw [← this, deq_refl hx]; exact EqAt.same _
        · exact EqAt.of_refs hab key
      | fls m =>
        obtain ⟨b, its', rfl, rl', p'⟩ := rd_lst I ry
        exact ⟨EqAt.tuple_list p p' hu0, RcAt.tuple_list p p' hu0⟩
      | _ => cases hy
    | fls l =>
      obtain ⟨a, its, rfl, rl, p⟩ := rd_lst I rx
      cases y with
      | non => rw [v_non ry]; exact ⟨EqAt.list_none p hu0, RcAt.list_none p hu0⟩
      | bl b => rw [v_bl ry]; exact ⟨EqAt.list_bool b p hu0, RcAt.list_bool b p hu0⟩
      | int b => obtain ⟨t, rfl⟩ := v_int ry; exact ⟨EqAt.list_int b t p hu0, RcAt.list_int b t p hu0⟩
      | str b => obtain ⟨t, rfl⟩ := v_str ry; exact ⟨EqAt.list_str b t p hu0, RcAt.list_str b t p hu0⟩
      | tup m =>
        obtain ⟨b, its', rfl, rl', p'⟩ := rd_tup I ry
        exact ⟨EqAt.list_tuple p p' hu0, RcAt.list_tuple p p' hu0⟩
      | fls m =>
        obtain ⟨b, its', rfl, rl', p'⟩ := rd_lst I ry
        have key : RcAt A s (.ref a) (.ref b) (deq (.fls l) (.fls m)) := by
          by_cases hs : its.length = its'.length
          · have := RcAt.lists (e := fun i => deq (l.getD i .non) (m.getD i .non)) p p' (by simpa using hs) hu0 fun j h1 h2 => by
              have h1' : j < its.length := by simpa using h1
              have h2' : j < its'.length := by simpa using h2
              obtain ⟨x, ex, rx'⟩ := rl.get (List.getElem?_eq_getElem h1')
              obtain ⟨y, ey, ry'⟩ := rl'.get (List.getElem?_eq_getElem h2')
              have q := ih hu1 (List.all_eq_true.mp hx x (List.mem_of_getElem? ex)) (List.all_eq_true.mp hy y (List.mem_of_getElem? ey)) rx'.rd ry'.rd
              have e1 : l.getD j .non = x := by rw [List.getD_eq_getElem?_getD, ex]; rfl
              have e2 : m.getD j .non = y := by rw [List.getD_eq_getElem?_getD, ey]; rfl
              rw [e1, e2]
              simpa using q.1
            have e : deq (.fls l) (.fls m) = (List.range its.toArray.size).all (fun i => deq (l.getD i .non) (m.getD i .non)) := by
              have e0 : l.length = m.length := by rw [← rl.length, ← rl'.length]; exact hs
              simp [deq, deqs_range, rl.length, e0]
            rw [e]; exact this
          · have e : deq (.fls l) (.fls m) = false := by
              have e0 : l.length ≠ m.length := by rw [← rl.length, ← rl'.length]; exact hs
              simp [deq, deqs_range, e0]
            rw [e]
            exact RcAt.lists_lengths p p' (by simpa using hs) hu0
        refine ⟨?_, key⟩
        by_cases hab : a = b
        · subst hab
          have := rd_inj I (n + 1) hx hy rx ry
          rw [← this, deq_refl hx]; exact EqAt.same _
        · exact EqAt.of_refs hab key
      | _ => cases hy
    | ref a => cases hx
    | oth a => cases hx
    | non =>
      cases y with
      | tup m => obtain ⟨b, its', rfl, rl', p'⟩ := rd_tup I ry; rw [v_non rx]; exact ⟨EqAt.none_tuple p' hu0, RcAt.none_tuple p' hu0⟩
      | fls m => obtain ⟨b, its', rfl, rl', p'⟩ := rd_lst I ry; rw [v_non rx]; exact ⟨EqAt.none_list p' hu0, RcAt.none_list p' hu0⟩
      | ref a => cases hy
      | oth a => cases hy
      | _ => exact ih (by omega) (by cases n <;> rfl) (by cases n <;> rfl) rx ry
    | bl i =>
      cases y with
      | tup m => obtain ⟨b, its', rfl, rl', p'⟩ := rd_tup I ry; rw [v_bl rx]; exact ⟨EqAt.bool_tuple i p' hu0, RcAt.bool_tuple i p' hu0⟩
      | fls m => obtain ⟨b, its', rfl, rl', p'⟩ := rd_lst I ry; rw [v_bl rx]; exact ⟨EqAt.bool_list i p' hu0, RcAt.bool_list i p' hu0⟩
      | ref a => cases hy
      | oth a => cases hy
      | _ => exact ih (by omega) (by cases n <;> rfl) (by cases n <;> rfl) rx ry
    | int i =>
      cases y with
      | tup m => obtain ⟨b, its', rfl, rl', p'⟩ := rd_tup I ry; obtain ⟨t, rfl⟩ := v_int rx; exact ⟨EqAt.int_tuple i t p' hu0, RcAt.int_tuple i t p' hu0⟩
      | fls m => obtain ⟨b, its', rfl, rl', p'⟩ := rd_lst I ry; obtain ⟨t, rfl⟩ := v_int rx; exact ⟨EqAt.int_list i t p' hu0, RcAt.int_list i t p' hu0⟩
      | ref a => cases hy
      | oth a => cases hy
      | _ => exact ih (by omega) (by cases n <;> rfl) (by cases n <;> rfl) rx ry
    | str i =>
      cases y with
      | tup m => obtain ⟨b, its', rfl, rl', p'⟩ := rd_tup I ry; obtain ⟨t, rfl⟩ := v_str rx; exact ⟨EqAt.str_tuple i t p' hu0, RcAt.str_tuple i t p' hu0⟩
      | fls m => obtain ⟨b, its', rfl, rl', p'⟩ := rd_lst I ry; obtain ⟨t, rfl⟩ := v_str rx; exact ⟨EqAt.str_list i t p' hu0, RcAt.str_list i t p' hu0⟩
      | ref a => cases hy
      | oth a => cases hy
      | _ => exact ih (by omega) (by cases n <;> rfl) (by cases n <;> rfl) rx ry
end
end U


set_option linter.all false
set_option maxRecDepth 100000
set_option maxHeartbeats 4000000
namespace U
open PySem PySem.Spec PyProof.Rows L2
variable {B : Bs}
section
variable {X : Cx} {pins : List (Addr × Obj)} {σ : L2.St} {H : Hp} {s : Shared}
open SeqAt in
theorem ne_core (I : Inv X pins σ H s) : ∀ (n : Nat) {A : Around} {x y : PV} {u w : Value}, A.units + n < cLine → flat n x = true → flat n y = true → RD X.K H x u → RD X.K H y w → RcNeAt A s u w (!deq x y) := by
  have sc : ∀ {x : PV} {u : Value}, RD X.K H x u → (∀ l, x ≠ .fls l) → RR X.K H x u := fun {x u} r h => by
    cases x with
    | fls l => exact absurd rfl (h l)
    | _ => exact r
  have v_non : ∀ {u : Value}, RD X.K H .non u → u = .none := fun {u} r => by
    obtain ⟨v, r1, r2⟩ := sc r (by intro l z; cases z); simp only [RP] at r1; subst r1; exact r2
  have v_bl : ∀ {b : Bool} {u : Value}, RD X.K H (.bl b) u → u = .bool b := fun {b u} r => by
    obtain ⟨v, r1, r2⟩ := sc r (by intro l z; cases z); simp only [RP] at r1; subst r1; exact r2
  have v_int : ∀ {i : Int} {u : Value}, RD X.K H (.int i) u → ∃ t, u = .int i t := fun {b u} r => by
    obtain ⟨v, r1, r2⟩ := sc r (by intro l z; cases z); simp only [RP] at r1; subst r1; exact r2
  have v_str : ∀ {i : Str} {u : Value}, RD X.K H (.str i) u → ∃ t, u = .str i t := fun {b u} r => by
    obtain ⟨v, r1, r2⟩ := sc r (by intro l z; cases z); simp only [RP] at r1; subst r1; exact r2
  intro n
  induction n with
  | zero =>
    intro A x y u w hu hx hy rx ry
    cases x with
    | non =>
      rw [v_non rx]
      cases y with
      | non => rw [v_non ry]; exact RcNeAt.none_none
      | bl b => rw [v_bl ry]; exact RcNeAt.none_bool b
      | int b => obtain ⟨t, rfl⟩ := v_int ry; exact RcNeAt.none_int b t
      | str b => obtain ⟨t, rfl⟩ := v_str ry; exact RcNeAt.none_str b t
      | _ => cases hy
    | bl a =>
      rw [v_bl rx]
      cases y with
      | non => rw [v_non ry]; exact RcNeAt.bool_none a
      | bl b => rw [v_bl ry]; exact RcNeAt.bool_bool a b
      | int b => obtain ⟨t, rfl⟩ := v_int ry; exact RcNeAt.bool_int a b t
      | str b => obtain ⟨t, rfl⟩ := v_str ry; exact RcNeAt.bool_str a b t
      | _ => cases hy
    | int a =>
      obtain ⟨t0, rfl⟩ := v_int rx
      cases y with
      | non => rw [v_non ry]; exact RcNeAt.int_none a t0
      | bl b => rw [v_bl ry]; exact RcNeAt.int_bool a t0 b
      | int b => obtain ⟨t, rfl⟩ := v_int ry; exact RcNeAt.int_int a t0 b t
      | str b => obtain ⟨t, rfl⟩ := v_str ry; exact RcNeAt.int_str a t0 b t
      | _ => cases hy
    | str a =>
      obtain ⟨t0, rfl⟩ := v_str rx
      cases y with
      | non => rw [v_non ry]; exact RcNeAt.str_none a t0
      | bl b => rw [v_bl ry]; exact RcNeAt.str_bool a t0 b
      | int b => obtain ⟨t, rfl⟩ := v_int ry; exact RcNeAt.str_int a t0 b t
      | str b => obtain ⟨t, rfl⟩ := v_str ry; exact RcNeAt.str_str a t0 b t
      | _ => cases hy
    | _ => cases hx
  | succ n ih =>
    intro A x y u w hu hx hy rx ry
    have hu0 : A.units < cLine := by omega
    have hu1 : A.in1.units + n < cLine := by show A.units + 1 + n < cLine; omega
    cases x with
    | tup l =>
      obtain ⟨a, its, rfl, rl, p⟩ := rd_tup I rx
      cases y with
      | non => rw [v_non ry]; exact RcNeAt.tuple_none p hu0
      | bl b => rw [v_bl ry]; exact RcNeAt.tuple_bool b p hu0
      | int b => obtain ⟨t, rfl⟩ := v_int ry; exact RcNeAt.tuple_int b t p hu0
      | str b => obtain ⟨t, rfl⟩ := v_str ry; exact RcNeAt.tuple_str b t p hu0
      | tup m =>
        obtain ⟨b, its', rfl, rl', p'⟩ := rd_tup I ry
        have key : RcNeAt A s (.ref a) (.ref b) (!deq (.tup l) (.tup m)) := by
          have := RcNeAt.tuples (e := fun i => deq (l.getD i .non) (m.getD i .non)) p p' hu0 fun j h1 h2 => by
            have h1' : j < its.length := by simpa using h1
            have h2' : j < its'.length := by simpa using h2
            obtain ⟨x, ex, rx'⟩ := rl.get (List.getElem?_eq_getElem h1')
            obtain ⟨y, ey, ry'⟩ := rl'.get (List.getElem?_eq_getElem h2')
            have q := eq_core I n hu1 (List.all_eq_true.mp hx x (List.mem_of_getElem? ex)) (List.all_eq_true.mp hy y (List.mem_of_getElem? ey)) rx'.rd ry'.rd
            have e1 : l.getD j .non = x := by rw [List.getD_eq_getElem?_getD, ex]; rfl
            have e2 : m.getD j .non = y := by rw [List.getD_eq_getElem?_getD, ey]; rfl
            rw [e1, e2]
            simpa using q.1
          have e : deq (.tup l) (.tup m) = ((List.range (min its.toArray.size its'.toArray.size)).all (fun i => deq (l.getD i .non) (m.getD i .non)) && its.toArray.size == its'.toArray.size) := by
            simp only [deq, deqs_range, List.size_toArray, rl.length, rl'.length]
          rw [e]; exact this
        exact key
      | fls m =>
        obtain ⟨b, its', rfl, rl', p'⟩ := rd_lst I ry
        exact RcNeAt.tuple_list p p' hu0
      | _ => cases hy
    | fls l =>
      obtain ⟨a, its, rfl, rl, p⟩ := rd_lst I rx
      cases y with
      | non => rw [v_non ry]; exact RcNeAt.list_none p hu0
      | bl b => rw [v_bl ry]; exact RcNeAt.list_bool b p hu0
      | int b => obtain ⟨t, rfl⟩ := v_int ry; exact RcNeAt.list_int b t p hu0
      | str b => obtain ⟨t, rfl⟩ := v_str ry; exact RcNeAt.list_str b t p hu0
      | tup m =>
        obtain ⟨b, its', rfl, rl', p'⟩ := rd_tup I ry
        exact RcNeAt.list_tuple p p' hu0
      | fls m =>
        obtain ⟨b, its', rfl, rl', p'⟩ := rd_lst I ry
        have key : RcNeAt A s (.ref a) (.ref b) (!deq (.fls l) (.fls m)) := by
          by_cases hs : its.length = its'.length
          · have := RcNeAt.lists (e := fun i => deq (l.getD i .non) (m.getD i .non)) p p' (by simpa using hs) hu0 fun j h1 h2 => by
              have h1' : j < its.length := by simpa using h1
              have h2' : j < its'.length := by simpa using h2
              obtain ⟨x, ex, rx'⟩ := rl.get (List.getElem?_eq_getElem h1')
              obtain ⟨y, ey, ry'⟩ := rl'.get (List.getElem?_eq_getElem h2')
              have q := eq_core I n hu1 (List.all_eq_true.mp hx x (List.mem_of_getElem? ex)) (List.all_eq_true.mp hy y (List.mem_of_getElem? ey)) rx'.rd ry'.rd
              have e1 : l.getD j .non = x := by rw [List.getD_eq_getElem?_getD, ex]; rfl
              have e2 : m.getD j .non = y := by rw [List.getD_eq_getElem?_getD, ey]; rfl
              rw [e1, e2]
              simpa using q.1
            have e : deq (.fls l) (.fls m) = (List.range its.toArray.size).all (fun i => deq (l.getD i .non) (m.getD i .non)) := by
              have e0 : l.length = m.length := by rw [← rl.length, ← rl'.length]; exact hs
              simp [deq, deqs_range, rl.length, e0]
            rw [e]; exact this
          · have e : deq (.fls l) (.fls m) = false := by
              have e0 : l.length ≠ m.length := by rw [← rl.length, ← rl'.length]; exact hs
              simp [deq, deqs_range, e0]
            rw [e]
            exact RcNeAt.lists_lengths p p' (by simpa using hs) hu0
        exact key
      | _ => cases hy
    | ref a => cases hx
    | oth a => cases hx
    | non =>
      cases y with
      | tup m => obtain ⟨b, its', rfl, rl', p'⟩ := rd_tup I ry; rw [v_non rx]; exact RcNeAt.none_tuple p' hu0
      | fls m => obtain ⟨b, its', rfl, rl', p'⟩ := rd_lst I ry; rw [v_non rx]; exact RcNeAt.none_list p' hu0
      | ref a => cases hy
      | oth a => cases hy
      | _ => exact ih (by omega) (by cases n <;> rfl) (by cases n <;> rfl) rx ry
    | bl i =>
      cases y with
      | tup m => obtain ⟨b, its', rfl, rl', p'⟩ := rd_tup I ry; rw [v_bl rx]; exact RcNeAt.bool_tuple i p' hu0
      | fls m => obtain ⟨b, its', rfl, rl', p'⟩ := rd_lst I ry; rw [v_bl rx]; exact RcNeAt.bool_list i p' hu0
      | ref a => cases hy
      | oth a => cases hy
      | _ => exact ih (by omega) (by cases n <;> rfl) (by cases n <;> rfl) rx ry
    | int i =>
      cases y with
      | tup m => obtain ⟨b, its', rfl, rl', p'⟩ := rd_tup I ry; obtain ⟨t, rfl⟩ := v_int rx; exact RcNeAt.int_tuple i t p' hu0
      | fls m => obtain ⟨b, its', rfl, rl', p'⟩ := rd_lst I ry; obtain ⟨t, rfl⟩ := v_int rx; exact RcNeAt.int_list i t p' hu0
      | ref a => cases hy
      | oth a => cases hy
      | _ => exact ih (by omega) (by cases n <;> rfl) (by cases n <;> rfl) rx ry
    | str i =>
      cases y with
      | tup m => obtain ⟨b, its', rfl, rl', p'⟩ := rd_tup I ry; obtain ⟨t, rfl⟩ := v_str rx; exact RcNeAt.str_tuple i t p' hu0
      | fls m => obtain ⟨b, its', rfl, rl', p'⟩ := rd_lst I ry; obtain ⟨t, rfl⟩ := v_str rx; exact RcNeAt.str_list i t p' hu0
      | ref a => cases hy
      | oth a => cases hy
      | _ => exact ih (by omega) (by cases n <;> rfl) (by cases n <;> rfl) rx ry

def RDv (K : PySem.W.Frag) (H : Hp) (d : PV) (x : V) : Prop := match d with
  | .fls l => ∃ a vs, x = .ref a ∧ SqL K H a vs ∧ RPs K H l vs
  | d => RP K H d x
theorem RDv.rd {K : PySem.W.Frag} {d : PV} {x : V} {u : Value} (h : RDv K H d x) (r : L2.RelV x u) : RD K H d u := by
  cases d with
  | fls l => obtain ⟨a, vs, rfl, q, rr⟩ := h; cases r; exact ⟨a, vs, rfl, q, rr⟩
  | _ => exact ⟨x, h, r⟩
def withD (x : PV) (H : PHp) (k : PV → Prop) : Prop := match x with
  | .ref a => ∃ l, H a = some (.lst l) ∧ k (.fls l)
  | x => k x
theorem withD.ex {K : PySem.W.Frag} {σ' : St'} {x : PV} {v : V} {H' : PHp} {k : PV → Prop} (h : withD x H' k) (s : SR K B σ' H' σ H) (r : RP K H x v) : ∃ d, RDv K H d v ∧ k d := by
  cases x with
  | ref a =>
    obtain ⟨l, e, h⟩ := h
    obtain ⟨us, q, r2⟩ := s.hp _ _ e
    simp only [RP] at r
    exact ⟨.fls l, ⟨a, us, r, SqL.of q, r2⟩, h⟩
  | fls l =>
    simp only [RP] at r
    obtain ⟨a, us, e, q, r⟩ := r
    exact ⟨.fls l, ⟨a, us, e, q.sq, r⟩, h⟩
  | non => exact ⟨.non, r, h⟩
  | bl b => exact ⟨.bl b, r, h⟩
  | int b => exact ⟨.int b, r, h⟩
  | str b => exact ⟨.str b, r, h⟩
  | tup b => exact ⟨.tup b, r, h⟩
  | oth b => exact ⟨.oth b, r, h⟩
def rEqU (K : PySem.W.Frag) (g : Bool → Bool) : R2 := fun x y H Q => ∃ d1 d2, flat 9 d1 = true ∧ flat 9 d2 = true ∧ RDv K H d1 x ∧ RDv K H d2 y ∧ Q (.bl (g (deq d1 d2))) H
theorem op_eqU (hu : X.A.units + 64 < cLine) : OpR X (compareOp .Eq) (rEqU X.K fun b => b) := by
  intro pins s σ H x y v u Q I rx ry h
  obtain ⟨d1, d2, f1, f2, r1, r2, q⟩ := h
  exact (eq_core I 9 (by omega) f1 f2 (r1.rd rx) (r2.rd ry)).2 _ _ _ _ ⟨.bl _, H, I, rfl, q⟩
theorem op_neU (hu : X.A.units + 64 < cLine) : OpR X (compareOp .NotEq) (rEqU X.K fun b => !b) := by
  intro pins s σ H x y v u Q I rx ry h
  obtain ⟨d1, d2, f1, f2, r1, r2, q⟩ := h
  exact ne_core I 9 (by omega) f1 f2 (r1.rd rx) (r2.rd ry) _ _ _ _ ⟨.bl _, H, I, rfl, q⟩
def uEqG (g : Bool → Bool) : R2' := fun x y H Q => withD x H fun d1 => withD y H fun d2 => flat 9 d1 = true ∧ flat 9 d2 = true ∧ Q (.bl (g (deq d1 d2))) H
theorem vr_eq {K : PySem.W.Frag} {g : Bool → Bool} : VR K B (uEqG g) (rEqU K g) := by
  intro σ' σ H' H x' y' x y Q' Q s rx ry h k
  obtain ⟨d1, r1, h1⟩ := withD.ex h s rx
  obtain ⟨d2, r2, f1, f2, q⟩ := withD.ex h1 s ry
  exact ⟨d1, d2, f1, f2, r1, r2, k _ H' _ H q (by simp [RP]) s (Ev.refl _ _)⟩
def rInU (K : PySem.W.Frag) (g : Bool → Bool) : R2 := fun x y H Q => ∃ d p l us, flat 8 d = true ∧ RDv K H d x ∧ y = .ref p ∧ l.all (flat 8) = true ∧ RPs K H l us ∧ (SqL K H p us ∨ SqT K H p us) ∧ Q (.bl (g (l.any fun z => deq z d))) H
open Classical in
theorem in_items (I : Inv X pins σ H s) {A : Around} {d : PV} {v : Value} {l : List PV} {its : List Value} (hu : A.units + 20 < cLine) (fd : flat 8 d = true) (rd : RD X.K H d v) (fl : l.all (flat 8) = true) (rl : RL X.K H l its) :
    ∃ e : Value → Bool, (∀ y, y ∈ its.toArray → SeqAt.EqAt A.in1 s y v (e y)) ∧ its.toArray.any e = l.any fun z => deq z d := by
  refine ⟨fun u => decide (∃ z, flat 8 z = true ∧ RD X.K H z u ∧ deq z d = true), fun y hy => ?_, ?_⟩
  · have hy' : y ∈ its := by simpa using hy
    obtain ⟨i, hi⟩ := List.mem_iff_getElem?.mp hy'
    obtain ⟨z, ez, rz⟩ := rl.get hi
    have fz := List.all_eq_true.mp fl z (List.mem_of_getElem? ez)
    have q := (eq_core I 8 (A := A.in1) (by show A.units + 1 + 8 < cLine; omega) fz fd rz.rd rd).1
    have e : decide (∃ z, flat 8 z = true ∧ RD X.K H z y ∧ deq z d = true) = deq z d := by
      rw [Bool.eq_iff_iff, decide_eq_true_iff]
      constructor
      · rintro ⟨z', f', r', e'⟩
        rw [rd_inj I 8 fz f' rz.rd r']; exact e'
      · intro e; exact ⟨z, fz, rz.rd, e⟩
    show SeqAt.EqAt A.in1 s y v (decide _)
    rw [e]; exact q
  · rw [Bool.eq_iff_iff]
    simp only [List.any_toArray, List.any_eq_true, decide_eq_true_iff]
    constructor
    · rintro ⟨u, hu', z, fz, rz, ez⟩
      obtain ⟨i, hi⟩ := List.mem_iff_getElem?.mp hu'
      obtain ⟨z2, ez2, rz2⟩ := rl.get hi
      have fz2 := List.all_eq_true.mp fl z2 (List.mem_of_getElem? ez2)
      refine ⟨z2, List.mem_of_getElem? ez2, ?_⟩
      rw [rd_inj I 8 fz2 fz rz2.rd rz]; exact ez
    · rintro ⟨z, hz, ez⟩
      obtain ⟨i, hi⟩ := List.mem_iff_getElem?.mp hz
      have hlt : i < its.length := by
        have := (List.getElem?_eq_some_iff.mp hi).1
        rw [rl.length]; exact this
      obtain ⟨z2, ez2, rz2⟩ := rl.get (List.getElem?_eq_getElem hlt)
      rw [hi] at ez2; cases ez2
      exact ⟨_, List.getElem_mem hlt, z, List.all_eq_true.mp fl z hz, rz2.rd, ez⟩
theorem op_inU (hu : X.A.units + 64 < cLine) : OpR X (compareOp .In) (rInU X.K fun b => b) := by
  intro pins s σ H x y v u Q I rx ry h
  obtain ⟨d, p, l, us, fd, rd, rfl, fl, rl, hq, q⟩ := h
  cases ry
  rcases hq with hq | hq
  · obtain ⟨its, rv, pl, _⟩ := I.list hq
    obtain ⟨e, h1, h2⟩ := in_items I (A := X.A) (by omega) fd (rd.rd rx) fl ⟨us, rl, rv⟩
    exact SeqAt.in_listAt e pl.isList h1 (by rw [h2]; exact ⟨.bl _, H, I, rfl, q⟩)
  · obtain ⟨its, rv, pl, _⟩ := I.tuple hq
    obtain ⟨e, h1, h2⟩ := in_items I (A := X.A) (by omega) fd (rd.rd rx) fl ⟨us, rl, rv⟩
    exact SeqAt.in_tupleAt e pl h1 (by rw [h2]; exact ⟨.bl _, H, I, rfl, q⟩)
theorem op_notInU (hu : X.A.units + 64 < cLine) : OpR X (compareOp .NotIn) (rInU X.K fun b => !b) := by
  intro pins s σ H x y v u Q I rx ry h
  obtain ⟨d, p, l, us, fd, rd, rfl, fl, rl, hq, q⟩ := h
  cases ry
  rcases hq with hq | hq
  · obtain ⟨its, rv, pl, _⟩ := I.list hq
    obtain ⟨e, h1, h2⟩ := in_items I (A := X.A) (by omega) fd (rd.rd rx) fl ⟨us, rl, rv⟩
    exact SeqAt.notIn_listAt e pl.isList h1 (by rw [h2]; exact ⟨.bl _, H, I, rfl, q⟩)
  · obtain ⟨its, rv, pl, _⟩ := I.tuple hq
    obtain ⟨e, h1, h2⟩ := in_items I (A := X.A) (by omega) fd (rd.rd rx) fl ⟨us, rl, rv⟩
    exact SeqAt.notIn_tupleAt e pl h1 (by rw [h2]; exact ⟨.bl _, H, I, rfl, q⟩)
def uInG (g : Bool → Bool) : R2' := fun x y H Q => withD x H fun d => withS y H fun l => flat 8 d = true ∧ l.all (flat 8) = true ∧ Q (.bl (g (l.any fun z => deq z d))) H
theorem vr_in {K : PySem.W.Frag} {g : Bool → Bool} : VR K B (uInG g) (rInU K g) := by
  intro σ' σ H' H x' y' x y Q' Q s rx ry h k
  obtain ⟨d1, r1, h1⟩ := withD.ex h s rx
  obtain ⟨l, us, p, rfl, r2, hq, f1, f2, q⟩ := withS.ex h1 s ry
  exact ⟨d1, p, l, us, f1, r1, rfl, f2, r2, hq, k _ H' _ H q (by simp [RP]) s (Ev.refl _ _)⟩
def uIsN (g : Bool → Bool) : R2' := fun x y H Q => match y, x with
  | .non, .non => Q (.bl (g true)) H
  | .non, .oth _ => False
  | .non, _ => Q (.bl (g false)) H
  | _, _ => False
theorem isN_ex {K : PySem.W.Frag} {g : Bool → Bool} {x y : PV} {v w : V} {H' : PHp} {Q' : VK'} (h : uIsN g x y H' Q') (rx : RP K H x v) (ry : RP K H y w) : w = .non ∧ Q' (.bl (g (decide (v = .non)))) H' := by
  cases y with
  | non =>
    simp only [RP] at ry
    refine ⟨ry, ?_⟩
    cases x with
    | non => simp only [RP] at rx; subst rx; exact h
    | oth _ => exact h.elim
    | tup l =>
      simp only [RP] at rx
      obtain ⟨a, us, rfl, _⟩ := rx
      exact h
    | fls l =>
      simp only [RP] at rx
      obtain ⟨a, us, rfl, _⟩ := rx
      exact h
    | _ => simp only [RP] at rx; subst rx; exact h
  | _ => cases x <;> exact h.elim
theorem vr_isN {K : PySem.W.Frag} : VR K B (uIsN fun b => b) (fun x y H Q => y = .non ∧ Q (.bl (decide (x = .non))) H) := by
  intro σ' σ H' H x' y' x y Q' Q s rx ry h k
  obtain ⟨e, q⟩ := isN_ex h rx ry
  exact ⟨e, k _ H' _ H q (by simp [RP]) s (Ev.refl _ _)⟩
theorem vr_notN {K : PySem.W.Frag} : VR K B (uIsN fun b => !b) (fun x y H Q => y = .non ∧ Q (.bl (!decide (x = .non))) H) := by
  intro σ' σ H' H x' y' x y Q' Q s rx ry h k
  obtain ⟨e, q⟩ := isN_ex h rx ry
  exact ⟨e, k _ H' _ H q (by simp [RP]) s (Ev.refl _ _)⟩
inductive BT where | non | bool | int | str | list | tuple
def BT.nm : BT → String | .non => "NoneType" | .bool => "bool" | .int => "int" | .str => "str" | .list => "list" | .tuple => "tuple"
def BT.sub : BT → BT → Bool
  | .non, .non => true | .bool, .bool => true | .int, .int => true | .str, .str => true | .list, .list => true | .tuple, .tuple => true
  | .bool, .int => true
  | _, _ => false
theorem kit_bt (K : PySem.W.Frag) (t c : BT) : PySem.W.kitOne K (.type t.nm) (.type c.nm) = some (t.sub c) := by
  cases t <;> cases c <;> kernel_rfl
def btV (K : PySem.W.Frag) (H : Hp) (t : BT) (x : V) : Prop := match t with
  | .non => x = .non
  | .bool => ∃ b, x = .bl b
  | .int => ∃ b, x = .int b
  | .str => ∃ b, x = .str b
  | .list => ∃ a us, x = .ref a ∧ SqL K H a us
  | .tuple => ∃ a us, x = .ref a ∧ SqT K H a us
theorem call_isiB (c : BT) : CallR X (.builtin "isinstance") (fun xs H Q => ∃ x t, xs = [x, .ty c.nm] ∧ btV X.K H t x ∧ Q (.bl (t.sub c)) H) := by
  intro pins s σ H xs us Q I r h
  obtain ⟨x, t, rfl, ht, q⟩ := h
  obtain ⟨u, w', rfl, rx, rc⟩ := vals2 r
  have e1 : w' = Value.type c.nm := rc
  subst e1
  have k := kit_bt X.K t c
  have fin : ∀ tk, EP X pins σ Q (.bool (t.sub c)) { s with toks := tk } := fun tk => ⟨.bl _, H, I.tok _, rfl, q⟩
  cases t with
  | non => cases (show x = V.non from ht); exact isinst_ok I rx .non k fin
  | bool => obtain ⟨b, rfl⟩ := ht; exact isinst_ok I rx (.bl b) k fin
  | int => obtain ⟨b, rfl⟩ := ht; exact isinst_ok I rx (.int b) k fin
  | str => obtain ⟨b, rfl⟩ := ht; exact isinst_ok I rx (.str b) k fin
  | list =>
    obtain ⟨a, us, rfl, hq⟩ := ht
    cases rx
    obtain ⟨its, rv, pl, _⟩ := I.list hq
    obtain ⟨o, e, hc, _⟩ := pl.isList
    exact PySem.W.kia_one PySem.W.kitx_list I.kIn ⟨o, e, hc⟩ k (fun z => nomatch z) fin
  | tuple =>
    obtain ⟨a, us, rfl, hq⟩ := ht
    cases rx
    obtain ⟨its, rv, pl, _⟩ := I.tuple hq
    obtain ⟨o, e, hc, _⟩ := pl
    exact PySem.W.kia_one PySem.W.kitx_tuple I.kIn ⟨o, e, hc⟩ k (fun z => nomatch z) fin
def withTy (x : PV) (H : PHp) (k : BT → Prop) : Prop := match x with
  | .non => k .non
  | .bl _ => k .bool
  | .int _ => k .int
  | .str _ => k .str
  | .tup _ => k .tuple
  | .fls _ => k .list
  | .ref a => ∃ l, H a = some (.lst l) ∧ k .list
  | _ => False
theorem withTy.ex {K : PySem.W.Frag} {σ' : St'} {x : PV} {v : V} {H' : PHp} {k : BT → Prop} (h : withTy x H' k) (s : SR K B σ' H' σ H) (r : RP K H x v) : ∃ t, btV K H t v ∧ k t := by
  cases x with
  | non => simp only [RP] at r; exact ⟨.non, r, h⟩
  | bl b => simp only [RP] at r; exact ⟨.bool, ⟨b, r⟩, h⟩
  | int b => simp only [RP] at r; exact ⟨.int, ⟨b, r⟩, h⟩
  | str b => simp only [RP] at r; exact ⟨.str, ⟨b, r⟩, h⟩
  | tup l => simp only [RP] at r; obtain ⟨a, us, e, q, _⟩ := r; exact ⟨.tuple, ⟨a, us, e, q⟩, h⟩
  | fls l => simp only [RP] at r; obtain ⟨a, us, e, q, _⟩ := r; exact ⟨.list, ⟨a, us, e, q.sq⟩, h⟩
  | ref a =>
    simp only [RP] at r
    obtain ⟨l, e, h⟩ := h
    obtain ⟨us, q, _⟩ := s.hp _ _ e
    exact ⟨.list, ⟨a, us, r, SqL.of q⟩, h⟩
  | oth _ => exact h.elim
def uIsi (c : BT) : List PV → PHp → VK' → Prop := fun xs H Q => match xs with
  | [x, .oth (.ty n)] => n = c.nm ∧ withTy x H fun t => Q (.bl (t.sub c)) H
  | _ => False
theorem vc_isi {K : PySem.W.Frag} (c : BT) : VC K B (uIsi c) (fun xs H Q => ∃ x t, xs = [x, .ty c.nm] ∧ btV K H t x ∧ Q (.bl (t.sub c)) H) := by
  intro σ' σ H' H xs' xs Q' Q s r h k
  unfold uIsi at h
  split at h
  · rename_i x n
    obtain ⟨rfl, h⟩ := h
    simp only [RPs, RP] at r
    obtain ⟨u, r1, rfl, rx, w, r2, rfl, rfl, rfl⟩ := r
    obtain ⟨t, bt, h⟩ := withTy.ex h s rx
    exact ⟨u, t, rfl, bt, k _ H' _ H h (by simp [RP]) s (Ev.refl _ _)⟩
  · exact h.elim
theorem qe_bty {x : Str} {n : String} {pos : Pos} (hg : Gl X x) (hm : X.mg x = none) (hv : bootBuiltins x = some (.type n)) (hn : x ≠ "__name__" := by decide) (hd : (x == ("__debug__" : Str)) = false := by decide) : PE' X B (.Name x pos) (uC (.oth (.ty n))) :=
  pe_imp (pe_bltn (v := .ty n) hg hm hv rfl hn hd) fun _ _ _ h => lowC (fun _ => by simp [RP]) h
variable {e o : Expr} {es : List Expr} {to : TE'} {t : TA'} {name : Str} {apos cpos : Pos}
def isL (x : PV) (H1 : PHp) : Prop := match x with
  | .ref a => ∃ l, H1 a = some (.lst l)
  | _ => False
def uBM (r : PV → List PV → PHp → VK' → Prop) (to : TE') (t : TA') : TE' := fun σ H Q => to σ H fun x H1 => isL x H1 ∧ t σ H1 fun xs H2 => r x xs H2 Q
def uBM0 (r : PV → List PV → PHp → VK' → Prop) (to : TE') : TE' := fun σ H Q => to σ H fun x H1 => r x [] H1 Q
def VM (K : PySem.W.Frag) (B : Bs) (r' : PV → List PV → PHp → VK' → Prop) (r : V → List V → Hp → VK → Prop) : Prop := ∀ (σ' : St') (σ : L2.St) (H' : PHp) (H : Hp) x' xs' x xs (Q' : VK') (Q : VK), SR K B σ' H' σ H → RP K H x' x → RPs K H xs' xs → r' x' xs' H' Q' →
  (∀ v' H1' v H1, Q' v' H1' → RP K H1 v' v → SR K B σ' H1' σ H1 → Ev H' H H1' H1 → Q v H1) → r x xs H Q
theorem low_bm {K : PySem.W.Frag} {r' : PV → List PV → PHp → VK' → Prop} {r : V → List V → Hp → VK → Prop} (v : VM K B r' r) {σ : L2.St} {H : Hp} {Q : VK} (h : low K B (uBM r' to t) σ H Q) : tBM K "list" r (low K B to) (lowA K B t) σ H Q := by
  obtain ⟨σ', H', Q', s, h, k⟩ := h
  refine ⟨σ', H', _, s, h, fun x' H1' x H1 h1 rx s1 e1 => ?_⟩
  obtain ⟨ty, h1⟩ := h1
  constructor
  · cases x' with
    | ref a =>
      obtain ⟨l, e⟩ := ty
      obtain ⟨us, q, _⟩ := s1.hp _ _ e
      simp only [RP] at rx
      subst rx
      exact .inl ⟨rfl, us, SqL.of q⟩
    | _ => exact ty.elim
  · refine ⟨σ', H1', _, s1, h1, fun xs' H2' xs H2 h2 r2 s2 e2 => ?_⟩
    exact v σ' σ H2' H2 x' xs' x xs Q' Q s2 (RP.kp K (e2.kp s1.hp) rx) r2 h2 fun v' H3' v H3 q rv s3 e3 => k v' H3' v H3 q rv s3 (e1.trans (e2.trans e3))
theorem qe_bm {id : String} {r' : PV → List PV → PHp → VK' → Prop} {r : V → List V → Hp → VK → Prop} (slot : Slot "list" name id) (hty : typeOf (.builtin id) = pure (.type "method_descriptor")) (hm : MtR X id r) (v : VM X.K B r' r) (ho : PE' X B o to) (ha : PA' X B (e :: es) t)
    (hbase : attributeBase o name X.env (eval o X.env) = eval o X.env := by rfl)
    (hfew : ((backTo cpos (starEach (e :: es) X.env)).all (fun x => !x.1) && (backToKw cpos (keywordEach [] X.env)).all (fun x => x.1.isSome)
      && decide ((e :: es).length + ([] : List Keyword).length + (if ([] : List Keyword).isEmpty then 0 else 1) < 30)) = true := by rfl)
    (hline : (apos.endLine == cpos.line) = true := by rfl) (hs : starEach (e :: es) X.env = (false, eval e X.env) :: starEach es X.env := by rfl) (hplain : (backTo cpos (starEach es X.env)).any (·.1) = false := by rfl) :
    PE' X B (.Call (.Attribute o name apos) (e :: es) [] cpos) (uBM r' to t) := pe_imp (pe_bm PySem.F.plainAttrs_list slot hty hm ho ha hbase hfew hline hs hplain) fun _ _ _ h => low_bm v h
theorem qe_bm0 {id : String} {r' : PV → List PV → PHp → VK' → Prop} {r : V → List V → Hp → VK → Prop} (slot : Slot "list" name id) (hty : typeOf (.builtin id) = pure (.type "method_descriptor")) (hm : MtR X id r) (v : VM X.K B r' r)
    (hl : ∀ x H Q, r' x [] H Q → match x with | .ref a => ∃ l, H a = some (.lst l) | _ => False) (ho : PE' X B o to)
    (hbase : attributeBase o name X.env (eval o X.env) = eval o X.env := by rfl) (hline : (apos.endLine == cpos.line) = true := by rfl) :
    PE' X B (.Call (.Attribute o name apos) [] [] cpos) (uBM0 r' to) := pe_imp (pe_bm0 PySem.F.plainAttrs_list slot hty hm ho hbase hline) fun σ H Q h => by
  obtain ⟨σ', H', Q', s, h, k⟩ := h
  refine ⟨σ', H', _, s, h, fun x' H1' x H1 h1 rx s1 e1 => ?_⟩
  constructor
  · have ty := hl _ _ _ h1
    cases x' with
    | ref a =>
      obtain ⟨l, e⟩ := ty
      obtain ⟨us, q, _⟩ := s1.hp _ _ e
      simp only [RP] at rx
      subst rx
      exact .inl ⟨rfl, us, SqL.of q⟩
    | _ => exact ty.elim
  · exact v σ' σ H1' H1 x' [] x [] Q' Q s1 rx (RPs.nil _) h1 fun v' H3' v H3 q rv s3 e3 => k v' H3' v H3 q rv s3 (e1.trans e3)
def uAppend : PV → List PV → PHp → VK' → Prop := fun x vs H Q => match x, vs with
  | .ref a, [y] => ∃ l, H a = some (.lst l) ∧ l.length < sizeLine ∧ Q .non (put H a (.lst (l ++ [y])))
  | _, _ => False
theorem vm_append {K : PySem.W.Frag} : VM K B uAppend rAppend := by
  intro σ' σ H' H x' xs' x xs Q' Q s rx r h k
  unfold uAppend at h
  split at h
  · rename_i a y
    obtain ⟨l, e, hl, h⟩ := h
    obtain ⟨us, q, r2⟩ := s.hp _ _ e
    simp only [RP, RPs] at rx r
    obtain ⟨u, r1, rfl, ru, rfl⟩ := r
    subst rx
    exact ⟨a, us, u, rfl, rfl, q, by rw [RPs.length _ r2]; exact hl, k _ _ _ _ h (by simp [RP]) (s.wr e (wrL s.hp e (RPs.append _ r2 (RPs.cons _ ru (RPs.nil _))))) (Ev.wr e)⟩
  · exact h.elim
def uExtend : PV → List PV → PHp → VK' → Prop := fun x vs H Q => match x, vs with
  | .ref a, [.ref b] => ∃ l m, H a = some (.lst l) ∧ H b = some (.lst m) ∧ l.length + m.length ≤ sizeLine ∧ Q .non (put H a (.lst (l ++ m)))
  | _, _ => False
theorem vm_extend {K : PySem.W.Frag} : VM K B uExtend rExtend := by
  intro σ' σ H' H x' xs' x xs Q' Q s rx r h k
  unfold uExtend at h
  split at h
  · rename_i a b
    obtain ⟨l, m, e, e2, hl, h⟩ := h
    obtain ⟨us, q, r2⟩ := s.hp _ _ e
    obtain ⟨ws, q2, r3⟩ := s.hp _ _ e2
    simp only [RP, RPs] at rx r
    obtain ⟨u, r1, rfl, ru, rfl⟩ := r
    subst rx; subst ru
    exact ⟨a, b, us, ws, rfl, rfl, q, q2, by rw [RPs.length _ r2, RPs.length _ r3]; exact hl, k _ _ _ _ h (by simp [RP]) (s.wr e (wrL s.hp e (RPs.append _ r2 r3))) (Ev.wr e)⟩
  · exact h.elim
def uPop : PV → List PV → PHp → VK' → Prop := fun x vs H Q => match x, vs with
  | .ref a, [] => ∃ l y, H a = some (.lst l) ∧ l[l.length - 1]? = some y ∧ Q y (put H a (.lst l.dropLast))
  | _, _ => False
theorem vm_pop {K : PySem.W.Frag} : VM K B uPop rPop := by
  intro σ' σ H' H x' xs' x xs Q' Q s rx r h k
  unfold uPop at h
  split at h
  · rename_i a
    obtain ⟨l, y, e, hl, h⟩ := h
    obtain ⟨us, q, r2⟩ := s.hp _ _ e
    simp only [RP, RPs] at rx r
    subst rx; subst r
    obtain ⟨u, e1, e2⟩ := RPs.get _ r2 hl
    exact ⟨a, us, u, rfl, rfl, q, by rw [RPs.length _ r2]; exact e1, k _ _ _ _ h (RP.kp _ (s.hp.kpw e) e2) (s.wr e (wrL s.hp e (RPs.dropLast _ r2))) (Ev.wr e)⟩
  · exact h.elim
end
end U


set_option linter.all false
set_option maxRecDepth 100000
set_option maxHeartbeats 4000000
namespace U
open PySem L2
variable {B : Bs}
theorem rngL_drop (lo : Int) (n i : Nat) (h : i < n) : (rngL lo n).drop i = PV.int (lo + (i : Nat)) :: (rngL lo n).drop (i + 1) := by
  have hl : i < (rngL lo n).length := by simpa [rngL] using h
  rw [List.drop_eq_getElem_cons hl]
  simp [rngL]
theorem rngL_end (lo : Int) (n : Nat) : (rngL lo n).drop n = [] := by
  apply List.drop_of_length_le
  simp [rngL]
theorem for_rng {ok : PHp → Prop} {g : TG'} {tb : TS'} {D : Ends'} {lo : Int} {n : Nat} (Pv : Nat → St' → PHp → Prop) (hd : ∀ σ H, Pv n σ H → ok H ∧ D.nx σ H)
    (hs : ∀ (G : St' → PHp → Prop) i σ H, i < n → Pv i σ H → (∀ σ' H', Pv (i + 1) σ' H' → G σ' H') → ok H ∧ g (.int (lo + (i : Nat))) σ H fun σ2 H2 => tb { D with nx := G, ct := G, bk := D.nx } σ2 H2)
    {σ : St'} {H : PHp} (h0 : Pv 0 σ H) : uForL ok g tb D (rngL lo n) σ H := by
  have key : ∀ (k i : Nat) {σ : St'} {H : PHp}, i + k = n → Pv i σ H → uForL ok g tb D ((rngL lo n).drop i) σ H := by
    intro k
    induction k with
    | zero =>
      intro i σ H hk p
      have : i = n := hk
      subst this
      rw [rngL_end]
      exact hd σ H p
    | succ k ih =>
      intro i σ H hk p
      have hi : i < n := hk ▸ Nat.lt_add_of_pos_right (Nat.succ_pos k)
      rw [rngL_drop lo n i hi]
      exact hs _ i σ H hi p fun σ' H' p' => ih (i + 1) ((Nat.succ_add_eq_add_succ i k).trans hk) p'
  exact key n 0 (Nat.zero_add n) h0
theorem for_at {ok : PHp → Prop} {g : TG'} {tb : TS'} {D : Ends'} {xs : List PV} (Pv : Nat → St' → PHp → Prop) (hd : ∀ σ H, Pv xs.length σ H → ok H ∧ D.nx σ H)
    (hs : ∀ (G : St' → PHp → Prop) i x σ H, xs[i]? = some x → Pv i σ H → (∀ σ' H', Pv (i + 1) σ' H' → G σ' H') → ok H ∧ g x σ H fun σ2 H2 => tb { D with nx := G, ct := G, bk := D.nx } σ2 H2)
    {σ : St'} {H : PHp} (h0 : Pv 0 σ H) : uForL ok g tb D xs σ H := by
  have key : ∀ (k i : Nat) {σ : St'} {H : PHp}, xs.length - i = k → i ≤ xs.length → Pv i σ H → uForL ok g tb D (xs.drop i) σ H := by
    intro k
    induction k with
    | zero =>
      intro i σ H hk hi p
      have : i = xs.length := by omega
      subst this
      rw [List.drop_length]
      exact hd σ H p
    | succ k ih =>
      intro i σ H hk hi p
      have hl : i < xs.length := by omega
      rw [List.drop_eq_getElem_cons hl]
      exact hs _ i _ σ H (List.getElem?_eq_getElem hl) p fun σ' H' p' => ih (i + 1) (by omega) (by omega) p'
  have := key xs.length 0 (by omega) (by omega) h0
  simpa using this
theorem atI_int {m : List Int} {z : Int} (h0 : 0 ≤ z) (h1 : z < m.length) : atI (m.map PV.int) z = some (.int (m.getD z.toNat 0)) := by
  unfold atI ixN
  rw [if_pos h0, List.length_map, if_pos h1]
  show (m.map PV.int)[z.toNat]? = _
  rw [List.getElem?_map, List.getD_eq_getElem?_getD]
  have : z.toNat < m.length := by omega
  rw [List.getElem?_eq_getElem this]
  rfl
theorem w_V {v : PV} {k : PV → Prop} : withV (some (some v)) k = k v := rfl
theorem w_B {b : Bool} {k : Bool → Prop} : withB (.bl b) k = k b := rfl
theorem w_I {b : Int} {k : Int → Prop} : withI (.int b) k = k b := rfl
theorem w_O {b : PV} {k : PV → Prop} : withO (some b) k = k b := rfl
theorem w_St {l : List PV} {H : PHp} {k : List PV → Prop} : withS (.tup l) H k = k l := rfl
theorem w_Sf {l : List PV} {H : PHp} {k : List PV → Prop} : withS (.fls l) H k = k l := rfl
theorem w_Sr {a : Addr} {H : PHp} {k : List PV → Prop} : withS (.ref a) H k = ∃ l, H a = some (.lst l) ∧ k l := rfl
theorem w_Dr {a : Addr} {H : PHp} {k : PV → Prop} : withD (.ref a) H k = ∃ l, H a = some (.lst l) ∧ k (.fls l) := rfl
theorem w_Dn {H : PHp} {k : PV → Prop} : withD .non H k = k .non := rfl
theorem w_Db {b : Bool} {H : PHp} {k : PV → Prop} : withD (.bl b) H k = k (.bl b) := rfl
theorem w_Di {b : Int} {H : PHp} {k : PV → Prop} : withD (.int b) H k = k (.int b) := rfl
theorem w_Ds {b : Str} {H : PHp} {k : PV → Prop} : withD (.str b) H k = k (.str b) := rfl
theorem w_Dt {b : List PV} {H : PHp} {k : PV → Prop} : withD (.tup b) H k = k (.tup b) := rfl
theorem w_Df {b : List PV} {H : PHp} {k : PV → Prop} : withD (.fls b) H k = k (.fls b) := rfl
theorem w_Tn {H : PHp} {k : BT → Prop} : withTy .non H k = k .non := rfl
theorem w_Tb {b : Bool} {H : PHp} {k : BT → Prop} : withTy (.bl b) H k = k .bool := rfl
theorem w_Ti {b : Int} {H : PHp} {k : BT → Prop} : withTy (.int b) H k = k .int := rfl
theorem w_Ts {b : Str} {H : PHp} {k : BT → Prop} : withTy (.str b) H k = k .str := rfl
theorem w_Tt {b : List PV} {H : PHp} {k : BT → Prop} : withTy (.tup b) H k = k .tuple := rfl
theorem w_Tf {b : List PV} {H : PHp} {k : BT → Prop} : withTy (.fls b) H k = k .list := rfl
theorem w_Tr {a : Addr} {H : PHp} {k : BT → Prop} : withTy (.ref a) H k = ∃ l, H a = some (.lst l) ∧ k .list := rfl
theorem w_Ni {b : Int} {k : Int → Prop} : intOf (.int b) k = k b := rfl
theorem w_Nb {b : Bool} {k : Int → Prop} : intOf (.bl b) k = k (b2n b) := rfl
theorem w_Lf {l : List PV} {lo hi : Option Int} {H : PHp} {Q : VK'} : sliceOf (.fls l) lo hi H Q = ∀ p, H p = none → Q (.ref p) (put H p (.lst (cutP l lo hi))) := rfl
theorem w_Lr {a : Addr} {lo hi : Option Int} {H : PHp} {Q : VK'} : sliceOf (.ref a) lo hi H Q = ∃ l, H a = some (.lst l) ∧ ∀ p, H p = none → Q (.ref p) (put H p (.lst (cutP l lo hi))) := rfl
theorem w_Lt {l : List PV} {lo hi : Option Int} {H : PHp} {Q : VK'} : sliceOf (.tup l) lo hi H Q = (¬ (HT.sIx l.length 0 lo = 0 ∧ HT.sIx l.length l.length hi = l.length) ∧ Q (.tup (cutP l lo hi)) H) := rfl
theorem w_Xt {l : List PV} {H : PHp} {R : It' → PHp → Prop} : itOf (.tup l) H R = R ⟨l, fun _ => True⟩ H := rfl
theorem w_Xf {l : List PV} {H : PHp} {R : It' → PHp → Prop} : itOf (.fls l) H R = R ⟨l, fun _ => True⟩ H := rfl
theorem w_Xr {a : Addr} {H : PHp} {R : It' → PHp → Prop} : itOf (.ref a) H R = ∃ l, H a = some (.lst l) ∧ R ⟨l, fun H => H a = some (.lst l)⟩ H := rfl
theorem w_1 {f : PV → PHp → VK' → Prop} {x : PV} {H : PHp} {Q : VK'} : arg1 f [x] H Q = f x H Q := rfl
theorem w_isi {c : BT} {x : PV} {n : String} {H : PHp} {Q : VK'} : uIsi c [x, .oth (.ty n)] H Q = (n = c.nm ∧ withTy x H fun t => Q (.bl (t.sub c)) H) := rfl
theorem w_n0 {g : Bool → Bool} {H : PHp} {Q : VK'} : uIsN g .non .non H Q = Q (.bl (g true)) H := rfl
theorem w_n1 {g : Bool → Bool} {a : Addr} {H : PHp} {Q : VK'} : uIsN g (.ref a) .non H Q = Q (.bl (g false)) H := rfl
theorem w_n2 {g : Bool → Bool} {l : List PV} {H : PHp} {Q : VK'} : uIsN g (.tup l) .non H Q = Q (.bl (g false)) H := rfl
theorem w_n3 {g : Bool → Bool} {l : Int} {H : PHp} {Q : VK'} : uIsN g (.int l) .non H Q = Q (.bl (g false)) H := rfl
theorem w_n4 {g : Bool → Bool} {l : Bool} {H : PHp} {Q : VK'} : uIsN g (.bl l) .non H Q = Q (.bl (g false)) H := rfl
theorem w_vt {n : Nat} {t : TGs'} {l : List PV} {σ : St'} {H : PHp} {Q : St' → PHp → Prop} : vTup n t (.tup l) σ H Q = (l.length = n ∧ t l σ H Q) := rfl
theorem w_vc {t : TG'} {u : TGs'} {v : PV} {r : List PV} {σ : St'} {H : PHp} {Q : St' → PHp → Prop} : vCons t u (v :: r) σ H Q = t v σ H fun σ' H' => u r σ' H' Q := rfl
theorem w_vn {σ : St'} {H : PHp} {Q : St' → PHp → Prop} : vNil [] σ H Q = (True ∧ Q σ H) := by simp [vNil]
theorem w_r1 {t : TA'} {σ : St'} {H : PHp} {R : It' → PHp → Prop} : uRng1 t σ H R = t σ H fun vs H1 => rng1 vs H1 R := rfl
theorem w_r1' {j : Int} {H1 : PHp} {R : It' → PHp → Prop} : rng1 [.int j] H1 R = ((-(2 ^ 62) ≤ j ∧ j < 2 ^ 62) ∧ R ⟨rngL 0 j.toNat, fun _ => True⟩ H1) := rfl
theorem w_r2 {t : TA'} {σ : St'} {H : PHp} {R : It' → PHp → Prop} : uRng2 t σ H R = t σ H fun vs H1 => rng2 vs H1 R := rfl
theorem w_r2' {i j : Int} {H1 : PHp} {R : It' → PHp → Prop} : rng2 [.int i, .int j] H1 R = ((-(2 ^ 62) ≤ i ∧ i < 2 ^ 62 ∧ -(2 ^ 62) ≤ j ∧ j < 2 ^ 62) ∧ R ⟨rngL i (j - i).toNat, fun _ => True⟩ H1) := rfl
theorem w_ap {a : Addr} {y : PV} {H : PHp} {Q : VK'} : uAppend (.ref a) [y] H Q = ∃ l, H a = some (.lst l) ∧ l.length < sizeLine ∧ Q .non (put H a (.lst (l ++ [y]))) := rfl
theorem w_ex {a b : Addr} {H : PHp} {Q : VK'} : uExtend (.ref a) [.ref b] H Q = ∃ l m, H a = some (.lst l) ∧ H b = some (.lst m) ∧ l.length + m.length ≤ sizeLine ∧ Q .non (put H a (.lst (l ++ m))) := rfl
theorem w_po {a : Addr} {H : PHp} {Q : VK'} : uPop (.ref a) [] H Q = ∃ l y, H a = some (.lst l) ∧ l[l.length - 1]? = some y ∧ Q y (put H a (.lst l.dropLast)) := rfl
theorem w_bm {r : PV → List PV → PHp → VK' → Prop} {to : TE'} {t : TA'} {σ : St'} {H : PHp} {Q : VK'} : uBM r to t σ H Q = to σ H fun x H1 => isL x H1 ∧ t σ H1 fun xs H2 => r x xs H2 Q := rfl
theorem w_il {a : Addr} {H : PHp} : isL (.ref a) H = ∃ l, H a = some (.lst l) := rfl
theorem small_size {n : Nat} (h : n ≤ 1000) : n ≤ sizeLine := Nat.le_of_lt (small1000 h)
end U
namespace U
open PySem L2
theorem seq_abs {t u : TS'} {D : Ends'} {σ : St'} {H : PHp} (h : ∀ R : TS', R = u → uSeq t R D σ H) : uSeq t u D σ H := h u rfl
end U


set_option linter.all false
set_option maxRecDepth 100000
set_option maxHeartbeats 4000000
namespace U
open PySem PySem.Spec PyProof.Rows L2
def Ke (h h' : Heap) : Prop := ∀ b o, h.get? b = some o → ∃ o', h'.get? b = some o' ∧ o'.dict = o.dict
theorem Ke.refl (h : Heap) : Ke h h := fun _ o e => ⟨o, e, rfl⟩
theorem Ke.trans {h1 h2 h3 : Heap} (x : Ke h1 h2) (y : Ke h2 h3) : Ke h1 h3 := fun b o e => by
  obtain ⟨o', e1, q1⟩ := x b o e
  obtain ⟨o2, e2, q2⟩ := y b o' e1
  exact ⟨o2, e2, q2.trans q1⟩
def Kf (f : Obj → Obj) : Prop := ∀ o, o.isFreed = false → (f o).isFreed = false ∧ (f o).dict = o.dict
theorem Ke.update {h : Heap} {a : Addr} {f : Obj → Obj} (k : Kf f) : Ke h (h.update a f) := fun b o e => by
  by_cases q : b = a
  · subst q
    have nf := (Heap.get?_some_iff.mp e).2
    exact ⟨f o, Heap.get?_update_self f e (k o nf).1, (k o nf).2⟩
  · exact ⟨o, (Heap.get?_update_other _ _ (Ne.symm q)).trans e, rfl⟩
theorem Ke.push {h : Heap} {o : Obj} : Ke h (h.push o) := fun _ u e => ⟨u, Heap.get?_push_of_some _ e, rfl⟩
inductive DK {α : Type} : Sem α → Prop
  | pure (a : α) : DK (.pure a)
  | uns (w : String) : DK (.unsupported w)
  | rule {t : String} {k : Unit → Sem α} : DK (k ()) → DK (.rule t k)
  | load {a : Addr} {p : Option Value} {k : Obj → Sem α} : (∀ o, DK (k o)) → DK (.load a p k)
  | update {a : Addr} {p : Option Value} {f : Obj → Obj} {k : Unit → Sem α} : Kf f → DK (k ()) → DK (.update a p f k)
  | alloc {o : Obj} {k : Addr → Sem α} : (∀ a, DK (k a)) → DK (.alloc o k)
  | stack {k : List (Code × Pos) → Sem α} : (∀ a, DK (k a)) → DK (.stack k)
theorem DK.bind {α β : Type} {m : Sem α} {f : α → Sem β} (h : DK m) (hf : ∀ a, DK (f a)) : DK (m >>= f) := by
  show DK (m.bind f)
  induction h with
  | pure a => exact hf a
  | uns w => exact .uns w
  | rule _ ih => exact .rule ih
  | load _ ih => exact .load ih
  | update k _ ih => exact .update k ih
  | alloc _ ih => exact .alloc ih
  | stack _ ih => exact .stack ih
theorem DK.wp {α : Type} {M : Model} {Γ : PySem.Ctx} {t : Sem α} (h : DK t) : ∀ {Q : α → Pos → Shared → Prop} {E : Value → Pos → Shared → Prop} {p : Pos} {s : Shared} {h0 : Heap}, Ke h0 s.heap → Sem.wp M Γ t (fun a p s' => Ke h0 s'.heap → Q a p s') E p s → Sem.wp M Γ t Q E p s := by
  induction h with
  | pure a => intro Q E p s h0 k q; simp only [Sem.wp] at q ⊢; exact q k
  | uns w => intro Q E p s h0 k q; simp only [Sem.wp] at q
  | rule _ ih => intro Q E p s h0 k q; simp only [Sem.wp] at q ⊢; exact ih k q
  | load _ ih => intro Q E p s h0 k q; simp only [Sem.wp] at q ⊢; obtain ⟨o, e, q⟩ := q; exact ⟨o, e, ih o k q⟩
  | update kf _ ih => intro Q E p s h0 k q; simp only [Sem.wp] at q ⊢; exact ⟨q.1, ih (k.trans (.update kf)) q.2⟩
  | alloc _ ih => intro Q E p s h0 k q; simp only [Sem.wp] at q ⊢; exact ih _ (k.trans .push) q
  | stack _ ih => intro Q E p s h0 k q; simp only [Sem.wp] at q ⊢; exact ih _ k q
theorem DK.use {α : Type} {M : Model} {A : Around} {t : Sem α} {Q : α → Shared → Prop} {E : Value → Shared → Prop} {s : Shared} (d : DK t) (h : wpAny M A t (fun a s' => Ke s.heap s'.heap → Q a s') E s) : wpAny M A t Q E s :=
  fun Γ p hΓ => d.wp (Ke.refl _) (h Γ p hΓ)
theorem kf_fields (g : Array Value → Array Value) : Kf (Obj.mapFields g) := fun o nf => by
  obtain ⟨c, d, dt, sl⟩ := o
  cases dt <;> exact ⟨by first | exact nf | rfl, rfl⟩
theorem dk_field (v : Value) (i : Nat) : DK (field v i) := by
  unfold field fieldsOf
  refine .bind ?_ fun vs => ?_
  · cases v <;> try exact .uns _
    refine .bind (.load fun o => .pure o) fun o => ?_
    split
    · exact .pure _
    · exact .uns _
  · split
    · exact .pure _
    · exact .uns _
theorem dk_setField (v : Value) (i : Nat) (x : Value) : DK (setField v i x) := by
  unfold setField
  cases v <;> try exact .uns _
  unfold updateField
  refine .bind (.load fun o => .pure o) fun o => ?_
  split
  · split
    · exact .update (kf_fields _) (.pure _)
    · exact .uns _
  · exact .uns _
theorem dk_setFlight (e : Value) (f : Option Addr) : DK (setFlight e f) := by
  unfold setFlight
  refine .bind (dk_field _ _) fun tb => ?_
  split
  · exact dk_setField _ _ _
  · exact .pure _
theorem dk_place (f : Addr) (b : Bool) : DK (entryPlaceOf f b) := by
  unfold entryPlaceOf
  refine .bind (.stack fun a => .pure a) fun acts => ?_
  split <;> exact .pure _
theorem dk_kept (env : Env) (b : Bool) (l : List Env) : DK (keptBack env b l) := by
  unfold keptBack
  split
  · split
    · exact .pure _
    · refine .bind ?_ fun _ => .pure _
      unfold underTheClaimsCaller
      exact .bind (.stack fun a => .pure a) fun _ => .pure _
  · exact .pure _
theorem dk_imp (env : Env) (l : List Env) : DK (behindIsImport env l) := by
  unfold behindIsImport
  repeat' split
  all_goals first | exact .pure _ | skip
  exact .bind (dk_field _ _) fun _ => .pure _
theorem dk_ready : ∀ l : List Env, DK (readyFrames l)
  | [] => by unfold readyFrames; exact .pure _
  | env :: outer => by
    unfold readyFrames
    split
    · refine .bind (.load fun o => .pure o) fun o => ?_
      split
      · exact .pure _
      · refine .bind (dk_imp _ _) fun _ => .bind (dk_kept _ _ _) fun _ => .bind (.update (fun o nf => ⟨(by obtain ⟨c, d, dt, sl⟩ := o; cases dt <;> first | exact nf | rfl), rfl⟩) (.pure _)) fun _ => dk_ready outer
    · exact .uns _
theorem dk_frameOf (env : Env) : DK (PySem.frameOf env) := by
  unfold PySem.frameOf frameEnvs
  refine .bind (.bind (.stack fun a => .pure a) fun _ => .pure _) fun l => .bind ?_ fun r => ?_
  · unfold frameObject
    split
    · exact .pure _
    · exact .bind (dk_ready _) fun _ => .pure _
  · split
    · exact .pure _
    · exact .uns _
theorem dk_entry (a b c d e : Value) (l : List Value) : DK (EntryCells.newEntry a b c d e l) := by
  unfold EntryCells.newEntry newFields newObj newObjAsIs
  dsimp only
  have al : ∀ o : Obj, DK (do let a ← alloc o; pure (Value.ref a) : Sem Value) := fun o => .bind (.alloc fun a => .pure a) fun _ => .pure _
  generalize (if l.isEmpty = true then List.replicate 6 Value.none else l) = z
  by_cases h : ([a, b, c, d, e] ++ z).toArray.size > sizeLine + 2
  · rw [if_pos h]
    exact .bind (.uns _) fun _ => al _
  · rw [if_neg h]
    exact al _
theorem dk_note (e : Value) (env : Env) : DK (noteFrame e env) := by
  unfold noteFrame
  split
  · refine .bind (dk_field _ _) fun head => ?_
    have fin : ∀ f : Addr, DK (do setField e 1 (← EntryCells.newEntry head (← PySem.frameOf env) .none (rawInt f) .none (← entryPlaceOf f (head != .none)))) := fun f =>
      .bind (dk_frameOf _) fun _ => .bind (dk_place _ _) fun _ => .bind (dk_entry _ _ _ _ _ _) fun _ => dk_setField _ _ _
    split
    · refine .bind (dk_field _ _) fun _ => ?_
      split
      · exact .pure _
      · exact .bind (dk_setField _ _ _) fun _ => fin _
    · exact fin _
  · exact .uns _
theorem dk_leaving (env : Env) (e : Value) : DK (leaving env e) := by
  unfold leaving
  exact .bind (dk_note _ _) fun _ => dk_setFlight _ _
end U


set_option linter.all false
set_option maxRecDepth 100000
set_option maxHeartbeats 4000000
namespace U
open PySem PySem.Spec PyProof.Rows L2
variable {B : Bs}
def FlyAt (h : Heap) (a C T : Addr) (fl : Value) : Prop :=
  ∃ (oe : Obj) (vs : Array Value) (oT : Obj) (ts : Array Value) (a0 : Value), h.get? a = some oe ∧ oe.cls = .ref C ∧ vs[0]? = some a0 ∧ oe.data = .fields vs ∧ vs[1]? = some (.ref T) ∧ T ≠ a ∧ h.get? T = some oT ∧ oT.data = .fields ts ∧ ts[3]? = some fl
def AtD (h : Heap) (a : Addr) (H : Hp) (d : Option Addr) : Prop := ∀ n, d = some n → ∃ oe dx o, h.get? a = some oe ∧ oe.dict = some dx ∧ H dx = some (.frz o (.own a)) ∧ IsAt o n
theorem AtD.ke {h h' : Heap} {a : Addr} {H : Hp} {d : Option Addr} (x : AtD h a H d) (k : Ke h h') : AtD h' a H d := fun n e => by
  obtain ⟨oe, dx, o, e1, e2, e3, e4⟩ := x n e
  obtain ⟨o', q1, q2⟩ := k a oe e1
  exact ⟨o', dx, o, q1, q2.trans e2, e3, e4⟩
theorem objOk_get {P : Program} {w : World} {H : Hp} {h : Heap} {a : Addr} {o : HO} (k : ObjOk P w H h a o) : ∃ ob, h.get? a = some ob := by
  cases o with
  | lst _ => obtain ⟨_, _, _, _, e⟩ := k; exact ⟨_, e⟩
  | tup _ => obtain ⟨_, _, _, o, e, _⟩ := k; exact ⟨o, e⟩
  | dK _ => obtain ⟨_, _, _, _, o, _, _, e, _⟩ := k; exact ⟨o, e⟩
  | dT _ => obtain ⟨_, _, _, _, o, _, _, e, _⟩ := k; exact ⟨o, e⟩
  | set _ _ => obtain ⟨o, _, _, _, e, _⟩ := k; exact ⟨o, e⟩
  | ins _ _ _ => obtain ⟨_, _, _, e, _⟩ := k; exact ⟨_, e⟩
  | own _ => obtain ⟨o, e⟩ := k; exact ⟨o, e⟩
  | xd _ => obtain ⟨_, ⟨o, _, _, e, _⟩, _⟩ := k; exact ⟨o, e⟩
  | rng _ _ => obtain ⟨_, _, _, e⟩ := k; exact ⟨_, e⟩
  | frz o _ => obtain ⟨e, _⟩ := k; exact ⟨o, e⟩
  | tbl _ => exact ⟨_, k⟩
  | met _ _ => exact ⟨_, k⟩
  | ext _ => obtain ⟨_, ⟨o, e⟩, _⟩ := k; exact ⟨o, e⟩
theorem hok_none {P : Program} {w : World} {H : Hp} {h : Heap} {a : Addr} (x : HOk P w H h) (e : h.get? a = none) : H a = none := by
  cases q : H a with
  | none => rfl
  | some o => obtain ⟨ob, z⟩ := objOk_get (x a o q); rw [e] at z; cases z
section
variable {X : Cx} {pins : List (Addr × Obj)} {σ : L2.St} {H H' : Hp} {s : Shared} {h' : Heap} {a C T : Addr} {fl : Value} {d : Option Addr}
structure Plain (X : Cx) : Prop where
  ex : X.ex = []
  stk : X.stack = X.env :: X.outer
  fr : X.env.frame = some X.env.locals
theorem Plain.frs (pl : Plain X) : L2.frs X.stack = X.env.locals :: X.fs := by
  rw [pl.stk]
  show (X.env :: X.outer).filterMap (·.frame) = _
  rw [List.filterMap_cons, pl.fr]
  rfl
structure XAt (X : Cx) (pins : List (Addr × Obj)) (H : Hp) (s : Shared) (a C T : Addr) (fl : Value) (d : Option Addr) : Prop where
  dat : AtD s.heap a H d
  fly : FlyAt s.heap a C T fl
  ha : H a = none
  hT : H T = none
  na : X.s₀.heap.get? a = none
  nT : X.s₀.heap.get? T = none
  pin : ∀ p ∈ X.pn ++ pins, p.1 ≠ a ∧ p.1 ≠ T
theorem entry_none (I : Inv X pins σ H s) (pl : Plain X) {b : Addr} (e : s.heap.get? b = none) : X.s₀.heap.get? b = none := by
  cases q : X.s₀.heap.get? b with
  | none => rfl
  | some o =>
    obtain ⟨o', z⟩ := I.base.there b o q (by rw [pl.ex]; simp)
    rw [e] at z; cases z
theorem step_x (I : Inv X pins σ H s) (pl : Plain X) (ha : H a = none) (hT : H T = none) (na : X.s₀.heap.get? a = none) (nT : X.s₀.heap.get? T = none) (pin : ∀ p ∈ X.pn ++ pins, p.1 ≠ a ∧ p.1 ≠ T)
    (fa : ∀ o, s.heap.get? a = some o → ∃ vs, o.data = .fields vs) (fT : ∀ o, s.heap.get? T = some o → ∃ vs, o.data = .fields vs)
    (keep : ∀ b o, s.heap.get? b = some o → b ∉ L2.frs X.stack → b ≠ a → b ≠ T → h'.get? b = some o) (up : s.heap.UpToSlots h') : Inv X pins σ H { s with heap := h' } := by
  have frData : ∀ b o, b ∈ L2.frs X.stack → s.heap.get? b = some o → ∀ vs, o.data ≠ .fields vs := fun b o hb e => by
    obtain ⟨_, o', e', hd⟩ := I.stack.mem (b := b) hb
    rw [e] at e'; cases e'; exact hd
  have inFr : ∀ b, b = X.env.locals ∨ b ∈ X.fs → b ∈ L2.frs X.stack := fun b hb => by
    rw [pl.frs]; exact List.mem_cons.mpr hb
  have neA : ∀ b o, s.heap.get? b = some o → (∀ vs, o.data ≠ .fields vs) → b ≠ a ∧ b ≠ T := fun b o e hd => by
    constructor
    · rintro rfl; obtain ⟨vs, z⟩ := fa o e; exact hd vs z
    · rintro rfl; obtain ⟨vs, z⟩ := fT o e; exact hd vs z
  have any : ∀ b o, b ≠ a → b ≠ T → s.heap.get? b = some o → ∃ sl, h'.get? b = some { o with slots := sl } := fun b o n1 n2 e => by
    by_cases hb : b ∈ L2.frs X.stack
    · exact up b o e (frData b o hb e)
    · exact ⟨o.slots, keep b o e hb n1 n2⟩
  have entry : ∀ b o, X.s₀.heap.get? b = some o → b ≠ a ∧ b ≠ T := fun b o e => ⟨(fun z => by subst z; rw [na] at e; cases e), (fun z => by subst z; rw [nT] at e; cases e)⟩
  have neL : ∀ b o, X.s₀.heap.get? b = some o → b ≠ X.env.locals := fun b o e => Nat.ne_of_lt (Nat.lt_of_lt_of_le (Heap.lt_size e) I.ok.above)
  have hx : ∀ b, b ∉ X.ex := fun b => by rw [pl.ex]; simp
  have notFr : ∀ b o, X.s₀.heap.get? b = some o → b ∉ X.fs → b ∉ L2.frs X.stack := fun b o e hb hm => by
    rw [pl.frs] at hm
    rcases List.mem_cons.mp hm with z | z
    · exact neL b o e z
    · exact hb z
  refine ⟨I.ok, I.os, I.bare, ⟨fun b o e n hb hx' => ?_, fun b o e n hb hx' => ?_, I.base.free, fun b o e hx' => ?_, I.base.tups, I.base.frzs, I.base.tbls⟩, ?_, fun x c e => ?_, I.free, I.freeC, fun p hp => ?_, fun b u e => ?_, I.len⟩
  · exact keep b o (I.base.keep b o e n hb hx') (notFr b o e hb) (entry b o e).1 (entry b o e).2
  · obtain ⟨sl, e1⟩ := I.base.slot b o e n hb hx'
    obtain ⟨sl', e2⟩ := any b _ (entry b o e).1 (entry b o e).2 e1
    exact ⟨sl', e2⟩
  · obtain ⟨o', e1⟩ := I.base.there b o e hx'
    obtain ⟨sl', e2⟩ := any b _ (entry b o e).1 (entry b o e).2 e1
    exact ⟨_, e2⟩
  · obtain ⟨m, hn, hl⟩ := I.loc
    refine ⟨m, up.ns hn, fun i x v e1 e2 e3 => ?_⟩
    obtain ⟨u, r, l⟩ := hl i x v e1 e2 e3
    refine ⟨u, r, ?_⟩
    rcases l with l | ⟨k, c, e, o, ho, hd⟩
    · exact .inl l
    · have nd : ∀ vs, o.data ≠ .fields vs := fun vs z => by rw [hd] at z; cases z
      obtain ⟨sl, q⟩ := any c o (neA c o ho nd).1 (neA c o ho nd).2 ho
      exact .inr ⟨k, c, e, _, q, hd⟩
  · obtain ⟨v, o, ho, hd⟩ := I.cell x c e
    have nd : ∀ vs, o.data ≠ .fields vs := fun vs z => by rw [hd] at z; cases z
    obtain ⟨sl, q⟩ := any c o (neA c o ho nd).1 (neA c o ho nd).2 ho
    exact ⟨v, _, q, hd⟩
  · obtain ⟨e, n, ne, nf, d⟩ := I.pin p hp
    refine ⟨keep p.1 p.2 e (fun z => ?_) (pin p hp).1 (pin p hp).2, n, ne, nf, d⟩
    rw [pl.frs] at z
    rcases List.mem_cons.mp z with z | z
    · exact ne z
    · exact nf z
  · refine (I.hok b u e).stay (fun c v hc q => ?_) (fun _ q => q) fun _ _ q => q
    have hc' : ∃ o, H c = some o := by
      rcases hc with rfl | hc
      · exact ⟨_, e⟩
      · exact ⟨_, hc⟩
    obtain ⟨oc, ec⟩ := hc'
    refine keep c v q (fun z => ?_) (fun z => by subst z; rw [ha] at ec; cases ec) (fun z => by subst z; rw [hT] at ec; cases ec)
    rw [I.stkFree c z] at ec; cases ec
open PySem.W in
theorem after_x (I : Inv X pins σ H s) (pl : Plain X) (ha : H a = none) (na : X.s₀.heap.get? a = none) (pa : ∀ p ∈ X.pn ++ pins, p.1 ≠ a) (fa : ∀ o, s.heap.get? a = some o → ∃ vs, o.data = .fields vs)
    (T0 : Addr) (hT0 : H T0 = none) (nT0 : X.s₀.heap.get? T0 = none) (pT0 : ∀ p ∈ X.pn ++ pins, p.1 ≠ T0) (fT0 : ∀ o, s.heap.get? T0 = some o → ∃ vs, o.data = .fields vs)
    (a0 : Value) (st : (hideAll s.heap (L2.frs X.stack ++ [a, T0])).StaysIn h') (ff : h'.FunFrames (hideAll s.heap (L2.frs X.stack ++ [a, T0])) X.stack) (tr : h'.TracedAtW (hideAll s.heap (L2.frs X.stack ++ [a, T0])) a (.ref C) a0 fl) (up : s.heap.UpToSlots h') (dat : AtD h' a H d) :
    Inv X pins σ H { s with heap := h' } ∧ ∃ T, XAt X pins H { s with heap := h' } a C T fl d := by
  have I' : Inv X pins σ H { s with heap := h' } := step_x I pl ha hT0 na nT0 (fun p hp => ⟨pa p hp, pT0 p hp⟩) fa fT0 (fun b o e n1 n2 n3 => st b o (hideAll_get _ e (by simp [n1, n2, n3]))) up
  refine ⟨I', ?_⟩
  obtain ⟨oe, vs, T, oT, ts, e1, ⟨e2, e3⟩, e4, e5, e6, e7, e8, e9, e10⟩ := tr
  have key : T = T0 ∨ s.heap.get? T = none := by
    by_cases hT : T = T0
    · exact .inl hT
    · right
      cases q : s.heap.get? T with
      | none => rfl
      | some o =>
        have nfr : T ∉ L2.frs X.stack := fun hm => by
          obtain ⟨_, o', e', hd⟩ := ff.mem (b := T) hm
          rw [e8] at e'; cases e'; exact hd ts e9
        have := hideAll_get (L2.frs X.stack ++ [a, T0]) q (by simp [nfr, e7, hT])
        rw [e6] at this; cases this
  refine ⟨T, dat, ⟨oe, vs, oT, ts, a0, e1, e2, e3, e4, e5, e7, e8, e9, e10⟩, ha, ?_, na, ?_, fun p hp => ⟨pa p hp, ?_⟩⟩
  · rcases key with rfl | k
    · exact hT0
    · exact hok_none I.hok k
  · rcases key with rfl | k
    · exact nT0
    · exact entry_none I pl k
  · rcases key with rfl | k
    · exact pT0 p hp
    · intro z
      have := (I.pin p hp).1
      rw [z, k] at this; cases this
open PySem.W in
theorem hid_ok (I : Inv X pins σ H s) (as : List Addr) : s.heap.FunFrames (hideAll s.heap (L2.frs X.stack ++ as)) X.stack :=
  funFrames_hide I.stack fun env he b hb => List.mem_append_left _ (List.mem_filterMap.mpr ⟨env, he, hb⟩)
theorem XAt.data (x : XAt X pins H s a C T fl d) : (∀ o, s.heap.get? a = some o → ∃ vs, o.data = .fields vs) ∧ ∀ o, s.heap.get? T = some o → ∃ vs, o.data = .fields vs := by
  obtain ⟨oe, vs, oT, ts, a0, e1, e2, e3, e4, e5, e7, e8, e9, e10⟩ := x.fly
  exact ⟨fun o e => by rw [e1] at e; cases e; exact ⟨_, e4⟩, fun o e => by rw [e8] at e; cases e; exact ⟨_, e9⟩⟩
open PySem.W in
theorem XAt.traced (x : XAt X pins H s a C T fl d) : ∃ a0, s.heap.TracedAtW (hideAll s.heap (L2.frs X.stack ++ [a, T])) a (.ref C) a0 fl := by
  obtain ⟨oe, vs, oT, ts, a0, e1, e2, e3, e4, e5, e7, e8, e9, e10⟩ := x.fly
  exact ⟨a0, oe, vs, T, oT, ts, e1, ⟨e2, e3⟩, e4, e5, hideAll_none _ (by simp), e7, e8, e9, e10⟩
variable {M : Model} {E : Value → Shared → Prop} {Q : Unit → Shared → Prop}
open PySem.W in
theorem note_x (I : Inv X pins σ H s) (pl : Plain X) (x : XAt X pins H s a C T .none d)
    (h : ∀ h' T', Inv X pins σ H { s with heap := h' } → XAt X pins H { s with heap := h' } a C T' (rawInt X.env.locals) d → Q () { s with heap := h' }) : wpAny M X.A (noteFrame (.ref a) X.env) Q E s := by
  obtain ⟨a0, tr⟩ := x.traced
  obtain ⟨d1, d2⟩ := x.data
  have ff := hid_ok I [a, T]
  have hfr := I.ok.frames
  rw [pl.stk] at ff tr hfr
  refine (dk_note _ _).use (wpAny_noteFrame_onW hfr ff pl.fr tr (fun b o e => of_hideAll _ e) (hideAll_none _ (by simp)) fun h' ⟨k1, k2, k3, k4⟩ ke => ?_)
  rw [← pl.stk] at k1 k2 k3
  obtain ⟨I', T', x'⟩ := after_x I pl x.ha x.na (fun p hp => (x.pin p hp).1) d1 T x.hT x.nT (fun p hp => (x.pin p hp).2) d2 a0 k1 k2 k3 k4 (x.dat.ke ke)
  exact h h' T' I' x'
open PySem.W in
theorem land_x {A : Around} (I : Inv X pins σ H s) (pl : Plain X) (x : XAt X pins H s a C T fl d)
    (h : ∀ h' T', Inv X pins σ H { s with heap := h' } → XAt X pins H { s with heap := h' } a C T' .none d → Q () { s with heap := h' }) : wpAny M A (setFlight (.ref a) none) Q E s := by
  obtain ⟨a0, tr⟩ := x.traced
  obtain ⟨d1, d2⟩ := x.data
  refine (dk_setFlight _ _).use (wpAny_setFlight_noneW (fun b o e => of_hideAll _ e) (hid_ok I [a, T]) tr fun h' k1 k2 k3 k4 ke => ?_)
  obtain ⟨I', T', x'⟩ := after_x I pl x.ha x.na (fun p hp => (x.pin p hp).1) d1 T x.hT x.nT (fun p hp => (x.pin p hp).2) d2 a0 k1 k2 k3 (fun b o e hd => ⟨o.slots, k4 b o e hd⟩) (x.dat.ke ke)
  exact h h' T' I' x'
def CXU (P : Program) (w : World) : CXT := fun outer H s E e s' => ∃ (a C T : Addr) (H1 : Hp) (d : Option Addr), e = .ref a ∧ (FlyAt s'.heap a C T .none ∧ AtD s'.heap a H1 d) ∧ (H1 a = none ∧ H1 T = none) ∧ (s.heap.get? a = none ∧ s.heap.get? T = none) ∧
  s'.os = s.os ∧ AllBare s'.gens ∧ Un (L2.frs outer) [] H H1 s.heap s'.heap ∧ HOk P w H1 s'.heap ∧ E (.ref C) d H1
open PySem.W in
theorem leave_x {XE : XK} (I : Inv X pins σ H s) (pl : Plain X) (x : XAt X pins H s a C T .none d) (hE : XE (.ref C) d H) :
    wpAny M X.A (leaving X.env (.ref a)) (fun _ s'' => CXU X.prog X.w X.outer X.H₀ X.s₀ XE (.ref a) s'') E s := by
  obtain ⟨a0, tr⟩ := x.traced
  obtain ⟨d1, d2⟩ := x.data
  have ff := hid_ok I [a, T]
  have hfr := I.ok.frames
  rw [pl.stk] at ff tr hfr
  refine (dk_leaving _ _).use (wpAny_leaving_nextW hfr ff pl.fr tr (fun b o e => of_hideAll _ e) (hideAll_none _ (by simp)) fun h' ⟨k1, k2, k3, k4⟩ ke => ?_)
  rw [← pl.stk] at k1 k2 k3
  obtain ⟨I', T', x'⟩ := after_x I pl x.ha x.na (fun p hp => (x.pin p hp).1) d1 T x.hT x.nT (fun p hp => (x.pin p hp).2) d2 a0 k1 k2 k3 k4 (x.dat.ke ke)
  have hu := I'.base
  rw [pl.ex] at hu
  exact ⟨a, C, T', H, _, rfl, ⟨x'.fly, x'.dat⟩, ⟨x'.ha, x'.hT⟩, ⟨x'.na, x'.nT⟩, I'.os, I'.bare, hu, I'.hok, hE⟩
theorem from_call {XE : XK} {e : Value} {s' : Shared} (I : Inv X pins σ H s) (pl : Plain X) (c : CXU X.prog X.w X.stack H s XE e s') :
    ∃ a C T H1 d, e = .ref a ∧ Inv X pins σ H1 s' ∧ XAt X pins H1 s' a C T .none d ∧ XE (.ref C) d H1 ∧ Kp H H1 := by
  obtain ⟨a, C, T, H1, d, rfl, ⟨fl, dat⟩, ⟨h1, h2⟩, ⟨n1, n2⟩, os, ba, un, hok, hE⟩ := c
  refine ⟨a, C, T, H1, d, rfl, I.call' (ch := []) os un hok ba (fun _ z => nomatch z), ⟨dat, fl, h1, h2, entry_none I pl n1, entry_none I pl n2, fun p hp => ⟨fun z => ?_, fun z => ?_⟩⟩, hE, ⟨un.tups, un.frzs⟩⟩
  · have := (I.pin p hp).1; rw [z, n1] at this; cases this
  · have := (I.pin p hp).1; rw [z, n2] at this; cases this
end
end U


set_option linter.all false
set_option maxHeartbeats 4000000
set_option maxRecDepth 100000
namespace U
open PySem PySem.Spec PyProof.Rows L2 PySem.W
theorem be_entry : entryFor table "BaseException.__getattribute__" = some Builtin.«object.__getattribute__» :=
  entryFor_alias (id' := "object.__getattribute__") (by kernel_rfl) (by first | rfl | decide +kernel) (by decide +kernel) (by kernel_rfl)
section
variable {prog : Program} {w : World} {A : Around} {E : Value → Shared → Prop} {h : Heap} {g : Array GenState} {d : Drawn} {t : Nat} {os : OsState} {a C : Addr} {o : Obj} {K : Frag}
theorem exc_get {R : Result → Shared → Prop} (X : K.In h) (hx : h.get? a = some o) (hc : o.cls = .ref C) (hm : mroIn K C (.type "object") = some true) (hq : R (.ok (.ret (.ref C))) ⟨h, g, d, t, os⟩) :
    codeAny (model prog w) A (.call (.builtin "getset_descriptor.__get__") ⟨[.builtin "object.__class__", .ref a, .ref C], []⟩) R ⟨h, g, d, t, os⟩ := by
  have hT5 : (⟨h, g, d, t, os⟩ : Shared).TypeIs (.builtin "object.__class__") "getset_descriptor" := F.typeOf_object_class
  have LS : Looks (model prog w) h (isSubtype (.ref C) (.type "object")) true := looks_mroIn X hm
  have f8 := F.owner_object_class
  refine codeAny_call_builtin F.slot_gs_get.plain F.entry_gs_get (F.slot_gs_get.check _ _ _ _ _ _ _ _ hT5 (F.args_gs_get _ _ _) ?_)
  repeat (any_goals (first | assumption | wp_step))
  rw [hc, f8]
  refine LS.at ?_
  repeat (any_goals (first | assumption | wp_step))
  refine ⟨Code.quiet_builtin _ (by decide +kernel), codeAny_builtin F.entry_object_class ?_⟩
  repeat (any_goals (first | assumption | wp_step))
  all_goals (rw [hc]; exact hq)
theorem exc_entry {tk : Tok} {Q : Fin → Shared → Prop} (X : K.In h) (hx : h.get? a = some o) (hc : o.cls = .ref C) (hm : mroIn K C (.type "object") = some true) (hf : findIn K (.ref C) "__class__" = some (some (.builtin "object.__class__"))) (hq : Q (.done (.ret (.ref C))) ⟨h, g, d, t, os⟩) :
    wpAny (model prog w) A (Builtin.«object.__getattribute__» ⟨[.ref a, .str "__class__" tk], []⟩) Q E ⟨h, g, d, t, os⟩ := by
  have hT5 : (⟨h, g, d, t, os⟩ : Shared).TypeIs (.builtin "object.__class__") "getset_descriptor" := F.typeOf_object_class
  have LF : Looks (model prog w) h (typeLookup (.ref C) "__class__") (some (.builtin "object.__class__")) := looks_findIn X hf
  have f5 := F.typeOf_object_class
  have f6 := F.slot_gs_get.lookup
  have f7 := F.slot_gs_set.lookup
  repeat (any_goals (first | assumption | wp_step))
  rw [hc]
  refine LF.at ?_
  repeat (any_goals (first | assumption | wp_step))
  refine exc_get X hx hc hm ?_
  repeat (any_goals (first | assumption | wp_step))
theorem be_kind : builtinKind "BaseException.__getattribute__" = some .slot := by decide +kernel
theorem be_split : splitId "BaseException.__getattribute__" = some ("BaseException", "__getattribute__") := by decide +kernel
theorem exc_check {M : Model} {tk : Tok} {Q : Unit → Shared → Prop} (X : K.In h) (hx : h.get? a = some o) (hc : o.cls = .ref C) (hm : mroIn K C (.type "BaseException") = some true) (hq : Q () ⟨h, g, d, t, os⟩) :
    wpAny M A (checkBuiltinCall "BaseException.__getattribute__" ⟨[.ref a, .str "__class__" tk], []⟩) Q E ⟨h, g, d, t, os⟩ := by
  have LB : Looks M h (isSubtype (.ref C) (.type "BaseException")) true := looks_mroIn X hm
  simp only [checkBuiltinCall, be_kind, be_split]
  repeat (first | (with_reducible refine wpAny_loadPart_at hx ?_; rw [hc]) | with_reducible refine LB.at ?_ | wp_step)
  exact hq
theorem exc_call {tk : Tok} {R : Result → Shared → Prop} (X : K.In h) (hx : h.get? a = some o) (hc : o.cls = .ref C) (hm : mroIn K C (.type "object") = some true) (hb : mroIn K C (.type "BaseException") = some true)
    (hf : findIn K (.ref C) "__class__" = some (some (.builtin "object.__class__"))) (hq : R (.ok (.ret (.ref C))) ⟨h, g, d, t, os⟩) :
    codeAny (model prog w) A (.call (.builtin "BaseException.__getattribute__") ⟨[.ref a, .str "__class__" tk], []⟩) R ⟨h, g, d, t, os⟩ :=
  codeAny_call_builtin_at (Code.quiet_builtin _ (by decide +kernel)) be_entry (exc_check X hx hc hb (exc_entry X hx hc hm hf hq))
theorem be_bind (self : Value) : bindSpecial (.builtin "BaseException.__getattribute__") self = pure (.builtin "BaseException.__getattribute__", [self]) := by
  have hop : withoutEnding? "BaseException.__getattribute__" "#opaque" = none := by decide +kernel
  have hdat : withoutEnding? "BaseException.__getattribute__" "#data" = none := by decide +kernel
  simp only [bindSpecial, typeOf, builtinType, hop, hdat, be_kind]; rfl
theorem exc_by {tk : Tok} {Q : Value → Shared → Prop} (X : K.In h) (hx : h.get? a = some o) (hc : o.cls = .ref C) (hm : mroIn K C (.type "object") = some true) (hb : mroIn K C (.type "BaseException") = some true)
    (hf : findIn K (.ref C) "__class__" = some (some (.builtin "object.__class__"))) (hg : findIn K (.ref C) "__getattribute__" = some (some (.builtin "BaseException.__getattribute__"))) (hh : findIn K (.ref C) "__getattr__" = some none) (hq : Q (.ref C) ⟨h, g, d, t, os⟩) :
    wpAny (model prog w) A (getAttrBy (.ref a) (.str "__class__" tk) false) Q E ⟨h, g, d, t, os⟩ := by
  have LG : Looks (model prog w) h (typeLookup (.ref C) "__getattribute__") (some (.builtin "BaseException.__getattribute__")) := looks_findIn X hg
  have LH : Looks (model prog w) h (typeLookup (.ref C) "__getattr__") none := looks_findIn X hh
  have f3 := be_bind (.ref a)
  unfold getAttrBy
  refine wpAny_holding ?_
  repeat (first | (with_reducible refine wpAny_loadPart_at hx ?_; rw [hc]) | with_reducible refine LG.at ?_ | with_reducible refine LH.at ?_ | wp_step)
  refine exc_call X hx hc hm hb hf ?_
  show wpAny (model prog w) A (handedOut (.ref C)) Q E _
  exact handed_on rfl hq
theorem exc_attr {Q : Option Value → Shared → Prop} (X : K.In h) (hx : h.get? a = some o) (hc : o.cls = .ref C) (hm : mroIn K C (.type "object") = some true) (hb : mroIn K C (.type "BaseException") = some true)
    (hf : findIn K (.ref C) "__class__" = some (some (.builtin "object.__class__"))) (hg : findIn K (.ref C) "__getattribute__" = some (some (.builtin "BaseException.__getattribute__"))) (hh : findIn K (.ref C) "__getattr__" = some none)
    (hq : Q (some (.ref C)) ⟨h, g, d, t + 1, os⟩) : wpAny (model prog w) A (getAttr? (.ref a) "__class__") Q E ⟨h, g, d, t, os⟩ := by
  unfold getAttr? getAttrBy?
  repeat (any_goals (first | assumption | with_reducible apply exc_by X hx hc hm hb hf hg hh | wp_step))
end
structure XCls (K : Frag) (C : Addr) : Prop where
  ex : excIn K C [.type "ValueError", .type "Exception", .type "BaseException", .type "object"] "ValueError.__new__" = true
  ob : mroIn K C (.type "object") = some true
  be : mroIn K C (.type "BaseException") = some true
  ga : findIn K (.ref C) "__getattribute__" = some (some (.builtin "BaseException.__getattribute__"))
  gt : findIn K (.ref C) "__getattr__" = some none
  cl : findIn K (.ref C) "__class__" = some (some (.builtin "object.__class__"))
structure XC0 (K : Frag) (C : Addr) : Prop where
  obj : ∃ (dd : Option Addr) (cd : ClassData) (sl : Array (Option Value)), K.lookup C = some ⟨.type "type", dd, .cls cd, sl⟩
  ob : mroIn K C (.type "object") = some true
  be : mroIn K C (.type "BaseException") = some true
  ga : findIn K (.ref C) "__getattribute__" = some (some (.builtin "BaseException.__getattribute__"))
  gt : findIn K (.ref C) "__getattr__" = some none
  cl : findIn K (.ref C) "__class__" = some (some (.builtin "object.__class__"))
theorem kitx_exc {K : Frag} {a C : Addr} (c : XC0 K C) : KitX K (.ref a) (.ref C) (ExcA a C) where
  ty := fun M h _ ⟨o, h1, h2⟩ => h2 ▸ (Looks.ld h1).andThen .now
  it := fun M h X _ => by
    obtain ⟨dd, cd, sl, ho⟩ := c.obj
    intro A' Q' E' s' k q
    unfold isType loadHead
    exact wpAny_bind (wpAny_loadPart (k _ _ (X _ _ ho)) (wpAny_pure q))
  ne := fun h tp dd its n sl X htp => by
    obtain ⟨dd, cd, sl, ho⟩ := c.obj
    refine Bool.eq_false_iff.mpr fun q => ?_
    have e : C = tp := Value.ref.inj (beq_iff_eq.mp q)
    subst e
    have z := (X _ _ ho).symm.trans htp
    exact absurd (congrArg Obj.cls (Option.some.inj z)) (by show ¬ Value.type "type" = Value.type "tuple"; decide)
  ca := fun {_ _ _ _ _ s} X ⟨o, h1, h2⟩ k => by
    obtain ⟨h, g, d, t, os⟩ := s
    exact exc_attr X h1 h2 c.ob c.be c.cl c.ga c.gt k
end U


set_option linter.all false
set_option maxRecDepth 100000
set_option maxHeartbeats 4000000
namespace U
open PySem PySem.Spec PyProof.Rows L2
variable {B : Bs}
def XL (K : PySem.W.Frag) (B : Bs) (E' : XK') (E : XK) : Prop := ∀ c d H1' H1, E' c d H1' → HR K H1' H1 → Ev B.1 B.2 H1' H1 → E c d H1
section
variable {P : Program} {w : World} {K : PySem.W.Frag} {mg : Str → Option Value} {base : Heap}
theorem plain_cx {CX : CXT} {N : List Str} {qual : Str} {sc : Scope} {f : Addr} {cdv : Value} {A : Around} {outer : List Env} {s : Shared} {H : Hp} {E : XK} : Plain (cxOf CX P w K mg base N qual sc f cdv A outer s H E) := ⟨rfl, rfl, rfl⟩
theorem okX {x qual : Str} {st : Stmt} {f : Addr} {fd : FuncData} {N ps : List Str} {k : Nat} {sp : Sp'} (F : Fun K x qual st f fd) (S : FnScope N ps (defScope st)) (len : ∀ vs H Q E, sp vs H Q E → vs.length = ps.length)
    (hbody : ∀ (cdv : Value) (A : Around) (outer : List Env) (s : Shared) (H : Hp) (E : XK) (vs' : List PV) (H' : PHp) (Q' : VK') (E' : XK'), Room k (A.deeper (envOfC qual (defScope st) s.heap.objs.size f cdv)) → XL K (H', H) E' E → sp vs' H' Q' E' →
      ∃ t, PSs' (cxOf (CXU P w) P w K mg base N qual (defScope st) f cdv A outer s H E) (H', H) (defBody st) t ∧ t (ends Q') (start' N vs') H') : FnOk' P w K mg base (CXU P w) (k + 1) f fd ps sp := by
  obtain ⟨oc, od, kV, doc, pm, an, cdv, ct, osl, rfl, lk, hcd⟩ := F.ex
  refine fn_of lk hcd S (fun vs H Q E zz => by obtain ⟨vs', H', Q', E', r, hr, h, _⟩ := zz; rw [RPs.length _ r]; exact len _ _ _ _ h) fun A outer s H vs Q E hr hsp => ?_
  obtain ⟨vs', H', Q', E', r, hh, h, k1, k2⟩ := hsp
  obtain ⟨t, ht, hq⟩ := hbody cdv A outer s H E vs' H' Q' E' hr k2 h
  refine ⟨_, ht, start' N vs', H', _, sr_start r hh, hq, ?_, ?_, ?_, ?_⟩
  · rintro σ1' H1' σ1 H1 ⟨H3, sb, q⟩ s1 e1
    exact k1 _ H3 _ H1 q (by simp [RP]) (s1.hp.sub sb) (e1.sub sb)
  · rintro v' H1' v H1 ⟨H3, sb, q⟩ r1 s1 e1
    exact k1 _ H3 _ H1 q r1 (s1.sub sb) (e1.sub sb)
  · intro _ _ _ _ z; exact z.elim
  · intro _ _ _ _ z; exact z.elim
end
section
variable {X : Cx} {k : Nat} {f C D : Addr} {fd : FuncData} {ps : List Str} {sp : Sp'} {E : XK} {E' : XK'} {x m n : Str} {p np pos apos cpos : Pos} {e o : Expr} {es : List Expr} {ta : TE'} {t : TA'}
def Lv (X : Cx) (E : XK) : Prop := X.xe = fun e s' => wpAny (model X.prog X.w) X.A (leaving X.env e) (fun _ s'' => CXU X.prog X.w X.outer X.H₀ X.s₀ E e s'') (fun e' s'' => CXU X.prog X.w X.outer X.H₀ X.s₀ E e' s'') s'
theorem lv_po (l : Lv X E) : PassesOwn (model X.prog X.w) X.A X.env X.xe := by rw [l]; exact PassesOwn.leaving
theorem lv_pass (l : Lv X E) (pl : Plain X) : Passes (CXU X.prog X.w) X E := fun pins σ H s e s' I c => by
  obtain ⟨a, C, T, H1, d, rfl, I1, x1, hE, _⟩ := from_call I pl c
  rw [l]
  exact leave_x I1 pl x1 hE
theorem cls_at {K : PySem.W.Frag} {h : Heap} (KX : K.In h) (c : XCls K C) : ∃ (bm : List Value) (N : Addr) (nm q : Str) (bs : List Value) (hdct : Bool) (sn : List Str) (sub : List Value) (ab : Bool) (col : Option Bool) (dd : Option Addr) (k0 k1 k2 k3 k5 : Option Value) (mN : Str → Option Value),
    h.get? C = some (excClassObj nm q C N bs bm hdct sn sub ab col dd k0 k1 k2 k3 k5 "ValueError.__new__") ∧ h.Ns N mN ∧ mN "__init__" = none ∧ OwnTail h [.type "ValueError", .type "Exception", .type "BaseException", .type "object"] bm := by
  have q := c.ex
  unfold PySem.W.excIn at q
  split at q
  · rename_i dd cd sl ho
    split at q
    · rename_i C' bm k0 k1 k2 k3 n k5 hm hs
      simp only [Bool.and_eq_true, beq_iff_eq, Bool.not_eq_true'] at q
      obtain ⟨⟨⟨⟨⟨rfl, rfl⟩, hdel⟩, ht⟩, hok⟩, hni⟩ := q
      obtain ⟨nm, bs, mro, ns, qn, hd, sn, sub, ab, col, del⟩ := cd
      dsimp only at hm hdel hok hni
      subst hm hdel
      have hsl : sl = #[k0, k1, k2, k3, some (.builtin "ValueError.__new__"), k5] := by
        obtain ⟨l⟩ := sl
        simp only at hs
        rw [hs]
      subst hsl
      exact ⟨bm, ns, nm, qn, bs, hd, sn, sub, ab, col, dd, k0, k1, k2, k3, k5, _, KX _ _ ho, .of_isNs (PySem.W.isNs_of_in KX hok), PySem.W.nsMap_none_of_in KX hok hni, PySem.W.tail_of_in KX ht⟩
    · cases q
  · cases q
end
end U


set_option linter.all false
set_option maxRecDepth 100000
set_option maxHeartbeats 4000000
namespace U
open PySem PySem.Spec PyProof.Rows L2
variable {B : Bs}
section
variable {X : Cx} {pins : List (Addr × Obj)} {σ : L2.St} {H : Hp} {s : Shared} {a C T : Addr} {fl : Value} {d : Option Addr}
theorem name_goes {M : Model} {A : Around} {E : Value → Shared → Prop} {i : Nat} {n : Str} {pos : Pos} {Q : Unit → Shared → Prop} (I : Inv X pins σ H s) (hN : X.N.Nodup) (hi : X.N[i]? = some n) (hl : X.env.scope.names.lookup n = some .local)
    (h : ∀ s', Inv X pins (σ.set i none) H s' → Q () s') : wpAny M A (do bindName X.env n .none; unbindBehindTheSuite X.env n pos) Q E s := by
  obtain ⟨m, hn, hlo⟩ := id I.loc
  have hcls : (X.env.scope.kind == .class || (X.env.scope.kind == .module && X.env.locals != X.env.globals)) = false := by rw [I.ok.kind]; rfl
  refine wpAny_nameGoes_keeps hl hn hcls fun h' v hn' hs => h _ ?_
  obtain ⟨oL, _, _, hoL, _⟩ := id hn
  have cne := I.cne
  refine ⟨I.ok, I.os, I.bare, ⟨fun b o e n' hb hx => ?_, fun b o e n' hb hx => ?_, I.base.free, fun b o e hx => ?_, I.base.tups, I.base.frzs, I.base.tbls⟩, ⟨_, hn', fun j y v' e1 e2 e3 => ?_⟩, fun y c e => ?_, I.free, I.freeC, fun p hp => ?_, fun b ob e => ?_, by rw [List.length_set]; exact I.len⟩
  · exact (hs.2 b (Nat.ne_of_lt (Nat.lt_of_lt_of_le (Heap.lt_size e) I.ok.above))).trans (I.base.keep b o e n' hb hx)
  · obtain ⟨sl, e1⟩ := I.base.slot b o e n' hb hx
    exact ⟨sl, (hs.2 b (Nat.ne_of_lt (Nat.lt_of_lt_of_le (Heap.lt_size e) I.ok.above))).trans e1⟩
  · obtain ⟨o', e1⟩ := I.base.there b o e hx
    exact ⟨o', (hs.2 b (Nat.ne_of_lt (Nat.lt_of_lt_of_le (Heap.lt_size e) I.ok.above))).trans e1⟩
  · by_cases hj : j = i
    · subst hj
      by_cases hlt : j < σ.length
      · rw [List.getElem?_set_self hlt] at e2; cases e2
      · rw [List.getElem?_eq_none (by simpa using Nat.le_of_not_lt hlt)] at e2; cases e2
    · rw [List.getElem?_set_ne (Ne.symm hj)] at e2
      obtain ⟨u', r', q⟩ := hlo j y v' e1 e2 e3
      refine ⟨u', r', ?_⟩
      rcases q with ⟨k, e⟩ | ⟨k, c, e, z⟩
      · refine .inl ⟨k, ?_⟩
        have : y ≠ n := fun e => hj (nodup_ix hN e1 (e ▸ hi))
        simp [this, e]
      · exact .inr ⟨k, c, e, z.sameBut hs (cne y c e)⟩
  · obtain ⟨w', z⟩ := I.cell y c e
    exact ⟨w', z.sameBut hs (cne y c e)⟩
  · obtain ⟨e, n', ne, nf, d⟩ := I.pin p hp
    exact ⟨(hs.2 p.1 ne).trans e, n', ne, nf, d⟩
  · refine (I.hok b ob e).stay (fun c w' hc q => (hs.2 c ?_).trans q) (fun _ q => q) fun _ _ q => q
    rintro rfl
    rcases hc with rfl | hc
    · rw [I.free] at e; cases e
    · rw [I.free] at hc; cases hc
theorem track_ext {φ : Heap → Prop} (I : Inv X pins σ H s) (x : XAt X pins H s a C T fl d) (hφ : φ s.heap) (hs : ∀ h1 h2 : Heap, φ h1 → (∀ o, h1.get? a = some o → h2.get? a = some o) → φ h2) : Inv X pins σ (upd H a (.ext φ)) s := by
  obtain ⟨oe, vs, oT, ts, a0, e1, e2, e3, e4, e5, e7, e8, e9, e10⟩ := x.fly
  have hL : X.env.locals ≠ a := by
    rintro rfl
    obtain ⟨m, ⟨o, es, ep, ho, hd, _⟩, _⟩ := I.loc
    rw [e1] at ho; cases ho; rw [e4] at hd; cases hd
  refine ⟨I.ok, I.os, I.bare, ⟨I.base.keep, I.base.slot, fun b o e n hx => ?_, I.base.there, fun b xs e => ?_, fun b o u e => ?_, fun b ps e => ?_⟩, I.loc, I.cell, ?_, fun y c e => ?_, fun p hp => ?_, fun b ob e => ?_, I.len⟩
  · rw [upd_ne (fun z => by subst z; rw [x.na] at e; cases e)]; exact I.base.free b o e n hx
  · have := I.base.tups b xs e
    rw [upd_ne (ne_of_none this x.ha)]; exact this
  · have := I.base.frzs b o u e
    rw [upd_ne (ne_of_none this x.ha)]; exact this
  · obtain ⟨more, this⟩ := I.base.tbls b ps e
    exact ⟨more, by rw [upd_ne (ne_of_none this x.ha)]; exact this⟩
  · rw [upd_ne hL]; exact I.free
  · refine (upd_ne ?_).trans (I.freeC y c e)
    rintro rfl
    obtain ⟨v, o, ho, hd⟩ := I.cell y c e
    rw [e1] at ho; cases ho; rw [e4] at hd; cases hd
  · obtain ⟨e, n, ne, nf, d⟩ := I.pin p hp
    exact ⟨e, by rw [upd_ne (x.pin p hp).1]; exact n, ne, nf, d⟩
  · by_cases hb : b = a
    · subst hb
      rw [upd_same] at e; cases e
      exact ⟨hφ, ⟨oe, e1⟩, hs⟩
    · rw [upd_ne hb] at e
      exact (I.hok b ob e).stay (fun _ _ _ q => q) (fun c q => by rw [upd_ne (ne_of_none q x.ha)]; exact q) fun c xs q => by rw [upd_ne (ne_of_none q x.ha)]; exact q
def exo (C : Addr) (d : Option Addr) : PO := match d with
  | none => .exc C
  | some n => .excA C n
theorem track_x {K : PySem.W.Frag} (I : Inv X pins σ H s) (x : XAt X pins H s a C T fl d) : ∃ φ, Inv X pins σ (upd H a (.ext φ)) s ∧ OAt K (upd H a (.ext φ)) a (exo C d) := by
  obtain ⟨oe, vs, oT, ts, a0, e1, e2, e3, e4, e5, e7, e8, e9, e10⟩ := x.fly
  cases d with
  | none => exact ⟨ExcA a C, track_ext I x ⟨oe, e1, e2⟩ (fun h1 h2 ⟨o, q1, q2⟩ k => ⟨o, k o q1, q2⟩), upd_same⟩
  | some n =>
    obtain ⟨oe', dx, o, q1, q2, q3, q4⟩ := x.dat n rfl
    rw [e1] at q1
    cases q1
    exact ⟨ExcD a C dx, track_ext I x ⟨oe, e1, e2, q2, _, e4⟩ (fun h1 h2 ⟨o, q1, q2⟩ k => ⟨o, k o q1, q2⟩), dx, o, upd_same, (upd_ne (ne_of_none q3 x.ha)).trans q3, q4⟩
abbrev mk (X : Cx) (e : Value) : Cx := { X with A := X.A.mark (some e), calm := false, xe := fun _ _ => False }
theorem inv_mk (I : Inv X pins σ H s) (e : Value) : Inv (mk X e) pins σ H s :=
  ⟨⟨I.ok.mod, I.ok.kind, I.ok.glob, I.ok.blt, I.ok.above, I.ok.inj, I.ok.has, I.ok.cab, (fun z => by cases z), I.ok.frames, I.ok.stk, I.ok.exf, I.ok.bs, I.ok.bsz, I.ok.noex, I.ok.exfs, I.ok.funs, I.ok.frf⟩, I.os, I.bare, I.base, I.loc, I.cell, I.free, I.freeC, I.pin, I.hok, I.len⟩
theorem inv_unmk {e : Value} (ok : X.Ok) (I : Inv (mk X e) pins σ H s) : Inv X pins σ H s := ⟨ok, I.os, I.bare, I.base, I.loc, I.cell, I.free, I.freeC, I.pin, I.hok, I.len⟩
theorem plain_mk (pl : Plain X) (e : Value) : Plain (mk X e) := ⟨pl.ex, pl.stk, pl.fr⟩
open PySem.W in
theorem excMatches_own {M : Model} {A : Around} {E : Value → Shared → Prop} {D : Addr} {b : Bool} {Q : Bool → Shared → Prop} (KX : X.K.In s.heap) (cD : XCls X.K D) (hm : mroIn X.K C (.ref D) = some b) (x : ∃ o, s.heap.get? a = some o ∧ o.cls = .ref C)
    (h : Q b s) : wpAny M A (excMatches (.ref a) (.ref D)) Q E s := by
  obtain ⟨oe, he, hcls⟩ := x
  obtain ⟨bm, N, nm, q, bs, hdct, sn, sub, ab, col, dd, k0, k1, k2, k3, k5, mN, hC, hN, hni, TL⟩ := cls_at KX cD
  have hcB : (Value.ref D :: bm).contains (.type "BaseException") = true := by rw [List.contains_cons, TL.hasType (X := "BaseException") (b := true) (by decide), Bool.or_true]
  have LS : Looks M s.heap (isSubtype (.ref C) (.ref D)) b := looks_mroIn KX hm
  have f := tc_notTuple
  obtain ⟨hp, g, d, t, os⟩ := s
  unfold excMatches
  repeat (first | (with_reducible refine wpAny_loadPart_at he ?_; rw [hcls]) | with_reducible refine wpAny_loadPart_at hC ?_ | (with_reducible refine wpAny_isSubtype_exc hC ?_; rw [hcB]) | with_reducible refine LS.at ?_ | wp_step)
  cases b with
  | true => wp_walk; exact h
  | false => wp_walk; exact h
end
end U


set_option linter.all false
set_option maxRecDepth 100000
set_option maxHeartbeats 4000000
namespace U
open PySem PySem.Spec PyProof.Rows L2
variable {B : Bs}
abbrev TX' := St' → PHp → VK' → XK' → Prop
abbrev TSX' := Ends' → (St' → XK') → St' → PHp → Prop
structure Come (X : Cx) (B : Bs) (pins : List (Addr × Obj)) (σ' : St') (H' : PHp) (H : Hp) (E' : XK') (σ1 : L2.St) (a : Addr) (s1 : Shared) : Prop where
  ex : ∃ H1' H1 C T d, Inv X pins σ1 H1 s1 ∧ XAt X pins H1 s1 a C T .none d ∧ SR X.K B σ' H1' σ1 H1 ∧ Ev H' H H1' H1 ∧ E' (.ref C) d H1'
def PXE (X : Cx) (B : Bs) (e : Expr) (t : TX') : Prop := ∀ (Ex : Value → Shared → Prop) (pins : List (Addr × Obj)) (s : Shared) (σ : L2.St) (H : Hp) (Q : VK) (σ' : St') (H' : PHp) (Q' : VK') (E' : XK'), Inv X pins σ H s → SR X.K B σ' H' σ H → t σ' H' Q' E' →
  (∀ v' H1' v H1, Q' v' H1' → RP X.K H1 v' v → SR X.K B σ' H1' σ H1 → Ev H' H H1' H1 → Q v H1) → (∀ a s1, Come X B pins σ' H' H E' σ a s1 → Ex (.ref a) s1) → wpAny (model X.prog X.w) X.A (eval e X.env) (EP X pins σ Q) Ex s
def PSX (X : Cx) (B : Bs) (st : Stmt) (t : TSX') : Prop := ∀ (Ex : Value → Shared → Prop) (pins : List (Addr × Obj)) (s : Shared) (σ : L2.St) (H : Hp) (D : Ends) (σ' : St') (H' : PHp) (D' : Ends') (E' : St' → XK'), Inv X pins σ H s → SR X.K B σ' H' σ H → t D' E' σ' H' → DR X.K B D' D H' H →
  (∀ σ1' σ1 a s1, Come X B pins σ1' H' H (E' σ1') σ1 a s1 → Ex (.ref a) s1) → wpAny (model X.prog X.w) X.A (exec st X.env) (SP X pins D) Ex s
def PSXs (X : Cx) (B : Bs) (sts : List Stmt) (t : TSX') : Prop := ∀ (Ex : Value → Shared → Prop) (pins : List (Addr × Obj)) (s : Shared) (σ : L2.St) (H : Hp) (D : Ends) (σ' : St') (H' : PHp) (D' : Ends') (E' : St' → XK'), Inv X pins σ H s → SR X.K B σ' H' σ H → t D' E' σ' H' → DR X.K B D' D H' H →
  (∀ σ1' σ1 a s1, Come X B pins σ1' H' H (E' σ1') σ1 a s1 → Ex (.ref a) s1) → wpAny (model X.prog X.w) X.A (execs sts X.env) (SP X pins D) Ex s
section
variable {X : Cx} {k : Nat} {f C D : Addr} {fd : FuncData} {ps : List Str} {sp : Sp'} {x m n : Str} {p np pos apos cpos : Pos} {e o : Expr} {es : List Expr} {ta : TE'} {t : TA'}
theorem no_ex {α : Type} {A : Around} {tr : Sem α} {Q : α → Shared → Prop} {Ex : Value → Shared → Prop} {M : Model} {s : Shared} (h : wpAny M A tr Q (fun _ _ => False) s) : wpAny M A tr Q Ex s := wpAny_mono h (fun _ _ q => q) fun _ _ z => z.elim
theorem Come.later {pins : List (Addr × Obj)} {σ' : St'} {H' H1' : PHp} {H H1 : Hp} {E' : XK'} {σ1 : L2.St} {a : Addr} {s1 : Shared} (c : Come X B pins σ' H1' H1 E' σ1 a s1) (e : Ev H' H H1' H1) : Come X B pins σ' H' H E' σ1 a s1 := by
  obtain ⟨H2', H2, C, T, d, i, x, s, v, q⟩ := c.ex
  exact ⟨H2', H2, C, T, d, i, x, s, e.trans v, q⟩
theorem runX {pins : List (Addr × Obj)} {σ : L2.St} {H : Hp} {s : Shared} {Q : VK} {us : List Value} {vs : List V} {Ex : Value → Shared → Prop} {σ' : St'} {H' : PHp} {vs' : List PV} {Q' : VK'} {E' : XK'} (pl : Plain X)
    (F : FnOk' X.prog X.w X.K X.mg X.base (CXU X.prog X.w) k f fd ps sp) (hr : Room k X.A) (hb : Binds X.K fd ps []) (I : Inv X pins σ H s) (sr : SR X.K B σ' H' σ H) (r : Vals vs us) (r' : RPs X.K H vs' vs) (h : sp vs' H' Q' E')
    (hQ : ∀ v' H1' v H1, Q' v' H1' → RP X.K H1 v' v → SR X.K B σ' H1' σ H1 → Ev H' H H1' H1 → Q v H1) (hE : ∀ a s1, Come X B pins σ' H' H E' σ a s1 → Ex (.ref a) s1) :
    wpAny (model X.prog X.w) X.A (call (.ref f) us) (EP X pins σ Q) Ex s := by
  have hsp : lowSp X.K sp vs H Q (fun c d H1 => ∃ H1', E' c d H1' ∧ HR X.K H1' H1 ∧ Ev H' H H1' H1) :=
    ⟨vs', H', Q', E', r', sr.hp, h, fun v' H2' v H2 q r2 h2 e2 => hQ v' H2' v H2 q r2 (sr.kp e2 h2) e2, fun c d H2' H2 q h2 e2 => ⟨H2', q, h2, e2⟩⟩
  have hl : (us ++ []).length = ps.length := by rw [List.append_nil, ← r.length]; exact F.len _ _ _ _ hsp
  have hb' := hb s us I.kIn hl
  rw [List.append_nil] at hb'
  refine wpAny_call (codeAny_mono (F.run X.A X.stack s H ⟨us, []⟩ us vs Q _ hr I.env0 hb' r hsp) fun r s' hq => ?_)
  cases r with
  | error e =>
    have hq' : CXU X.prog X.w X.stack H s (fun c d H1 => ∃ H1', E' c d H1' ∧ HR X.K H1' H1 ∧ Ev H' H H1' H1) e s' := hq
    obtain ⟨a, C, T, H1, d, rfl, I1, x1, ⟨H1', q, h1, e1⟩, _⟩ := from_call I pl hq'
    exact hE a s' ⟨H1', H1, C, T, d, I1, x1, sr.kp e1 h1, e1, q⟩
  | ok fl =>
    cases fl with
    | ret u => exact I.after hq
    | next => exact False.elim hq
    | brk => exact False.elim hq
    | cont => exact False.elim hq
def xCall (sp : Sp') (t : TA') : TX' := fun σ H Q E => t σ H fun vs H1 => sp vs H1 Q E
theorem px_call (pl : Plain X) (F : FnOk' X.prog X.w X.K X.mg X.base (CXU X.prog X.w) k f fd ps sp) (hr : Room k X.A) (hg : Gl X x) (hm : X.mg x = some (.ref f)) (hk : PySem.W.keepIn X.K (.ref f) = true) (hb : Binds X.K fd ps [])
    (ha : PA' X.nox B (e :: es) t) (hdb : (x == ("__debug__" : Str)) = false := by decide) (he : starEach (e :: es) X.env = (false, eval e X.env) :: starEach es X.env := by rfl) (hpl : (backTo pos (starEach es X.env)).any (·.1) = false := by rfl) :
    PXE X B (.Call (.Name x p) (e :: es) [] pos) (xCall sp t) := by
  intro Ex pins s σ H Q σ' H' Q' E' I sr h hQ hE
  refine wpAny_Call_Name_kw (ld_glob I hg hm ?_ hdb)
  have hA := ha pos pins s σ H (fun vs H1 => ∃ vs' H1', RPs X.K H1 vs' vs ∧ SR X.K B σ' H1' σ H1 ∧ Ev H' H H1' H1 ∧ sp vs' H1' Q' E') (I.wish _) ⟨σ', H', _, sr, h, fun vs' H1' vs H1 q r s1 e1 => ⟨vs', H1', r, s1, e1, q⟩⟩
  refine PySem.W.callWith_K (h₀ := X.base) I.ok.mod.kin hk (thn (no_ex hA) fun us s1 ⟨vs, H1, I1, r, vs', H1', r', s1', e1, q⟩ => ⟨I1.kIn, ?_⟩) he hpl
  exact runX pl F hr hb I1.unwish s1' r r' q (fun v' H2' v H2 q r2 s2 e2 => hQ v' H2' v H2 q r2 s2 (e1.trans e2)) fun a s2 c => hE a s2 (c.later e1)
def xSet (i : Nat) (t : TX') : TSX' := fun D E σ H => t σ H (fun v H1 => D.nx (σ.set i (some v)) H1) (E σ)
def xDrop (t : TX') : TSX' := fun D E σ H => t σ H (fun _ H1 => D.nx σ H1) (E σ)
theorem qx_set {i : Nat} {y : Str} {pos' : Pos} {tx : TX'} (hN : X.N.Nodup) (hi : X.N[i]? = some y) (hy : Loc X.env.scope y) (he : PXE X B e tx) (hs : swapsWith e (some (.Name y pos')) pos.line X.env = pure false := by rfl)
    (hf : X.fn y = true ∨ X.env.scope.names.lookup y = some .local := by first | exact .inl rfl | exact .inr rfl | assumption) : PSX X B (.Assign [.Name y pos'] e pos) (xSet i tx) := by
  intro Ex pins s σ H D σ' H' D' E' I sr h dr hE
  refine wpAny_Assign_Name (thn (he Ex pins s σ H (fun v H1 => ∃ v' H1', D'.nx (σ'.set i (some v')) H1' ∧ RP X.K H1 v' v ∧ SR X.K B σ' H1' σ H1 ∧ Ev H' H H1' H1) σ' H' _ (E' σ') I sr h (fun v' H1' v H1 q r s1 e1 => ⟨v', H1', q, r, s1, e1⟩) fun a s1 c => hE σ' σ a s1 c) fun v s1 ⟨y, H1, I1, r1, v', H1', q, r, s1', e1⟩ => ?_) hs
  exact store_ok I1 hN hi hy r1 (fun s2 I2 => ⟨_, H1, I2, dr.nx _ _ _ _ q (s1'.set r i) e1⟩) hf
def xSeq (t u : TSX') : TSX' := fun D E σ H => t { D with nx := u D E } E σ H
theorem qxs_one {st : Stmt} {ts : TSX'} (h : PSX X B st ts) : PSXs X B [st] ts := by
  intro Ex pins s σ H D σ' H' D' E' I sr ht dr hE
  refine wpAny_execs_cons (thn (h Ex pins s σ H D σ' H' D' E' I sr ht dr hE) fun f s1 q => ?_)
  cases f with
  | next => exact wpAny_execs_nil q
  | _ => exact q
def xIf (c : TT') (t u : TSX') : TSX' := fun D E σ H => c σ H fun b H1 => cif b (t D E σ H1) (u D E σ H1)
def uTry (K : PySem.W.Frag) (D : Addr) (t : TSX') (i j : Nat) : TS' := fun Dn σ H => t Dn (fun σ1 c d H1 => ∃ C, c = .ref C ∧ (XC0 K C ∧ PySem.W.mroIn K C (.ref D) = some true) ∧ ∀ a, H1 a = none → Dn.nx (((σ1.set i (some (.ref a))).set j (some (.ref a))).set i none) (put H1 a (exo C d))) σ H
theorem qs_try {body : List Stmt} {tb : TSX'} {i j : Nat} {z : Str} {zp n2 ap hp : Pos} (pl : Plain X) (hN : X.N.Nodup) (hi : X.N[i]? = some n) (hj : X.N[j]? = some z) (hln : X.env.scope.names.lookup n = some .local) (hlz : X.env.scope.names.lookup z = some .local)
    (cD : XCls X.K D) (hg : Gl X x) (hm : X.mg x = some (.ref D)) (hb : PSXs X B body tb)
    (hdb : (x == ("__debug__" : Str)) = false := by decide) (hnd : (n == ("__debug__" : Str)) = false := by decide) (hncd : (n == ("__classdict__" : Str)) = false := by decide)
    (hsw : swapsWith (.Name n n2) (some (.Name z zp)) ap.line X.env = pure false := by rfl) :
    PS' X B (.Try body [.ExceptHandler (some (.Name x np)) (some n) [.Assign [.Name z zp] (.Name n n2) ap] hp] [] [] pos) (uTry X.K D tb i j) := by
  intro pins s σ H Dn I ⟨σ', H', D', sr, h, dr⟩
  refine wpAny_Try_except (wpAny_mono (hb (fun e s₁ => wpAny (model X.prog X.w) X.A (noteFrame e X.env) (fun _ s₂ => wpAny (model X.prog X.w) X.A (setFlight e none) (fun _ s₃ => wpAny (model X.prog X.w) X.A (handleBy e X.env [.ExceptHandler (some (.Name x np)) (some n) [.Assign [.Name z zp] (.Name n n2) ap] hp]) (SP X pins Dn) X.xe s₃) X.xe s₂) X.xe s₁)
    pins s σ H Dn σ' H' D' _ I sr h dr ?_) (fun f s₁ q => ?_) fun _ _ q => q)
  · rintro σ1' σ1 a s1 ⟨H1', H1, C, T, d, I1, x1, sr1, e1, C', ec, ⟨cC, hmC⟩, hn⟩
    cases ec
    refine note_x I1 pl x1 fun h2 T2 I2 x2 => ?_
    refine land_x I2 pl x2 fun h3 T3 I3 x3 => ?_
    obtain ⟨oe, vs, oT, ts, a0, q1, q2, _⟩ := id x3.fly
    refine wpAny_handleBy_cons (codeAny_handlers_test (ld_glob (inv_mk I3 (.ref a)) hg hm ?_ hdb)) (by intro q; cases q)
    refine excMatches_own (X := X) I3.kIn cD hmC ⟨oe, q1, q2⟩ ?_
    show codeAny _ _ (.handlers (.ref a) [.ExceptHandler none (some n) [.Assign [.Name z zp] (.Name n n2) ap] hp] X.env) _ _
    refine codeAny_handlers_suite_as ?_
    refine land_x (X := mk X (.ref a)) (inv_mk I3 (.ref a)) (plain_mk pl _) (T := T3) (fl := .none) ⟨x3.dat, x3.fly, x3.ha, x3.hT, x3.na, x3.nT, x3.pin⟩ fun h4 T4 I4 x4 => ?_
    obtain ⟨φ, I5, oat⟩ := track_x (K := X.K) I4 x4
    refine store_ok (X := mk X (.ref a)) (v := .ref a) I5 hN hi (Or.inl hln) rfl (fun s5 I6 => ?_) (.inr hln)
    have ps := pss_one (ps_set (X := mk X (.ref a)) (pos := ap) (i := j) hN hj (Or.inl hlz) (pe_var (pos := n2) hi (Or.inl hln) hnd hncd) hsw (.inr hlz))
    have hiσ : i < σ1.length := by rw [I1.len]; exact (List.getElem?_eq_some_iff.mp hi).1
    refine no_ex (thn (ps pins s5 _ _ { nx := fun σ6 H6 => σ6 = (σ1.set i (some (.ref a))).set j (some (.ref a)) ∧ H6 = upd H1 a (.ext φ), rt := fun _ _ => False } I6 ⟨.ref a, List.getElem?_set_self hiσ, rfl, rfl⟩) fun f s6 q => ?_)
    cases f with
    | next =>
      obtain ⟨σ6, H6, I7, rfl, rfl⟩ := q
      show wpAny _ X.A (do bindName X.env n .none; unbindBehindTheSuite X.env n hp) _ _ _
      refine name_goes (inv_unmk I.ok I7) hN hi hln fun s7 I8 => ?_
      refine ⟨_, _, I8, dr.nx _ _ _ _ (hn a (sr1.hp.free x1.ha)) ?_ (e1.trans (Ev.new x1.ha))⟩
      have srn : SR X.K B σ1' (put H1' a (exo C d)) σ1 (upd H1 a (.ext φ)) := sr1.new x1.ha oat
      have r : RP X.K (upd H1 a (.ext φ)) (.ref a) (.ref a) := by simp [RP]
      have sr2 := (srn.set r i).set r j
      refine ⟨by simp [sr2.len], fun k v' ek => ?_, sr2.hp, sr2.ev⟩
      by_cases hk : i = k
      · subst hk
        by_cases hlt : i < σ1'.length
        · rw [List.getElem?_set_self (by simpa using hlt)] at ek; cases ek
        · rw [List.getElem?_eq_none (by simpa using Nat.le_of_not_lt hlt)] at ek; cases ek
      · rw [List.getElem?_set_ne hk] at ek ⊢
        exact sr2.loc k v' ek
    | ret v => obtain ⟨_, _, _, _, _, z⟩ := q; exact z.elim
    | brk => obtain ⟨_, _, _, z⟩ := q; exact z.elim
    | cont => obtain ⟨_, _, _, z⟩ := q; exact z.elim
  · cases f with
    | next => exact wpAny_execs_nil q
    | ret v => exact q
    | brk => exact q
    | cont => exact q
def isxOf (K : PySem.W.Frag) (D : Value) (x : PV) (H : PHp) (Q : VK') : Prop := match x with
  | .ref a => ∃ C d b, H a = some (exo C d) ∧ XC0 K C ∧ PySem.W.kitOne K (.ref C) D = some b ∧ Q (.bl b) H
  | _ => False
def uIsx (K : PySem.W.Frag) (D : Value) (ta : TE') : TE' := fun σ H Q => ta σ H fun x H1 => isxOf K D x H1 Q
theorem call_isx {dv : V} (Dv : Value) (hD : ∀ u, RelV dv u → u = Dv) : CallR X (.builtin "isinstance") (fun xs H Q => ∃ a C b φ, xs = [.ref a, dv] ∧ (H a = some (.ext φ) ∧ ∀ h, φ h → ExcA a C h) ∧ XC0 X.K C ∧ PySem.W.kitOne X.K (.ref C) Dv = some b ∧ Q (.bl b) H) := by
  intro pins s σ H xs us Q I r h
  obtain ⟨a, C, b, φ, rfl, ⟨ha, hφ⟩, c, k, q⟩ := h
  obtain ⟨u, w', rfl, rx, rc⟩ := vals2 r
  have e1 : w' = Dv := hD _ rc
  subst e1
  cases rx
  obtain ⟨ph, _, _⟩ := (show ObjOk X.prog X.w H s.heap a (.ext φ) from I.hok a _ ha)
  exact PySem.W.kia_one (kitx_exc c) I.kIn (hφ _ ph) k (fun z => nomatch z) fun tk => ⟨.bl b, H, I.tok _, rfl, q⟩
theorem low_isx {K : PySem.W.Frag} {dv' : PV} {dv : V} {Dv : Value} (rd : ∀ H, RP K H dv' dv) {σ : L2.St} {H : Hp} {Q : VK} (h : low K B (uIsx K Dv ta) σ H Q) :
    tCB (fun xs H Q => ∃ a C b φ, xs = [.ref a, dv] ∧ (H a = some (.ext φ) ∧ ∀ h, φ h → ExcA a C h) ∧ XC0 K C ∧ PySem.W.kitOne K (.ref C) Dv = some b ∧ Q (.bl b) H) (tCons (low K B ta) (tCons (tC dv) tNil)) σ H Q := by
  obtain ⟨σ', H', Q', s, h, k⟩ := h
  refine ⟨σ', H', _, s, h, fun x' H1' x H1 h1 rx s1 e1 => ?_⟩
  cases x' with
  | ref a =>
    obtain ⟨C, d, b, ea, c, kk, q⟩ := h1
    simp only [RP] at rx
    subst rx
    obtain ⟨φ, e1', e2'⟩ : ∃ φ, H1 a = some (.ext φ) ∧ ∀ h, φ h → ExcA a C h := by
      have q := s1.hp _ _ ea
      cases d with
      | none => exact ⟨_, q, fun _ z => z⟩
      | some n => obtain ⟨dx, o, z, _⟩ := q; exact ⟨_, z, fun _ ⟨o, a, b, _⟩ => ⟨o, a, b⟩⟩
    exact ⟨a, C, b, φ, rfl, ⟨e1', e2'⟩, c, kk, k _ _ _ _ q (by simp [RP]) s1 e1⟩
  | _ => exact h1.elim
theorem qe_isx {pD : Pos} (hm : X.mg x = some (.ref D)) (hgD : Gl X x) (hg : Gl X "isinstance") (hi : X.mg "isinstance" = none) (ha : PE' X B e ta) (hdb : (x == ("__debug__" : Str)) = false := by decide)
    (he : starEach [e, .Name x pD] X.env = (false, eval e X.env) :: starEach [.Name x pD] X.env := by rfl) (he2 : starEach [.Name x pD] X.env = (false, eval (.Name x pD) X.env) :: starEach [] X.env := by rfl) (hpl : (backTo pos (starEach [.Name x pD] X.env)).any (·.1) = false := by rfl) :
    PE' X B (.Call (.Name "isinstance" p) [e, .Name x pD] [] pos) (uIsx X.K (.ref D) ta) :=
  pe_imp (pe_callB (call_isx (dv := .ref D) (.ref D) fun u r => r) hg hi boot_isinstance (pa_cons ha (pa_cons (pe_glob hgD hm (v := .ref D) rfl hdb) pa_nil he2) he) (by decide) (by decide) he hpl) fun _ _ _ h => low_isx (dv' := .ref D) (fun _ => by simp [RP]) h
theorem qe_isxT {pD : Pos} {T : String} (hm : X.mg x = none) (hv : bootBuiltins x = some (.type T)) (hgD : Gl X x) (hg : Gl X "isinstance") (hi : X.mg "isinstance" = none) (ha : PE' X B e ta) (hdb : (x == ("__debug__" : Str)) = false := by decide) (hxn : x ≠ "__name__" := by decide)
    (he : starEach [e, .Name x pD] X.env = (false, eval e X.env) :: starEach [.Name x pD] X.env := by rfl) (he2 : starEach [.Name x pD] X.env = (false, eval (.Name x pD) X.env) :: starEach [] X.env := by rfl) (hpl : (backTo pos (starEach [.Name x pD] X.env)).any (·.1) = false := by rfl) :
    PE' X B (.Call (.Name "isinstance" p) [e, .Name x pD] [] pos) (uIsx X.K (.type T) ta) :=
  pe_imp (pe_callB (call_isx (dv := .ty T) (.type T) fun u r => r) hg hi boot_isinstance (pa_cons ha (pa_cons (pe_bltn hgD hm hv (v := .ty T) rfl hxn hdb) pa_nil he2) he) (by decide) (by decide) he hpl) fun _ _ _ h => low_isx (dv' := .oth (.ty T)) (fun _ => by simp [RP]) h
end
end U


set_option linter.all false
set_option maxRecDepth 100000
set_option maxHeartbeats 4000000
namespace U
open PySem L2
def pr (p : Str × Bool) : PV := .tup [.str p.1, .bl p.2]
def told (xs : List (Str × Bool)) : List PV := (xs.filter (·.2)).map fun p => PV.str p.1
theorem kinds_loop {D : Ends'} {xs : List (Str × Bool)} {a : PV} {r q : Addr} {H0 : PHp} {u v : Option PV} {ok : PHp → Prop} (hrq : r ≠ q) (hok : ∀ H : PHp, (∀ b, b ≠ r → H b = H0 b) → ok H) (h : H0 r = some (.lst [])) (hl : xs.length ≤ 100)
    (hD : ∀ H u v, H r = some (.lst (told xs)) → (∀ b, b ≠ r → H b = H0 b) → D.nx [some a, some (.ref r), some (.ref q), u, v] H) :
    uForL ok (vTup 2 (vCons (vName 3) (vCons (vName 4) vNil))) (uIfS (uTest (uVar 4)) (uDrop (uBM uAppend (uVar 1) (uCons (uVar 3) uNil))) uNext) D (xs.map pr) [some a, some (.ref r), some (.ref q), u, v] H0 := by
  suffices key : ∀ (ys : List (Str × Bool)) (acc : List PV) (H : PHp) u v, H r = some (.lst acc) → (∀ b, b ≠ r → H b = H0 b) → acc ++ told ys = told xs → acc.length + ys.length ≤ 100 →
      uForL ok (vTup 2 (vCons (vName 3) (vCons (vName 4) vNil))) (uIfS (uTest (uVar 4)) (uDrop (uBM uAppend (uVar 1) (uCons (uVar 3) uNil))) uNext) D (ys.map pr) [some a, some (.ref r), some (.ref q), u, v] H from
    key xs [] H0 u v h (fun _ _ => rfl) rfl (by simpa using hl)
  intro ys
  induction ys with
  | nil =>
    intro acc H u v hr hb e _
    refine ⟨hok H hb, hD H u v ?_ hb⟩
    rw [hr, ← e]; simp [told]
  | cons y ys ih =>
    intro acc H u v hr hb e hl
    obtain ⟨n, b⟩ := y
    refine ⟨hok H hb, ?_⟩
    simp only [pr, w_vt, w_vc, vName, w_vn, List.set_cons_zero, List.set_cons_succ, uIfS, uTest, uVar, List.getElem?_cons_zero, List.getElem?_cons_succ, w_V, List.length_cons, List.length_nil, true_and]
    simp only [List.length_cons] at hl
    cases b with
    | false =>
      simp only [w_B, cif_f, uNext]
      exact ih acc H _ _ hr hb (by rw [← e]; simp [told]) (by omega)
    | true =>
      simp only [w_B, cif_t, uDrop, w_bm, uVar, List.getElem?_cons_zero, List.getElem?_cons_succ, w_V, w_il, uCons, uNil, w_ap]
      refine ⟨⟨_, hr⟩, acc, hr, small1000 (by omega), ?_⟩
      refine ih (acc ++ [.str n]) _ _ _ put_same (fun b hb' => (put_ne hb').trans (hb b hb')) (by rw [← e]; simp [told]) (by simp; omega)
end U
namespace U
open PySem L2
def IsV (σ : St') (H : PHp) (te : TE') (b : Bool) : Prop := ∀ Q : VK', Q (.bl b) H → te σ H Q
theorem isv_isx {K : PySem.W.Frag} {D : Value} {a C : Addr} {d : Option Addr} {σ : St'} {H : PHp} {b : Bool} (ha : H a = some (exo C d)) (c : XC0 K C) (k : PySem.W.kitOne K (.ref C) D = some b) : IsV (some (.ref a) :: σ) H (uIsx K D (uVar 0)) b :=
  fun Q h => (⟨C, d, b, ha, c, k, h⟩ : isxOf K D (.ref a) H Q)
theorem isv_not {σ : St'} {H : PHp} {te : TE'} {b : Bool} (h : IsV σ H te b) : IsV σ H (uNotV te) (!b) := fun Q q => h _ q
def uItems : List (Str × TE') → TA'
  | [] => uNil
  | (n, te) :: r => uCons (uTup (uCons (uC (.str n)) (uCons te uNil))) (uItems r)
def AllV (σ : St') (H : PHp) : List (Str × TE') → List Bool → Prop
  | [], [] => True
  | (_, te) :: r, b :: bs => IsV σ H te b ∧ AllV σ H r bs
  | _, _ => False
def pairs : List (Str × TE') → List Bool → List PV
  | (n, _) :: r, b :: bs => .tup [.str n, .bl b] :: pairs r bs
  | _, _ => []
theorem items_ok {σ : St'} {H : PHp} : ∀ {l : List (Str × TE')} {bs : List Bool} {Q : List PV → PHp → Prop}, AllV σ H l bs → Q (pairs l bs) H → uItems l σ H Q
  | [], [], Q, _, q => q
  | (n, te) :: r, b :: bs, Q, ⟨h, hr⟩, q => by
    have s2 : (2 : Nat) ≤ sizeLine := small_size (by decide)
    show te σ H fun v H1 => _
    refine h _ ?_
    refine ⟨s2, ?_⟩
    exact items_ok (Q := fun vs H' => Q (.tup [.str n, .bl b] :: vs) H') hr q
structure KI (H0 H : PHp) (a r q C : Addr) (d : Option Addr) (L : List PV) : Prop where
  ha : H a = some (exo C d)
  hr : H r = some (.lst [])
  hq : H q = some (.lst L)
  sb : Sub H0 H
  nq : H0 q = none
  ln : L.length ≤ 100
  rq : r ≠ q
theorem pairs_len : ∀ (l : List (Str × TE')) (bs : List Bool), (pairs l bs).length ≤ l.length
  | [], bs => by cases bs <;> simp [pairs]
  | _ :: _, [] => by simp [pairs]
  | (n, te) :: r, b :: bs => by simpa [pairs] using pairs_len r bs
theorem k_first {H0 H : PHp} {a r C : Addr} {d : Option Addr} {l : List (Str × TE')} {bs : List Bool} {R : TS'} {D : Ends'} {o u v : Option PV} (ha : H a = some (exo C d)) (hr : H r = some (.lst [])) (sb : Sub H0 H) (hl : l.length ≤ 4)
    (hv : AllV [some (.ref a), some (.ref r), o, u, v] H l bs) (h : ∀ q H', KI H0 H' a r q C d (pairs l bs) → R D [some (.ref a), some (.ref r), some (.ref q), u, v] H') :
    uSeq (uAsg (uLst (uItems l)) (vName 2)) R D [some (.ref a), some (.ref r), o, u, v] H := by
  show uItems l _ H fun xs H1 => _
  have hn := pairs_len l bs
  refine items_ok hv ⟨small_size (by omega), fun q hq => ?_⟩
  exact h q _ ⟨(put_ne (ne_none ha hq)).trans ha, (put_ne (ne_none hr hq)).trans hr, put_same, sb.put (sb.free hq), sb.free hq, by omega, ne_none hr hq⟩
theorem k_more {H0 H : PHp} {a r q C : Addr} {d : Option Addr} {L : List PV} {l : List (Str × TE')} {bs : List Bool} {R : TS'} {D : Ends'} {u v : Option PV} (i : KI H0 H a r q C d L) (hl : l.length ≤ 4 ∧ L.length ≤ 50)
    (hv : AllV [some (.ref a), some (.ref r), some (.ref q), u, v] H l bs) (h : ∀ H', KI H0 H' a r q C d (L ++ pairs l bs) → R D [some (.ref a), some (.ref r), some (.ref q), u, v] H') :
    uSeq (uDrop (uBM uExtend (uVar 2) (uCons (uLst (uItems l)) uNil))) R D [some (.ref a), some (.ref r), some (.ref q), u, v] H := by
  show isL (.ref q) H ∧ uItems l _ H fun xs H1 => _
  have hn := pairs_len l bs
  refine ⟨⟨_, i.hq⟩, items_ok hv ⟨small_size (by omega), fun p hp => ?_⟩⟩
  have qp := ne_none i.hq hp
  show uExtend (.ref q) [.ref p] (put H p (.lst (pairs l bs))) fun _ H1 => R D [some (.ref a), some (.ref r), some (.ref q), u, v] H1
  refine ⟨L, pairs l bs, (put_ne qp).trans i.hq, put_same, small_size (by omega), ?_⟩
  have aq : a ≠ q := by rintro rfl; have := i.ha.symm.trans i.hq; cases d <;> cases this
  exact h _ ⟨(put_ne aq).trans ((put_ne (ne_none i.ha hp)).trans i.ha), (put_ne i.rq).trans ((put_ne (ne_none i.hr hp)).trans i.hr), put_same, (i.sb.put (i.sb.free hp)).put i.nq, i.nq, by rw [List.length_append]; omega, i.rq⟩
theorem k_last {H0 H : PHp} {a r q C : Addr} {d : Option Addr} {xs : List (Str × Bool)} {R : TS'} {D : Ends'} {u v : Option PV} {nm : Str} (i : KI H0 H a r q C d (xs.map pr)) (hn : told xs = [.str nm])
    (h : ∀ H' u v, Sub (put H0 r (.lst [.str nm])) H' → R D [some (.ref a), some (.ref r), some (.ref q), u, v] H') :
    uSeq (uFor (uSeqI (uVar 2)) (vTup 2 (vCons (vName 3) (vCons (vName 4) vNil))) (uIfS (uTest (uVar 4)) (uDrop (uBM uAppend (uVar 1) (uCons (uVar 3) uNil))) uNext)) R D [some (.ref a), some (.ref r), some (.ref q), u, v] H := by
  show ∃ l, H q = some (.lst l) ∧ _
  refine ⟨_, i.hq, ?_⟩
  have hl : xs.length ≤ 100 := by simpa using i.ln
  refine kinds_loop i.rq (fun H' hb => (hb q (Ne.symm i.rq)).trans i.hq) i.hr hl fun H1 u v e1 e2 => h H1 u v fun b o e => ?_
  by_cases hb : b = r
  · subst hb; rw [put_same] at e; rw [e1, ← e, hn]
  · rw [put_ne hb] at e; rw [e2 b hb]; exact i.sb b o e
end U
namespace U
open PySem
theorem len0 {P : List Value → Prop} (h : P []) (us : List Value) (hl : us.length = 0) : P us := by
  cases us with
  | nil => exact h
  | cons a r => exact absurd hl (Nat.succ_ne_zero _)
theorem len1 {P : List Value → Prop} (h : ∀ a, P [a]) (us : List Value) (hl : us.length = 1) : P us := by
  cases us with
  | nil => exact absurd hl.symm (Nat.succ_ne_zero _)
  | cons a r => exact len0 (P := fun r => P (a :: r)) (h a) r (Nat.succ.inj hl)
theorem len2 {P : List Value → Prop} (h : ∀ a b, P [a, b]) (us : List Value) (hl : us.length = 2) : P us := by
  cases us with
  | nil => exact absurd hl.symm (Nat.succ_ne_zero _)
  | cons a r => exact len1 (P := fun r => P (a :: r)) (h a) r (Nat.succ.inj hl)
theorem len3 {P : List Value → Prop} (h : ∀ a b c, P [a, b, c]) (us : List Value) (hl : us.length = 3) : P us := by
  cases us with
  | nil => exact absurd hl.symm (Nat.succ_ne_zero _)
  | cons a r => exact len2 (P := fun r => P (a :: r)) (h a) r (Nat.succ.inj hl)
end U
namespace U
open PySem PySem.Spec PyProof.Rows L2
variable {B : Bs} {X : Cx}
end U


set_option linter.all false
set_option maxRecDepth 100000
set_option maxHeartbeats 4000000
namespace L2
open PySem PySem.Spec PyProof.Rows
def compCx (X : Cx) (N2 : List Str) (scope : Scope) (cl : List (Str × Addr)) (s0 : Shared) (H0 : Hp) (fp : List Addr) (ps : List (Addr × Obj)) : Cx :=
  { X with N := N2, s₀ := s0, H₀ := H0, env := compEnvC scope cl s0.heap.objs.size X.env, outer := X.stack, stack := X.stack, ex := fp, fn := fun x => (cl.lookup x).isNone, pn := ps, xe := fun _ _ => False }
def sig0 (nt : Nat) (js : List Nat) (σ : St) : St := List.replicate nt none ++ js.map fun j => (σ[j]?).join
theorem lookup_relabel_free {env : Env} : ∀ {names : List (Str × NameKind)} {x : Str}, names.lookup x = some .free →
    (names.map fun (n, k) => if (k == NameKind.free && env.scope.kind == .function && env.kindOf n == some .cell) then (n, NameKind.cell) else (n, k)).lookup x = some .cell ∨
    (names.map fun (n, k) => if (k == NameKind.free && env.scope.kind == .function && env.kindOf n == some .cell) then (n, NameKind.cell) else (n, k)).lookup x = some .free
  | [], _, h => by simp at h
  | (n, k) :: r, x, h => by
    have ih := @lookup_relabel_free env r x
    show List.lookup x ((if (k == NameKind.free && env.scope.kind == .function && env.kindOf n == some .cell) = true then (n, NameKind.cell) else (n, k)) :: _) = _ ∨ List.lookup x ((if (k == NameKind.free && env.scope.kind == .function && env.kindOf n == some .cell) = true then (n, NameKind.cell) else (n, k)) :: _) = _
    cases hx : x == n with
    | true =>
      simp only [List.lookup_cons, hx] at h
      cases h
      by_cases hc : (NameKind.free == NameKind.free && env.scope.kind == .function && env.kindOf n == some .cell) = true
      · rw [if_pos hc]; simp [List.lookup_cons, hx]
      · rw [if_neg hc]; simp [List.lookup_cons, hx]
    | false =>
      simp only [List.lookup_cons, hx] at h
      by_cases hc : (k == NameKind.free && env.scope.kind == .function && env.kindOf n == some .cell) = true
      · rw [if_pos hc]; simp only [List.lookup_cons, hx]; exact ih h
      · rw [if_neg hc]; simp only [List.lookup_cons, hx]; exact ih h
structure CompOk (X : Cx) (N2 : List Str) (nt : Nat) (js : List Nat) (scope : Scope) (cl : List (Str × Addr)) (sc : Scope) : Prop where
  clos : closureFor scope X.env = pure cl
  sub : ∀ x c, cl.lookup x = some c → X.env.cells.lookup x = some c
  xsc : X.env.scope = sc
  kind : scope.kind = .function
  nocell : ∀ y ∈ scope.names, y.2 ≠ .cell
  loc : ∀ y ∈ scope.names, y.2 = .local → scope.names.lookup y.1 = some .local
  has : ∀ y ∈ scope.names, y.2 = .free → y.1 ∈ cl.map (·.1)
  frs : ∀ x ∈ N2.drop nt, scope.names.lookup x = some .free ∧ sc.names.lookup x = some .cell
  len : N2.length = nt + js.length
  pl : ∀ (k j : Nat), js[k]? = some j → X.N[j]? = N2[nt + k]?
theorem mem_lookup {α : Type} : ∀ {l : List (Str × α)} {x : Str}, x ∈ l.map (·.1) → ∃ c, l.lookup x = some c
  | [], _, h => by simp at h
  | (n, k) :: r, x, h => by
    cases hx : x == n with
    | true => exact ⟨k, by simp [List.lookup_cons, hx]⟩
    | false =>
      have h' : x = n ∨ x ∈ r.map (·.1) := by simpa using h
      have hn : x ≠ n := by intro e; subst e; simp at hx
      obtain ⟨c, e⟩ := mem_lookup (h'.resolve_left hn)
      exact ⟨c, by simp [List.lookup_cons, hx, e]⟩
theorem lookup_mem {α : Type} : ∀ {l : List (Str × α)} {x : Str} {c : α}, l.lookup x = some c → (x, c) ∈ l
  | [], _, _, h => by simp at h
  | (n, k) :: r, x, c, h => by
    cases hx : x == n with
    | true =>
      simp only [List.lookup_cons, hx] at h
      have e : x = n := by simpa using hx
      cases h; subst e; exact List.mem_cons_self
    | false =>
      simp only [List.lookup_cons, hx] at h
      exact List.mem_cons_of_mem _ (lookup_mem h)
section
variable {X : Cx} {pins : List (Addr × Obj)} {σ : St} {H : Hp} {s : Shared} {N2 : List Str} {nt : Nat} {js : List Nat} {scope sc : Scope} {cl : List (Str × Addr)} {fp : List Addr}
theorem CompOk.kindOf (O : CompOk X N2 nt js scope cl sc) {x : Str} {C : Addr} (h : (compEnvC scope cl C X.env).kindOf x = some .cell ∨ (compEnvC scope cl C X.env).kindOf x = some .free) : ∃ c, cl.lookup x = some c := by
  have h' : (relabel scope X.env).names.lookup x = some .cell ∨ (relabel scope X.env).names.lookup x = some .free := h
  have key : ∀ (k : NameKind), (relabel scope X.env).names.lookup x = some k → (k = .cell ∨ k = .free) → ∃ y ∈ scope.names, y.1 = x ∧ (y.2 = .cell ∨ y.2 = .free) := fun k e hk => by
    have m := lookup_mem e
    obtain ⟨⟨n, k'⟩, hm, e'⟩ := List.mem_map.mp m
    by_cases hc : (k' == NameKind.free && X.env.scope.kind == .function && X.env.kindOf n == some .cell) = true
    · simp only [hc, if_true] at e'
      have e1 : n = x := congrArg Prod.fst e'
      refine ⟨(n, k'), hm, e1, .inr ?_⟩
      rw [Bool.and_eq_true, Bool.and_eq_true] at hc
      exact beq_iff_eq.mp hc.1.1
    · have e'' : (n, k') = (x, k) := by
        dsimp only at e'
        rw [if_neg hc] at e'
        exact e'
      cases e''
      exact ⟨(x, k), hm, rfl, hk⟩
  obtain ⟨y, hy, rfl, hk⟩ := h'.elim (fun e => key _ e (.inl rfl)) fun e => key _ e (.inr rfl)
  rcases hk with hk | hk
  · exact absurd hk (O.nocell y hy)
  · exact mem_lookup (O.has y hy hk)
theorem compCx_ok (O : CompOk X N2 nt js scope cl sc) (I : Inv X pins σ H s) (hf : ∀ b ∈ fp, FpOk X pins H b) (hlt : ∀ b ∈ fp, b < s.heap.objs.size) : (compCx X N2 scope cl s H fp (X.pn ++ pins)).Ok where
  mod := I.ok.mod
  kind := O.kind
  glob := I.ok.glob
  blt := I.ok.blt
  above := Nat.le_refl _
  inj := fun x y c h1 h2 => I.ok.inj x y c (O.sub x c h1) (O.sub y c h2)
  has := fun x h => O.kindOf h
  cab := fun x c h1 h2 => by
    have h1' : (cl.lookup x).isNone = true := h1
    have h2' : cl.lookup x = some c := h2
    rw [h2'] at h1'; cases h1'
  hd := I.ok.hd
  frames := I.ok.frames
  stk := .inl rfl
  exf := fun b hb => ⟨Nat.ne_of_lt (hlt b hb), fun x c e => (hf b hb).2.2.2.2.1 x c (O.sub x c e)⟩
  bs := I.bs
  bsz := Nat.le_trans I.ok.bsz I.sz
  noex := fun b o e hb => by
    obtain ⟨_, _, _, h3, _⟩ := hf b hb
    rcases h3 with h3 | h3
    · exact I.ok.noex b o e h3
    · exact absurd (Nat.lt_of_lt_of_le (Heap.lt_size (I.ok.bs b o e).1) h3) (Nat.lt_irrefl _)
  exfs := fun b hb hs => by
    obtain ⟨_, h1, h2, _⟩ := hf b hb
    rcases List.mem_cons.mp (I.stkSub b hs) with e | e
    · exact h1 e
    · exact h2 e
  funs := I.stack
  frf := I.stkFree
theorem comp_start (O : CompOk X N2 nt js scope cl sc) (I : Inv X pins σ H s) (hf : ∀ b ∈ fp, FpOk X pins H b) (hlt : ∀ b ∈ fp, b < s.heap.objs.size) {h4 : Heap} {t4 : Nat} (hn : h4.Ns s.heap.objs.size fun _ => none)
    (hk : ∀ b o, s.heap.get? b = some o → h4.get? b = some o) : Inv (compCx X N2 scope cl s H fp (X.pn ++ pins)) [] (sig0 nt js σ) H { s with heap := h4, toks := t4 } := by
  refine ⟨compCx_ok O I hf hlt, rfl, I.bare, Un.kept hk, ⟨_, hn, fun i x v e1 e2 e3 => ?_⟩, fun x c e => ?_, I.hok.fresh (Nat.le_refl _), fun x c e => I.freeC x c (O.sub x c e), fun p hp => ?_, I.hok.kept hk, ?_⟩
  · unfold sig0 at e2
    by_cases hi : i < nt
    · rw [List.getElem?_append_left (by simpa using hi), List.getElem?_replicate] at e2
      split at e2 <;> cases e2
    · obtain ⟨k, rfl⟩ : ∃ k, i = nt + k := ⟨i - nt, by omega⟩
      rw [List.getElem?_append_right (by simp), List.length_replicate, Nat.add_sub_cancel_left, List.getElem?_map] at e2
      cases ej : js[k]? with
      | none => rw [ej] at e2; cases e2
      | some j =>
        rw [ej] at e2
        have e2' : (σ[j]?).join = some v := Option.some.inj e2
        have eσ : σ[j]? = some (some v) := by
          cases q : σ[j]? with
          | none => rw [q] at e2'; cases e2'
          | some o => rw [q] at e2'; exact congrArg some e2'
        have eN : X.N[j]? = some x := (O.pl k j ej).trans e1
        have hx : x ∈ N2.drop nt := by
          have : (N2.drop nt)[k]? = some x := by rw [List.getElem?_drop]; exact e1
          exact List.mem_of_getElem? this
        obtain ⟨f1, f2⟩ := O.frs x hx
        have vis : Vis X.env.scope x := .inr (.inl (by rw [O.xsc]; exact f2))
        obtain ⟨m, hnX, hl⟩ := I.loc
        obtain ⟨u, r, l⟩ := hl j x v eN eσ vis
        refine ⟨u, r, .inr ⟨?_, ?_⟩⟩
        · exact lookup_relabel_free f1
        · rcases l with ⟨k1, _⟩ | ⟨_, c, ec, ic⟩
          · have k2 : sc.names.lookup x = some .local := by rw [← O.xsc]; exact k1
            rw [f2] at k2; cases k2
          · obtain ⟨c', ec'⟩ := mem_lookup (O.has (x, .free) (lookup_mem f1) rfl)
            have := O.sub x c' ec'
            rw [ec] at this; cases this
            obtain ⟨o, ho, hd⟩ := ic
            exact ⟨c, ec', o, hk _ _ ho, hd⟩
  · obtain ⟨v, o, ho, hd⟩ := I.cell x c (O.sub x c e)
    exact ⟨v, o, hk _ _ ho, hd⟩
  · have hp' : p ∈ X.pn ++ pins := by
      have hp2 : p ∈ (X.pn ++ pins) ++ [] := hp
      rwa [List.append_nil] at hp2
    obtain ⟨e, n, ne, nf, d⟩ := I.pin p hp'
    refine ⟨hk _ _ e, n, Nat.ne_of_lt (Heap.lt_size e), fun hb => ?_, d⟩
    rcases List.mem_cons.mp (I.stkSub p.1 hb) with z | z
    · exact ne z
    · exact nf z
  · unfold sig0
    show _ = N2.length
    rw [List.length_append, List.length_replicate, List.length_map, O.len]
theorem comp_end {σ' : St} {H' : Hp} {s' : Shared} {pl : List (Addr × Obj)} (I : Inv X pins σ H s) (hf : ∀ b ∈ fp, FpOk X pins H b) (J : Inv (compCx X N2 scope cl s H fp (X.pn ++ pins)) pl σ' H' s') : Inv X pins σ H' s' :=
  I.call' (ch := fp) J.os J.base J.hok J.bare fun b hb => by
    obtain ⟨h0, h1, h2, h3, h4, h5⟩ := hf b hb
    exact ⟨h3, h1, h4, h5⟩
end
end L2
namespace L2
open PySem PySem.Spec PyProof.Rows
def PIf (Y : Cx) (ifs : List Expr) (t : TT) : Prop :=
  ∀ (pins : List (Addr × Obj)) (s : Shared) (σ : St) (H : Hp) (Q : Bool → Hp → Prop), Inv Y pins σ H s → t σ H Q →
    wpAny (model Y.prog Y.w) Y.A (forIn ifs true fun c r => if r = true then do let ok ← isTrue c Y.env (eval c Y.env); pure (ForInStep.yield ok) else pure (ForInStep.yield r)) (TP Y pins σ Q) Y.xe s
def tYes : TT := fun _ H Q => Q true H
theorem pif_nil {Y : Cx} : PIf Y [] tYes := fun _ _ _ H _ I h => wpAny_tests_nil ⟨H, I, h⟩
theorem pif_one {Y : Cx} {c : Expr} {t : TT} (h : PT Y c t) : PIf Y [c] t := fun pins s σ H Q I hw => wpAny_tests_one (h pins s σ H Q I hw)
def turnC (acc : Addr) (J : It) (g : TG) (tt : TT) (te : TE) (W : Nat → Nat → L2.St → Hp → Prop) (i m : Nat) (σ0 : L2.St) (H : Hp) : Prop :=
  J.go i H ∧ ∀ x H', J.yld i H x H' → g x σ0 H' fun σ3 H2 => tt σ3 H2 fun b H3 =>
    if b = true then te σ3 H3 fun y H4 => ∃ ys, H4 acc = some (.lst ys) ∧ ys.length < sizeLine ∧ ∃ m', m' < m ∧ W (i + 1) m' σ3 (upd H4 acc (.lst (ys ++ [y])))
    else ∃ m', m' < m ∧ W (i + 1) m' σ3 H3
def tComp (nt : Nat) (js : List Nat) (wi : TI) (g : TG) (tt : TT) (te : TE) : TE := fun σ H Q => wi σ H fun J H1 => ∀ acc, H1 acc = none →
  ∃ W : Nat → Nat → L2.St → Hp → Prop, (∃ m, W 0 m (sig0 nt js σ) (upd H1 acc (.lst []))) ∧ ∀ i m σ0 H, W i m σ0 H → (J.stop i H ∧ Q (.ref acc) H) ∨ turnC acc J g tt te W i m σ0 H
structure CompB (Y : Cx) (tg : Expr) (ifs : List Expr) (elt : Expr) (g : TG) (tt : TT) (te : TE) : Prop where
  tgt : PG Y tg g
  tst : PIf Y ifs tt
  elt : PE Y elt te
theorem compLoop_own {prog : Program} {w : World} {A : Around} {R : Result → Shared → Prop} {s : Shared} {elt target iter : Expr} {ifs : List Expr} {scope : Scope} {pos : Pos} {it acc : Value} {env : Env} (I : Nat → Shared → Prop)
    (turn : ∀ n s, I n s → wpAny (model prog w) A (pyNext it) (fun r s₁ => match r with
      | none => R (.ok .next) s₁
      | some v => wpAny (model prog w) A (letOwnedTupleGo target it v) (fun _ s₀ => wpAny (model prog w) A (assign target env v) (fun _ s₂ =>
          wpAny (model prog w) A (forIn ifs true fun c r => if r = true then do let ok ← isTrue c env (eval c env); pure (ForInStep.yield ok) else pure (ForInStep.yield r)) (fun ok s₃ =>
            if ok = true then wpAny (model prog w) A (eval elt env) (fun x s₄ =>
              wpAny (model prog w) A (call (.builtin "list.append") [acc, x]) (fun _ s₅ => ∃ m, m < n ∧ I m s₅) (fun _ _ => False) s₄) (fun _ _ => False) s₃
            else ∃ m, m < n ∧ I m s₃) (fun _ _ => False) s₂) (fun _ _ => False) s₀) (fun _ _ => False) s₁) (fun _ _ => False) s)
    (n : Nat) (h : I n s) :
    codeAny (model prog w) A (.compLoop (.ListComp elt [⟨target, iter, ifs, 0⟩] scope pos) 0 it acc env) R s := by
  refine codeAny_loop rfl I (fun n s hI => ?_) n h
  show wpAny _ A ((compTurn (.ListComp elt [⟨target, iter, ifs, 0⟩] scope pos) 0 it acc env).onRaise (fun x => do noteFrame x env; theTreesLotGoes x)) _ _ s
  refine wpAny_noted ?_
  rw [compTurn_list]
  refine wpAny_bind (wpAny_standAt (wpAny_bind (wpAny_mono (turn n s hI) (fun r s₁ h₁ => ?_) fun _ _ h' => h'.elim)))
  cases r with
  | none => exact wpAny_pure h₁
  | some v =>
    refine wpAny_bind (wpAny_mono h₁ (fun _ s₀ h₀ => ?_) fun _ _ h' => h'.elim)
    refine wpAny_bind (wpAny_mono h₀ (fun _ s₂ h₂ => wpAny_bind (wpAny_mono h₂ (fun ok s₃ h₃ => ?_) fun _ _ h' => h'.elim)) fun _ _ h' => h'.elim)
    cases ok with
    | false => exact wpAny_pure ⟨rfl, h₃⟩
    | true =>
      exact wpAny_bind (wpAny_bind (wpAny_mono h₃ (fun x s₄ h₄ => wpAny_bind (wpAny_mono h₄ (fun _ s₅ h₅ => wpAny_pure (wpAny_pure ⟨rfl, h₅⟩)) fun _ _ h' => h'.elim)) fun _ _ h' => h'.elim))
section
variable {X : Cx} {pins : List (Addr × Obj)} {σ : St} {H : Hp} {s : Shared} {N2 : List Str} {nt : Nat} {js : List Nat} {scope sc : Scope} {cl : List (Str × Addr)} {fp : List Addr} {elt iter tg : Expr} {ifs : List Expr} {pos : Pos}
  {wi : TI} {g : TG} {tt : TT} {te : TE}
theorem comp_run (O : CompOk X N2 nt js scope cl sc) (hc : X.calm = true) (B : ∀ (s0 : Shared) (H0 : Hp) (fp : List Addr) (ps : List (Addr × Obj)), CompB (compCx X N2 scope cl s0 H0 fp ps) tg ifs elt g tt te)
    {it : Addr} {tn : Nat → Heap → Prop} {J : It} {E : Value → Shared → Prop} {Q : VK} {RR : Value → Addr → Result → Shared → Prop}
    (I : Inv X pins σ H s) (T : Turn X.prog X.w X.K tg J fp it tn) (st : tn 0 s.heap) (hf : ∀ b ∈ fp, FpOk X pins H b)
    (h : ∀ acc, H acc = none → ∃ W : Nat → Nat → L2.St → Hp → Prop, (∃ m, W 0 m (sig0 nt js σ) (upd H acc (.lst []))) ∧ ∀ i m σ0 H, W i m σ0 H → (J.stop i H ∧ Q (.ref acc) H) ∨ turnC acc J g tt te W i m σ0 H)
    (hRR : ∀ (acc C : Addr) (s' : Shared) (H' : Hp) (m : Str → Option Value), s'.heap.Ns C m → Inv X pins σ H' s' → H' C = none → C ≠ X.env.locals → X.s₀.heap.objs.size ≤ C → (∀ x c, X.env.cells.lookup x = some c → c ≠ C) → (∀ p ∈ X.pn ++ pins, p.1 ≠ C) → Q (.ref acc) H' → RR (.ref acc) C (.ok .next) s') :
    wpAny (model X.prog X.w) X.A (newList []) (fun acc s₃ => wpAny (model X.prog X.w) X.A (newFunctionEnv scope X.env.globals cl [] X.env.qual none .none (some X.env)) (fun cenv s₄ =>
      codeAny (model X.prog X.w) X.A (.compStart (.ListComp elt [⟨tg, iter, ifs, 0⟩] scope pos) 0 (.ref it) acc { cenv with scope := relabel scope X.env }) (RR acc cenv.locals) s₄) E s₃) E s := by
  have hlt : ∀ b ∈ fp, b < s.heap.objs.size := fun b hb => by
    obtain ⟨o, e, _⟩ := T.obj _ _ st b hb
    exact Heap.lt_size e
  have hnA : H s.heap.objs.size = none := I.hok.fresh (Nat.le_refl _)
  obtain ⟨W, ⟨m0, w0⟩, turn⟩ := h s.heap.objs.size hnA
  refine wpAny_newObj_type (wpAny_newFunctionEnv O.nocell (by intro y hy; simp at hy) (fun h₁ hns₁ hsb₁ => ?_) O.kind)
  dsimp only at hns₁ hsb₁ ⊢
  have I3 : Inv X pins σ (upd H s.heap.objs.size (.lst [])) { s with heap := s.heap.push { cls := .type "list", dict := none, data := .seq ([] : List Value).toArray } } :=
    I.laid (t' := s.toks) (fun b u e => Heap.get?_push_of_some _ e) (Nat.le_refl _) ⟨by show 0 ≤ sizeLine; exact Nat.zero_le _, [], 0, .nil, Heap.get?_push_size _ rfl⟩
  generalize hs3 : ({ s with heap := s.heap.push { cls := .type "list", dict := none, data := .seq ([] : List Value).toArray } } : Shared) = s3 at I3
  have e3 : s3.heap = s.heap.push { cls := .type "list", dict := none, data := .seq ([] : List Value).toArray } := by rw [← hs3]
  rw [← e3] at hns₁ hsb₁ ⊢
  have et : s3.toks = s.toks := by rw [← hs3]
  have hf3 : ∀ b ∈ fp, FpOk X pins (upd H s.heap.objs.size (.lst [])) b := fun b hb => by
    obtain ⟨f0, f⟩ := hf b hb
    exact ⟨by rw [upd_ne (Nat.ne_of_lt (hlt b hb))]; exact f0, f⟩
  have hlt3 : ∀ b ∈ fp, b < s3.heap.objs.size := fun b hb => by rw [e3, Heap.size_push]; exact Nat.lt_succ_of_lt (hlt b hb)
  have hk4 : ∀ b o, s3.heap.get? b = some o → h₁.get? b = some o := fun b o e => hsb₁.extBut b o (Nat.ne_of_lt (Heap.lt_size e)) (Heap.get?_push_of_some _ e)
  have hns' : h₁.Ns s3.heap.objs.size fun _ => none := hns₁
  have I4 := comp_start (t4 := s3.toks + ([] : List (Str × Value)).length) O I3 hf3 hlt3 hns' hk4
  have st4 : tn 0 h₁ := T.keep _ _ _ st fun b hb o e => hk4 b o (by rw [e3]; exact Heap.get?_push_of_some _ e)
  have B4 := B s3 (upd H s.heap.objs.size (.lst [])) fp (X.pn ++ pins)
  generalize hY : compCx X N2 scope cl s3 (upd H s.heap.objs.size (.lst [])) fp (X.pn ++ pins) = Y at I4 B4
  have yP : Y.prog = X.prog := by rw [← hY]; rfl
  have yw : Y.w = X.w := by rw [← hY]; rfl
  have yK : Y.K = X.K := by rw [← hY]; rfl
  have yA : Y.A = X.A := by rw [← hY]; rfl
  have yc : Y.calm = true := by rw [← hY]; exact hc
  have yx : Y.xe = fun _ _ => False := by rw [← hY]; rfl
  have ye : Y.env = compEnvC scope cl s3.heap.objs.size X.env := by rw [← hY]; rfl
  have fpY : ∀ {H' : Hp}, (∀ b ∈ fp, H' b = none) → ∀ b ∈ fp, FpOk Y [] H' b := fun hn b hb => by
    obtain ⟨f0, f1, f2, f3, f4, f5⟩ := hf3 b hb
    rw [← hY]
    refine ⟨hn b hb, Nat.ne_of_lt (hlt3 b hb), fun hs => ?_, .inl hb, fun x c e => f4 x c (O.sub x c e), fun p hp => ?_⟩
    · rcases List.mem_cons.mp (I3.stkSub b hs) with e | e
      · exact f1 e
      · exact f2 e
    · have hp2 : p ∈ (X.pn ++ pins) ++ [] := hp
      rw [List.append_nil] at hp2
      exact f5 p hp2
  have fin : ∀ {σ' : St} {H' : Hp} {s' : Shared} {pl : List (Addr × Obj)}, Inv Y pl σ' H' s' → Q (.ref s.heap.objs.size) H' → RR (.ref s.heap.objs.size) s3.heap.objs.size (.ok .next) s' := fun {σ' H' s' pl} I' q => by
    have J' : Inv X pins σ H' s' := comp_end I3 hf3 (hY ▸ I')
    obtain ⟨m, hn, _⟩ := I'.loc
    have hfr := I'.free
    rw [ye] at hn hfr
    refine hRR _ _ s' H' m hn J' hfr (Nat.ne_of_gt I3.lt) I3.sz (fun x c e z => ?_) (fun p hp z => ?_) q
    · obtain ⟨v, q⟩ := I3.cell x c e
      exact absurd (Nat.lt_of_lt_of_le q.lt (by rw [z]; exact Nat.le_refl _)) (Nat.lt_irrefl _)
    · exact absurd (Nat.lt_of_lt_of_le (Heap.lt_size (I3.pin p hp).1) (by rw [z]; exact Nat.le_refl _)) (Nat.lt_irrefl _)
  have loop : ∀ s4 : Shared, s4 = { s3 with heap := h₁, toks := s3.toks + ([] : List (Str × Value)).length } →
      codeAny (model X.prog X.w) X.A (.compLoop (.ListComp elt [⟨tg, iter, ifs, 0⟩] scope pos) 0 (.ref it) (.ref s.heap.objs.size) (compEnvC scope cl s3.heap.objs.size X.env)) (RR (.ref s.heap.objs.size) s3.heap.objs.size) s4 := by
    rintro s4 rfl
    refine compLoop_own (fun n s' => ∃ i σ0 H', Inv Y [] σ0 H' s' ∧ tn i s'.heap ∧ (∀ b ∈ fp, H' b = none) ∧ W i n σ0 H') ?_ m0
      ⟨0, _, _, I4, st4, fun b hb => (hf3 b hb).1, w0⟩
    rintro n s5 ⟨i, σ5, H5, I5, st5, fr5, w5⟩
    rcases turn i n σ5 H5 w5 with ⟨stop, q⟩ | ⟨go, step⟩
    · have r := T.done Y yP yw yK yc i [] s5 _ H5 (fun _ _ => False) I5 (fpY fr5) st5 stop
      rw [yA] at r
      refine thn r fun r s6 ⟨hr, I6⟩ => ?_
      subst hr
      exact fin I6 q
    · have r := T.item Y yP yw yK yc i [] s5 _ H5 (fun _ _ => False) I5 (fpY fr5) st5 go
      rw [yA] at r
      refine thn r fun r s6 ⟨u, hr, h6⟩ => ?_
      subst hr
      refine thn h6 fun _ s7 ⟨x, H7, I7, r7, y7, st7, fr7⟩ => ?_
      have I7' := I7.pinned (fpY fr7) (T.obj _ _ st7)
      have r := B4.tgt _ s7 _ H7 x u _ I7' r7 (step x H7 y7)
      rw [yP, yw, yA, yx, ye] at r
      refine thn r fun _ s8 ⟨σ8, H8, I8, q8⟩ => ?_
      have r := B4.tst _ s8 σ8 H8 _ I8 q8
      rw [yP, yw, yA, yx, ye] at r
      refine thn r fun ok s9 ⟨H9, I9, q9⟩ => ?_
      have back : ∀ {s' : Shared} {H' : Hp}, Inv Y ([] ++ pinsAt fp s7.heap) σ8 H' s' → (Inv Y [] σ8 H' s' ∧ tn (i + 1) s'.heap ∧ ∀ b ∈ fp, H' b = none) := fun {s' H'} I' => by
        refine ⟨I'.unpinned, T.keep _ _ _ st7 fun b hb o e => (I'.pin (b, o) (List.mem_append_right _ (List.mem_append_right _ (mem_pinsAt hb e)))).1, fun b hb => ?_⟩
        obtain ⟨o, e, d⟩ := T.obj _ _ st7 b hb
        exact (I'.pin (b, o) (List.mem_append_right _ (List.mem_append_right _ (mem_pinsAt hb e)))).2.1
      cases ok with
      | false =>
        have q9' : ∃ m', m' < n ∧ W (i + 1) m' σ8 H9 := q9
        obtain ⟨m', hm, w9⟩ := q9'
        obtain ⟨b1, b2, b3⟩ := back I9
        show ∃ m, m < n ∧ _
        exact ⟨m', hm, i + 1, σ8, H9, b1, b2, b3, w9⟩
      | true =>
        have q9' : te σ8 H9 fun y H4 => ∃ ys, H4 s.heap.objs.size = some (.lst ys) ∧ ys.length < sizeLine ∧ ∃ m', m' < n ∧ W (i + 1) m' σ8 (upd H4 s.heap.objs.size (.lst (ys ++ [y]))) := q9
        have r := B4.elt _ s9 σ8 H9 _ I9 q9'
        rw [yP, yw, yA, yx, ye] at r
        show wpAny _ _ (eval elt _) _ _ s9
        refine thn r fun y s10 ⟨yv, H10, I10, r10, q10⟩ => ?_
        obtain ⟨ys, a1, a2, m', hm, w10⟩ := q10
        have r := mt_append (X := Y) _ s10 σ8 H10 (.ref s.heap.objs.size) [yv] (.ref s.heap.objs.size) [y] (fun _ H' => H' = upd H10 s.heap.objs.size (.lst (ys ++ [yv]))) I10 rfl (.cons r10 .nil) ⟨_, ys, yv, rfl, rfl, a1, a2, rfl⟩
        rw [yP, yw, yA, yx] at r
        refine thn r fun _ s11 ⟨_, H11, I11, _, e11⟩ => ?_
        subst e11
        obtain ⟨b1, b2, b3⟩ := back I11
        exact ⟨m', hm, i + 1, σ8, _, b1, b2, b3, w10⟩
  have st4' : tn 0 ({ s3 with heap := h₁, toks := s3.toks + ([] : List (Str × Value)).length } : Shared).heap := st4
  have hs4 : ({ s with heap := h₁, toks := s.toks + ([] : List (Str × Value)).length } : Shared) = { s3 with heap := h₁, toks := s3.toks + ([] : List (Str × Value)).length } := by rw [← hs3]
  exact codeAny_compStart_list (loop _ hs4) (T.self _ 0 _ _ _ st4 (loop _ hs4))
theorem pe_compO (O : CompOk X N2 nt js scope cl sc) (hc : X.calm = true) (hi : PI X tg iter wi) (B : ∀ (s0 : Shared) (H0 : Hp) (fp : List Addr) (ps : List (Addr × Obj)), CompB (compCx X N2 scope cl s0 H0 fp ps) tg ifs elt g tt te)
    (hs : ∀ x, foldedSetIterable iter X.env x = pure x := by intro _; rfl) : PE X (.ListComp elt [⟨tg, iter, ifs, 0⟩] scope pos) (tComp nt js wi g tt te) := by
  intro pins s σ H Q I h
  rw [eval_ListComp]
  refine wpAny_comprehension_free (use := none) rfl hs O.clos O.kind O.loc (thn (hi pins s σ H _ I h) fun xv s1 h1 => thn h1 fun itv s2 h2 => ?_)
  obtain ⟨it, fp, tn, J, H2, e, I2, T, st2, f2, q⟩ := h2
  subst e
  refine comp_run (RR := fun acc C => compPost (model X.prog X.w) X.A X.xe none (EP X pins σ Q) acc C) O hc B I2 T st2 f2 q ?_
  intro acc C s' H' m hn J' c1 c2 c3 c4 c5 q'
  refine ⟨m, hn, fun h' hsb => ⟨.ref acc, H', ?_, rfl, q'⟩⟩
  exact J'.turned (t' := s'.toks) (fun b o hb e => hsb.extBut b o hb e) c1 (Ne.symm c2 |> fun z => fun y => z y.symm) (.inr c3) c4 c5
end
end L2


set_option linter.all false
set_option maxRecDepth 100000
set_option maxHeartbeats 4000000
namespace U
open PySem PySem.Spec PyProof.Rows L2
variable {B : Bs} {X : Cx} {pos : Pos}
def sigU (nt : Nat) (js : List Nat) (σ : St') : St' := List.replicate nt none ++ js.map fun j => (σ[j]?).join
theorem SR.sig {K : PySem.W.Frag} {σ' : St'} {H' : PHp} {σ : L2.St} {H : Hp} (s : SR K B σ' H' σ H) (nt : Nat) (js : List Nat) : SR K B (sigU nt js σ') H' (sig0 nt js σ) H := by
  refine ⟨by simp [sigU, sig0], fun i v' e => ?_, s.hp, s.ev⟩
  unfold sigU at e
  unfold sig0
  by_cases hi : i < nt
  · rw [List.getElem?_append_left (by simpa using hi), List.getElem?_replicate] at e
    split at e <;> cases e
  · rw [List.getElem?_append_right (by simp; omega), List.length_replicate, List.getElem?_map] at e ⊢
    cases ej : js[i - nt]? with
    | none => rw [ej] at e; cases e
    | some j =>
      rw [ej] at e
      have e2 : (σ'[j]?).join = some v' := Option.some.inj e
      cases q : σ'[j]? with
      | none => rw [q] at e2; cases e2
      | some o =>
        rw [q] at e2
        have e3 : σ'[j]? = some (some v') := by rw [q]; exact congrArg some e2
        obtain ⟨v, a, b⟩ := s.loc j v' e3
        exact ⟨v, by show some ((σ[j]?).join) = _; rw [a]; rfl, b⟩
def uCompL (ok : PHp → Prop) (g : TG') (tt : TT') (te : TE') (acc : Addr) (Q : VK') : List PV → St' → PHp → Prop
  | [], σ, H => ok H ∧ Q (.ref acc) H
  | x :: r, σ, H => ok H ∧ g x σ H fun σ3 H2 => tt σ3 H2 fun b H3 => cif b (te σ3 H3 fun y H4 => ∃ l, H4 acc = some (.lst l) ∧ l.length < sizeLine ∧ uCompL ok g tt te acc Q r σ3 (put H4 acc (.lst (l ++ [y])))) (uCompL ok g tt te acc Q r σ3 H3)
def uComp (nt : Nat) (js : List Nat) (wi : TI') (g : TG') (tt : TT') (te : TE') : TE' := fun σ H Q => wi σ H fun J H1 => ∀ acc, H1 acc = none → uCompL J.ok g tt te acc Q J.items (sigU nt js σ) (put H1 acc (.lst []))
def PIf' (Y : Cx) (B : Bs) (ifs : List Expr) (t : TT') : Prop := PIf Y ifs (lowT Y.K B t)
def uYes : TT' := fun _ H Q => Q true H
theorem qif_nil {Y : Cx} : PIf' Y B [] uYes := fun pins s σ H Q I ⟨σ', H', Q', sr, h, k⟩ => pif_nil pins s σ H Q I (k true H' H h sr (Ev.refl _ _))
theorem qif_one {Y : Cx} {c : Expr} {t : TT'} (h : PT' Y B c t) : PIf' Y B [c] t := pif_one h
theorem low_comp {K : PySem.W.Frag} {nt : Nat} {js : List Nat} {wi : TI'} {g : TG'} {tt : TT'} {te : TE'} {σ : L2.St} {H : Hp} {Q : VK} (h : low K B (uComp nt js wi g tt te) σ H Q) :
    tComp nt js (lowI K B wi) (lowG K B g) (lowT K B tt) (low K B te) σ H Q := by
  obtain ⟨σ', H', Q', s, h, k⟩ := h
  refine ⟨σ', H', _, s, h, fun J' H1' J H1 h1 wk s1 e1 acc ha => ?_⟩
  have h1 := h1 acc (s1.hp.free ha)
  have sn : SR K B σ' (put H1' acc (.lst [])) σ (upd H1 acc (.lst [])) := s1.new ha ⟨[], upd_same, RPs.nil _⟩
  have en : Ev H1' H1 (put H1' acc (.lst [])) (upd H1 acc (.lst [])) := Ev.new ha
  refine ⟨fun i m σ2 H2 => i ≤ J'.items.length ∧ m = J'.items.length - i ∧ ∃ σ2' H2', SR K B σ2' H2' σ2 H2 ∧ SR K B σ' H2' σ H2 ∧ Ev H1' H1 H2' H2 ∧ uCompL J'.ok g tt te acc Q' (J'.items.drop i) σ2' H2',
    ⟨J'.items.length, Nat.zero_le _, by simp, _, _, sn.sig nt js, sn, en, h1⟩, ?_⟩
  rintro i m σ2 H2 ⟨hi, rfl, σ2', H2', s2, so, e2, h2⟩
  have k2 := e2.kp s1.hp
  by_cases hlt : i < J'.items.length
  · obtain ⟨x', hx⟩ : ∃ x', J'.items[i]? = some x' := ⟨_, List.getElem?_eq_getElem hlt⟩
    have hd : J'.items.drop i = x' :: J'.items.drop (i + 1) := by
      rw [List.drop_eq_getElem_cons hlt]
      rw [List.getElem?_eq_getElem hlt] at hx
      cases hx; rfl
    rw [hd] at h2
    obtain ⟨ok2, h2⟩ := (show J'.ok H2' ∧ _ from h2)
    refine .inr ⟨wk.go H2' H2 i k2 s2.hp ok2 hlt, fun x H3 y => ?_⟩
    obtain ⟨rfl, rx⟩ := wk.yld H2' H2 i x H3 k2 s2.hp ok2 y
    refine ⟨x', σ2', H2', _, rx x' hx, s2, h2, fun σ3' H3' σ3 H3 h3 s3 e3 => ⟨σ3', H3', _, s3, h3, fun b H4' H4 h4 s4 e4 => ?_⟩⟩
    cases b with
    | false =>
      have e24 := e3.trans e4
      exact iteF ⟨J'.items.length - (i + 1), by omega, hlt, rfl, σ3', H4', s4, so.kp e24 s4.hp, e2.trans e24, h4⟩
    | true =>
      refine iteT ⟨σ3', H4', _, s4, h4, fun y' H5' y H5 h5 ry5 s5 e5 => ?_⟩
      obtain ⟨l, a1, a2, h5⟩ := h5
      have e25 := (e3.trans e4).trans e5
      obtain ⟨us, q1, q2⟩ := s5.hp _ _ a1
      have wr := wrL s5.hp a1 (RPs.append _ q2 (RPs.cons _ ry5 (RPs.nil _)))
      refine ⟨us, q1, by rw [RPs.length _ q2]; exact a2, J'.items.length - (i + 1), by omega, hlt, rfl, σ3', _, s5.wr a1 wr, (so.kp e25 s5.hp).wr a1 wr, (e2.trans e25).trans (Ev.wr a1), h5⟩
  · have hi' : i = J'.items.length := by omega
    subst hi'
    rw [List.drop_length] at h2
    obtain ⟨ok2, h2⟩ := (show J'.ok H2' ∧ _ from h2)
    exact .inl ⟨wk.stop H2' H2 _ k2 s2.hp ok2 (Nat.le_refl _), k _ _ _ _ h2 (by simp [RP]) so (e1.trans e2)⟩

section
variable {N2 : List Str} {nt : Nat} {js : List Nat} {scope sc : Scope} {cl : List (Str × Addr)} {elt iter tg : Expr} {ifs : List Expr} {wi : TI'} {g : TG'} {tt : TT'} {te : TE'}
structure CompB' (Y : Cx) (B : Bs) (tg : Expr) (ifs : List Expr) (elt : Expr) (g : TG') (tt : TT') (te : TE') : Prop where
  tgt : PG' Y B tg g
  tst : PIf' Y B ifs tt
  elt : PE' Y B elt te
theorem qe_comp (O : CompOk X N2 nt js scope cl sc) (hc : X.calm = true) (hi : PI' X B tg iter wi) (b : ∀ (s0 : Shared) (H0 : Hp) (fp : List Addr) (ps : List (Addr × Obj)), CompB' (compCx X N2 scope cl s0 H0 fp ps) B tg ifs elt g tt te)
    (hs : ∀ x, foldedSetIterable iter X.env x = pure x := by intro _; rfl) : PE' X B (.ListComp elt [⟨tg, iter, ifs, 0⟩] scope pos) (uComp nt js wi g tt te) :=
  pe_imp (pe_compO (g := lowG X.K B g) (tt := lowT X.K B tt) (te := low X.K B te) O hc hi (fun s0 H0 fp ps => ⟨(b s0 H0 fp ps).tgt, (b s0 H0 fp ps).tst, (b s0 H0 fp ps).elt⟩) hs) fun _ _ _ h => low_comp h
end
end U
namespace U
open PySem PySem.Spec PyProof.Rows L2
def AllL (cs : List (Str × Addr)) : List (Str × Addr) → Prop
  | [] => True
  | p :: r => cs.lookup p.1 = some p.2 ∧ AllL cs r
theorem AllL.mem {cs : List (Str × Addr)} : ∀ {l : List (Str × Addr)} {p : Str × Addr}, AllL cs l → p ∈ l → cs.lookup p.1 = some p.2
  | q :: r, p, h, m => by
    rcases List.mem_cons.mp m with rfl | m
    · exact h.1
    · exact AllL.mem h.2 m
theorem cok {X : Cx} {N2 : List Str} {nt : Nat} {js : List Nat} {scope sc : Scope} {cl : List (Str × Addr)} (clos : closureFor scope X.env = pure cl) (sub : AllL X.env.cells cl) (xsc : X.env.scope = sc) (kind : scope.kind = .function)
    (nocell : ∀ y ∈ scope.names, y.2 ≠ .cell) (loc : ∀ y ∈ scope.names, y.2 = .local → scope.names.lookup y.1 = some .local) (names : cl.map (·.1) = ((scope.names.filter (·.2 == .free)).map (·.1)).reverse)
    (frs : ∀ x ∈ N2.drop nt, scope.names.lookup x = some .free ∧ sc.names.lookup x = some .cell) (len : N2.length = nt + js.length) (pl : js.map (fun j => X.N[j]?) = (N2.drop nt).map some) : CompOk X N2 nt js scope cl sc :=
  ⟨clos, fun x c e => sub.mem (lookup_mem e), xsc, kind, nocell, loc, fun y m f => by rw [names]; exact List.mem_reverse.mpr (List.mem_map_of_mem (List.mem_filter.mpr ⟨m, by rw [f]; rfl⟩)), frs, len, fun k j e => by
    have h : (js.map (fun j => X.N[j]?))[k]? = ((N2.drop nt).map some)[k]? := by rw [pl]
    rw [List.getElem?_map, List.getElem?_map, e, List.getElem?_drop] at h
    cases q : N2[nt + k]? with
    | none => rw [q] at h; cases h
    | some x => rw [q] at h; exact Option.some.inj h⟩
end U
namespace U
open PySem PySem.Spec PyProof.Rows L2
end U


set_option linter.all false
set_option maxRecDepth 100000
set_option maxHeartbeats 4000000
namespace L2
open PySem PySem.Spec PyProof.Rows
variable {X : Cx} {a b c d : Expr} {pos : Pos} {ta tb tc td : TE}
end L2
namespace U
open PySem PySem.Spec PyProof.Rows L2
variable {B : Bs} {X : Cx} {a b c d e o value : Expr} {pos pos' apos p : Pos} {ta tb tc td tv : TE'} {f m x : Str} {C g : Addr}
def fldOf (C : Addr) (f : Str) (x : PV) (H : PHp) (Q : VK') : Prop := match x with
  | .ref a => ∃ dx fs v, H a = some (.ins C dx fs) ∧ fs.lookup f = some v ∧ Q v H
  | _ => False
def uFld (C : Addr) (f : Str) (ta : TE') : TE' := fun σ H Q => ta σ H fun x H1 => fldOf C f x H1 Q
theorem frel_lookup {K : PySem.W.Frag} {H : Hp} {f : Str} {v : PV} {fs : List (Str × PV)} {gs : List (Str × V)} (h : FRel K H fs gs) (e : fs.lookup f = some v) : ∃ u, gs.lookup f = some u ∧ RP K H v u := by
  induction h with
  | nil => simp at e
  | @cons a b _ _ h t ih =>
    obtain ⟨n, y⟩ := a
    obtain ⟨m, z⟩ := b
    obtain ⟨rfl, hr⟩ := h
    dsimp only at hr
    cases hx : f == n with
    | true =>
      simp only [List.lookup_cons, hx] at e ⊢
      cases e
      exact ⟨z, rfl, hr⟩
    | false =>
      simp only [List.lookup_cons, hx] at e ⊢
      exact ih e
theorem frel_none {K : PySem.W.Frag} {H : Hp} {f : Str} {fs : List (Str × PV)} {gs : List (Str × V)} (h : FRel K H fs gs) (e : fs.lookup f = none) : gs.lookup f = none := by
  induction h with
  | nil => rfl
  | @cons a b _ _ h t ih =>
    obtain ⟨n, y⟩ := a
    obtain ⟨m, z⟩ := b
    obtain ⟨rfl, hr⟩ := h
    cases hx : f == n with
    | true => simp only [List.lookup_cons, hx] at e; cases e
    | false =>
      simp only [List.lookup_cons, hx] at e ⊢
      exact ih e
theorem frel_len {K : PySem.W.Frag} {H : Hp} {fs : List (Str × PV)} {gs : List (Str × V)} (h : FRel K H fs gs) : gs.length = fs.length := by
  induction h with
  | nil => rfl
  | cons _ _ ih => simp [ih]
theorem qe_fld (ha : PE' X B e ta) (cl : Cls X.K C) (n : NoAttr X.K C f) (hb : attributeBase e f X.env (eval e X.env) = eval e X.env) : PE' X B (.Attribute e f pos) (uFld C f ta) := pe_imp (pe_fld ha hb) fun σ H Q ⟨σ', H', Q', s, h, k⟩ => by
  refine ⟨σ', H', _, s, h, fun x' H1' x H1 h1 rx s1 e1 => ?_⟩
  cases x' with
  | ref a =>
    obtain ⟨dx, fs, v, ea, l, q⟩ := h1
    simp only [RP] at rx
    subst rx
    obtain ⟨gs, eg, fr⟩ := s1.hp _ _ ea
    obtain ⟨u, lu, ru⟩ := frel_lookup fr l
    exact ⟨a, C, dx, gs, u, rfl, eg, cl, n, lu, k _ _ _ _ q ru s1 e1⟩
  | _ => exact h1.elim
def putU (f : Str) (v : PV) : List (Str × PV) → List (Str × PV)
  | [] => [(f, v)]
  | (g, x) :: r => if g = f then (g, v) :: r else (g, x) :: putU f v r
theorem frel_put {K : PySem.W.Frag} {H : Hp} {f : Str} {v : PV} {u : V} (rv : RP K H v u) {fs : List (Str × PV)} {gs : List (Str × V)} (h : FRel K H fs gs) : FRel K H (putU f v fs) (putF f u gs) := by
  induction h with
  | nil => exact .cons ⟨rfl, rv⟩ .nil
  | @cons a b _ _ h t ih =>
    obtain ⟨n, y⟩ := a
    obtain ⟨m, z⟩ := b
    obtain ⟨rfl, hr⟩ := h
    unfold putU putF
    by_cases hn : n = f
    · rw [if_pos hn, if_pos hn]; exact .cons ⟨rfl, rv⟩ t
    · rw [if_neg hn, if_neg hn]; exact .cons ⟨rfl, hr⟩ ih
def stFld (C : Addr) (f : Str) (x y : PV) (H : PHp) (Q : PHp → Prop) : Prop := match x with
  | .ref a => ∃ dx fs, H a = some (.ins C dx fs) ∧ fs.length < 1000 ∧ Q (put H a (.ins C dx (putU f y fs)))
  | _ => False
def uStFld (C : Addr) (f : Str) (ta tv : TE') : TS' := fun D σ H => tv σ H fun y H1 => ta σ H1 fun x H2 => stFld C f x y H2 fun H3 => D.nx σ H3
theorem qs_fld (ha : PE' X B o ta) (hv : PE' X B value tv) (cl : Cls X.K C) (n : NoAttr X.K C f) (hs : swapsWith value (some (.Attribute o f pos')) pos.line X.env = pure false) : PS' X B (.Assign [.Attribute o f pos'] value pos) (uStFld C f ta tv) := ps_imp (ps_fld ha hv hs) fun D σ H ⟨σ', H', D', s, h, dd⟩ => by
  refine ⟨σ', H', _, s, h, fun y' H1' y H1 h1 ry s1 e1 => ⟨σ', H1', _, s1, h1, fun x' H2' x H2 h2 rx s2 e2 => ?_⟩⟩
  cases x' with
  | ref a =>
    obtain ⟨dx, fs, ea, l, q⟩ := h2
    simp only [RP] at rx
    subst rx
    obtain ⟨gs, eg, fr⟩ := s2.hp _ _ ea
    have ry2 := RP.kp X.K (e2.kp s1.hp) ry
    have new : OAt X.K (upd H2 a (.ins C dx (putF f y gs))) a (.ins C dx (putU f y' fs)) := ⟨_, upd_same, FRel.kp (s2.hp.kpw ea) (frel_put ry2 fr)⟩
    exact ⟨a, C, dx, gs, rfl, eg, cl, n, by rw [frel_len fr]; exact l, dd.nx _ _ _ _ q (s2.wr ea new) ((e1.trans e2).trans (Ev.wr ea))⟩
  | _ => exact h2.elim
def isIn (C : Addr) (m : Str) (x : PV) (H : PHp) : Prop := match x with
  | .ref a => ∃ dx fs, H a = some (.ins C dx fs) ∧ fs.lookup m = none
  | _ => False
def uMeth (C : Addr) (m : Str) (sp : Sp') (E' : XK') (ta : TE') (t : TA') : TE' := fun σ H Q => ta σ H fun x H1 => isIn C m x H1 ∧ t σ H1 fun vs H2 => sp (x :: vs) H2 Q E'
section
variable {k : Nat} {fd : FuncData} {ps : List Str} {sp : Sp'} {es : List Expr} {t : TA'}
theorem low_meth0 {K : PySem.W.Frag} {σ : L2.St} {H : Hp} {Q : VK} (h : low K B (uMeth C m sp X0 ta t) σ H Q) : tMeth C m (lowSp K sp) [] E0 (low K B ta) (lowA K B t) σ H Q := by
  obtain ⟨σ', H', Q', s, h, k⟩ := h
  refine ⟨σ', H', _, s, h, fun x' H1' x H1 h1 rx s1 e1 => ?_⟩
  obtain ⟨hi, h1⟩ := h1
  cases x' with
  | ref a =>
    obtain ⟨dx, fs, ea, l⟩ := hi
    simp only [RP] at rx
    subst rx
    obtain ⟨gs, eg, fr⟩ := s1.hp _ _ ea
    refine ⟨a, dx, gs, rfl, eg, frel_none fr l, σ', H1', _, s1, h1, fun vs' H2' vs H2 h2 r2 s2 e2 => ?_⟩
    show lowSp K sp (V.ref a :: (vs ++ [])) H2 Q E0
    rw [List.append_nil]
    exact ⟨.ref a :: vs', H2', Q', X0, RPs.cons _ (by simp [RP]) r2, s2.hp, h2, fun v' H3' v H3 q r3 h3 e3 => k v' H3' v H3 q r3 (s2.kp e3 h3) ((e1.trans e2).trans e3), fun _ _ _ _ z => z.elim⟩
  | _ => exact hi.elim
theorem qe_meth {pl : Sem Bool} (he : PE' X B o ta) (cl : Cls X.K C) (hm : Meth X.K C m g) (F : FnOk' X.prog X.w X.K X.mg X.base CX0 k g fd ps sp) (hr : Room k X.A) (hb : Binds X.K fd ps []) (ha : PA' X B (e :: es) t)
    (hst : starEach (e :: es) X.env = (false, eval e X.env) :: starEach es X.env := by rfl) (hpl : (backTo pos (starEach es X.env)).any (·.1) = false := by rfl)
    (ht : eval (.Call (.Attribute o m apos) (e :: es) [] pos) X.env = (do
      let ov ← eval o X.env
      standAt apos.atName
      let (f, first) ← holding [ov] (getMethod ov m pl)
      callWith pos f first (backTo pos (starEach (e :: es) X.env)) (backToKw pos (keywordEach [] X.env))) := by rfl) :
    PE' X B (.Call (.Attribute o m apos) (e :: es) [] pos) (uMeth C m sp X0 ta t) := pe_imp (pe_meth he cl hm F hr hb .nil pass0 ha hst hpl ht) fun _ _ _ h => low_meth0 h
theorem qe_meth0 {pl : Sem Bool} (he : PE' X B o ta) (cl : Cls X.K C) (hm : Meth X.K C m g) (F : FnOk' X.prog X.w X.K X.mg X.base CX0 k g fd ps sp) (hr : Room k X.A) (hb : Binds X.K fd ps [])
    (ht : eval (.Call (.Attribute o m apos) [] [] pos) X.env = (do
      let ov ← eval o X.env
      standAt apos.atName
      let (f, first) ← holding [ov] (getMethod ov m pl)
      callWith pos f first (backTo pos (starEach [] X.env)) (backToKw pos (keywordEach [] X.env))) := by rfl) :
    PE' X B (.Call (.Attribute o m apos) [] [] pos) (uMeth C m sp X0 ta uNil) := pe_imp (pe_meth0 he cl hm F hr hb .nil pass0 ht) fun σ H Q ⟨σ', H', Q', s, h, k⟩ => by
  refine ⟨σ', H', _, s, h, fun x' H1' x H1 h1 rx s1 e1 => ?_⟩
  obtain ⟨hi, h1⟩ := h1
  cases x' with
  | ref a =>
    obtain ⟨dx, fs, ea, l⟩ := hi
    simp only [RP] at rx
    subst rx
    obtain ⟨gs, eg, fr⟩ := s1.hp _ _ ea
    exact ⟨a, dx, gs, rfl, eg, frel_none fr l, [.ref a], H1', Q', X0, RPs.cons _ (by simp [RP]) (RPs.nil _), s1.hp, h1, fun v' H3' v H3 q r3 h3 e3 => k v' H3' v H3 q r3 (s1.kp e3 h3) (e1.trans e3), fun _ _ _ _ z => z.elim⟩
  | _ => exact hi.elim
def uMake (C : Addr) (sp : Sp') (E' : XK') (t : TA') : TE' := fun σ H Q => t σ H fun vs H1 => ∀ x dx, H1 x = none → H1 dx = none → dx ≠ x → sp (.ref x :: vs) (put H1 x (.ins C dx [])) (fun v H2 => v = .non ∧ Q (.ref x) H2) E'
theorem qe_make (M : Mk X.K C g) (F : FnOk' X.prog X.w X.K X.mg X.base CX0 k g fd ps sp) (hr : Room (k + 1) X.A) (hg : Gl X x) (hm : X.mg x = some (.ref C)) (hb : Binds X.K fd ps [])
    (ha : PA' X B (e :: es) t) (hdb : (x == ("__debug__" : Str)) = false := by decide) (he : starEach (e :: es) X.env = (false, eval e X.env) :: starEach es X.env := by rfl) (hpl : (backTo pos (starEach es X.env)).any (·.1) = false := by rfl) :
    PE' X B (.Call (.Name x p) (e :: es) [] pos) (uMake C sp X0 t) := pe_imp (pe_make M F hr hg hm hb .nil pass0 ha hdb he hpl) fun σ H Q ⟨σ', H', Q', s, h, k⟩ => by
  refine ⟨σ', H', _, s, h, fun vs' H1' vs H1 h1 r1 s1 e1 => ?_⟩
  intro x dx nx nd ne
  have h2 := h1 x dx (s1.hp.free nx) (s1.hp.free nd) ne
  have nx2 : upd H1 dx (.own x) x = none := by rw [upd_ne (Ne.symm ne)]; exact nx
  have sd := s1.hid (o := .own x) nd
  have new : OAt X.K (upd (upd H1 dx (.own x)) x (.ins C dx [])) x (.ins C dx []) := ⟨[], upd_same, .nil⟩
  have s2 := sd.new nx2 new
  have e2 : Ev H1' H1 (put H1' x (.ins C dx [])) (upd (upd H1 dx (.own x)) x (.ins C dx [])) := (Ev.hid nd).trans (Ev.new nx2)
  show lowSp X.K sp (.ref x :: (vs ++ [])) _ _ E0
  rw [List.append_nil]
  refine ⟨.ref x :: vs', _, _, X0, RPs.cons _ (by simp [RP]) (RPs.kp X.K (e2.kp s1.hp) r1), s2.hp, h2, fun v' H3' v H3 q r3 h3 e3 => ?_, fun _ _ _ _ z => z.elim⟩
  obtain ⟨rfl, q⟩ := q
  simp only [RP] at r3
  exact ⟨r3, k _ _ _ _ q (by simp [RP]) (s2.kp e3 h3) ((e1.trans e2).trans e3)⟩
end
end U


set_option linter.all false
set_option maxRecDepth 100000
set_option maxHeartbeats 4000000
namespace L2
open PySem PySem.Spec PyProof.Rows
variable {X : Cx}
end L2
namespace U
open PySem PySem.Spec PyProof.Rows L2
variable {B : Bs} {X : Cx}
def uAll : List PV → PHp → VK' → Prop := arg1 fun x H Q => match x with
  | .ref a => ∃ bs : List Bool, H a = some (.lst (bs.map PV.bl)) ∧ Q (.bl (bs.all id)) H
  | _ => False
end U


namespace SP
open PySem
def hs : List Int := [-1950498447580522560, 7204814214171964562, -3550055125485641917, -4734289103435588629, -1440771752368011620,
  8409376899596376432, 1773351652666409796, -6333845781340707986, 3516302870623680066, 1079245023883434373,
  -3119722376306286570, 173794974761290439, -8422800446983873125, 7586885779985432798, -1009709641759730766]
def hp (p : Int × Int) : Int := reduceHash (Builtin.Tuple.tupleHashOf [p.1, p.2])
def runs (mask : Nat) : Nat → Nat → Nat → List Nat
  | 0, _, _ => []
  | f + 1, i, pt => ((List.range (SetTable.runEnd mask i + 1 - i)).map (i + ·)) ++ runs mask f (SetTable.leap mask i pt).1 (SetTable.leap mask i pt).2
end SP


namespace SP
open PySem PyProof.Rows
set_option maxRecDepth 100000
section
variable {prog : Program} {w : World} {A : Around} {E : Value → Shared → Prop} {s : Shared}
structure PSet (h : Heap) (S : Addr) (done : List (Int × Int)) : Prop where
  is : ∃ es ep t, h.get? S = some { cls := .type "set", dict := none, data := .set es ep t } ∧ t.dummies = #[] ∧ t.place.size = es.size ∧ es.size = done.length ∧ ((t.mask = 7 ∧ es.size ≤ 4) ∨ (t.mask = 31 ∧ es.size ≤ 18)) ∧
    ∀ e ∈ es.toList, ∃ p ∈ done, e.1 = hp p
end
end SP


set_option linter.all false
set_option maxRecDepth 100000
set_option maxHeartbeats 4000000
namespace L2
open PySem PySem.Spec PyProof.Rows
variable {X : Cx}
end L2
namespace U
open PySem PySem.Spec PyProof.Rows L2
variable {B : Bs} {X : Cx} {e : Expr} {ta : TE'} {p p2 pos pos2 : Pos}
end U


set_option linter.all false
set_option maxRecDepth 100000
set_option maxHeartbeats 4000000
namespace U
open PySem PySem.Spec PyProof.Rows L2
variable {B : Bs} {X : Cx} {a b : Expr} {ta tb : TE'} {pos : Pos}
def uShr : R2' := uI (fun _ j => 0 ≤ j) fun i j => .int (i / 2 ^ j.toNat)
def uBand : R2' := uI0 fun i j => .int (Builtin.bitAnd i j)
theorem qe_shr (ha : PE' X B a ta) (hb : PE' X B b tb) : PE' X B (.BinOp a .RShift b pos) (uOp uShr ta tb) := qe_op op_shr (vr_I fun _ _ _ => by simp [RP]) ha hb
theorem qe_band (ha : PE' X B a ta) (hb : PE' X B b tb) : PE' X B (.BinOp a .BitAnd b pos) (uOp uBand ta tb) := qe_op op_and (vr_I0 fun _ _ _ => by simp [RP]) ha hb
end U


set_option linter.all false
set_option maxRecDepth 100000
set_option maxHeartbeats 4000000
namespace ST
open PySem PySem.W PyProof.Rows
def key (K : Nat → Int) (p : Array Nat) (i : Nat) : Int := K ((p[i]?).getD 0)
structure Ok (n : Nat) (p : Array Nat) : Prop where
  perm : p.toList.Perm (List.range n)
def S (K : Nat → Int) (p : Array Nat) (m : Nat) : Prop := ∀ i j, i < j → j < m → key K p i < key K p j
theorem Ok.size {n : Nat} {p : Array Nat} (h : Ok n p) : p.size = n := by
  have := h.perm.length_eq
  simpa using this
theorem Ok.lt {n : Nat} {p : Array Nat} (h : Ok n p) (h0 : 0 < n) (i : Nat) : p.getD i 0 < n := by
  rw [Array.getD_eq_getD_getElem?]
  cases e : p[i]? with
  | none => exact h0
  | some x =>
    have : x ∈ p.toList := by
      obtain ⟨hi, rfl⟩ := Array.getElem?_eq_some_iff.mp e
      simp
    exact List.mem_range.mp (h.perm.mem_iff.mp this)
theorem Ok.of {n : Nat} {p q : Array Nat} (h : Ok n p) (r : q.Perm p) : Ok n q := ⟨(Array.perm_iff_toList_perm.mp r).trans h.perm⟩
section
variable {cmp : Nat → Nat → (Bool → Shared → Prop) → Shared → Prop} {s : Shared} {n : Nat} {K : Nat → Int} {p : Array Nat}
theorem Ok.ne (hK : ∀ i j, i < n → j < n → K i = K j → i = j) (h : Ok n p) {i j : Nat} (hi : i < n) (hj : j < n) (hne : i ≠ j) : key K p i ≠ key K p j := by
  intro e
  have hs := h.size
  have h0 : 0 < n := by omega
  unfold key at e
  rw [Array.getElem?_eq_getElem (by omega), Array.getElem?_eq_getElem (by omega)] at e
  simp only [Option.getD_some] at e
  have nd : p.toList.Nodup := (h.perm.nodup_iff).mpr List.nodup_range
  have l1 : p[i] < n := by have := h.lt h0 i; rwa [Array.getD_eq_getD_getElem?, Array.getElem?_eq_getElem (by omega)] at this
  have l2 : p[j] < n := by have := h.lt h0 j; rwa [Array.getD_eq_getD_getElem?, Array.getElem?_eq_getElem (by omega)] at this
  have q := hK _ _ l1 l2 e
  have : i = j := by
    exact (List.getElem_inj nd (h₀ := by simpa [hs] using hi) (h₁ := by simpa [hs] using hj)).mp (by simpa using q)
  exact hne this
theorem getD_key (K : Nat → Int) (p : Array Nat) (i : Nat) : K (p.getD i 0) = key K p i := by
  unfold key; rw [Array.getD_eq_getD_getElem?]
variable (hc : ∀ i j C, i < n → j < n → C (decide (K i < K j)) s → cmp i j C s) (hK : ∀ i j, i < n → j < n → K i = K j → i = j)
include hc
theorem ask_at {G : Bool → Shared → Prop} (h0 : 0 < n) (ok : Ok n p) {i j : Nat} (h : G (decide (key K p i < key K p j)) s) : cmp (p.getD i 0) (p.getD j 0) G s := by
  refine hc _ _ _ (ok.lt h0 i) (ok.lt h0 j) ?_
  rw [getD_key K p i, getD_key K p j]
  exact h
include hK
theorem lt_of_not {i j : Nat} (ok : Ok n p) (hi : i < n) (hj : j < n) (hne : i ≠ j) (h : ¬ key K p i < key K p j) : key K p j < key K p i := by
  have := ok.ne hK hi hj hne
  omega
theorem asc (ok : Ok n p) : ∀ (f m : Nat) {G : Nat → Shared → Prop}, 1 ≤ m → m + f ≤ n → S K p m →
    (∀ m', m ≤ m' → m' ≤ m + f → S K p m' → (m' < m + f → key K p m' < key K p (m' - 1)) → G m' s) → (kas_asc p f m).kasWp cmp G s
  | 0, m, G, _, _, hS, h => h m (Nat.le_refl _) (Nat.le_refl _) hS fun q => absurd q (Nat.lt_irrefl _)
  | f + 1, m, G, h1, hm, hS, h => by
    refine ask_at hc (by omega) ok (G := fun c s' => (if c = true then KasT.ret m else kas_asc p f (m + 1)).kasWp cmp G s') ?_
    by_cases q : key K p m < key K p (m - 1)
    · rw [decide_eq_true q]
      show G m s
      exact h m (Nat.le_refl _) (by omega) hS fun _ => q
    · rw [decide_eq_false q]
      show (kas_asc p f (m + 1)).kasWp cmp G s
      have q' := lt_of_not hc hK ok (by omega) (by omega) (by omega) q
      refine asc ok f (m + 1) (by omega) (by omega) ?_ fun m' a b c d => h m' (by omega) (by omega) c fun e => d (by omega)
      intro i j hij hj
      by_cases hjm : j < m
      · exact hS i j hij hjm
      · have : j = m := by omega
        subst this
        by_cases him : i = j - 1
        · subst him; exact q'
        · have := hS i (j - 1) (by omega) (by omega)
          omega
theorem desc (ok : Ok n p) : ∀ (f m : Nat) {G : Array Nat × Nat × Nat → Shared → Prop}, 1 ≤ m → m + f ≤ n → (∀ i j, i < j → j < m → key K p j < key K p i) →
    (∀ m', m ≤ m' → m' ≤ m + f → (∀ i j, i < j → j < m' → key K p j < key K p i) → G (p, m', 0) s) → (kas_desc f p m 0).kasWp cmp G s
  | 0, m, G, _, _, hS, h => h m (Nat.le_refl _) (Nat.le_refl _) hS
  | f + 1, m, G, h1, hm, hS, h => by
    refine ask_at hc (by omega) ok (G := fun c s' => (if c = true then (if 0 > 0 then kas_desc f (kas_rev p (m - (0 + 1)) m) (m + 1) 0 else kas_desc f p (m + 1) 0)
      else KasT.ask (p.getD (m - 1) 0) (p.getD m 0) fun d => if d = true then KasT.ret (p, m, 0) else kas_desc f p (m + 1) (0 + 1)).kasWp cmp G s') ?_
    by_cases q : key K p m < key K p (m - 1)
    · rw [decide_eq_true q, if_pos rfl, if_neg (by omega)]
      refine desc ok f (m + 1) (by omega) (by omega) ?_ fun m' a b c => h m' (by omega) (by omega) c
      intro i j hij hj
      by_cases hjm : j < m
      · exact hS i j hij hjm
      · have : j = m := by omega
        subst this
        by_cases him : i = j - 1
        · subst him; exact q
        · have := hS i (j - 1) (by omega) (by omega)
          omega
    · rw [decide_eq_false q]
      have q' := lt_of_not hc hK ok (by omega) (by omega) (by omega) q
      refine ask_at hc (by omega) ok (G := fun d s' => (if d = true then KasT.ret (p, m, 0) else kas_desc f p (m + 1) (0 + 1)).kasWp cmp G s') ?_
      rw [decide_eq_true q', if_pos rfl]
      exact h m (Nat.le_refl _) (by omega) hS
theorem rev_key {m : Nat} (ok : Ok n p) (hm : m ≤ n) (i : Nat) : key K (kas_rev p 0 m) i = if i < m then key K p (m - 1 - i) else key K p i := by
  unfold key kas_rev
  rw [getElem?_mirror_all (by rw [ok.size]; exact hm)]
  by_cases h : i < m
  · rw [if_pos ⟨Nat.zero_le _, h⟩, if_pos h]
    congr 3
    omega
  · rw [if_neg (by omega), if_neg h]
theorem count {G : Nat × Array Nat → Shared → Prop} (ok : Ok n p) (h1 : 1 ≤ n) (h : ∀ m p', Ok n p' → 1 ≤ m → m ≤ n → S K p' m → G (m, p') s) : (kas_count n p).kasWp cmp G s := by
  unfold kas_count
  rw [KasT.kasWp_bind]
  refine asc hc hK ok (n - 1) 1 (Nat.le_refl _) (by omega) (fun i j a b => by omega) fun m' a b hS st => ?_
  by_cases e : m' = n
  · subst e
    rw [if_pos (by simp)]
    exact h _ _ ok (by omega) (Nat.le_refl _) hS
  · rw [if_neg (by simpa using e)]
    by_cases e1 : m' > 1
    · rw [if_pos e1]
      refine ask_at hc (by omega) ok (G := fun c s' => (if c = true then KasT.ret (m', p) else kas_descPart m' n (kas_rev p 0 m')).kasWp cmp G s') ?_
      rw [decide_eq_true (hS 0 (m' - 1) (by omega) (by omega)), if_pos rfl]
      exact h _ _ ok (by omega) (by omega) hS
    · rw [if_neg e1]
      have : m' = 1 := by omega
      subst this
      unfold kas_descPart
      rw [KasT.kasWp_bind]
      have st1 := st (by omega)
      refine desc hc hK ok (n - (1 + 1)) (1 + 1) (by omega) (by omega) (fun i j hij hj => ?_) fun m' a b hD => ?_
      · have h1 : j = 1 := by omega
        have h2 : i = 0 := by omega
        subst h1; subst h2
        exact st1
      · rw [if_neg (by simp)]
        unfold kas_tail3
        rw [KasT.kasWp_bind]
        have ok2 : Ok n (kas_rev p 0 m') := ok.of (mirror_perm _ _ _ _)
        refine asc hc hK ok2 (n - m') m' (by omega) (by omega) (fun i j hij hj => ?_) fun m2 a2 b2 hS2 _ => ?_
        · rw [rev_key hc hK ok (by omega), rev_key hc hK ok (by omega), if_pos (by omega), if_pos hj]
          exact hD _ _ (by omega) (by omega)
        · exact h m2 _ ok2 (by omega) (by omega) hS2
theorem place (ok : Ok n p) {k : Nat} (hk : k < n) (hS : S K p k) : ∀ (f l r : Nat) {G : Nat → Shared → Prop}, l ≤ r → r ≤ k → r - l ≤ f → (∀ i, i < l → key K p i < key K p k) → (∀ i, r ≤ i → i < k → key K p k < key K p i) →
    (∀ l', l' ≤ k → (∀ i, i < l' → key K p i < key K p k) → (∀ i, l' ≤ i → i < k → key K p k < key K p i) → G l' s) → (kas_place p k f l r).kasWp cmp G s
  | 0, l, r, G, h1, h2, h3, ha, hb, h => h l (by omega) ha fun i x y => hb i (by omega) y
  | f + 1, l, r, G, h1, h2, h3, ha, hb, h => by
    unfold kas_place
    by_cases e : l ≥ r
    · rw [if_pos e]
      exact h l (by omega) ha fun i x y => hb i (by omega) y
    · rw [if_neg e]
      refine ask_at hc (by omega) ok (G := fun c s' => (if c = true then kas_place p k f l ((l + r) / 2) else kas_place p k f ((l + r) / 2 + 1) r).kasWp cmp G s') ?_
      have hmid : (l + r) / 2 < k := by omega
      generalize hm : (l + r) / 2 = mid at *
      by_cases q : key K p k < key K p mid
      · rw [decide_eq_true q, if_pos rfl]
        refine place ok hk hS f l mid (by omega) (by omega) (by omega) ha (fun i x y => ?_) h
        by_cases z : i = mid
        · subst z; exact q
        · have := hS mid i (by omega) y
          omega
      · rw [decide_eq_false q, if_neg (by simp)]
        have q' := lt_of_not hc hK ok hk (by omega) (by omega) q
        refine place ok hk hS f (mid + 1) r (by omega) h2 (by omega) (fun i x => ?_) hb h
        by_cases z : i = mid
        · subst z; exact q'
        · have := hS i mid (by omega) hmid
          omega
end
end ST


set_option linter.all false
set_option maxRecDepth 100000
set_option maxHeartbeats 4000000
namespace ST
open PySem PySem.W PyProof.Rows
section
variable {prog : Program} {w : World} {A : Around} {E : Value → Shared → Prop} {s : Shared}
end
end ST


set_option linter.all false
set_option maxRecDepth 100000
set_option maxHeartbeats 4000000
namespace L2
open PySem PySem.Spec PyProof.Rows
variable {X : Cx}
end L2
namespace U
open PySem PySem.Spec PyProof.Rows L2
variable {B : Bs} {X : Cx} {a b : Expr} {ta tb : TE'} {pos : Pos}
end U
namespace U
open PySem PySem.Spec PyProof.Rows L2
theorem qe_globE {B : Bs} {X : Cx} {x : Str} {v' : PV} {v : V} {pos : Pos} (hg : Gl X x) (h : ∃ u, X.mg x = some u ∧ RelV v u) (r' : ∀ H, RP X.K H v' v) (hd : (x == ("__debug__" : Str)) = false := by decide) : PE' X B (.Name x pos) (uC v') := by
  obtain ⟨u, hm, r⟩ := h
  exact qe_glob hg hm r r' hd
theorem comp_pure {ok : PHp → Prop} {g : TG'} {tt : TT'} {te : TE'} {acc : Addr} {Q : VK'} {H1 : PHp} {xs : List PV} (f : PV → PV) (pz : PV → Bool) (Iv : St' → Prop) (hlen : xs.length ≤ 1000) (hok : ∀ l, ok (put H1 acc (.lst l)))
    (hs : ∀ x ∈ xs, ∀ (l : List PV) (σ : St') (R : St' → PHp → Prop), Iv σ → l.length < sizeLine → (pz x = true → ∀ σ3, Iv σ3 → R σ3 (put H1 acc (.lst (l ++ [f x])))) → (pz x = false → ∀ σ3, Iv σ3 → R σ3 (put H1 acc (.lst l))) →
      g x σ (put H1 acc (.lst l)) fun σ3 H2 => tt σ3 H2 fun b H3 => cif b (te σ3 H3 fun y H4 => ∃ l', H4 acc = some (.lst l') ∧ l'.length < sizeLine ∧ R σ3 (put H4 acc (.lst (l' ++ [y])))) (R σ3 H3))
    (hq : Q (.ref acc) (put H1 acc (.lst ((xs.filter pz).map f)))) {σ : St'} (h0 : Iv σ) : uCompL ok g tt te acc Q xs σ (put H1 acc (.lst [])) := by
  have key : ∀ (r d : List PV) (σ : St'), xs = d ++ r → Iv σ → uCompL ok g tt te acc Q r σ (put H1 acc (.lst ((d.filter pz).map f))) := by
    intro r
    induction r with
    | nil =>
      intro d σ e hv
      have : d = xs := by rw [e, List.append_nil]
      subst this
      exact ⟨hok _, hq⟩
    | cons x r ih =>
      intro d σ e hv
      have hd : ((d.filter pz).map f).length < sizeLine := by
        have h1 : d.length + (r.length + 1) = xs.length := by rw [e, List.length_append, List.length_cons]
        have h2 := List.length_filter_le pz d
        have := small1000 (n := 1000) (by decide)
        rw [List.length_map]
        omega
      refine ⟨hok _, hs x (by rw [e]; simp) _ σ _ hv hd (fun hp σ3 h3 => ?_) (fun hp σ3 h3 => ?_)⟩
      · have := ih (d ++ [x]) σ3 (by rw [e]; simp) h3
        rw [List.filter_append, List.map_append] at this
        simpa [hp] using this
      · have := ih (d ++ [x]) σ3 (by rw [e]; simp) h3
        rw [List.filter_append, List.map_append] at this
        simpa [hp] using this
  exact key xs [] σ rfl h0
end U
namespace U
open PySem PySem.Spec PyProof.Rows L2
theorem w_fl {C : Addr} {f : Str} {a : Addr} {H : PHp} {Q : VK'} : fldOf C f (.ref a) H Q = ∃ dx fs v, H a = some (.ins C dx fs) ∧ fs.lookup f = some v ∧ Q v H := rfl
theorem w_sf {C : Addr} {f : Str} {a : Addr} {y : PV} {H : PHp} {Q : PHp → Prop} : stFld C f (.ref a) y H Q = ∃ dx fs, H a = some (.ins C dx fs) ∧ fs.length < 1000 ∧ Q (put H a (.ins C dx (putU f y fs))) := rfl
theorem w_ii {C : Addr} {m : Str} {a : Addr} {H : PHp} : isIn C m (.ref a) H = ∃ dx fs, H a = some (.ins C dx fs) ∧ fs.lookup m = none := rfl
theorem w_al {a : Addr} {H : PHp} {Q : VK'} : uAll [.ref a] H Q = ∃ bs : List Bool, H a = some (.lst (bs.map PV.bl)) ∧ Q (.bl (bs.all id)) H := rfl
end U


set_option linter.all false
set_option maxRecDepth 100000
set_option maxHeartbeats 4000000
namespace SI
open PySem
def tb (led : Bool) (L : List Nat) : SetTable := { mask := if L.length ≤ 4 then 7 else 31, place := L.toArray, dummies := #[], finger := 0, led := led, moves := if L.length ≤ 4 then 0 else 1, plain := true }
def pos (L : List Nat) (x : Nat) : Nat := (L.filter (· < x)).length
def ins (L : List Nat) (x : Nat) : List Nat := L.take (pos L x) ++ x :: L.drop (pos L x)
def tp (led : Bool) (L : List Nat) (x : Nat) : SetTable := { tb led L with place := (ins L x).toArray }
section
variable {prog : Program} {w : World} {A : Around} {E : Value → Shared → Prop} {s : Shared}
end
end SI


set_option linter.all false
set_option maxRecDepth 100000
set_option maxHeartbeats 4000000
namespace SI
open PySem
section
variable {prog : Program} {w : World} {A : Around} {E : Value → Shared → Prop} {s : Shared}
end
end SI


set_option linter.all false
set_option maxRecDepth 100000
set_option maxHeartbeats 4000000
namespace SI
open PySem PyProof.Rows
section
variable {prog : Program} {w : World} {A : Around} {E : Value → Shared → Prop} {s : Shared}
end
end SI


set_option linter.all false
set_option maxRecDepth 100000
set_option maxHeartbeats 4000000
namespace L2
open PySem PySem.Spec PyProof.Rows
variable {X : Cx}
end L2
namespace U
open PySem PySem.Spec PyProof.Rows L2
variable {B : Bs} {X : Cx} {e : Expr} {ta : TE'} {p p2 pos pos2 : Pos}
end U
namespace L2
open PySem PySem.Spec PyProof.Rows
variable {X : Cx} {tg : Expr}
end L2
namespace U
open PySem PySem.Spec PyProof.Rows L2
variable {B : Bs} {X : Cx} {a b c : Expr} {pos : Pos}
def uExtT : PV → List PV → PHp → VK' → Prop := fun x vs H Q => match x, vs with
  | .ref a, [.tup m] => ∃ l, H a = some (.lst l) ∧ l.length + m.length ≤ sizeLine ∧ Q .non (put H a (.lst (l ++ m)))
  | _, _ => False
theorem w_et {a : Addr} {m : List PV} {H : PHp} {Q : VK'} : uExtT (.ref a) [.tup m] H Q = ∃ l, H a = some (.lst l) ∧ l.length + m.length ≤ sizeLine ∧ Q .non (put H a (.lst (l ++ m))) := rfl
end U


set_option linter.all false
set_option maxRecDepth 100000
set_option maxHeartbeats 4000000
namespace U
open PySem PySem.Spec PyProof.Rows L2
variable {B : Bs} {X : Cx} {a b : Expr} {ta tb : TE'} {pos : Pos}
def uCat : R2' := fun x y H Q => match x, y with
  | .ref a, .ref b => ∃ l m, H a = some (.lst l) ∧ H b = some (.lst m) ∧ l.length + m.length ≤ sizeLine ∧ ∀ p, H p = none → Q (.ref p) (put H p (.lst (l ++ m)))
  | _, _ => False
theorem w_ca {a b : Addr} {H : PHp} {Q : VK'} : uCat (.ref a) (.ref b) H Q = ∃ l m, H a = some (.lst l) ∧ H b = some (.lst m) ∧ l.length + m.length ≤ sizeLine ∧ ∀ p, H p = none → Q (.ref p) (put H p (.lst (l ++ m))) := rfl
theorem vr_cat {K : PySem.W.Frag} : VR K B uCat rCat := by
  intro σ' σ H' H x' y' x y Q' Q s rx ry h k
  unfold uCat at h
  split at h
  · rename_i a b
    obtain ⟨l, m, e1, e2, hl, h⟩ := h
    simp only [RP] at rx ry
    subst rx; subst ry
    obtain ⟨us, q1, r1⟩ := s.hp _ _ e1
    obtain ⟨ws, q2, r2⟩ := s.hp _ _ e2
    refine ⟨a, b, us, ws, rfl, rfl, q1, q2, by rw [RPs.length _ r1, RPs.length _ r2]; exact hl, fun p hp => ?_⟩
    exact k _ _ _ _ (h p (s.hp.free hp)) (by simp [RP]) (s.new hp (newL hp (RPs.append _ r1 r2))) (Ev.new hp)
  · exact h.elim
theorem qe_cat (ha : PE' X B a ta) (hb : PE' X B b tb) : PE' X B (.BinOp a .Add b pos) (uOp uCat ta tb) := qe_op op_cat vr_cat ha hb
end U


set_option linter.all false
set_option maxRecDepth 100000
set_option maxHeartbeats 4000000 -- own
namespace L2
open PySem PySem.Spec PyProof.Rows
variable {X : Cx}
def sT (l : List Nat) : Str := ⟨l.toArray⟩
theorem sT_len (l : List Nat) : (sT l).length = l.length := by simp [sT, Str.length]
theorem sT_cps (l : List Nat) : (sT l).cps.toList = l := by simp [sT]
theorem sT_add (a b : List Nat) : sT a ++ sT b = sT (a ++ b) := by
  show Str.append (sT a) (sT b) = _
  simp [Str.append, sT]
theorem strs_are : ∀ {ys : List Str} {its : List Value}, Vals (ys.map V.str) its → StrsAre its ys
  | [], [], .nil => .nil
  | y :: ys, v :: its, .cons h t => by obtain ⟨tk, rfl⟩ := h; exact .cons y tk (strs_are t)
def rJoin (K : PySem.W.Frag) : V → List V → Hp → VK → Prop := fun x xs H Q => ∃ sep a ys, x = .str sep ∧ xs = [.ref a] ∧ SqL K H a (ys.map V.str) ∧ sep.length ≤ 16 ∧ (ys.map (·.length)).sum + ys.length ≤ 1048576 ∧ Q (.str (Txt.join sep ys)) H
theorem mt_join : MtR X "str.join" (rJoin X.K) := by
  intro pins s σ H x xs v us Q I rx r h
  obtain ⟨sep, a, ys, rfl, rfl, hq, h1, h2, q⟩ := h
  obtain ⟨t, rfl⟩ := rx
  obtain ⟨u, rfl, ru⟩ := Vals.one r
  cases ru
  obtain ⟨its, rv, p, hz⟩ := I.list hq
  exact join_listW p.isList (strs_are (by simpa using rv)) h1 h2 fun t' k => ⟨.str _, H, I.kept (t' := k) (fun b o e => e), ⟨_, rfl⟩, q⟩
theorem mt_find : MtR X "str.find" (fun x xs H Q => ∃ z y, x = .str z ∧ xs = [.str y] ∧ Q (.int (Txt.find z y)) H) := by
  intro pins s σ H x xs v us Q I rx r h
  obtain ⟨z, y, rfl, rfl, q⟩ := h
  obtain ⟨t, rfl⟩ := rx
  obtain ⟨u, rfl, ru⟩ := Vals.one r
  obtain ⟨t2, rfl⟩ := ru
  exact call_gives F.slot_str_find (typeIs_str _ _ _) F.entry_str_find (F.args_str_find_2 _ _) (gives_str_find z y t t2) ⟨.int _, H, I.kept (t' := s.toks + 1) (fun b o e => e), ⟨_, rfl⟩, q⟩
def rSlS : V → Option Int → Option Int → Hp → VK → Prop := fun x lo hi H Q => ∃ z, x = .str z ∧ z.length ≤ sizeLine ∧ Q (.str (Txt.slice z lo hi)) H
theorem part_ex {v : Value} {o : Option Int} (p : IsPart v o) : ∃ l : Option (Int × Tok), v = partValue l ∧ l.map (·.1) = o := by
  cases p with
  | none => exact ⟨none, rfl, rfl⟩
  | int i t => exact ⟨some (i, t), rfl, rfl⟩
theorem sl_str : SlR X rSlS := by
  intro pins s σ H x v vl vu lo hi sl Q I rx hs pl pu h
  obtain ⟨z, rfl, hz, q⟩ := h
  obtain ⟨t, rfl⟩ := rx
  obtain ⟨l, rfl, rfl⟩ := part_ex pl
  obtain ⟨u, rfl, rfl⟩ := part_ex pu
  refine ⟨"str", _, F.slot_str_getitem.lookup, typeIs_str _ _ _, wpAny_getItem_str_slice (l := l) (u := u) (st := none) hs rfl ?_⟩
  have ef : (none : Option (Int × Tok)).map (·.1) = none := rfl
  unfold Txt.slice at q
  unfold sliceMade slicePicked
  simp only [ef, Option.getD_none] at q ⊢
  split
  · rename_i e
    rw [if_pos e] at q
    exact ⟨.str z, H, I, ⟨_, rfl⟩, q⟩
  · rename_i e
    rw [if_neg e] at q
    refine ⟨?_, .str _, H, I.kept (t' := s.toks + 1) (fun b o e => e), ⟨_, rfl⟩, q⟩
    show (List.filterMap _ _).toArray.size ≤ sizeLine
    rw [List.size_toArray]
    exact Nat.le_trans (Nat.le_trans (List.length_filterMap_le _ _) (sliceIndices_le _ _ _)) hz
def signV (c : Nat) : V := .str ⟨#[c]⟩
theorem vals_signs {z : Str} {acc : Array Value} (h : ItemsOf (SignAt z) acc z.cps.size) : Vals (z.cps.toList.map signV) acc.toList := by
  obtain ⟨h1, h2⟩ := h
  have key : ∀ (l : List Nat) (m : List Value), l.length = m.length → (∀ (j : Nat) c v, l[j]? = some c → m[j]? = some v → ∃ u, v = Value.str ⟨#[c]⟩ u) → Vals (l.map signV) m := by
    intro l
    induction l with
    | nil =>
      intro m hm _
      have : m = [] := List.length_eq_zero_iff.mp hm.symm
      subst this
      exact .nil
    | cons c l ih =>
      intro m hm hh
      cases m with
      | nil => simp at hm
      | cons v m =>
        obtain ⟨u, rfl⟩ := hh 0 c v rfl rfl
        refine .cons ⟨u, rfl⟩ (ih m (by simpa using hm) fun j c v h3 h4 => hh (j + 1) c v (by simpa using h3) (by simpa using h4))
  refine key _ _ (by simp [h1]) fun j c v h3 h4 => ?_
  obtain ⟨c2, u, e1, e2⟩ := h2 j v (by simpa using h4)
  have : z.cps[j]? = some c := by simpa using h3
  rw [this] at e1
  cases e1
  exact ⟨u, e2⟩
theorem call_listS (hc : X.calm = true) : CallR X (.type "list") (fun xs H Q => ∃ z, xs = [.str z] ∧ z.length ≤ sizeLine ∧ ∀ r, H r = none → Q (.ref r) (upd H r (.lst (z.cps.toList.map signV)))) := by
  intro pins s σ H xs us Q I r h
  obtain ⟨z, rfl, hz, q⟩ := h
  obtain ⟨u, rfl, t, rfl⟩ := vals1 r
  refine call_list_str (I.ok.hd hc) z t (fun h' tk acc c kp hS hacc => ?_) hz
  have hn : H s.heap.objs.size = none := I.hok.fresh (Nat.le_refl _)
  refine ⟨.ref s.heap.objs.size, _, I.laid (t' := tk) (o := .lst (z.cps.toList.map signV)) (fun b o e => kp b o e) (Nat.le_refl _) ?_, rfl, q _ hn⟩
  refine ⟨by rw [List.length_map]; simpa [Str.length] using hz, acc.toList, c, vals_signs hacc, ?_⟩
  rw [hS]
def ItS (z : Str) : It := ⟨fun i _ => i < z.cps.size, fun i H x H' => H' = H ∧ ∃ c, z.cps[i]? = some c ∧ x = signV c, fun i _ => z.cps.size ≤ i⟩
theorem turn_str {P : Program} {w : World} {K : PySem.W.Frag} {tg : Expr} (it : Addr) (z : Str) (t : Tok) : Turn P w K tg (ItS z) [it] it (fun i h => h.IsStrIter it "str_ascii_iterator" z t i) where
  mem := by simp
  obj := fun i h st b hb => by
    have q : b = it := by simpa using hb
    subst q
    obtain ⟨o, e, c, d⟩ := st
    exact ⟨o, e, fun v z => by rw [d] at z; cases z⟩
  keep := fun i h h' st k => by
    obtain ⟨o, e, c⟩ := st
    exact ⟨o, k it (by simp) _ e, c⟩
  item := by
    intro X hP hw hK hc i pins s σ H E I hf st hg
    subst hP hw hK
    obtain ⟨f0, f1, f2, f3, f4, f5⟩ := hf it (by simp)
    have W := Walks.strAscii (prog := X.prog) (w := X.w) (I.ok.hd hc) it z t
    refine W.item i s _ _ hg st fun v h' tk hv st' kk => ?_
    obtain ⟨c, u, hc, rfl⟩ := hv
    have J : Inv X pins σ H { s with heap := h', toks := tk } := I.turned (fun b o hb e => kk b o (by simpa using hb) e) f0 f1 f3 f4 f5
    obtain ⟨o, e, ec, ed⟩ := id st'
    exact ⟨_, rfl, go_of (s := { s with heap := h', toks := tk }) (n := "str_ascii_iterator") e ec ed (by decide) ⟨signV c, H, J, ⟨u, rfl⟩, ⟨rfl, c, hc, rfl⟩, st', fun b hb => (hf b hb).1⟩⟩
  done := by
    intro X hP hw hK hc i pins s σ H E I hf st hg
    subst hP hw hK
    obtain ⟨f0, f1, f2, f3, f4, f5⟩ := hf it (by simp)
    exact wpAny_pyNext_ascii_end (I.ok.hd hc) st (by have q : z.cps.size ≤ i := hg; simp [q]) fun h' eb => ⟨rfl, I.turned (t' := s.toks) (fun b o hb e => eb b o hb e) f0 f1 f3 f4 f5⟩
  self := fun _ _ _ _ _ st h => wpAny_pyIter_striter_ascii st h
def iStr (tl : TE) : TI := fun σ H R => tl σ H fun x H1 => ∃ z, x = .str z ∧ z.cps.all (· < 128) = true ∧ R (ItS z) H1
theorem pi_str {tg l : Expr} {tl : TE} (hl : PE X l tl) : PI X tg l (iStr tl) := by
  intro pins s σ H R I h
  refine thn (hl pins s σ H _ I h) fun v s1 ⟨x, H1, I1, r1, q1⟩ => ?_
  obtain ⟨z, rfl, ha, q⟩ := q1
  obtain ⟨t, rfl⟩ := r1
  refine wpAny_pyIter_ascii ha ?_
  refine ⟨s1.heap.objs.size, [s1.heap.objs.size], _, _, H1, rfl, I1.kept (t' := s1.toks) fun b o e => Heap.get?_push_of_some _ e, turn_str _ z t, ⟨_, Heap.get?_push_size _ rfl, rfl, rfl⟩, fun b hb => ?_, q⟩
  have e : b = s1.heap.objs.size := by simpa using hb
  subst e
  exact I1.fpOk (Nat.le_refl _) (I1.hok.fresh (Nat.le_refl _))
end L2
namespace U
open PySem PySem.Spec PyProof.Rows L2
variable {B : Bs} {X : Cx} {a b o e : Expr} {es : List Expr} {ta tb to : TE'} {t : TA'} {pos apos cpos : Pos} {name : Str}
abbrev tx (l : List Nat) : PV := .str (sT l)
def uAddS : R2' := fun x y H Q => match x, y with
  | .str i, .str j => i.length + j.length ≤ sizeLine ∧ Q (.str (i ++ j)) H
  | _, _ => False
theorem w_aS {i j : Str} {H : PHp} {Q : VK'} : uAddS (.str i) (.str j) H Q = (i.length + j.length ≤ sizeLine ∧ Q (.str (i ++ j)) H) := rfl
theorem vr_addS {K : PySem.W.Frag} : VR K B uAddS (fun x y H Q => ∃ i j, x = .str i ∧ y = .str j ∧ i.length + j.length ≤ sizeLine ∧ Q (.str (i ++ j)) H) := by
  intro σ' σ H' H x' y' x y Q' Q s rx ry h k
  unfold uAddS at h
  split at h
  · rename_i i j
    simp only [RP] at rx ry
    exact ⟨i, j, rx, ry, h.1, k _ _ _ _ h.2 (by simp [RP]) s (Ev.refl _ _)⟩
  · exact h.elim
theorem qe_addS (ha : PE' X B a ta) (hb : PE' X B b tb) : PE' X B (.BinOp a .Add b pos) (uOp uAddS ta tb) := qe_op op_add_str vr_addS ha hb
def uIxS : R2' := fun x y H Q => match x, y with
  | .str z, .int i => z.length ≤ sizeLine ∧ ∃ c, atI z.cps.toList i = some c ∧ Q (.str ⟨#[c]⟩) H
  | _, _ => False
theorem w_iS {z : Str} {i : Int} {H : PHp} {Q : VK'} : uIxS (.str z) (.int i) H Q = (z.length ≤ sizeLine ∧ ∃ c, atI z.cps.toList i = some c ∧ Q (.str ⟨#[c]⟩) H) := rfl
theorem vr_ixS {K : PySem.W.Frag} : VR K B uIxS rIxS := by
  intro σ' σ H' H x' y' x y Q' Q s rx ry h k
  unfold uIxS at h
  split at h
  · rename_i z i
    simp only [RP] at rx ry
    obtain ⟨h1, c, h2, h3⟩ := h
    exact ⟨z, i, c, rx, ry, h1, h2, k _ _ _ _ h3 (by simp [RP]) s (Ev.refl _ _)⟩
  · exact h.elim
theorem qe_ixS (ha : PE' X B a ta) (hb : PE' X B b tb) (hs : PlainIx b) : PE' X B (.Subscript a b pos) (uOp uIxS ta tb) := pe_imp (pe_ix ix_str ha hb hs) fun _ _ _ h => low_op vr_ixS h
def uLenS : List PV → PHp → VK' → Prop := arg1 fun x H Q => match x with
  | .str z => z.length ≤ sizeLine ∧ Q (.int z.length) H
  | _ => False
theorem w_lS {z : Str} {H : PHp} {Q : VK'} : uLenS [.str z] H Q = (z.length ≤ sizeLine ∧ Q (.int z.length) H) := rfl
theorem vc_lenS {K : PySem.W.Frag} : VC K B uLenS (fun xs H Q => ∃ z, xs = [.str z] ∧ z.length ≤ sizeLine ∧ Q (.int z.length) H) := by
  intro σ' σ H' H xs' xs Q' Q s r h k
  obtain ⟨x', x, rfl, rfl, rx, h⟩ := arg1.ex h r
  cases x' with
  | str z =>
    simp only [RP] at rx
    subst rx
    exact ⟨z, rfl, h.1, k _ _ _ _ h.2 (by simp [RP]) s (Ev.refl _ _)⟩
  | _ => exact h.elim
def sgn (c : Nat) : PV := .str ⟨#[c]⟩
theorem rps_signs {K : PySem.W.Frag} {H : Hp} : ∀ {l : List Nat}, RPs K H (l.map sgn) (l.map signV)
  | [] => by simp [RPs]
  | c :: l => RPs.cons K (by simp [RP, sgn, signV]) rps_signs
def uListS : List PV → PHp → VK' → Prop := arg1 fun x H Q => match x with
  | .str z => z.length ≤ sizeLine ∧ ∀ r, H r = none → Q (.ref r) (put H r (.lst (z.cps.toList.map sgn)))
  | _ => False
theorem w_LS {z : Str} {H : PHp} {Q : VK'} : uListS [.str z] H Q = (z.length ≤ sizeLine ∧ ∀ r, H r = none → Q (.ref r) (put H r (.lst (z.cps.toList.map sgn)))) := rfl
theorem vc_listS {K : PySem.W.Frag} : VC K B uListS (fun xs H Q => ∃ z, xs = [.str z] ∧ z.length ≤ sizeLine ∧ ∀ r, H r = none → Q (.ref r) (upd H r (.lst (z.cps.toList.map signV)))) := by
  intro σ' σ H' H xs' xs Q' Q s r h k
  obtain ⟨x', x, rfl, rfl, rx, h⟩ := arg1.ex h r
  cases x' with
  | str z =>
    simp only [RP] at rx
    subst rx
    exact ⟨z, rfl, h.1, fun r hr => k _ _ _ _ (h.2 r (s.hp.free hr)) (by simp [RP]) (s.new hr (newL hr rps_signs)) (Ev.new hr)⟩
  | _ => exact h.elim
def isT (x : PV) : Prop := match x with
  | .str _ => True
  | _ => False
theorem w_iT {z : Str} : isT (.str z) = True := rfl
def uBMS (r : PV → List PV → PHp → VK' → Prop) (to : TE') (t : TA') : TE' := fun σ H Q => to σ H fun x H1 => isT x ∧ t σ H1 fun xs H2 => r x xs H2 Q
theorem qe_bmS {id : String} {r' : PV → List PV → PHp → VK' → Prop} {r : V → List V → Hp → VK → Prop} (pa : PlainAttrs "str") (slot : Slot "str" name id) (hty : typeOf (.builtin id) = pure (.type "method_descriptor")) (hm : MtR X id r) (v : VM X.K B r' r) (ho : PE' X B o to) (ha : PA' X B (e :: es) t)
    (hbase : attributeBase o name X.env (eval o X.env) = eval o X.env := by rfl)
    (hfew : ((backTo cpos (starEach (e :: es) X.env)).all (fun x => !x.1) && (backToKw cpos (keywordEach [] X.env)).all (fun x => x.1.isSome)
      && decide ((e :: es).length + ([] : List Keyword).length + (if ([] : List Keyword).isEmpty then 0 else 1) < 30)) = true := by rfl)
    (hline : (apos.endLine == cpos.line) = true := by rfl) (hs : starEach (e :: es) X.env = (false, eval e X.env) :: starEach es X.env := by rfl) (hplain : (backTo cpos (starEach es X.env)).any (·.1) = false := by rfl) :
    PE' X B (.Call (.Attribute o name apos) (e :: es) [] cpos) (uBMS r' to t) := pe_imp (pe_bm pa slot hty hm ho ha hbase hfew hline hs hplain) fun σ H Q h => by
  obtain ⟨σ', H', Q', s, h, k⟩ := h
  refine ⟨σ', H', _, s, h, fun x' H1' x H1 h1 rx s1 e1 => ?_⟩
  obtain ⟨ty, h1⟩ := h1
  constructor
  · cases x' with
    | str z =>
      simp only [RP] at rx
      subst rx
      rfl
    | _ => exact ty.elim
  · refine ⟨σ', H1', _, s1, h1, fun xs' H2' xs H2 h2 r2 s2 e2 => ?_⟩
    exact v σ' σ H2' H2 x' xs' x xs Q' Q s2 (RP.kp X.K (e2.kp s1.hp) rx) r2 h2 fun v' H3' v H3 q rv s3 e3 => k v' H3' v H3 q rv s3 (e1.trans (e2.trans e3))
def uFind : PV → List PV → PHp → VK' → Prop := fun x vs H Q => match x, vs with
  | .str z, [.str y] => Q (.int (Txt.find z y)) H
  | _, _ => False
theorem w_fd {z y : Str} {H : PHp} {Q : VK'} : uFind (.str z) [.str y] H Q = Q (.int (Txt.find z y)) H := rfl
theorem vm_find {K : PySem.W.Frag} : VM K B uFind (fun x xs H Q => ∃ z y, x = .str z ∧ xs = [.str y] ∧ Q (.int (Txt.find z y)) H) := by
  intro σ' σ H' H x' xs' x xs Q' Q s rx r h k
  unfold uFind at h
  split at h
  · rename_i z y
    simp only [RP] at rx
    simp only [RPs, RP] at r
    obtain ⟨_, _, rfl, rfl, rfl⟩ := r
    exact ⟨z, y, rx, rfl, k _ _ _ _ h (by simp [RP]) s (Ev.refl _ _)⟩
  · exact h.elim
theorem rps_strs {K : PySem.W.Frag} {H : Hp} : ∀ {ys : List Str} {us : List V}, RPs K H (ys.map PV.str) us → us = ys.map V.str
  | [], _, h => by simpa [RPs] using h
  | y :: ys, _, h => by
    simp only [List.map_cons, RPs, RP] at h
    obtain ⟨u, r, rfl, rfl, h2⟩ := h
    rw [rps_strs h2]; rfl
def uJoin : PV → List PV → PHp → VK' → Prop := fun x vs H Q => match x, vs with
  | .str z, [.ref a] => ∃ ys : List Str, H a = some (.lst (ys.map PV.str)) ∧ z.length ≤ 16 ∧ (ys.map (·.length)).sum + ys.length ≤ 1048576 ∧ Q (.str (Txt.join z ys)) H
  | _, _ => False
theorem w_jn {z : Str} {a : Addr} {H : PHp} {Q : VK'} : uJoin (.str z) [.ref a] H Q = ∃ ys : List Str, H a = some (.lst (ys.map PV.str)) ∧ z.length ≤ 16 ∧ (ys.map (·.length)).sum + ys.length ≤ 1048576 ∧ Q (.str (Txt.join z ys)) H := rfl
theorem vm_join {K : PySem.W.Frag} : VM K B uJoin (rJoin K) := by
  intro σ' σ H' H x' xs' x xs Q' Q s rx r h k
  unfold uJoin at h
  split at h
  · rename_i z a
    obtain ⟨ys, ea, h1, h2, q⟩ := h
    simp only [RP] at rx
    simp only [RPs, RP] at r
    obtain ⟨_, _, rfl, rfl, rfl⟩ := r
    obtain ⟨us, e, r2⟩ := s.hp _ _ ea
    rw [rps_strs r2] at e
    exact ⟨z, a, ys, rx, rfl, .inl (.inl e), h1, h2, k _ _ _ _ q (by simp [RP]) s (Ev.refl _ _)⟩
  · exact h.elim
def sliceS (x : PV) (lo hi : Option Int) (H : PHp) (Q : VK') : Prop := match x with
  | .str z => z.length ≤ sizeLine ∧ Q (.str (Txt.slice z lo hi)) H
  | _ => False
theorem w_sS {z : Str} {lo hi : Option Int} {H : PHp} {Q : VK'} : sliceS (.str z) lo hi H Q = (z.length ≤ sizeLine ∧ Q (.str (Txt.slice z lo hi)) H) := rfl
def uSliceS (ta : TE') (tl th : TO') : TE' := fun σ H Q => ta σ H fun x H1 => tl σ H1 fun lo H2 => th σ H2 fun hi H3 => sliceS x lo hi H3 Q
theorem qe_sliceS {lo hi : Option Expr} {tl th : TO'} {p2 : Pos} (he : PE' X B e ta) (hl : PO' X B lo tl) (hu : PO' X B hi th) : PE' X B (.Subscript e (.Slice lo hi none p2) pos) (uSliceS ta tl th) :=
  pe_imp (pe_slice sl_str he hl hu) fun σ H Q ⟨σ', H', Q', s, h, k⟩ => by
  refine ⟨σ', H', _, s, h, fun x H1' v H1 h1 r1 s1 e1 => ⟨σ', H1', _, s1, h1, fun l H2' H2 h2 s2 e2 => ⟨σ', H2', _, s2, h2, fun u H3' H3 h3 s3 e3 => ?_⟩⟩⟩
  cases x with
  | str z =>
    simp only [RP] at r1
    exact ⟨z, r1, h3.1, k _ _ _ _ h3.2 (by simp [RP]) s3 (e1.trans (e2.trans e3))⟩
  | _ => exact h3.elim
theorem walks_str {K : PySem.W.Frag} {H1 : Hp} {z : Str} : Walks K H1 (ItS z) ⟨z.cps.toList.map sgn, fun _ => True⟩ where
  go := fun H' H i _ _ _ hi => by
    have q : i < z.cps.size := by simpa using hi
    exact q
  yld := fun H' H i x H2 _ _ _ y => by
    obtain ⟨rfl, c, hc, rfl⟩ := y
    refine ⟨rfl, fun x' hx => ?_⟩
    rw [List.getElem?_map, Array.getElem?_toList, hc] at hx
    cases hx
    simp [RP, sgn, signV]
  stop := fun H' H i _ _ _ hi => by
    have q : z.cps.size ≤ i := by simpa using hi
    exact q
def itS (x : PV) (H : PHp) (R : It' → PHp → Prop) : Prop := match x with
  | .str z => z.cps.all (· < 128) = true ∧ R ⟨z.cps.toList.map sgn, fun _ => True⟩ H
  | _ => False
theorem w_tS {z : Str} {H : PHp} {R : It' → PHp → Prop} : itS (.str z) H R = (z.cps.all (· < 128) = true ∧ R ⟨z.cps.toList.map sgn, fun _ => True⟩ H) := rfl
def uStrI (ta : TE') : TI' := fun σ H R => ta σ H fun x H1 => itS x H1 R
theorem qi_str {tg l : Expr} {tl : TE'} (hl : PE' X B l tl) : PI' X B tg l (uStrI tl) := pi_imp (pi_str hl) fun σ H R ⟨σ', H', R', s, h, k⟩ => by
  refine ⟨σ', H', _, s, h, fun x' H1' x H1 h1 r1 s1 e1 => ?_⟩
  cases x' with
  | str z =>
    simp only [RP] at r1
    exact ⟨z, r1, h1.1, k _ _ _ _ h1.2 walks_str s1 e1⟩
  | _ => exact h1.elim
def setA (o i v : PV) (H : PHp) (Q : PHp → Prop) : Prop := match o, i with
  | .ref a, .int k => ∃ l j, H a = some (.lst l) ∧ ixN l.length k = some j ∧ Q (put H a (.lst (l.set j v)))
  | _, _ => False
theorem w_sI {a : Addr} {k : Int} {v : PV} {H : PHp} {Q : PHp → Prop} : setA (.ref a) (.int k) v H Q = ∃ l j, H a = some (.lst l) ∧ ixN l.length k = some j ∧ Q (put H a (.lst (l.set j v))) := rfl
def vSub (to ti : TE') : TG' := fun v σ H Q => to σ H fun o H1 => ti σ H1 fun i H2 => setA o i v H2 fun H3 => Q σ H3
theorem qg_sub {i : Expr} {ti : TE'} (ho : PE' X B o to) (hi : PE' X B i ti) (ha : ∀ v, assign (.Subscript o i pos) X.env v = (do
      let ov ← holding [v] (eval o X.env)
      let iv ← holding [v, ov] (eval i X.env)
      standAt pos
      holding [v, ov, iv] (setItem ov iv v)
      release [v, ov, iv] []) := by intro _; rfl) : PG' X B (.Subscript o i pos) (vSub to ti) := pg_imp (pg_sub ho hi set_list ha) fun v σ H Q h => by
  obtain ⟨v', σ', H', Q', rv, s, h, k⟩ := h
  refine ⟨σ', H', _, s, h, fun o' H1' o H1 h1 ro s1 e1 => ⟨σ', H1', _, s1, h1, fun i' H2' i H2 h2 ri s2 e2 => ?_⟩⟩
  unfold setA at h2
  split at h2
  · rename_i a n
    obtain ⟨l, j, ea, ej, q⟩ := h2
    have ro2 := RP.kp X.K (e2.kp s1.hp) ro
    have rv2 := RP.kp X.K ((e1.trans e2).kp s.hp) rv
    simp only [RP] at ro2 ri
    obtain ⟨us, eg, r⟩ := s2.hp _ _ ea
    have new : OAt X.K (upd H2 a (.lst (us.set j v))) a (.lst (l.set j v')) := ⟨_, upd_same, RPs.kp X.K (s2.hp.kpw ea) (RPs.set X.K rv2 j r)⟩
    exact ⟨a, us, n, j, ro2, ri, eg, by rw [RPs.length _ r]; exact ej, k _ _ _ _ q (s2.wr ea new) ((e1.trans e2).trans (Ev.wr ea))⟩
  · exact h2.elim
end U


set_option linter.all false
set_option maxRecDepth 100000
set_option maxHeartbeats 4000000
namespace U
open PySem PySem.Spec PyProof.Rows L2
variable {B : Bs} {X : Cx} {a b : Expr} {ta tb : TE'} {pos : Pos}
def rMulS : V → V → Hp → VK → Prop := fun x y H Q => ∃ (z : Str) (i : Int), x = .str z ∧ y = .int i ∧ z.length ≤ sizeLine ∧ 0 < z.length ∧ (i = 0 ∧ Q (.str Str.empty) H ∨ i = 1 ∧ Q (.str z) H)
theorem op_mulS : OpR X (binaryOp .Mult) rMulS := by
  intro pins s σ H x y v u Q I rx ry h
  obtain ⟨z, i, rfl, rfl, hz, h0, h⟩ := h
  obtain ⟨t, rfl⟩ := rx
  obtain ⟨t', rfl⟩ := ry
  rcases h with ⟨rfl, q⟩ | ⟨rfl, q⟩
  · exact PySem.P.mul_str_none (by decide) (by decide) ⟨.str Str.empty, H, I.tok _, ⟨_, rfl⟩, q⟩
  · refine PySem.P.mul_str (by decide) (fun _ z => by simp at z) (fun _ z => by simp at z) ?_
    rw [if_neg (by decide), if_pos (by simp)]
    exact ⟨.str z, H, I, ⟨_, rfl⟩, q⟩
def uMulS : R2' := fun x y H Q => match x, y with
  | .str z, .int i => z.length ≤ sizeLine ∧ 0 < z.length ∧ (i = 0 ∧ Q (.str Str.empty) H ∨ i = 1 ∧ Q (.str z) H)
  | _, _ => False
theorem w_mS {z : Str} {i : Int} {H : PHp} {Q : VK'} : uMulS (.str z) (.int i) H Q = (z.length ≤ sizeLine ∧ 0 < z.length ∧ (i = 0 ∧ Q (.str Str.empty) H ∨ i = 1 ∧ Q (.str z) H)) := rfl
theorem vr_mulS {K : PySem.W.Frag} : VR K B uMulS rMulS := by
  intro σ' σ H' H x' y' x y Q' Q s rx ry h k
  unfold uMulS at h
  split at h
  · rename_i z i
    simp only [RP] at rx ry
    refine ⟨z, i, rx, ry, h.1, h.2.1, ?_⟩
    rcases h.2.2 with ⟨e, q⟩ | ⟨e, q⟩
    · exact .inl ⟨e, k _ _ _ _ q (by simp [RP]) s (Ev.refl _ _)⟩
    · exact .inr ⟨e, k _ _ _ _ q (by simp [RP]) s (Ev.refl _ _)⟩
  · exact h.elim
theorem qe_mulS (ha : PE' X B a ta) (hb : PE' X B b tb) : PE' X B (.BinOp a .Mult b pos) (uOp uMulS ta tb) := qe_op op_mulS vr_mulS ha hb
end U


set_option linter.all false
set_option maxRecDepth 100000
set_option maxHeartbeats 4000000
namespace U
open PySem PySem.Spec PyProof.Rows L2
variable {B : Bs}
abbrev bmV : List Value := [.type "ValueError", .type "Exception", .type "BaseException", .type "object"]
def excI (K : PySem.W.Frag) (C : Addr) : Bool :=
  match K.lookup C with
  | some ⟨.type "type", _, .cls cd, sl⟩ =>
    (match cd.mro, sl.toList with
    | .ref D :: bm, [_, _, _, _, some (.builtin n), _] =>
      D == C && n == "ValueError.__new__" && !cd.hasDel && PySem.W.tailIn K bmV bm && PySem.W.nsOkIn K cd.ns && cd.hasDict
    | _, _ => false)
  | _ => false
structure XI (K : PySem.W.Frag) (C f : Addr) : Prop where
  ex : excI K C = true
  ob : PySem.W.mroIn K C (.type "object") = some true
  be : PySem.W.mroIn K C (.type "BaseException") = some true
  ga : PySem.W.findIn K (.ref C) "__getattribute__" = some (some (.builtin "BaseException.__getattribute__"))
  gt : PySem.W.findIn K (.ref C) "__getattr__" = some none
  cl : PySem.W.findIn K (.ref C) "__class__" = some (some (.builtin "object.__class__"))
  sa : PySem.W.findIn K (.ref C) "__setattr__" = some (some (.builtin "object.__setattr__"))
  na : PySem.W.findIn K (.ref C) "at" = some none
  it : PySem.W.findIn K (.ref C) "__init__" = some (some (.ref f))
  fn : PySem.W.isFn K (.ref f) = true
  kp : PySem.W.keepIn K (.ref C) = true
theorem clsI_at {K : PySem.W.Frag} {C : Addr} {h : Heap} (KX : K.In h) (q : excI K C = true) : ∃ (bm : List Value) (N : Addr) (nm qn : Str) (bs : List Value) (sn : List Str) (sub : List Value) (ab : Bool) (col : Option Bool) (dd : Option Addr) (k0 k1 k2 k3 k5 : Option Value),
    K.lookup C = some (excClassObj nm qn C N bs bm true sn sub ab col dd k0 k1 k2 k3 k5 "ValueError.__new__") ∧ h.get? C = some (excClassObj nm qn C N bs bm true sn sub ab col dd k0 k1 k2 k3 k5 "ValueError.__new__") ∧ OwnTail h bmV bm := by
  unfold excI at q
  split at q
  · rename_i dd cd sl ho
    split at q
    · rename_i D bm k0 k1 k2 k3 n k5 hm hs
      simp only [Bool.and_eq_true, beq_iff_eq, Bool.not_eq_true'] at q
      obtain ⟨⟨⟨⟨⟨rfl, rfl⟩, hdel⟩, ht⟩, hok⟩, hdi⟩ := q
      obtain ⟨nm, bs, mro, ns, qn, hd, sn, sub, ab, col, del⟩ := cd
      dsimp only at hm hdel hok hdi
      subst hm hdel hdi
      obtain rfl : sl = #[k0, k1, k2, k3, some (.builtin "ValueError.__new__"), k5] := by
        obtain ⟨l⟩ := sl
        simp only at hs
        rw [hs]
      exact ⟨bm, ns, nm, qn, bs, sn, sub, ab, col, dd, k0, k1, k2, k3, k5, ho, KX _ _ ho, PySem.W.tail_of_in KX ht⟩
    · cases q
  · cases q
theorem XI.c0 {K : PySem.W.Frag} {C f : Addr} (x : XI K C f) : XC0 K C := by
  refine ⟨?_, x.ob, x.be, x.ga, x.gt, x.cl⟩
  have q := x.ex
  unfold excI at q
  split at q
  · rename_i dd cd sl ho
    exact ⟨dd, cd, sl, ho⟩
  · cases q
section
variable {prog : Program} {w : World} {A : Around} {E : Value → Shared → Prop} {h : Heap} {g : Array GenState} {d : Drawn} {t : Nat} {os : OsState} {K : PySem.W.Frag} {C f : Addr}
abbrev newX (C x0 : Addr) : Obj := { cls := .ref C, data := .fields #[.ref x0, .none, .none, .none, .bool false, .none] }
theorem call_I {rest : List Value} {Q : Value → Shared → Prop} (KX : K.In h) (x : XI K C f) (hrest : rest.length ≤ sizeLine)
    (hq : wpAny (model prog w) (A.under (.builtin "type.__call__" ⟨.ref C :: rest, []⟩)) (call (.ref f) (.ref (h.objs.size + 1) :: rest)) (fun r s' => r = .none ∧ Q (.ref (h.objs.size + 1)) s') E
      ⟨(h.push { cls := .type "tuple", data := .seq rest.toArray }).push (newX C h.objs.size), g, d, t, os⟩) :
    wpAny (model prog w) A (call (.ref C) rest) Q E ⟨h, g, d, t, os⟩ := by
  obtain ⟨bm, N, nm, qn, bs, sn, sub, ab, col, dd, k0, k1, k2, k3, k5, _, hC, T⟩ := clsI_at KX x.ex
  have FF := PySem.F.excBase_ValueError
  have f1 := tc_lookup
  have f2 := tc_bind (.ref C)
  have hT : (⟨h, g, d, t, os⟩ : Shared).TypeIs (.ref C) "type" := ⟨_, hC, rfl⟩
  refine wpAny_call (codeAny_of_tree ?_)
  show wpAny _ _ (callAny (.ref C) _) _ _ _
  repeat (any_goals (first | assumption | with_reducible refine wpAny_loadPart_at hC ?_ | wp_step))
  refine ⟨rfl, ?_⟩
  refine codeAny_call_builtin_at (Code.quiet_builtin _ (by decide +kernel)) entry_typeCall (wpAny_check_type_call_sub hC ?_)
  show wpAny _ _ (Builtin.«type.__call__» ⟨.ref C :: rest, []⟩) _ _ _
  repeat (first | with_reducible refine wpAny_loadPart_at hC ?_ | with_reducible refine wpAny_madeBy_exc hC ?_ | wp_step)
  refine codeAny_call_builtin_code (Code.quiet_builtin _ FF.quiet) (wpAny_check_new_subT FF T hC ?_)
  refine codeAny_exc_new_subT FF T hC ?_ hrest
  show wpAny _ _ _ _ _ _
  have kk : ∀ b o, h.get? b = some o → ((h.push { cls := .type "tuple", data := .seq rest.toArray }).push (newX C h.objs.size)).get? b = some o :=
    fun b o e => Heap.get?_push_of_some _ (Heap.get?_push_of_some _ e)
  have hC1 := kk _ _ hC
  have KX1 : K.In _ := KX.keeps kk
  have hget : ((h.push { cls := .type "tuple", data := .seq rest.toArray }).push (newX C h.objs.size)).get? (h.objs.size + 1) =
      some { cls := .ref C, data := .fields #[.ref h.objs.size, .none, .none, .none, .bool false, .none] } := by heap_get
  have hcC : (Value.ref C :: bm).contains (.ref C) = true := by simp
  unfold isInstance
  repeat (first | with_reducible refine wpAny_loadPart_at hget ?_ | (with_reducible refine wpAny_isSubtype_exc hC1 ?_; rw [hcC]) | wp_step)
  show wpAny _ _ (typeLookup (.ref C) _) _ _ _
  refine (PySem.W.looks_findIn KX1 x.it).at ?_
  refine wpAny_holding (wpAny_bind ?_)
  refine (PySem.W.bind_fn KX1 _ (beq_iff_eq.mp x.fn)).at ?_
  refine wpAny_bind (wpAny_mono hq (fun r s' hr => ?_) fun _ _ z => z)
  obtain ⟨rfl, hQ⟩ := hr
  wp_walk
  exact hQ
end
end U
namespace U
open PySem PySem.Spec PyProof.Rows L2
section
variable {prog : Program} {w : World} {A : Around} {E : Value → Shared → Prop} {h : Heap} {g : Array GenState} {d : Drawn} {t : Nat} {os : OsState} {K : PySem.W.Frag} {C f : Addr}
theorem call_init {a x0 : Addr} {z : Str} {tk : Tok} {Q : Value → Shared → Prop} (KX : K.In h) (x : XI K C f)
    (he : h.get? a = some (newX C x0))
    (hq : ∀ h' t', (∀ b o, b ≠ a → h.get? b = some o → h'.get? b = some o) → (∃ y0, h'.get? a = some (newX C y0)) → Q .none ⟨h', g, d, t', os⟩) :
    wpAny (model prog w) A (call (.builtin "ValueError.__init__") [.ref a, .str z tk]) Q E ⟨h, g, d, t, os⟩ := by
  obtain ⟨bm, N, nm, qn, bs, sn, sub, ab, col, dd, k0, k1, k2, k3, k5, _, hC, T⟩ := clsI_at KX x.ex
  have FF := PySem.F.excBase_ValueError
  refine wpAny_call (codeAny_call_builtin FF.init.plain FF.initEntry (wpAny_check_init_subT FF T hC he rfl ?_))
  wp_walk
  refine hq _ _ (fun b o hb e => ?_) ⟨h.objs.size, ?_⟩
  · rw [Heap.get?_update_other _ _ (Ne.symm hb)]
    exact Heap.get?_push_of_some _ e
  · rw [Heap.get?_update_self _ (Heap.get?_push_of_some _ he) rfl]
    rfl
end
end U


set_option linter.all false
set_option maxRecDepth 100000
set_option maxHeartbeats 4000000
namespace U
open PySem PySem.Spec PyProof.Rows L2
def ExcN (a C : Addr) (h : Heap) : Prop := ∃ x0, h.get? a = some (newX C x0)
theorem excN_stay {a C : Addr} {h1 h2 : Heap} (x : ExcN a C h1) (k : ∀ o, h1.get? a = some o → h2.get? a = some o) : ExcN a C h2 := by
  obtain ⟨x0, e⟩ := x
  exact ⟨x0, k _ e⟩
section
variable {X : Cx} {C f D : Addr} {dn : Str} {c1 c2 : Str} {j1 j2 : Nat} {p1 p2 p3 p4 p5 p6 pos pos' : Pos}
def tJ (i : Nat) : TE := fun σ H Q => ∃ n : Int, σ[i]? = some (some (.int n)) ∧ n.natAbs < 1000000 ∧ ∀ z, Q (.str z) H
theorem fv_ok {i : Nat} {x : Str} {pins : List (Addr × Obj)} {s : Shared} {σ : L2.St} {H : Hp} {n : Int} {Q : Value → Shared → Prop} (hN : X.N[i]? = some x) (hv : Vis X.env.scope x) (I : Inv X pins σ H s) (e : σ[i]? = some (some (.int n))) (hn : n.natAbs < 1000000)
    (hd : (x == ("__debug__" : Str)) = false) (hcd : (x == ("__classdict__" : Str)) = false)
    (h : ∀ tk s1, Inv X pins σ H s1 → Q (.str (toString n) tk) s1) : wpAny (model X.prog X.w) X.A (eval (.FormattedValue (.Name x p1) (-1) none p2) X.env) Q X.xe s := by
  refine FormattedValue_plain (thn (pe_var hN hv hd hcd pins s σ H (fun v H1 => v = .int n ∧ H1 = H) I ⟨_, e, rfl, rfl⟩) fun u s1 ⟨v, H1, I1, r, ev, eh⟩ => ?_)
  subst ev; subst eh
  obtain ⟨tk, rfl⟩ := (show ∃ tk, u = Value.int n tk from r)
  refine formatField_int_small ?_ (h _ _ (I1.tok _))
  by_cases h0 : n.natAbs = 0
  · rw [h0]; decide
  · exact (Nat.log2_lt h0).mpr (Nat.lt_of_lt_of_le hn (Nat.le_trans (show 1000000 ≤ 2 ^ 20 by decide) (Nat.pow_le_pow_right (by decide) (by decide))))
theorem small_text {n : Int} (hn : n.natAbs < 1000000) : (Str.ofString (toString n)).length ≤ 8 := by
  have e := int_text_length_le10 (a := n) (k := 6) (by decide) hn
  rw [PySem.ofString_length]; omega
theorem pe_j2 {i : Nat} {x : Str} (hN : X.N[i]? = some x) (hv : Vis X.env.scope x) (hc : c1.length ≤ 1000) (hd : (x == ("__debug__" : Str)) = false := by decide) (hcd : (x == ("__classdict__" : Str)) = false := by decide) :
    PE X (.JoinedStr [.Constant (.str c1) j1 p3, .FormattedValue (.Name x p1) (-1) none p2] p4) (tJ i) := by
  intro pins s σ H Q I ⟨n, e, hn, h⟩
  have l8 := small_text hn
  refine JoinedStr_many (joinParts_cons (thn (pe_str (X := X) pins s σ H (fun v H1 => v = .str c1 ∧ H1 = H) I ⟨rfl, rfl⟩) fun u s1 ⟨v, H1, I1, r, ev, eh⟩ => ?_))
  subst ev; subst eh
  obtain ⟨tk, rfl⟩ := (show ∃ tk, u = Value.str c1 tk from r)
  refine ⟨by rw [strLen_append, sizeLine_eq]; show 0 + _ ≤ _; omega, ?_⟩
  refine joinParts_cons (fv_ok hN hv I1 e hn hd hcd fun tk s2 I2 => ⟨by rw [strLen_append, strLen_append, sizeLine_eq]; show 0 + _ + _ ≤ _; omega, ?_⟩)
  exact joinParts_nil ⟨.str _, H1, I2.tok _, ⟨_, rfl⟩, h _⟩ (by rw [strLen_append, strLen_append, sizeLine_eq]; show 0 + _ + _ ≤ _; omega)
end

theorem refuse_bmV (self : Value) : refuseLoop self "__setattr__" bmV = pure () := by kernel_rfl
theorem refuse_tail {h : Heap} (self : Value) {bm : List Value} (T : OwnTail h bmV bm) : refuseLoop self "__setattr__" bm = pure () := by
  induction T with
  | base => exact refuse_bmV self
  | own _ _ _ _ ih => rw [refuseLoop_ref]; exact ih
section
variable {prog : Program} {w : World} {A : Around} {E : Value → Shared → Prop} {h : Heap} {g : Array GenState} {d : Drawn} {t : Nat} {os : OsState} {K : PySem.W.Frag} {C f : Addr}
theorem set_I {a x0 : Addr} {n : Nat} {u : Value} {Q : Unit → Shared → Prop} (KX : K.In h) (x : XI K C f) (he : h.get? a = some (newX C x0)) (ru : RelV (.int n) u)
    (hq : ∀ h' o t', (∀ b o, b ≠ a → h.get? b = some o → h'.get? b = some o) → h'.get? a = some { newX C x0 with dict := some h.objs.size } → h'.get? h.objs.size = some o → IsAt o n → Q () ⟨h', g, d, t', os⟩) :
    wpAny (model prog w) A (setAttr (.ref a) "at" u) Q E ⟨h, g, d, t, os⟩ := by
  obtain ⟨bm, N, nm, qn, bs, sn, sub, ab, col, dd, k0, k1, k2, k3, k5, hlk, hC, T⟩ := clsI_at KX x.ex
  have SF := PySem.F.store_object
  have J : PySem.W.InstAt h a (newX C x0) C none := ⟨he, rfl, rfl, trivial⟩
  have sb : PySem.W.Looks (model prog w) h (isInstance (.ref a) (.type "object")) true := J.type.andThen (PySem.W.looks_mroIn KX x.ob)
  have hm : PySem.W.Looks (model prog w) h (mroOf (.ref C)) (.ref C :: bm) := (PySem.W.looks_clsIn KX (by unfold PySem.W.clsIn; rw [hlk])).andThen .now
  refine PySem.W.set_plain (s := ⟨h, g, d, t, os⟩) KX J x.sa (codeAny_call_builtin SF.slot.plain SF.entry (@PySem.W.check_slot (model prog w) _ _ ⟨h, g, d, t + 1, os⟩ "object.__setattr__" "object" "__setattr__" (.ref a) [.str "at" t, u] [] _ SF.kind SF.split sb (SF.args (.ref a) (.str "at" t) u) ?_))
  rw [PySem.W.osa_eq, refuse_eq]
  refine wpAny_bind (wpAny_bind (J.type.here (s := ⟨h, g, d, t + 1, os⟩) (wpAny_bind (hm.here (s := ⟨h, g, d, t + 1, os⟩) ?_))))
  rw [refuseLoop_ref, refuse_tail _ T]
  refine wpAny_pure (wpAny_bind (J.type.here (s := ⟨h, g, d, t + 1, os⟩) (wpAny_bind ((PySem.W.looks_findIn KX x.na).here (s := ⟨h, g, d, t + 1, os⟩) ?_))))
  refine wpAny_bind (wpAny_pure ?_)
  dsimp only
  unfold PySem.Builtin.ObjectAttr.storeInOwnDict
  refine wpAny_bind (wpAny_pure ?_)
  refine wpAny_bind (m := Builtin.ObjectAttr.ownDictForStores (Value.ref a)) ?_
  unfold Builtin.ObjectAttr.ownDictForStores instanceDict
  have hd : h.get? h.objs.size = none := Heap.get?_none_of_le (Nat.le_refl _)
  have na : a ≠ h.objs.size := Nat.ne_of_lt (Heap.lt_size he)
  refine wpAny_bind (wpAny_loadPart he ?_)
  dsimp only [newX]
  unfold classData
  refine wpAny_bind (wpAny_bind (wpAny_load hC ?_))
  refine wpAny_pure ?_
  dsimp only
  rw [if_neg (by decide), if_neg (show ¬ ((!true || !typeHasDict (Value.ref C)) = true) from fun z => by cases z)]
  refine wpAny_bind (wpAny_alloc ?_)
  have he1 := Heap.get?_push_of_some (h := h) { cls := .type "dict", data := .dict #[] } he
  refine wpAny_bind (wpAny_update he1 ?_)
  unfold dictMade
  refine wpAny_pure ?_
  dsimp only
  unfold Builtin.ObjectAttr.storeInDict
  refine wpAny_bind (wpAny_pure ?_)
  have hN1 : ((h.push { cls := .type "dict", data := .dict #[] }).update a fun o => { cls := o.cls, dict := some h.objs.size, data := o.data, slots := o.slots }).Ns1 h.objs.size (fun _ => none) := by
    refine ⟨_, #[], 0, (Heap.get?_update_other _ _ na).trans (Heap.get?_push_size h rfl), rfl, ?_, ?_, fun _ => rfl⟩
    · intro e he; cases (by simpa using he : False)
    · unfold UniqKeys; exact .nil
  refine wpAny_bind (wpAny_nsSet1 hN1 fun h2 hn2 sb2 => ?_)
  obtain ⟨o2, es2, ep2, ho2, hd2, hc2⟩ := hn2.count (ns := ["at"]) (fun y hy => by
    by_cases q : y = "at"
    · rw [q]; exact List.mem_singleton.mpr rfl
    · exact absurd (if_neg q) hy)
  refine wpAny_bind (wpAny_lookBehind ho2 (by rw [hd2]; exact pastItsLine_dict (Nat.le_trans hc2 (by rw [sizeLine_eq]; decide))) ?_)
  refine wpAny_pure (hq h2 o2 _ (fun b o hb e => ?_) ?_ ho2 fun h3 d3 e3 => ?_)
  · rw [sb2.2 b (Nat.ne_of_lt (Heap.lt_size e)), Heap.get?_update_other _ _ (Ne.symm hb)]
    exact Heap.get?_push_of_some _ e
  · rw [sb2.2 a na, Heap.get?_update_self _ he1 rfl]
  · obtain ⟨o4, es4, ep4, ho4, hd4, hk4, hu4, hf4⟩ := hn2
    rw [ho2] at ho4
    cases ho4
    exact ⟨_, u, ⟨_, es4, ep4, e3, hd4, hk4, hf4⟩, if_pos rfl, ru⟩
end
end U


set_option linter.all false
set_option maxRecDepth 100000
set_option maxHeartbeats 4000000
namespace U
open PySem PySem.Spec PyProof.Rows L2
def ExcM (a C dx : Addr) (h : Heap) : Prop := ∃ x0, h.get? a = some { newX C x0 with dict := some dx }
theorem excM_stay {a C dx : Addr} {h1 h2 : Heap} (x : ExcM a C dx h1) (k : ∀ o, h1.get? a = some o → h2.get? a = some o) : ExcM a C dx h2 := by
  obtain ⟨x0, e⟩ := x
  exact ⟨x0, k _ e⟩
theorem push_back {h : Heap} {o u : Obj} {b : Addr} (q : ¬ b = h.objs.size) (e : (h.push o).get? b = some u) : h.get? b = some u := by
  obtain ⟨e1, e2⟩ := Heap.get?_some_iff.mp e
  refine Heap.get?_some_iff.mpr ⟨?_, e2⟩
  obtain ⟨ob, l⟩ := h
  simp only [Heap.push] at e1 q ⊢
  rw [Array.getElem?_push, if_neg q] at e1
  exact e1
structure XD (K : PySem.W.Frag) (D : Addr) : Prop where
  rd : PySem.W.readsIn K D (.type "type") = true
  fc : PySem.W.findCls K (.ref D) (.type "type") "__init__" = some (.val (.builtin "ValueError.__init__"))
  sg : PySem.W.specialIn K (.ref D) "__getattribute__" = some (some (.builtin "type.__getattribute__"))
section
variable {X : Cx} {C f D : Addr} {dn : Str} {vs : List Expr} {p1 p2 p3 p4 p5 p6 pos pos' : Pos}
def tI1 (C : Addr) : TS := fun Dn σ H => ∃ (a : Addr) (n : Int), σ[0]? = some (some (.ref a)) ∧ σ[1]? = some (some (.int n)) ∧ n.natAbs < 1000000 ∧ H a = some (.ext (ExcN a C)) ∧ Dn.nx σ (upd H a (.ext (ExcN a C)))
theorem ps_I1 {pl : Sem Bool} (x : XI X.K C f) (xd : XD X.K D) (hg : Gl X dn) (hm : X.mg dn = some (.ref D)) (h0 : X.N[0]? = some ("self" : Str)) (hv0 : Vis X.env.scope "self") (hj : PE X (.JoinedStr vs p4) (tJ 1)) (hdb : (dn == ("__debug__" : Str)) = false := by decide)
    (hs : swapsWith (.Call (.Attribute (.Name dn p1) "__init__" p2) [.Name "self" p3, .JoinedStr vs p4] [] pos) none pos'.line X.env = pure false := by rfl)
    (he : starEach [.Name "self" p3, .JoinedStr vs p4] X.env = (false, eval (.Name "self" p3) X.env) :: starEach [.JoinedStr vs p4] X.env := by rfl)
    (he2 : starEach [.JoinedStr vs p4] X.env = (false, eval (.JoinedStr vs p4) X.env) :: starEach [] X.env := by rfl)
    (hpl : (backTo pos (starEach [.JoinedStr vs p4] X.env)).any (·.1) = false := by rfl)
    (ht : eval (.Call (.Attribute (.Name dn p1) "__init__" p2) [.Name "self" p3, .JoinedStr vs p4] [] pos) X.env = (do
      let ov ← eval (.Name dn p1) X.env
      standAt p2.atName
      let (f, first) ← holding [ov] (getMethod ov "__init__" pl)
      callWith pos f first (backTo pos (starEach [.Name "self" p3, .JoinedStr vs p4] X.env)) (backToKw pos (keywordEach [] X.env))) := by rfl) :
    PS X (.Expr (.Call (.Attribute (.Name dn p1) "__init__" p2) [.Name "self" p3, .JoinedStr vs p4] [] pos) pos') (tI1 C) := by
  intro pins s σ H Dn I ⟨a, n, e0, e1, hn, ha, q⟩
  have key : wpAny (model X.prog X.w) X.A (eval (.Call (.Attribute (.Name dn p1) "__init__" p2) [.Name "self" p3, .JoinedStr vs p4] [] pos) X.env) (EP X pins σ fun _ H1 => Dn.nx σ H1) X.xe s := by
    refine PySem.W.methodCall_KW (pl := pl) (ld_glob I hg hm ?_ hdb) ht
    refine PySem.W.method_cls I.kIn xd.sg (PySem.W.cls_value I.kIn xd.rd xd.fc rfl ?_)
    refine callWith_builtin1 (thn (pa_cons (pe_var h0 hv0) (pa_cons hj pa_nil he2) he pos pins _ σ H (fun vs H1 => ∃ z, vs = [.ref a, .str z] ∧ H1 = H) (I.tok _) ⟨_, e0, n, e1, hn, fun z => ⟨z, rfl, rfl⟩⟩) fun us s1 ⟨vs, H1, I1, r, z, ev, eh⟩ => ?_) he hpl
    subst ev; subst eh
    obtain ⟨u0, u1, rfl, r0, r1⟩ := vals2 r
    obtain rfl : u0 = Value.ref a := r0
    obtain ⟨tk, rfl⟩ := (show ∃ tk, u1 = Value.str z tk from r1)
    obtain ⟨⟨x0, hx⟩, _, _⟩ := (show ObjOk X.prog X.w H1 s1.heap a (.ext (ExcN a C)) from I1.hok a _ ha)
    obtain ⟨hp, g, d, tk', os⟩ := s1
    refine call_init I1.kIn x hx fun h' t' k ⟨y0, ey⟩ => ?_
    exact ⟨.non, _, I1.write (x := a) (e := a) (o := .ext (ExcN a C)) (by rw [ha]; exact True.intro) (.inl rfl) k ⟨_, ey⟩ ⟨⟨y0, ey⟩, ⟨_, ey⟩, fun h1 h2 => excN_stay⟩, rfl, q⟩
  exact wpAny_Expr_any (thn key fun v s1 ⟨y, H1, I1, r1, q1⟩ => ⟨σ, H1, I1, q1⟩) I.quiet hs
def tI2 (C : Addr) : TS := fun Dn σ H => ∃ (a : Addr) (n : Nat), σ[0]? = some (some (.ref a)) ∧ σ[1]? = some (some (.int n)) ∧ H a = some (.ext (ExcN a C)) ∧
  ∀ dx o, H dx = none → dx ≠ a → IsAt o n → Dn.nx σ (upd (upd H dx (.frz o (.own a))) a (.ext (ExcM a C dx)))
theorem ps_I2 (x : XI X.K C f) (h0 : X.N[0]? = some ("self" : Str)) (hv0 : Vis X.env.scope "self") (h1 : X.N[1]? = some ("at" : Str)) (hv1 : Vis X.env.scope "at")
    (hs : swapsWith (.Name "at" p1) (some (.Attribute (.Name "self" p2) "at" p3)) pos.line X.env = pure false := by rfl) : PS X (.Assign [.Attribute (.Name "self" p2) "at" p3] (.Name "at" p1) pos) (tI2 C) := by
  intro pins s σ H Dn I ⟨a, n, e0, e1, ha, q⟩
  refine plainObj_wpAny_Assign_Attribute (thn (pe_var h1 hv1 (by decide) (by decide) pins s σ H (fun v H1 => v = .int n ∧ H1 = H) I ⟨_, e1, rfl, rfl⟩) fun u s1 ⟨y, H1, I1, ry, ey, eh⟩ => ?_) hs
  subst ey; subst eh
  refine thn (pe_var h0 hv0 (by decide) (by decide) pins s1 σ H1 (fun v H2 => v = .ref a ∧ H2 = H1) I1 ⟨_, e0, rfl, rfl⟩) fun ov s2 ⟨y, H2, I2, ry2, ey, eh⟩ => ?_
  subst ey; subst eh
  obtain rfl : ov = Value.ref a := ry2
  obtain ⟨⟨x0, hx⟩, _, _⟩ := (show ObjOk X.prog X.w H2 s2.heap a (.ext (ExcN a C)) from I2.hok a _ ha)
  obtain ⟨hp, g, d, tk', os⟩ := s2
  refine set_I I2.kIn x hx ry fun h' o t' k ea eo at_ => ?_
  have nf := (Heap.get?_some_iff.mp eo).2
  have e2 : (hp.push o).get? hp.objs.size = some o := Heap.get?_push_size hp nf
  have na : hp.objs.size ≠ a := Nat.ne_of_gt (Heap.lt_size hx)
  have nd : H2 hp.objs.size = none := I2.hok.fresh (Nat.le_refl _)
  have I3 := I2.laid (h' := hp.push o) (a := hp.objs.size) (o := .frz o (.own a)) (t' := t') (fun b u e => Heap.get?_push_of_some _ e) (Nat.le_refl _) ⟨e2, ⟨o, e2⟩⟩
  have ha3 : upd H2 hp.objs.size (.frz o (.own a)) a = some (.ext (ExcN a C)) := by rw [upd_ne (Ne.symm na)]; exact ha
  have I4 := I3.write (x := a) (e := a) (h' := h') (o := .ext (ExcM a C hp.objs.size)) (t' := t') (by rw [ha3]; exact True.intro) (.inl rfl) (fun b u hb e => by
    by_cases q : b = hp.objs.size
    · subst q; rw [e2] at e; cases e; exact eo
    · exact k b u hb (push_back q e)) ⟨_, ea⟩ ⟨⟨x0, ea⟩, ⟨_, ea⟩, fun h1 h2 => excM_stay⟩
  exact ⟨σ, _, I4, q _ o nd na at_⟩
end
end U


set_option linter.all false
set_option maxRecDepth 100000
set_option maxHeartbeats 4000000
namespace U
open PySem PySem.Spec PyProof.Rows L2
variable {B : Bs}
section
variable {X : Cx} {pins : List (Addr × Obj)} {σ : L2.St} {H : Hp} {s : Shared} {a C f : Addr} {M : Model} {E : Value → Shared → Prop}
theorem forget {φ : Heap → Prop} (I : Inv X pins σ (upd H a (.ext φ)) s) (ha : H a = none) : Inv X pins σ H s := by
  have lo : ∀ b o, upd H a (.ext φ) b = some o → (∀ ψ, o ≠ .ext ψ) → H b = some o := fun b o e n => by
    by_cases q : b = a
    · subst q; rw [upd_same] at e; cases e; exact absurd rfl (n φ)
    · rw [upd_ne q] at e; exact e
  have up : ∀ b o, H b = some o → upd H a (.ext φ) b = some o := fun b o e => by rw [upd_ne (ne_of_none e ha)]; exact e
  have no : ∀ b, upd H a (.ext φ) b = none → H b = none := fun b e => by
    by_cases q : b = a
    · rw [q]; exact ha
    · rw [upd_ne q] at e; exact e
  refine ⟨I.ok, I.os, I.bare, ⟨I.base.keep, I.base.slot, fun b o e n hx => no _ (I.base.free b o e n hx), I.base.there, fun b xs e => lo _ _ (I.base.tups b xs e) (fun _ => by nofun), fun b o u e => lo _ _ (I.base.frzs b o u e) (fun _ => by nofun), fun b ps e => ?_⟩, I.loc, I.cell, no _ I.free, fun y c e => no _ (I.freeC y c e), fun p hp => ?_, fun b ob e => ?_, I.len⟩
  · obtain ⟨more, this⟩ := I.base.tbls b ps e
    exact ⟨more, lo _ _ this (fun _ => by nofun)⟩
  · obtain ⟨e, n, ne, nf, d⟩ := I.pin p hp
    exact ⟨e, no _ n, ne, nf, d⟩
  · exact (I.hok b ob (up _ _ e)).stay (fun _ _ _ q => q) (fun c q => lo _ _ q (fun _ => by nofun)) fun c xs q => lo _ _ q (fun _ => by nofun)
open PySem.W in
theorem leave_I {XE : XK} {x0 dx : Addr} {o : Obj} {n : Nat} (I : Inv X pins σ H s) (pl : Plain X) (he : s.heap.get? a = some { newX C x0 with dict := some dx }) (ha : H a = none) (na : X.s₀.heap.get? a = none) (pa : ∀ p ∈ X.pn ++ pins, p.1 ≠ a)
    (hd : H dx = some (.frz o (.own a))) (at_ : IsAt o n) (hE : XE (.ref C) (some n) H) :
    wpAny M X.A (leaving X.env (.ref a)) (fun _ s'' => CXU X.prog X.w X.outer X.H₀ X.s₀ XE (.ref a) s'') E s := by
  have fa : ∀ o, s.heap.get? a = some o → ∃ vs, o.data = .fields vs := fun o e => by rw [he] at e; cases e; exact ⟨_, rfl⟩
  have dat : AtD s.heap a H (some n) := fun m e => by cases e; exact ⟨_, dx, o, he, rfl, hd, at_⟩
  have ff := hid_ok I [a, a]
  have hfr := I.ok.frames
  rw [pl.stk] at ff hfr
  refine (dk_leaving _ _).use (wpAny_leaving_firstW hfr ff pl.fr he (fun b o e => of_hideAll _ e) (hideAll_none _ (by simp)) rfl rfl rfl fun h' ⟨k1, k2, k3, k4⟩ ke => ?_)
  rw [← pl.stk] at k1 k2 k3
  obtain ⟨I', T', x'⟩ := after_x I pl ha na pa fa a ha na pa fa _ k1 k2 k3 k4 (dat.ke ke)
  have hu := I'.base
  rw [pl.ex] at hu
  exact ⟨a, C, T', H, _, rfl, ⟨x'.fly, x'.dat⟩, ⟨x'.ha, x'.hT⟩, ⟨x'.na, x'.nT⟩, I'.os, I'.bare, hu, I'.hok, hE⟩
end
section
variable {M : Model} {A : Around} {E : Value → Shared → Prop} {s : Shared} {env : Env} {K : PySem.W.Frag} {C f : Addr}
theorem raiseStmt_I {y : Sem Value} {Q : Flow → Shared → Prop} (x : XI K C f) (hh : A.handled = none)
    (h : wpAny M A y (fun v s₁ => ∃ a dx x0, v = .ref a ∧ K.In s₁.heap ∧ s₁.heap.get? a = some { newX C x0 with dict := some dx } ∧ E (.ref a) s₁) E s) :
    wpAny M A (raiseStmt env (some y) none) Q E s := by
  unfold raiseStmt
  refine wpAny_bind (wpAny_mono h (fun v s₁ h₁ => ?_) fun _ _ x => x)
  obtain ⟨a, dx, x0, rfl, KX, he, hE⟩ := h₁
  obtain ⟨bm, N, nm, qn, bs, sn, sub, ab, col, dd, k0, k1, k2, k3, k5, _, hC, T⟩ := clsI_at KX x.ex
  have hcB : (Value.ref C :: bm).contains (.type "BaseException") = true := by rw [List.contains_cons, T.hasType (X := "BaseException") (b := true) (by decide), Bool.or_true]
  obtain ⟨hp, g, d, tk, os⟩ := s₁
  have he' : hp.get? a = some { cls := .ref C, dict := some dx, data := .fields #[.ref x0, .none, .none, .none, .bool false, .none] } := he
  repeat (first | with_reducible refine wpAny_loadPart_at he' ?_ | with_reducible refine wpAny_loadPart_at hC ?_ | (with_reducible refine wpAny_isSubtype_exc hC ?_; rw [hcB]) | wp_step)
  exact wpAny_raiseNew_none hh hE
end
def spI (C : Addr) : Sp := fun vs H Q _ => ∃ (a : Addr) (n : Nat), vs = [.ref a, .int n] ∧ n < 1000000 ∧ H a = some (.ext (ExcN a C)) ∧
  ∀ dx o, H dx = none → dx ≠ a → IsAt o n → Q .non (upd (upd H dx (.frz o (.own a))) a (.ext (ExcM a C dx)))
end U


set_option linter.all false
set_option maxRecDepth 100000
set_option maxHeartbeats 4000000
namespace U
open PySem PySem.Spec PyProof.Rows L2
variable {B : Bs}
section
variable {X : Cx} {k : Nat} {f C : Addr} {fd : FuncData} {ps : List Str} {sp : Sp'} {E : XK} {E' : XK'} {x m : Str} {p pos apos : Pos} {e o : Expr} {es : List Expr} {ta : TE'} {t : TA'}
theorem low_methX {K : PySem.W.Frag} (hE : XL K B E' E) {σ : L2.St} {H : Hp} {Q : VK} (h : low K B (uMeth C m sp E' ta t) σ H Q) : tMeth C m (lowSp K sp) [] E (low K B ta) (lowA K B t) σ H Q := by
  obtain ⟨σ', H', Q', s, h, k⟩ := h
  refine ⟨σ', H', _, s, h, fun x' H1' x H1 h1 rx s1 e1 => ?_⟩
  obtain ⟨hi, h1⟩ := h1
  cases x' with
  | ref a =>
    obtain ⟨dx, fs, ea, l⟩ := hi
    simp only [RP] at rx
    subst rx
    obtain ⟨gs, eg, fr⟩ := s1.hp _ _ ea
    refine ⟨a, dx, gs, rfl, eg, frel_none fr l, σ', H1', _, s1, h1, fun vs' H2' vs H2 h2 r2 s2 e2 => ?_⟩
    show lowSp K sp (V.ref a :: (vs ++ [])) H2 Q E
    rw [List.append_nil]
    exact ⟨.ref a :: vs', H2', Q', E', RPs.cons _ (by simp [RP]) r2, s2.hp, h2, fun v' H3' v H3 q r3 h3 e3 => k v' H3' v H3 q r3 (s2.kp e3 h3) ((e1.trans e2).trans e3), fun c d H3' H3 q h3 e3 => hE c d H3' H3 q h3 (s2.ev.trans e3)⟩
  | _ => exact hi.elim
theorem qe_methX {pl : Sem Bool} (l : Lv X E) (pn : Plain X) (hE : XL X.K B E' E) (he : PE' X B o ta) (cl : Cls X.K C) (hm : Meth X.K C m f) (F : FnOk' X.prog X.w X.K X.mg X.base (CXU X.prog X.w) k f fd ps sp) (hr : Room k X.A) (hb : Binds X.K fd ps []) (ha : PA' X B (e :: es) t)
    (hst : starEach (e :: es) X.env = (false, eval e X.env) :: starEach es X.env := by rfl) (hpl : (backTo pos (starEach es X.env)).any (·.1) = false := by rfl)
    (ht : eval (.Call (.Attribute o m apos) (e :: es) [] pos) X.env = (do
      let ov ← eval o X.env
      standAt apos.atName
      let (f, first) ← holding [ov] (getMethod ov m pl)
      callWith pos f first (backTo pos (starEach (e :: es) X.env)) (backToKw pos (keywordEach [] X.env))) := by rfl) :
    PE' X B (.Call (.Attribute o m apos) (e :: es) [] pos) (uMeth C m sp E' ta t) := pe_imp (pe_meth he cl hm F hr hb .nil (lv_pass l pn) ha hst hpl ht) fun _ _ _ h => low_methX hE h
end
end U


set_option linter.all false
set_option maxRecDepth 100000
set_option maxHeartbeats 4000000
namespace U
open PySem PySem.Spec PyProof.Rows L2
variable {B : Bs}
section
variable {X : Cx} {k : Nat} {f C D : Addr} {fd : FuncData} {ps : List Str} {E : XK} {E' : XK'} {x : Str} {np pos cpos : Pos} {e : Expr} {ta : TE'}
def riOf (C : Addr) (E' : XK') (v : PV) (H1 : PHp) : Prop := match v with
  | .int i => 0 ≤ i ∧ i < 1000000 ∧ E' (.ref C) (some i.toNat) H1
  | _ => False
theorem w_ri {C : Addr} {E' : XK'} {i : Int} {H1 : PHp} : riOf C E' (.int i) H1 = (0 ≤ i ∧ i < 1000000 ∧ E' (.ref C) (some i.toNat) H1) := rfl
def uRaiseI (C : Addr) (E' : XK') (ta : TE') : TS' := fun _ σ H => ta σ H fun v H1 => riOf C E' v H1
theorem upd_upd {H : Hp} {a b : Addr} {o u v : HO} (h : b ≠ a) : upd (upd (upd H a o) b u) a v = upd (upd H b u) a v := by
  funext c
  by_cases q : c = a
  · subst q; rw [upd_same, upd_same]
  · rw [upd_ne q, upd_ne q]
    by_cases q2 : c = b
    · subst q2; rw [upd_same, upd_same]
    · rw [upd_ne q2, upd_ne q2, upd_ne q]
theorem qs_raiseI (l : Lv X E) (pl : Plain X) (hE : XL X.K B E' E) (hc : X.calm = true) (xi : XI X.K C f) (F : FnOk X.prog X.w X.K X.mg X.base CX0 k f fd ps (spI C)) (hr : Room (k + 1) X.A) (hb : Binds X.K fd ps []) (hg : Gl X x) (hm : X.mg x = some (.ref C))
    (ha : PE' X B e ta) (hdb : (x == ("__debug__" : Str)) = false := by decide) (hst : starEach [e] X.env = (false, eval e X.env) :: starEach [] X.env := by rfl) :
    PS' X B (.Raise (some (.Call (.Name x np) [e] [] cpos)) none pos) (uRaiseI C E' ta) := by
  intro pins s σ H Dn I ⟨σ', H', D', sr, h, dr⟩
  rw [arm_exec_Raise]
  refine wpAny_bind (wpAny_standAt (raiseStmt_I xi (I.ok.hd hc) ?_))
  refine wpAny_bind (wpAny_mono ?_ (fun v s₃ h₃ => wpAny_bind (wpAny_standAt (wpAny_pure h₃))) fun _ _ x => x)
  refine wpAny_Call_Name_kw (ld_glob I hg hm ?_ hdb)
  have hA := pa_cons ha pa_nil hst cpos pins s σ H (fun vs H1 => ∃ (v : V) (n : Nat) (H1' : PHp), vs = [v] ∧ v = .int n ∧ n < 1000000 ∧ SR X.K B σ' H1' σ H1 ∧ Ev H' H H1' H1 ∧ E' (.ref C) (some n) H1') I
    ⟨σ', H', _, sr, h, fun v' H1' v H1 q r s1 e1 => by
      cases v' with
      | int i =>
        obtain ⟨i0, i1, q⟩ := q
        simp only [RP] at r
        exact ⟨v, i.toNat, H1', rfl, by rw [r, Int.toNat_of_nonneg i0], by omega, s1, e1, q⟩
      | _ => exact q.elim⟩
  refine PySem.W.callWith_K (h₀ := X.base) I.ok.mod.kin xi.kp (thn hA fun us s1 ⟨vs, H1, I1, r, v, n, H1', ev, en, hn, s1', e1, q⟩ => ⟨I1.kIn, ?_⟩) hst rfl
  subst ev; subst en
  obtain ⟨hp, g, d, tk, os⟩ := s1
  rw [List.nil_append]
  have hlen : us.length = 1 := by rw [← r.length]; rfl
  have fresh : ∀ b o, hp.get? b = some o → b ≠ hp.objs.size + 1 := fun b o e => Nat.ne_of_lt (Nat.lt_succ_of_lt (Heap.lt_size e))
  have hnone : hp.get? (hp.objs.size + 1) = none := Heap.get?_none_of_le (Nat.le_succ _)
  have ha1 : H1 (hp.objs.size + 1) = none := I1.hok.fresh (Nat.le_succ _)
  have hget : ((hp.push { cls := .type "tuple", data := .seq us.toArray }).push (newX C hp.objs.size)).get? (hp.objs.size + 1) = some (newX C hp.objs.size) := by
    have := Heap.get?_push_size (hp.push { cls := .type "tuple", data := .seq us.toArray }) (o := newX C hp.objs.size) rfl
    rw [Heap.size_push] at this
    exact this
  have I2 := I1.laid (h' := (hp.push { cls := .type "tuple", data := .seq us.toArray }).push (newX C hp.objs.size)) (a := hp.objs.size + 1) (o := .ext (ExcN (hp.objs.size + 1) C)) (t' := tk)
    (fun b u e => Heap.get?_push_of_some _ (Heap.get?_push_of_some _ e)) (Nat.le_succ _) ⟨⟨_, hget⟩, ⟨_, hget⟩, fun h1 h2 => excN_stay⟩
  refine call_I I1.kIn xi (by rw [hlen]; exact small_size (by decide)) ?_
  have hsp : spI C [.ref (hp.objs.size + 1), .int n] (upd H1 (hp.objs.size + 1) (.ext (ExcN (hp.objs.size + 1) C)))
      (fun v H3 => v = .non ∧ ∃ dx o, H1 dx = none ∧ dx ≠ hp.objs.size + 1 ∧ IsAt o n ∧ H3 = upd (upd H1 dx (.frz o (.own (hp.objs.size + 1)))) (hp.objs.size + 1) (.ext (ExcM (hp.objs.size + 1) C dx))) (fun _ _ _ => False) :=
    ⟨_, n, rfl, hn, upd_same, fun dx o hd ne ha => ⟨rfl, dx, o, by rw [upd_ne ne] at hd; exact hd, ne, ha, upd_upd ne⟩⟩
  have r2 : Vals [V.ref (hp.objs.size + 1), V.int n] (Value.ref (hp.objs.size + 1) :: us) := .cons rfl r
  have hl : (Value.ref (hp.objs.size + 1) :: us ++ []).length = ps.length := by rw [List.append_nil, ← r2.length]; exact F.len _ _ _ _ hsp
  have hb' := hb _ (Value.ref (hp.objs.size + 1) :: us) I2.kIn hl
  rw [List.append_nil] at hb'
  refine wpAny_call (codeAny_mono (F.run _ X.stack _ _ ⟨Value.ref (hp.objs.size + 1) :: us, []⟩ (Value.ref (hp.objs.size + 1) :: us) _ _ _ (hr.make C us []) (I2.env0.make C us []) hb' r2 hsp) fun rr s' hq' => ?_)
  cases rr with
  | error e => exact False.elim hq'
  | ok fl =>
    cases fl with
    | ret u =>
      obtain ⟨v, H3, I3, rv, ev, dx, o, hd, ne, at_, eH⟩ := I2.after hq'
      subst ev; subst eH
      refine ⟨rv, hp.objs.size + 1, dx, ?_⟩
      obtain ⟨⟨x0, hx⟩, _, _⟩ := (show ObjOk X.prog X.w _ s'.heap (hp.objs.size + 1) (.ext (ExcM (hp.objs.size + 1) C dx)) from I3.hok _ _ upd_same)
      have ha3 : upd H1 dx (.frz o (.own (hp.objs.size + 1))) (hp.objs.size + 1) = none := by rw [upd_ne (Ne.symm ne)]; exact ha1
      have I4 := forget I3 ha3
      refine ⟨x0, rfl, I3.kIn, hx, ?_⟩
      rw [l]
      refine leave_I I4 pl hx ha3 (entry_none I1 pl hnone) (fun p hp' z => ?_) upd_same at_ (hE _ _ H1' _ q (s1'.hp.hid hd) ((s1'.ev).trans (Ev.hid hd)))
      have := (I1.pin p hp').1
      rw [z] at this
      have hz : hp.get? (hp.objs.size + 1) = some p.2 := this
      rw [hnone] at hz; cases hz
    | next => exact False.elim hq'
    | brk => exact False.elim hq'
    | cont => exact False.elim hq'
end
end U


set_option linter.all false
set_option maxRecDepth 100000
set_option maxHeartbeats 4000000
namespace U
open PySem PySem.Spec PyProof.Rows L2
variable {B : Bs}
theorem ns_look {h : Heap} {d : Addr} {m : Str → Option Value} {nm : Str} {u : Value} (hn : h.Ns d m) (hm : m nm = some u) : ∃ o, h.get? d = some o ∧ nsLook nm o = pure (some u) := by
  obtain ⟨o, es, ep, ho, hd, hk, hf⟩ := hn
  refine ⟨o, ho, ?_⟩
  have q := hf nm
  rw [hm] at q
  simp only [nsLook_eq, nsLookByArray, hd]
  simp only [nsFind, findBy] at q
  cases hg : es.find? (·.key.isStr nm) with
  | none => rw [hg] at q; cases q
  | some e => rw [hg] at q; cases q; rfl
section
variable {prog : Program} {w : World} {A : Around} {E : Value → Shared → Prop} {h : Heap} {g : Array GenState} {d : Drawn} {t : Nat} {os : OsState} {K : PySem.W.Frag} {C f a dx : Addr} {o ob : Obj}
theorem at_check {M : Model} {tk : Tok} {Q : Unit → Shared → Prop} (KX : K.In h) (hx : h.get? a = some ob) (hc : ob.cls = .ref C) (hm : PySem.W.mroIn K C (.type "BaseException") = some true) (hq : Q () ⟨h, g, d, t, os⟩) :
    wpAny M A (checkBuiltinCall "BaseException.__getattribute__" ⟨[.ref a, .str "at" tk], []⟩) Q E ⟨h, g, d, t, os⟩ := by
  have LB : PySem.W.Looks M h (isSubtype (.ref C) (.type "BaseException")) true := PySem.W.looks_mroIn KX hm
  simp only [checkBuiltinCall, be_kind, be_split]
  repeat (first | (with_reducible refine wpAny_loadPart_at hx ?_; rw [hc]) | with_reducible refine LB.at ?_ | wp_step)
  exact hq
theorem at_entry {tk : Tok} {m : Str → Option Value} {u : Value} {vs : Array Value} {Q : Fin → Shared → Prop} (KX : K.In h) (xi : XI K C f) (hx : h.get? a = some ob) (hc : ob.cls = .ref C) (hdd : ob.dict = some dx) (hdt : ob.data = .fields vs) (hn : h.Ns dx m) (hm : m "at" = some u)
    (hq : Q (.done (.ret u)) ⟨h, g, d, t, os⟩) : wpAny (model prog w) A (Builtin.«object.__getattribute__» ⟨[.ref a, .str "at" tk], []⟩) Q E ⟨h, g, d, t, os⟩ := by
  obtain ⟨bm, N, nm, qn, bs, sn, sub, ab, col, dd, k0, k1, k2, k3, k5, hlk, hC, T⟩ := clsI_at KX xi.ex
  have LF : PySem.W.Looks (model prog w) h (typeLookup (.ref C) "at") none := PySem.W.looks_findIn KX xi.na
  obtain ⟨oc, od, oda, osl⟩ := ob
  dsimp only at hc hdd hdt
  subst hc hdd hdt
  repeat (any_goals (first | assumption | with_reducible refine wpAny_loadPart_at hx ?_ | with_reducible refine LF.at ?_ | wp_step))
  obtain ⟨o2, ho2, hl2⟩ := ns_look hn hm
  refine wpAny_loadPart ho2 ?_
  rw [hl2]
  refine wpAny_pure (wpAny_bind (wpAny_rule (wpAny_pure ?_)))
  exact wpAny_pure hq
theorem at_by {tk : Tok} {m : Str → Option Value} {u : Value} {vs : Array Value} {fl ex : Bool} {Q : Value → Shared → Prop} (KX : K.In h) (xi : XI K C f) (hx : h.get? a = some ob) (hc : ob.cls = .ref C) (hdd : ob.dict = some dx) (hdt : ob.data = .fields vs) (hn : h.Ns dx m) (hm : m "at" = some u)
    (hh : PySem.W.handedIn u = true) (hq : Q u ⟨h, g, d, t, os⟩) : wpAny (model prog w) A (getAttrBy (.ref a) (.str "at" tk) fl ex) Q E ⟨h, g, d, t, os⟩ := by
  have LG : PySem.W.Looks (model prog w) h (typeLookup (.ref C) "__getattribute__") (some (.builtin "BaseException.__getattribute__")) := PySem.W.looks_findIn KX xi.ga
  have LH : PySem.W.Looks (model prog w) h (typeLookup (.ref C) "__getattr__") none := PySem.W.looks_findIn KX xi.gt
  have f3 := be_bind (.ref a)
  unfold getAttrBy
  refine wpAny_holding ?_
  repeat (first | (with_reducible refine wpAny_loadPart_at hx ?_; rw [hc]) | with_reducible refine LG.at ?_ | with_reducible refine LH.at ?_ | wp_step)
  rw [show (ex && onTheHeap (Value.builtin "BaseException.__getattribute__")) = false from Bool.and_false _, if_neg (by decide)]
  unfold boundAndCalled
  rw [f3]
  refine wpAny_bind (wpAny_pure (wpAny_call ?_))
  refine codeAny_call_builtin_at (Code.quiet_builtin _ (by decide +kernel)) be_entry (at_check KX hx hc xi.be (at_entry KX xi hx hc hdd hdt hn hm ?_))
  show wpAny (model prog w) A (handedOut u) Q E _
  exact PySem.W.handed_on hh hq
end
section
variable {X : Cx} {C f a dx : Addr} {n : Nat} {o : Obj} {pins : List (Addr × Obj)} {σ : L2.St} {H : Hp} {s : Shared} {e : Expr} {ta : TE'} {pos : Pos}
theorem at_ok {A : Around} {E : Value → Shared → Prop} {b : Bool} {Q : Value → Shared → Prop} (I : Inv X pins σ H s) (xi : XI X.K C f) (ea : H a = some (.ext (ExcD a C dx))) (hd : H dx = some (.frz o (.own a))) (at_ : IsAt o n)
    (h : ∀ u s', Inv X pins σ H s' → RelV (.int n) u → Q u s') : wpAny (model X.prog X.w) A (getAttr (.ref a) "at" b) Q E s := by
  obtain ⟨⟨ob, hx, hc, hdd, vs, hdt⟩, _, _⟩ := (show ObjOk X.prog X.w H s.heap a (.ext (ExcD a C dx)) from I.hok a _ ea)
  obtain ⟨ho, _⟩ := (show ObjOk X.prog X.w H s.heap dx (.frz o (.own a)) from I.hok dx _ hd)
  obtain ⟨m, u, hn, hm, ru⟩ := at_ _ _ ho
  have KX := I.kIn
  have Iq := h u _ (I.tok (s.toks + 1)) ru
  obtain ⟨hp, g, d, t, os⟩ := s
  unfold getAttr
  exact wpAny_bind (wpAny_mkText (at_by KX xi hx hc hdd hdt hn hm (handed_of ru) Iq))
def atOf (K : PySem.W.Frag) (x : PV) (H : PHp) (Q : VK') : Prop := match x with
  | .ref a => ∃ C f n, H a = some (.excA C n) ∧ XI K C f ∧ Q (.int (n : Nat)) H
  | _ => False
theorem w_at {K : PySem.W.Frag} {a : Addr} {H : PHp} {Q : VK'} : atOf K (.ref a) H Q = ∃ C f n, H a = some (.excA C n) ∧ XI K C f ∧ Q (.int (n : Nat)) H := rfl
def uAt (K : PySem.W.Frag) (ta : TE') : TE' := fun σ H Q => ta σ H fun x H1 => atOf K x H1 Q
theorem qe_at (he : PE' X B e ta) (hb : attributeBase e "at" X.env (eval e X.env) = eval e X.env) : PE' X B (.Attribute e "at" pos) (uAt X.K ta) := by
  intro pins s σ H Q I ⟨σ', H', Q', sr, h, k⟩
  refine attr_of hb (thn (he pins s σ H (fun x H1 => ∃ x' H1', RP X.K H1 x' x ∧ SR X.K B σ' H1' σ H1 ∧ Ev H' H H1' H1 ∧ atOf X.K x' H1' Q') I ⟨σ', H', _, sr, h, fun v' H1' v H1 q r s1 e1 => ⟨v', H1', r, s1, e1, q⟩⟩) fun u s1 ⟨x, H1, I1, rx, x', H1', r', s1', e1, q⟩ => ?_)
  cases x' with
  | ref a =>
    obtain ⟨C, f, n, ea, xi, q⟩ := q
    simp only [RP] at r'
    subst r'
    obtain rfl : u = Value.ref a := rx
    obtain ⟨dx, o, z1, z2, z3⟩ := s1'.hp _ _ ea
    exact at_ok I1 xi z1 z2 z3 fun u' s2 I2 ru => ⟨.int n, H1, I2, ru, k _ _ _ _ q (by simp [RP]) s1' e1⟩
  | _ => exact q.elim
end
section
variable {X : Cx} {k : Nat} {f C : Addr} {fd : FuncData} {ps : List Str} {sp : Sp'} {E : XK} {E' : XK'} {x m : Str} {p pos apos : Pos} {e o : Expr} {es : List Expr} {ta : TE'} {t : TA'}
theorem qe_meth0X {pl : Sem Bool} (l : Lv X E) (pn : Plain X) (hE : XL X.K B E' E) (he : PE' X B o ta) (cl : Cls X.K C) (hm : Meth X.K C m f) (F : FnOk' X.prog X.w X.K X.mg X.base (CXU X.prog X.w) k f fd ps sp) (hr : Room k X.A) (hb : Binds X.K fd ps [])
    (ht : eval (.Call (.Attribute o m apos) [] [] pos) X.env = (do
      let ov ← eval o X.env
      standAt apos.atName
      let (f, first) ← holding [ov] (getMethod ov m pl)
      callWith pos f first (backTo pos (starEach [] X.env)) (backToKw pos (keywordEach [] X.env))) := by rfl) :
    PE' X B (.Call (.Attribute o m apos) [] [] pos) (uMeth C m sp E' ta uNil) := pe_imp (pe_meth0 he cl hm F hr hb .nil (lv_pass l pn) ht) fun σ H Q ⟨σ', H', Q', s, h, k⟩ => by
  refine ⟨σ', H', _, s, h, fun x' H1' x H1 h1 rx s1 e1 => ?_⟩
  obtain ⟨hi, h1⟩ := h1
  cases x' with
  | ref a =>
    obtain ⟨dx, fs, ea, l⟩ := hi
    simp only [RP] at rx
    subst rx
    obtain ⟨gs, eg, fr⟩ := s1.hp _ _ ea
    exact ⟨a, dx, gs, rfl, eg, frel_none fr l, [.ref a], H1', Q', E', RPs.cons _ (by simp [RP]) (RPs.nil _), s1.hp, h1, fun v' H3' v H3 q r3 h3 e3 => k v' H3' v H3 q r3 (s1.kp e3 h3) (e1.trans e3), fun c d H3' H3 q h3 e3 => hE c d H3' H3 q h3 (s1.ev.trans e3)⟩
  | _ => exact hi.elim
end
end U


set_option linter.all false
set_option maxRecDepth 100000
namespace Par
inductive F where
  | one
  | seen (ns : List Int)
  | sum (ns : List Int) (f : F)
  | times (a b : F)
  | over (a b : F)
def Nm (ns : List Int) : Prop := ns.Pairwise (· < ·) ∧ ∀ x ∈ ns, 0 ≤ x ∧ x < 6
def Ok : F → Prop
  | .one => True
  | .seen ns => Nm ns
  | .sum ns f => (Nm ns ∧ ns ≠ []) ∧ Ok f
  | .times a b => Ok a ∧ Ok b
  | .over a b => Ok a ∧ Ok b
def dp : F → Nat
  | .one => 0
  | .seen _ => 0
  | .sum _ f => dp f + 1
  | .times a b => max (dp a) (dp b) + 1
  | .over a b => max (dp a) (dp b) + 1
def ltr (n : Int) : Nat := 97 + n.toNat
def lets : List Int → List Nat
  | [] => []
  | [n] => [ltr n]
  | n :: m :: r => ltr n :: 32 :: lets (m :: r)
def txt : F → List Nat
  | .one => [49]
  | .seen ns => 80 :: 40 :: (lets ns ++ [41])
  | .sum ns f => 115 :: 117 :: 109 :: 40 :: (lets ns ++ 58 :: 32 :: (txt f ++ [41]))
  | .times a b => 40 :: (txt a ++ 32 :: 42 :: 32 :: (txt b ++ [41]))
  | .over a b => 40 :: (txt a ++ 32 :: 47 :: 32 :: (txt b ++ [41]))
abbrev Rs (α : Type) := Except (List Nat) (α × List Nat)
def bnd {α β : Type} (p : Rs α) (g : α → List Nat → Rs β) : Rs β := match p with
  | .ok (v, r) => g v r
  | .error e => .error e
theorem bnd_ok {α β : Type} {p : Rs α} {g : α → List Nat → Rs β} {v : α} {r : List Nat} (h : p = .ok (v, r)) : bnd p g = g v r := by rw [h]; rfl
theorem bnd_er {α β : Type} {p : Rs α} {g : α → List Nat → Rs β} {r : List Nat} (h : p = .error r) : bnd p g = .error r := by rw [h]; rfl
def pS (cs : List Nat) : List Nat → Rs Nat
  | c :: r => if c ∈ cs then .ok (c, r) else .error (c :: r)
  | [] => .error []
def pSs : List Nat → List Nat → Rs Unit
  | [], r => .ok ((), r)
  | z :: zs, r => bnd (pS [z] r) fun _ r => pSs zs r
def pNf (m : Int) : List Nat → Rs Int
  | c :: r => if 97 + m ≤ (c : Int) ∧ c ≤ 102 then .ok ((c : Int) - 97, r) else .error (c :: r)
  | [] => .error []
def pMore (last : Int) : List Nat → Rs (List Int)
  | 32 :: c :: r => if last < 5 then (if 97 + (last + 1) ≤ (c : Int) ∧ c ≤ 102 then bnd (pMore ((c : Int) - 97) r) fun ns r => .ok (((c : Int) - 97) :: ns, r) else .error (c :: r)) else .ok ([], 32 :: c :: r)
  | [32] => if last < 5 then .error [] else .ok ([], [32])
  | r => .ok ([], r)
def pNs (r : List Nat) : Rs (List Int) := bnd (pNf 0 r) fun n r => bnd (pMore n r) fun ns r => .ok (n :: ns, r)
def pQ (r : List Nat) : Rs (List Int) := if r.head? = some 41 then .ok ([], r) else pNs r
def pSeen (r : List Nat) : Rs F := bnd (pSs [40] r) fun _ r => bnd (pQ r) fun ns r => bnd (pSs [41] r) fun _ r => .ok (.seen ns, r)
def pSum (pf : List Nat → Rs F) (r : List Nat) : Rs F := bnd (pSs [117, 109, 40] r) fun _ r => bnd (pNs r) fun ns r => bnd (pSs [58, 32] r) fun _ r => bnd (pf r) fun f r => bnd (pSs [41] r) fun _ r => .ok (.sum ns f, r)
def pJoin (pf : List Nat → Rs F) (r : List Nat) : Rs F := bnd (pf r) fun a r => bnd (pSs [32] r) fun _ r => bnd (pS [42, 47] r) fun c r => bnd (pSs [32] r) fun _ r => bnd (pf r) fun b r => bnd (pSs [41] r) fun _ r => .ok (if c = 42 then .times a b else .over a b, r)
def pF : Nat → List Nat → Rs F
  | 0, r => .error r
  | n + 1, r => bnd (pS [49, 80, 115, 40] r) fun c r => if c = 49 then .ok (.one, r) else if c = 80 then pSeen r else if c = 115 then pSum (pF n) r else pJoin (pF n) r
def Lf {α : Type} (tx : α → List Nat) (good : α → Prop) (r : List Nat) (p : Rs α) : Prop := match p with
  | .ok (v, r') => r = tx v ++ r' ∧ good v
  | .error e => ∃ q, r = q ++ e
theorem Lf.bnd {α β : Type} {tx : α → List Nat} {good : α → Prop} {ty : β → List Nat} {gy : β → Prop} {r0 r : List Nat} {p : Rs α} {g : α → List Nat → Rs β} (pre : List Nat) (h0 : r0 = pre ++ r) (h : Lf tx good r p) (hg : ∀ v r', good v → r0 = (pre ++ tx v) ++ r' → Lf ty gy r0 (g v r')) : Lf ty gy r0 (bnd p g) := by
  unfold Par.bnd
  match p, h with
  | .ok (v, r'), ⟨h1, h2⟩ => exact hg v r' h2 (by rw [h0, h1, List.append_assoc])
  | .error e, ⟨q, h1⟩ => exact ⟨pre ++ q, by rw [h0, h1, List.append_assoc]⟩
theorem lf_S (cs : List Nat) : ∀ r, Lf (fun c => [c]) (fun c => c ∈ cs) r (pS cs r)
  | [] => ⟨[], rfl⟩
  | c :: r => by
    show Lf _ _ _ (if c ∈ cs then .ok (c, r) else .error (c :: r))
    by_cases h : c ∈ cs
    · rw [if_pos h]; exact ⟨rfl, h⟩
    · rw [if_neg h]; exact ⟨[], rfl⟩
theorem lf_Ss : ∀ zs r, Lf (fun _ : Unit => zs) (fun _ => True) r (pSs zs r)
  | [], r => ⟨rfl, trivial⟩
  | z :: zs, r => by
    unfold pSs
    refine Lf.bnd [] rfl (lf_S [z] r) fun v r' hv e => ?_
    rw [List.mem_singleton.mp hv, List.nil_append] at e
    have ih := lf_Ss zs r'
    match h : pSs zs r', ih with
    | .ok (v, r2), ⟨h1, _⟩ => exact ⟨by rw [e, h1]; rfl, trivial⟩
    | .error e2, ⟨q, h1⟩ => exact ⟨[z] ++ q, by rw [e, h1, List.append_assoc]⟩
theorem ltr_of {c : Nat} (h : 97 ≤ (c : Int)) : ltr ((c : Int) - 97) = c := by unfold ltr; omega
theorem lf_Nf (m : Int) (hm : 0 ≤ m) : ∀ r, Lf (fun n => [ltr n]) (fun n => m ≤ n ∧ n < 6) r (pNf m r)
  | [] => ⟨[], rfl⟩
  | c :: r => by
    show Lf _ _ _ (if 97 + m ≤ (c : Int) ∧ c ≤ 102 then .ok ((c : Int) - 97, r) else .error (c :: r))
    by_cases h : 97 + m ≤ (c : Int) ∧ c ≤ 102
    · rw [if_pos h]; exact ⟨by show c :: r = [ltr _] ++ r; rw [ltr_of (by omega)]; rfl, by omega, by omega⟩
    · rw [if_neg h]; exact ⟨[], rfl⟩
def nxt : List Int → List Nat
  | [] => []
  | n :: r => 32 :: lets (n :: r)
theorem pMore_two {last : Int} {c : Nat} {r : List Nat} : pMore last (32 :: c :: r) = if last < 5 then (if 97 + (last + 1) ≤ (c : Int) ∧ c ≤ 102 then bnd (pMore ((c : Int) - 97) r) fun ns r => .ok (((c : Int) - 97) :: ns, r) else .error (c :: r)) else .ok ([], 32 :: c :: r) := by rw [pMore]
theorem pMore_ne {last : Int} {x : Nat} {r : List Nat} (h : x ≠ 32) : pMore last (x :: r) = .ok ([], x :: r) := by
  unfold pMore
  split
  · rename_i e; cases e; exact absurd rfl h
  · rename_i e; cases e; exact absurd rfl h
  · rfl
theorem lf_More : ∀ (r : List Nat) (last : Int), 0 ≤ last → Lf nxt (fun ns => ns.Pairwise (· < ·) ∧ ∀ x ∈ ns, last < x ∧ x < 6) r (pMore last r)
  | [], last, _ => ⟨rfl, .nil, fun _ h => by cases h⟩
  | [x], last, _ => by
    by_cases hx : x = 32
    · subst hx
      show Lf _ _ _ (if last < 5 then .error [] else .ok ([], [32]))
      by_cases h5 : last < 5
      · rw [if_pos h5]; exact ⟨[32], rfl⟩
      · rw [if_neg h5]; exact ⟨rfl, .nil, fun _ h => by cases h⟩
    · rw [pMore_ne hx]; exact ⟨rfl, .nil, fun _ h => by cases h⟩
  | x :: c :: r, last, hl => by
    by_cases hx : x = 32
    · subst hx
      rw [pMore_two]
      by_cases h5 : last < 5
      · rw [if_pos h5]
        by_cases h : 97 + (last + 1) ≤ (c : Int) ∧ c ≤ 102
        · rw [if_pos h]
          refine Lf.bnd [32, c] rfl (lf_More r ((c : Int) - 97) (by omega)) fun ns r' hg e => ⟨?_, ?_, ?_⟩
          · rw [e]
            cases ns with
            | nil => show 32 :: c :: ([] ++ r') = 32 :: ltr _ :: ([] ++ r'); rw [ltr_of (by omega)]
            | cons n ns => show 32 :: c :: (32 :: lets (n :: ns) ++ r') = 32 :: ltr _ :: 32 :: (lets (n :: ns) ++ r'); rw [ltr_of (by omega)]; rfl
          · exact List.pairwise_cons.mpr ⟨fun y hy => (hg.2 y hy).1, hg.1⟩
          · intro y hy
            rcases List.mem_cons.mp hy with rfl | hy
            · omega
            · have := hg.2 y hy; omega
        · rw [if_neg h]; exact ⟨[32], rfl⟩
      · rw [if_neg h5]; exact ⟨rfl, .nil, fun _ h => by cases h⟩
    · rw [pMore_ne hx]; exact ⟨rfl, .nil, fun _ h => by cases h⟩
theorem lf_Ns (r : List Nat) : Lf lets (fun ns => Nm ns ∧ ns ≠ []) r (pNs r) := by
  unfold pNs
  refine Lf.bnd [] rfl (lf_Nf 0 (by omega) r) fun n r1 hn e1 => Lf.bnd _ e1 (lf_More r1 n hn.1) fun ns r2 hg e2 => ⟨?_, ⟨?_, ?_⟩, by simp⟩
  · rw [e2]
    cases ns with
    | nil => rfl
    | cons m ns => rfl
  · exact List.pairwise_cons.mpr ⟨fun y hy => (hg.2 y hy).1, hg.1⟩
  · intro y hy
    rcases List.mem_cons.mp hy with rfl | hy
    · omega
    · have := hg.2 y hy; omega
theorem lf_seen (r : List Nat) : Lf (fun f => (txt f).drop 1) (fun f => Ok f ∧ dp f = 0 ∧ ∃ ns, f = .seen ns) r (pSeen r) := by
  unfold pSeen
  refine Lf.bnd [] rfl (lf_Ss [40] r) fun _ r1 _ e1 => ?_
  refine Lf.bnd (tx := lets) (good := Nm) _ e1 ?_ fun ns r2 hn e2 => Lf.bnd _ e2 (lf_Ss [41] r2) fun _ r3 _ e3 => ⟨?_, hn, rfl, ns, rfl⟩
  · unfold pQ
    split
    · exact ⟨rfl, .nil, fun _ h => by cases h⟩
    · have := lf_Ns r1
      match h : pNs r1, this with
      | .ok (v, r2), ⟨h1, h2, _⟩ => exact ⟨h1, h2⟩
      | .error e, h1 => exact h1
  · rw [e3]; simp [txt]
theorem lf_F : ∀ n r, Lf txt (fun f => Ok f ∧ dp f < n) r (pF n r)
  | 0, r => ⟨[], rfl⟩
  | n + 1, r => by
    unfold pF
    refine Lf.bnd [] rfl (lf_S _ r) fun c r1 hc e1 => ?_
    rw [List.nil_append] at e1
    have lift : ∀ {f : F} {r' : List Nat} {q : List Nat}, r = c :: q → q = (txt f).drop 1 ++ r' → (txt f).head? = some c → r = txt f ++ r' := by
      intro f r' q h1 h2 h3
      cases hf : txt f with
      | nil => rw [hf] at h3; cases h3
      | cons a l => rw [hf] at h2 h3; cases h3; rw [h1, h2]; rfl
    by_cases h1 : c = 49
    · rw [if_pos h1]; subst h1; exact ⟨e1, trivial, by simp [dp]⟩
    rw [if_neg h1]
    by_cases h2 : c = 80
    · rw [if_pos h2]
      subst h2
      match h : pSeen r1, lf_seen r1 with
      | .ok (f, r2), ⟨h3, h4, h5, ns, hf⟩ => exact ⟨lift e1 h3 (by rw [hf]; rfl), h4, by omega⟩
      | .error e, ⟨q, h3⟩ => exact ⟨80 :: q, by rw [e1, h3]; rfl⟩
    rw [if_neg h2]
    by_cases h3 : c = 115
    · rw [if_pos h3]
      subst h3
      have key : Lf (fun f => (txt f).drop 1) (fun f => (Ok f ∧ dp f < n + 1) ∧ (txt f).head? = some 115) r1 (pSum (pF n) r1) := by
        unfold pSum
        refine Lf.bnd [] rfl (lf_Ss [117, 109, 40] r1) fun _ r2 _ e2 => Lf.bnd _ e2 (lf_Ns r2) fun ns r3 hn e3 => Lf.bnd _ e3 (lf_Ss [58, 32] r3) fun _ r4 _ e4 => Lf.bnd _ e4 (lf_F n r4) fun f r5 hf e5 => Lf.bnd _ e5 (lf_Ss [41] r5) fun _ r6 _ e6 => ⟨?_, ⟨⟨hn, hf.1⟩, by simp only [dp]; omega⟩, rfl⟩
        rw [e6]; simp [txt]
      match h : pSum (pF n) r1, key with
      | .ok (f, r2), ⟨h4, h5, h6⟩ => exact ⟨lift e1 h4 h6, h5⟩
      | .error e, ⟨q, h4⟩ => exact ⟨115 :: q, by rw [e1, h4]; rfl⟩
    rw [if_neg h3]
    have h4 : c = 40 := by simp at hc; omega
    subst h4
    have key : Lf (fun f => (txt f).drop 1) (fun f => (Ok f ∧ dp f < n + 1) ∧ (txt f).head? = some 40) r1 (pJoin (pF n) r1) := by
      unfold pJoin
      refine Lf.bnd [] rfl (lf_F n r1) fun a r2 ha e2 => Lf.bnd _ e2 (lf_Ss [32] r2) fun _ r3 _ e3 => Lf.bnd _ e3 (lf_S [42, 47] r3) fun c r4 hc e4 => Lf.bnd _ e4 (lf_Ss [32] r4) fun _ r5 _ e5 => Lf.bnd _ e5 (lf_F n r5) fun b r6 hb e6 => Lf.bnd _ e6 (lf_Ss [41] r6) fun _ r7 _ e7 => ?_
      by_cases q : c = 42
      · rw [if_pos q]; subst q
        exact ⟨by rw [e7]; simp [txt], ⟨⟨ha.1, hb.1⟩, by simp only [dp]; omega⟩, rfl⟩
      · rw [if_neg q]
        have : c = 47 := by simp at hc; omega
        subst this
        exact ⟨by rw [e7]; simp [txt], ⟨⟨ha.1, hb.1⟩, by simp only [dp]; omega⟩, rfl⟩
    match h : pJoin (pF n) r1, key with
    | .ok (f, r2), ⟨h4, h5, h6⟩ => exact ⟨lift e1 h4 h6, h5⟩
    | .error e, ⟨q, h4⟩ => exact ⟨40 :: q, by rw [e1, h4]; rfl⟩
inductive Tok where
  | F | Q | L (c : Nat) | n (b : Bool) | m (b : Bool) | O
def endc (b : Bool) : Nat := if b then 41 else 58
def lt (c : Nat) : Int := if 97 ≤ c ∧ c ≤ 102 then (c : Int) - 97 else -1
def ask (t : Tok) (c : Nat) (last : Int) : Option (List Tok) := match t with
  | .F => if c = 49 then some [] else if c = 80 then some [.L 40, .Q] else if c = 115 then some [.L 117, .L 109, .L 40, .n false, .L 32, .F, .L 41] else if c = 40 then some [.F, .L 32, .O, .L 32, .F, .L 41] else none
  | .Q => if last < lt c then some [.m true] else if c = 41 then some [] else none
  | .n b => if last < lt c then some [.m b] else none
  | .m b => if c = 32 ∧ last < 5 then some [.n b] else if c = endc b then some [] else none
  | .O => if c = 42 ∨ c = 47 then some [] else none
  | .L z => if c = z then some [] else none
def nl (t : Tok) (c : Nat) (last : Int) : Int := match t with
  | .F => -1
  | .Q => if c = 41 then last else lt c
  | .n _ => if c = 41 then last else lt c
  | _ => last
def run : List Nat → List Tok → Int → Option (List Nat)
  | [], [], _ => none
  | [], _ :: _, _ => some []
  | c :: r, [], _ => some (c :: r)
  | c :: r, t :: S, last => match ask t c last with
    | none => some (c :: r)
    | some more => run r (more ++ S) (nl t c last)
theorem run_no {c : Nat} {r : List Nat} {t : Tok} {S : List Tok} {last : Int} (h : ask t c last = none) : run (c :: r) (t :: S) last = some (c :: r) := by
  show (match ask t c last with | none => some (c :: r) | some more => run r (more ++ S) (nl t c last)) = _
  rw [h]
theorem run_yes {c : Nat} {r : List Nat} {t : Tok} {S more : List Tok} {last : Int} (h : ask t c last = some more) : run (c :: r) (t :: S) last = run r (more ++ S) (nl t c last) := by
  show (match ask t c last with | none => some (c :: r) | some more => run r (more ++ S) (nl t c last)) = _
  rw [h]
def Fi {α : Type} (S : List Tok) (p : Rs α) (o : Option (List Nat)) : Prop := match p with
  | .ok (_, r) => ∃ l : Int, True ∧ o = run r S l
  | .error e => o = some e
theorem Fi.bnd {α β : Type} {S' S : List Tok} {p : Rs α} {g : α → List Nat → Rs β} {o : Option (List Nat)} (h : Fi S' p o) (hg : ∀ v r l, p = .ok (v, r) → True → Fi S (g v r) (run r S' l)) : Fi S (bnd p g) o := by
  unfold Par.bnd
  match p, h with
  | .ok (v, r), ⟨l, hl, e⟩ => rw [e]; exact hg v r l rfl hl
  | .error e, h => exact h
theorem lt_in {c : Nat} (h : 97 ≤ c ∧ c ≤ 102) : lt c = (c : Int) - 97 := if_pos h
theorem lt_out {c : Nat} (h : ¬ (97 ≤ c ∧ c ≤ 102)) : lt c = -1 := if_neg h
theorem lt_iff {c : Nat} {last : Int} (hl : -1 ≤ last) : last < lt c ↔ (97 + (last + 1) ≤ (c : Int) ∧ c ≤ 102) := by
  by_cases h : 97 ≤ c ∧ c ≤ 102
  · rw [lt_in h]; omega
  · rw [lt_out h]; omega
theorem fi_m {b : Bool} {S : List Tok} : ∀ (r : List Nat) (last : Int), 0 ≤ last → Fi S (bnd (pMore last r) fun _ r => pSs [endc b] r) (run r (.m b :: S) last)
  | [], last, _ => rfl
  | x :: r, last, hl => by
    have out : ∀ r', x ≠ 32 ∨ 5 ≤ last → Fi S (pSs [endc b] (x :: r')) (run (x :: r') (.m b :: S) last) := fun r' h => by
      unfold pSs pSs
      show Fi S (Par.bnd (if x ∈ [endc b] then .ok (x, r') else .error (x :: r')) _) _
      by_cases q : x = endc b
      · rw [if_pos (List.mem_singleton.mpr q)]
        refine ⟨last, trivial, ?_⟩
        rw [run_yes (more := []) ?_]; rfl
        show (if x = 32 ∧ last < 5 then _ else if x = endc b then _ else _) = _
        rw [if_neg (by omega), if_pos q]
      · rw [if_neg (fun z => q (List.mem_singleton.mp z))]
        refine run_no ?_
        show (if x = 32 ∧ last < 5 then _ else if x = endc b then _ else _) = _
        rw [if_neg (by omega), if_neg q]
    by_cases hx : x = 32
    · subst hx
      by_cases h5 : last < 5
      · have go : run (32 :: r) (.m b :: S) last = run r (.n b :: S) last := by
          rw [run_yes (more := [.n b]) (by show (if 32 = 32 ∧ last < 5 then _ else _) = _; rw [if_pos ⟨rfl, h5⟩])]; rfl
        rw [go]
        cases r with
        | nil =>
          show Fi S (Par.bnd (if last < 5 then .error [] else .ok ([], [32])) _) _
          rw [if_pos h5]; rfl
        | cons c r =>
          rw [pMore_two, if_pos h5]
          by_cases h : 97 + (last + 1) ≤ (c : Int) ∧ c ≤ 102
          · rw [if_pos h]
            have hc : lt c = (c : Int) - 97 := lt_in (by omega)
            have go2 : run (c :: r) (.n b :: S) last = run r (.m b :: S) ((c : Int) - 97) := by
              rw [run_yes (more := [.m b]) (by show (if last < lt c then _ else _) = _; rw [if_pos ((lt_iff (by omega)).mpr h)])]
              show run r (.m b :: S) (if c = 41 then last else lt c) = _
              rw [if_neg (by omega), hc]
            rw [go2]
            have ih := fi_m (b := b) (S := S) r ((c : Int) - 97) (by omega)
            match hp : pMore ((c : Int) - 97) r, ih with
            | .ok (ns, r2), ih => exact ih
            | .error e, ih => exact ih
          · rw [if_neg h]
            exact run_no (by show (if last < lt c then _ else _) = _; rw [if_neg (fun z => h ((lt_iff (by omega)).mp z))])
      · have : pMore last (32 :: r) = .ok ([], 32 :: r) := by
          cases r with
          | nil => show (if last < 5 then _ else _) = _; rw [if_neg h5]
          | cons c r => rw [pMore_two, if_neg h5]
        rw [this]
        exact out r (.inr (by omega))
    · rw [pMore_ne hx]
      exact out r (.inl hx)
theorem fi_n {b : Bool} {S : List Tok} (r : List Nat) : Fi S (bnd (pNs r) fun _ r => pSs [endc b] r) (run r (.n b :: S) (-1)) := by
  cases r with
  | nil => rfl
  | cons c r =>
    unfold pNs
    show Fi S (Par.bnd (Par.bnd (if 97 + 0 ≤ (c : Int) ∧ c ≤ 102 then .ok ((c : Int) - 97, r) else .error (c :: r)) _) _) _
    by_cases h : 97 + 0 ≤ (c : Int) ∧ c ≤ 102
    · rw [if_pos h]
      have hc : lt c = (c : Int) - 97 := lt_in (by omega)
      have go2 : run (c :: r) (.n b :: S) (-1) = run r (.m b :: S) ((c : Int) - 97) := by
        rw [run_yes (more := [.m b]) (by show (if -1 < lt c then _ else _) = _; rw [if_pos (by omega)])]
        show run r (.m b :: S) (if c = 41 then -1 else lt c) = _
        rw [if_neg (by omega), hc]
      rw [go2]
      have ih := fi_m (b := b) (S := S) r ((c : Int) - 97) (by omega)
      match hp : pMore ((c : Int) - 97) r, ih with
      | .ok (ns, r2), ih => exact (show Fi S (Par.bnd (Par.bnd (pMore ((c : Int) - 97) r) _) _) _ from by rw [hp]; exact ih)
      | .error e, ih => exact (show Fi S (Par.bnd (Par.bnd (pMore ((c : Int) - 97) r) _) _) _ from by rw [hp]; exact ih)
    · rw [if_neg h]
      exact run_no (by show (if -1 < lt c then _ else _) = _; rw [if_neg (fun z => h (by have := (lt_iff (last := -1) (c := c) (by omega)).mp z; omega))])
def FiL {α : Type} (S : List Tok) (l : Int) (p : Rs α) (o : Option (List Nat)) : Prop := match p with
  | .ok (_, r) => o = run r S l
  | .error e => o = some e
theorem FiL.bnd {α β : Type} {S' S : List Tok} {l : Int} {p : Rs α} {g : α → List Nat → Rs β} {o : Option (List Nat)} (h : FiL S' l p o) (hg : ∀ v r, p = .ok (v, r) → Fi S (g v r) (run r S' l)) : Fi S (bnd p g) o := by
  unfold Par.bnd
  match p, h with
  | .ok (v, r), e => rw [e]; exact hg v r rfl
  | .error e, h => exact h
theorem fl_S {cs : List Nat} {t : Tok} {S : List Tok} {last : Int} (hs : ∀ c, ask t c last = if c ∈ cs then some [] else none) (hn : ∀ c, nl t c last = last) : ∀ r, FiL S last (pS cs r) (run r (t :: S) last)
  | [] => rfl
  | c :: r => by
    show FiL S last (if c ∈ cs then .ok (c, r) else .error (c :: r)) _
    by_cases h : c ∈ cs
    · rw [if_pos h]
      show run (c :: r) (t :: S) last = run r S last
      rw [run_yes ((hs c).trans (if_pos h)), hn]; rfl
    · rw [if_neg h]
      exact run_no ((hs c).trans (if_neg h))
theorem fl_L {z : Nat} {S : List Tok} {last : Int} (r : List Nat) : FiL S last (pS [z] r) (run r (.L z :: S) last) :=
  fl_S (fun c => by
    show (if c = z then some [] else none) = _
    simp only [List.mem_singleton]) (fun _ => rfl) r
theorem fl_O {S : List Tok} {last : Int} (r : List Nat) : FiL S last (pS [42, 47] r) (run r (.O :: S) last) :=
  fl_S (fun c => by
    show (if c = 42 ∨ c = 47 then some [] else none) = _
    simp only [List.mem_cons, List.not_mem_nil, or_false]) (fun _ => rfl) r
theorem fl_Ls {S : List Tok} {last : Int} : ∀ (zs : List Nat) r, FiL S last (pSs zs r) (run r (zs.map Tok.L ++ S) last)
  | [], r => rfl
  | z :: zs, r => by
    unfold pSs
    have h := fl_L (z := z) (S := zs.map Tok.L ++ S) (last := last) r
    have ih := fl_Ls (S := S) (last := last) zs
    unfold Par.bnd
    match hp : pS [z] r, h with
    | .ok (v, r1), e => show FiL S last (pSs zs r1) (run r (.L z :: (zs.map Tok.L ++ S)) last); rw [show run r (.L z :: (zs.map Tok.L ++ S)) last = run r1 (zs.map Tok.L ++ S) last from e]; exact ih r1
    | .error e, h => exact h
theorem bnd_bnd {α β γ : Type} (p : Rs α) (f : α → List Nat → Rs β) (g : β → List Nat → Rs γ) : bnd (bnd p f) g = bnd p fun v r => bnd (f v r) g := by
  unfold bnd
  cases p with
  | error e => rfl
  | ok x => rfl
theorem ss_two (y z : Nat) (r : List Nat) : pSs [y, z] r = bnd (pSs [y] r) fun _ r => pSs [z] r := by
  unfold pSs pSs
  rw [bnd_bnd]
  rfl
theorem fi_names {β : Type} {b : Bool} {S S' : List Tok} {t : Tok} {r : List Nat} {p : Rs (List Int)} {g : List Int → List Nat → Rs β} (h : Fi S' (bnd p fun _ r => pSs [endc b] r) (run r (t :: S') (-1)))
    (hg : ∀ ns r1 r2 l, p = .ok (ns, r1) → pSs [endc b] r1 = .ok ((), r2) → Fi S (g ns r2) (run r2 S' l)) :
    Fi S (bnd p fun ns r => bnd (pSs [endc b] r) fun _ r => g ns r) (run r (t :: S') (-1)) := by
  match p, h with
  | .error e, h => exact h
  | .ok (ns, r1), h =>
    show Fi S (Par.bnd (pSs [endc b] r1) fun _ r => g ns r) _
    have h' : Fi S' (pSs [endc b] r1) (run r (t :: S') (-1)) := h
    match hp : pSs [endc b] r1, h' with
    | .ok ((), r2), ⟨l, _, e⟩ => rw [e]; exact hg ns r1 r2 l rfl hp
    | .error e, h => exact h
theorem fi_Q {S : List Tok} (r : List Nat) : Fi S (bnd (pQ r) fun _ r => pSs [endc true] r) (run r (.Q :: S) (-1)) := by
  cases r with
  | nil => rfl
  | cons c r =>
    by_cases h : c = 41
    · subst h
      refine ⟨-1, trivial, ?_⟩
      rw [run_yes (more := []) rfl]; rfl
    · have e1 : pQ (c :: r) = pNs (c :: r) := if_neg (fun z => h (Option.some.inj z))
      have e2 : run (c :: r) (.Q :: S) (-1) = run (c :: r) (.n true :: S) (-1) := by
        have ea : ask .Q c (-1) = ask (.n true) c (-1) := by
          show (if -1 < lt c then some [Tok.m true] else if c = 41 then some [] else none) = if -1 < lt c then some [Tok.m true] else none
          rw [if_neg h]
        show (match ask .Q c (-1) with | none => some (c :: r) | some more => run r (more ++ S) (nl .Q c (-1))) = _
        rw [ea]; rfl
      rw [e1, e2]
      exact fi_n (c :: r)
def cno (r : List Nat) : Nat := r.countP fun c => c == 40 || c == 115
theorem cno_app (a b : List Nat) : cno (a ++ b) = cno a + cno b := List.countP_append
theorem cno_cons (c : Nat) (r : List Nat) : cno (c :: r) = cno r + if (c == 40 || c == 115) = true then 1 else 0 := List.countP_cons
theorem cno_le {α : Type} {tx : α → List Nat} {good : α → Prop} {r r' : List Nat} {v : α} {p : Rs α} (h : Lf tx good r p) (e : p = .ok (v, r')) : cno r' ≤ cno r := by
  subst e
  obtain ⟨e, _⟩ := h
  rw [e, cno_app]; omega
theorem fi_F : ∀ (n : Nat) (r : List Nat) (last : Int) (S : List Tok), cno r < n → Fi S (pF n r) (run r (.F :: S) last)
  | 0, r, last, S, h => absurd h (Nat.not_lt_zero _)
  | n + 1, [], last, S, h => rfl
  | n + 1, c :: r, last, S, h => by
    unfold pF
    show Fi S (Par.bnd (if c ∈ [49, 80, 115, 40] then .ok (c, r) else .error (c :: r)) _) _
    by_cases hc : c ∈ [49, 80, 115, 40]
    · rw [if_pos hc]
      show Fi S (if c = 49 then .ok (F.one, r) else if c = 80 then pSeen r else if c = 115 then pSum (pF n) r else pJoin (pF n) r) _
      by_cases h1 : c = 49
      · rw [if_pos h1]; subst h1; exact ⟨-1, trivial, rfl⟩
      rw [if_neg h1]
      by_cases h2 : c = 80
      · rw [if_pos h2]; subst h2
        show Fi S (pSeen r) (run r ([.L 40] ++ .Q :: S) (-1))
        unfold pSeen
        refine (fl_Ls [40] r).bnd fun _ r1 _ => ?_
        exact fi_names (b := true) (fi_Q r1) fun ns r2 r3 l _ _ => ⟨l, trivial, rfl⟩
      rw [if_neg h2]
      by_cases h3 : c = 115
      · rw [if_pos h3]; subst h3
        rw [cno_cons, if_pos (by decide)] at h
        show Fi S (pSum (pF n) r) (run r ([.L 117, .L 109, .L 40] ++ .n false :: .L 32 :: .F :: .L 41 :: S) (-1))
        unfold pSum
        refine (fl_Ls [117, 109, 40] r).bnd fun _ r1 h1 => ?_
        have c1 := cno_le (lf_Ss _ r) h1
        simp only [ss_two, bnd_bnd]
        refine fi_names (b := false) (fi_n r1) fun ns r2 r3 l h2 h3 => ?_
        have c2 := cno_le (lf_Ns r1) h2
        have c3 := cno_le (lf_Ss _ r2) h3
        refine (fl_Ls [32] r3).bnd fun _ r4 h4 => ?_
        have c4 := cno_le (lf_Ss _ r3) h4
        refine (fi_F n r4 l (.L 41 :: S) (by omega)).bnd fun f r5 l5 h5 _ => ?_
        exact (fl_Ls [41] r5).bnd fun _ r6 _ => ⟨l5, trivial, rfl⟩
      rw [if_neg h3]
      have h4 : c = 40 := by simp at hc; omega
      subst h4
      rw [cno_cons, if_pos (by decide)] at h
      show Fi S (pJoin (pF n) r) (run r (.F :: .L 32 :: .O :: .L 32 :: .F :: .L 41 :: S) (-1))
      unfold pJoin
      refine (fi_F n r (-1) _ (by omega)).bnd fun a r1 l1 h1 _ => ?_
      have c1 := cno_le (lf_F n r) h1
      refine (fl_Ls [32] r1).bnd fun _ r2 h2 => ?_
      have c2 := cno_le (lf_Ss _ r1) h2
      refine (fl_O r2).bnd fun c r3 h3 => ?_
      have c3 := cno_le (lf_S _ r2) h3
      refine (fl_Ls [32] r3).bnd fun _ r4 h4 => ?_
      have c4 := cno_le (lf_Ss _ r3) h4
      refine (fi_F n r4 l1 (.L 41 :: S) (by omega)).bnd fun f r5 l5 h5 _ => ?_
      exact (fl_Ls [41] r5).bnd fun _ r6 _ => ⟨l5, trivial, rfl⟩
    · rw [if_neg hc]
      refine run_no ?_
      simp at hc
      show (if c = 49 then _ else if c = 80 then _ else if c = 115 then _ else if c = 40 then _ else _) = _
      rw [if_neg hc.1, if_neg hc.2.1, if_neg hc.2.2.1, if_neg hc.2.2.2]
theorem place_eq {n : Nat} {L : List Nat} (h : cno L < n) : run L [.F] (-1) = match pF n L with
    | .ok (_, []) => none
    | .ok (_, c :: r) => some (c :: r)
    | .error e => some e := by
  have q := fi_F n L (-1) [] h
  match hp : pF n L, q with
  | .ok (f, r), ⟨l, _, e⟩ =>
    rw [e]
    cases r <;> rfl
  | .error e, q => exact q
end Par


namespace My
abbrev ab (x : Int) : Int := if x < 0 then -x else x
end My


set_option linter.all false
namespace My
open U
def BN (n : Nat) (i : Int) : Prop := i.natAbs < 2 ^ n
theorem BN.fit {n : Nat} {i : Int} (h : BN n i) (hn : n ≤ 9000) : Fit i := by
  unfold Fit
  unfold BN at h
  rcases Nat.eq_zero_or_pos i.natAbs with h0 | hp
  · rw [h0, Nat.log2_zero]; omega
  · have := (Nat.log2_lt (Nat.ne_of_gt hp)).mpr h
    omega
def num (c : Int) : Int := if c.fmod 4 = 0 then (c.fdiv 4 * 982451653).fmod (2 * 10 ^ 60 - 1) - 10 ^ 60 + 1 else if c.fmod 4 = 1 then (c.fdiv 4).fmod 2001 - 1000 else (c.fdiv 4).fmod 25 - 12
end My


namespace My
theorem nodup_le : ∀ (m : Nat) (f : List Int), f.Nodup → (∀ x ∈ f, 0 ≤ x ∧ x < (m : Int)) → f.length ≤ m
  | 0, f, _, h => by
    cases f with
    | nil => exact Nat.le_refl _
    | cons x f => have := h x List.mem_cons_self; omega
  | m + 1, f, hn, h => by
    have q := nodup_le m (f.erase (m : Int)) (hn.erase _) (fun x hx => by
      have hx' := List.mem_of_mem_erase hx
      have := h x hx'
      have ne : x ≠ (m : Int) := (List.Nodup.mem_erase_iff hn).mp hx |>.1
      omega)
    by_cases hm : (m : Int) ∈ f
    · rw [List.length_erase_of_mem hm] at q; omega
    · rw [List.erase_of_not_mem hm] at q; omega
end My


set_option linter.all false
set_option maxRecDepth 100000
set_option maxHeartbeats 4000000
namespace Lw
open PySem L2 U PyProof.Rows
open Par (F Nm Ok dp ltr lets txt Rs bnd pS pSs pNf pMore pNs pQ pSeen pSum pJoin pF cno)
theorem atI2_0 {x y : PV} : atI [x, y] 0 = some x := rfl
theorem atI2_1 {x y : PV} : atI [x, y] 1 = some y := rfl
theorem boot_bool : bootBuiltins "bool" = some (.type "bool") := by decide +kernel
def top (i : Nat) : Stmt := PySem.Challenge.pw_doingbook_k84_where_a_formulas_text_fail.main.body.getD i (.Pass ⟨0, 0, 0, 0⟩)
abbrev s_NoText_init : Stmt := inClass (top 21) 0
theorem sc_NoText_init : FnScope ["self", "at"] ["self", "at"] (defScope s_NoText_init) := ⟨rfl, rfl, rfl, by decide +kernel, rfl, by decide +kernel, by decide +kernel⟩
abbrev s_Reader_init : Stmt := inClass (top 24) 0
theorem sc_Reader_init : FnScope ["self", "signs"] ["self", "signs"] (defScope s_Reader_init) := ⟨rfl, rfl, rfl, by decide +kernel, rfl, by decide +kernel, by decide +kernel⟩
abbrev s_Reader_sign : Stmt := inClass (top 24) 1
theorem sc_Reader_sign : FnScope ["self"] ["self"] (defScope s_Reader_sign) := ⟨rfl, rfl, rfl, by decide +kernel, rfl, by decide +kernel, by decide +kernel⟩
abbrev s_Reader_step : Stmt := inClass (top 24) 2
theorem sc_Reader_step : FnScope ["self", "choices", "sign"] ["self", "choices"] (defScope s_Reader_step) := ⟨rfl, rfl, rfl, by decide +kernel, rfl, by decide +kernel, by decide +kernel⟩
abbrev s_Reader_steps : Stmt := inClass (top 24) 3
theorem sc_Reader_steps : FnScope ["self", "signs", "sign"] ["self", "signs"] (defScope s_Reader_steps) := ⟨rfl, rfl, rfl, by decide +kernel, rfl, by decide +kernel, by decide +kernel⟩
abbrev s_Reader_name_from : Stmt := inClass (top 24) 4
theorem sc_Reader_name_from : FnScope ["self", "least"] ["self", "least"] (defScope s_Reader_name_from) := ⟨rfl, rfl, rfl, by decide +kernel, rfl, by decide +kernel, by decide +kernel⟩
abbrev s_Reader_names : Stmt := inClass (top 24) 5
theorem sc_Reader_names : FnScope ["self", "told"] ["self"] (defScope s_Reader_names) := ⟨rfl, rfl, rfl, by decide +kernel, rfl, by decide +kernel, by decide +kernel⟩
abbrev s_Reader_seen : Stmt := inClass (top 24) 6
theorem sc_Reader_seen : FnScope ["self", "names"] ["self"] (defScope s_Reader_seen) := ⟨rfl, rfl, rfl, by decide +kernel, rfl, by decide +kernel, by decide +kernel⟩
abbrev s_Reader_summed : Stmt := inClass (top 24) 7
theorem sc_Reader_summed : FnScope ["self", "names", "inner"] ["self"] (defScope s_Reader_summed) := ⟨rfl, rfl, rfl, by decide +kernel, rfl, by decide +kernel, by decide +kernel⟩
abbrev s_Reader_joined : Stmt := inClass (top 24) 8
theorem sc_Reader_joined : FnScope ["self", "first", "word", "second"] ["self"] (defScope s_Reader_joined) := ⟨rfl, rfl, rfl, by decide +kernel, rfl, by decide +kernel, by decide +kernel⟩
abbrev s_Reader_formula : Stmt := inClass (top 24) 9
theorem sc_Reader_formula : FnScope ["self", "sign"] ["self"] (defScope s_Reader_formula) := ⟨rfl, rfl, rfl, by decide +kernel, rfl, by decide +kernel, by decide +kernel⟩
abbrev s_formula_read : Stmt := top 25
theorem sc_formula_read : FnScope ["text", "reader", "told"] ["text"] (defScope s_formula_read) := ⟨rfl, rfl, rfl, by decide +kernel, rfl, by decide +kernel, by decide +kernel⟩
abbrev s_law_cell_at : Stmt := top 27
theorem sc_law_cell_at : FnScope ["_law_script", "_law_k"] ["_law_script", "_law_k"] (defScope s_law_cell_at) := ⟨rfl, rfl, rfl, by decide +kernel, rfl, by decide +kernel, by decide +kernel⟩
abbrev s_law_whole : Stmt := top 28
theorem sc_law_whole : FnScope ["_law_found"] ["_law_found"] (defScope s_law_whole) := ⟨rfl, rfl, rfl, by decide +kernel, rfl, by decide +kernel, by decide +kernel⟩
abbrev s_law_mixed : Stmt := top 29
theorem sc_law_mixed : FnScope ["_law_cell", "_law_many", "_law_found", "_law_number", "_law_k"] ["_law_cell", "_law_many"] (defScope s_law_mixed) := ⟨rfl, rfl, rfl, by decide +kernel, rfl, by decide +kernel, by decide +kernel⟩
abbrev s_law_names : Stmt := top 30
theorem sc_law_names : FnScope ["_law_number", "_law_least", "_law_found"] ["_law_number", "_law_least"] (defScope s_law_names) := ⟨rfl, rfl, rfl, by decide +kernel, rfl, by decide +kernel, by decide +kernel⟩
abbrev s_law_formula : Stmt := top 31
theorem sc_law_formula : FnScope ["_law_script", "_law_at", "_law_many", "_law_pile", "_law_k", "_law_cell", "_law_xs", "_law_other"] ["_law_script", "_law_at", "_law_many"] (defScope s_law_formula) := ⟨rfl, rfl, rfl, by decide +kernel, rfl, by decide +kernel, by decide +kernel⟩
abbrev s_law_formula_text : Stmt := top 32
theorem sc_law_formula_text : FnScope ["_law_formula_here", "_law_word", "_law_some", "_law_sign"] ["_law_formula_here"] (defScope s_law_formula_text) := ⟨rfl, rfl, rfl, by decide +kernel, rfl, by decide +kernel, by decide +kernel⟩
abbrev s_law_kinds : Stmt := top 33
theorem sc_law_kinds : FnScope ["_law_e", "_law_found", "_law_told_here", "_law_name", "_law_truth"] ["_law_e"] (defScope s_law_kinds) := ⟨rfl, rfl, rfl, by decide +kernel, rfl, by decide +kernel, by decide +kernel⟩
abbrev s_law_bent : Stmt := top 34
theorem sc_law_bent : FnScope ["_law_text", "_law_cell", "_law_more", "_law_signs", "_law_sign", "_law_at"] ["_law_text", "_law_cell", "_law_more"] (defScope s_law_bent) := ⟨rfl, rfl, rfl, by decide +kernel, rfl, by decide +kernel, by decide +kernel⟩
abbrev s_law_asked_for : Stmt := top 35
theorem sc_law_asked_for : FnScope ["_law_token", "_law_sign", "_law_last", "_law_letter"] ["_law_token", "_law_sign", "_law_last"] (defScope s_law_asked_for) := ⟨rfl, rfl, rfl, by decide +kernel, rfl, by decide +kernel, by decide +kernel⟩
abbrev s_law_place : Stmt := top 36
theorem sc_law_place : FnScope ["_law_text", "_law_waiting", "_law_last", "_law_at", "_law_token", "_law_sign", "_law_more"] ["_law_text"] (defScope s_law_place) := ⟨rfl, rfl, rfl, by decide +kernel, rfl, by decide +kernel, by decide +kernel⟩
abbrev s_law_told : Stmt := top 37
theorem sc_law_told : FnScope ["_law_text", "_law_caught", "_law_told_here", "_law_e"] ["_law_text"] (defScope s_law_told) := ⟨rfl, rfl, rfl, by decide +kernel, rfl, by decide +kernel, by decide +kernel⟩
abbrev s_law : Stmt := top 38
theorem sc_law : FnScope ["_law_script", "_law_many", "_law_text", "_law_last", "_law_cell", "_law_bent_here", "_law_place_here", "_law_told_here", "_law_caught"] ["_law_script"] (defScope s_law) := ⟨rfl, rfl, rfl, by decide +kernel, rfl, by decide +kernel, by decide +kernel⟩
set_option genInjectivity false
structure Ad where
  a_NoText_init : Addr
  d_NoText_init : FuncData
  a_Reader_init : Addr
  d_Reader_init : FuncData
  a_Reader_sign : Addr
  d_Reader_sign : FuncData
  a_Reader_step : Addr
  d_Reader_step : FuncData
  a_Reader_steps : Addr
  d_Reader_steps : FuncData
  a_Reader_name_from : Addr
  d_Reader_name_from : FuncData
  a_Reader_names : Addr
  d_Reader_names : FuncData
  a_Reader_seen : Addr
  d_Reader_seen : FuncData
  a_Reader_summed : Addr
  d_Reader_summed : FuncData
  a_Reader_joined : Addr
  d_Reader_joined : FuncData
  a_Reader_formula : Addr
  d_Reader_formula : FuncData
  a_formula_read : Addr
  d_formula_read : FuncData
  a_law_cell_at : Addr
  d_law_cell_at : FuncData
  a_law_whole : Addr
  d_law_whole : FuncData
  a_law_mixed : Addr
  d_law_mixed : FuncData
  a_law_names : Addr
  d_law_names : FuncData
  a_law_formula : Addr
  d_law_formula : FuncData
  a_law_formula_text : Addr
  d_law_formula_text : FuncData
  a_law_kinds : Addr
  d_law_kinds : FuncData
  a_law_bent : Addr
  d_law_bent : FuncData
  a_law_asked_for : Addr
  d_law_asked_for : FuncData
  a_law_place : Addr
  d_law_place : FuncData
  a_law_told : Addr
  d_law_told : FuncData
  a_law : Addr
  d_law : FuncData
  a_BadPaper : Addr
  a_BadStep : Addr
  a_DoingError : Addr
  a_NoAnswer : Addr
  a_NoBow : Addr
  a_NoCount : Addr
  a_NoDoor : Addr
  a_NoFormula : Addr
  a_NoFraction : Addr
  a_NoName : Addr
  a_NoNest : Addr
  a_NoQuestion : Addr
  a_NoRoad : Addr
  a_NoRule : Addr
  a_NoSets : Addr
  a_NoShare : Addr
  a_NoText : Addr
  a_NoThinning : Addr
  a_NoTie : Addr
  a_NoValue : Addr
  a_NoWorld : Addr
  a_Reader : Addr
structure Tx (K : PySem.W.Frag) (mg : Str → Option Value) (t : Ad) : Prop where
  F_NoText_init : Fun K "__init__" "NoText.__init__" s_NoText_init t.a_NoText_init t.d_NoText_init
  B_NoText_init : Binds K t.d_NoText_init ["self", "at"] []
  F_Reader_init : Fun K "__init__" "Reader.__init__" s_Reader_init t.a_Reader_init t.d_Reader_init
  B_Reader_init : Binds K t.d_Reader_init ["self", "signs"] []
  F_Reader_sign : Fun K "sign" "Reader.sign" s_Reader_sign t.a_Reader_sign t.d_Reader_sign
  B_Reader_sign : Binds K t.d_Reader_sign ["self"] []
  m_Reader_sign : Meth K t.a_Reader "sign" t.a_Reader_sign
  F_Reader_step : Fun K "step" "Reader.step" s_Reader_step t.a_Reader_step t.d_Reader_step
  B_Reader_step : Binds K t.d_Reader_step ["self", "choices"] []
  m_Reader_step : Meth K t.a_Reader "step" t.a_Reader_step
  F_Reader_steps : Fun K "steps" "Reader.steps" s_Reader_steps t.a_Reader_steps t.d_Reader_steps
  B_Reader_steps : Binds K t.d_Reader_steps ["self", "signs"] []
  m_Reader_steps : Meth K t.a_Reader "steps" t.a_Reader_steps
  F_Reader_name_from : Fun K "name_from" "Reader.name_from" s_Reader_name_from t.a_Reader_name_from t.d_Reader_name_from
  B_Reader_name_from : Binds K t.d_Reader_name_from ["self", "least"] []
  m_Reader_name_from : Meth K t.a_Reader "name_from" t.a_Reader_name_from
  F_Reader_names : Fun K "names" "Reader.names" s_Reader_names t.a_Reader_names t.d_Reader_names
  B_Reader_names : Binds K t.d_Reader_names ["self"] []
  m_Reader_names : Meth K t.a_Reader "names" t.a_Reader_names
  F_Reader_seen : Fun K "seen" "Reader.seen" s_Reader_seen t.a_Reader_seen t.d_Reader_seen
  B_Reader_seen : Binds K t.d_Reader_seen ["self"] []
  m_Reader_seen : Meth K t.a_Reader "seen" t.a_Reader_seen
  F_Reader_summed : Fun K "summed" "Reader.summed" s_Reader_summed t.a_Reader_summed t.d_Reader_summed
  B_Reader_summed : Binds K t.d_Reader_summed ["self"] []
  m_Reader_summed : Meth K t.a_Reader "summed" t.a_Reader_summed
  F_Reader_joined : Fun K "joined" "Reader.joined" s_Reader_joined t.a_Reader_joined t.d_Reader_joined
  B_Reader_joined : Binds K t.d_Reader_joined ["self"] []
  m_Reader_joined : Meth K t.a_Reader "joined" t.a_Reader_joined
  F_Reader_formula : Fun K "formula" "Reader.formula" s_Reader_formula t.a_Reader_formula t.d_Reader_formula
  B_Reader_formula : Binds K t.d_Reader_formula ["self"] []
  m_Reader_formula : Meth K t.a_Reader "formula" t.a_Reader_formula
  F_formula_read : Fun K "formula_read" "formula_read" s_formula_read t.a_formula_read t.d_formula_read
  B_formula_read : Binds K t.d_formula_read ["text"] []
  g_formula_read : mg "formula_read" = some (.ref t.a_formula_read)
  F_law_cell_at : Fun K "_law_cell_at" "_law_cell_at" s_law_cell_at t.a_law_cell_at t.d_law_cell_at
  B_law_cell_at : Binds K t.d_law_cell_at ["_law_script", "_law_k"] []
  g_law_cell_at : mg "_law_cell_at" = some (.ref t.a_law_cell_at)
  F_law_whole : Fun K "_law_whole" "_law_whole" s_law_whole t.a_law_whole t.d_law_whole
  B_law_whole : Binds K t.d_law_whole ["_law_found"] []
  g_law_whole : mg "_law_whole" = some (.ref t.a_law_whole)
  F_law_mixed : Fun K "_law_mixed" "_law_mixed" s_law_mixed t.a_law_mixed t.d_law_mixed
  B_law_mixed : Binds K t.d_law_mixed ["_law_cell", "_law_many"] []
  g_law_mixed : mg "_law_mixed" = some (.ref t.a_law_mixed)
  F_law_names : Fun K "_law_names" "_law_names" s_law_names t.a_law_names t.d_law_names
  B_law_names : Binds K t.d_law_names ["_law_number", "_law_least"] []
  g_law_names : mg "_law_names" = some (.ref t.a_law_names)
  F_law_formula : Fun K "_law_formula" "_law_formula" s_law_formula t.a_law_formula t.d_law_formula
  B_law_formula : Binds K t.d_law_formula ["_law_script", "_law_at", "_law_many"] []
  g_law_formula : mg "_law_formula" = some (.ref t.a_law_formula)
  F_law_formula_text : Fun K "_law_formula_text" "_law_formula_text" s_law_formula_text t.a_law_formula_text t.d_law_formula_text
  B_law_formula_text : Binds K t.d_law_formula_text ["_law_formula_here"] []
  g_law_formula_text : mg "_law_formula_text" = some (.ref t.a_law_formula_text)
  F_law_kinds : Fun K "_law_kinds" "_law_kinds" s_law_kinds t.a_law_kinds t.d_law_kinds
  B_law_kinds : Binds K t.d_law_kinds ["_law_e"] []
  g_law_kinds : mg "_law_kinds" = some (.ref t.a_law_kinds)
  F_law_bent : Fun K "_law_bent" "_law_bent" s_law_bent t.a_law_bent t.d_law_bent
  B_law_bent : Binds K t.d_law_bent ["_law_text", "_law_cell", "_law_more"] []
  g_law_bent : mg "_law_bent" = some (.ref t.a_law_bent)
  F_law_asked_for : Fun K "_law_asked_for" "_law_asked_for" s_law_asked_for t.a_law_asked_for t.d_law_asked_for
  B_law_asked_for : Binds K t.d_law_asked_for ["_law_token", "_law_sign", "_law_last"] []
  g_law_asked_for : mg "_law_asked_for" = some (.ref t.a_law_asked_for)
  F_law_place : Fun K "_law_place" "_law_place" s_law_place t.a_law_place t.d_law_place
  B_law_place : Binds K t.d_law_place ["_law_text"] []
  g_law_place : mg "_law_place" = some (.ref t.a_law_place)
  F_law_told : Fun K "_law_told" "_law_told" s_law_told t.a_law_told t.d_law_told
  B_law_told : Binds K t.d_law_told ["_law_text"] []
  g_law_told : mg "_law_told" = some (.ref t.a_law_told)
  F_law : Fun K "law" "law" s_law t.a_law t.d_law
  B_law : Binds K t.d_law ["_law_script"] []
  g_law : mg "law" = some (.ref t.a_law)
  g_BadPaper : mg "BadPaper" = some (.ref t.a_BadPaper)
  g_BadStep : mg "BadStep" = some (.ref t.a_BadStep)
  g_DoingError : mg "DoingError" = some (.ref t.a_DoingError)
  g_NoAnswer : mg "NoAnswer" = some (.ref t.a_NoAnswer)
  g_NoBow : mg "NoBow" = some (.ref t.a_NoBow)
  g_NoCount : mg "NoCount" = some (.ref t.a_NoCount)
  g_NoDoor : mg "NoDoor" = some (.ref t.a_NoDoor)
  g_NoFormula : mg "NoFormula" = some (.ref t.a_NoFormula)
  g_NoFraction : mg "NoFraction" = some (.ref t.a_NoFraction)
  g_NoName : mg "NoName" = some (.ref t.a_NoName)
  g_NoNest : mg "NoNest" = some (.ref t.a_NoNest)
  g_NoQuestion : mg "NoQuestion" = some (.ref t.a_NoQuestion)
  g_NoRoad : mg "NoRoad" = some (.ref t.a_NoRoad)
  g_NoRule : mg "NoRule" = some (.ref t.a_NoRule)
  g_NoSets : mg "NoSets" = some (.ref t.a_NoSets)
  g_NoShare : mg "NoShare" = some (.ref t.a_NoShare)
  g_NoText : mg "NoText" = some (.ref t.a_NoText)
  g_NoThinning : mg "NoThinning" = some (.ref t.a_NoThinning)
  g_NoTie : mg "NoTie" = some (.ref t.a_NoTie)
  g_NoValue : mg "NoValue" = some (.ref t.a_NoValue)
  g_NoWorld : mg "NoWorld" = some (.ref t.a_NoWorld)
  g_Reader : mg "Reader" = some (.ref t.a_Reader)
  cl_Reader : Cls K t.a_Reader
  mk_Reader : Mk K t.a_Reader t.a_Reader_init
  x_DoingError : XCls K t.a_DoingError
  s_NoText : PySem.W.mroIn K t.a_NoText (.ref t.a_DoingError) = some true
  k_NoText_ValueError : PySem.W.kitOne K (.ref t.a_NoText) (.type "ValueError") = some true
  k_NoText_NoText : PySem.W.kitOne K (.ref t.a_NoText) (.ref t.a_NoText) = some true
  k_NoText_BadStep : PySem.W.kitOne K (.ref t.a_NoText) (.ref t.a_BadStep) = some false
  k_NoText_NoFormula : PySem.W.kitOne K (.ref t.a_NoText) (.ref t.a_NoFormula) = some false
  k_NoText_NoQuestion : PySem.W.kitOne K (.ref t.a_NoText) (.ref t.a_NoQuestion) = some false
  k_NoText_NoAnswer : PySem.W.kitOne K (.ref t.a_NoText) (.ref t.a_NoAnswer) = some false
  k_NoText_NoThinning : PySem.W.kitOne K (.ref t.a_NoText) (.ref t.a_NoThinning) = some false
  k_NoText_NoDoor : PySem.W.kitOne K (.ref t.a_NoText) (.ref t.a_NoDoor) = some false
  k_NoText_NoNest : PySem.W.kitOne K (.ref t.a_NoText) (.ref t.a_NoNest) = some false
  k_NoText_BadPaper : PySem.W.kitOne K (.ref t.a_NoText) (.ref t.a_BadPaper) = some false
  k_NoText_NoRule : PySem.W.kitOne K (.ref t.a_NoText) (.ref t.a_NoRule) = some false
  k_NoText_NoRoad : PySem.W.kitOne K (.ref t.a_NoText) (.ref t.a_NoRoad) = some false
  k_NoText_NoShare : PySem.W.kitOne K (.ref t.a_NoText) (.ref t.a_NoShare) = some false
  k_NoText_NoValue : PySem.W.kitOne K (.ref t.a_NoText) (.ref t.a_NoValue) = some false
  k_NoText_NoWorld : PySem.W.kitOne K (.ref t.a_NoText) (.ref t.a_NoWorld) = some false
  k_NoText_NoSets : PySem.W.kitOne K (.ref t.a_NoText) (.ref t.a_NoSets) = some false
  k_NoText_NoName : PySem.W.kitOne K (.ref t.a_NoText) (.ref t.a_NoName) = some false
  k_NoText_NoBow : PySem.W.kitOne K (.ref t.a_NoText) (.ref t.a_NoBow) = some false
  k_NoText_NoTie : PySem.W.kitOne K (.ref t.a_NoText) (.ref t.a_NoTie) = some false
  k_NoText_NoCount : PySem.W.kitOne K (.ref t.a_NoText) (.ref t.a_NoCount) = some false
  k_NoText_NoFraction : PySem.W.kitOne K (.ref t.a_NoText) (.ref t.a_NoFraction) = some false
  b_ValueError : mg "ValueError" = none
  b_bool : mg "bool" = none
  b_int : mg "int" = none
  b_isinstance : mg "isinstance" = none
  b_len : mg "len" = none
  b_list : mg "list" = none
  b_range : mg "range" = none
  b_tuple : mg "tuple" = none
  nf_Reader_place : NoAttr K t.a_Reader "place"
  nf_Reader_signs : NoAttr K t.a_Reader "signs"
  c_LETTERS : ∃ u, mg "LETTERS" = some u ∧ RelV (.str "abcdef") u
  xi_NoText : XI K t.a_NoText t.a_NoText_init
  xd_DoingError : XD K t.a_DoingError
section
variable {P : Program} {w : World} {K : PySem.W.Frag} {mg : Str → Option Value} {base : Heap} {t : Ad}
theorem _root_.Par.Nm.len {ns : List Int} (h : Nm ns) : ns.length ≤ 6 := My.nodup_le 6 ns (h.1.imp fun h => by omega) h.2
def fV : F → PV
  | .one => .tup [.str "one"]
  | .seen ns => .tup [.str "seen", .tup (ns.map PV.int)]
  | .sum ns f => .tup [.str "sum", .tup (ns.map PV.int), fV f]
  | .times a b => .tup [.str "times", fV a, fV b]
  | .over a b => .tup [.str "over", fV a, fV b]
theorem lets_len : ∀ ns : List Int, (lets ns).length ≤ 2 * ns.length
  | [] => by simp [lets]
  | [n] => by simp [lets]
  | n :: m :: r => by
    have := lets_len (m :: r)
    simp only [lets, List.length_cons] at this ⊢
    omega
theorem ofS_1 : (Str.ofString "1") = sT [49] := by decide +kernel
theorem ofS_P : (Str.ofString "P(") = sT [80, 40] := by decide +kernel
theorem ofS_cl : (Str.ofString ")") = sT [41] := by decide +kernel
theorem ofS_op : (Str.ofString "(") = sT [40] := by decide +kernel
theorem ofS_sum : (Str.ofString "sum(") = sT [115, 117, 109, 40] := by decide +kernel
theorem ofS_um : (Str.ofString "um(") = sT [117, 109, 40] := by decide +kernel
theorem ofS_co : (Str.ofString ": ") = sT [58, 32] := by decide +kernel
theorem ofS_ti : (Str.ofString " * ") = sT [32, 42, 32] := by decide +kernel
theorem ofS_ov : (Str.ofString " / ") = sT [32, 47, 32] := by decide +kernel
theorem ofS_bl : (Str.ofString " ") = sT [32] := by decide +kernel
theorem ofS_st : (Str.ofString "*") = sT [42] := by decide +kernel
theorem ofS_sl : (Str.ofString "/") = sT [47] := by decide +kernel
theorem ofS_PP : (Str.ofString "P") = sT [80] := by decide +kernel
theorem ofS_s : (Str.ofString "s") = sT [115] := by decide +kernel
theorem ofS_abc : (Str.ofString "abcdef") = sT [97, 98, 99, 100, 101, 102] := by decide +kernel
theorem sT_one (c : Nat) : (⟨#[c]⟩ : Str) = sT [c] := rfl
theorem sT_beq (a b : List Nat) : (sT a == sT b) = decide (a = b) := by
  rw [Bool.eq_iff_iff, beq_iff_eq, decide_eq_true_eq]
  constructor
  · intro h; have := congrArg (fun z : Str => z.cps.toList) h; simpa [sT] using this
  · rintro rfl; rfl
theorem line_ge {n : Nat} (h : n ≤ 100000) : n ≤ sizeLine := by rw [sizeLine_eq]; omega
theorem join_lets : ∀ ns : List Int, Txt.join (sT [32]) (ns.map fun n => sT [ltr n]) = sT (lets ns) := by
  intro ns
  show Builtin.Str.glued _ _ = _
  rw [StrLaws.glued_eq_join]
  induction ns with
  | nil => rfl
  | cons n ns ih =>
    cases ns with
    | nil => rfl
    | cons m r =>
      simp only [List.map_cons] at ih ⊢
      show sT [ltr n] ++ sT [32] ++ Str.join (sT [32]) _ = _
      rw [ih, sT_add, sT_add]
      rfl
theorem abc_at {n : Int} (h0 : 0 ≤ n) (h : n < 6) : atI (sT [97, 98, 99, 100, 101, 102]).cps.toList n = some (ltr n) := by
  rw [sT_cps]
  have : n = 0 ∨ n = 1 ∨ n = 2 ∨ n = 3 ∨ n = 4 ∨ n = 5 := by omega
  rcases this with rfl | rfl | rfl | rfl | rfl | rfl <;> rfl
theorem abc_from {n : Int} (h0 : 0 ≤ n) (h : n < 6) : Txt.slice (sT [97, 98, 99, 100, 101, 102]) (some n) none = sT ([97, 98, 99, 100, 101, 102].drop n.toNat) := by
  have : n = 0 ∨ n = 1 ∨ n = 2 ∨ n = 3 ∨ n = 4 ∨ n = 5 := by omega
  rcases this with rfl | rfl | rfl | rfl | rfl | rfl <;> decide +kernel
theorem slice_one {L : List Nat} {k c : Nat} (h : L[k]? = some c) : Txt.slice (sT L) (some (k : Int)) (some ((k : Int) + 1)) = sT [c] := by
  obtain ⟨hk, e⟩ := List.getElem?_eq_some_iff.mp h
  show StrLaws.sliceText (sT L) _ _ = _
  rw [show ((k : Int) + 1) = ((k + 1 : Nat) : Int) from rfl, StrLaws.sliceText_nat (sT L) (Nat.le_succ k) (by rw [sT_len]; omega), sT_cps]
  rw [show k + 1 - k = 1 by omega, List.drop_eq_getElem_cons hk, e]
  rfl
def RF (L : List Nat) (k : Nat) : List (Str × PV) := [("signs", tx L), ("place", .int (k : Nat))]
def sp_text (n : Nat) : Sp' := fun vs H Q _ => match vs with
  | [v] => ∃ f, v = fV f ∧ dp f < n ∧ Ok f ∧ (txt f).length ≤ 5000 ∧ Q (tx (txt f)) H
  | _ => False
theorem e_text {n : Nat} {v : PV} {H : PHp} {Q : VK'} {E : XK'} : sp_text n [v] H Q E = ∃ f, v = fV f ∧ dp f < n ∧ Ok f ∧ (txt f).length ≤ 5000 ∧ Q (tx (txt f)) H := rfl
def sp_rinit (t : Ad) : Sp' := fun vs H Q _ => match vs with
  | [.ref x, .str z] => ∃ dx L, H x = some (.ins t.a_Reader dx []) ∧ z = sT L ∧ Q .non (put H x (.ins t.a_Reader dx (RF L 0)))
  | _ => False
theorem e_rinit {x : Addr} {z : Str} {H : PHp} {Q : VK'} {E : XK'} : sp_rinit t [.ref x, .str z] H Q E = ∃ dx L, H x = some (.ins t.a_Reader dx []) ∧ z = sT L ∧ Q .non (put H x (.ins t.a_Reader dx (RF L 0))) := rfl
def sp_cell : Sp' := fun vs H Q _ => match vs with
  | [.fls l, .int k] => (0 ≤ k ∧ k < 100) ∧ ∃ ns : List Int, l = ns.map PV.int ∧ Q (.int (ns.getD k.toNat 0)) H
  | _ => False
theorem e_cell {l : List PV} {k : Int} {H : PHp} {Q : VK'} {E : XK'} : sp_cell [.fls l, .int k] H Q E = ((0 ≤ k ∧ k < 100) ∧ ∃ ns : List Int, l = ns.map PV.int ∧ Q (.int (ns.getD k.toNat 0)) H) := rfl
def sp_mixed : Sp' := fun vs H Q _ => match vs with
  | [.int c, .int m] => (0 ≤ m ∧ m ≤ 64) ∧ ∀ p (xs : List Int), H p = none → xs.length = m.toNat → Q (.ref p) (put H p (.lst (xs.map PV.int)))
  | _ => False
theorem e_mixed {c m : Int} {H : PHp} {Q : VK'} {E : XK'} : sp_mixed [.int c, .int m] H Q E = ((0 ≤ m ∧ m ≤ 64) ∧ ∀ p (xs : List Int), H p = none → xs.length = m.toNat → Q (.ref p) (put H p (.lst (xs.map PV.int)))) := rfl
def sp_lnames : Sp' := fun vs H Q _ => match vs with
  | [.int n, .int m] => (0 ≤ m ∧ m ≤ 1) ∧ ∀ L : List Int, Nm L → (m = 1 → L ≠ []) → Q (.tup (L.map PV.int)) H
  | _ => False
theorem e_lnames {n m : Int} {H : PHp} {Q : VK'} {E : XK'} : sp_lnames [.int n, .int m] H Q E = ((0 ≤ m ∧ m ≤ 1) ∧ ∀ L : List Int, Nm L → (m = 1 → L ≠ []) → Q (.tup (L.map PV.int)) H) := rfl
def iOf (y : PV) : Int := match y with | .int u => u | _ => 0
theorem sum_ones {ns : List Int} : (ns.map ((fun z : Str => z.length) ∘ fun n => sT [ltr n])).sum = ns.length := by
  induction ns with
  | nil => rfl
  | cons n ns ih => rw [List.map_cons, List.sum_cons, ih, List.length_cons]; show (sT [ltr n]).length + _ = _; rw [sT_len]; simp; omega
theorem flat_signs {cs : List Nat} : (cs.map fun c => tx [c]).all (flat 8) = true := by
  rw [List.all_eq_true]
  intro z hz
  obtain ⟨p, _, rfl⟩ := List.mem_map.mp hz
  rfl
theorem any_sign {cs : List Nat} {c : Nat} : ((cs.map fun c => tx [c]).any fun z => deq z (tx [c])) = decide (c ∈ cs) := by
  rw [Bool.eq_iff_iff, List.any_eq_true, decide_eq_true_eq]
  constructor
  · rintro ⟨z, hz, e⟩
    obtain ⟨p, hp, rfl⟩ := List.mem_map.mp hz
    have : p = c := by simpa [deq, sT_beq] using e
    rw [← this]; exact hp
  · intro h
    exact ⟨_, List.mem_map.mpr ⟨_, h, rfl⟩, by simp [deq]⟩
theorem sub_putx {A B : PHp} {x : Addr} {o : PO} (s : ∀ a u, a ≠ x → A a = some u → B a = some u) (h : B x = some o) : U.Sub (put A x o) B := fun a u e => by
  by_cases q : a = x
  · subst q; rw [put_same] at e; cases e; exact h
  · rw [put_ne q] at e; exact s a u q e
theorem fm {a b : Int} (h : 0 < b) : 0 ≤ a.fmod b ∧ a.fmod b < b := by
  rw [Int.fmod_eq_emod_of_nonneg _ (by omega)]
  exact ⟨Int.emod_nonneg _ (by omega), Int.emod_lt_of_pos _ h⟩
theorem cdvB {i j : Int} (h : j ≠ 0) (f : j.natAbs < 2 ^ 64) : CDivB i j := ⟨h, (show My.BN 64 j from f).fit (by decide)⟩
theorem fit64 {i : Int} (f : i.natAbs < 2 ^ 64) : Fit i := (show My.BN 64 i from f).fit (by decide)
theorem atI_c0 {x : PV} {l : List PV} : atI (x :: l) 0 = some x := by
  unfold atI ixN
  rw [if_pos (by omega), if_pos (by simp only [List.length_cons]; omega)]
  rfl
theorem atI3_1 {x y z : PV} : atI [x, y, z] 1 = some y := rfl
theorem atI3_2 {x y z : PV} : atI [x, y, z] 2 = some z := rfl
theorem for_atD {ok : PHp → Prop} {g : TG'} {tb : TS'} {D : Ends'} {xs : List PV} (Pv : Nat → St' → PHp → Prop) (hd : ∀ σ H, Pv xs.length σ H → ok H ∧ D.nx σ H)
    (hs : ∀ (D' : Ends') i x σ H, xs[i]? = some x → Pv i σ H → (∀ σ' H', Pv (i + 1) σ' H' → D'.nx σ' H') → ok H ∧ g x σ H fun σ2 H2 => tb D' σ2 H2)
    {σ : St'} {H : PHp} (h0 : Pv 0 σ H) : uForL ok g tb D xs σ H := for_at Pv hd (fun G i x σ H hx p k => hs _ i x σ H hx p k) h0
theorem for_rngD {ok : PHp → Prop} {g : TG'} {tb : TS'} {D : Ends'} {lo : Int} {n : Nat} (Pv : Nat → St' → PHp → Prop) (hd : ∀ σ H, Pv n σ H → ok H ∧ D.nx σ H)
    (hs : ∀ (D' : Ends') i σ H, i < n → Pv i σ H → (∀ σ' H', Pv (i + 1) σ' H' → D'.nx σ' H') → ok H ∧ g (.int (lo + (i : Nat))) σ H fun σ2 H2 => tb D' σ2 H2)
    {σ : St'} {H : PHp} (h0 : Pv 0 σ H) : uForL ok g tb D (rngL lo n) σ H := for_rng Pv hd (fun G i σ H hi p k => hs _ i σ H hi p k) h0
theorem atI_last {l : List PV} {x : PV} (h : l[l.length - 1]? = some x) : atI l (-1) = some x := by
  have hl : 0 < l.length := by
    cases l with
    | nil => cases h
    | cons a b => simp
  unfold atI ixN
  rw [if_neg (by omega), if_pos (by omega)]
  show l[((-1 : Int) + (l.length : Int)).toNat]? = some x
  rw [show ((-1 : Int) + (l.length : Int)).toNat = l.length - 1 by omega]
  exact h
def onI (q : Int → Bool) (y : PV) : Bool := match y with | .int u => q u | _ => false
theorem ints_filter {q : Int → Bool} : ∀ {l : List Int}, ((l.map PV.int).filter (onI q)).map (fun x => x) = (l.filter q).map PV.int
  | [] => rfl
  | k :: l => by
    have e : onI q (PV.int k) = q k := rfl
    have ih := ints_filter (q := q) (l := l)
    rw [List.map_id'' (fun _ => rfl)] at ih ⊢
    rw [List.map_cons, List.filter_cons, List.filter_cons, e]
    by_cases h : q k = true
    · rw [if_pos h, if_pos h, List.map_cons, ih]
    · rw [if_neg h, if_neg h, ih]
def ulN (c : Int) : List Int := (List.range c.toNat).map fun k => ((k : Nat) : Int)
theorem ul_up (c : Int) : (ulN c).Pairwise (· < ·) := by
  unfold ulN
  rw [List.pairwise_map]
  exact List.pairwise_lt_range.imp fun h => by omega
theorem mem_ulN {c x : Int} : x ∈ ulN c ↔ 0 ≤ x ∧ x < c := by
  unfold ulN
  simp only [List.mem_map, List.mem_range]
  constructor
  · rintro ⟨k, hk, rfl⟩; omega
  · intro h; exact ⟨x.toNat, by omega, by omega⟩
theorem rng_ul {c : Int} : rngL 0 c.toNat = (ulN c).map PV.int := by
  unfold rngL ulN
  rw [List.map_map]
  refine List.map_congr_left fun k _ => ?_
  show PV.int (0 + ((k : Nat) : Int)) = PV.int ((k : Nat) : Int)
  rw [Int.zero_add]
theorem ul_len {c : Int} : (ulN c).length = c.toNat := by unfold ulN; rw [List.length_map, List.length_range]
theorem let_map {ns : List Int} : ((ns.map PV.int).filter fun _ => true).map (fun y => tx [ltr (iOf y)]) = (ns.map fun n => sT [ltr n]).map PV.str := by
  rw [List.filter_eq_self.mpr (fun _ _ => rfl), List.map_map, List.map_map]; rfl
def wt (f : F) : Nat := (txt f).length + 5
def dq (f : F) : Nat := dp f + 1
def ct (f : F) : Nat := cno (txt f) + 1
structure Pile (k : Nat) (fs : List F) : Prop where
  ok : ∀ f ∈ fs, Ok f
  w : (fs.map wt).sum ≤ 24 * k
  d : (fs.map dq).sum ≤ k
  c : (fs.map ct).sum ≤ 2 * k
  ne : 0 < k → fs ≠ []
theorem Pile.nil : Pile 0 [] := ⟨fun _ h => (by cases h), by simp, by simp, by simp, fun h => (by omega)⟩
theorem Pile.push {k : Nat} {fs : List F} {f : F} (p : Pile k fs) (o : Ok f) (hd : dp f = 0) (hw : (txt f).length ≤ 18) (hc : cno (txt f) ≤ 1) : Pile (k + 1) (fs ++ [f]) := by
  refine ⟨fun g hg => ?_, ?_, ?_, ?_, fun _ => by simp⟩
  · rcases List.mem_append.mp hg with h | h
    · exact p.ok g h
    · rw [List.mem_singleton.mp h]; exact o
  · have := p.w
    rw [List.map_append, List.sum_append]
    simp only [List.map_cons, List.map_nil, List.sum_cons, List.sum_nil, wt]
    omega
  · have := p.d
    rw [List.map_append, List.sum_append]
    simp only [List.map_cons, List.map_nil, List.sum_cons, List.sum_nil, dq]
    omega
  · have := p.c
    rw [List.map_append, List.sum_append]
    simp only [List.map_cons, List.map_nil, List.sum_cons, List.sum_nil, ct]
    omega
theorem Pile.last {k : Nat} {gs : List F} {a b : F} (p : Pile k (gs ++ [a])) (o : Ok b) (hd : dp b ≤ dp a + 1) (hw : (txt b).length ≤ (txt a).length + 19) (hc : cno (txt b) ≤ cno (txt a) + 2) : Pile (k + 1) (gs ++ [b]) := by
  refine ⟨fun g hg => ?_, ?_, ?_, ?_, fun _ => by simp⟩
  · rcases List.mem_append.mp hg with h | h
    · exact p.ok g (List.mem_append_left _ h)
    · rw [List.mem_singleton.mp h]; exact o
  · have := p.w
    rw [List.map_append, List.sum_append] at this ⊢
    simp only [List.map_cons, List.map_nil, List.sum_cons, List.sum_nil, wt] at this ⊢
    omega
  · have := p.d
    rw [List.map_append, List.sum_append] at this ⊢
    simp only [List.map_cons, List.map_nil, List.sum_cons, List.sum_nil, dq] at this ⊢
    omega
  · have := p.c
    rw [List.map_append, List.sum_append] at this ⊢
    simp only [List.map_cons, List.map_nil, List.sum_cons, List.sum_nil, ct] at this ⊢
    omega
theorem Pile.two {k j : Nat} {gs : List F} {a b c : F} (p : Pile k (gs ++ [a, b])) (hj : k ≤ j) (o : Ok c) (hd : dp c ≤ max (dp a) (dp b) + 1) (hw : (txt c).length ≤ (txt a).length + (txt b).length + 5) (hc : cno (txt c) ≤ cno (txt a) + cno (txt b) + 1) : Pile j (gs ++ [c]) := by
  refine ⟨fun g hg => ?_, ?_, ?_, ?_, fun _ => by simp⟩
  · rcases List.mem_append.mp hg with h | h
    · exact p.ok g (List.mem_append_left _ h)
    · rw [List.mem_singleton.mp h]; exact o
  · have := p.w
    rw [List.map_append, List.sum_append] at this ⊢
    simp only [List.map_cons, List.map_nil, List.sum_cons, List.sum_nil, wt] at this ⊢
    omega
  · have := p.d
    rw [List.map_append, List.sum_append] at this ⊢
    simp only [List.map_cons, List.map_nil, List.sum_cons, List.sum_nil, dq] at this ⊢
    omega
  · have := p.c
    rw [List.map_append, List.sum_append] at this ⊢
    simp only [List.map_cons, List.map_nil, List.sum_cons, List.sum_nil, ct] at this ⊢
    omega
theorem one_last {fs : List F} (h : 0 < fs.length) : ∃ gs a, fs = gs ++ [a] := ⟨fs.dropLast, fs.getLast (by intro e; subst e; simp at h), (List.dropLast_concat_getLast _).symm⟩
theorem two_last {fs : List F} (h : 1 < fs.length) : ∃ gs a b, fs = gs ++ [a, b] := by
  obtain ⟨gs, b, rfl⟩ := one_last (fs := fs) (by omega)
  obtain ⟨hs, a, rfl⟩ := one_last (fs := gs) (by simp at h; omega)
  exact ⟨hs, a, b, by simp⟩
theorem ixN_last {n : Nat} : ixN (n + 1) (-1) = some n := by
  unfold ixN
  rw [if_neg (by omega), if_pos (by omega)]
  congr 1
  omega
theorem atI_fl {gs : List F} {a : F} : atI ((gs ++ [a]).map fV) (-1) = some (fV a) := atI_last (by rw [List.length_map, List.getElem?_map, List.length_append, List.length_singleton, Nat.add_sub_cancel, List.getElem?_append_right (Nat.le_refl _), Nat.sub_self]; rfl)
theorem set_fl {gs : List F} {a b : F} : ((gs ++ [a]).map fV).set gs.length (fV b) = (gs ++ [b]).map fV := by
  rw [List.map_append, List.map_append, ← List.length_map (f := fV) (as := gs), List.set_append_right _ _ (Nat.le_refl _), Nat.sub_self]
  rfl
theorem len_fl {gs : List F} {a : F} : ixN ((gs ++ [a]).map fV).length (-1) = some gs.length := by
  rw [List.length_map, List.length_append, List.length_singleton]; exact ixN_last
theorem pop_fl {gs : List F} {a b : F} : ((gs ++ [a, b]).map fV)[((gs ++ [a, b]).map fV).length - 1]? = some (fV b) ∧ ((gs ++ [a, b]).map fV).dropLast = (gs ++ [a]).map fV := by
  constructor
  · rw [List.length_map, List.getElem?_map, List.length_append]
    rw [show gs.length + [a, b].length - 1 = gs.length + 1 by simp, List.getElem?_append_right (by omega), show gs.length + 1 - gs.length = 1 by omega]
    rfl
  · rw [← List.map_dropLast]
    congr 1
    rw [List.dropLast_append_of_ne_nil (by simp)]
    rfl
theorem ix2 {d : Int} (h0 : 0 ≤ d) (h : d < 2) : (d = 0 ∧ atI [PV.str "times", PV.str "over"] d = some (.str "times")) ∨ (d = 1 ∧ atI [PV.str "times", PV.str "over"] d = some (.str "over")) := by
  have : d = 0 ∨ d = 1 := by omega
  rcases this with rfl | rfl
  · exact .inl ⟨rfl, rfl⟩
  · exact .inr ⟨rfl, rfl⟩
theorem ix_t {x y : PV} : atI [x, y] (b2n (Str.ofString "times" == Str.ofString "over")) = some x := by
  rw [show (Str.ofString "times" == Str.ofString "over") = false by decide]; rfl
theorem ix_o {x y : PV} : atI [x, y] (b2n (Str.ofString "over" == Str.ofString "over")) = some y := by
  rw [show (Str.ofString "over" == Str.ofString "over") = true by decide]; rfl
theorem Pile.len {k : Nat} {fs : List F} (p : Pile k fs) : fs.length ≤ k := by
  have key : ∀ l : List F, l.length ≤ (l.map dq).sum := fun l => by
    induction l with
    | nil => simp
    | cons a l ih => simp only [List.length_cons, List.map_cons, List.sum_cons, dq]; omega
  exact Nat.le_trans (key fs) p.d
theorem while_abs {c : TT'} {tb : TS'} {D : Ends'} {σ : St'} {H : PHp} (h : ∀ R : TS', R = tb → uWhile c R D σ H) : uWhile c tb D σ H := h tb rfl
theorem hl_pop : ∀ x H Q, uPop x [] H Q → match x with | .ref a => ∃ l, H a = some (.lst l) | _ => False := by
  intro x H Q h
  cases x with
  | ref a => obtain ⟨l, y, e, _⟩ := h; exact ⟨l, e⟩
  | _ => exact h

structure Rd (t : Ad) (H : PHp) (x dx : Addr) (L r : List Nat) : Prop where
  hx : H x = some (.ins t.a_Reader dx (RF L (L.length - r.length)))
  sf : ∃ p, L = p ++ r
  hl : L.length ≤ 5000
theorem Rd.le {t : Ad} {H : PHp} {x dx : Addr} {L r : List Nat} (h : Rd t H x dx L r) : r.length ≤ L.length := by
  obtain ⟨p, e⟩ := h.sf
  rw [e, List.length_append]; omega
theorem Rd.go {t : Ad} {H H1 : PHp} {x dx : Addr} {L r r' : List Nat} (h : Rd t H x dx L r) (hx : H1 x = some (.ins t.a_Reader dx (RF L (L.length - r'.length)))) (e : ∃ q, r = q ++ r') : Rd t H1 x dx L r' := by
  obtain ⟨p, e1⟩ := h.sf
  obtain ⟨q, e2⟩ := e
  exact ⟨hx, ⟨p ++ q, by rw [e1, e2, List.append_assoc]⟩, h.hl⟩
theorem Rd.put {t : Ad} {H : PHp} {x dx : Addr} {L r r' : List Nat} (h : Rd t H x dx L r) (e : ∃ q, r = q ++ r') : Rd t (put H x (.ins t.a_Reader dx (RF L (L.length - r'.length)))) x dx L r' := h.go put_same e
def Keep (x : Addr) (H H1 : PHp) : Prop := ∀ a u, a ≠ x → H a = some u → H1 a = some u
theorem Keep.refl (x : Addr) (H : PHp) : Keep x H H := fun _ _ _ h => h
theorem Keep.trans {x : Addr} {H H1 H2 : PHp} (a : Keep x H H1) (b : Keep x H1 H2) : Keep x H H2 := fun c u n h => b c u n (a c u n h)
theorem Keep.put {x : Addr} {H : PHp} {o : PO} : Keep x H (put H x o) := fun _ _ n h => (put_ne n).trans h
theorem Keep.new {x : Addr} {H H1 : PHp} {p : Addr} {o : PO} (k : Keep x H H1) (hp : H1 p = none) : Keep x H (U.put H1 p o) := fun c u n h => by
  have := k c u n h
  rw [put_ne (ne_none this hp)]; exact this
theorem Keep.sub {x : Addr} {H H1 : PHp} (k : Keep x H H1) (hx : H x = none) : U.Sub H H1 := fun a o h => k a o (ne_none h hx) h
theorem Keep.off {x : Addr} {H H1 : PHp} {o : PO} (k : Keep x (U.put H x o) H1) : Keep x H H1 := fun c u n h => k c u n ((put_ne n).trans h)
def Out (t : Ad) (x dx : Addr) (L : List Nat) (H : PHp) (Q : VK') (E : XK') {α : Type} (val : α → PV) (p : Rs α) : Prop := match p with
  | .ok (v, r) => Q (val v) (put H x (.ins t.a_Reader dx (RF L (L.length - r.length))))
  | .error r => ∀ H1, Keep x H H1 → E (.ref t.a_NoText) (some (L.length - r.length)) H1
theorem out_of {t : Ad} {x dx : Addr} {L : List Nat} {H : PHp} {Q : VK'} {E : XK'} {α : Type} {val : α → PV} {p : Rs α} (h : ∀ v r, p = .ok (v, r) → Q (val v) (put H x (.ins t.a_Reader dx (RF L (L.length - r.length)))))
    (he : ∀ r, p = .error r → ∀ H1, Keep x H H1 → E (.ref t.a_NoText) (some (L.length - r.length)) H1) : Out t x dx L H Q E val p := by
  cases p with
  | error r => exact he r rfl
  | ok v => exact h v.1 v.2 rfl
theorem out_bnd {t : Ad} {x dx : Addr} {L : List Nat} {H H1 : PHp} {Q Q1 : VK'} {E : XK'} {α β : Type} {va : α → PV} {vb : β → PV} {p : Rs α} {g : α → List Nat → Rs β} (h : Out t x dx L H Q E vb (bnd p g)) (k : Keep x H H1)
    (hk : ∀ v r, p = .ok (v, r) → Out t x dx L H Q E vb (g v r) → Q1 (va v) (put H1 x (.ins t.a_Reader dx (RF L (L.length - r.length))))) : Out t x dx L H1 Q1 E va p := by
  refine out_of (fun v r e => hk v r e ?_) (fun r e H2 k2 => ?_)
  · rw [Par.bnd_ok e] at h; exact h
  · rw [Par.bnd_er e] at h; exact h H2 (k.trans k2)
theorem lf_ok {α : Type} {tx : α → List Nat} {good : α → Prop} {r r' : List Nat} {v : α} {p : Rs α} (h : Par.Lf tx good r p) (e : p = .ok (v, r')) : ∃ q, r = q ++ r' := by
  subst e; exact ⟨_, h.1⟩
theorem lf_good {α : Type} {tx : α → List Nat} {good : α → Prop} {r r' : List Nat} {v : α} {p : Rs α} (h : Par.Lf tx good r p) (e : p = .ok (v, r')) : good v := by
  subst e; exact h.2
theorem clip_hi (l : Option Int) {j : Int} {n : Nat} (h : (n : Int) ≤ j) : Builtin.Str.strSliceIndices l (some j) 1 n = Builtin.Str.strSliceIndices l (some (n : Int)) 1 n := by
  have a : ¬ j < 0 := by omega
  have b : ¬ ((n : Int) < 0) := by omega
  have e : min j (n : Int) = (n : Int) := by omega
  simp [Builtin.Str.strSliceIndices, a, b, e]
theorem slice_r {L r : List Nat} (h : ∃ p, L = p ++ r) : Txt.slice (sT L) (some ((L.length - r.length : Nat) : Int)) (some (((L.length - r.length : Nat) : Int) + 1)) = sT (r.take 1) := by
  obtain ⟨p, e⟩ := h
  have hl : L.length = p.length + r.length := by rw [e, List.length_append]
  have hk : L.length - r.length = p.length := by omega
  rw [hk]
  cases r with
  | nil =>
    have e2 : Txt.slice (sT L) (some (p.length : Int)) (some ((p.length : Int) + 1)) = Txt.slice (sT L) (some (p.length : Int)) (some (p.length : Int)) := by
      show StrLaws.sliceText _ _ _ = StrLaws.sliceText _ _ _
      unfold StrLaws.sliceText
      have q := clip_hi (some (p.length : Int)) (j := (p.length : Int) + 1) (n := (sT L).length) (by rw [sT_len]; simp at hl; omega)
      have q2 : ((sT L).length : Int) = (p.length : Int) := by rw [sT_len]; simp at hl; omega
      rw [q2] at q
      rw [q]
    rw [e2]
    show StrLaws.sliceText (sT L) _ _ = _
    rw [StrLaws.sliceText_nat (sT L) (Nat.le_refl _) (by rw [sT_len]; simp at hl; omega)]
    rw [Nat.sub_self, List.take_zero]
    rfl
  | cons c r => exact slice_one (by rw [e, List.getElem?_append_right (Nat.le_refl _), Nat.sub_self]; rfl)
theorem any_tk {cs r : List Nat} : ((cs.map fun c => tx [c]).any fun z => deq z (tx (r.take 1))) = match r with | [] => false | c :: _ => decide (c ∈ cs) := by
  cases r with
  | nil =>
    rw [Bool.eq_false_iff]
    intro h
    rw [List.any_eq_true] at h
    obtain ⟨z, hz, e⟩ := h
    obtain ⟨p, hp, rfl⟩ := List.mem_map.mp hz
    simp [deq, sT_beq] at e
  | cons c r => exact any_sign
def sp_sign (t : Ad) : Sp' := fun vs H Q _ => match vs with
  | [.ref x] => ∃ dx L r, Rd t H x dx L r ∧ Q (tx (r.take 1)) H
  | _ => False
theorem e_sign {x : Addr} {H : PHp} {Q : VK'} {E : XK'} : sp_sign t [.ref x] H Q E = ∃ dx L r, Rd t H x dx L r ∧ Q (tx (r.take 1)) H := rfl
def sp_step (t : Ad) : Sp' := fun vs H Q E => match vs with
  | [.ref x, .ref c] => ∃ dx L r, ∃ cs : List Nat, Rd t H x dx L r ∧ H c = some (.lst (cs.map fun c => tx [c])) ∧ Out t x dx L H Q E (fun c => tx [c]) (pS cs r)
  | _ => False
theorem e_step {x c : Addr} {H : PHp} {Q : VK'} {E : XK'} : sp_step t [.ref x, .ref c] H Q E = ∃ dx L r, ∃ cs : List Nat, Rd t H x dx L r ∧ H c = some (.lst (cs.map fun c => tx [c])) ∧ Out t x dx L H Q E (fun c => tx [c]) (pS cs r) := rfl
def sp_steps (t : Ad) : Sp' := fun vs H Q E => match vs with
  | [.ref x, .str z] => ∃ dx L r zs, Rd t H x dx L r ∧ z = sT zs ∧ zs.all (· < 128) = true ∧ Out t x dx L H Q E (fun _ => .non) (pSs zs r)
  | _ => False
theorem e_steps {x : Addr} {z : Str} {H : PHp} {Q : VK'} {E : XK'} : sp_steps t [.ref x, .str z] H Q E = ∃ dx L r zs, Rd t H x dx L r ∧ z = sT zs ∧ zs.all (· < 128) = true ∧ Out t x dx L H Q E (fun _ => .non) (pSs zs r) := rfl
def sp_nf (t : Ad) : Sp' := fun vs H Q E => match vs with
  | [.ref x, .int m] => ∃ dx L r, Rd t H x dx L r ∧ (0 ≤ m ∧ m ≤ 5) ∧ Out t x dx L H Q E PV.int (pNf m r)
  | _ => False
theorem e_nf {x : Addr} {m : Int} {H : PHp} {Q : VK'} {E : XK'} : sp_nf t [.ref x, .int m] H Q E = ∃ dx L r, Rd t H x dx L r ∧ (0 ≤ m ∧ m ≤ 5) ∧ Out t x dx L H Q E PV.int (pNf m r) := rfl
def nsV (ns : List Int) : PV := .tup (ns.map PV.int)
def sp_ns (t : Ad) : Sp' := fun vs H Q E => match vs with
  | [.ref x] => ∃ dx L r, Rd t H x dx L r ∧ Out t x dx L H Q E nsV (pNs r)
  | _ => False
theorem e_ns {x : Addr} {H : PHp} {Q : VK'} {E : XK'} : sp_ns t [.ref x] H Q E = ∃ dx L r, Rd t H x dx L r ∧ Out t x dx L H Q E nsV (pNs r) := rfl
def sp_seen (t : Ad) : Sp' := fun vs H Q E => match vs with
  | [.ref x] => ∃ dx L r, Rd t H x dx L r ∧ Out t x dx L H Q E fV (pSeen r)
  | _ => False
theorem e_seen {x : Addr} {H : PHp} {Q : VK'} {E : XK'} : sp_seen t [.ref x] H Q E = ∃ dx L r, Rd t H x dx L r ∧ Out t x dx L H Q E fV (pSeen r) := rfl
def sp_summed (t : Ad) (n : Nat) : Sp' := fun vs H Q E => match vs with
  | [.ref x] => ∃ dx L r, Rd t H x dx L r ∧ cno r < n ∧ Out t x dx L H Q E fV (pSum (pF n) r)
  | _ => False
theorem e_summed {n : Nat} {x : Addr} {H : PHp} {Q : VK'} {E : XK'} : sp_summed t n [.ref x] H Q E = ∃ dx L r, Rd t H x dx L r ∧ cno r < n ∧ Out t x dx L H Q E fV (pSum (pF n) r) := rfl
def sp_joined (t : Ad) (n : Nat) : Sp' := fun vs H Q E => match vs with
  | [.ref x] => ∃ dx L r, Rd t H x dx L r ∧ cno r < n ∧ Out t x dx L H Q E fV (pJoin (pF n) r)
  | _ => False
theorem e_joined {n : Nat} {x : Addr} {H : PHp} {Q : VK'} {E : XK'} : sp_joined t n [.ref x] H Q E = ∃ dx L r, Rd t H x dx L r ∧ cno r < n ∧ Out t x dx L H Q E fV (pJoin (pF n) r) := rfl
def sp_formula (t : Ad) (n : Nat) : Sp' := fun vs H Q E => match vs with
  | [.ref x] => ∃ dx L r, Rd t H x dx L r ∧ cno r < n ∧ Out t x dx L H Q E fV (pF n r)
  | _ => False
theorem e_formula {n : Nat} {x : Addr} {H : PHp} {Q : VK'} {E : XK'} : sp_formula t n [.ref x] H Q E = ∃ dx L r, Rd t H x dx L r ∧ cno r < n ∧ Out t x dx L H Q E fV (pF n r) := rfl
def Rdd (t : Ad) (H : PHp) (Q : VK') (E : XK') (L : List Nat) (p : Rs F) : Prop := match p with
  | .ok (f, []) => Q (fV f) H
  | .ok (_, c :: r) => ∀ H1, U.Sub H H1 → E (.ref t.a_NoText) (some (L.length - (c :: r).length)) H1
  | .error r => ∀ H1, U.Sub H H1 → E (.ref t.a_NoText) (some (L.length - r.length)) H1
def sp_read (t : Ad) : Sp' := fun vs H Q E => match vs with
  | [.str z] => ∃ L, z = sT L ∧ L.length ≤ 5000 ∧ cno L < 81 ∧ Rdd t H Q E L (pF 81 L)
  | _ => False
theorem e_read {z : Str} {H : PHp} {Q : VK'} {E : XK'} : sp_read t [.str z] H Q E = ∃ L, z = sT L ∧ L.length ≤ 5000 ∧ cno L < 81 ∧ Rdd t H Q E L (pF 81 L) := rfl
theorem nf_eq {m : Int} (h0 : 0 ≤ m) (h5 : m ≤ 5) : ∀ r, pNf m r = bnd (pS (([97, 98, 99, 100, 101, 102] : List Nat).drop m.toNat) r) fun c r => .ok ((c : Int) - 97, r)
  | [] => rfl
  | c :: r => by
    have iff : (97 + m ≤ (c : Int) ∧ c ≤ 102) ↔ c ∈ ([97, 98, 99, 100, 101, 102] : List Nat).drop m.toNat := by
      have hm : m = 0 ∨ m = 1 ∨ m = 2 ∨ m = 3 ∨ m = 4 ∨ m = 5 := by omega
      rcases hm with rfl | rfl | rfl | rfl | rfl | rfl <;> simp <;> omega
    show (if 97 + m ≤ (c : Int) ∧ c ≤ 102 then _ else _) = bnd (if c ∈ _ then _ else _) _
    by_cases h : 97 + m ≤ (c : Int) ∧ c ≤ 102
    · rw [if_pos h, if_pos (iff.mp h)]; rfl
    · rw [if_neg h, if_neg (fun z => h (iff.mpr z))]; rfl
theorem abc_in {m : Int} {c : Nat} (h0 : 0 ≤ m) (h5 : m ≤ 5) (h : c ∈ ([97, 98, 99, 100, 101, 102] : List Nat).drop m.toNat) : Txt.find (sT [97, 98, 99, 100, 101, 102]) (sT [c]) = (c : Int) - 97 := by
  have h2 : c ∈ ([97, 98, 99, 100, 101, 102] : List Nat) := List.mem_of_mem_drop h
  simp at h2
  rcases h2 with rfl | rfl | rfl | rfl | rfl | rfl <;> decide +kernel
theorem more_eq {e : Int} (h5 : e < 5) (r : List Nat) : pMore e (32 :: r) = bnd (pNf (e + 1) r) fun v r => bnd (pMore v r) fun ns r => .ok (v :: ns, r) := by
  cases r with
  | nil => show (if e < 5 then _ else _) = _; rw [if_pos h5]; rfl
  | cons c r =>
    rw [Par.pMore_two, if_pos h5]
    show _ = bnd (if 97 + (e + 1) ≤ (c : Int) ∧ c ≤ 102 then _ else _) _
    by_cases h : 97 + (e + 1) ≤ (c : Int) ∧ c ≤ 102
    · rw [if_pos h, if_pos h]; rfl
    · rw [if_neg h, if_neg h]; rfl
theorem ss_hd {z : Nat} {r : List Nat} : pSs [z] (z :: r) = .ok ((), r) := by
  show bnd (if z ∈ [z] then _ else _) _ = _
  rw [if_pos (List.mem_singleton.mpr rfl)]; rfl
theorem find_lt (c : Nat) : Txt.find (sT [97, 98, 99, 100, 101, 102]) (sT [c]) = Par.lt c := by
  by_cases h : 97 ≤ c ∧ c ≤ 102
  · rw [Par.lt_in h]
    exact abc_in (m := 0) (by decide) (by decide) (by simp; omega)
  · rw [Par.lt_out h]
    have q := StrLaws.found_one (sT [97, 98, 99, 100, 101, 102]) c
    rw [decide_eq_false (by rw [sT_cps]; simp; omega)] at q
    show (match Builtin.Str.occurrences _ _ 0 _ 1 with | i :: _ => ((i : Nat) : Int) | [] => -1) = -1
    have e : Builtin.Str.occurrences (sT [97, 98, 99, 100, 101, 102]) (sT [c]) 0 (sT [97, 98, 99, 100, 101, 102]).length 1 = [] := by
      have := q
      rw [Bool.not_eq_false'] at this
      exact List.isEmpty_iff.mp this
    rw [e]
theorem find_no : Txt.find (sT [97, 98, 99, 100, 101, 102]) (sT []) = 0 := by decide +kernel
theorem clip_lo (u : Option Int) {j : Int} {n : Nat} (h : (n : Int) ≤ j) : Builtin.Str.strSliceIndices (some j) u 1 n = Builtin.Str.strSliceIndices (some (n : Int)) u 1 n := by
  have a : ¬ j < 0 := by omega
  have b : ¬ ((n : Int) < 0) := by omega
  have e : min j (n : Int) = (n : Int) := by omega
  simp [Builtin.Str.strSliceIndices, a, b, e]
theorem sl_to {L : List Nat} {j : Int} (h0 : 0 ≤ j) (h : j ≤ L.length) : Txt.slice (sT L) none (some j) = sT (L.take j.toNat) := by
  show StrLaws.sliceText _ _ _ = _
  rw [StrLaws.sliceText_to (by rw [sT_cps]; exact ⟨h0, h⟩), sT_cps, List.drop_zero, Int.sub_zero]
  rfl
theorem sl_from {L : List Nat} {i : Int} (h0 : 0 ≤ i) : Txt.slice (sT L) (some i) none = sT (L.drop i.toNat) := by
  have key : ∀ j : Int, 0 ≤ j → j ≤ L.length → Txt.slice (sT L) (some j) none = sT (L.drop j.toNat) := fun j j0 jl => by
    show StrLaws.sliceText _ _ _ = _
    rw [StrLaws.sliceText_from (by rw [sT_cps]; exact ⟨j0, jl⟩), sT_cps, List.take_of_length_le (by rw [List.length_drop]; omega)]
    rfl
  by_cases h : i ≤ L.length
  · exact key i h0 h
  · have e : Txt.slice (sT L) (some i) none = Txt.slice (sT L) (some (L.length : Int)) none := by
      show StrLaws.sliceText _ _ _ = StrLaws.sliceText _ _ _
      unfold StrLaws.sliceText
      have q := clip_lo none (j := i) (n := (sT L).length) (by rw [sT_len]; omega)
      have q2 : ((sT L).length : Int) = (L.length : Int) := by rw [sT_len]
      rw [q2] at q
      rw [q]
    rw [e, key _ (by omega) (Int.le_refl _), Int.toNat_natCast, List.drop_length, List.drop_of_length_le (by omega)]
theorem sl_mid {L : List Nat} {i : Int} (h0 : 0 ≤ i) (h : i ≤ L.length) : Txt.slice (sT L) (some i) (some (i + 1)) = sT ((L.drop i.toNat).take 1) := by
  have q := slice_r (L := L) (r := L.drop i.toNat) ⟨L.take i.toNat, (List.take_append_drop _ _).symm⟩
  rw [List.length_drop] at q
  rw [show L.length - (L.length - i.toNat) = i.toNat by omega, Int.toNat_of_nonneg h0] at q
  exact q
theorem cnt_take {n : Nat} {L : List Nat} : cno (L.take n) ≤ cno L := (List.take_sublist n L).countP_le
theorem cnt_drop {n : Nat} {L : List Nat} : cno (L.drop n) ≤ cno L := (List.drop_sublist n L).countP_le
theorem cnt_one {c : Nat} : cno [c] ≤ 1 := by rw [Par.cno_cons]; split <;> simp [cno]
theorem len_take {n : Nat} {L : List Nat} : (L.take n).length ≤ L.length := by rw [List.length_take]; omega
theorem len_drop {n : Nat} {L : List Nat} : (L.drop n).length ≤ L.length := by rw [List.length_drop]; omega
theorem cnt_lets : ∀ {ns : List Int}, (∀ x ∈ ns, 0 ≤ x ∧ x < 6) → cno (lets ns) = 0
  | [], _ => rfl
  | [n], h => by
    have := h n (by simp)
    show cno [ltr n] = 0
    rw [Par.cno_cons, if_neg (by unfold ltr; simp; omega)]; rfl
  | n :: m :: r, h => by
    have := h n (by simp)
    show cno (ltr n :: 32 :: lets (m :: r)) = 0
    rw [Par.cno_cons, if_neg (by unfold ltr; simp; omega), Par.cno_cons, if_neg (by decide), cnt_lets fun x hx => h x (List.mem_cons_of_mem _ hx)]
theorem ct_one : cno (txt .one) ≤ 1 := by decide
theorem ct_seen {L : List Int} (h : Nm L) : cno (txt (.seen L)) ≤ 1 := by
  have := cnt_lets h.2
  simp only [txt, Par.cno_cons, Par.cno_app, this]
  decide
theorem ct_sum {L : List Int} {a : F} (h : Nm L) : cno (txt (.sum L a)) ≤ cno (txt a) + 2 := by
  have := cnt_lets h.2
  have e : cno (txt (.sum L a)) = cno (txt a) + 2 := by
    simp only [txt, Par.cno_cons, Par.cno_app, this]
    simp [cno]
  omega
theorem ct_times {a b : F} : cno (txt (.times a b)) ≤ cno (txt a) + cno (txt b) + 1 := by
  have e : cno (txt (.times a b)) = cno (txt a) + cno (txt b) + 1 := by
    simp only [txt, Par.cno_cons, Par.cno_app]
    simp [cno]
  omega
theorem ct_over {a b : F} : cno (txt (.over a b)) ≤ cno (txt a) + cno (txt b) + 1 := by
  have e : cno (txt (.over a b)) = cno (txt a) + cno (txt b) + 1 := by
    simp only [txt, Par.cno_cons, Par.cno_app]
    simp [cno]
  omega
def sp_lformula : Sp' := fun vs H Q _ => match vs with
  | [.fls l, .int k, .int m] => k = 2 ∧ (1 ≤ m ∧ m ≤ 20) ∧ ∃ ns : List Int, l = ns.map PV.int ∧ ∀ f, Ok f → dp f < 45 → (txt f).length ≤ 480 → cno (txt f) ≤ 39 → Q (fV f) H
  | _ => False
theorem e_lformula {l : List PV} {k m : Int} {H : PHp} {Q : VK'} {E : XK'} : sp_lformula [.fls l, .int k, .int m] H Q E = (k = 2 ∧ (1 ≤ m ∧ m ≤ 20) ∧ ∃ ns : List Int, l = ns.map PV.int ∧ ∀ f, Ok f → dp f < 45 → (txt f).length ≤ 480 → cno (txt f) ≤ 39 → Q (fV f) H) := rfl
def sp_whole : Sp' := fun vs H Q _ => match vs with
  | [.int _] => Q (.bl true) H
  | _ => False
theorem e_whole {i : Int} {H : PHp} {Q : VK'} {E : XK'} : sp_whole [.int i] H Q E = Q (.bl true) H := rfl
def sp_bent : Sp' := fun vs H Q _ => match vs with
  | [.str z, .int _, .int _] => ∃ L, z = sT L ∧ L.length ≤ 480 ∧ cno L ≤ 39 ∧ ∀ M, M.length ≤ 1000 → cno M < 81 → Q (tx M) H
  | _ => False
theorem e_bent {z : Str} {c m : Int} {H : PHp} {Q : VK'} {E : XK'} : sp_bent [.str z, .int c, .int m] H Q E = ∃ L, z = sT L ∧ L.length ≤ 480 ∧ cno L ≤ 39 ∧ ∀ M, M.length ≤ 1000 → cno M < 81 → Q (tx M) H := rfl
theorem atI_ex {α : Type} {l : List α} {i : Int} (h0 : 0 ≤ i) (h : i < l.length) : ∃ c, atI l i = some c := by
  unfold atI ixN
  rw [if_pos (by omega), if_pos (by omega)]
  exact ⟨_, List.getElem?_eq_getElem (by omega)⟩
def tokS : Par.Tok → Str
  | .F => sT [70]
  | .Q => sT [81]
  | .O => sT [79]
  | .L c => sT [c]
  | .n true => sT [110, 41]
  | .n false => sT [110, 58]
  | .m true => sT [109, 41]
  | .m false => sT [109, 58]
theorem ofS_F : (Str.ofString "F") = sT [70] := by decide +kernel
theorem ofS_Q : (Str.ofString "Q") = sT [81] := by decide +kernel
theorem ofS_O : (Str.ofString "O") = sT [79] := by decide +kernel
theorem ofS_nc : (Str.ofString "n:") = sT [110, 58] := by decide +kernel
theorem ofS_np : (Str.ofString "n)") = sT [110, 41] := by decide +kernel
theorem ofS_mc : (Str.ofString "m:") = sT [109, 58] := by decide +kernel
theorem ofS_mp : (Str.ofString "m)") = sT [109, 41] := by decide +kernel
theorem ofS_n : (Str.ofString "n") = sT [110] := by decide +kernel
theorem ofS_m : (Str.ofString "m") = sT [109] := by decide +kernel
theorem ofS_u : (Str.ofString "u") = sT [117] := by decide +kernel
theorem ofS_c : (Str.ofString ":") = sT [58] := by decide +kernel
theorem ofS_e : (Str.ofString "") = sT [] := by decide +kernel
theorem ofS_E : Str.empty = sT [] := by decide +kernel
def TkOk : Par.Tok → Prop
  | .L c => c ∈ [117, 109, 40, 41, 32]
  | _ => True
theorem ask_ok {t : Par.Tok} {c : Nat} {l : Int} {more : List Par.Tok} (h : Par.ask t c l = some more) : (∀ u ∈ more, TkOk u) ∧ more.length ≤ 7 := by
  have nn : (∀ u ∈ ([] : List Par.Tok), TkOk u) ∧ ([] : List Par.Tok).length ≤ 7 := ⟨(fun _ h => by cases h), by decide⟩
  have one : ∀ u, TkOk u → (∀ v ∈ [u], TkOk v) ∧ [u].length ≤ 7 := fun u hu => ⟨fun v hv => by rw [List.mem_singleton.mp hv]; exact hu, by simp⟩
  cases t with
  | F =>
    unfold Par.ask at h
    dsimp only at h
    split at h
    · cases h; exact nn
    split at h
    · cases h; exact ⟨by simp [TkOk], by decide⟩
    split at h
    · cases h; exact ⟨by simp [TkOk], by decide⟩
    split at h
    · cases h; exact ⟨by simp [TkOk], by decide⟩
    cases h
  | Q =>
    unfold Par.ask at h
    dsimp only at h
    split at h
    · cases h; exact one _ trivial
    split at h
    · cases h; exact nn
    cases h
  | L z =>
    unfold Par.ask at h
    dsimp only at h
    split at h
    · cases h; exact nn
    cases h
  | n b =>
    unfold Par.ask at h
    dsimp only at h
    split at h
    · cases h; exact one _ trivial
    cases h
  | m b =>
    unfold Par.ask at h
    dsimp only at h
    split at h
    · cases h; exact one _ trivial
    split at h
    · cases h; exact nn
    cases h
  | O =>
    unfold Par.ask at h
    dsimp only at h
    split at h
    · cases h; exact nn
    cases h
def tkV (u : Par.Tok) : PV := .str (tokS u)
def Ask (H : PHp) (Q : VK') : Option (List Par.Tok) → Prop
  | none => Q .non H
  | some more => ∀ p, H p = none → ∀ H1, U.Sub H H1 → H1 p = some (.lst (more.reverse.map tkV)) → Q (.ref p) H1
def sp_asked : Sp' := fun vs H Q _ => match vs with
  | [.str a, .str z, .int l] => ∃ (u : Par.Tok) (r : List Nat), a = tokS u ∧ TkOk u ∧ z = sT (r.take 1) ∧ -1 ≤ l ∧ match r with
    | [] => Q .non H
    | c :: _ => Ask H Q (Par.ask u c l)
  | _ => False
theorem e_asked {a z : Str} {l : Int} {H : PHp} {Q : VK'} {E : XK'} : sp_asked [.str a, .str z, .int l] H Q E = ∃ (u : Par.Tok) (r : List Nat), a = tokS u ∧ TkOk u ∧ z = sT (r.take 1) ∧ -1 ≤ l ∧ match r with
    | [] => Q .non H
    | c :: _ => Ask H Q (Par.ask u c l) := rfl
def plV (L : List Nat) : Option (List Nat) → PV
  | none => .non
  | some r => .int ((L.length - r.length : Nat) : Int)
def sp_place : Sp' := fun vs H Q _ => match vs with
  | [.str z] => ∃ L, z = sT L ∧ L.length ≤ 5000 ∧ Q (plV L (Par.run L [.F] (-1))) H
  | _ => False
theorem e_place {z : Str} {H : PHp} {Q : VK'} {E : XK'} : sp_place [.str z] H Q E = ∃ L, z = sT L ∧ L.length ≤ 5000 ∧ Q (plV L (Par.run L [.F] (-1))) H := rfl
def Told (t : Ad) (H : PHp) (Q : VK') (L : List Nat) (p : Rs F) : Prop := match p with
  | .ok (f, []) => Q (.tup [fV f, .non]) H
  | .ok (_, c :: r) => ∀ a H1, U.Sub H H1 → H1 a = some (.excA t.a_NoText (L.length - (c :: r).length)) → Q (.tup [.non, .ref a]) H1
  | .error r => ∀ a H1, U.Sub H H1 → H1 a = some (.excA t.a_NoText (L.length - r.length)) → Q (.tup [.non, .ref a]) H1
def sp_told (t : Ad) : Sp' := fun vs H Q _ => match vs with
  | [.str z] => ∃ L, z = sT L ∧ L.length ≤ 5000 ∧ cno L < 81 ∧ Told t H Q L (pF 81 L)
  | _ => False
theorem e_told {z : Str} {H : PHp} {Q : VK'} {E : XK'} : sp_told t [.str z] H Q E = ∃ L, z = sT L ∧ L.length ≤ 5000 ∧ cno L < 81 ∧ Told t H Q L (pF 81 L) := rfl
theorem boot_ValueError : bootBuiltins "ValueError" = some (.type "ValueError") := by decide +kernel
theorem ofS_sg : (Str.ofString " abcdef()*/:1Psum") = sT [32, 97, 98, 99, 100, 101, 102, 40, 41, 42, 47, 58, 49, 80, 115, 117, 109] := by decide +kernel
theorem sg_len : 0 < (Str.ofString " !\"#$&'()*+,-./0123456789:;<=>?@ABCDEFGHIJKLMNOPQRSTUVWXYZ[\\]^_`abcdefghijklmnopqrstuvwxyz{|}~").length ∧ (Str.ofString " !\"#$&'()*+,-./0123456789:;<=>?@ABCDEFGHIJKLMNOPQRSTUVWXYZ[\\]^_`abcdefghijklmnopqrstuvwxyz{|}~").length ≤ 1000 := by decide +kernel
theorem cif_eq {b b' : Bool} {A B : Prop} (h : b = b') (k : cif b' A B) : cif b A B := by rw [h]; exact k
theorem ask_me {b : Bool} {l : Int} : Par.ask (.m b) (Par.endc b) l = some [] := by
  cases b <;> simp [Par.ask, Par.endc]
theorem exN2 {tb : TS'} {rt : VK'} {bk : St' → PHp → Prop} {σ : St'} {H1 : PHp} {m : Nat} {Pv : Nat → St' → PHp → Prop} (h : ∀ N : St' → PHp → Prop, (∀ σ' H', (∃ m', m' < m ∧ Pv m' σ' H') → N σ' H') → tb { nx := N, rt := rt, bk := bk, ct := N } σ H1) :
    ∃ N : St' → PHp → Prop, (∀ σ' H', N σ' H' → ∃ m', m' < m ∧ Pv m' σ' H') ∧ tb { nx := N, rt := rt, bk := bk, ct := N } σ H1 := ⟨fun σ' H' => ∃ m', m' < m ∧ Pv m' σ' H', fun _ _ h => h, h _ fun _ _ h => h⟩
theorem flat_tk {S : List Par.Tok} : (S.map tkV).all (flat 8) = true := by
  rw [List.all_eq_true]
  intro z hz
  obtain ⟨p, _, rfl⟩ := List.mem_map.mp hz
  rfl
theorem deqs_no {x : PV} {l : List PV} : deqs (l ++ [x]) [] = false := by cases l <;> rfl
theorem tk_F {u : Par.Tok} (h : TkOk u) : (tokS u == sT [70]) = match u with | .F => true | _ => false := by
  cases u with
  | L c =>
    show (sT [c] == sT [70]) = false
    rw [sT_beq]
    have : c = 117 ∨ c = 109 ∨ c = 40 ∨ c = 41 ∨ c = 32 := by simpa [TkOk] using h
    rcases this with rfl | rfl | rfl | rfl | rfl <;> rfl
  | n b => cases b <;> (unfold tokS; rw [sT_beq]; rfl)
  | m b => cases b <;> (unfold tokS; rw [sT_beq]; rfl)
  | F => unfold tokS; rw [sT_beq]; rfl
  | Q => unfold tokS; rw [sT_beq]; rfl
  | O => unfold tokS; rw [sT_beq]; rfl
def isQn : Par.Tok → Bool
  | .Q => true
  | .n _ => true
  | _ => false
theorem tk_Q {u : Par.Tok} (h : TkOk u) : ([PV.str (sT [81]), PV.str (sT [110, 58]), PV.str (sT [110, 41])].any fun z => deq z (PV.str (tokS u))) = isQn u := by
  cases u with
  | L c =>
    have : c = 117 ∨ c = 109 ∨ c = 40 ∨ c = 41 ∨ c = 32 := by simpa [TkOk] using h
    rcases this with rfl | rfl | rfl | rfl | rfl <;> simp [deq, sT_beq, tokS, isQn]
  | n b => cases b <;> simp [deq, sT_beq, tokS, isQn]
  | m b => cases b <;> simp [deq, sT_beq, tokS, isQn]
  | F => simp [deq, sT_beq, tokS, isQn]
  | Q => simp [deq, sT_beq, tokS, isQn]
  | O => simp [deq, sT_beq, tokS, isQn]
theorem lt_ge {c : Nat} : -1 ≤ Par.lt c := by
  by_cases h : 97 ≤ c ∧ c ≤ 102
  · rw [Par.lt_in h]; omega
  · rw [Par.lt_out h]; omega
theorem nl_ge {u : Par.Tok} {c : Nat} {l : Int} (h : -1 ≤ l) : -1 ≤ Par.nl u c l := by
  have := lt_ge (c := c)
  cases u <;> simp only [Par.nl] <;> (try split) <;> omega
theorem cut_map {α : Type} (f : α → PV) (l : List α) (lo hi : Option Int) : ∃ m : List α, cutP (l.map f) lo hi = m.map f ∧ m.length ≤ l.length ∧ ∀ x ∈ m, x ∈ l := by
  refine ⟨(l.drop (HT.sIx (l.map f).length 0 lo)).take (HT.sIx (l.map f).length (l.map f).length hi - HT.sIx (l.map f).length 0 lo), ?_, ?_, fun x hx => List.mem_of_mem_drop (List.mem_of_mem_take hx)⟩
  · unfold cutP; rw [List.map_take, List.map_drop]
  · rw [List.length_take, List.length_drop]; omega
theorem ask_L {z : Nat} {l : Int} : Par.ask (.L z) z l = some [] := by simp [Par.ask]
def sp_kinds (t : Ad) : Sp' := fun vs H Q _ => match vs with
  | [.ref a] => ∃ n, H a = some (.excA t.a_NoText n) ∧ ∀ r, H r = none → Q (.ref r) (put H r (.lst [.str "NoText"]))
  | _ => False
theorem e_kinds {a : Addr} {H : PHp} {Q : VK'} {E : XK'} : sp_kinds t [.ref a] H Q E = ∃ n, H a = some (.excA t.a_NoText n) ∧ ∀ r, H r = none → Q (.ref r) (put H r (.lst [.str "NoText"])) := rfl

end
section
variable {P : Program} {w : World} {K : PySem.W.Frag} {mg : Str → Option Value} {base : Heap} {t : Ad}
local macro_rules | `(tactic| walk_at "rd") => `(tactic| simp only [uRet, uRetN, uOp, uI, uI0, uIx, uVar, uC, uSeq, uAsg, vName, uIfS, uNext, uDrop, uTest, uChain, uAnd, uOr, uNot, uAndV, uOrV, uNotV, uIf, uUn, uNil, uCons, uTup, uLst, uCB, uLen, uAbs, uInt, uList, uTuple, uSlice, uNoPart, uPart,
  uCall, uComp, uYes, w_al, w_et, uShr, uBand, uCat, w_ca, w_aS, w_iS, w_lS, w_LS, w_iT, uBMS, w_fd, w_jn, uSliceS, w_sS, uStrI, w_tS, vSub, w_sI, uFld, w_fl, uStFld, w_sf, uMeth, w_ii, uMake, atI_c0, atI3_1, atI3_2, ofS_1, ofS_P, ofS_cl, ofS_op, ofS_sum, ofS_um, ofS_co, ofS_ti, ofS_ov, ofS_bl, ofS_st, ofS_sl, ofS_PP, ofS_s, ofS_abc, ofS_F, ofS_Q, ofS_O, ofS_nc, ofS_np, ofS_mc, ofS_mp, ofS_n, ofS_m, ofS_u, ofS_c, ofS_e, ofS_E, sT_one, sT_add, sT_len, sT_beq, uRaiseI, w_ri, uAt, w_at, xCall, xSet, xDrop, xSeq, xIf, uTry, w_mS, Int.toNat_natCast, uFor, uSeqI, uEqG, uInG, BT.sub, BT.nm, w_bm, w_il, uBM0, ends, uBreak, uCont, start', flat, deq, deqs, w_V, w_B, w_I, w_O, w_St, w_Sf, w_Sr, w_Dr, w_Dn, w_Db, w_Di, w_Ds, w_Dt, w_Df, w_Tn, w_Tb, w_Ti, w_Ts, w_Tt, w_Tf, w_Tr, w_Ni, w_Nb, w_Lf, w_Lr, w_Lt, w_Xt, w_Xf, w_Xr, w_1, w_isi, w_n0, w_n1, w_n2, w_n3, w_n4, w_vt, w_vc, w_vn, w_r1, w_r1', w_r2, w_r2', w_ap, w_ex, w_po, cif_t, cif_f,
  List.map_cons, List.map_nil, List.length_cons, List.length_nil, Nat.reduceAdd, Nat.reduceSub, Nat.add_sub_cancel, Nat.sub_self, Nat.zero_add, List.replicate_succ, List.replicate_zero, List.cons_append, List.nil_append, List.append_nil, List.getElem?_cons_zero, List.getElem?_cons_succ, List.set_cons_zero, List.set_cons_succ,
  atI2_0, atI2_1, List.all_cons, List.all_nil, Bool.and_self, Bool.and_true, Bool.true_and, Bool.not_true, Bool.not_false, true_and, and_true, put_same, Option.some.injEq, PO.lst.injEq, exists_eq_left', Int.zero_add , e_text, e_rinit, e_cell, e_mixed, e_lnames, e_sign, e_step, e_steps, e_nf, e_ns, e_seen, e_summed, e_joined, e_formula, e_read, e_lformula, e_whole, e_bent, e_asked, e_place, e_told, e_kinds])
theorem G_NoText_init (T : Tx K mg t) : FnOk P w K mg base CX0 1 t.a_NoText_init t.d_NoText_init ["self", "at"] (spI t.a_NoText) := by
  refine T.F_NoText_init.ok (k := 0) sc_NoText_init (fun vs H Q E h => by obtain ⟨a, n, rfl, _⟩ := h; rfl) (fun cdv A outer s H vs Q E hr h => ⟨_, pss_cons (ps_I1 T.xi_NoText T.xd_DoingError rfl T.g_DoingError rfl (Or.inl rfl) (pe_j2 rfl (Or.inl rfl) (by decide))) (pss_one (ps_I2 T.xi_NoText rfl (Or.inl rfl) rfl (Or.inl rfl))), ?_⟩)
  obtain ⟨a, n, rfl, hn, ha, q⟩ := h
  refine ⟨a, n, rfl, rfl, by omega, ha, a, n, rfl, rfl, upd_same, fun dx o hd ne at_ => ?_⟩
  rw [upd_ne ne] at hd
  rw [upd_upd ne]
  exact q dx o hd ne at_

theorem G_Reader_init (T : Tx K mg t) : FnOk' P w K mg base CX0 1 t.a_Reader_init t.d_Reader_init ["self", "signs"] (sp_rinit t) := by
  refine okU (k := 0) T.F_Reader_init sc_Reader_init (fun vs H Q E h => by
    unfold sp_rinit at h
    split at h
    · rfl
    · exact h.elim) (fun cdv A outer s H E B hr => ⟨_, (qss_cons (qs_fld (qv 0) (qv 1) T.cl_Reader T.nf_Reader_signs rfl)
    (qss_one (qs_fld (qv 0) qe_int T.cl_Reader T.nf_Reader_place rfl))), ?_⟩)
  intro vs H Q E h
  unfold sp_rinit at h
  split at h
  · rename_i x z
    obtain ⟨dx, L, hx, rfl, h⟩ := h
    walk_at "rd"
    refine ⟨dx, [], hx, by simp, ?_⟩
    refine ⟨dx, _, rfl, by simp [putU], ?_⟩
    rw [put_put]
    exact ⟨_, Sub.refl _, h⟩
  · exact h.elim

theorem G_Reader_sign (T : Tx K mg t) : FnOk' P w K mg base CX0 1 t.a_Reader_sign t.d_Reader_sign ["self"] (sp_sign t) := by
  refine okU (k := 0) T.F_Reader_sign sc_Reader_sign (fun vs H Q E h => by
    unfold sp_sign at h
    split at h
    · rfl
    · exact h.elim) (fun cdv A outer s H E B hr => ⟨_, (qss_one (qs_ret (qe_sliceS (qe_fld (qv 0) T.cl_Reader T.nf_Reader_signs rfl) (qo_some (qe_fld (qv 0) T.cl_Reader T.nf_Reader_place rfl)) (qo_some (qe_add (qe_fld (qv 0) T.cl_Reader T.nf_Reader_place rfl) qe_int))))), ?_⟩)
  intro vs H Q E h
  unfold sp_sign at h
  split at h
  · rename_i x
    obtain ⟨dx, L, r, rd, h⟩ := h
    have hx := rd.hx
    have hl := rd.hl
    walk_at "rd"
    refine ⟨_, _, _, hx, rfl, _, _, _, hx, rfl, _, _, _, hx, rfl, ?_⟩
    walk_at "rd"
    refine ⟨line_ge (by omega), H, Sub.refl _, ?_⟩
    rw [slice_r rd.sf]
    exact h
  · exact h.elim

theorem G_Reader_step (T : Tx K mg t) : FnOk' P w K mg base (CXU P w) 3 t.a_Reader_step t.d_Reader_step ["self", "choices"] (sp_step t) := by
  refine okX (k := 2) T.F_Reader_step sc_Reader_step (fun vs H Q E h => by
    unfold sp_step at h
    split at h
    · rfl
    · exact h.elim) (fun cdv A outer s H0 E0 vs H Q E hr hE h => ⟨_, (qss_cons (qs_set (i := 2) sc_Reader_step.nd rfl (by first | exact Or.inl rfl | exact Or.inr rfl) (qe_meth0 (qv 0) T.cl_Reader T.m_Reader_sign (G_Reader_sign T) (hr.mono (by decide)) T.B_Reader_sign))
    (qss_cons (qs_if (qt_cmp (op_notInU hr.units) vr_in (qv 2) (qv 1) (by with_unfolding_all rfl))
    (qss_one (qs_raiseI rfl plain_cx hE rfl T.xi_NoText (G_NoText_init T) (hr.mono (by decide)) T.B_NoText_init rfl T.g_NoText (qe_fld (qv 0) T.cl_Reader T.nf_Reader_place rfl)))
    qss_nil)
    (qss_cons (qs_fld (qv 0) (qe_add (qe_fld (qv 0) T.cl_Reader T.nf_Reader_place rfl) qe_int) T.cl_Reader T.nf_Reader_place rfl)
    (qss_one (qs_ret (qv 2)))))), ?_⟩)
  unfold sp_step at h
  split at h
  · rename_i x c
    obtain ⟨dx, L, r, cs, rd, hc, h⟩ := h
    have hx := rd.hx
    have hl := rd.hl
    walk_at "rd"
    refine ⟨⟨_, _, hx, rfl⟩, dx, L, r, rd, _, hc, ?_⟩
    rw [any_tk]
    refine ⟨flat_signs, ?_⟩
    cases r with
    | nil =>
      refine cif_pos rfl ⟨_, _, _, hx, rfl, ?_⟩
      walk_at "rd"
      exact ⟨by omega, by omega, h _ (Keep.refl _ _)⟩
    | cons c' r' =>
      have h' : Out t x dx L H Q E (fun c => tx [c]) (if c' ∈ cs then .ok (c', r') else .error (c' :: r')) := h
      by_cases hm : c' ∈ cs
      · rw [if_pos hm] at h'
        refine cif_neg (by simpa using hm) ?_
        refine ⟨_, _, _, hx, rfl, _, _, hx, by simp [RF], _, Sub.refl _, ?_⟩
        have le := rd.le
        simp only [List.length_cons] at le
        have e : ((L.length - (c' :: r').length : Nat) : Int) + 1 = ((L.length - r'.length : Nat) : Int) := by simp only [List.length_cons]; omega
        show Q (tx [c']) (put H x (.ins t.a_Reader dx [("signs", tx L), ("place", .int (((L.length - (c' :: r').length : Nat) : Int) + 1))]))
        rw [e]
        exact h'
      · rw [if_neg hm] at h'
        refine cif_pos (by simpa using hm) ⟨_, _, _, hx, rfl, ?_⟩
        walk_at "rd"
        exact ⟨by omega, by omega, h' _ (Keep.refl _ _)⟩
  · exact h.elim

theorem G_Reader_steps (T : Tx K mg t) : FnOk' P w K mg base (CXU P w) 4 t.a_Reader_steps t.d_Reader_steps ["self", "signs"] (sp_steps t) := by
  refine okX (k := 3) T.F_Reader_steps sc_Reader_steps (fun vs H Q E h => by
    unfold sp_steps at h
    split at h
    · rfl
    · exact h.elim) (fun cdv A outer s H0 E0 vs H Q E hr hE h => ⟨_, (qss_one (qs_for (lv_po rfl) rfl (qi_str (qv 1)) (qg_name (i := 2) sc_Reader_steps.nd rfl (by first | exact Or.inl rfl | exact Or.inr rfl))
    (qss_one (qs_expr (qe_methX rfl plain_cx hE (qv 0) T.cl_Reader T.m_Reader_step (G_Reader_step T) (hr.mono (by decide)) T.B_Reader_step (qa_cons (qe_lst (qa_cons (qv 2) qa_nil)) qa_nil)))))), ?_⟩)
  unfold sp_steps at h
  split at h
  · rename_i x z
    obtain ⟨dx, L, r, zs, rd, rfl, hz, h⟩ := h
    walk_at "rd"
    refine ⟨by simpa [sT] using hz, ?_⟩
    rw [sT_cps]
    refine for_atD (fun i σ H2 => ∃ z r', σ = [some (.ref x), some (.str (sT zs)), z] ∧ Keep x H H2 ∧ Rd t H2 x dx L r' ∧ Out t x dx L H Q E (fun _ => .non) (pSs (zs.drop i) r')) ?_ ?_ ⟨none, r, rfl, Keep.refl _ _, rd, h⟩
    · rintro σ H2 ⟨z, r', rfl, k2, rd2, h2⟩
      refine ⟨trivial, ?_⟩
      rw [List.length_map, List.drop_length] at h2
      walk_at "rd"
      exact ⟨_, sub_putx (fun a u n e => k2 a u n e) rd2.hx, h2⟩
    · rintro D i y σ H2 hy ⟨z, r', rfl, k2, rd2, h2⟩ kk
      refine ⟨trivial, ?_⟩
      rw [List.getElem?_map] at hy
      cases hg : zs[i]? with
      | none => rw [hg] at hy; cases hy
      | some c =>
        rw [hg] at hy
        cases hy
        obtain ⟨hi, ec⟩ := List.getElem?_eq_some_iff.mp hg
        rw [List.drop_eq_getElem_cons hi, ec] at h2
        have hx2 := rd2.hx
        walk_at "rd"
        refine ⟨⟨_, _, hx2, rfl⟩, small_size (by decide), fun p hp => ?_⟩
        have nxp : x ≠ p := ne_none hx2 hp
        refine ⟨dx, L, r', [c], rd2.go ((put_ne nxp).trans hx2) ⟨[], rfl⟩, rfl, ?_⟩
        have kp := k2.new (o := .lst [tx [c]]) hp
        refine out_bnd (show Out t x dx L H Q E (fun _ => .non) (bnd (pS [c] r') fun _ r => pSs (zs.drop (i + 1)) r) from h2) kp fun v r2 e2 h3 => ?_
        exact kk _ _ ⟨_, r2, rfl, kp.trans Keep.put, rd2.go put_same (lf_ok (Par.lf_S _ _) e2), h3⟩
  · exact h.elim

theorem G_Reader_name_from (T : Tx K mg t) : FnOk' P w K mg base (CXU P w) 4 t.a_Reader_name_from t.d_Reader_name_from ["self", "least"] (sp_nf t) := by
  refine okX (k := 3) T.F_Reader_name_from sc_Reader_name_from (fun vs H Q E h => by
    unfold sp_nf at h
    split at h
    · rfl
    · exact h.elim) (fun cdv A outer s H0 E0 vs H Q E hr hE h => ⟨_, (qss_one (qs_ret (qe_bmS PySem.F.plainAttrs_str PySem.F.slot_str_find PySem.F.type_str_find mt_find vm_find (qe_globE (v' := .str "abcdef") rfl T.c_LETTERS (fun _ => by simp [RP])) (qa_cons (qe_methX rfl plain_cx hE (qv 0) T.cl_Reader T.m_Reader_step (G_Reader_step T) (hr.mono (by decide)) T.B_Reader_step (qa_cons (qe_callTy (call_listS rfl) vc_listS rfl T.b_list boot_list (qa_cons (qe_sliceS (qe_globE (v' := .str "abcdef") rfl T.c_LETTERS (fun _ => by simp [RP])) (qo_some (qv 1)) qo_none) qa_nil)) qa_nil)) qa_nil)))), ?_⟩)
  unfold sp_nf at h
  split at h
  · rename_i x m
    obtain ⟨dx, L, r, rd, ⟨m0, m5⟩, h⟩ := h
    have hx := rd.hx
    rw [nf_eq m0 m5] at h
    walk_at "rd"
    refine ⟨⟨_, _, hx, rfl⟩, line_ge (by decide), ?_⟩
    rw [abc_from m0 (by omega)]
    try walk_at "rd"
    refine ⟨by rw [List.length_drop]; exact line_ge (by simp; omega), fun p hp => ?_⟩
    have nxp : x ≠ p := ne_none hx hp
    rw [sT_cps]
    refine ⟨dx, L, r, _, rd.go ((put_ne nxp).trans hx) ⟨[], rfl⟩, rfl, ?_⟩
    refine out_bnd h ((Keep.refl x H).new hp) fun c r2 e2 h3 => ?_
    have hc := lf_good (Par.lf_S _ _) e2
    try walk_at "rd"
    rw [abc_in m0 m5 hc]
    refine ⟨_, sub_putx (fun a u ha hu => ?_) put_same, h3⟩
    rw [put_ne ha, put_ne (ne_none hu hp)]
    exact hu
  · exact h.elim

theorem G_Reader_names (T : Tx K mg t) : FnOk' P w K mg base (CXU P w) 5 t.a_Reader_names t.d_Reader_names ["self"] (sp_ns t) := by
  refine okX (k := 4) T.F_Reader_names sc_Reader_names (fun vs H Q E h => by
    unfold sp_ns at h
    split at h
    · rfl
    · exact h.elim) (fun cdv A outer s H0 E0 vs H Q E hr hE h => ⟨_, (qss_cons (qs_set (i := 1) sc_Reader_names.nd rfl (by first | exact Or.inl rfl | exact Or.inr rfl) (qe_lst (qa_cons (qe_methX rfl plain_cx hE (qv 0) T.cl_Reader T.m_Reader_name_from (G_Reader_name_from T) (hr.mono (by decide)) T.B_Reader_name_from (qa_cons qe_int qa_nil)) qa_nil)))
    (qss_cons (qs_while (lv_po rfl) (qt_bool (qw_and (qt_cmp (op_eqU hr.units) vr_eq (qe_meth0 (qv 0) T.cl_Reader T.m_Reader_sign (G_Reader_sign T) (hr.mono (by decide)) T.B_Reader_sign) qe_str (nomark _)) (qw_and1 (qt_cmp op_lt vr_lt (qe_ix (qv 1) (qe_neg qe_int) (fun _ _ => rfl)) (qe_sub (qe_callB call_len_str vc_lenS rfl T.b_len PySem.boot_len (qa_cons (qe_globE (v' := .str "abcdef") rfl T.c_LETTERS (fun _ => by simp [RP])) qa_nil)) qe_int) (nomark _)))))
    (qss_cons (qs_expr (qe_methX rfl plain_cx hE (qv 0) T.cl_Reader T.m_Reader_steps (G_Reader_steps T) (hr.mono (by decide)) T.B_Reader_steps (qa_cons qe_str qa_nil)))
      (qss_one (qs_expr (qe_bm PySem.F.slot_list_append PySem.F.type_list_append mt_append vm_append (qv 1) (qa_cons (qe_methX rfl plain_cx hE (qv 0) T.cl_Reader T.m_Reader_name_from (G_Reader_name_from T) (hr.mono (by decide)) T.B_Reader_name_from (qa_cons (qe_add (qe_ix (qv 1) (qe_neg qe_int) (fun _ _ => rfl)) qe_int) qa_nil)) qa_nil))))))
    (qss_one (qs_ret (qe_callTy call_tuple_of vc_tuple rfl T.b_tuple boot_tuple (qa_cons (qv 1) qa_nil)))))), ?_⟩)
  unfold sp_ns at h
  split at h
  · rename_i x
    obtain ⟨dx, L, r, rd, h⟩ := h
    have hx := rd.hx
    have hl := rd.hl
    refine seq_abs fun R hR => ?_
    walk_at "rd"
    refine ⟨⟨_, _, hx, rfl⟩, dx, L, r, rd, ⟨by decide, by decide⟩, ?_⟩
    refine out_bnd (show Out t x dx L H Q E nsV (bnd (pNf 0 r) fun n r => bnd (pMore n r) fun ns r => .ok (n :: ns, r)) from h) (Keep.refl _ _) fun n r1 e1 h1 => ?_
    refine ⟨small_size (by decide), fun p hp => ?_⟩
    have nxp : x ≠ p := fun e => by subst e; rw [put_same] at hp; cases hp
    have hpH : H p = none := by rw [put_ne nxp.symm] at hp; exact hp
    have gn := lf_good (Par.lf_Nf 0 (by decide) r) e1
    have rd1 := rd.put (lf_ok (Par.lf_Nf 0 (by decide) r) e1)
    subst hR
    refine seq_abs fun R hR => ?_
    walk_at "rd"
    refine while_by (fun m σ H2 => ∃ d e r', m = r'.length ∧ σ = [some (.ref x), some (.ref p)] ∧ Keep x H H2 ∧ H2 p = some (.lst ((d ++ [e]).map PV.int)) ∧ Rd t H2 x dx L r' ∧ (0 ≤ e ∧ e < 6 ∧ (d.length : Int) ≤ e) ∧ Out t x dx L H Q E nsV (bnd (pMore e r') fun ns r => .ok (d ++ e :: ns, r))) r1.length
      ⟨[], n, r1, rfl, rfl, Keep.put.new hp, put_same, rd1.go ((put_ne nxp).trans put_same) ⟨[], rfl⟩, ⟨gn.1, gn.2, by simpa using gn.1⟩, h1⟩ ?_
    rintro m σ H2 ⟨d, e, r', rfl, rfl, k2, hp2, rd2, ⟨e0, e6, de⟩, h2⟩
    have hx2 := rd2.hx
    have last : atI ((d ++ [e]).map PV.int) (-1) = some (.int e) := atI_last (by rw [List.length_map, List.getElem?_map, List.length_append, List.length_singleton, Nat.add_sub_cancel, List.getElem?_append_right (Nat.le_refl _), Nat.sub_self]; rfl)
    have fin : pMore e r' = .ok ([], r') → R { nx := fun x H => ∃ H3, U.Sub H3 H ∧ Q PV.non H3, rt := fun v H => ∃ H3, U.Sub H3 H ∧ Q v H3 } [some (.ref x), some (.ref p)] H2 := fun ep => by
      rw [Par.bnd_ok ep] at h2
      subst hR
      walk_at "rd"
      exact ⟨_, hp2, _, sub_putx (fun a u n e => k2 a u n e) hx2, h2⟩
    walk_at "rd"
    refine ⟨⟨_, _, hx2, rfl⟩, dx, L, r', rd2, ?_⟩
    cases r' with
    | nil =>
      refine cif_neg (by simp) ?_
      exact fin rfl
    | cons c r2 =>
      by_cases hc : c = 32
      · subst hc
        refine cif_pos (by simp) ?_
        try walk_at "rd"
        refine ⟨_, hp2, ?_⟩
        rw [last]
        try walk_at "rd"
        refine ⟨line_ge (by decide), ?_⟩
        by_cases h5 : e < 5
        · refine cif_pos (by simp; omega) ?_
          refine ⟨_, fun σ' H' hN => hN, ?_⟩
          have rd3 : Rd t (put H2 x (.ins t.a_Reader dx (RF L (L.length - r2.length)))) x dx L r2 := rd2.put ⟨[32], rfl⟩
          refine ⟨⟨_, _, hx2, rfl⟩, dx, L, 32 :: r2, [32], rd2, rfl, by decide, ?_⟩

          rw [ss_hd]
          have hp3 : put H2 x (.ins t.a_Reader dx (RF L (L.length - r2.length))) p = some (.lst ((d ++ [e]).map PV.int)) := (put_ne nxp.symm).trans hp2
          refine ⟨⟨_, hp3⟩, ⟨_, _, put_same, rfl⟩, _, hp3, ?_⟩
          rw [last]
          try walk_at "rd"
          refine ⟨dx, L, r2, rd3, ⟨by omega, by omega⟩, ?_⟩
          rw [more_eq h5, Par.bnd_bnd] at h2
          refine out_bnd h2 (k2.trans Keep.put) fun v r3 e3 h3 => ?_
          rw [put_put]
          have gv := lf_good (Par.lf_Nf (e + 1) (by omega) r2) e3
          have sv := lf_ok (Par.lf_Nf (e + 1) (by omega) r2) e3
          refine ⟨_, (put_ne nxp.symm).trans hp2, by rw [List.length_map, List.length_append]; simp; exact small1000 (by omega), r3.length, ?_, d ++ [e], v, r3, rfl, ?_, ?_, ?_, ⟨by omega, gv.2, ?_⟩, ?_⟩
          · obtain ⟨q, eq⟩ := sv
            rw [eq, List.length_append]; omega
          · intro a u n hu
            rw [put_ne (ne_none hu hpH), put_ne n]; exact k2 a u n hu
          · rw [List.map_append (l₁ := d ++ [e])]; rfl
          · exact rd3.go ((put_ne nxp).trans put_same) sv
          · rw [List.length_append, List.length_singleton]; omega
          · rw [Par.bnd_bnd] at h3
            have ee : (fun (ns : List Int) (r : List Nat) => (bnd (.ok (v :: ns, r)) fun ns r => .ok (d ++ e :: ns, r) : Rs (List Int))) = fun ns r => .ok ((d ++ [e]) ++ v :: ns, r) := by
              funext ns r; show (Except.ok _ : Rs (List Int)) = _; rw [List.append_assoc]; rfl
            rw [ee] at h3; exact h3
        · refine cif_neg (by simp; omega) ?_
          refine fin ?_
          cases r2 with
          | nil => show (if e < 5 then _ else _) = _; rw [if_neg h5]
          | cons c r2 => rw [Par.pMore_two, if_neg h5]
      · refine cif_neg (by simpa using hc) ?_
        exact fin (Par.pMore_ne hc)
  · exact h.elim

theorem G_Reader_seen (T : Tx K mg t) : FnOk' P w K mg base (CXU P w) 6 t.a_Reader_seen t.d_Reader_seen ["self"] (sp_seen t) := by
  refine okX (k := 5) T.F_Reader_seen sc_Reader_seen (fun vs H Q E h => by
    unfold sp_seen at h
    split at h
    · rfl
    · exact h.elim) (fun cdv A outer s H0 E0 vs H Q E hr hE h => ⟨_, (qss_cons (qs_expr (qe_methX rfl plain_cx hE (qv 0) T.cl_Reader T.m_Reader_steps (G_Reader_steps T) (hr.mono (by decide)) T.B_Reader_steps (qa_cons qe_str qa_nil)))
    (qss_cons (qs_set (i := 1) sc_Reader_seen.nd rfl (by first | exact Or.inl rfl | exact Or.inr rfl) (qe_ifExp (qt_cmp (op_eqU hr.units) vr_eq (qe_meth0 (qv 0) T.cl_Reader T.m_Reader_sign (G_Reader_sign T) (hr.mono (by decide)) T.B_Reader_sign) qe_str (nomark _)) (qe_tup qa_nil) (qe_meth0X rfl plain_cx hE (qv 0) T.cl_Reader T.m_Reader_names (G_Reader_names T) (hr.mono (by decide)) T.B_Reader_names)))
    (qss_cons (qs_expr (qe_methX rfl plain_cx hE (qv 0) T.cl_Reader T.m_Reader_steps (G_Reader_steps T) (hr.mono (by decide)) T.B_Reader_steps (qa_cons qe_str qa_nil)))
    (qss_one (qs_ret (qe_tup (qa_cons qe_str (qa_cons (qv 1) qa_nil)))))))), ?_⟩)
  unfold sp_seen at h
  split at h
  · rename_i x
    obtain ⟨dx, L, r, rd, h⟩ := h
    have hx := rd.hx
    unfold pSeen at h
    refine seq_abs fun R hR => ?_
    walk_at "rd"
    refine ⟨⟨_, _, hx, rfl⟩, dx, L, r, [40], rd, rfl, by decide, ?_⟩
    refine out_bnd h (Keep.refl _ _) fun v r1 e1 h1 => ?_
    have rd1 := rd.put (lf_ok (Par.lf_Ss _ _) e1)
    subst hR
    refine seq_abs fun R hR => ?_
    walk_at "rd"
    refine ⟨⟨_, _, rfl, rfl⟩, dx, L, r1, rd1, ?_⟩
    have fin : ∀ (ns : List Int) (r2 : List Nat), (∃ q, r1 = q ++ r2) → Out t x dx L H Q E fV (bnd (pSs [41] r2) fun _ r => .ok (.seen ns, r)) → R { nx := fun x H => ∃ H3, U.Sub H3 H ∧ Q PV.non H3, rt := fun v H => ∃ H3, U.Sub H3 H ∧ Q v H3 } [some (.ref x), some (nsV ns)] (put H x (.ins t.a_Reader dx (RF L (L.length - r2.length)))) := fun ns r2 s2 h2 => by
      subst hR
      have rd2 : Rd t (put H x (.ins t.a_Reader dx (RF L (L.length - r2.length)))) x dx L r2 := rd1.go put_same s2
      walk_at "rd"
      refine ⟨⟨_, _, rfl, rfl⟩, dx, L, r2, [41], rd2, rfl, by decide, ?_⟩
      refine out_bnd h2 Keep.put fun v r3 e3 h3 => ?_
      rw [put_put]
      exact ⟨small_size (by decide), _, Sub.refl _, h3⟩
    have other : r1.head? ≠ some 41 → Out t x dx L (put H x (.ins t.a_Reader dx (RF L (L.length - r1.length)))) (fun v H1 => R { nx := fun x H => ∃ H3, U.Sub H3 H ∧ Q PV.non H3, rt := fun v H => ∃ H3, U.Sub H3 H ∧ Q v H3 } [some (.ref x), some v] H1) E nsV (pNs r1) := fun hn => by
      rw [show pQ r1 = pNs r1 from if_neg hn] at h1
      refine out_bnd h1 Keep.put fun ns r2 e2 h2 => ?_
      rw [put_put]
      exact fin ns r2 (lf_ok (Par.lf_Ns _) e2) h2
    cases r1 with
    | nil =>
      refine cif_neg (by simp) ?_
      exact ⟨⟨_, _, rfl, rfl⟩, dx, L, [], rd1, other (by nofun)⟩
    | cons c r2 =>
      by_cases hc : c = 41
      · subst hc
        refine cif_pos (by simp) ⟨small_size (by decide), ?_⟩
        exact fin [] (41 :: r2) ⟨[], rfl⟩ h1
      · refine cif_neg (by simpa using hc) ?_
        exact ⟨⟨_, _, rfl, rfl⟩, dx, L, c :: r2, rd1, other (fun e => hc (Option.some.inj e))⟩
  · exact h.elim

theorem G_Reader_summed (T : Tx K mg t) {n : Nat} (ih : FnOk' P w K mg base (CXU P w) (2 * n + 7) t.a_Reader_formula t.d_Reader_formula ["self"] (sp_formula t n)) : FnOk' P w K mg base (CXU P w) (2 * n + 8) t.a_Reader_summed t.d_Reader_summed ["self"] (sp_summed t n) := by
  refine okX (k := 2 * n + 7) T.F_Reader_summed sc_Reader_summed (fun vs H Q E h => by
    unfold sp_summed at h
    split at h
    · rfl
    · exact h.elim) (fun cdv A outer s H0 E0 vs H Q E hr hE h => ⟨_, (qss_cons (qs_expr (qe_methX rfl plain_cx hE (qv 0) T.cl_Reader T.m_Reader_steps (G_Reader_steps T) (hr.mono (by omega)) T.B_Reader_steps (qa_cons qe_str qa_nil)))
    (qss_cons (qs_set (i := 1) sc_Reader_summed.nd rfl (by first | exact Or.inl rfl | exact Or.inr rfl) (qe_meth0X rfl plain_cx hE (qv 0) T.cl_Reader T.m_Reader_names (G_Reader_names T) (hr.mono (by omega)) T.B_Reader_names))
    (qss_cons (qs_expr (qe_methX rfl plain_cx hE (qv 0) T.cl_Reader T.m_Reader_steps (G_Reader_steps T) (hr.mono (by omega)) T.B_Reader_steps (qa_cons qe_str qa_nil)))
    (qss_cons (qs_set (i := 2) sc_Reader_summed.nd rfl (by first | exact Or.inl rfl | exact Or.inr rfl) (qe_meth0X rfl plain_cx hE (qv 0) T.cl_Reader T.m_Reader_formula ih (hr.mono (by omega)) T.B_Reader_formula))
    (qss_cons (qs_expr (qe_methX rfl plain_cx hE (qv 0) T.cl_Reader T.m_Reader_steps (G_Reader_steps T) (hr.mono (by omega)) T.B_Reader_steps (qa_cons qe_str qa_nil)))
    (qss_one (qs_ret (qe_tup (qa_cons qe_str (qa_cons (qv 1) (qa_cons (qv 2) qa_nil))))))))))), ?_⟩)
  unfold sp_summed at h
  split at h
  · rename_i x
    obtain ⟨dx, L, r, rd, hc, h⟩ := h
    have hx := rd.hx
    unfold pSum at h
    refine seq_abs fun R hR => ?_
    walk_at "rd"
    refine ⟨⟨_, _, hx, rfl⟩, dx, L, r, [117, 109, 40], rd, rfl, by decide, ?_⟩
    refine out_bnd h (Keep.refl _ _) fun _ r1 e1 h1 => ?_
    have rd1 := rd.put (lf_ok (Par.lf_Ss _ _) e1)
    have c1 := Par.cno_le (Par.lf_Ss _ _) e1
    subst hR
    refine seq_abs fun R hR => ?_
    walk_at "rd"
    refine ⟨⟨_, _, rfl, rfl⟩, dx, L, r1, rd1, ?_⟩
    refine out_bnd h1 Keep.put fun ns r2 e2 h2 => ?_
    rw [put_put]
    have s2 := lf_ok (Par.lf_Ns _) e2
    have c2 := Par.cno_le (Par.lf_Ns _) e2
    have rd2 : Rd t (put H x (.ins t.a_Reader dx (RF L (L.length - r2.length)))) x dx L r2 := rd1.go put_same s2
    subst hR
    unfold nsV
    refine seq_abs fun R hR => ?_
    walk_at "rd"
    refine ⟨⟨_, _, rfl, rfl⟩, dx, L, r2, [58, 32], rd2, rfl, by decide, ?_⟩
    refine out_bnd h2 Keep.put fun _ r3 e3 h3 => ?_
    rw [put_put]
    have s3 := lf_ok (Par.lf_Ss _ _) e3
    have c3 := Par.cno_le (Par.lf_Ss _ _) e3
    have rd3 : Rd t (put H x (.ins t.a_Reader dx (RF L (L.length - r3.length)))) x dx L r3 := rd2.go put_same s3
    subst hR
    refine seq_abs fun R hR => ?_
    walk_at "rd"
    refine ⟨⟨_, _, rfl, rfl⟩, dx, L, r3, rd3, by omega, ?_⟩
    refine out_bnd h3 Keep.put fun f r4 e4 h4 => ?_
    rw [put_put]
    have rd4 : Rd t (put H x (.ins t.a_Reader dx (RF L (L.length - r4.length)))) x dx L r4 := rd3.go put_same (lf_ok (Par.lf_F _ _) e4)
    subst hR
    walk_at "rd"
    refine ⟨⟨_, _, rfl, rfl⟩, dx, L, r4, [41], rd4, rfl, by decide, ?_⟩
    refine out_bnd h4 Keep.put fun _ r5 e5 h5 => ?_
    rw [put_put]
    exact ⟨small_size (by decide), _, Sub.refl _, h5⟩
  · exact h.elim

theorem G_Reader_joined (T : Tx K mg t) {n : Nat} (ih : FnOk' P w K mg base (CXU P w) (2 * n + 7) t.a_Reader_formula t.d_Reader_formula ["self"] (sp_formula t n)) : FnOk' P w K mg base (CXU P w) (2 * n + 8) t.a_Reader_joined t.d_Reader_joined ["self"] (sp_joined t n) := by
  refine okX (k := 2 * n + 7) T.F_Reader_joined sc_Reader_joined (fun vs H Q E h => by
    unfold sp_joined at h
    split at h
    · rfl
    · exact h.elim) (fun cdv A outer s H0 E0 vs H Q E hr hE h => ⟨_, (qss_cons (qs_set (i := 1) sc_Reader_joined.nd rfl (by first | exact Or.inl rfl | exact Or.inr rfl) (qe_meth0X rfl plain_cx hE (qv 0) T.cl_Reader T.m_Reader_formula ih (hr.mono (by omega)) T.B_Reader_formula))
    (qss_cons (qs_expr (qe_methX rfl plain_cx hE (qv 0) T.cl_Reader T.m_Reader_steps (G_Reader_steps T) (hr.mono (by omega)) T.B_Reader_steps (qa_cons qe_str qa_nil)))
    (qss_cons (qs_set (i := 2) sc_Reader_joined.nd rfl (by first | exact Or.inl rfl | exact Or.inr rfl) (qe_ifExp (qt_cmp (op_eqU hr.units) vr_eq (qe_methX rfl plain_cx hE (qv 0) T.cl_Reader T.m_Reader_step (G_Reader_step T) (hr.mono (by omega)) T.B_Reader_step (qa_cons (qe_lst (qa_cons qe_str (qa_cons qe_str qa_nil))) qa_nil)) qe_str (nomark _)) qe_str qe_str))
    (qss_cons (qs_expr (qe_methX rfl plain_cx hE (qv 0) T.cl_Reader T.m_Reader_steps (G_Reader_steps T) (hr.mono (by omega)) T.B_Reader_steps (qa_cons qe_str qa_nil)))
    (qss_cons (qs_set (i := 3) sc_Reader_joined.nd rfl (by first | exact Or.inl rfl | exact Or.inr rfl) (qe_meth0X rfl plain_cx hE (qv 0) T.cl_Reader T.m_Reader_formula ih (hr.mono (by omega)) T.B_Reader_formula))
    (qss_cons (qs_expr (qe_methX rfl plain_cx hE (qv 0) T.cl_Reader T.m_Reader_steps (G_Reader_steps T) (hr.mono (by omega)) T.B_Reader_steps (qa_cons qe_str qa_nil)))
    (qss_one (qs_ret (qe_tup (qa_cons (qv 2) (qa_cons (qv 1) (qa_cons (qv 3) qa_nil)))))))))))), ?_⟩)
  unfold sp_joined at h
  split at h
  · rename_i x
    obtain ⟨dx, L, r, rd, hc, h⟩ := h
    have hx := rd.hx
    unfold pJoin at h
    refine seq_abs fun R hR => ?_
    walk_at "rd"
    refine ⟨⟨_, _, hx, rfl⟩, dx, L, r, rd, hc, ?_⟩
    refine out_bnd h (Keep.refl _ _) fun a r1 e1 h1 => ?_
    have rd1 := rd.put (lf_ok (Par.lf_F _ _) e1)
    have c1 := Par.cno_le (Par.lf_F _ _) e1
    subst hR
    refine seq_abs fun R hR => ?_
    walk_at "rd"
    refine ⟨⟨_, _, rfl, rfl⟩, dx, L, r1, [32], rd1, rfl, by decide, ?_⟩
    refine out_bnd h1 Keep.put fun _ r2 e2 h2 => ?_
    rw [put_put]
    have s2 := lf_ok (Par.lf_Ss _ _) e2
    have c2 := Par.cno_le (Par.lf_Ss _ _) e2
    have rd2 : Rd t (put H x (.ins t.a_Reader dx (RF L (L.length - r2.length)))) x dx L r2 := rd1.go put_same s2
    subst hR
    refine seq_abs fun R hR => ?_
    walk_at "rd"
    refine ⟨⟨_, _, rfl, rfl⟩, small_size (by decide), fun q hq => ?_⟩
    have nxq : x ≠ q := fun e => by subst e; rw [put_same] at hq; cases hq
    have hqH : H q = none := by rw [put_ne nxq.symm] at hq; exact hq
    refine ⟨dx, L, r2, [42, 47], rd2.go ((put_ne nxq).trans put_same) ⟨[], rfl⟩, rfl, ?_⟩
    have kq := (Keep.put (x := x) (H := H) (o := .ins t.a_Reader dx (RF L (L.length - r2.length)))).new (o := .lst [tx [42], tx [47]]) hq
    refine out_bnd h2 kq fun c r3 e3 h3 => ?_
    have s3 := lf_ok (Par.lf_S _ _) e3
    have c3 := Par.cno_le (Par.lf_S _ _) e3
    have k3 := kq.trans (Keep.put (o := .ins t.a_Reader dx (RF L (L.length - r3.length))))
    have rd3 : Rd t (put (put (put H x (.ins t.a_Reader dx (RF L (L.length - r2.length)))) q (.lst [tx [42], tx [47]])) x (.ins t.a_Reader dx (RF L (L.length - r3.length)))) x dx L r3 := rd2.go put_same s3
    generalize put (put (put H x (.ins t.a_Reader dx (RF L (L.length - r2.length)))) q (.lst [tx [42], tx [47]])) x (.ins t.a_Reader dx (RF L (L.length - r3.length))) = H3 at *
    have fin : R { nx := fun x H => ∃ H3, U.Sub H3 H ∧ Q PV.non H3, rt := fun v H => ∃ H3, U.Sub H3 H ∧ Q v H3 } [some (.ref x), some (fV a), some (.str (if c = 42 then "times" else "over")), none] H3 := by
      subst hR
      have hx3 := rd3.hx
      generalize hw : (if c = 42 then ("times" : Str) else "over") = w at *
      refine seq_abs fun R hR => ?_
      walk_at "rd"
      refine ⟨⟨_, _, hx3, rfl⟩, dx, L, r3, [32], rd3, rfl, by decide, ?_⟩
      refine out_bnd h3 k3 fun _ r4 e4 h4 => ?_
      have s4 := lf_ok (Par.lf_Ss _ _) e4
      have c4 := Par.cno_le (Par.lf_Ss _ _) e4
      have rd4 := rd3.put s4
      subst hR
      refine seq_abs fun R hR => ?_
      walk_at "rd"
      refine ⟨⟨_, _, rfl, rfl⟩, dx, L, r4, rd4, by omega, ?_⟩
      refine out_bnd h4 (k3.trans Keep.put) fun b r5 e5 h5 => ?_
      rw [put_put]
      have rd5 : Rd t (put H3 x (.ins t.a_Reader dx (RF L (L.length - r5.length)))) x dx L r5 := rd4.go put_same (lf_ok (Par.lf_F _ _) e5)
      subst hR
      walk_at "rd"
      refine ⟨⟨_, _, rfl, rfl⟩, dx, L, r5, [41], rd5, rfl, by decide, ?_⟩
      refine out_bnd h5 (k3.trans Keep.put) fun _ r6 e6 h6 => ?_
      rw [put_put]
      refine ⟨small_size (by decide), _, sub_putx (fun a u ha hu => (put_ne ha).trans (k3 a u ha hu)) put_same, ?_⟩
      have ew : PV.tup [.str w, fV a, fV b] = fV (if c = 42 then .times a b else .over a b) := by
        rw [← hw]
        by_cases q : c = 42
        · rw [if_pos q, if_pos q]; rfl
        · rw [if_neg q, if_neg q]; rfl
      rw [ew]
      exact h6
    try walk_at "rd"
    by_cases q : c = 42
    · rw [if_pos q] at fin
      exact cif_pos (by simpa using q) fin
    · rw [if_neg q] at fin
      exact cif_neg (by simpa using q) fin
  · exact h.elim

theorem G_Reader_formula0 (T : Tx K mg t) : FnOk' P w K mg base (CXU P w) (7) t.a_Reader_formula t.d_Reader_formula ["self"] (sp_formula t 0) := by
  refine okX (k := 6) T.F_Reader_formula sc_Reader_formula (fun vs H Q E h => by
    unfold sp_formula at h
    split at h
    · rfl
    · exact h.elim) (fun cdv A outer s H0 E0 vs H Q E hr hE h => ⟨_, qss_never, ?_⟩)
  unfold sp_formula at h
  split at h
  · obtain ⟨dx, L, r, _, hc, _⟩ := h
    omega
  · exact h.elim
theorem G_Reader_formulaS (T : Tx K mg t) {n : Nat} (ih : FnOk' P w K mg base (CXU P w) (2 * n + 7) t.a_Reader_formula t.d_Reader_formula ["self"] (sp_formula t n)) : FnOk' P w K mg base (CXU P w) (2 * n + 9) t.a_Reader_formula t.d_Reader_formula ["self"] (sp_formula t (n + 1)) := by
  refine okX (k := 2 * n + 8) T.F_Reader_formula sc_Reader_formula (fun vs H Q E h => by
    unfold sp_formula at h
    split at h
    · rfl
    · exact h.elim) (fun cdv A outer s H0 E0 vs H Q E hr hE h => ⟨_, (qss_cons (qs_set (i := 1) sc_Reader_formula.nd rfl (by first | exact Or.inl rfl | exact Or.inr rfl) (qe_methX rfl plain_cx hE (qv 0) T.cl_Reader T.m_Reader_step (G_Reader_step T) (hr.mono (by omega)) T.B_Reader_step (qa_cons (qe_lst (qa_cons qe_str (qa_cons qe_str (qa_cons qe_str (qa_cons qe_str qa_nil))))) qa_nil)))
    (qss_cons (qs_if (qt_cmp (op_eqU hr.units) vr_eq (qv 1) qe_str (nomark _))
    (qss_one (qs_ret (qe_tup (qa_cons qe_str qa_nil))))
    qss_nil)
    (qss_cons (qs_if (qt_cmp (op_eqU hr.units) vr_eq (qv 1) qe_str (nomark _))
    (qss_one (qs_ret (qe_meth0X rfl plain_cx hE (qv 0) T.cl_Reader T.m_Reader_seen (G_Reader_seen T) (hr.mono (by omega)) T.B_Reader_seen)))
    qss_nil)
    (qss_one (qs_ret (qe_ifExp (qt_cmp (op_eqU hr.units) vr_eq (qv 1) qe_str (nomark _)) (qe_meth0X rfl plain_cx hE (qv 0) T.cl_Reader T.m_Reader_summed (G_Reader_summed T ih) (hr.mono (by omega)) T.B_Reader_summed) (qe_meth0X rfl plain_cx hE (qv 0) T.cl_Reader T.m_Reader_joined (G_Reader_joined T ih) (hr.mono (by omega)) T.B_Reader_joined))))))), ?_⟩)
  unfold sp_formula at h
  split at h
  · rename_i x
    obtain ⟨dx, L, r, rd, hc, h⟩ := h
    have hx := rd.hx
    unfold pF at h
    refine seq_abs fun R hR => ?_
    walk_at "rd"
    refine ⟨⟨_, _, hx, rfl⟩, small_size (by decide), fun q hq => ?_⟩
    have nxq : x ≠ q := ne_none hx hq
    have kq := (Keep.refl x H).new (o := .lst [tx [49], tx [80], tx [115], tx [40]]) hq
    refine ⟨dx, L, r, [49, 80, 115, 40], rd.go ((put_ne nxq).trans hx) ⟨[], rfl⟩, rfl, ?_⟩
    refine out_bnd h kq fun c r1 e1 h1 => ?_
    have s1 := lf_ok (Par.lf_S _ _) e1
    have g1 := lf_good (Par.lf_S _ _) e1
    have er := (Par.lf_S [49, 80, 115, 40] r)
    rw [e1] at er
    have er2 : r = [c] ++ r1 := er.1
    have k1 := kq.trans (Keep.put (o := .ins t.a_Reader dx (RF L (L.length - r1.length))))
    have rd1 : Rd t (put (put H q (.lst [tx [49], tx [80], tx [115], tx [40]])) x (.ins t.a_Reader dx (RF L (L.length - r1.length)))) x dx L r1 := rd.go put_same s1
    generalize put (put H q (.lst [tx [49], tx [80], tx [115], tx [40]])) x (.ins t.a_Reader dx (RF L (L.length - r1.length))) = H1 at *
    have hx1 := rd1.hx
    have fin : ∀ p : Rs F, Out t x dx L H Q E fV p → Out t x dx L H1 (fun v H2 => ∃ H3, U.Sub H3 H2 ∧ Q v H3) E fV p := fun p hp => by
      refine out_of (fun v r2 e2 => ?_) (fun r2 e2 H2 k2 => ?_)
      · rw [e2] at hp
        exact ⟨_, sub_putx (fun a u ha hu => (put_ne ha).trans (k1 a u ha hu)) put_same, hp⟩
      · rw [e2] at hp
        exact hp H2 (k1.trans k2)
    subst hR
    walk_at "rd"
    by_cases q1 : c = 49
    · rw [if_pos q1] at h1
      exact cif_pos (by simpa using q1) ⟨small_size (by decide), _, sub_putx (fun a u ha hu => k1 a u ha hu) hx1, h1⟩
    rw [if_neg q1] at h1
    refine cif_neg (by simpa using q1) ?_
    by_cases q2 : c = 80
    · rw [if_pos q2] at h1
      exact cif_pos (by simpa using q2) ⟨⟨_, _, hx1, rfl⟩, dx, L, r1, rd1, fin _ h1⟩
    rw [if_neg q2] at h1
    refine cif_neg (by simpa using q2) ?_
    by_cases q3 : c = 115
    · rw [if_pos q3] at h1
      subst q3
      rw [er2, List.singleton_append, Par.cno_cons, if_pos (by decide)] at hc
      exact cif_pos (by decide) ⟨⟨_, _, hx1, rfl⟩, dx, L, r1, rd1, by omega, fin _ h1⟩
    rw [if_neg q3] at h1
    have q4 : c = 40 := by simp at g1; omega
    subst q4
    rw [er2, List.singleton_append, Par.cno_cons, if_pos (by decide)] at hc
    exact cif_neg (by decide) ⟨⟨_, _, hx1, rfl⟩, dx, L, r1, rd1, by omega, fin _ h1⟩
  · exact h.elim
theorem G_Reader_formula (T : Tx K mg t) : ∀ n, FnOk' P w K mg base (CXU P w) (2 * n + 7) t.a_Reader_formula t.d_Reader_formula ["self"] (sp_formula t n)
  | 0 => G_Reader_formula0 T
  | n + 1 => G_Reader_formulaS T (G_Reader_formula T n)

theorem G_formula_read (T : Tx K mg t) : FnOk' P w K mg base (CXU P w) 171 t.a_formula_read t.d_formula_read ["text"] (sp_read t) := by
  refine okX (k := 170) T.F_formula_read sc_formula_read (fun vs H Q E h => by
    unfold sp_read at h
    split at h
    · rfl
    · exact h.elim) (fun cdv A outer s H0 E0 vs H Q E hr hE h => ⟨_, (qss_cons (qs_set (i := 1) sc_formula_read.nd rfl (by first | exact Or.inl rfl | exact Or.inr rfl) (qe_make T.mk_Reader (G_Reader_init T) (hr.mono (by decide)) rfl T.g_Reader T.B_Reader_init (qa_cons (qv 0) qa_nil)))
    (qss_cons (qs_set (i := 2) sc_formula_read.nd rfl (by first | exact Or.inl rfl | exact Or.inr rfl) (qe_meth0X rfl plain_cx hE (qv 1) T.cl_Reader T.m_Reader_formula (G_Reader_formula T 81) (hr.mono (by decide)) T.B_Reader_formula))
    (qss_cons (qs_if (qt_cmp op_lt vr_lt (qe_fld (qv 1) T.cl_Reader T.nf_Reader_place rfl) (qe_callB call_len_str vc_lenS rfl T.b_len PySem.boot_len (qa_cons (qv 0) qa_nil)) (nomark _))
    (qss_one (qs_raiseI rfl plain_cx hE rfl T.xi_NoText (G_NoText_init T) (hr.mono (by decide)) T.B_NoText_init rfl T.g_NoText (qe_fld (qv 1) T.cl_Reader T.nf_Reader_place rfl)))
    qss_nil)
    (qss_one (qs_ret (qv 2)))))), ?_⟩)
  unfold sp_read at h
  split at h
  · rename_i z
    obtain ⟨L, rfl, hl, hc, h⟩ := h
    refine seq_abs fun R hR => ?_
    walk_at "rd"
    refine fun x dx hx hdx nd => ⟨dx, L, rfl, rfl, ?_⟩
    rw [put_put]
    subst hR
    refine seq_abs fun R hR => ?_
    walk_at "rd"
    have rd0 : Rd t (put H x (.ins t.a_Reader dx (RF L 0))) x dx L L := ⟨by rw [Nat.sub_self]; exact put_same, ⟨[], rfl⟩, hl⟩
    refine ⟨⟨_, _, rfl, rfl⟩, dx, L, L, rd0, hc, ?_⟩
    refine out_of (fun f r e => ?_) (fun r e H1 k1 => ?_)
    · rw [put_put]
      rw [e] at h
      subst hR
      walk_at "rd"
      refine ⟨_, _, _, rfl, rfl, ?_⟩
      walk_at "rd"
      refine ⟨line_ge (by omega), ?_⟩
      have le := (rd0.put (lf_ok (Par.lf_F _ _) e)).le
      cases r with
      | nil => exact cif_neg (by simp) ⟨H, (Sub.refl H).put hx, h⟩
      | cons c r =>
        have hlt : L.length - (c :: r).length < L.length := by simp only [List.length_cons] at le ⊢; omega
        refine cif_pos (by simpa using hlt) ⟨_, _, _, rfl, rfl, ?_⟩
        walk_at "rd"
        exact ⟨by omega, by omega, h _ ((Sub.refl H).put hx)⟩
    · rw [e] at h
      exact h H1 (k1.off.sub hx)
  · exact h.elim

theorem G_law_cell_at (T : Tx K mg t) : FnOk' P w K mg base CX0 1 t.a_law_cell_at t.d_law_cell_at ["_law_script", "_law_k"] sp_cell := by
  refine okU (k := 0) T.F_law_cell_at sc_law_cell_at (fun vs H Q E h => by
    unfold sp_cell at h
    split at h
    · rfl
    · exact h.elim) (fun cdv A outer s H E B hr => ⟨_, (qss_cons (qs_if (qt_cmp op_lt vr_lt (qv 1) (qe_callB call_len_seq vc_len rfl T.b_len PySem.boot_len (qa_cons (qv 0) qa_nil)) (nomark _))
    (qss_one (qs_ret (qe_ix (qv 0) (qv 1) (fun _ _ => rfl))))
    qss_nil)
    (qss_one (qs_ret qe_int))), ?_⟩)
  intro vs H Q E h
  unfold sp_cell at h
  split at h
  · rename_i l k
    obtain ⟨⟨h0, h1⟩, ns, rfl, h⟩ := h
    walk_at "rd"
    by_cases hk : k < ns.length
    · refine cif_pos (by rw [List.length_map]; simpa using hk) ?_
      rw [atI_int h0 hk]
      exact ⟨H, Sub.refl _, h⟩
    · refine cif_neg (by rw [List.length_map]; simpa using hk) ⟨H, Sub.refl _, ?_⟩
      rw [List.getD_eq_getElem?_getD, List.getElem?_eq_none (by omega)] at h
      exact h
  · exact h.elim

theorem G_law_mixed (T : Tx K mg t) : FnOk' P w K mg base CX0 1 t.a_law_mixed t.d_law_mixed ["_law_cell", "_law_many"] sp_mixed := by
  refine okU (k := 0) T.F_law_mixed sc_law_mixed (fun vs H Q E h => by
    unfold sp_mixed at h
    split at h
    · rfl
    · exact h.elim) (fun cdv A outer s H E B hr => ⟨_, (qss_cons (qs_set (i := 2) sc_law_mixed.nd rfl (by first | exact Or.inl rfl | exact Or.inr rfl) (qe_lst qa_nil))
    (qss_cons (qs_set (i := 3) sc_law_mixed.nd rfl (by first | exact Or.inl rfl | exact Or.inr rfl) (qe_fdiv (qv 0) qe_int))
    (qss_cons (qs_if (qt_cmp (op_eqU hr.units) vr_eq (qe_mod (qv 0) qe_int) qe_int (nomark _))
    (qss_cons (qs_for PassesOwn.never rfl (qi_range1 rfl T.b_range (qa_cons (qv 1) qa_nil)) (qg_name (i := 4) sc_law_mixed.nd rfl (by first | exact Or.inl rfl | exact Or.inr rfl))
      (qss_cons (qs_expr (qe_bm PySem.F.slot_list_append PySem.F.type_list_append mt_append vm_append (qv 2) (qa_cons (qe_mod (qv 3) qe_int) qa_nil)))
        (qss_one (qs_set (i := 3) sc_law_mixed.nd rfl (by first | exact Or.inl rfl | exact Or.inr rfl) (qe_fdiv (qv 3) qe_int)))))
      (qss_one (qs_ret (qv 2))))
    qss_nil)
    (qss_cons (qs_set (i := 3) sc_law_mixed.nd rfl (by first | exact Or.inl rfl | exact Or.inr rfl) (qe_mod (qe_add (qe_mul (qe_mod (qv 3) qe_int) qe_int) qe_int) qe_int))
    (qss_cons (qs_for PassesOwn.never rfl (qi_range1 rfl T.b_range (qa_cons (qv 1) qa_nil)) (qg_name (i := 4) sc_law_mixed.nd rfl (by first | exact Or.inl rfl | exact Or.inr rfl))
    (qss_cons (qs_set (i := 3) sc_law_mixed.nd rfl (by first | exact Or.inl rfl | exact Or.inr rfl) (qe_mod (qe_add (qe_add (qe_add (qe_mul (qv 3) (qv 3)) (qe_mul qe_int (qv 3))) (qv 4)) qe_int) qe_int))
      (qss_one (qs_expr (qe_bm PySem.F.slot_list_append PySem.F.type_list_append mt_append vm_append (qv 2) (qa_cons (qv 3) qa_nil))))))
    (qss_one (qs_ret (qv 2)))))))), ?_⟩)
  intro vs H Q E h
  unfold sp_mixed at h
  split at h
  · rename_i c m
    obtain ⟨⟨h0, h1⟩, h⟩ := h
    walk_at "rd"
    refine ⟨small_size (by decide), fun p hp => ⟨cdvB (by decide) (by decide), by decide, ?_⟩⟩
    have hs : ∀ (xs : List Int) (i : Nat), xs.length = i → i < m.toNat → (xs.map PV.int).length < sizeLine := fun xs i h1 h2 => by
      rw [List.length_map]; exact small1000 (by omega)
    refine cif_by (fun _ => ⟨⟨by omega, by omega⟩, ?_⟩) (fun _ => ⟨by decide, .inr ⟨?f1, ?f2⟩, by decide, ⟨by omega, by omega⟩, ?_⟩)
    · refine for_rng (fun i σ H2 => ∃ num k xs, σ = [some (.int c), some (.int m), some (.ref p), some (.int num), k] ∧ H2 = put H p (.lst (xs.map PV.int)) ∧ xs.length = i) ?_ ?_ ⟨_, _, [], rfl, rfl, rfl⟩
      · rintro σ H2 ⟨num, k, xs, rfl, rfl, hl⟩
        exact ⟨trivial, _, Sub.refl _, h p xs hp hl⟩
      · rintro G i σ H2 hi ⟨num, k, xs, rfl, rfl, hl⟩ kk
        refine ⟨trivial, ?_⟩
        walk_at "rd"
        exact ⟨⟨_, rfl⟩, by decide, hs xs i hl hi, cdvB (by decide) (by decide), kk _ _ ⟨_, _, xs ++ [num.fmod 5040], rfl, by rw [put_put, List.map_append]; rfl, by rw [List.length_append, hl]; rfl⟩⟩
    case f1 => have := fm (a := c.fdiv 2) (b := 2147483647) (by decide); exact fit64 (by omega)
    case f2 => exact fit64 (by decide)
    · have b0 := fm (a := (c.fdiv 2).fmod 2147483647 * 16807 + 11) (b := 2147483647) (by decide)
      generalize ((c.fdiv 2).fmod 2147483647 * 16807 + 11).fmod 2147483647 = num at *
      refine for_rng (fun i σ H2 => ∃ num k xs, (0 ≤ num ∧ num < 2147483647) ∧ σ = [some (.int c), some (.int m), some (.ref p), some (.int num), k] ∧ H2 = put H p (.lst (xs.map PV.int)) ∧ xs.length = i) ?_ ?_ ⟨_, _, [], b0, rfl, rfl, rfl⟩
      · rintro σ H2 ⟨num, k, xs, _, rfl, rfl, hl⟩
        exact ⟨trivial, _, Sub.refl _, h p xs hp hl⟩
      · rintro G i σ H2 hi ⟨num, k, xs, ⟨b1, b2⟩, rfl, rfl, hl⟩ kk
        refine ⟨trivial, ?_⟩
        walk_at "rd"
        exact ⟨.inr ⟨fit64 (by omega), fit64 (by omega)⟩, .inr ⟨fit64 (by decide), fit64 (by omega)⟩, by decide, ⟨_, rfl⟩, hs xs i hl hi, kk _ _ ⟨_, _, xs ++ [_], fm (by decide), rfl, by rw [put_put, List.map_append]; rfl, by rw [List.length_append, hl]; rfl⟩⟩
  · exact h.elim

theorem G_law_names (T : Tx K mg t) : FnOk' P w K mg base CX0 1 t.a_law_names t.d_law_names ["_law_number", "_law_least"] sp_lnames := by
  refine okU (k := 0) T.F_law_names sc_law_names (fun vs H Q E h => by
    unfold sp_lnames at h
    split at h
    · rfl
    · exact h.elim) (fun cdv A outer s H E B hr => ⟨_, (qss_cons (qs_set (i := 2) sc_law_names.nd rfl (by first | exact Or.inl rfl | exact Or.inr rfl) (qe_callTy call_tuple_of vc_tuple rfl T.b_tuple boot_tuple (qa_cons (qe_comp (N2 := ["_law_name", "_law_number"]) (nt := 1) (js := [0]) (cok (sc := defScope s_law_names) (by exact rfl) (by repeat (first | exact trivial | refine ⟨rfl, ?_⟩)) rfl (by rfl) (by decide +kernel) (by decide +kernel) (by rfl) (by decide +kernel) (by rfl) (by rfl)) rfl (qi_range1 rfl T.b_range (qa_cons qe_int qa_nil)) (fun s0 H0 fp ps => ⟨(qg_name (i := 0) (show List.Nodup (["_law_name", "_law_number"] : List Str) by decide +kernel) rfl (by first | exact Or.inl rfl | exact Or.inr rfl)), (qif_one (qt_cmp (op_eqU hr.units) vr_eq (qe_band (qe_shr (qv 1) (qv 0)) qe_int) qe_int (nomark _))), (qv 0)⟩)) qa_nil)))
    (qss_cons (qs_if (qt_cmp op_lt vr_lt (qe_callB call_len_seq vc_len rfl T.b_len PySem.boot_len (qa_cons (qv 2) qa_nil)) (qv 1) (nomark _))
    (qss_one (qs_ret (qe_tup (qa_cons (qe_mod (qe_fdiv (qv 0) qe_int) qe_int) qa_nil))))
    qss_nil)
    (qss_one (qs_ret (qv 2))))), ?_⟩)
  intro vs H Q E h
  unfold sp_lnames at h
  split at h
  · rename_i n m
    obtain ⟨⟨m0, m1⟩, h⟩ := h
    refine seq_abs fun R hR => ?_
    walk_at "rd"
    refine ⟨⟨by decide, by decide⟩, fun acc hacc => ?_⟩
    rw [rng_ul]
    refine comp_pure (fun y => y) (onI fun u => Builtin.bitAnd (n / 2 ^ u.toNat) 1 == 1) (fun σ => ∃ z, σ = [z, some (.int n)]) (by rw [List.length_map, ul_len]; decide) (fun _ => trivial) ?_ ?_ ⟨_, rfl⟩
    · rintro y hy l σ R ⟨z, rfl⟩ hl kT kF
      obtain ⟨u, hu, rfl⟩ := List.mem_map.mp hy
      have u0 := (mem_ulN.mp hu).1
      dsimp only [onI] at kT kF
      walk_at "rd"
      refine ⟨u0, cif_by (fun q => ?_) (fun q => ?_)⟩
      · exact ⟨hl, by rw [put_put]; exact kT q _ ⟨_, rfl⟩⟩
      · exact kF q _ ⟨_, rfl⟩
    rw [ints_filter]
    have hL : Nm ((ulN 6).filter fun u => Builtin.bitAnd (n / 2 ^ u.toNat) 1 == 1) := ⟨(ul_up 6).filter _, fun x hx => mem_ulN.mp (List.mem_filter.mp hx).1⟩
    generalize ((ulN 6).filter fun u => Builtin.bitAnd (n / 2 ^ u.toNat) 1 == 1) = L at *
    refine ⟨_, put_same, ?_⟩
    subst hR
    walk_at "rd"
    have f6 := fm (a := n.fdiv 64) (b := 6) (by decide)
    rw [List.length_map]
    refine cif_by (fun q => ?_) (fun q => ?_)
    · exact ⟨cdvB (by decide) (by decide), by decide, small_size (by decide), H, (Sub.refl H).put hacc, h [_] ⟨List.pairwise_singleton _ _, fun z hz => by rw [List.mem_singleton.mp hz]; exact f6⟩ (fun _ => by simp)⟩
    · refine ⟨H, (Sub.refl H).put hacc, h L hL fun e => ?_⟩
      rintro rfl
      simp at q
      omega
  · exact h.elim

theorem G_law_formula_text0 (T : Tx K mg t) : FnOk' P w K mg base CX0 (1) t.a_law_formula_text t.d_law_formula_text ["_law_formula_here"] (sp_text 0) := by
  refine okU (k := 0) T.F_law_formula_text sc_law_formula_text (fun vs H Q E h => by
    unfold sp_text at h
    split at h
    · rfl
    · exact h.elim) (fun cdv A outer s H E B hr => ⟨_, qss_never, ?_⟩)
  intro vs H Q E h
  unfold sp_text at h
  split at h
  · obtain ⟨f, _, hd, _⟩ := h
    omega
  · exact h.elim
theorem G_law_formula_textS (T : Tx K mg t) {n : Nat} (ih : FnOk' P w K mg base CX0 (n + 1) t.a_law_formula_text t.d_law_formula_text ["_law_formula_here"] (sp_text n)) : FnOk' P w K mg base CX0 (n + 2) t.a_law_formula_text t.d_law_formula_text ["_law_formula_here"] (sp_text (n + 1)) := by
  refine okU (k := n + 1) T.F_law_formula_text sc_law_formula_text (fun vs H Q E h => by
    unfold sp_text at h
    split at h
    · rfl
    · exact h.elim) (fun cdv A outer s H E B hr => ⟨_, (qss_cons (qs_set (i := 1) sc_law_formula_text.nd rfl (by first | exact Or.inl rfl | exact Or.inr rfl) (qe_ix (qv 0) qe_int (fun _ _ => rfl)))
    (qss_cons (qs_if (qt_cmp (op_eqU hr.units) vr_eq (qv 1) qe_str (nomark _))
    (qss_one (qs_ret qe_str))
    qss_nil)
    (qss_cons (qs_if (qt_cmp (op_eqU hr.units) vr_eq (qv 1) qe_str (nomark _))
    (qss_one (qs_ret (qe_addS (qe_addS qe_str (qe_bmS PySem.F.plainAttrs_str PySem.F.slot_str_join PySem.F.type_str_join mt_join vm_join qe_str (qa_cons (qe_comp (N2 := ["_law_name"]) (nt := 1) (js := []) (cok (sc := defScope s_law_formula_text) (by exact rfl) (by repeat (first | exact trivial | refine ⟨rfl, ?_⟩)) rfl (by rfl) (by decide +kernel) (by decide +kernel) (by rfl) (by decide +kernel) (by rfl) (by rfl)) rfl (qi_seq (qe_ix (qv 0) qe_int (fun _ _ => rfl))) (fun s0 H0 fp ps => ⟨(qg_name (i := 0) (show List.Nodup (["_law_name"] : List Str) by decide +kernel) rfl (by first | exact Or.inl rfl | exact Or.inr rfl)), qif_nil, (qe_ixS qe_str (qv 0) (fun _ _ => rfl))⟩)) qa_nil))) qe_str)))
    qss_nil)
    (qss_cons (qs_if (qt_cmp (op_eqU hr.units) vr_eq (qv 1) qe_str (nomark _))
    (qss_cons (qs_set (i := 2) sc_law_formula_text.nd rfl (by first | exact Or.inl rfl | exact Or.inr rfl) (qe_bmS PySem.F.plainAttrs_str PySem.F.slot_str_join PySem.F.type_str_join mt_join vm_join qe_str (qa_cons (qe_comp (N2 := ["_law_name"]) (nt := 1) (js := []) (cok (sc := defScope s_law_formula_text) (by exact rfl) (by repeat (first | exact trivial | refine ⟨rfl, ?_⟩)) rfl (by rfl) (by decide +kernel) (by decide +kernel) (by rfl) (by decide +kernel) (by rfl) (by rfl)) rfl (qi_seq (qe_ix (qv 0) qe_int (fun _ _ => rfl))) (fun s0 H0 fp ps => ⟨(qg_name (i := 0) (show List.Nodup (["_law_name"] : List Str) by decide +kernel) rfl (by first | exact Or.inl rfl | exact Or.inr rfl)), qif_nil, (qe_ixS qe_str (qv 0) (fun _ _ => rfl))⟩)) qa_nil)))
      (qss_one (qs_ret (qe_addS (qe_addS (qe_addS (qe_addS qe_str (qv 2)) qe_str) (qe_call ih (hr.mono (by omega)) rfl T.g_law_formula_text T.F_law_formula_text.kp T.B_law_formula_text (qa_cons (qe_ix (qv 0) qe_int (fun _ _ => rfl)) qa_nil))) qe_str))))
    qss_nil)
    (qss_cons (qs_set (i := 3) sc_law_formula_text.nd rfl (by first | exact Or.inl rfl | exact Or.inr rfl) (qe_ix (qe_lst (qa_cons qe_str (qa_cons qe_str qa_nil))) (qe_callTy call_int1 vc_int rfl T.b_int boot_int (qa_cons (qe_cmp (op_eqU hr.units) vr_eq (qv 1) qe_str (nomark _)) qa_nil)) (fun _ _ => rfl)))
    (qss_one (qs_ret (qe_addS (qe_addS (qe_addS (qe_addS qe_str (qe_call ih (hr.mono (by omega)) rfl T.g_law_formula_text T.F_law_formula_text.kp T.B_law_formula_text (qa_cons (qe_ix (qv 0) qe_int (fun _ _ => rfl)) qa_nil))) (qv 3)) (qe_call ih (hr.mono (by omega)) rfl T.g_law_formula_text T.F_law_formula_text.kp T.B_law_formula_text (qa_cons (qe_ix (qv 0) qe_int (fun _ _ => rfl)) qa_nil))) qe_str)))))))), ?_⟩)
  intro vs H Q E h
  unfold sp_text at h
  split at h
  · rename_i v
    obtain ⟨f, rfl, hd, ok, hz, h⟩ := h
    have jn : ∀ (ns : List Int), Nm ns → ∀ (acc : Addr) (H1 : PHp) (G : St' → PHp → Prop), True := fun _ _ _ _ _ => trivial
    cases f with
    | one =>
      unfold fV
      walk_at "rd"
      exact cif_pos (by decide) ⟨H, Sub.refl _, h⟩
    | seen ns =>
      unfold fV
      have ll := lets_len ns
      have l6 := ok.len
      walk_at "rd"
      refine cif_neg (by decide) (cif_pos (by decide) fun acc hacc => ?_)
      refine comp_pure (fun y => tx [ltr (iOf y)]) (fun _ => true) (fun σ => ∃ z, σ = [z]) (by rw [List.length_map]; omega) (fun _ => trivial) ?_ ?_ ⟨_, rfl⟩
      · rintro y hy l σ R ⟨z, rfl⟩ hl kT kF
        obtain ⟨u, hu, rfl⟩ := List.mem_map.mp hy
        have u6 := ok.2 u hu
        walk_at "rd"
        exact ⟨line_ge (by decide), _, abc_at u6.1 u6.2, hl, by rw [put_put]; exact kT rfl _ ⟨_, rfl⟩⟩
      rw [let_map]
      walk_at "rd"
      refine ⟨_, rfl, by decide, ?_, ?_⟩
      · rw [List.map_map, sum_ones, List.length_map]
        omega
      rw [join_lets]
      try walk_at "rd"
      refine ⟨line_ge (by first | omega | (simp only [List.length_append, List.length_cons, List.length_nil]; omega)), line_ge (by first | omega | (simp only [List.length_append, List.length_cons, List.length_nil]; omega)), H, (Sub.refl H).put hacc, ?_⟩
      simpa [txt] using h
    | sum ns f =>
      unfold fV
      have ll := lets_len ns
      have l6 := ok.1.1.len
      have da := hd
      simp only [dp] at da
      have hz2 := hz
      simp only [txt, List.length_append, List.length_cons, List.length_nil] at hz2
      walk_at "rd"
      refine cif_neg (by decide) (cif_neg (by decide) (cif_pos (by decide) fun acc hacc => ?_))
      refine comp_pure (fun y => tx [ltr (iOf y)]) (fun _ => true) (fun σ => ∃ z, σ = [z]) (by rw [List.length_map]; omega) (fun _ => trivial) ?_ ?_ ⟨_, rfl⟩
      · rintro y hy l σ R ⟨z, rfl⟩ hl kT kF
        obtain ⟨u, hu, rfl⟩ := List.mem_map.mp hy
        have u6 := ok.1.1.2 u hu
        walk_at "rd"
        exact ⟨line_ge (by decide), _, abc_at u6.1 u6.2, hl, by rw [put_put]; exact kT rfl _ ⟨_, rfl⟩⟩
      rw [let_map]
      walk_at "rd"
      refine ⟨_, rfl, by decide, ?_, ?_⟩
      · rw [List.map_map, sum_ones, List.length_map]
        omega
      rw [join_lets]
      try walk_at "rd"
      refine ⟨line_ge (by first | omega | (simp only [List.length_append, List.length_cons, List.length_nil]; omega)), line_ge (by first | omega | (simp only [List.length_append, List.length_cons, List.length_nil]; omega)), f, rfl, by omega, ok.2, by omega, ?_⟩
      try walk_at "rd"
      refine ⟨line_ge (by first | omega | (simp only [List.length_append, List.length_cons, List.length_nil]; omega)), line_ge (by first | omega | (simp only [List.length_append, List.length_cons, List.length_nil]; omega)), H, (Sub.refl H).put hacc, ?_⟩
      simpa [txt] using h
    | times a b =>
      unfold fV
      walk_at "rd"
      have da := hd
      simp only [dp] at da
      have hz2 := hz
      simp only [txt, List.length_append, List.length_cons, List.length_nil] at hz2
      refine cif_neg (by decide) (cif_neg (by decide) (cif_neg (by decide) ⟨small_size (by decide), fun r hr => ?_⟩))
      try walk_at "rd"
      first | rw [ix_t] | rw [ix_o]
      try walk_at "rd"
      refine ⟨a, rfl, by omega, ok.1, by omega, ?_⟩
      try walk_at "rd"
      refine ⟨line_ge (by first | omega | (simp only [List.length_append, List.length_cons, List.length_nil]; omega)), line_ge (by first | omega | (simp only [List.length_append, List.length_cons, List.length_nil]; omega)), b, rfl, by omega, ok.2, by omega, ?_⟩
      try walk_at "rd"
      refine ⟨line_ge (by first | omega | (simp only [List.length_append, List.length_cons, List.length_nil]; omega)), line_ge (by first | omega | (simp only [List.length_append, List.length_cons, List.length_nil]; omega)), H, (Sub.refl H).put hr, ?_⟩
      simpa [txt] using h
    | over a b =>
      unfold fV
      walk_at "rd"
      have da := hd
      simp only [dp] at da
      have hz2 := hz
      simp only [txt, List.length_append, List.length_cons, List.length_nil] at hz2
      refine cif_neg (by decide) (cif_neg (by decide) (cif_neg (by decide) ⟨small_size (by decide), fun r hr => ?_⟩))
      try walk_at "rd"
      first | rw [ix_t] | rw [ix_o]
      try walk_at "rd"
      refine ⟨a, rfl, by omega, ok.1, by omega, ?_⟩
      try walk_at "rd"
      refine ⟨line_ge (by first | omega | (simp only [List.length_append, List.length_cons, List.length_nil]; omega)), line_ge (by first | omega | (simp only [List.length_append, List.length_cons, List.length_nil]; omega)), b, rfl, by omega, ok.2, by omega, ?_⟩
      try walk_at "rd"
      refine ⟨line_ge (by first | omega | (simp only [List.length_append, List.length_cons, List.length_nil]; omega)), line_ge (by first | omega | (simp only [List.length_append, List.length_cons, List.length_nil]; omega)), H, (Sub.refl H).put hr, ?_⟩
      simpa [txt] using h
  · exact h.elim
theorem G_law_formula_text (T : Tx K mg t) : ∀ n, FnOk' P w K mg base CX0 (n + 1) t.a_law_formula_text t.d_law_formula_text ["_law_formula_here"] (sp_text n)
  | 0 => G_law_formula_text0 T
  | n + 1 => G_law_formula_textS T (G_law_formula_text T n)

theorem G_law_formula (T : Tx K mg t) : FnOk' P w K mg base CX0 2 t.a_law_formula t.d_law_formula ["_law_script", "_law_at", "_law_many"] sp_lformula := by
  refine okU (k := 1) T.F_law_formula sc_law_formula (fun vs H Q E h => by
    unfold sp_lformula at h
    split at h
    · rfl
    · exact h.elim) (fun cdv A outer s H E B hr => ⟨_, (qss_cons (qs_set (i := 3) sc_law_formula.nd rfl (by first | exact Or.inl rfl | exact Or.inr rfl) (qe_lst qa_nil))
    (qss_cons (qs_for PassesOwn.never rfl (qi_range1 rfl T.b_range (qa_cons (qv 2) qa_nil)) (qg_name (i := 4) sc_law_formula.nd rfl (by first | exact Or.inl rfl | exact Or.inr rfl))
    (qss_cons (qs_set (i := 5) sc_law_formula.nd rfl (by first | exact Or.inl rfl | exact Or.inr rfl) (qe_call (G_law_cell_at T) (hr.mono (by decide)) rfl T.g_law_cell_at T.F_law_cell_at.kp T.B_law_cell_at (qa_cons (qv 0) (qa_cons (qe_add (qv 1) (qv 4)) qa_nil))))
      (qss_cons (qs_set (i := 6) sc_law_formula.nd rfl (by first | exact Or.inl rfl | exact Or.inr rfl) (qe_call (G_law_mixed T) (hr.mono (by decide)) rfl T.g_law_mixed T.F_law_mixed.kp T.B_law_mixed (qa_cons (qv 5) (qa_cons qe_int qa_nil))))
      (qss_one (qs_if (qt_bool (qw_and (qt_cmp op_gt vr_gt (qe_callB call_len_seq vc_len rfl T.b_len PySem.boot_len (qa_cons (qv 3) qa_nil)) qe_int (nomark _)) (qw_and1 (qt_cmp op_lt vr_lt (qe_mod (qe_ix (qv 6) qe_int (fun _ _ => rfl)) qe_int) qe_int (nomark _)))))
      (qss_cons (qs_set (i := 7) sc_law_formula.nd rfl (by first | exact Or.inl rfl | exact Or.inr rfl) (qe_bm0 PySem.F.slot_list_pop PySem.F.type_list_pop mt_pop vm_pop hl_pop (qv 3)))
        (qss_one (qs_asg (qe_tup (qa_cons (qe_ix (qe_lst (qa_cons qe_str (qa_cons qe_str qa_nil))) (qe_mod (qe_ix (qv 6) qe_int (fun _ _ => rfl)) qe_int) (fun _ _ => rfl)) (qa_cons (qe_ix (qv 3) (qe_neg qe_int) (fun _ _ => rfl)) (qa_cons (qv 7) qa_nil)))) (qg_sub (qv 3) (qe_neg qe_int)))))
      (qss_one (qs_if (qt_bool (qw_and (qt_cmp op_gt vr_gt (qe_callB call_len_seq vc_len rfl T.b_len PySem.boot_len (qa_cons (qv 3) qa_nil)) qe_int (nomark _)) (qw_and1 (qt_cmp (op_eqU hr.units) vr_eq (qe_mod (qe_ix (qv 6) qe_int (fun _ _ => rfl)) qe_int) qe_int (nomark _)))))
        (qss_one (qs_asg (qe_tup (qa_cons qe_str (qa_cons (qe_call (G_law_names T) (hr.mono (by decide)) rfl T.g_law_names T.F_law_names.kp T.B_law_names (qa_cons (qe_ix (qv 6) qe_int (fun _ _ => rfl)) (qa_cons qe_int qa_nil))) (qa_cons (qe_ix (qv 3) (qe_neg qe_int) (fun _ _ => rfl)) qa_nil)))) (qg_sub (qv 3) (qe_neg qe_int))))
        (qss_one (qs_if (qt_cmp (op_eqU hr.units) vr_eq (qe_mod (qe_ix (qv 6) qe_int (fun _ _ => rfl)) qe_int) qe_int (nomark _))
          (qss_one (qs_expr (qe_bm PySem.F.slot_list_append PySem.F.type_list_append mt_append vm_append (qv 3) (qa_cons (qe_tup (qa_cons qe_str qa_nil)) qa_nil))))
          (qss_one (qs_expr (qe_bm PySem.F.slot_list_append PySem.F.type_list_append mt_append vm_append (qv 3) (qa_cons (qe_tup (qa_cons qe_str (qa_cons (qe_call (G_law_names T) (hr.mono (by decide)) rfl T.g_law_names T.F_law_names.kp T.B_law_names (qa_cons (qe_ix (qv 6) qe_int (fun _ _ => rfl)) (qa_cons qe_int qa_nil))) qa_nil))) qa_nil)))))))))))))
    (qss_cons (qs_while PassesOwn.never (qt_cmp op_gt vr_gt (qe_callB call_len_seq vc_len rfl T.b_len PySem.boot_len (qa_cons (qv 3) qa_nil)) qe_int (nomark _))
    (qss_cons (qs_set (i := 7) sc_law_formula.nd rfl (by first | exact Or.inl rfl | exact Or.inr rfl) (qe_bm0 PySem.F.slot_list_pop PySem.F.type_list_pop mt_pop vm_pop hl_pop (qv 3)))
      (qss_one (qs_asg (qe_tup (qa_cons (qe_ix (qe_lst (qa_cons qe_str (qa_cons qe_str qa_nil))) (qe_mod (qe_callB call_len_seq vc_len rfl T.b_len PySem.boot_len (qa_cons (qv 3) qa_nil)) qe_int) (fun _ _ => rfl)) (qa_cons (qe_ix (qv 3) (qe_neg qe_int) (fun _ _ => rfl)) (qa_cons (qv 7) qa_nil)))) (qg_sub (qv 3) (qe_neg qe_int))))))
    (qss_one (qs_ret (qe_ix (qv 3) qe_int (fun _ _ => rfl))))))), ?_⟩)
  intro vs H Q E h
  unfold sp_lformula at h
  split at h
  · rename_i l k m
    obtain ⟨rfl, ⟨m1, m45⟩, ns, rfl, h⟩ := h
    refine seq_abs fun R hR => ?_
    walk_at "rd"
    refine ⟨small_size (by decide), fun p hp => ?_⟩
    subst hR
    refine seq_abs fun R hR => ?_
    walk_at "rd"
    refine ⟨⟨by omega, by omega⟩, ?_⟩
    refine for_rngD (fun i σ H2 => ∃ z1 z2 z3 z4 fs, σ = [some (.fls (ns.map PV.int)), some (.int 2), some (.int m), some (.ref p), z1, z2, z3, z4] ∧ U.Sub H H2 ∧ H2 p = some (.lst (fs.map fV)) ∧ Pile i fs) ?_ ?_ ⟨none, none, none, none, [], rfl, (Sub.refl H).put hp, put_same, Pile.nil⟩
    · rintro σ H2 ⟨z1, z2, z3, z4, fs, rfl, s2, hp2, pl⟩
      refine ⟨trivial, ?_⟩
      subst hR
      dsimp only
      refine seq_abs fun R hR => ?_
      walk_at "rd"
      refine while_by (fun n σ H3 => ∃ z4 fs, n = fs.length ∧ σ = [some (.fls (ns.map PV.int)), some (.int 2), some (.int m), some (.ref p), z1, z2, z3, z4] ∧ U.Sub H H3 ∧ H3 p = some (.lst (fs.map fV)) ∧ Pile m.toNat fs) fs.length ⟨z4, fs, rfl, rfl, s2, hp2, pl⟩ ?_
      rintro n σ H3 ⟨z4, fs, rfl, rfl, s3, hp3, pl⟩
      walk_at "rd"
      refine ⟨_, hp3, ?_⟩
      rw [List.length_map]
      refine cif_by (fun q => ?_) (fun q => ?_)
      · obtain ⟨gs, a, b, rfl⟩ := two_last (fs := fs) (by have : (1 : Int) < fs.length := by simpa using q
                                                          omega)
        refine ⟨_, fun σ' H' hN => ⟨(gs ++ [a]).length, by simp, hN⟩, ?_⟩
        have hpop := pop_fl (gs := gs) (a := a) (b := b)
        have oa := pl.ok a (by simp)
        have ob := pl.ok b (by simp)
        refine ⟨_, _, hp3, hpop.1, ?_⟩
        rw [hpop.2]
        try walk_at "rd"
        refine ⟨small_size (by decide), fun r hr => ?_⟩
        have npr : p ≠ r := fun e => by subst e; rw [put_same] at hr; cases hr
        have hp4 : put (put H3 p (.lst ((gs ++ [a]).map fV))) r (.lst [.str "times", .str "over"]) p = some (.lst ((gs ++ [a]).map fV)) := (put_ne npr).trans put_same
        have s4 : U.Sub H (put (put H3 p (.lst ((gs ++ [a]).map fV))) r (.lst [.str "times", .str "over"])) := (s3.put hp).put ((s3.put hp).free hr)
        generalize put (put H3 p (.lst ((gs ++ [a]).map fV))) r (.lst [.str "times", .str "over"]) = H4 at *
        try walk_at "rd"
        refine ⟨_, hp4, by decide, ?_⟩
        have f2 := fm (a := ((((gs ++ [a]).map fV).length : Nat) : Int)) (b := 2) (by decide)
        rcases ix2 f2.1 f2.2 with ⟨_, e⟩ | ⟨_, e⟩
        · rw [e]
          try walk_at "rd"
          refine ⟨_, hp4, ?_⟩
          rw [atI_fl]
          try walk_at "rd"
          refine ⟨small_size (by decide), _, _, hp4, len_fl, ?_⟩
          exact ⟨_, gs ++ [.times a b], by simp, rfl, s4.put hp, set_fl (b := .times a b), pl.two (c := .times a b) (Nat.le_refl _) ⟨oa, ob⟩ (by simp only [dp]; omega) (by simp only [txt, List.length_append, List.length_cons, List.length_nil]; omega) ct_times⟩
        · rw [e]
          try walk_at "rd"
          refine ⟨_, hp4, ?_⟩
          rw [atI_fl]
          try walk_at "rd"
          refine ⟨small_size (by decide), _, _, hp4, len_fl, ?_⟩
          exact ⟨_, gs ++ [.over a b], by simp, rfl, s4.put hp, set_fl (b := .over a b), pl.two (c := .over a b) (Nat.le_refl _) ⟨oa, ob⟩ (by simp only [dp]; omega) (by simp only [txt, List.length_append, List.length_cons, List.length_nil]; omega) ct_over⟩
      · have nf := pl.ne (by omega)
        obtain ⟨gs, a, rfl⟩ := one_last (fs := fs) (List.length_pos_iff.mpr nf)
        have : gs = [] := by
          have : ¬ (1 : Int) < ((gs ++ [a]).length : Nat) := by simpa using q
          rw [List.length_append] at this
          simp at this
          exact List.length_eq_zero_iff.mp (by omega)
        subst this
        subst hR
        have w1 := pl.w
        have d1 := pl.d
        have cc1 := pl.c
        simp only [List.nil_append, List.map_cons, List.map_nil, List.sum_cons, List.sum_nil, wt, dq, ct] at w1 d1 cc1 hp3
        walk_at "rd"
        refine ⟨_, hp3, ?_⟩
        try walk_at "rd"
        exact ⟨H, s3, h a (pl.ok a (by simp)) (by omega) (by omega) (by omega)⟩
    · rintro D i σ H2 hi ⟨z1, z2, z3, z4, fs, rfl, s2, hp2, pl⟩ kk
      refine ⟨trivial, ?_⟩
      simp only [vName, List.set_cons_zero, List.set_cons_succ]
      refine seq_abs fun R hR => ?_
      walk_at "rd"
      refine ⟨⟨by omega, by omega⟩, ns, rfl, ?_⟩
      subst hR
      refine seq_abs fun R hR => ?_
      walk_at "rd"
      refine ⟨⟨by decide, by decide⟩, fun q xs hq hxs => ?_⟩
      subst hR
      have npq : p ≠ q := ne_none hp2 hq
      have s3 := s2.put (o := .lst (xs.map PV.int)) (s2.free hq)
      have hp3 : put H2 q (.lst (xs.map PV.int)) p = some (.lst (fs.map fV)) := (put_ne npq).trans hp2
      have hq3 : put H2 q (.lst (xs.map PV.int)) q = some (.lst (xs.map PV.int)) := put_same
      generalize put H2 q (.lst (xs.map PV.int)) = H3 at *
      obtain ⟨x0, x1, rfl⟩ : ∃ x0 x1, xs = [x0, x1] := by
        match xs, hxs with
        | [a, b], _ => exact ⟨a, b, rfl⟩
      simp only [List.map_cons, List.map_nil] at hq3
      have d6 := fm (a := x0) (b := 6) (by decide)
      have ls : (fs.map fV).length < sizeLine := by rw [List.length_map]; exact small1000 (by have := pl.len; omega)
      walk_at "rd"
      refine ⟨_, hp3, ?_⟩
      rw [List.length_map]
      refine cif_by (fun q1 => ?_) (fun q1 => ?_)
      · refine ⟨_, hq3, ?_⟩
        try walk_at "rd"
        refine ⟨by decide, cif_by (fun q2 => ?_) (fun q2 => ?_)⟩
        · obtain ⟨gs, a, b, rfl⟩ := two_last (fs := fs) (by have : (1 : Int) < fs.length := by simpa using q1
                                                            omega)
          have hpop := pop_fl (gs := gs) (a := a) (b := b)
          have oa := pl.ok a (by simp)
          have ob := pl.ok b (by simp)
          refine ⟨_, _, hp3, hpop.1, ?_⟩
          rw [hpop.2]
          try walk_at "rd"
          refine ⟨small_size (by decide), fun r hr => ?_⟩
          have npr : p ≠ r := fun e => by subst e; rw [put_same] at hr; cases hr
          have hq4' : put H3 p (.lst ((gs ++ [a]).map fV)) q = some (.lst [.int x0, .int x1]) := (put_ne npq.symm).trans hq3
          have nqr : q ≠ r := ne_none hq4' hr
          have hp4 : put (put H3 p (.lst ((gs ++ [a]).map fV))) r (.lst [.str "times", .str "over"]) p = some (.lst ((gs ++ [a]).map fV)) := (put_ne npr).trans put_same
          have hq4 : put (put H3 p (.lst ((gs ++ [a]).map fV))) r (.lst [.str "times", .str "over"]) q = some (.lst [.int x0, .int x1]) := (put_ne nqr).trans hq4'
          have s4 : U.Sub H (put (put H3 p (.lst ((gs ++ [a]).map fV))) r (.lst [.str "times", .str "over"])) := (s3.put hp).put ((s3.put hp).free hr)
          generalize put (put H3 p (.lst ((gs ++ [a]).map fV))) r (.lst [.str "times", .str "over"]) = H4 at *
          try walk_at "rd"
          refine ⟨_, hq4, ?_⟩
          try walk_at "rd"
          refine ⟨by decide, ?_⟩
          rcases ix2 d6.1 (by have : x0.fmod 6 < 2 := by simpa using q2
                              exact this) with ⟨_, e⟩ | ⟨_, e⟩
          · rw [e]
            try walk_at "rd"
            refine ⟨_, hp4, ?_⟩
            rw [atI_fl]
            try walk_at "rd"
            refine ⟨small_size (by decide), _, _, hp4, len_fl, ?_⟩
            exact kk _ _ ⟨_, _, _, _, gs ++ [.times a b], rfl, s4.put hp, by rw [put_same]; exact congrArg (fun z => some (PO.lst z)) (set_fl (b := .times a b)), pl.two (c := .times a b) (Nat.le_succ _) ⟨oa, ob⟩ (by simp only [dp]; omega) (by simp only [txt, List.length_append, List.length_cons, List.length_nil]; omega) ct_times⟩
          · rw [e]
            try walk_at "rd"
            refine ⟨_, hp4, ?_⟩
            rw [atI_fl]
            try walk_at "rd"
            refine ⟨small_size (by decide), _, _, hp4, len_fl, ?_⟩
            exact kk _ _ ⟨_, _, _, _, gs ++ [.over a b], rfl, s4.put hp, by rw [put_same]; exact congrArg (fun z => some (PO.lst z)) (set_fl (b := .over a b)), pl.two (c := .over a b) (Nat.le_succ _) ⟨oa, ob⟩ (by simp only [dp]; omega) (by simp only [txt, List.length_append, List.length_cons, List.length_nil]; omega) ct_over⟩
        · refine ⟨_, hp3, ?_⟩
          rw [List.length_map]
          refine cif_by (fun q3 => ?_) (fun q3 => ?_)
          · refine ⟨_, hq3, ?_⟩
            try walk_at "rd"
            refine ⟨by decide, cif_by (fun q4 => ?_) (fun q4 => ?_)⟩
            · have q3' : (0 : Int) < fs.length := by simpa using q3
              obtain ⟨gs, a, rfl⟩ := one_last (fs := fs) (by omega)
              refine ⟨_, hq3, ?_⟩
              try walk_at "rd"
              refine ⟨⟨by decide, by decide⟩, fun L hL hne => ⟨_, hp3, ?_⟩⟩
              rw [atI_fl]
              try walk_at "rd"
              refine ⟨small_size (by decide), _, _, hp3, len_fl, ?_⟩
              refine kk _ _ ⟨_, _, _, _, gs ++ [.sum L a], rfl, s3.put hp, by rw [put_same]; exact congrArg (fun z => some (PO.lst z)) (set_fl (b := .sum L a)), pl.last (b := .sum L a) ⟨⟨hL, hne trivial⟩, pl.ok a (by simp)⟩ (by simp only [dp]; omega) ?_ (ct_sum hL)⟩
              have l1 := lets_len L
              have l2 := hL.len
              simp only [txt, List.length_append, List.length_cons, List.length_nil]
              omega
            · refine ⟨_, hq3, ?_⟩
              try walk_at "rd"
              refine ⟨by decide, cif_by (fun _ => ?_) (fun _ => ?_)⟩
              · refine ⟨⟨_, hp3⟩, small_size (by decide), _, hp3, ls, ?_⟩
                exact kk _ _ ⟨_, _, _, _, fs ++ [.one], rfl, s3.put hp, by rw [put_same, List.map_append]; rfl, pl.push (f := .one) trivial rfl (by decide) ct_one⟩
              · refine ⟨⟨_, hp3⟩, _, hq3, ?_⟩
                try walk_at "rd"
                refine ⟨⟨by decide, by decide⟩, fun L hL _ => ⟨small_size (by decide), _, hp3, ls, ?_⟩⟩
                refine kk _ _ ⟨_, _, _, _, fs ++ [.seen L], rfl, s3.put hp, by rw [put_same, List.map_append]; rfl, pl.push (f := .seen L) hL rfl ?_ (ct_seen hL)⟩
                have l1 := lets_len L
                have l2 := hL.len
                simp only [txt, List.length_append, List.length_cons, List.length_nil]
                omega
          · refine ⟨_, hq3, ?_⟩
            try walk_at "rd"
            refine ⟨by decide, cif_by (fun _ => ?_) (fun _ => ?_)⟩
            · refine ⟨⟨_, hp3⟩, small_size (by decide), _, hp3, ls, ?_⟩
              exact kk _ _ ⟨_, _, _, _, fs ++ [.one], rfl, s3.put hp, by rw [put_same, List.map_append]; rfl, pl.push (f := .one) trivial rfl (by decide) ct_one⟩
            · refine ⟨⟨_, hp3⟩, _, hq3, ?_⟩
              try walk_at "rd"
              refine ⟨⟨by decide, by decide⟩, fun L hL _ => ⟨small_size (by decide), _, hp3, ls, ?_⟩⟩
              refine kk _ _ ⟨_, _, _, _, fs ++ [.seen L], rfl, s3.put hp, by rw [put_same, List.map_append]; rfl, pl.push (f := .seen L) hL rfl ?_ (ct_seen hL)⟩
              have l1 := lets_len L
              have l2 := hL.len
              simp only [txt, List.length_append, List.length_cons, List.length_nil]
              omega
      · refine ⟨_, hp3, ?_⟩
        rw [List.length_map]
        refine cif_by (fun q3 => ?_) (fun q3 => ?_)
        · refine ⟨_, hq3, ?_⟩
          try walk_at "rd"
          refine ⟨by decide, cif_by (fun q4 => ?_) (fun q4 => ?_)⟩
          · have q3' : (0 : Int) < fs.length := by simpa using q3
            obtain ⟨gs, a, rfl⟩ := one_last (fs := fs) (by omega)
            refine ⟨_, hq3, ?_⟩
            try walk_at "rd"
            refine ⟨⟨by decide, by decide⟩, fun L hL hne => ⟨_, hp3, ?_⟩⟩
            rw [atI_fl]
            try walk_at "rd"
            refine ⟨small_size (by decide), _, _, hp3, len_fl, ?_⟩
            refine kk _ _ ⟨_, _, _, _, gs ++ [.sum L a], rfl, s3.put hp, by rw [put_same]; exact congrArg (fun z => some (PO.lst z)) (set_fl (b := .sum L a)), pl.last (b := .sum L a) ⟨⟨hL, hne trivial⟩, pl.ok a (by simp)⟩ (by simp only [dp]; omega) ?_ (ct_sum hL)⟩
            have l1 := lets_len L
            have l2 := hL.len
            simp only [txt, List.length_append, List.length_cons, List.length_nil]
            omega
          · refine ⟨_, hq3, ?_⟩
            try walk_at "rd"
            refine ⟨by decide, cif_by (fun _ => ?_) (fun _ => ?_)⟩
            · refine ⟨⟨_, hp3⟩, small_size (by decide), _, hp3, ls, ?_⟩
              exact kk _ _ ⟨_, _, _, _, fs ++ [.one], rfl, s3.put hp, by rw [put_same, List.map_append]; rfl, pl.push (f := .one) trivial rfl (by decide) ct_one⟩
            · refine ⟨⟨_, hp3⟩, _, hq3, ?_⟩
              try walk_at "rd"
              refine ⟨⟨by decide, by decide⟩, fun L hL _ => ⟨small_size (by decide), _, hp3, ls, ?_⟩⟩
              refine kk _ _ ⟨_, _, _, _, fs ++ [.seen L], rfl, s3.put hp, by rw [put_same, List.map_append]; rfl, pl.push (f := .seen L) hL rfl ?_ (ct_seen hL)⟩
              have l1 := lets_len L
              have l2 := hL.len
              simp only [txt, List.length_append, List.length_cons, List.length_nil]
              omega
        · refine ⟨_, hq3, ?_⟩
          try walk_at "rd"
          refine ⟨by decide, cif_by (fun _ => ?_) (fun _ => ?_)⟩
          · refine ⟨⟨_, hp3⟩, small_size (by decide), _, hp3, ls, ?_⟩
            exact kk _ _ ⟨_, _, _, _, fs ++ [.one], rfl, s3.put hp, by rw [put_same, List.map_append]; rfl, pl.push (f := .one) trivial rfl (by decide) ct_one⟩
          · refine ⟨⟨_, hp3⟩, _, hq3, ?_⟩
            try walk_at "rd"
            refine ⟨⟨by decide, by decide⟩, fun L hL _ => ⟨small_size (by decide), _, hp3, ls, ?_⟩⟩
            refine kk _ _ ⟨_, _, _, _, fs ++ [.seen L], rfl, s3.put hp, by rw [put_same, List.map_append]; rfl, pl.push (f := .seen L) hL rfl ?_ (ct_seen hL)⟩
            have l1 := lets_len L
            have l2 := hL.len
            simp only [txt, List.length_append, List.length_cons, List.length_nil]
            omega
  · exact h.elim

theorem G_law_whole (T : Tx K mg t) : FnOk' P w K mg base CX0 1 t.a_law_whole t.d_law_whole ["_law_found"] sp_whole := by
  refine okU (k := 0) T.F_law_whole sc_law_whole (fun vs H Q E h => by
    unfold sp_whole at h
    split at h
    · rfl
    · exact h.elim) (fun cdv A outer s H E B hr => ⟨_, (qss_one (qs_ret (qe_and (qe_callB (call_isiB .int) (vc_isi .int) rfl T.b_isinstance boot_isinstance (qa_cons (qv 0) (qa_cons (qe_bty rfl T.b_int boot_int) qa_nil))) (qe_one (qe_not (qe_callB (call_isiB .bool) (vc_isi .bool) rfl T.b_isinstance boot_isinstance (qa_cons (qv 0) (qa_cons (qe_bty rfl T.b_bool boot_bool) qa_nil)))))))), ?_⟩)
  intro vs H Q E h
  unfold sp_whole at h
  split at h
  · walk_at "rd"
    exact ⟨H, Sub.refl _, h⟩
  · exact h.elim

theorem G_law_kinds (T : Tx K mg t) : FnOk' P w K mg base CX0 1 t.a_law_kinds t.d_law_kinds ["_law_e"] (sp_kinds t) := by
  refine okU (k := 0) T.F_law_kinds sc_law_kinds (fun vs H Q E h => by
    unfold sp_kinds at h
    split at h
    · rfl
    · exact h.elim) (fun cdv A outer s H E B hr => ⟨_, (qss_cons (qs_set (i := 1) sc_law_kinds.nd rfl (by first | exact Or.inl rfl | exact Or.inr rfl) (qe_lst qa_nil))
    (qss_cons (qs_set (i := 2) sc_law_kinds.nd rfl (by first | exact Or.inl rfl | exact Or.inr rfl) (qe_lst (qa_cons (qe_tup (qa_cons qe_str (qa_cons (qe_isx T.g_NoFraction rfl rfl T.b_isinstance (qv 0)) qa_nil))) (qa_cons (qe_tup (qa_cons qe_str (qa_cons (qe_isx T.g_NoCount rfl rfl T.b_isinstance (qv 0)) qa_nil))) qa_nil))))
    (qss_cons (qs_expr (qe_bm PySem.F.slot_list_extend PySem.F.type_list_extend mt_extend vm_extend (qv 2) (qa_cons (qe_lst (qa_cons (qe_tup (qa_cons qe_str (qa_cons (qe_isx T.g_NoTie rfl rfl T.b_isinstance (qv 0)) qa_nil))) (qa_cons (qe_tup (qa_cons qe_str (qa_cons (qe_isx T.g_NoBow rfl rfl T.b_isinstance (qv 0)) qa_nil))) (qa_cons (qe_tup (qa_cons qe_str (qa_cons (qe_isx T.g_NoName rfl rfl T.b_isinstance (qv 0)) qa_nil))) qa_nil)))) qa_nil)))
    (qss_cons (qs_expr (qe_bm PySem.F.slot_list_extend PySem.F.type_list_extend mt_extend vm_extend (qv 2) (qa_cons (qe_lst (qa_cons (qe_tup (qa_cons qe_str (qa_cons (qe_isx T.g_NoSets rfl rfl T.b_isinstance (qv 0)) qa_nil))) (qa_cons (qe_tup (qa_cons qe_str (qa_cons (qe_isx T.g_NoWorld rfl rfl T.b_isinstance (qv 0)) qa_nil))) qa_nil))) qa_nil)))
    (qss_cons (qs_expr (qe_bm PySem.F.slot_list_extend PySem.F.type_list_extend mt_extend vm_extend (qv 2) (qa_cons (qe_lst (qa_cons (qe_tup (qa_cons qe_str (qa_cons (qe_isx T.g_NoValue rfl rfl T.b_isinstance (qv 0)) qa_nil))) (qa_cons (qe_tup (qa_cons qe_str (qa_cons (qe_isx T.g_NoShare rfl rfl T.b_isinstance (qv 0)) qa_nil))) qa_nil))) qa_nil)))
    (qss_cons (qs_expr (qe_bm PySem.F.slot_list_extend PySem.F.type_list_extend mt_extend vm_extend (qv 2) (qa_cons (qe_lst (qa_cons (qe_tup (qa_cons qe_str (qa_cons (qe_isx T.g_NoRoad rfl rfl T.b_isinstance (qv 0)) qa_nil))) (qa_cons (qe_tup (qa_cons qe_str (qa_cons (qe_isx T.g_NoRule rfl rfl T.b_isinstance (qv 0)) qa_nil))) qa_nil))) qa_nil)))
    (qss_cons (qs_expr (qe_bm PySem.F.slot_list_extend PySem.F.type_list_extend mt_extend vm_extend (qv 2) (qa_cons (qe_lst (qa_cons (qe_tup (qa_cons qe_str (qa_cons (qe_isx T.g_BadPaper rfl rfl T.b_isinstance (qv 0)) qa_nil))) (qa_cons (qe_tup (qa_cons qe_str (qa_cons (qe_isx T.g_NoNest rfl rfl T.b_isinstance (qv 0)) qa_nil))) qa_nil))) qa_nil)))
    (qss_cons (qs_expr (qe_bm PySem.F.slot_list_extend PySem.F.type_list_extend mt_extend vm_extend (qv 2) (qa_cons (qe_lst (qa_cons (qe_tup (qa_cons qe_str (qa_cons (qe_isx T.g_NoDoor rfl rfl T.b_isinstance (qv 0)) qa_nil))) (qa_cons (qe_tup (qa_cons qe_str (qa_cons (qe_isx T.g_NoThinning rfl rfl T.b_isinstance (qv 0)) qa_nil))) qa_nil))) qa_nil)))
    (qss_cons (qs_expr (qe_bm PySem.F.slot_list_extend PySem.F.type_list_extend mt_extend vm_extend (qv 2) (qa_cons (qe_lst (qa_cons (qe_tup (qa_cons qe_str (qa_cons (qe_isx T.g_NoAnswer rfl rfl T.b_isinstance (qv 0)) qa_nil))) (qa_cons (qe_tup (qa_cons qe_str (qa_cons (qe_isx T.g_NoQuestion rfl rfl T.b_isinstance (qv 0)) qa_nil))) qa_nil))) qa_nil)))
    (qss_cons (qs_expr (qe_bm PySem.F.slot_list_extend PySem.F.type_list_extend mt_extend vm_extend (qv 2) (qa_cons (qe_lst (qa_cons (qe_tup (qa_cons qe_str (qa_cons (qe_isx T.g_NoFormula rfl rfl T.b_isinstance (qv 0)) qa_nil))) (qa_cons (qe_tup (qa_cons qe_str (qa_cons (qe_isx T.g_BadStep rfl rfl T.b_isinstance (qv 0)) qa_nil))) qa_nil))) qa_nil)))
    (qss_cons (qs_expr (qe_bm PySem.F.slot_list_extend PySem.F.type_list_extend mt_extend vm_extend (qv 2) (qa_cons (qe_lst (qa_cons (qe_tup (qa_cons qe_str (qa_cons (qe_isx T.g_NoText rfl rfl T.b_isinstance (qv 0)) qa_nil))) (qa_cons (qe_tup (qa_cons qe_str (qa_cons (qe_not (qe_isxT T.b_ValueError boot_ValueError rfl rfl T.b_isinstance (qv 0))) qa_nil))) qa_nil))) qa_nil)))
    (qss_cons (qs_for PassesOwn.never rfl (qi_seq (qv 2)) (qg_tup (n := 2) rfl (qgs_cons (qg_name (i := 3) sc_law_kinds.nd rfl (by first | exact Or.inl rfl | exact Or.inr rfl)) (qgs_cons (qg_name (i := 4) sc_law_kinds.nd rfl (by first | exact Or.inl rfl | exact Or.inr rfl)) qgs_nil)))
    (qss_one (qs_if (qt_val (qv 4))
      (qss_one (qs_expr (qe_bm PySem.F.slot_list_append PySem.F.type_list_append mt_append vm_append (qv 1) (qa_cons (qv 3) qa_nil))))
      qss_nil)))
    (qss_one (qs_ret (qv 1))))))))))))))), ?_⟩)
  intro vs H Q E h
  unfold sp_kinds at h
  split at h
  · rename_i a
    obtain ⟨n, ha, h⟩ := h
    replace ha : H a = some (exo t.a_NoText (some n)) := ha
    refine seq_abs fun R0 hR => ?_
    walk_at "rd"
    refine ⟨small_size (by decide), fun r hr => ?_⟩
    subst hR
    refine k_first (C := t.a_NoText) (d := some n) (l := [("NoFraction", uIsx K (.ref t.a_NoFraction) (uVar 0)), ("NoCount", uIsx K (.ref t.a_NoCount) (uVar 0))]) (bs := [false, false]) ((put_ne (ne_none ha hr)).trans ha) put_same (Sub.put (Sub.refl _) hr) (Nat.le_of_ble_eq_true rfl) ⟨isv_isx ((put_ne (ne_none ha hr)).trans ha) T.xi_NoText.c0 T.k_NoText_NoFraction, ⟨isv_isx ((put_ne (ne_none ha hr)).trans ha) T.xi_NoText.c0 T.k_NoText_NoCount, trivial⟩⟩ fun q H0 i0 => ?_
    refine k_more (l := [("NoTie", uIsx K (.ref t.a_NoTie) (uVar 0)), ("NoBow", uIsx K (.ref t.a_NoBow) (uVar 0)), ("NoName", uIsx K (.ref t.a_NoName) (uVar 0))]) (bs := [false, false, false]) i0 ⟨Nat.le_of_ble_eq_true rfl, Nat.le_of_ble_eq_true rfl⟩ ⟨isv_isx i0.ha T.xi_NoText.c0 T.k_NoText_NoTie, ⟨isv_isx i0.ha T.xi_NoText.c0 T.k_NoText_NoBow, ⟨isv_isx i0.ha T.xi_NoText.c0 T.k_NoText_NoName, trivial⟩⟩⟩ fun H1 i1 => ?_
    refine k_more (l := [("NoSets", uIsx K (.ref t.a_NoSets) (uVar 0)), ("NoWorld", uIsx K (.ref t.a_NoWorld) (uVar 0))]) (bs := [false, false]) i1 ⟨Nat.le_of_ble_eq_true rfl, Nat.le_of_ble_eq_true rfl⟩ ⟨isv_isx i1.ha T.xi_NoText.c0 T.k_NoText_NoSets, ⟨isv_isx i1.ha T.xi_NoText.c0 T.k_NoText_NoWorld, trivial⟩⟩ fun H2 i2 => ?_
    refine k_more (l := [("NoValue", uIsx K (.ref t.a_NoValue) (uVar 0)), ("NoShare", uIsx K (.ref t.a_NoShare) (uVar 0))]) (bs := [false, false]) i2 ⟨Nat.le_of_ble_eq_true rfl, Nat.le_of_ble_eq_true rfl⟩ ⟨isv_isx i2.ha T.xi_NoText.c0 T.k_NoText_NoValue, ⟨isv_isx i2.ha T.xi_NoText.c0 T.k_NoText_NoShare, trivial⟩⟩ fun H3 i3 => ?_
    refine k_more (l := [("NoRoad", uIsx K (.ref t.a_NoRoad) (uVar 0)), ("NoRule", uIsx K (.ref t.a_NoRule) (uVar 0))]) (bs := [false, false]) i3 ⟨Nat.le_of_ble_eq_true rfl, Nat.le_of_ble_eq_true rfl⟩ ⟨isv_isx i3.ha T.xi_NoText.c0 T.k_NoText_NoRoad, ⟨isv_isx i3.ha T.xi_NoText.c0 T.k_NoText_NoRule, trivial⟩⟩ fun H4 i4 => ?_
    refine k_more (l := [("BadPaper", uIsx K (.ref t.a_BadPaper) (uVar 0)), ("NoNest", uIsx K (.ref t.a_NoNest) (uVar 0))]) (bs := [false, false]) i4 ⟨Nat.le_of_ble_eq_true rfl, Nat.le_of_ble_eq_true rfl⟩ ⟨isv_isx i4.ha T.xi_NoText.c0 T.k_NoText_BadPaper, ⟨isv_isx i4.ha T.xi_NoText.c0 T.k_NoText_NoNest, trivial⟩⟩ fun H5 i5 => ?_
    refine k_more (l := [("NoDoor", uIsx K (.ref t.a_NoDoor) (uVar 0)), ("NoThinning", uIsx K (.ref t.a_NoThinning) (uVar 0))]) (bs := [false, false]) i5 ⟨Nat.le_of_ble_eq_true rfl, Nat.le_of_ble_eq_true rfl⟩ ⟨isv_isx i5.ha T.xi_NoText.c0 T.k_NoText_NoDoor, ⟨isv_isx i5.ha T.xi_NoText.c0 T.k_NoText_NoThinning, trivial⟩⟩ fun H6 i6 => ?_
    refine k_more (l := [("NoAnswer", uIsx K (.ref t.a_NoAnswer) (uVar 0)), ("NoQuestion", uIsx K (.ref t.a_NoQuestion) (uVar 0))]) (bs := [false, false]) i6 ⟨Nat.le_of_ble_eq_true rfl, Nat.le_of_ble_eq_true rfl⟩ ⟨isv_isx i6.ha T.xi_NoText.c0 T.k_NoText_NoAnswer, ⟨isv_isx i6.ha T.xi_NoText.c0 T.k_NoText_NoQuestion, trivial⟩⟩ fun H7 i7 => ?_
    refine k_more (l := [("NoFormula", uIsx K (.ref t.a_NoFormula) (uVar 0)), ("BadStep", uIsx K (.ref t.a_BadStep) (uVar 0))]) (bs := [false, false]) i7 ⟨Nat.le_of_ble_eq_true rfl, Nat.le_of_ble_eq_true rfl⟩ ⟨isv_isx i7.ha T.xi_NoText.c0 T.k_NoText_NoFormula, ⟨isv_isx i7.ha T.xi_NoText.c0 T.k_NoText_BadStep, trivial⟩⟩ fun H8 i8 => ?_
    refine k_more (l := [("NoText", uIsx K (.ref t.a_NoText) (uVar 0)), ("other", uNotV (uIsx K (.type "ValueError") (uVar 0)))]) (bs := [true, !true]) i8 ⟨Nat.le_of_ble_eq_true rfl, Nat.le_of_ble_eq_true rfl⟩ ⟨isv_isx i8.ha T.xi_NoText.c0 T.k_NoText_NoText, ⟨isv_not (isv_isx i8.ha T.xi_NoText.c0 T.k_NoText_ValueError), trivial⟩⟩ fun H9 i9 => ?_
    refine k_last (xs := [("NoFraction", false), ("NoCount", false), ("NoTie", false), ("NoBow", false), ("NoName", false), ("NoSets", false), ("NoWorld", false), ("NoValue", false), ("NoShare", false), ("NoRoad", false), ("NoRule", false), ("BadPaper", false), ("NoNest", false), ("NoDoor", false), ("NoThinning", false), ("NoAnswer", false), ("NoQuestion", false), ("NoFormula", false), ("BadStep", false), ("NoText", true), ("other", (!true))]) (nm := "NoText") i9 rfl fun H1 u v sb => ?_
    exact ⟨_, sb, h r hr⟩
  · exact h.elim

theorem G_law_bent (T : Tx K mg t) : FnOk' P w K mg base CX0 1 t.a_law_bent t.d_law_bent ["_law_text", "_law_cell", "_law_more"] sp_bent := by
  refine okU (k := 0) T.F_law_bent sc_law_bent (fun vs H Q E h => by
    unfold sp_bent at h
    split at h
    · rfl
    · exact h.elim) (fun cdv A outer s H E B hr => ⟨_, (qss_cons (qs_set (i := 3) sc_law_bent.nd rfl (by first | exact Or.inl rfl | exact Or.inr rfl) qe_str)
    (qss_cons (qs_set (i := 4) sc_law_bent.nd rfl (by first | exact Or.inl rfl | exact Or.inr rfl) (qe_ixS (qv 3) (qe_mod (qe_fdiv (qv 1) qe_int) (qe_callB call_len_str vc_lenS rfl T.b_len PySem.boot_len (qa_cons (qv 3) qa_nil))) (fun _ _ => rfl)))
    (qss_cons (qs_if (qt_cmp (op_eqU hr.units) vr_eq (qe_mod (qe_fdiv (qv 1) qe_int) qe_int) qe_int (nomark _))
    (qss_one (qs_set (i := 4) sc_law_bent.nd rfl (by first | exact Or.inl rfl | exact Or.inr rfl) (qe_ixS qe_str (qe_mod (qe_fdiv (qv 1) qe_int) qe_int) (fun _ _ => rfl))))
    qss_nil)
    (qss_cons (qs_set (i := 5) sc_law_bent.nd rfl (by first | exact Or.inl rfl | exact Or.inr rfl) (qe_mod (qv 2) (qe_add (qe_callB call_len_str vc_lenS rfl T.b_len PySem.boot_len (qa_cons (qv 0) qa_nil)) qe_int)))
    (qss_cons (qs_if (qt_cmp op_lt vr_lt (qe_mod (qv 1) qe_int) qe_int (nomark _))
    (qss_one (qs_ret (qe_addS (qe_addS (qe_sliceS (qv 0) qo_none (qo_some (qv 5))) (qv 4)) (qe_sliceS (qv 0) (qo_some (qe_add (qv 5) (qe_mod (qv 1) qe_int))) qo_none))))
    qss_nil)
    (qss_cons (qs_if (qt_cmp (op_eqU hr.units) vr_eq (qe_mod (qv 1) qe_int) qe_int (nomark _))
    (qss_one (qs_ret (qe_addS (qe_sliceS (qv 0) qo_none (qo_some (qv 5))) (qe_sliceS (qv 0) (qo_some (qe_add (qv 5) qe_int)) qo_none))))
    qss_nil)
    (qss_cons (qs_if (qt_cmp (op_eqU hr.units) vr_eq (qe_mod (qv 1) qe_int) qe_int (nomark _))
    (qss_one (qs_ret (qe_sliceS (qv 0) qo_none (qo_some (qv 5)))))
    qss_nil)
    (qss_cons (qs_if (qt_cmp (op_eqU hr.units) vr_eq (qe_mod (qv 1) qe_int) qe_int (nomark _))
    (qss_one (qs_ret (qe_addS (qv 0) (qe_sliceS (qv 0) qo_none (qo_some (qv 5))))))
    qss_nil)
    (qss_cons (qs_if (qt_cmp (op_eqU hr.units) vr_eq (qe_mod (qv 1) qe_int) qe_int (nomark _))
    (qss_one (qs_ret (qe_addS (qe_sliceS (qv 0) qo_none (qo_some (qv 5))) (qv 0))))
    qss_nil)
    (qss_one (qs_ret (qe_addS (qe_addS (qe_addS (qe_sliceS (qv 0) qo_none (qo_some (qv 5))) (qe_sliceS (qv 0) (qo_some (qv 5)) (qo_some (qe_add (qv 5) qe_int)))) qe_str) (qe_sliceS (qv 0) (qo_some (qv 5)) qo_none))))))))))))), ?_⟩)
  intro vs H Q E h
  unfold sp_bent at h
  split at h
  · rename_i z c m
    obtain ⟨L, rfl, hl, hc, h⟩ := h
    have hS := sg_len
    refine seq_abs fun R hR => ?_
    walk_at "rd"
    subst hR
    generalize (Str.ofString " !\"#$&'()*+,-./0123456789:;<=>?@ABCDEFGHIJKLMNOPQRSTUVWXYZ[\\]^_`abcdefghijklmnopqrstuvwxyz{|}~") = S at *
    refine seq_abs fun R hR => ?_
    walk_at "rd"
    have f0 := fm (a := c.fdiv 16) (b := (S.length : Int)) (by omega)
    obtain ⟨s0, e0⟩ := atI_ex (l := S.cps.toList) f0.1 f0.2
    refine ⟨cdvB (by decide) (by decide), line_ge (by omega), by omega, line_ge (by omega), s0, e0, ?_⟩
    subst hR
    refine seq_abs fun R hR => ?_
    walk_at "rd"
    have key : ∀ s1 : Nat, R { nx := fun x H => ∃ H3, U.Sub H3 H ∧ Q PV.non H3, rt := fun v H => ∃ H3, U.Sub H3 H ∧ Q v H3 } [some (.str (sT L)), some (.int c), some (.int m), some (.str S), some (.str (sT [s1])), none] H := fun s1 => by
      subst hR
      refine seq_abs fun R hR => ?_
      walk_at "rd"
      have fa := fm (a := m) (b := ((L.length : Nat) : Int) + 1) (by omega)
      refine ⟨line_ge (by omega), by omega, ?_⟩
      generalize m.fmod (((L.length : Nat) : Int) + 1) = at_ at *
      have c8 := fm (a := c) (b := 8) (by decide)
      have c2 := fm (a := c) (b := 2) (by decide)
      have l1 := sl_to (L := L) fa.1 (by omega)
      have lt1 := len_take (n := at_.toNat) (L := L)
      have ct1 := cnt_take (n := at_.toNat) (L := L)
      have cs1 := cnt_one (c := s1)
      subst hR
      refine seq_abs fun R hR => ?_
      walk_at "rd"
      refine ⟨by decide, cif_by (fun _ => ?_) (fun _ => ?_)⟩
      · refine ⟨line_ge (by omega), ?_⟩
        rw [l1, sl_from (by omega)]
        try walk_at "rd"
        have lt2 := len_drop (n := (at_ + c.fmod 2).toNat) (L := L)
        have ct2 := cnt_drop (n := (at_ + c.fmod 2).toNat) (L := L)
        refine ⟨line_ge (by first | omega | (simp only [List.length_append, List.length_cons, List.length_nil]; omega)), by decide, line_ge (by first | omega | (simp only [List.length_append, List.length_cons, List.length_nil]; omega)), line_ge (by first | omega | (simp only [List.length_append, List.length_cons, List.length_nil]; omega)), H, Sub.refl _, h _ (by first | omega | (simp only [List.length_append, List.length_cons, List.length_nil]; omega)) (by first | omega | (simp only [Par.cno_app]; omega))⟩
      subst hR
      refine seq_abs fun R hR => ?_
      walk_at "rd"
      refine ⟨by decide, cif_by (fun _ => ?_) (fun _ => ?_)⟩
      · refine ⟨line_ge (by first | omega | (simp only [List.length_append, List.length_cons, List.length_nil]; omega)), ?_⟩
        rw [l1, sl_from (by omega)]
        try walk_at "rd"
        have lt2 := len_drop (n := (at_ + 1).toNat) (L := L)
        have ct2 := cnt_drop (n := (at_ + 1).toNat) (L := L)
        exact ⟨line_ge (by first | omega | (simp only [List.length_append, List.length_cons, List.length_nil]; omega)), line_ge (by first | omega | (simp only [List.length_append, List.length_cons, List.length_nil]; omega)), H, Sub.refl _, h _ (by first | omega | (simp only [List.length_append, List.length_cons, List.length_nil]; omega)) (by first | omega | (simp only [Par.cno_app]; omega))⟩
      subst hR
      refine seq_abs fun R hR => ?_
      walk_at "rd"
      refine ⟨by decide, cif_by (fun _ => ?_) (fun _ => ?_)⟩
      · rw [l1]
        exact ⟨line_ge (by first | omega | (simp only [List.length_append, List.length_cons, List.length_nil]; omega)), H, Sub.refl _, h _ (by first | omega | (simp only [List.length_append, List.length_cons, List.length_nil]; omega)) (by first | omega | (simp only [Par.cno_app]; omega))⟩
      subst hR
      refine seq_abs fun R hR => ?_
      walk_at "rd"
      refine ⟨by decide, cif_by (fun _ => ?_) (fun _ => ?_)⟩
      · refine ⟨line_ge (by first | omega | (simp only [List.length_append, List.length_cons, List.length_nil]; omega)), ?_⟩
        rw [l1]
        try walk_at "rd"
        exact ⟨line_ge (by first | omega | (simp only [List.length_append, List.length_cons, List.length_nil]; omega)), H, Sub.refl _, h _ (by first | omega | (simp only [List.length_append, List.length_cons, List.length_nil]; omega)) (by first | omega | (simp only [Par.cno_app]; omega))⟩
      subst hR
      refine seq_abs fun R hR => ?_
      walk_at "rd"
      refine ⟨by decide, cif_by (fun _ => ?_) (fun _ => ?_)⟩
      · refine ⟨line_ge (by first | omega | (simp only [List.length_append, List.length_cons, List.length_nil]; omega)), ?_⟩
        rw [l1]
        try walk_at "rd"
        exact ⟨line_ge (by first | omega | (simp only [List.length_append, List.length_cons, List.length_nil]; omega)), H, Sub.refl _, h _ (by first | omega | (simp only [List.length_append, List.length_cons, List.length_nil]; omega)) (by first | omega | (simp only [Par.cno_app]; omega))⟩
      subst hR
      walk_at "rd"
      refine ⟨line_ge (by first | omega | (simp only [List.length_append, List.length_cons, List.length_nil]; omega)), ?_⟩
      rw [l1, sl_mid fa.1 (by omega), sl_from fa.1]
      have lt2 := len_drop (n := at_.toNat) (L := L)
      have ct2 := cnt_drop (n := at_.toNat) (L := L)
      have lt3 : ((L.drop at_.toNat).take 1).length ≤ 1 := by rw [List.length_take]; omega
      have ct3 := cnt_one (c := 32)
      have ct4 : cno (L.take at_.toNat) + cno (L.drop at_.toNat) = cno L := by rw [← Par.cno_app, List.take_append_drop]
      have ct5 : cno ((L.drop at_.toNat).take 1) ≤ 1 := by
        cases L.drop at_.toNat with
        | nil => exact Nat.zero_le _
        | cons y l => exact cnt_one
      try walk_at "rd"
      exact ⟨line_ge (by first | omega | (simp only [List.length_append, List.length_cons, List.length_nil]; omega)), line_ge (by first | omega | (simp only [List.length_append, List.length_cons, List.length_nil]; omega)), line_ge (by first | omega | (simp only [List.length_append, List.length_cons, List.length_nil]; omega)), line_ge (by first | omega | (simp only [List.length_append, List.length_cons, List.length_nil]; omega)), line_ge (by first | omega | (simp only [List.length_append, List.length_cons, List.length_nil]; omega)), H, Sub.refl _, h _ (by first | omega | (simp only [List.length_append, List.length_cons, List.length_nil]; omega)) (by first | omega | (simp only [Par.cno_app]; omega))⟩
    refine ⟨cdvB (by decide) (by decide), by decide, cif_by (fun _ => ?_) (fun _ => key _)⟩
    have f1 := fm (a := c.fdiv 16) (b := 17) (by decide)
    rw [ofS_sg]
    obtain ⟨s2, e2⟩ := atI_ex (l := (sT [32, 97, 98, 99, 100, 101, 102, 40, 41, 42, 47, 58, 49, 80, 115, 117, 109]).cps.toList) f1.1 (by rw [sT_cps]; exact f1.2)
    exact ⟨cdvB (by decide) (by decide), by decide, line_ge (by decide), s2, e2, key _⟩
  · exact h.elim

theorem G_law_asked_for (T : Tx K mg t) : FnOk' P w K mg base CX0 1 t.a_law_asked_for t.d_law_asked_for ["_law_token", "_law_sign", "_law_last"] sp_asked := by
  refine okU (k := 0) T.F_law_asked_for sc_law_asked_for (fun vs H Q E h => by
    unfold sp_asked at h
    split at h
    · rfl
    · exact h.elim) (fun cdv A outer s H E B hr => ⟨_, (@qss_cons _ _ _ _ _ _ (@qs_if _ _ _ _ _ _ _ _ _ (qt_bool (qw_and (qt_cmp (op_eqU hr.units) vr_eq (qv 0) qe_str (nomark _)) (qw_and1 (qt_cmp (op_inU hr.units) vr_in (qv 1) (@qe_tup _ _ _ _ _ _ (@qa_cons _ _ _ _ _ _ qe_str (@qa_cons _ _ _ _ _ _ qe_str (@qa_cons _ _ _ _ _ _ qe_str (@qa_cons _ _ _ _ _ _ qe_str (@qa_nil _ _) (by rfl)) (by rfl)) (by rfl)) (by rfl))) (by with_unfolding_all rfl)))))
    (@qss_cons _ _ _ _ _ _ (@qs_if _ _ _ _ _ _ _ _ _ (qt_cmp (op_eqU hr.units) vr_eq (qv 1) qe_str (nomark _))
      (@qss_one _ _ _ _ (@qs_ret _ _ _ _ _ (@qe_lst _ _ _ _ _ (@qa_cons _ _ _ _ _ _ qe_str (@qa_cons _ _ _ _ _ _ qe_str (@qa_nil _ _) (by rfl)) (by rfl)))))
      qss_nil)
      (@qss_cons _ _ _ _ _ _ (@qs_if _ _ _ _ _ _ _ _ _ (qt_cmp (op_eqU hr.units) vr_eq (qv 1) qe_str (nomark _))
      (@qss_one _ _ _ _ (@qs_ret _ _ _ _ _ (@qe_lst _ _ _ _ _ (@qa_cons _ _ _ _ _ _ qe_str (@qa_cons _ _ _ _ _ _ qe_str (@qa_cons _ _ _ _ _ _ qe_str (@qa_cons _ _ _ _ _ _ qe_str (@qa_cons _ _ _ _ _ _ qe_str (@qa_cons _ _ _ _ _ _ qe_str (@qa_cons _ _ _ _ _ _ qe_str (@qa_nil _ _) (by rfl)) (by rfl)) (by rfl)) (by rfl)) (by rfl)) (by rfl)) (by rfl)))))
      qss_nil)
      (@qss_one _ _ _ _ (@qs_ret _ _ _ _ _ (qe_ix (@qe_lst _ _ _ _ _ (@qa_cons _ _ _ _ _ _ (@qe_lst _ _ _ _ _ (@qa_cons _ _ _ _ _ _ qe_str (@qa_cons _ _ _ _ _ _ qe_str (@qa_cons _ _ _ _ _ _ qe_str (@qa_cons _ _ _ _ _ _ qe_str (@qa_cons _ _ _ _ _ _ qe_str (@qa_cons _ _ _ _ _ _ qe_str (@qa_nil _ _) (by rfl)) (by rfl)) (by rfl)) (by rfl)) (by rfl)) (by rfl))) (@qa_cons _ _ _ _ _ _ (@qe_lst _ _ _ _ _ (@qa_nil _ _)) (@qa_nil _ _) (by rfl)) (by rfl))) (qe_callTy call_int1 vc_int rfl T.b_int boot_int (@qa_cons _ _ _ _ _ _ (qe_cmp (op_eqU hr.units) vr_eq (qv 1) qe_str (nomark _)) (@qa_nil _ _) (by rfl))) (fun _ _ => rfl))))))
    qss_nil)
    (@qss_cons _ _ _ _ _ _ (qs_set (i := 3) sc_law_asked_for.nd rfl (by first | exact Or.inl rfl | exact Or.inr rfl) (qe_bmS PySem.F.plainAttrs_str PySem.F.slot_str_find PySem.F.type_str_find mt_find vm_find qe_str (@qa_cons _ _ _ _ _ _ (qv 1) (@qa_nil _ _) (by rfl))))
    (@qss_cons _ _ _ _ _ _ (@qs_if _ _ _ _ _ _ _ _ _ (qt_bool (qw_and (qt_cmp (op_inU hr.units) vr_in (qv 0) (@qe_tup _ _ _ _ _ _ (@qa_cons _ _ _ _ _ _ qe_str (@qa_cons _ _ _ _ _ _ qe_str (@qa_cons _ _ _ _ _ _ qe_str (@qa_nil _ _) (by rfl)) (by rfl)) (by rfl))) (by with_unfolding_all rfl)) (qw_and (qt_cmp (op_neU hr.units) vr_eq (qv 1) qe_str (nomark _)) (qw_and1 (qt_cmp op_gt vr_gt (qv 3) (qv 2) (nomark _))))))
    (@qss_one _ _ _ _ (@qs_ret _ _ _ _ _ (@qe_lst _ _ _ _ _ (@qa_cons _ _ _ _ _ _ (qe_addS (qe_addS qe_str (qe_mulS qe_str (qe_callTy call_int1 vc_int rfl T.b_int boot_int (@qa_cons _ _ _ _ _ _ (qe_cmp (op_neU hr.units) vr_eq (qv 0) qe_str (nomark _)) (@qa_nil _ _) (by rfl))))) (qe_mulS qe_str (qe_callTy call_int1 vc_int rfl T.b_int boot_int (@qa_cons _ _ _ _ _ _ (qe_cmp (op_eqU hr.units) vr_eq (qv 0) qe_str (nomark _)) (@qa_nil _ _) (by rfl))))) (@qa_nil _ _) (by rfl)))))
    qss_nil)
    (@qss_cons _ _ _ _ _ _ (@qs_if _ _ _ _ _ _ _ _ _ (qt_bool (qw_and (qt_cmp (op_inU hr.units) vr_in (qv 0) (@qe_tup _ _ _ _ _ _ (@qa_cons _ _ _ _ _ _ qe_str (@qa_cons _ _ _ _ _ _ qe_str (@qa_nil _ _) (by rfl)) (by rfl))) (by with_unfolding_all rfl)) (qw_and (qt_cmp (op_eqU hr.units) vr_eq (qv 1) qe_str (nomark _)) (qw_and1 (qt_cmp op_lt vr_lt (qv 2) qe_int (nomark _))))))
    (@qss_one _ _ _ _ (@qs_ret _ _ _ _ _ (@qe_lst _ _ _ _ _ (@qa_cons _ _ _ _ _ _ (qe_addS qe_str (qe_ixS (qv 0) qe_int (fun _ _ => rfl))) (@qa_nil _ _) (by rfl)))))
    qss_nil)
    (@qss_cons _ _ _ _ _ _ (@qs_if _ _ _ _ _ _ _ _ _ (qt_bool (qw_or (qt_bool (qw_and (qt_cmp (op_inU hr.units) vr_in (qv 0) (@qe_tup _ _ _ _ _ _ (@qa_cons _ _ _ _ _ _ qe_str (@qa_cons _ _ _ _ _ _ qe_str (@qa_nil _ _) (by rfl)) (by rfl))) (by with_unfolding_all rfl)) (qw_and1 (qt_cmp (op_eqU hr.units) vr_eq (qv 1) (qe_ixS (qv 0) qe_int (fun _ _ => rfl)) (nomark _))))) (qw_or1 (qt_bool (qw_and (qt_cmp (op_eqU hr.units) vr_eq (qv 0) qe_str (nomark _)) (qw_and1 (qt_cmp (op_eqU hr.units) vr_eq (qv 1) qe_str (nomark _))))))))
    (@qss_one _ _ _ _ (@qs_ret _ _ _ _ _ (@qe_lst _ _ _ _ _ (@qa_nil _ _))))
    qss_nil)
    (@qss_cons _ _ _ _ _ _ (@qs_if _ _ _ _ _ _ _ _ _ (qt_bool (qw_or (qt_bool (qw_and (qt_cmp (op_eqU hr.units) vr_eq (qv 0) qe_str (nomark _)) (qw_and1 (qt_cmp (op_inU hr.units) vr_in (qv 1) (@qe_tup _ _ _ _ _ _ (@qa_cons _ _ _ _ _ _ qe_str (@qa_cons _ _ _ _ _ _ qe_str (@qa_nil _ _) (by rfl)) (by rfl))) (by with_unfolding_all rfl))))) (qw_or1 (qt_bool (qw_and (qt_cmp (op_eqU hr.units) vr_eq (qv 0) (qv 1) (nomark _)) (qw_and1 (qt_cmp (op_notInU hr.units) vr_in (qv 1) (@qe_tup _ _ _ _ _ _ (@qa_cons _ _ _ _ _ _ qe_str (@qa_cons _ _ _ _ _ _ qe_str (@qa_cons _ _ _ _ _ _ qe_str (@qa_nil _ _) (by rfl)) (by rfl)) (by rfl))) (by with_unfolding_all rfl))))))))
    (@qss_one _ _ _ _ (@qs_ret _ _ _ _ _ (@qe_lst _ _ _ _ _ (@qa_nil _ _))))
    qss_nil)
    (@qss_one _ _ _ _ (@qs_ret _ _ _ _ _ qe_non)))))))), ?_⟩)
  intro vs H Q E h
  unfold sp_asked at h
  split at h
  · rename_i a z l
    obtain ⟨u, r, rfl, hu, rfl, hl, h⟩ := h
    cases u with
    | F =>
      cases r with
      | nil =>
        replace h : Q .non H := h
        simp only [List.take_succ_cons, List.take_zero, List.take_nil, tokS]
        refine seq_abs fun R hR => ?_
        walk_at "rd"
        refine cif_pos (by simp) ⟨small_size (by decide), ?_⟩
        refine cif_eq (any_tk (cs := [49, 80, 115, 40]) (r := [])) ?_
        refine cif_neg rfl ?_
        subst hR
        refine seq_abs fun R hR => ?_
        walk_at "rd"
        rw [find_no]
        subst hR
        refine seq_abs fun R hR => ?_
        walk_at "rd"
        refine ⟨small_size (by decide), ?_⟩
        refine cif_neg (by simp [deq, sT_beq]) ?_
        subst hR
        refine seq_abs fun R hR => ?_
        walk_at "rd"
        refine ⟨small_size (by decide), ?_⟩
        refine cif_neg (by simp [deq, sT_beq]) ?_
        subst hR
        refine seq_abs fun R hR => ?_
        walk_at "rd"
        refine ⟨small_size (by decide), ?_⟩
        refine cif_neg (by simp [deq, sT_beq]) ?_
        refine cif_neg (by simp [deq, sT_beq]) ?_
        subst hR
        refine seq_abs fun R hR => ?_
        walk_at "rd"
        refine cif_neg (by simp [deq, sT_beq]) ?_
        refine cif_neg (by simp [deq, sT_beq]) ?_
        subst hR
        walk_at "rd"
        exact ⟨H, Sub.refl _, h⟩
      | cons c r =>
        replace h : Ask H Q (Par.ask (.F) c l) := h
        simp only [List.take_succ_cons, List.take_zero, List.take_nil, tokS]
        refine seq_abs fun R hR => ?_
        walk_at "rd"
        refine cif_pos (by simp) ⟨small_size (by decide), ?_⟩
        refine cif_eq (any_tk (cs := [49, 80, 115, 40]) (r := [c])) ?_
        by_cases h80 : c = 80
        · subst h80
          refine cif_pos (by decide) (cif_pos (by decide) ?_)
          exact ⟨small_size (by decide), fun p hp => ⟨_, Sub.refl _, h p hp _ ((Sub.refl H).put hp) put_same⟩⟩
        by_cases h115 : c = 115
        · subst h115
          refine cif_pos (by decide) (cif_neg (by decide) (cif_pos (by decide) ?_))
          exact ⟨small_size (by decide), fun p hp => ⟨_, Sub.refl _, h p hp _ ((Sub.refl H).put hp) put_same⟩⟩
        by_cases h49 : c = 49
        · subst h49
          refine cif_pos (by decide) (cif_neg (by decide) (cif_neg (by decide) ?_))
          refine ⟨small_size (by decide), fun p0 hp0 => ⟨small_size (by decide), fun p1 hp1 => ⟨small_size (by decide), fun p2 hp2 => ?_⟩⟩⟩
          have n01 : p0 ≠ p1 := fun e => by subst e; rw [put_same] at hp1; cases hp1
          have n02 : p0 ≠ p2 := fun e => by subst e; rw [put_ne n01, put_same] at hp2; cases hp2
          have n12 : p1 ≠ p2 := fun e => by subst e; rw [put_same] at hp2; cases hp2
          have h1 : H p1 = none := by rw [put_ne n01.symm] at hp1; exact hp1
          have h2 : H p2 = none := by rw [put_ne n12.symm, put_ne n02.symm] at hp2; exact hp2
          rw [show atI [PV.ref p0, PV.ref p1] (b2n (decide ([49] = [49]))) = some (.ref p1) from rfl]
          exact ⟨_, Sub.refl _, h p1 h1 _ ((((Sub.refl H).put hp0).put h1).put h2) (by rw [put_ne n12, put_same]; rfl)⟩
        by_cases h40 : c = 40
        · subst h40
          refine cif_pos (by decide) (cif_neg (by decide) (cif_neg (by decide) ?_))
          refine ⟨small_size (by decide), fun p0 hp0 => ⟨small_size (by decide), fun p1 hp1 => ⟨small_size (by decide), fun p2 hp2 => ?_⟩⟩⟩
          have n01 : p0 ≠ p1 := fun e => by subst e; rw [put_same] at hp1; cases hp1
          have n02 : p0 ≠ p2 := fun e => by subst e; rw [put_ne n01, put_same] at hp2; cases hp2
          have n12 : p1 ≠ p2 := fun e => by subst e; rw [put_same] at hp2; cases hp2
          have h1 : H p1 = none := by rw [put_ne n01.symm] at hp1; exact hp1
          have h2 : H p2 = none := by rw [put_ne n12.symm, put_ne n02.symm] at hp2; exact hp2
          rw [show atI [PV.ref p0, PV.ref p1] (b2n (decide ([40] = [49]))) = some (.ref p0) from rfl]
          exact ⟨_, Sub.refl _, h p0 hp0 _ ((((Sub.refl H).put hp0).put h1).put h2) (by rw [put_ne n02, put_ne n01, put_same]; rfl)⟩
        refine cif_neg (by simp; omega) ?_
        rw [show Par.ask .F c l = none from (if_neg h49).trans ((if_neg h80).trans ((if_neg h115).trans (if_neg h40)))] at h
        subst hR
        refine seq_abs fun R hR => ?_
        walk_at "rd"
        rw [find_lt]
        subst hR
        refine seq_abs fun R hR => ?_
        walk_at "rd"
        refine ⟨small_size (by decide), ?_⟩
        refine cif_neg (by simp [deq, sT_beq]) ?_
        subst hR
        refine seq_abs fun R hR => ?_
        walk_at "rd"
        refine ⟨small_size (by decide), ?_⟩
        refine cif_neg (by simp [deq, sT_beq]) ?_
        subst hR
        refine seq_abs fun R hR => ?_
        walk_at "rd"
        refine ⟨small_size (by decide), ?_⟩
        refine cif_neg (by simp [deq, sT_beq]) ?_
        refine cif_neg (by simp [deq, sT_beq]) ?_
        subst hR
        refine seq_abs fun R hR => ?_
        walk_at "rd"
        refine cif_neg (by simp [deq, sT_beq]) ?_
        by_cases hq : c = 70
        · subst hq
          refine cif_pos (by simp [deq, sT_beq]) ?_
          refine ⟨small_size (by decide), ?_⟩
          refine cif_neg (by simp [deq, sT_beq]) ?_
          subst hR
          walk_at "rd"
          exact ⟨H, Sub.refl _, h⟩
        refine cif_neg (by simpa using fun z => hq z.symm) ?_
        subst hR
        walk_at "rd"
        exact ⟨H, Sub.refl _, h⟩
    | Q =>
      cases r with
      | nil =>
        replace h : Q .non H := h
        simp only [List.take_succ_cons, List.take_zero, List.take_nil, tokS]
        refine seq_abs fun R hR => ?_
        walk_at "rd"
        refine cif_neg (by simp [deq, sT_beq]) ?_
        subst hR
        refine seq_abs fun R hR => ?_
        walk_at "rd"
        rw [find_no]
        subst hR
        refine seq_abs fun R hR => ?_
        walk_at "rd"
        refine ⟨small_size (by decide), ?_⟩
        refine cif_pos (by simp [deq, sT_beq]) ?_
        refine cif_neg (by simp [deq, sT_beq]) ?_
        subst hR
        refine seq_abs fun R hR => ?_
        walk_at "rd"
        refine ⟨small_size (by decide), ?_⟩
        refine cif_neg (by simp [deq, sT_beq]) ?_
        subst hR
        refine seq_abs fun R hR => ?_
        walk_at "rd"
        refine ⟨small_size (by decide), ?_⟩
        refine cif_neg (by simp [deq, sT_beq]) ?_
        refine cif_pos (by simp [deq, sT_beq]) ?_
        refine cif_neg (by simp [deq, sT_beq]) ?_
        subst hR
        refine seq_abs fun R hR => ?_
        walk_at "rd"
        refine cif_neg (by simp [deq, sT_beq]) ?_
        refine cif_neg (by simp [deq, sT_beq]) ?_
        subst hR
        walk_at "rd"
        exact ⟨H, Sub.refl _, h⟩
      | cons c r =>
        replace h : Ask H Q (Par.ask (.Q) c l) := h
        simp only [List.take_succ_cons, List.take_zero, List.take_nil, tokS]
        refine seq_abs fun R hR => ?_
        walk_at "rd"
        refine cif_neg (by simp [deq, sT_beq]) ?_
        subst hR
        refine seq_abs fun R hR => ?_
        walk_at "rd"
        rw [find_lt]
        subst hR
        refine seq_abs fun R hR => ?_
        walk_at "rd"
        refine ⟨small_size (by decide), ?_⟩
        refine cif_pos (by simp [deq, sT_beq]) ?_
        refine cif_pos (by simp [deq, sT_beq]) ?_
        by_cases hlt : l < Par.lt c
        · refine cif_pos (by simpa using hlt) ?_
          rw [show Par.ask (.Q) c l = some [.m true] from if_pos hlt] at h
          refine ⟨line_ge (by decide), by decide, ?_⟩
          refine .inr ⟨by simp [b2n, sT_beq], ?_⟩
          try walk_at "rd"
          refine ⟨line_ge (by decide), line_ge (by decide), by decide, ?_⟩
          refine .inl ⟨by simp [b2n, sT_beq], ?_⟩
          try walk_at "rd"
          refine ⟨line_ge (by decide), small_size (by decide), fun p hp => ⟨_, Sub.refl _, h p hp _ ((Sub.refl H).put hp) put_same⟩⟩
        refine cif_neg (by simpa using hlt) ?_
        subst hR
        refine seq_abs fun R hR => ?_
        walk_at "rd"
        refine ⟨small_size (by decide), ?_⟩
        refine cif_neg (by simp [deq, sT_beq]) ?_
        subst hR
        refine seq_abs fun R hR => ?_
        walk_at "rd"
        refine ⟨small_size (by decide), ?_⟩
        refine cif_neg (by simp [deq, sT_beq]) ?_
        refine cif_pos (by simp [deq, sT_beq]) ?_
        by_cases he : c = 41
        · subst he
          rw [show Par.ask .Q 41 l = some [] from (if_neg hlt).trans (if_pos rfl)] at h
          refine cif_pos (by simp [deq, sT_beq]) ?_
          exact ⟨small_size (by decide), fun p hp => ⟨_, Sub.refl _, h p hp _ ((Sub.refl H).put hp) put_same⟩⟩
        rw [show Par.ask .Q c l = none from (if_neg hlt).trans (if_neg he)] at h
        refine cif_neg (by simpa using he) ?_
        subst hR
        refine seq_abs fun R hR => ?_
        walk_at "rd"
        refine cif_neg (by simp [deq, sT_beq]) ?_
        by_cases hq : c = 81
        · subst hq
          refine cif_pos (by simp [deq, sT_beq]) ?_
          refine ⟨small_size (by decide), ?_⟩
          refine cif_neg (by simp [deq, sT_beq]) ?_
          subst hR
          walk_at "rd"
          exact ⟨H, Sub.refl _, h⟩
        refine cif_neg (by simpa using fun z => hq z.symm) ?_
        subst hR
        walk_at "rd"
        exact ⟨H, Sub.refl _, h⟩
    | O =>
      cases r with
      | nil =>
        replace h : Q .non H := h
        simp only [List.take_succ_cons, List.take_zero, List.take_nil, tokS]
        refine seq_abs fun R hR => ?_
        walk_at "rd"
        refine cif_neg (by simp [deq, sT_beq]) ?_
        subst hR
        refine seq_abs fun R hR => ?_
        walk_at "rd"
        rw [find_no]
        subst hR
        refine seq_abs fun R hR => ?_
        walk_at "rd"
        refine ⟨small_size (by decide), ?_⟩
        refine cif_neg (by simp [deq, sT_beq]) ?_
        subst hR
        refine seq_abs fun R hR => ?_
        walk_at "rd"
        refine ⟨small_size (by decide), ?_⟩
        refine cif_neg (by simp [deq, sT_beq]) ?_
        subst hR
        refine seq_abs fun R hR => ?_
        walk_at "rd"
        refine ⟨small_size (by decide), ?_⟩
        refine cif_neg (by simp [deq, sT_beq]) ?_
        refine cif_neg (by simp [deq, sT_beq]) ?_
        subst hR
        refine seq_abs fun R hR => ?_
        walk_at "rd"
        refine cif_pos (by simp [deq, sT_beq]) ?_
        refine ⟨small_size (by decide), ?_⟩
        refine cif_neg (by simp [deq, sT_beq]) ?_
        refine cif_neg (by simp [deq, sT_beq]) ?_
        subst hR
        walk_at "rd"
        exact ⟨H, Sub.refl _, h⟩
      | cons c r =>
        replace h : Ask H Q (Par.ask (.O) c l) := h
        simp only [List.take_succ_cons, List.take_zero, List.take_nil, tokS]
        refine seq_abs fun R hR => ?_
        walk_at "rd"
        refine cif_neg (by simp [deq, sT_beq]) ?_
        subst hR
        refine seq_abs fun R hR => ?_
        walk_at "rd"
        rw [find_lt]
        subst hR
        refine seq_abs fun R hR => ?_
        walk_at "rd"
        refine ⟨small_size (by decide), ?_⟩
        refine cif_neg (by simp [deq, sT_beq]) ?_
        subst hR
        refine seq_abs fun R hR => ?_
        walk_at "rd"
        refine ⟨small_size (by decide), ?_⟩
        refine cif_neg (by simp [deq, sT_beq]) ?_
        subst hR
        refine seq_abs fun R hR => ?_
        walk_at "rd"
        refine ⟨small_size (by decide), ?_⟩
        refine cif_neg (by simp [deq, sT_beq]) ?_
        refine cif_neg (by simp [deq, sT_beq]) ?_
        subst hR
        refine seq_abs fun R hR => ?_
        walk_at "rd"
        refine cif_pos (by simp [deq, sT_beq]) ?_
        refine ⟨small_size (by decide), ?_⟩
        refine cif_eq (any_tk (cs := [42, 47]) (r := [c])) ?_
        by_cases hq : c = 42 ∨ c = 47
        · refine cif_pos (by simpa using hq) ?_
          rw [show Par.ask .O c l = some [] from if_pos hq] at h
          exact ⟨small_size (by decide), fun p hp => ⟨_, Sub.refl _, h p hp _ ((Sub.refl H).put hp) put_same⟩⟩
        rw [show Par.ask .O c l = none from if_neg hq] at h
        refine cif_neg (by simpa using hq) ?_
        by_cases h79 : c = 79
        · subst h79
          refine cif_pos (by simp [deq, sT_beq]) ?_
          refine ⟨small_size (by decide), ?_⟩
          refine cif_neg (by simp [deq, sT_beq]) ?_
          subst hR
          walk_at "rd"
          exact ⟨H, Sub.refl _, h⟩
        refine cif_neg (by simpa using fun z => h79 z.symm) ?_
        subst hR
        walk_at "rd"
        exact ⟨H, Sub.refl _, h⟩
    | n b =>
      cases b with
      | true =>
        cases r with
        | nil =>
          replace h : Q .non H := h
          simp only [List.take_succ_cons, List.take_zero, List.take_nil, tokS]
          refine seq_abs fun R hR => ?_
          walk_at "rd"
          refine cif_neg (by simp [deq, sT_beq]) ?_
          subst hR
          refine seq_abs fun R hR => ?_
          walk_at "rd"
          rw [find_no]
          subst hR
          refine seq_abs fun R hR => ?_
          walk_at "rd"
          refine ⟨small_size (by decide), ?_⟩
          refine cif_pos (by simp [deq, sT_beq]) ?_
          refine cif_neg (by simp [deq, sT_beq]) ?_
          subst hR
          refine seq_abs fun R hR => ?_
          walk_at "rd"
          refine ⟨small_size (by decide), ?_⟩
          refine cif_neg (by simp [deq, sT_beq]) ?_
          subst hR
          refine seq_abs fun R hR => ?_
          walk_at "rd"
          refine ⟨small_size (by decide), ?_⟩
          refine cif_neg (by simp [deq, sT_beq]) ?_
          refine cif_neg (by simp [deq, sT_beq]) ?_
          subst hR
          refine seq_abs fun R hR => ?_
          walk_at "rd"
          refine cif_neg (by simp [deq, sT_beq]) ?_
          refine cif_neg (by simp [deq, sT_beq]) ?_
          subst hR
          walk_at "rd"
          exact ⟨H, Sub.refl _, h⟩
        | cons c r =>
          replace h : Ask H Q (Par.ask (.n true) c l) := h
          simp only [List.take_succ_cons, List.take_zero, List.take_nil, tokS]
          refine seq_abs fun R hR => ?_
          walk_at "rd"
          refine cif_neg (by simp [deq, sT_beq]) ?_
          subst hR
          refine seq_abs fun R hR => ?_
          walk_at "rd"
          rw [find_lt]
          subst hR
          refine seq_abs fun R hR => ?_
          walk_at "rd"
          refine ⟨small_size (by decide), ?_⟩
          refine cif_pos (by simp [deq, sT_beq]) ?_
          refine cif_pos (by simp [deq, sT_beq]) ?_
          by_cases hlt : l < Par.lt c
          · refine cif_pos (by simpa using hlt) ?_
            rw [show Par.ask (.n true) c l = some [.m true] from if_pos hlt] at h
            refine ⟨line_ge (by decide), by decide, ?_⟩
            refine .inr ⟨by simp [b2n, sT_beq], ?_⟩
            try walk_at "rd"
            refine ⟨line_ge (by decide), line_ge (by decide), by decide, ?_⟩
            refine .inl ⟨by simp [b2n, sT_beq], ?_⟩
            try walk_at "rd"
            refine ⟨line_ge (by decide), small_size (by decide), fun p hp => ⟨_, Sub.refl _, h p hp _ ((Sub.refl H).put hp) put_same⟩⟩
          refine cif_neg (by simpa using hlt) ?_
          subst hR
          refine seq_abs fun R hR => ?_
          walk_at "rd"
          refine ⟨small_size (by decide), ?_⟩
          refine cif_neg (by simp [deq, sT_beq]) ?_
          subst hR
          refine seq_abs fun R hR => ?_
          walk_at "rd"
          refine ⟨small_size (by decide), ?_⟩
          rw [show Par.ask (.n true) c l = none from if_neg hlt] at h
          refine cif_neg (by simp [deq, sT_beq]) ?_
          refine cif_neg (by simp [deq, sT_beq]) ?_
          subst hR
          refine seq_abs fun R hR => ?_
          walk_at "rd"
          refine cif_neg (by simp [deq, sT_beq]) ?_
          refine cif_neg (by simp [deq, sT_beq]) ?_
          subst hR
          walk_at "rd"
          exact ⟨H, Sub.refl _, h⟩
      | false =>
        cases r with
        | nil =>
          replace h : Q .non H := h
          simp only [List.take_succ_cons, List.take_zero, List.take_nil, tokS]
          refine seq_abs fun R hR => ?_
          walk_at "rd"
          refine cif_neg (by simp [deq, sT_beq]) ?_
          subst hR
          refine seq_abs fun R hR => ?_
          walk_at "rd"
          rw [find_no]
          subst hR
          refine seq_abs fun R hR => ?_
          walk_at "rd"
          refine ⟨small_size (by decide), ?_⟩
          refine cif_pos (by simp [deq, sT_beq]) ?_
          refine cif_neg (by simp [deq, sT_beq]) ?_
          subst hR
          refine seq_abs fun R hR => ?_
          walk_at "rd"
          refine ⟨small_size (by decide), ?_⟩
          refine cif_neg (by simp [deq, sT_beq]) ?_
          subst hR
          refine seq_abs fun R hR => ?_
          walk_at "rd"
          refine ⟨small_size (by decide), ?_⟩
          refine cif_neg (by simp [deq, sT_beq]) ?_
          refine cif_neg (by simp [deq, sT_beq]) ?_
          subst hR
          refine seq_abs fun R hR => ?_
          walk_at "rd"
          refine cif_neg (by simp [deq, sT_beq]) ?_
          refine cif_neg (by simp [deq, sT_beq]) ?_
          subst hR
          walk_at "rd"
          exact ⟨H, Sub.refl _, h⟩
        | cons c r =>
          replace h : Ask H Q (Par.ask (.n false) c l) := h
          simp only [List.take_succ_cons, List.take_zero, List.take_nil, tokS]
          refine seq_abs fun R hR => ?_
          walk_at "rd"
          refine cif_neg (by simp [deq, sT_beq]) ?_
          subst hR
          refine seq_abs fun R hR => ?_
          walk_at "rd"
          rw [find_lt]
          subst hR
          refine seq_abs fun R hR => ?_
          walk_at "rd"
          refine ⟨small_size (by decide), ?_⟩
          refine cif_pos (by simp [deq, sT_beq]) ?_
          refine cif_pos (by simp [deq, sT_beq]) ?_
          by_cases hlt : l < Par.lt c
          · refine cif_pos (by simpa using hlt) ?_
            rw [show Par.ask (.n false) c l = some [.m false] from if_pos hlt] at h
            refine ⟨line_ge (by decide), by decide, ?_⟩
            refine .inl ⟨by simp [b2n, sT_beq], ?_⟩
            try walk_at "rd"
            refine ⟨line_ge (by decide), line_ge (by decide), by decide, ?_⟩
            refine .inr ⟨by simp [b2n, sT_beq], ?_⟩
            try walk_at "rd"
            refine ⟨line_ge (by decide), small_size (by decide), fun p hp => ⟨_, Sub.refl _, h p hp _ ((Sub.refl H).put hp) put_same⟩⟩
          refine cif_neg (by simpa using hlt) ?_
          subst hR
          refine seq_abs fun R hR => ?_
          walk_at "rd"
          refine ⟨small_size (by decide), ?_⟩
          refine cif_neg (by simp [deq, sT_beq]) ?_
          subst hR
          refine seq_abs fun R hR => ?_
          walk_at "rd"
          refine ⟨small_size (by decide), ?_⟩
          rw [show Par.ask (.n false) c l = none from if_neg hlt] at h
          refine cif_neg (by simp [deq, sT_beq]) ?_
          refine cif_neg (by simp [deq, sT_beq]) ?_
          subst hR
          refine seq_abs fun R hR => ?_
          walk_at "rd"
          refine cif_neg (by simp [deq, sT_beq]) ?_
          refine cif_neg (by simp [deq, sT_beq]) ?_
          subst hR
          walk_at "rd"
          exact ⟨H, Sub.refl _, h⟩
    | m b =>
      cases b with
      | true =>
        cases r with
        | nil =>
          replace h : Q .non H := h
          simp only [List.take_succ_cons, List.take_zero, List.take_nil, tokS]
          refine seq_abs fun R hR => ?_
          walk_at "rd"
          refine cif_neg (by simp [deq, sT_beq]) ?_
          subst hR
          refine seq_abs fun R hR => ?_
          walk_at "rd"
          rw [find_no]
          subst hR
          refine seq_abs fun R hR => ?_
          walk_at "rd"
          refine ⟨small_size (by decide), ?_⟩
          refine cif_neg (by simp [deq, sT_beq]) ?_
          subst hR
          refine seq_abs fun R hR => ?_
          walk_at "rd"
          refine ⟨small_size (by decide), ?_⟩
          refine cif_pos (by simp [deq, sT_beq]) ?_
          refine cif_neg (by simp [deq, sT_beq]) ?_
          subst hR
          refine seq_abs fun R hR => ?_
          walk_at "rd"
          refine ⟨small_size (by decide), ?_⟩
          refine cif_pos (by simp [deq, sT_beq]) ?_
          refine ⟨line_ge (by decide), 41, by rw [sT_cps]; rfl, ?_⟩
          try walk_at "rd"
          refine cif_neg (by simp [deq, sT_beq]) ?_
          refine cif_neg (by simp [deq, sT_beq]) ?_
          subst hR
          refine seq_abs fun R hR => ?_
          walk_at "rd"
          refine cif_neg (by simp [deq, sT_beq]) ?_
          refine cif_neg (by simp [deq, sT_beq]) ?_
          subst hR
          walk_at "rd"
          exact ⟨H, Sub.refl _, h⟩
        | cons c r =>
          replace h : Ask H Q (Par.ask (.m true) c l) := h
          simp only [List.take_succ_cons, List.take_zero, List.take_nil, tokS]
          refine seq_abs fun R hR => ?_
          walk_at "rd"
          refine cif_neg (by simp [deq, sT_beq]) ?_
          subst hR
          refine seq_abs fun R hR => ?_
          walk_at "rd"
          rw [find_lt]
          subst hR
          refine seq_abs fun R hR => ?_
          walk_at "rd"
          refine ⟨small_size (by decide), ?_⟩
          refine cif_neg (by simp [deq, sT_beq]) ?_
          subst hR
          refine seq_abs fun R hR => ?_
          walk_at "rd"
          refine ⟨small_size (by decide), ?_⟩
          refine cif_pos (by simp [deq, sT_beq]) ?_
          by_cases h32 : c = 32
          · subst h32
            refine cif_pos (by simp) ?_
            by_cases h5 : l < 5
            · refine cif_pos (by simpa using h5) ?_
              rw [show Par.ask (.m true) 32 l = some [.n true] from if_pos ⟨rfl, h5⟩] at h
              refine ⟨line_ge (by decide), 41, by rw [sT_cps]; rfl, ?_⟩
              try walk_at "rd"
              exact ⟨line_ge (by decide), small_size (by decide), fun p hp => ⟨_, Sub.refl _, h p hp _ ((Sub.refl H).put hp) put_same⟩⟩
            refine cif_neg (by simpa using h5) ?_
            rw [show Par.ask (.m true) 32 l = none from (if_neg (fun z => h5 z.2)).trans (if_neg (by decide))] at h
            subst hR
            refine seq_abs fun R hR => ?_
            walk_at "rd"
            refine ⟨small_size (by decide), ?_⟩
            refine cif_pos (by simp [deq, sT_beq]) ?_
            refine ⟨line_ge (by decide), 41, by rw [sT_cps]; rfl, ?_⟩
            try walk_at "rd"
            refine cif_neg (by simp [deq, sT_beq]) ?_
            refine cif_neg (by simp [deq, sT_beq]) ?_
            subst hR
            refine seq_abs fun R hR => ?_
            walk_at "rd"
            refine cif_neg (by simp [deq, sT_beq]) ?_
            refine cif_neg (by simp [deq, sT_beq]) ?_
            subst hR
            walk_at "rd"
            exact ⟨H, Sub.refl _, h⟩
          refine cif_neg (by simpa using h32) ?_
          subst hR
          refine seq_abs fun R hR => ?_
          walk_at "rd"
          refine ⟨small_size (by decide), ?_⟩
          refine cif_pos (by simp [deq, sT_beq]) ?_
          refine ⟨line_ge (by decide), 41, by rw [sT_cps]; rfl, ?_⟩
          try walk_at "rd"
          by_cases he : c = 41
          · subst he
            rw [show Par.ask (.m true) 41 l = some [] from ask_me (b := true)] at h
            refine cif_pos (by simp [deq, sT_beq]) ?_
            exact ⟨small_size (by decide), fun p hp => ⟨_, Sub.refl _, h p hp _ ((Sub.refl H).put hp) put_same⟩⟩
          rw [show Par.ask (.m true) c l = none from (if_neg (fun z => h32 z.1)).trans (if_neg he)] at h
          refine cif_neg (by simpa using he) ?_
          refine cif_neg (by simp [deq, sT_beq]) ?_
          subst hR
          refine seq_abs fun R hR => ?_
          walk_at "rd"
          refine cif_neg (by simp [deq, sT_beq]) ?_
          refine cif_neg (by simp [deq, sT_beq]) ?_
          subst hR
          walk_at "rd"
          exact ⟨H, Sub.refl _, h⟩
      | false =>
        cases r with
        | nil =>
          replace h : Q .non H := h
          simp only [List.take_succ_cons, List.take_zero, List.take_nil, tokS]
          refine seq_abs fun R hR => ?_
          walk_at "rd"
          refine cif_neg (by simp [deq, sT_beq]) ?_
          subst hR
          refine seq_abs fun R hR => ?_
          walk_at "rd"
          rw [find_no]
          subst hR
          refine seq_abs fun R hR => ?_
          walk_at "rd"
          refine ⟨small_size (by decide), ?_⟩
          refine cif_neg (by simp [deq, sT_beq]) ?_
          subst hR
          refine seq_abs fun R hR => ?_
          walk_at "rd"
          refine ⟨small_size (by decide), ?_⟩
          refine cif_pos (by simp [deq, sT_beq]) ?_
          refine cif_neg (by simp [deq, sT_beq]) ?_
          subst hR
          refine seq_abs fun R hR => ?_
          walk_at "rd"
          refine ⟨small_size (by decide), ?_⟩
          refine cif_pos (by simp [deq, sT_beq]) ?_
          refine ⟨line_ge (by decide), 58, by rw [sT_cps]; rfl, ?_⟩
          try walk_at "rd"
          refine cif_neg (by simp [deq, sT_beq]) ?_
          refine cif_neg (by simp [deq, sT_beq]) ?_
          subst hR
          refine seq_abs fun R hR => ?_
          walk_at "rd"
          refine cif_neg (by simp [deq, sT_beq]) ?_
          refine cif_neg (by simp [deq, sT_beq]) ?_
          subst hR
          walk_at "rd"
          exact ⟨H, Sub.refl _, h⟩
        | cons c r =>
          replace h : Ask H Q (Par.ask (.m false) c l) := h
          simp only [List.take_succ_cons, List.take_zero, List.take_nil, tokS]
          refine seq_abs fun R hR => ?_
          walk_at "rd"
          refine cif_neg (by simp [deq, sT_beq]) ?_
          subst hR
          refine seq_abs fun R hR => ?_
          walk_at "rd"
          rw [find_lt]
          subst hR
          refine seq_abs fun R hR => ?_
          walk_at "rd"
          refine ⟨small_size (by decide), ?_⟩
          refine cif_neg (by simp [deq, sT_beq]) ?_
          subst hR
          refine seq_abs fun R hR => ?_
          walk_at "rd"
          refine ⟨small_size (by decide), ?_⟩
          refine cif_pos (by simp [deq, sT_beq]) ?_
          by_cases h32 : c = 32
          · subst h32
            refine cif_pos (by simp) ?_
            by_cases h5 : l < 5
            · refine cif_pos (by simpa using h5) ?_
              rw [show Par.ask (.m false) 32 l = some [.n false] from if_pos ⟨rfl, h5⟩] at h
              refine ⟨line_ge (by decide), 58, by rw [sT_cps]; rfl, ?_⟩
              try walk_at "rd"
              exact ⟨line_ge (by decide), small_size (by decide), fun p hp => ⟨_, Sub.refl _, h p hp _ ((Sub.refl H).put hp) put_same⟩⟩
            refine cif_neg (by simpa using h5) ?_
            rw [show Par.ask (.m false) 32 l = none from (if_neg (fun z => h5 z.2)).trans (if_neg (by decide))] at h
            subst hR
            refine seq_abs fun R hR => ?_
            walk_at "rd"
            refine ⟨small_size (by decide), ?_⟩
            refine cif_pos (by simp [deq, sT_beq]) ?_
            refine ⟨line_ge (by decide), 58, by rw [sT_cps]; rfl, ?_⟩
            try walk_at "rd"
            refine cif_neg (by simp [deq, sT_beq]) ?_
            refine cif_neg (by simp [deq, sT_beq]) ?_
            subst hR
            refine seq_abs fun R hR => ?_
            walk_at "rd"
            refine cif_neg (by simp [deq, sT_beq]) ?_
            refine cif_neg (by simp [deq, sT_beq]) ?_
            subst hR
            walk_at "rd"
            exact ⟨H, Sub.refl _, h⟩
          refine cif_neg (by simpa using h32) ?_
          subst hR
          refine seq_abs fun R hR => ?_
          walk_at "rd"
          refine ⟨small_size (by decide), ?_⟩
          refine cif_pos (by simp [deq, sT_beq]) ?_
          refine ⟨line_ge (by decide), 58, by rw [sT_cps]; rfl, ?_⟩
          try walk_at "rd"
          by_cases he : c = 58
          · subst he
            rw [show Par.ask (.m false) 58 l = some [] from ask_me (b := false)] at h
            refine cif_pos (by simp [deq, sT_beq]) ?_
            exact ⟨small_size (by decide), fun p hp => ⟨_, Sub.refl _, h p hp _ ((Sub.refl H).put hp) put_same⟩⟩
          rw [show Par.ask (.m false) c l = none from (if_neg (fun z => h32 z.1)).trans (if_neg he)] at h
          refine cif_neg (by simpa using he) ?_
          refine cif_neg (by simp [deq, sT_beq]) ?_
          subst hR
          refine seq_abs fun R hR => ?_
          walk_at "rd"
          refine cif_neg (by simp [deq, sT_beq]) ?_
          refine cif_neg (by simp [deq, sT_beq]) ?_
          subst hR
          walk_at "rd"
          exact ⟨H, Sub.refl _, h⟩
    | L z =>
      have hz : z = 117 ∨ z = 109 ∨ z = 40 ∨ z = 41 ∨ z = 32 := by simpa [TkOk] using hu
      rcases hz with rfl | rfl | rfl | rfl | rfl
      ·
        cases r with
        | nil =>
          replace h : Q .non H := h
          simp only [List.take_succ_cons, List.take_zero, List.take_nil, tokS]
          refine seq_abs fun R hR => ?_
          walk_at "rd"
          refine cif_neg (by simp [deq, sT_beq]) ?_
          subst hR
          refine seq_abs fun R hR => ?_
          walk_at "rd"
          rw [find_no]
          subst hR
          refine seq_abs fun R hR => ?_
          walk_at "rd"
          refine ⟨small_size (by decide), ?_⟩
          refine cif_neg (by simp [deq, sT_beq]) ?_
          subst hR
          refine seq_abs fun R hR => ?_
          walk_at "rd"
          refine ⟨small_size (by decide), ?_⟩
          refine cif_neg (by simp [deq, sT_beq]) ?_
          subst hR
          refine seq_abs fun R hR => ?_
          walk_at "rd"
          refine ⟨small_size (by decide), ?_⟩
          refine cif_neg (by simp [deq, sT_beq]) ?_
          refine cif_neg (by simp [deq, sT_beq]) ?_
          subst hR
          refine seq_abs fun R hR => ?_
          walk_at "rd"
          refine cif_neg (by simp [deq, sT_beq]) ?_
          refine cif_neg (by simp [deq, sT_beq]) ?_
          subst hR
          walk_at "rd"
          exact ⟨H, Sub.refl _, h⟩
        | cons c r =>
          replace h : Ask H Q (Par.ask (.L 117) c l) := h
          simp only [List.take_succ_cons, List.take_zero, List.take_nil, tokS]
          refine seq_abs fun R hR => ?_
          walk_at "rd"
          refine cif_neg (by simp [deq, sT_beq]) ?_
          subst hR
          refine seq_abs fun R hR => ?_
          walk_at "rd"
          rw [find_lt]
          subst hR
          refine seq_abs fun R hR => ?_
          walk_at "rd"
          refine ⟨small_size (by decide), ?_⟩
          refine cif_neg (by simp [deq, sT_beq]) ?_
          subst hR
          refine seq_abs fun R hR => ?_
          walk_at "rd"
          refine ⟨small_size (by decide), ?_⟩
          refine cif_neg (by simp [deq, sT_beq]) ?_
          subst hR
          refine seq_abs fun R hR => ?_
          walk_at "rd"
          refine ⟨small_size (by decide), ?_⟩
          refine cif_neg (by simp [deq, sT_beq]) ?_
          refine cif_neg (by simp [deq, sT_beq]) ?_
          subst hR
          refine seq_abs fun R hR => ?_
          walk_at "rd"
          refine cif_neg (by simp [deq, sT_beq]) ?_
          by_cases hq : c = 117
          · subst hq
            rw [ask_L] at h
            refine cif_pos (by simp [deq, sT_beq]) ?_
            refine ⟨small_size (by decide), ?_⟩
            refine cif_pos (by simp [deq, sT_beq]) ?_
            exact ⟨small_size (by decide), fun p hp => ⟨_, Sub.refl _, h p hp _ ((Sub.refl H).put hp) put_same⟩⟩
          rw [show Par.ask (.L 117) c l = none from if_neg hq] at h
          refine cif_neg (by simpa using fun z => hq z.symm) ?_
          subst hR
          walk_at "rd"
          exact ⟨H, Sub.refl _, h⟩
      ·
        cases r with
        | nil =>
          replace h : Q .non H := h
          simp only [List.take_succ_cons, List.take_zero, List.take_nil, tokS]
          refine seq_abs fun R hR => ?_
          walk_at "rd"
          refine cif_neg (by simp [deq, sT_beq]) ?_
          subst hR
          refine seq_abs fun R hR => ?_
          walk_at "rd"
          rw [find_no]
          subst hR
          refine seq_abs fun R hR => ?_
          walk_at "rd"
          refine ⟨small_size (by decide), ?_⟩
          refine cif_neg (by simp [deq, sT_beq]) ?_
          subst hR
          refine seq_abs fun R hR => ?_
          walk_at "rd"
          refine ⟨small_size (by decide), ?_⟩
          refine cif_neg (by simp [deq, sT_beq]) ?_
          subst hR
          refine seq_abs fun R hR => ?_
          walk_at "rd"
          refine ⟨small_size (by decide), ?_⟩
          refine cif_neg (by simp [deq, sT_beq]) ?_
          refine cif_neg (by simp [deq, sT_beq]) ?_
          subst hR
          refine seq_abs fun R hR => ?_
          walk_at "rd"
          refine cif_neg (by simp [deq, sT_beq]) ?_
          refine cif_neg (by simp [deq, sT_beq]) ?_
          subst hR
          walk_at "rd"
          exact ⟨H, Sub.refl _, h⟩
        | cons c r =>
          replace h : Ask H Q (Par.ask (.L 109) c l) := h
          simp only [List.take_succ_cons, List.take_zero, List.take_nil, tokS]
          refine seq_abs fun R hR => ?_
          walk_at "rd"
          refine cif_neg (by simp [deq, sT_beq]) ?_
          subst hR
          refine seq_abs fun R hR => ?_
          walk_at "rd"
          rw [find_lt]
          subst hR
          refine seq_abs fun R hR => ?_
          walk_at "rd"
          refine ⟨small_size (by decide), ?_⟩
          refine cif_neg (by simp [deq, sT_beq]) ?_
          subst hR
          refine seq_abs fun R hR => ?_
          walk_at "rd"
          refine ⟨small_size (by decide), ?_⟩
          refine cif_neg (by simp [deq, sT_beq]) ?_
          subst hR
          refine seq_abs fun R hR => ?_
          walk_at "rd"
          refine ⟨small_size (by decide), ?_⟩
          refine cif_neg (by simp [deq, sT_beq]) ?_
          refine cif_neg (by simp [deq, sT_beq]) ?_
          subst hR
          refine seq_abs fun R hR => ?_
          walk_at "rd"
          refine cif_neg (by simp [deq, sT_beq]) ?_
          by_cases hq : c = 109
          · subst hq
            rw [ask_L] at h
            refine cif_pos (by simp [deq, sT_beq]) ?_
            refine ⟨small_size (by decide), ?_⟩
            refine cif_pos (by simp [deq, sT_beq]) ?_
            exact ⟨small_size (by decide), fun p hp => ⟨_, Sub.refl _, h p hp _ ((Sub.refl H).put hp) put_same⟩⟩
          rw [show Par.ask (.L 109) c l = none from if_neg hq] at h
          refine cif_neg (by simpa using fun z => hq z.symm) ?_
          subst hR
          walk_at "rd"
          exact ⟨H, Sub.refl _, h⟩
      ·
        cases r with
        | nil =>
          replace h : Q .non H := h
          simp only [List.take_succ_cons, List.take_zero, List.take_nil, tokS]
          refine seq_abs fun R hR => ?_
          walk_at "rd"
          refine cif_neg (by simp [deq, sT_beq]) ?_
          subst hR
          refine seq_abs fun R hR => ?_
          walk_at "rd"
          rw [find_no]
          subst hR
          refine seq_abs fun R hR => ?_
          walk_at "rd"
          refine ⟨small_size (by decide), ?_⟩
          refine cif_neg (by simp [deq, sT_beq]) ?_
          subst hR
          refine seq_abs fun R hR => ?_
          walk_at "rd"
          refine ⟨small_size (by decide), ?_⟩
          refine cif_neg (by simp [deq, sT_beq]) ?_
          subst hR
          refine seq_abs fun R hR => ?_
          walk_at "rd"
          refine ⟨small_size (by decide), ?_⟩
          refine cif_neg (by simp [deq, sT_beq]) ?_
          refine cif_neg (by simp [deq, sT_beq]) ?_
          subst hR
          refine seq_abs fun R hR => ?_
          walk_at "rd"
          refine cif_neg (by simp [deq, sT_beq]) ?_
          refine cif_neg (by simp [deq, sT_beq]) ?_
          subst hR
          walk_at "rd"
          exact ⟨H, Sub.refl _, h⟩
        | cons c r =>
          replace h : Ask H Q (Par.ask (.L 40) c l) := h
          simp only [List.take_succ_cons, List.take_zero, List.take_nil, tokS]
          refine seq_abs fun R hR => ?_
          walk_at "rd"
          refine cif_neg (by simp [deq, sT_beq]) ?_
          subst hR
          refine seq_abs fun R hR => ?_
          walk_at "rd"
          rw [find_lt]
          subst hR
          refine seq_abs fun R hR => ?_
          walk_at "rd"
          refine ⟨small_size (by decide), ?_⟩
          refine cif_neg (by simp [deq, sT_beq]) ?_
          subst hR
          refine seq_abs fun R hR => ?_
          walk_at "rd"
          refine ⟨small_size (by decide), ?_⟩
          refine cif_neg (by simp [deq, sT_beq]) ?_
          subst hR
          refine seq_abs fun R hR => ?_
          walk_at "rd"
          refine ⟨small_size (by decide), ?_⟩
          refine cif_neg (by simp [deq, sT_beq]) ?_
          refine cif_neg (by simp [deq, sT_beq]) ?_
          subst hR
          refine seq_abs fun R hR => ?_
          walk_at "rd"
          refine cif_neg (by simp [deq, sT_beq]) ?_
          by_cases hq : c = 40
          · subst hq
            rw [ask_L] at h
            refine cif_pos (by simp [deq, sT_beq]) ?_
            refine ⟨small_size (by decide), ?_⟩
            refine cif_pos (by simp [deq, sT_beq]) ?_
            exact ⟨small_size (by decide), fun p hp => ⟨_, Sub.refl _, h p hp _ ((Sub.refl H).put hp) put_same⟩⟩
          rw [show Par.ask (.L 40) c l = none from if_neg hq] at h
          refine cif_neg (by simpa using fun z => hq z.symm) ?_
          subst hR
          walk_at "rd"
          exact ⟨H, Sub.refl _, h⟩
      ·
        cases r with
        | nil =>
          replace h : Q .non H := h
          simp only [List.take_succ_cons, List.take_zero, List.take_nil, tokS]
          refine seq_abs fun R hR => ?_
          walk_at "rd"
          refine cif_neg (by simp [deq, sT_beq]) ?_
          subst hR
          refine seq_abs fun R hR => ?_
          walk_at "rd"
          rw [find_no]
          subst hR
          refine seq_abs fun R hR => ?_
          walk_at "rd"
          refine ⟨small_size (by decide), ?_⟩
          refine cif_neg (by simp [deq, sT_beq]) ?_
          subst hR
          refine seq_abs fun R hR => ?_
          walk_at "rd"
          refine ⟨small_size (by decide), ?_⟩
          refine cif_neg (by simp [deq, sT_beq]) ?_
          subst hR
          refine seq_abs fun R hR => ?_
          walk_at "rd"
          refine ⟨small_size (by decide), ?_⟩
          refine cif_neg (by simp [deq, sT_beq]) ?_
          refine cif_neg (by simp [deq, sT_beq]) ?_
          subst hR
          refine seq_abs fun R hR => ?_
          walk_at "rd"
          refine cif_neg (by simp [deq, sT_beq]) ?_
          refine cif_neg (by simp [deq, sT_beq]) ?_
          subst hR
          walk_at "rd"
          exact ⟨H, Sub.refl _, h⟩
        | cons c r =>
          replace h : Ask H Q (Par.ask (.L 41) c l) := h
          simp only [List.take_succ_cons, List.take_zero, List.take_nil, tokS]
          refine seq_abs fun R hR => ?_
          walk_at "rd"
          refine cif_neg (by simp [deq, sT_beq]) ?_
          subst hR
          refine seq_abs fun R hR => ?_
          walk_at "rd"
          rw [find_lt]
          subst hR
          refine seq_abs fun R hR => ?_
          walk_at "rd"
          refine ⟨small_size (by decide), ?_⟩
          refine cif_neg (by simp [deq, sT_beq]) ?_
          subst hR
          refine seq_abs fun R hR => ?_
          walk_at "rd"
          refine ⟨small_size (by decide), ?_⟩
          refine cif_neg (by simp [deq, sT_beq]) ?_
          subst hR
          refine seq_abs fun R hR => ?_
          walk_at "rd"
          refine ⟨small_size (by decide), ?_⟩
          refine cif_neg (by simp [deq, sT_beq]) ?_
          refine cif_neg (by simp [deq, sT_beq]) ?_
          subst hR
          refine seq_abs fun R hR => ?_
          walk_at "rd"
          refine cif_neg (by simp [deq, sT_beq]) ?_
          by_cases hq : c = 41
          · subst hq
            rw [ask_L] at h
            refine cif_pos (by simp [deq, sT_beq]) ?_
            refine ⟨small_size (by decide), ?_⟩
            refine cif_pos (by simp [deq, sT_beq]) ?_
            exact ⟨small_size (by decide), fun p hp => ⟨_, Sub.refl _, h p hp _ ((Sub.refl H).put hp) put_same⟩⟩
          rw [show Par.ask (.L 41) c l = none from if_neg hq] at h
          refine cif_neg (by simpa using fun z => hq z.symm) ?_
          subst hR
          walk_at "rd"
          exact ⟨H, Sub.refl _, h⟩
      ·
        cases r with
        | nil =>
          replace h : Q .non H := h
          simp only [List.take_succ_cons, List.take_zero, List.take_nil, tokS]
          refine seq_abs fun R hR => ?_
          walk_at "rd"
          refine cif_neg (by simp [deq, sT_beq]) ?_
          subst hR
          refine seq_abs fun R hR => ?_
          walk_at "rd"
          rw [find_no]
          subst hR
          refine seq_abs fun R hR => ?_
          walk_at "rd"
          refine ⟨small_size (by decide), ?_⟩
          refine cif_neg (by simp [deq, sT_beq]) ?_
          subst hR
          refine seq_abs fun R hR => ?_
          walk_at "rd"
          refine ⟨small_size (by decide), ?_⟩
          refine cif_neg (by simp [deq, sT_beq]) ?_
          subst hR
          refine seq_abs fun R hR => ?_
          walk_at "rd"
          refine ⟨small_size (by decide), ?_⟩
          refine cif_neg (by simp [deq, sT_beq]) ?_
          refine cif_neg (by simp [deq, sT_beq]) ?_
          subst hR
          refine seq_abs fun R hR => ?_
          walk_at "rd"
          refine cif_neg (by simp [deq, sT_beq]) ?_
          refine cif_neg (by simp [deq, sT_beq]) ?_
          subst hR
          walk_at "rd"
          exact ⟨H, Sub.refl _, h⟩
        | cons c r =>
          replace h : Ask H Q (Par.ask (.L 32) c l) := h
          simp only [List.take_succ_cons, List.take_zero, List.take_nil, tokS]
          refine seq_abs fun R hR => ?_
          walk_at "rd"
          refine cif_neg (by simp [deq, sT_beq]) ?_
          subst hR
          refine seq_abs fun R hR => ?_
          walk_at "rd"
          rw [find_lt]
          subst hR
          refine seq_abs fun R hR => ?_
          walk_at "rd"
          refine ⟨small_size (by decide), ?_⟩
          refine cif_neg (by simp [deq, sT_beq]) ?_
          subst hR
          refine seq_abs fun R hR => ?_
          walk_at "rd"
          refine ⟨small_size (by decide), ?_⟩
          refine cif_neg (by simp [deq, sT_beq]) ?_
          subst hR
          refine seq_abs fun R hR => ?_
          walk_at "rd"
          refine ⟨small_size (by decide), ?_⟩
          refine cif_neg (by simp [deq, sT_beq]) ?_
          refine cif_neg (by simp [deq, sT_beq]) ?_
          subst hR
          refine seq_abs fun R hR => ?_
          walk_at "rd"
          refine cif_neg (by simp [deq, sT_beq]) ?_
          by_cases hq : c = 32
          · subst hq
            rw [ask_L] at h
            refine cif_pos (by simp [deq, sT_beq]) ?_
            refine ⟨small_size (by decide), ?_⟩
            refine cif_pos (by simp [deq, sT_beq]) ?_
            exact ⟨small_size (by decide), fun p hp => ⟨_, Sub.refl _, h p hp _ ((Sub.refl H).put hp) put_same⟩⟩
          rw [show Par.ask (.L 32) c l = none from if_neg hq] at h
          refine cif_neg (by simpa using fun z => hq z.symm) ?_
          subst hR
          walk_at "rd"
          exact ⟨H, Sub.refl _, h⟩
  · exact h.elim

theorem G_law_place (T : Tx K mg t) : FnOk' P w K mg base CX0 2 t.a_law_place t.d_law_place ["_law_text"] sp_place := by
  refine okU (k := 1) T.F_law_place sc_law_place (fun vs H Q E h => by
    unfold sp_place at h
    split at h
    · rfl
    · exact h.elim) (fun cdv A outer s H E B hr => ⟨_, (qss_cons (qs_set (i := 1) sc_law_place.nd rfl (by first | exact Or.inl rfl | exact Or.inr rfl) (qe_lst (qa_cons qe_str qa_nil)))
    (qss_cons (qs_set (i := 2) sc_law_place.nd rfl (by first | exact Or.inl rfl | exact Or.inr rfl) (qe_neg qe_int))
    (qss_cons (qs_set (i := 3) sc_law_place.nd rfl (by first | exact Or.inl rfl | exact Or.inr rfl) qe_int)
    (qss_cons (qs_while PassesOwn.never (qt_cmp (op_neU hr.units) vr_eq (qv 1) (qe_lst qa_nil) (nomark _))
    (qss_cons (qs_set (i := 4) sc_law_place.nd rfl (by first | exact Or.inl rfl | exact Or.inr rfl) (qe_bm0 PySem.F.slot_list_pop PySem.F.type_list_pop mt_pop vm_pop hl_pop (qv 1)))
      (qss_cons (qs_set (i := 5) sc_law_place.nd rfl (by first | exact Or.inl rfl | exact Or.inr rfl) (qe_sliceS (qv 0) (qo_some (qv 3)) (qo_some (qe_add (qv 3) qe_int))))
      (qss_cons (qs_set (i := 6) sc_law_place.nd rfl (by first | exact Or.inl rfl | exact Or.inr rfl) (qe_call (G_law_asked_for T) (hr.mono (by decide)) rfl T.g_law_asked_for T.F_law_asked_for.kp T.B_law_asked_for (qa_cons (qv 4) (qa_cons (qv 5) (qa_cons (qv 2) qa_nil)))))
      (qss_cons (qs_if (qt_bool (qw_or (qt_cmp (op_eqU hr.units) vr_eq (qv 5) qe_str (nomark _)) (qw_or1 (qt_cmp op_isN vr_isN (qv 6) qe_non (nomark _)))))
      (qss_one (qs_ret (qv 3)))
      qss_nil)
      (qss_cons (qs_if (qt_cmp (op_eqU hr.units) vr_eq (qv 4) qe_str (nomark _))
      (qss_one (qs_set (i := 2) sc_law_place.nd rfl (by first | exact Or.inl rfl | exact Or.inr rfl) (qe_neg qe_int)))
      qss_nil)
      (qss_cons (qs_if (qt_bool (qw_and (qt_cmp (op_inU hr.units) vr_in (qv 4) (qe_tup (qa_cons qe_str (qa_cons qe_str (qa_cons qe_str qa_nil)))) (by with_unfolding_all rfl)) (qw_and1 (qt_cmp (op_neU hr.units) vr_eq (qv 5) qe_str (nomark _)))))
      (qss_one (qs_set (i := 2) sc_law_place.nd rfl (by first | exact Or.inl rfl | exact Or.inr rfl) (qe_bmS PySem.F.plainAttrs_str PySem.F.slot_str_find PySem.F.type_str_find mt_find vm_find qe_str (qa_cons (qv 5) qa_nil))))
      qss_nil)
      (qss_cons (qs_set (i := 1) sc_law_place.nd rfl (by first | exact Or.inl rfl | exact Or.inr rfl) (qe_cat (qv 1) (qv 6)))
      (qss_one (qs_set (i := 3) sc_law_place.nd rfl (by first | exact Or.inl rfl | exact Or.inr rfl) (qe_add (qv 3) qe_int)))))))))))
    (qss_cons (qs_if (qt_cmp op_lt vr_lt (qv 3) (qe_callB call_len_str vc_lenS rfl T.b_len PySem.boot_len (qa_cons (qv 0) qa_nil)) (nomark _))
    (qss_one (qs_ret (qv 3)))
    qss_nil)
    (qss_one (qs_ret qe_non))))))), ?_⟩)
  intro vs H Q E h
  unfold sp_place at h
  split at h
  · rename_i z
    obtain ⟨L, rfl, hL, h⟩ := h
    refine seq_abs fun R hR => ?_
    walk_at "rd"
    refine ⟨small_size (by decide), fun p0 hp0 => ?_⟩
    subst hR
    refine seq_abs fun R hR => ?_
    walk_at "rd"
    subst hR
    refine seq_abs fun R hR => ?_
    walk_at "rd"
    subst hR
    refine seq_abs fun R0 hR0 => ?_
    refine while_abs fun Rb hRb => ?_
    refine while_by (fun m σ H2 => ∃ (p : Addr) (S : List Par.Tok) (l : Int) (r : List Nat) (z4 z5 z6 : Option PV), m = r.length ∧ σ = [some (.str (sT L)), some (.ref p), some (.int l), some (.int ((L.length - r.length : Nat) : Int)), z4, z5, z6] ∧ U.Sub H H2 ∧ H2 p = some (.lst (S.reverse.map tkV)) ∧ H p = none ∧ (∃ q, L = q ++ r) ∧ (∀ u ∈ S, TkOk u) ∧ -1 ≤ l ∧ S.length + 8 * r.length ≤ 8 * L.length + 1 ∧ Par.run L [.F] (-1) = Par.run r S l) L.length
      ⟨p0, [.F], -1, L, none, none, none, rfl, by rw [Nat.sub_self]; rfl, (Sub.refl H).put hp0, put_same, hp0, ⟨[], rfl⟩, (fun u hu => by rw [List.mem_singleton.mp hu]; trivial), by decide, by simp; omega, rfl⟩ ?_
    rintro m σ H2 ⟨p, S, l, r, z4, z5, z6, rfl, rfl, s2, hp2, hpH, sf, tk, hl, hsz, hrun⟩
    have rle : r.length ≤ L.length := by obtain ⟨q, e⟩ := sf; rw [e, List.length_append]; omega
    walk_at "rd"
    refine ⟨small_size (by decide), fun q hq => ⟨_, (put_ne (ne_none hp2 hq)).trans hp2, flat_tk, ?_⟩⟩
    have s3 : U.Sub H (put H2 q (.lst [])) := s2.put (s2.free hq)
    have hp3 : put H2 q (.lst []) p = some (.lst (S.reverse.map tkV)) := (put_ne (ne_none hp2 hq)).trans hp2
    generalize put H2 q (.lst []) = H3 at *
    cases S with
    | nil =>
      refine cif_neg rfl ?_
      rw [hrun] at h
      subst hR0
      walk_at "rd"
      refine ⟨line_ge (by omega), ?_⟩
      cases r with
      | nil => exact cif_neg (by simp) ⟨H, s3, h⟩
      | cons c r =>
        simp only [List.length_cons] at rle
        exact cif_pos (by simp; omega) ⟨H, s3, h⟩
    | cons u S =>
      have hu := tk u List.mem_cons_self
      rw [List.reverse_cons, List.map_append] at hp3 ⊢
      refine cif_pos (by rw [List.map_cons, List.map_nil, deqs_no]; rfl) (exN2 fun N kk => ?_)
      subst hRb
      refine seq_abs fun R hR => ?_
      walk_at "rd"
      refine ⟨_, _, hp3, by rw [List.length_append, List.map_cons, List.map_nil, List.length_singleton, Nat.add_sub_cancel, List.getElem?_append_right (Nat.le_refl _), Nat.sub_self]; rfl, ?_⟩
      rw [List.map_cons, List.map_nil, List.dropLast_concat]
      have s4 : U.Sub H (put H3 p (.lst (S.reverse.map tkV))) := s3.put hpH
      have hp4 : put H3 p (.lst (S.reverse.map tkV)) p = some (.lst (S.reverse.map tkV)) := put_same
      generalize put H3 p (.lst (S.reverse.map tkV)) = H4 at *
      unfold tkV
      subst hR
      refine seq_abs fun R hR => ?_
      walk_at "rd"
      refine ⟨line_ge (by omega), ?_⟩
      rw [slice_r sf]
      subst hR
      refine seq_abs fun R hR => ?_
      walk_at "rd"
      refine ⟨u, r, rfl, hu, rfl, hl, ?_⟩
      cases r with
      | nil =>
        show R _ _ _
        subst hR
        rw [hrun] at h
        refine seq_abs fun R hR => ?_
        walk_at "rd"
        exact cif_pos (by simp) ⟨H, s4, h⟩
      | cons c r =>
        show Ask H4 _ _
        cases ha : Par.ask u c l with
        | none =>
          show R _ _ _
          subst hR
          rw [hrun, Par.run_no ha] at h
          refine seq_abs fun R hR => ?_
          walk_at "rd"
          exact cif_neg (by simp) ⟨H, s4, h⟩
        | some more =>
          intro pm hpm H5 s45 hpm5
          have ak := ask_ok ha
          have s5 := s4.trans s45
          have hp5 := s45 _ _ hp4
          subst hR
          refine seq_abs fun R hR => ?_
          walk_at "rd"
          refine cif_neg (by simp) ?_
          subst hR
          refine seq_abs fun R hR => ?_
          walk_at "rd"
          have key : ∀ l1 : Int, (match u with | .F => l1 = -1 | _ => l1 = l) → R { nx := N, rt := fun v H => ∃ H3, U.Sub H3 H ∧ Q v H3, bk := R0 { nx := fun x H => ∃ H3, U.Sub H3 H ∧ Q PV.non H3, rt := fun v H => ∃ H3, U.Sub H3 H ∧ Q v H3 }, ct := N } [some (.str (sT L)), some (.ref p), some (.int l1), some (.int ((L.length - (c :: r).length : Nat) : Int)), some (.str (tokS u)), some (.str (sT ((c :: r).take 1))), some (.ref pm)] H5 := fun l1 h1 => by
            subst hR
            refine seq_abs fun R hR => ?_
            walk_at "rd"
            have key2 : R { nx := N, rt := fun v H => ∃ H3, U.Sub H3 H ∧ Q v H3, bk := R0 { nx := fun x H => ∃ H3, U.Sub H3 H ∧ Q PV.non H3, rt := fun v H => ∃ H3, U.Sub H3 H ∧ Q v H3 }, ct := N } [some (.str (sT L)), some (.ref p), some (.int (Par.nl u c l)), some (.int ((L.length - (c :: r).length : Nat) : Int)), some (.str (tokS u)), some (.str (sT ((c :: r).take 1))), some (.ref pm)] H5 := by
              subst hR
              refine seq_abs fun R hR => ?_
              walk_at "rd"
              refine ⟨_, _, hp5, hpm5, by rw [List.length_map, List.length_map, List.length_reverse, List.length_reverse]; simp only [List.length_cons] at hsz rle; have := ak.2; exact line_ge (by omega), fun p6 hp6 => ?_⟩
              subst hR
              walk_at "rd"
              simp only [List.length_cons] at rle hsz
              have e1 : ((L.length - (r.length + 1) : Nat) : Int) + 1 = ((L.length - r.length : Nat) : Int) := by omega
              rw [e1]
              refine kk _ _ ⟨r.length, by simp, p6, more ++ S, Par.nl u c l, r, _, _, _, rfl, rfl, s5.put (s5.free hp6), ?_, s5.free hp6, ?_, ?_, nl_ge hl, ?_, ?_⟩
              · rw [put_same, List.reverse_append, List.map_append]
              · obtain ⟨q, e⟩ := sf; exact ⟨q ++ [c], by rw [e, List.append_assoc]; rfl⟩
              · intro v hv
                rcases List.mem_append.mp hv with hv | hv
                · exact ak.1 v hv
                · exact tk v (List.mem_cons_of_mem _ hv)
              · rw [List.length_append]; have := ak.2; omega
              · rw [hrun, Par.run_yes ha]
            refine ⟨small_size (by decide), ?_⟩
            rw [tk_Q hu]
            simp only [List.take_succ_cons, List.take_zero] at key2 ⊢
            cases u with
            | Q =>
              refine cif_pos rfl ?_
              by_cases h41 : c = 41
              · refine cif_neg (by simpa using h41) ?_
                rw [show Par.nl .Q c l = l from if_pos h41] at key2
                rw [show l1 = l from h1]; exact key2
              · refine cif_pos (by simpa using h41) ?_
                rw [find_lt]
                rw [show Par.nl .Q c l = Par.lt c from if_neg h41] at key2
                exact key2
            | n b =>
              refine cif_pos rfl ?_
              by_cases h41 : c = 41
              · refine cif_neg (by simpa using h41) ?_
                rw [show Par.nl (.n b) c l = l from if_pos h41] at key2
                rw [show l1 = l from h1]; exact key2
              · refine cif_pos (by simpa using h41) ?_
                rw [find_lt]
                rw [show Par.nl (.n b) c l = Par.lt c from if_neg h41] at key2
                exact key2
            | F => refine cif_neg rfl ?_; rw [show l1 = -1 from h1]; exact key2
            | m b => refine cif_neg rfl ?_; rw [show l1 = l from h1]; exact key2
            | O => refine cif_neg rfl ?_; rw [show l1 = l from h1]; exact key2
            | L z => refine cif_neg rfl ?_; rw [show l1 = l from h1]; exact key2
          rw [tk_F hu]
          cases u with
          | F => exact cif_pos rfl (key _ rfl)
          | Q => exact cif_neg rfl (key _ rfl)
          | n b => exact cif_neg rfl (key _ rfl)
          | m b => exact cif_neg rfl (key _ rfl)
          | O => exact cif_neg rfl (key _ rfl)
          | L z => exact cif_neg rfl (key _ rfl)
  · exact h.elim

theorem G_law_told (T : Tx K mg t) : FnOk' P w K mg base CX0 172 t.a_law_told t.d_law_told ["_law_text"] (sp_told t) := by
  refine okU (k := 171) T.F_law_told sc_law_told (fun vs H Q E h => by
    unfold sp_told at h
    split at h
    · rfl
    · exact h.elim) (fun cdv A outer s H E B hr => ⟨_, (qss_cons (qs_set (i := 1) sc_law_told.nd rfl (by first | exact Or.inl rfl | exact Or.inr rfl) qe_non)
    (qss_cons (qs_set (i := 2) sc_law_told.nd rfl (by first | exact Or.inl rfl | exact Or.inr rfl) qe_non)
    (qss_cons (qs_try (i := 3) (j := 1) ⟨rfl, rfl, rfl⟩ sc_law_told.nd rfl rfl rfl rfl T.x_DoingError rfl T.g_DoingError
    (qxs_one (qx_set (i := 2) sc_law_told.nd rfl (Or.inl rfl) (px_call ⟨rfl, rfl, rfl⟩ (G_formula_read T) (hr.mono (by decide)) rfl T.g_formula_read T.F_formula_read.kp T.B_formula_read (qa_cons (qv 0) qa_nil)))))
    (qss_one (qs_ret (qe_tup (qa_cons (qv 2) (qa_cons (qv 1) qa_nil)))))))), ?_⟩)
  intro vs H Q E h
  unfold sp_told at h
  split at h
  · rename_i z
    obtain ⟨L, rfl, hL, hc, h⟩ := h
    refine seq_abs fun R hR => ?_
    walk_at "rd"
    subst hR
    refine seq_abs fun R hR => ?_
    walk_at "rd"
    subst hR
    refine seq_abs fun R hR => ?_
    walk_at "rd"
    refine ⟨L, rfl, hL, hc, ?_⟩
    have bad : ∀ (n : Nat), (∀ a H1, U.Sub H H1 → H1 a = some (.excA t.a_NoText n) → Q (.tup [.non, .ref a]) H1) → ∀ H1, U.Sub H H1 → ∀ a, H1 a = none → R { nx := fun x H => ∃ H3, U.Sub H3 H ∧ Q PV.non H3, rt := fun v H => ∃ H3, U.Sub H3 H ∧ Q v H3 } [some (.str (sT L)), some (.ref a), some .non, none] (put H1 a (exo t.a_NoText (some n))) := fun n hn H1 s1 a ha => by
      subst hR
      walk_at "rd"
      exact ⟨small_size (by decide), _, Sub.refl _, hn a _ (s1.put (s1.free ha)) put_same⟩
    unfold Told at h
    unfold Rdd
    cases hp : pF 81 L with
    | error r =>
      rw [hp] at h
      exact fun H1 s1 => ⟨_, rfl, ⟨T.xi_NoText.c0, T.s_NoText⟩, bad _ h H1 s1⟩
    | ok v =>
      obtain ⟨f, r⟩ := v
      rw [hp] at h
      cases r with
      | nil =>
        show R _ _ _
        subst hR
        walk_at "rd"
        exact ⟨small_size (by decide), H, Sub.refl _, h⟩
      | cons c r => exact fun H1 s1 => ⟨_, rfl, ⟨T.xi_NoText.c0, T.s_NoText⟩, bad _ h H1 s1⟩
  · exact h.elim

theorem G_law (T : Tx K mg t) : FnOk' P w K mg base CX0 175 t.a_law t.d_law ["_law_script"] spL := by
  refine okU (k := 174) T.F_law sc_law (fun vs H Q E h => by
    unfold spL at h
    split at h
    · rfl
    · exact h.elim) (fun cdv A outer s H E B hr => ⟨_, (qss_cons (qs_set (i := 1) sc_law.nd rfl (by first | exact Or.inl rfl | exact Or.inr rfl) (qe_add qe_int (qe_mod (qe_call (G_law_cell_at T) (hr.mono (by decide)) rfl T.g_law_cell_at T.F_law_cell_at.kp T.B_law_cell_at (qa_cons (qv 0) (qa_cons qe_int qa_nil))) qe_int)))
    (qss_cons (qs_set (i := 2) sc_law.nd rfl (by first | exact Or.inl rfl | exact Or.inr rfl) (qe_call (G_law_formula_text T 81) (hr.mono (by decide)) rfl T.g_law_formula_text T.F_law_formula_text.kp T.B_law_formula_text (qa_cons (qe_call (G_law_formula T) (hr.mono (by decide)) rfl T.g_law_formula T.F_law_formula.kp T.B_law_formula (qa_cons (qv 0) (qa_cons qe_int (qa_cons (qv 1) qa_nil)))) qa_nil)))
    (qss_cons (qs_set (i := 3) sc_law.nd rfl (by first | exact Or.inl rfl | exact Or.inr rfl) (qe_call (G_law_cell_at T) (hr.mono (by decide)) rfl T.g_law_cell_at T.F_law_cell_at.kp T.B_law_cell_at (qa_cons (qv 0) (qa_cons qe_int qa_nil))))
    (qss_cons (qs_for PassesOwn.never rfl (qi_seq (qe_cat (qe_lst (qa_cons qe_int (qa_cons qe_int qa_nil))) (qe_slice (qv 0) (qo_some qe_int) (qo_some qe_int)))) (qg_name (i := 4) sc_law.nd rfl (by first | exact Or.inl rfl | exact Or.inr rfl))
    (qss_cons (qs_set (i := 5) sc_law.nd rfl (by first | exact Or.inl rfl | exact Or.inr rfl) (qe_call (G_law_bent T) (hr.mono (by decide)) rfl T.g_law_bent T.F_law_bent.kp T.B_law_bent (qa_cons (qv 2) (qa_cons (qv 4) (qa_cons (qv 3) qa_nil)))))
      (qss_cons (qs_set (i := 6) sc_law.nd rfl (by first | exact Or.inl rfl | exact Or.inr rfl) (qe_call (G_law_place T) (hr.mono (by decide)) rfl T.g_law_place T.F_law_place.kp T.B_law_place (qa_cons (qv 5) qa_nil)))
      (qss_cons (qs_asg (qe_call (G_law_told T) (hr.mono (by decide)) rfl T.g_law_told T.F_law_told.kp T.B_law_told (qa_cons (qv 5) qa_nil)) (qg_tup (n := 2) rfl (qgs_cons (qg_name (i := 7) sc_law.nd rfl (by first | exact Or.inl rfl | exact Or.inr rfl)) (qgs_cons (qg_name (i := 8) sc_law.nd rfl (by first | exact Or.inl rfl | exact Or.inr rfl)) qgs_nil))))
      (qss_cons (qs_if (qt_cmp op_isN vr_isN (qv 6) qe_non (nomark _))
      (qss_one (qs_if (qt_bool (qw_or (qt_cmp op_notN vr_notN (qv 8) qe_non (nomark _)) (qw_or1 (qt_cmp (op_neU hr.units) vr_eq (qe_call (G_law_formula_text T 81) (hr.mono (by decide)) rfl T.g_law_formula_text T.F_law_formula_text.kp T.B_law_formula_text (qa_cons (qv 7) qa_nil)) (qv 5) (nomark _)))))
        (qss_one (qs_ret qe_bl))
        qss_nil))
      (qss_one (qs_if (qt_bool (qw_or (qt_cmp op_isN vr_isN (qv 8) qe_non (nomark _)) (qw_or (qt_cmp (op_neU hr.units) vr_eq (qe_call (G_law_kinds T) (hr.mono (by decide)) rfl T.g_law_kinds T.F_law_kinds.kp T.B_law_kinds (qa_cons (qv 8) qa_nil)) (qe_lst (qa_cons qe_str qa_nil)) (nomark _)) (qw_or (qt_not (qt_val (qe_call (G_law_whole T) (hr.mono (by decide)) rfl T.g_law_whole T.F_law_whole.kp T.B_law_whole (qa_cons (qe_at (qv 8) rfl) qa_nil)))) (qw_or1 (qt_cmp (op_neU hr.units) vr_eq (qe_at (qv 8) rfl) (qv 6) (nomark _)))))))
        (qss_one (qs_ret qe_bl))
        qss_nil)))
      (qss_one (qs_set (i := 3) sc_law.nd rfl (by first | exact Or.inl rfl | exact Or.inr rfl) (qe_fdiv (qv 4) qe_int))))))))
    (qss_one (qs_ret qe_bl)))))), ?_⟩)
  intro vs H Q E h
  unfold spL at h
  split at h
  · rename_i l
    obtain ⟨ns, rfl, hl, h⟩ := h
    refine seq_abs fun R hR => ?_
    walk_at "rd"
    refine ⟨⟨by decide, by decide⟩, ns, rfl, by decide, ?_⟩
    subst hR
    have hc := fm (a := ns.getD (0 : Int).toNat 0) (b := 20) (by decide)
    generalize hcc : 1 + (ns.getD (0 : Int).toNat 0).fmod 20 = c at *
    refine seq_abs fun R hR => ?_
    walk_at "rd"
    refine ⟨⟨by omega, by omega⟩, ns, rfl, fun f0 of0 df0 wf0 cf0 => ⟨f0, rfl, by omega, of0, by omega, ?_⟩⟩
    generalize txt f0 = L at *
    subst hR
    refine seq_abs fun R hR => ?_
    walk_at "rd"
    refine ⟨⟨by decide, by decide⟩, ns, rfl, ?_⟩
    generalize ns.getD (1 : Int).toNat 0 = l0 at *
    subst hR
    refine seq_abs fun R1 hR1 => ?_
    walk_at "rd"
    refine ⟨small_size (by decide), fun p1 hp1 p2 hp2 => ?_⟩
    obtain ⟨ms, em, lm, _⟩ := cut_map PV.int ns (some 22) (some 63)
    have n12 : p1 ≠ p2 := fun e => by subst e; rw [put_same] at hp2; cases hp2
    rw [em]
    refine ⟨_, _, (put_ne n12).trans put_same, rfl, by rw [List.length_map]; exact line_ge (by simp only [List.length_cons, List.length_nil]; omega), fun q hq => ?_⟩
    have eL : [PV.int 0, PV.int 4] ++ ms.map PV.int = (0 :: 4 :: ms).map PV.int := rfl
    rw [eL]
    have lL : (0 :: 4 :: ms).length ≤ 70 := by simp only [List.length_cons]; omega
    generalize (0 :: 4 :: ms) = cs at *
    have h2 : H p2 = none := by rw [put_ne n12.symm] at hp2; exact hp2
    have s0 : U.Sub H (put (put H p1 (.lst [PV.int 0, PV.int 4])) p2 (.lst (ms.map PV.int))) := ((Sub.refl H).put hp1).put h2
    have hqH := s0.free hq
    refine for_at (fun i σ H2 => ∃ (l1 : Int) (z4 z5 z6 z7 z8 : Option PV), σ = [some (.fls (ns.map PV.int)), some (.int c), some (.str (sT L)), some (.int l1), z4, z5, z6, z7, z8] ∧ U.Sub H H2 ∧ H2 q = some (.lst (cs.map PV.int))) ?_ ?_ ⟨l0, _, _, _, _, _, rfl, s0.put hqH, put_same⟩
    · rintro σ H2 ⟨l1, z4, z5, z6, z7, z8, rfl, s2, hq2⟩
      refine ⟨hq2, ?_⟩
      subst hR1
      walk_at "rd"
      exact ⟨H, s2, h⟩
    · rintro G i y σ H2 hy ⟨l1, z4, z5, z6, z7, z8, rfl, s2, hq2⟩ kk
      refine ⟨hq2, ?_⟩
      rw [List.getElem?_map] at hy
      cases hg : cs[i]? with
      | none => rw [hg] at hy; cases hy
      | some ce =>
        rw [hg] at hy
        cases hy
        simp only [vName, List.set_cons_zero, List.set_cons_succ]
        refine seq_abs fun R hR => ?_
        walk_at "rd"
        refine ⟨L, rfl, wf0, cf0, fun M lM cM => ?_⟩
        subst hR
        refine seq_abs fun R hR => ?_
        walk_at "rd"
        refine ⟨M, rfl, by omega, ?_⟩
        subst hR
        rw [Par.place_eq cM]
        refine seq_abs fun R hR => ?_
        walk_at "rd"
        refine ⟨M, rfl, by omega, cM, ?_⟩
        have done : ∀ (pv tv cv : PV) (H3 : PHp), U.Sub H2 H3 → G [some (.fls (ns.map PV.int)), some (.int c), some (.str (sT L)), some (.int (ce.fdiv 200)), some (.int ce), some (.str (sT M)), some pv, some tv, some cv] H3 := fun pv tv cv H3 s3 => kk _ _ ⟨_, _, _, _, _, _, rfl, s2.trans s3, s3 _ _ hq2⟩
        have bad : ∀ (n : Nat) (a : Addr) (H3 : PHp), U.Sub H2 H3 → H3 a = some (.excA t.a_NoText n) → R { nx := G, rt := fun v H => ∃ H3, U.Sub H3 H ∧ Q v H3, bk := R1 { nx := fun x H => ∃ H3, U.Sub H3 H ∧ Q PV.non H3, rt := fun v H => ∃ H3, U.Sub H3 H ∧ Q v H3 }, ct := G } [some (.fls (ns.map PV.int)), some (.int c), some (.str (sT L)), some (.int l1), some (.int ce), some (.str (sT M)), some (.int (n : Int)), some .non, some (.ref a)] H3 := fun n a H3 s3 ha => by
          subst hR
          refine seq_abs fun R hR => ?_
          walk_at "rd"
          refine ⟨n, ha, fun r1 hr1 => ⟨small_size (by decide), fun p3 hp3 => ?_⟩⟩
          have n13 : r1 ≠ p3 := fun e => by subst e; rw [put_same] at hp3; cases hp3
          have hp3' : H3 p3 = none := by rw [put_ne n13.symm] at hp3; exact hp3
          have ha3 : put (put H3 r1 (.lst [.str "NoText"])) p3 (.lst [.str "NoText"]) a = some (.excA t.a_NoText n) := by rw [put_ne (ne_none ha hp3'), put_ne (ne_none ha hr1)]; exact ha
          refine ⟨_, (put_ne n13).trans put_same, by decide, cif_neg (by simp [deqs, deq]) ⟨_, _, n, ha3, T.xi_NoText, _, _, n, ha3, T.xi_NoText, cif_neg (by simp) ?_⟩⟩
          subst hR
          walk_at "rd"
          exact ⟨cdvB (by decide) (by decide), done _ _ _ _ ((s3.put (s3.free hr1)).put (s3.free hp3'))⟩
        unfold Told
        cases hp : pF 81 M with
        | error r =>
          intro a H3 s3 ha
          dsimp only [plV]
          walk_at "rd"
          exact bad _ a H3 s3 ha
        | ok v =>
          obtain ⟨f, r⟩ := v
          cases r with
          | cons c' r =>
            intro a H3 s3 ha
            dsimp only [plV]
            walk_at "rd"
            exact bad _ a H3 s3 ha
          | nil =>
            dsimp only [plV]
            walk_at "rd"
            have lf := Par.lf_F 81 M
            rw [hp] at lf
            have eM : M = txt f ++ [] := lf.1
            rw [List.append_nil] at eM
            subst hR
            refine seq_abs fun R hR => ?_
            walk_at "rd"
            refine ⟨f, rfl, lf.2.2, lf.2.1, by rw [← eM]; omega, cif_neg (by rw [eM]; simp) ?_⟩
            subst hR
            walk_at "rd"
            exact ⟨cdvB (by decide) (by decide), done _ _ _ _ (Sub.refl _)⟩
  · exact h.elim

end
theorem txt_mk {K : PySem.W.Frag} {h : Heap} {mg : Str → Option Value} {f_NoText_init f_Reader_init f_Reader_sign f_Reader_step f_Reader_steps f_Reader_name_from f_Reader_names f_Reader_seen f_Reader_summed f_Reader_joined f_Reader_formula f_formula_read f_law_cell_at f_law_whole f_law_mixed f_law_names f_law_formula f_law_formula_text f_law_kinds f_law_bent f_law_asked_for f_law_place f_law_told f_law k_BadPaper k_BadStep k_DoingError k_NoAnswer k_NoBow k_NoCount k_NoDoor k_NoFormula k_NoFraction k_NoName k_NoNest k_NoQuestion k_NoRoad k_NoRule k_NoSets k_NoShare k_NoText k_NoThinning k_NoTie k_NoValue k_NoWorld k_Reader : Addr} (X : K.In h) (G : h.Ns mainGlobals mg)
    {tk_LETTERS : Tok}
    {od_NoText_init an_NoText_init od_Reader_init an_Reader_init od_Reader_sign an_Reader_sign od_Reader_step an_Reader_step od_Reader_steps an_Reader_steps od_Reader_name_from an_Reader_name_from od_Reader_names an_Reader_names od_Reader_seen an_Reader_seen od_Reader_summed an_Reader_summed od_Reader_joined an_Reader_joined od_Reader_formula an_Reader_formula od_formula_read an_formula_read od_law_cell_at an_law_cell_at od_law_whole an_law_whole od_law_mixed an_law_mixed od_law_names an_law_names od_law_formula an_law_formula od_law_formula_text an_law_formula_text od_law_kinds an_law_kinds od_law_bent an_law_bent od_law_asked_for an_law_asked_for od_law_place an_law_place od_law_told an_law_told od_law an_law : Option Addr} {sl_NoText_init sl_Reader_init sl_Reader_sign sl_Reader_step sl_Reader_steps sl_Reader_name_from sl_Reader_names sl_Reader_seen sl_Reader_summed sl_Reader_joined sl_Reader_formula sl_formula_read sl_law_cell_at sl_law_whole sl_law_mixed sl_law_names sl_law_formula sl_law_formula_text sl_law_kinds sl_law_bent sl_law_asked_for sl_law_place sl_law_told sl_law : Array (Option Value)} {oc_NoText_init kV_NoText_init dc_NoText_init pm_NoText_init cd_NoText_init ct_NoText_init oc_Reader_init kV_Reader_init dc_Reader_init pm_Reader_init cd_Reader_init ct_Reader_init oc_Reader_sign kV_Reader_sign dc_Reader_sign pm_Reader_sign cd_Reader_sign ct_Reader_sign oc_Reader_step kV_Reader_step dc_Reader_step pm_Reader_step cd_Reader_step ct_Reader_step oc_Reader_steps kV_Reader_steps dc_Reader_steps pm_Reader_steps cd_Reader_steps ct_Reader_steps oc_Reader_name_from kV_Reader_name_from dc_Reader_name_from pm_Reader_name_from cd_Reader_name_from ct_Reader_name_from oc_Reader_names kV_Reader_names dc_Reader_names pm_Reader_names cd_Reader_names ct_Reader_names oc_Reader_seen kV_Reader_seen dc_Reader_seen pm_Reader_seen cd_Reader_seen ct_Reader_seen oc_Reader_summed kV_Reader_summed dc_Reader_summed pm_Reader_summed cd_Reader_summed ct_Reader_summed oc_Reader_joined kV_Reader_joined dc_Reader_joined pm_Reader_joined cd_Reader_joined ct_Reader_joined oc_Reader_formula kV_Reader_formula dc_Reader_formula pm_Reader_formula cd_Reader_formula ct_Reader_formula oc_formula_read kV_formula_read dc_formula_read pm_formula_read cd_formula_read ct_formula_read oc_law_cell_at kV_law_cell_at dc_law_cell_at pm_law_cell_at cd_law_cell_at ct_law_cell_at oc_law_whole kV_law_whole dc_law_whole pm_law_whole cd_law_whole ct_law_whole oc_law_mixed kV_law_mixed dc_law_mixed pm_law_mixed cd_law_mixed ct_law_mixed oc_law_names kV_law_names dc_law_names pm_law_names cd_law_names ct_law_names oc_law_formula kV_law_formula dc_law_formula pm_law_formula cd_law_formula ct_law_formula oc_law_formula_text kV_law_formula_text dc_law_formula_text pm_law_formula_text cd_law_formula_text ct_law_formula_text oc_law_kinds kV_law_kinds dc_law_kinds pm_law_kinds cd_law_kinds ct_law_kinds oc_law_bent kV_law_bent dc_law_bent pm_law_bent cd_law_bent ct_law_bent oc_law_asked_for kV_law_asked_for dc_law_asked_for pm_law_asked_for cd_law_asked_for ct_law_asked_for oc_law_place kV_law_place dc_law_place pm_law_place cd_law_place ct_law_place oc_law_told kV_law_told dc_law_told pm_law_told cd_law_told ct_law_told oc_law kV_law dc_law pm_law cd_law ct_law : Value}
    (C_BadPaper : PySem.W.nsIn K mainGlobals "BadPaper" = some (some (.ref k_BadPaper)))
    (C_BadStep : PySem.W.nsIn K mainGlobals "BadStep" = some (some (.ref k_BadStep)))
    (C_DoingError : PySem.W.nsIn K mainGlobals "DoingError" = some (some (.ref k_DoingError)))
    (C_NoAnswer : PySem.W.nsIn K mainGlobals "NoAnswer" = some (some (.ref k_NoAnswer)))
    (C_NoBow : PySem.W.nsIn K mainGlobals "NoBow" = some (some (.ref k_NoBow)))
    (C_NoCount : PySem.W.nsIn K mainGlobals "NoCount" = some (some (.ref k_NoCount)))
    (C_NoDoor : PySem.W.nsIn K mainGlobals "NoDoor" = some (some (.ref k_NoDoor)))
    (C_NoFormula : PySem.W.nsIn K mainGlobals "NoFormula" = some (some (.ref k_NoFormula)))
    (C_NoFraction : PySem.W.nsIn K mainGlobals "NoFraction" = some (some (.ref k_NoFraction)))
    (C_NoName : PySem.W.nsIn K mainGlobals "NoName" = some (some (.ref k_NoName)))
    (C_NoNest : PySem.W.nsIn K mainGlobals "NoNest" = some (some (.ref k_NoNest)))
    (C_NoQuestion : PySem.W.nsIn K mainGlobals "NoQuestion" = some (some (.ref k_NoQuestion)))
    (C_NoRoad : PySem.W.nsIn K mainGlobals "NoRoad" = some (some (.ref k_NoRoad)))
    (C_NoRule : PySem.W.nsIn K mainGlobals "NoRule" = some (some (.ref k_NoRule)))
    (C_NoSets : PySem.W.nsIn K mainGlobals "NoSets" = some (some (.ref k_NoSets)))
    (C_NoShare : PySem.W.nsIn K mainGlobals "NoShare" = some (some (.ref k_NoShare)))
    (C_NoText : PySem.W.nsIn K mainGlobals "NoText" = some (some (.ref k_NoText)))
    (C_NoThinning : PySem.W.nsIn K mainGlobals "NoThinning" = some (some (.ref k_NoThinning)))
    (C_NoTie : PySem.W.nsIn K mainGlobals "NoTie" = some (some (.ref k_NoTie)))
    (C_NoValue : PySem.W.nsIn K mainGlobals "NoValue" = some (some (.ref k_NoValue)))
    (C_NoWorld : PySem.W.nsIn K mainGlobals "NoWorld" = some (some (.ref k_NoWorld)))
    (C_Reader : PySem.W.nsIn K mainGlobals "Reader" = some (some (.ref k_Reader)))
    (a_NoText_init : PySem.W.findIn K (.ref k_NoText) "__init__" = some (some (.ref f_NoText_init)))
    (i_NoText_init : PySem.W.isFn K (.ref f_NoText_init) = true)
    (l_NoText_init : K.lookup f_NoText_init = some ⟨oc_NoText_init, od_NoText_init, .func (PySem.W.fnOf "__init__" "NoText.__init__" (defArgs s_NoText_init) (defBody s_NoText_init) (defScope s_NoText_init) .none kV_NoText_init dc_NoText_init pm_NoText_init an_NoText_init cd_NoText_init ct_NoText_init), sl_NoText_init⟩)
    (c_NoText_init : PySem.W.codeIn K cd_NoText_init "NoText.__init__" = true)
    (k_NoText_init : PySem.W.keepIn K (.ref f_NoText_init) = true)
    (a_Reader_init : PySem.W.findIn K (.ref k_Reader) "__init__" = some (some (.ref f_Reader_init)))
    (i_Reader_init : PySem.W.isFn K (.ref f_Reader_init) = true)
    (l_Reader_init : K.lookup f_Reader_init = some ⟨oc_Reader_init, od_Reader_init, .func (PySem.W.fnOf "__init__" "Reader.__init__" (defArgs s_Reader_init) (defBody s_Reader_init) (defScope s_Reader_init) .none kV_Reader_init dc_Reader_init pm_Reader_init an_Reader_init cd_Reader_init ct_Reader_init), sl_Reader_init⟩)
    (c_Reader_init : PySem.W.codeIn K cd_Reader_init "Reader.__init__" = true)
    (k_Reader_init : PySem.W.keepIn K (.ref f_Reader_init) = true)
    (a_Reader_sign : PySem.W.findIn K (.ref k_Reader) "sign" = some (some (.ref f_Reader_sign)))
    (i_Reader_sign : PySem.W.isFn K (.ref f_Reader_sign) = true)
    (l_Reader_sign : K.lookup f_Reader_sign = some ⟨oc_Reader_sign, od_Reader_sign, .func (PySem.W.fnOf "sign" "Reader.sign" (defArgs s_Reader_sign) (defBody s_Reader_sign) (defScope s_Reader_sign) .none kV_Reader_sign dc_Reader_sign pm_Reader_sign an_Reader_sign cd_Reader_sign ct_Reader_sign), sl_Reader_sign⟩)
    (c_Reader_sign : PySem.W.codeIn K cd_Reader_sign "Reader.sign" = true)
    (k_Reader_sign : PySem.W.keepIn K (.ref f_Reader_sign) = true)
    (a_Reader_step : PySem.W.findIn K (.ref k_Reader) "step" = some (some (.ref f_Reader_step)))
    (i_Reader_step : PySem.W.isFn K (.ref f_Reader_step) = true)
    (l_Reader_step : K.lookup f_Reader_step = some ⟨oc_Reader_step, od_Reader_step, .func (PySem.W.fnOf "step" "Reader.step" (defArgs s_Reader_step) (defBody s_Reader_step) (defScope s_Reader_step) .none kV_Reader_step dc_Reader_step pm_Reader_step an_Reader_step cd_Reader_step ct_Reader_step), sl_Reader_step⟩)
    (c_Reader_step : PySem.W.codeIn K cd_Reader_step "Reader.step" = true)
    (k_Reader_step : PySem.W.keepIn K (.ref f_Reader_step) = true)
    (a_Reader_steps : PySem.W.findIn K (.ref k_Reader) "steps" = some (some (.ref f_Reader_steps)))
    (i_Reader_steps : PySem.W.isFn K (.ref f_Reader_steps) = true)
    (l_Reader_steps : K.lookup f_Reader_steps = some ⟨oc_Reader_steps, od_Reader_steps, .func (PySem.W.fnOf "steps" "Reader.steps" (defArgs s_Reader_steps) (defBody s_Reader_steps) (defScope s_Reader_steps) .none kV_Reader_steps dc_Reader_steps pm_Reader_steps an_Reader_steps cd_Reader_steps ct_Reader_steps), sl_Reader_steps⟩)
    (c_Reader_steps : PySem.W.codeIn K cd_Reader_steps "Reader.steps" = true)
    (k_Reader_steps : PySem.W.keepIn K (.ref f_Reader_steps) = true)
    (a_Reader_name_from : PySem.W.findIn K (.ref k_Reader) "name_from" = some (some (.ref f_Reader_name_from)))
    (i_Reader_name_from : PySem.W.isFn K (.ref f_Reader_name_from) = true)
    (l_Reader_name_from : K.lookup f_Reader_name_from = some ⟨oc_Reader_name_from, od_Reader_name_from, .func (PySem.W.fnOf "name_from" "Reader.name_from" (defArgs s_Reader_name_from) (defBody s_Reader_name_from) (defScope s_Reader_name_from) .none kV_Reader_name_from dc_Reader_name_from pm_Reader_name_from an_Reader_name_from cd_Reader_name_from ct_Reader_name_from), sl_Reader_name_from⟩)
    (c_Reader_name_from : PySem.W.codeIn K cd_Reader_name_from "Reader.name_from" = true)
    (k_Reader_name_from : PySem.W.keepIn K (.ref f_Reader_name_from) = true)
    (a_Reader_names : PySem.W.findIn K (.ref k_Reader) "names" = some (some (.ref f_Reader_names)))
    (i_Reader_names : PySem.W.isFn K (.ref f_Reader_names) = true)
    (l_Reader_names : K.lookup f_Reader_names = some ⟨oc_Reader_names, od_Reader_names, .func (PySem.W.fnOf "names" "Reader.names" (defArgs s_Reader_names) (defBody s_Reader_names) (defScope s_Reader_names) .none kV_Reader_names dc_Reader_names pm_Reader_names an_Reader_names cd_Reader_names ct_Reader_names), sl_Reader_names⟩)
    (c_Reader_names : PySem.W.codeIn K cd_Reader_names "Reader.names" = true)
    (k_Reader_names : PySem.W.keepIn K (.ref f_Reader_names) = true)
    (a_Reader_seen : PySem.W.findIn K (.ref k_Reader) "seen" = some (some (.ref f_Reader_seen)))
    (i_Reader_seen : PySem.W.isFn K (.ref f_Reader_seen) = true)
    (l_Reader_seen : K.lookup f_Reader_seen = some ⟨oc_Reader_seen, od_Reader_seen, .func (PySem.W.fnOf "seen" "Reader.seen" (defArgs s_Reader_seen) (defBody s_Reader_seen) (defScope s_Reader_seen) .none kV_Reader_seen dc_Reader_seen pm_Reader_seen an_Reader_seen cd_Reader_seen ct_Reader_seen), sl_Reader_seen⟩)
    (c_Reader_seen : PySem.W.codeIn K cd_Reader_seen "Reader.seen" = true)
    (k_Reader_seen : PySem.W.keepIn K (.ref f_Reader_seen) = true)
    (a_Reader_summed : PySem.W.findIn K (.ref k_Reader) "summed" = some (some (.ref f_Reader_summed)))
    (i_Reader_summed : PySem.W.isFn K (.ref f_Reader_summed) = true)
    (l_Reader_summed : K.lookup f_Reader_summed = some ⟨oc_Reader_summed, od_Reader_summed, .func (PySem.W.fnOf "summed" "Reader.summed" (defArgs s_Reader_summed) (defBody s_Reader_summed) (defScope s_Reader_summed) .none kV_Reader_summed dc_Reader_summed pm_Reader_summed an_Reader_summed cd_Reader_summed ct_Reader_summed), sl_Reader_summed⟩)
    (c_Reader_summed : PySem.W.codeIn K cd_Reader_summed "Reader.summed" = true)
    (k_Reader_summed : PySem.W.keepIn K (.ref f_Reader_summed) = true)
    (a_Reader_joined : PySem.W.findIn K (.ref k_Reader) "joined" = some (some (.ref f_Reader_joined)))
    (i_Reader_joined : PySem.W.isFn K (.ref f_Reader_joined) = true)
    (l_Reader_joined : K.lookup f_Reader_joined = some ⟨oc_Reader_joined, od_Reader_joined, .func (PySem.W.fnOf "joined" "Reader.joined" (defArgs s_Reader_joined) (defBody s_Reader_joined) (defScope s_Reader_joined) .none kV_Reader_joined dc_Reader_joined pm_Reader_joined an_Reader_joined cd_Reader_joined ct_Reader_joined), sl_Reader_joined⟩)
    (c_Reader_joined : PySem.W.codeIn K cd_Reader_joined "Reader.joined" = true)
    (k_Reader_joined : PySem.W.keepIn K (.ref f_Reader_joined) = true)
    (a_Reader_formula : PySem.W.findIn K (.ref k_Reader) "formula" = some (some (.ref f_Reader_formula)))
    (i_Reader_formula : PySem.W.isFn K (.ref f_Reader_formula) = true)
    (l_Reader_formula : K.lookup f_Reader_formula = some ⟨oc_Reader_formula, od_Reader_formula, .func (PySem.W.fnOf "formula" "Reader.formula" (defArgs s_Reader_formula) (defBody s_Reader_formula) (defScope s_Reader_formula) .none kV_Reader_formula dc_Reader_formula pm_Reader_formula an_Reader_formula cd_Reader_formula ct_Reader_formula), sl_Reader_formula⟩)
    (c_Reader_formula : PySem.W.codeIn K cd_Reader_formula "Reader.formula" = true)
    (k_Reader_formula : PySem.W.keepIn K (.ref f_Reader_formula) = true)
    (a_formula_read : PySem.W.nsIn K mainGlobals "formula_read" = some (some (.ref f_formula_read)))
    (l_formula_read : K.lookup f_formula_read = some ⟨oc_formula_read, od_formula_read, .func (PySem.W.fnOf "formula_read" "formula_read" (defArgs s_formula_read) (defBody s_formula_read) (defScope s_formula_read) .none kV_formula_read dc_formula_read pm_formula_read an_formula_read cd_formula_read ct_formula_read), sl_formula_read⟩)
    (c_formula_read : PySem.W.codeIn K cd_formula_read "formula_read" = true)
    (k_formula_read : PySem.W.keepIn K (.ref f_formula_read) = true)
    (a_law_cell_at : PySem.W.nsIn K mainGlobals "_law_cell_at" = some (some (.ref f_law_cell_at)))
    (l_law_cell_at : K.lookup f_law_cell_at = some ⟨oc_law_cell_at, od_law_cell_at, .func (PySem.W.fnOf "_law_cell_at" "_law_cell_at" (defArgs s_law_cell_at) (defBody s_law_cell_at) (defScope s_law_cell_at) .none kV_law_cell_at dc_law_cell_at pm_law_cell_at an_law_cell_at cd_law_cell_at ct_law_cell_at), sl_law_cell_at⟩)
    (c_law_cell_at : PySem.W.codeIn K cd_law_cell_at "_law_cell_at" = true)
    (k_law_cell_at : PySem.W.keepIn K (.ref f_law_cell_at) = true)
    (a_law_whole : PySem.W.nsIn K mainGlobals "_law_whole" = some (some (.ref f_law_whole)))
    (l_law_whole : K.lookup f_law_whole = some ⟨oc_law_whole, od_law_whole, .func (PySem.W.fnOf "_law_whole" "_law_whole" (defArgs s_law_whole) (defBody s_law_whole) (defScope s_law_whole) .none kV_law_whole dc_law_whole pm_law_whole an_law_whole cd_law_whole ct_law_whole), sl_law_whole⟩)
    (c_law_whole : PySem.W.codeIn K cd_law_whole "_law_whole" = true)
    (k_law_whole : PySem.W.keepIn K (.ref f_law_whole) = true)
    (a_law_mixed : PySem.W.nsIn K mainGlobals "_law_mixed" = some (some (.ref f_law_mixed)))
    (l_law_mixed : K.lookup f_law_mixed = some ⟨oc_law_mixed, od_law_mixed, .func (PySem.W.fnOf "_law_mixed" "_law_mixed" (defArgs s_law_mixed) (defBody s_law_mixed) (defScope s_law_mixed) .none kV_law_mixed dc_law_mixed pm_law_mixed an_law_mixed cd_law_mixed ct_law_mixed), sl_law_mixed⟩)
    (c_law_mixed : PySem.W.codeIn K cd_law_mixed "_law_mixed" = true)
    (k_law_mixed : PySem.W.keepIn K (.ref f_law_mixed) = true)
    (a_law_names : PySem.W.nsIn K mainGlobals "_law_names" = some (some (.ref f_law_names)))
    (l_law_names : K.lookup f_law_names = some ⟨oc_law_names, od_law_names, .func (PySem.W.fnOf "_law_names" "_law_names" (defArgs s_law_names) (defBody s_law_names) (defScope s_law_names) .none kV_law_names dc_law_names pm_law_names an_law_names cd_law_names ct_law_names), sl_law_names⟩)
    (c_law_names : PySem.W.codeIn K cd_law_names "_law_names" = true)
    (k_law_names : PySem.W.keepIn K (.ref f_law_names) = true)
    (a_law_formula : PySem.W.nsIn K mainGlobals "_law_formula" = some (some (.ref f_law_formula)))
    (l_law_formula : K.lookup f_law_formula = some ⟨oc_law_formula, od_law_formula, .func (PySem.W.fnOf "_law_formula" "_law_formula" (defArgs s_law_formula) (defBody s_law_formula) (defScope s_law_formula) .none kV_law_formula dc_law_formula pm_law_formula an_law_formula cd_law_formula ct_law_formula), sl_law_formula⟩)
    (c_law_formula : PySem.W.codeIn K cd_law_formula "_law_formula" = true)
    (k_law_formula : PySem.W.keepIn K (.ref f_law_formula) = true)
    (a_law_formula_text : PySem.W.nsIn K mainGlobals "_law_formula_text" = some (some (.ref f_law_formula_text)))
    (l_law_formula_text : K.lookup f_law_formula_text = some ⟨oc_law_formula_text, od_law_formula_text, .func (PySem.W.fnOf "_law_formula_text" "_law_formula_text" (defArgs s_law_formula_text) (defBody s_law_formula_text) (defScope s_law_formula_text) .none kV_law_formula_text dc_law_formula_text pm_law_formula_text an_law_formula_text cd_law_formula_text ct_law_formula_text), sl_law_formula_text⟩)
    (c_law_formula_text : PySem.W.codeIn K cd_law_formula_text "_law_formula_text" = true)
    (k_law_formula_text : PySem.W.keepIn K (.ref f_law_formula_text) = true)
    (a_law_kinds : PySem.W.nsIn K mainGlobals "_law_kinds" = some (some (.ref f_law_kinds)))
    (l_law_kinds : K.lookup f_law_kinds = some ⟨oc_law_kinds, od_law_kinds, .func (PySem.W.fnOf "_law_kinds" "_law_kinds" (defArgs s_law_kinds) (defBody s_law_kinds) (defScope s_law_kinds) .none kV_law_kinds dc_law_kinds pm_law_kinds an_law_kinds cd_law_kinds ct_law_kinds), sl_law_kinds⟩)
    (c_law_kinds : PySem.W.codeIn K cd_law_kinds "_law_kinds" = true)
    (k_law_kinds : PySem.W.keepIn K (.ref f_law_kinds) = true)
    (a_law_bent : PySem.W.nsIn K mainGlobals "_law_bent" = some (some (.ref f_law_bent)))
    (l_law_bent : K.lookup f_law_bent = some ⟨oc_law_bent, od_law_bent, .func (PySem.W.fnOf "_law_bent" "_law_bent" (defArgs s_law_bent) (defBody s_law_bent) (defScope s_law_bent) .none kV_law_bent dc_law_bent pm_law_bent an_law_bent cd_law_bent ct_law_bent), sl_law_bent⟩)
    (c_law_bent : PySem.W.codeIn K cd_law_bent "_law_bent" = true)
    (k_law_bent : PySem.W.keepIn K (.ref f_law_bent) = true)
    (a_law_asked_for : PySem.W.nsIn K mainGlobals "_law_asked_for" = some (some (.ref f_law_asked_for)))
    (l_law_asked_for : K.lookup f_law_asked_for = some ⟨oc_law_asked_for, od_law_asked_for, .func (PySem.W.fnOf "_law_asked_for" "_law_asked_for" (defArgs s_law_asked_for) (defBody s_law_asked_for) (defScope s_law_asked_for) .none kV_law_asked_for dc_law_asked_for pm_law_asked_for an_law_asked_for cd_law_asked_for ct_law_asked_for), sl_law_asked_for⟩)
    (c_law_asked_for : PySem.W.codeIn K cd_law_asked_for "_law_asked_for" = true)
    (k_law_asked_for : PySem.W.keepIn K (.ref f_law_asked_for) = true)
    (a_law_place : PySem.W.nsIn K mainGlobals "_law_place" = some (some (.ref f_law_place)))
    (l_law_place : K.lookup f_law_place = some ⟨oc_law_place, od_law_place, .func (PySem.W.fnOf "_law_place" "_law_place" (defArgs s_law_place) (defBody s_law_place) (defScope s_law_place) .none kV_law_place dc_law_place pm_law_place an_law_place cd_law_place ct_law_place), sl_law_place⟩)
    (c_law_place : PySem.W.codeIn K cd_law_place "_law_place" = true)
    (k_law_place : PySem.W.keepIn K (.ref f_law_place) = true)
    (a_law_told : PySem.W.nsIn K mainGlobals "_law_told" = some (some (.ref f_law_told)))
    (l_law_told : K.lookup f_law_told = some ⟨oc_law_told, od_law_told, .func (PySem.W.fnOf "_law_told" "_law_told" (defArgs s_law_told) (defBody s_law_told) (defScope s_law_told) .none kV_law_told dc_law_told pm_law_told an_law_told cd_law_told ct_law_told), sl_law_told⟩)
    (c_law_told : PySem.W.codeIn K cd_law_told "_law_told" = true)
    (k_law_told : PySem.W.keepIn K (.ref f_law_told) = true)
    (a_law : PySem.W.nsIn K mainGlobals "law" = some (some (.ref f_law)))
    (l_law : K.lookup f_law = some ⟨oc_law, od_law, .func (PySem.W.fnOf "law" "law" (defArgs s_law) (defBody s_law) (defScope s_law) .none kV_law dc_law pm_law an_law cd_law ct_law), sl_law⟩)
    (c_law : PySem.W.codeIn K cd_law "law" = true)
    (k_law : PySem.W.keepIn K (.ref f_law) = true)
    (pg_Reader : PySem.W.plainGet K k_Reader Str.empty = true)
    (hd_Reader : PySem.W.hasDictIn K k_Reader = true)
    (po_Reader : PySem.W.plainOver K k_Reader = true)
    (sa_Reader : PySem.W.findIn K (.ref k_Reader) "__setattr__" = some (some (.builtin "object.__setattr__")))
    (mk_Reader : PySem.W.makesIn K k_Reader = true)
    (kc_Reader : PySem.W.keepIn K (.ref k_Reader) = true)
    (xe_DoingError : PySem.W.excIn K k_DoingError [.type "ValueError", .type "Exception", .type "BaseException", .type "object"] "ValueError.__new__" = true)
    (xo_DoingError : PySem.W.mroIn K k_DoingError (.type "object") = some true)
    (xb_DoingError : PySem.W.mroIn K k_DoingError (.type "BaseException") = some true)
    (xg_DoingError : PySem.W.findIn K (.ref k_DoingError) "__getattribute__" = some (some (.builtin "BaseException.__getattribute__")))
    (xt_DoingError : PySem.W.findIn K (.ref k_DoingError) "__getattr__" = some none)
    (xc_DoingError : PySem.W.findIn K (.ref k_DoingError) "__class__" = some (some (.builtin "object.__class__")))
    (s_NoText : PySem.W.mroIn K k_NoText (.ref k_DoingError) = some true)
    (kk_NoText_ValueError : PySem.W.kitOne K (.ref k_NoText) (.type "ValueError") = some true)
    (kk_NoText_NoText : PySem.W.kitOne K (.ref k_NoText) (.ref k_NoText) = some true)
    (kk_NoText_BadStep : PySem.W.kitOne K (.ref k_NoText) (.ref k_BadStep) = some false)
    (kk_NoText_NoFormula : PySem.W.kitOne K (.ref k_NoText) (.ref k_NoFormula) = some false)
    (kk_NoText_NoQuestion : PySem.W.kitOne K (.ref k_NoText) (.ref k_NoQuestion) = some false)
    (kk_NoText_NoAnswer : PySem.W.kitOne K (.ref k_NoText) (.ref k_NoAnswer) = some false)
    (kk_NoText_NoThinning : PySem.W.kitOne K (.ref k_NoText) (.ref k_NoThinning) = some false)
    (kk_NoText_NoDoor : PySem.W.kitOne K (.ref k_NoText) (.ref k_NoDoor) = some false)
    (kk_NoText_NoNest : PySem.W.kitOne K (.ref k_NoText) (.ref k_NoNest) = some false)
    (kk_NoText_BadPaper : PySem.W.kitOne K (.ref k_NoText) (.ref k_BadPaper) = some false)
    (kk_NoText_NoRule : PySem.W.kitOne K (.ref k_NoText) (.ref k_NoRule) = some false)
    (kk_NoText_NoRoad : PySem.W.kitOne K (.ref k_NoText) (.ref k_NoRoad) = some false)
    (kk_NoText_NoShare : PySem.W.kitOne K (.ref k_NoText) (.ref k_NoShare) = some false)
    (kk_NoText_NoValue : PySem.W.kitOne K (.ref k_NoText) (.ref k_NoValue) = some false)
    (kk_NoText_NoWorld : PySem.W.kitOne K (.ref k_NoText) (.ref k_NoWorld) = some false)
    (kk_NoText_NoSets : PySem.W.kitOne K (.ref k_NoText) (.ref k_NoSets) = some false)
    (kk_NoText_NoName : PySem.W.kitOne K (.ref k_NoText) (.ref k_NoName) = some false)
    (kk_NoText_NoBow : PySem.W.kitOne K (.ref k_NoText) (.ref k_NoBow) = some false)
    (kk_NoText_NoTie : PySem.W.kitOne K (.ref k_NoText) (.ref k_NoTie) = some false)
    (kk_NoText_NoCount : PySem.W.kitOne K (.ref k_NoText) (.ref k_NoCount) = some false)
    (kk_NoText_NoFraction : PySem.W.kitOne K (.ref k_NoText) (.ref k_NoFraction) = some false)
    (z_ValueError : PySem.W.nsIn K mainGlobals "ValueError" = some none)
    (z_bool : PySem.W.nsIn K mainGlobals "bool" = some none)
    (z_int : PySem.W.nsIn K mainGlobals "int" = some none)
    (z_isinstance : PySem.W.nsIn K mainGlobals "isinstance" = some none)
    (z_len : PySem.W.nsIn K mainGlobals "len" = some none)
    (z_list : PySem.W.nsIn K mainGlobals "list" = some none)
    (z_range : PySem.W.nsIn K mainGlobals "range" = some none)
    (z_tuple : PySem.W.nsIn K mainGlobals "tuple" = some none)
    (n_Reader_place : PySem.W.findIn K (.ref k_Reader) "place" = some none)
    (n_Reader_signs : PySem.W.findIn K (.ref k_Reader) "signs" = some none)
    (v_LETTERS : PySem.W.nsIn K mainGlobals "LETTERS" = some (some (.str "abcdef" tk_LETTERS)))
    (ye : excI K k_NoText = true)
    (yo : PySem.W.mroIn K k_NoText (.type "object") = some true)
    (yb : PySem.W.mroIn K k_NoText (.type "BaseException") = some true)
    (yg : PySem.W.findIn K (.ref k_NoText) "__getattribute__" = some (some (.builtin "BaseException.__getattribute__")))
    (yt : PySem.W.findIn K (.ref k_NoText) "__getattr__" = some none)
    (yc : PySem.W.findIn K (.ref k_NoText) "__class__" = some (some (.builtin "object.__class__")))
    (ys : PySem.W.findIn K (.ref k_NoText) "__setattr__" = some (some (.builtin "object.__setattr__")))
    (yn : PySem.W.findIn K (.ref k_NoText) "at" = some none)
    (yk : PySem.W.keepIn K (.ref k_NoText) = true)
    (yr : PySem.W.readsIn K k_DoingError (.type "type") = true)
    (yf : PySem.W.findCls K (.ref k_DoingError) (.type "type") "__init__" = some (.val (.builtin "ValueError.__init__")))
    (yz : PySem.W.specialIn K (.ref k_DoingError) "__getattribute__" = some (some (.builtin "type.__getattribute__"))) :
    ∃ t : Ad, Tx K mg t ∧ t.a_law = f_law ∧ ∀ (s : Shared) (v : Value), BindsTo s t.d_law ⟨[v], []⟩ [("_law_script", v)] := by
  have F_NoText_init := fun_mk (st := s_NoText_init) l_NoText_init c_NoText_init k_NoText_init
  have B_NoText_init := F_NoText_init.binds (ps := ["self", "at"]) fun _ _ _ _ _ _ us hl => len2 (P := fun us => bindArgs _ ⟨us, []⟩ = pure (List.zip _ us)) (fun _ _ => rfl) us hl
  have F_Reader_init := fun_mk (st := s_Reader_init) l_Reader_init c_Reader_init k_Reader_init
  have B_Reader_init := F_Reader_init.binds (ps := ["self", "signs"]) fun _ _ _ _ _ _ us hl => len2 (P := fun us => bindArgs _ ⟨us, []⟩ = pure (List.zip _ us)) (fun _ _ => rfl) us hl
  have F_Reader_sign := fun_mk (st := s_Reader_sign) l_Reader_sign c_Reader_sign k_Reader_sign
  have B_Reader_sign := F_Reader_sign.binds (ps := ["self"]) fun _ _ _ _ _ _ us hl => len1 (P := fun us => bindArgs _ ⟨us, []⟩ = pure (List.zip _ us)) (fun _ => rfl) us hl
  have F_Reader_step := fun_mk (st := s_Reader_step) l_Reader_step c_Reader_step k_Reader_step
  have B_Reader_step := F_Reader_step.binds (ps := ["self", "choices"]) fun _ _ _ _ _ _ us hl => len2 (P := fun us => bindArgs _ ⟨us, []⟩ = pure (List.zip _ us)) (fun _ _ => rfl) us hl
  have F_Reader_steps := fun_mk (st := s_Reader_steps) l_Reader_steps c_Reader_steps k_Reader_steps
  have B_Reader_steps := F_Reader_steps.binds (ps := ["self", "signs"]) fun _ _ _ _ _ _ us hl => len2 (P := fun us => bindArgs _ ⟨us, []⟩ = pure (List.zip _ us)) (fun _ _ => rfl) us hl
  have F_Reader_name_from := fun_mk (st := s_Reader_name_from) l_Reader_name_from c_Reader_name_from k_Reader_name_from
  have B_Reader_name_from := F_Reader_name_from.binds (ps := ["self", "least"]) fun _ _ _ _ _ _ us hl => len2 (P := fun us => bindArgs _ ⟨us, []⟩ = pure (List.zip _ us)) (fun _ _ => rfl) us hl
  have F_Reader_names := fun_mk (st := s_Reader_names) l_Reader_names c_Reader_names k_Reader_names
  have B_Reader_names := F_Reader_names.binds (ps := ["self"]) fun _ _ _ _ _ _ us hl => len1 (P := fun us => bindArgs _ ⟨us, []⟩ = pure (List.zip _ us)) (fun _ => rfl) us hl
  have F_Reader_seen := fun_mk (st := s_Reader_seen) l_Reader_seen c_Reader_seen k_Reader_seen
  have B_Reader_seen := F_Reader_seen.binds (ps := ["self"]) fun _ _ _ _ _ _ us hl => len1 (P := fun us => bindArgs _ ⟨us, []⟩ = pure (List.zip _ us)) (fun _ => rfl) us hl
  have F_Reader_summed := fun_mk (st := s_Reader_summed) l_Reader_summed c_Reader_summed k_Reader_summed
  have B_Reader_summed := F_Reader_summed.binds (ps := ["self"]) fun _ _ _ _ _ _ us hl => len1 (P := fun us => bindArgs _ ⟨us, []⟩ = pure (List.zip _ us)) (fun _ => rfl) us hl
  have F_Reader_joined := fun_mk (st := s_Reader_joined) l_Reader_joined c_Reader_joined k_Reader_joined
  have B_Reader_joined := F_Reader_joined.binds (ps := ["self"]) fun _ _ _ _ _ _ us hl => len1 (P := fun us => bindArgs _ ⟨us, []⟩ = pure (List.zip _ us)) (fun _ => rfl) us hl
  have F_Reader_formula := fun_mk (st := s_Reader_formula) l_Reader_formula c_Reader_formula k_Reader_formula
  have B_Reader_formula := F_Reader_formula.binds (ps := ["self"]) fun _ _ _ _ _ _ us hl => len1 (P := fun us => bindArgs _ ⟨us, []⟩ = pure (List.zip _ us)) (fun _ => rfl) us hl
  have F_formula_read := fun_mk (st := s_formula_read) l_formula_read c_formula_read k_formula_read
  have B_formula_read := F_formula_read.binds (ps := ["text"]) fun _ _ _ _ _ _ us hl => len1 (P := fun us => bindArgs _ ⟨us, []⟩ = pure (List.zip _ us)) (fun _ => rfl) us hl
  have F_law_cell_at := fun_mk (st := s_law_cell_at) l_law_cell_at c_law_cell_at k_law_cell_at
  have B_law_cell_at := F_law_cell_at.binds (ps := ["_law_script", "_law_k"]) fun _ _ _ _ _ _ us hl => len2 (P := fun us => bindArgs _ ⟨us, []⟩ = pure (List.zip _ us)) (fun _ _ => rfl) us hl
  have F_law_whole := fun_mk (st := s_law_whole) l_law_whole c_law_whole k_law_whole
  have B_law_whole := F_law_whole.binds (ps := ["_law_found"]) fun _ _ _ _ _ _ us hl => len1 (P := fun us => bindArgs _ ⟨us, []⟩ = pure (List.zip _ us)) (fun _ => rfl) us hl
  have F_law_mixed := fun_mk (st := s_law_mixed) l_law_mixed c_law_mixed k_law_mixed
  have B_law_mixed := F_law_mixed.binds (ps := ["_law_cell", "_law_many"]) fun _ _ _ _ _ _ us hl => len2 (P := fun us => bindArgs _ ⟨us, []⟩ = pure (List.zip _ us)) (fun _ _ => rfl) us hl
  have F_law_names := fun_mk (st := s_law_names) l_law_names c_law_names k_law_names
  have B_law_names := F_law_names.binds (ps := ["_law_number", "_law_least"]) fun _ _ _ _ _ _ us hl => len2 (P := fun us => bindArgs _ ⟨us, []⟩ = pure (List.zip _ us)) (fun _ _ => rfl) us hl
  have F_law_formula := fun_mk (st := s_law_formula) l_law_formula c_law_formula k_law_formula
  have B_law_formula := F_law_formula.binds (ps := ["_law_script", "_law_at", "_law_many"]) fun _ _ _ _ _ _ us hl => len3 (P := fun us => bindArgs _ ⟨us, []⟩ = pure (List.zip _ us)) (fun _ _ _ => rfl) us hl
  have F_law_formula_text := fun_mk (st := s_law_formula_text) l_law_formula_text c_law_formula_text k_law_formula_text
  have B_law_formula_text := F_law_formula_text.binds (ps := ["_law_formula_here"]) fun _ _ _ _ _ _ us hl => len1 (P := fun us => bindArgs _ ⟨us, []⟩ = pure (List.zip _ us)) (fun _ => rfl) us hl
  have F_law_kinds := fun_mk (st := s_law_kinds) l_law_kinds c_law_kinds k_law_kinds
  have B_law_kinds := F_law_kinds.binds (ps := ["_law_e"]) fun _ _ _ _ _ _ us hl => len1 (P := fun us => bindArgs _ ⟨us, []⟩ = pure (List.zip _ us)) (fun _ => rfl) us hl
  have F_law_bent := fun_mk (st := s_law_bent) l_law_bent c_law_bent k_law_bent
  have B_law_bent := F_law_bent.binds (ps := ["_law_text", "_law_cell", "_law_more"]) fun _ _ _ _ _ _ us hl => len3 (P := fun us => bindArgs _ ⟨us, []⟩ = pure (List.zip _ us)) (fun _ _ _ => rfl) us hl
  have F_law_asked_for := fun_mk (st := s_law_asked_for) l_law_asked_for c_law_asked_for k_law_asked_for
  have B_law_asked_for := F_law_asked_for.binds (ps := ["_law_token", "_law_sign", "_law_last"]) fun _ _ _ _ _ _ us hl => len3 (P := fun us => bindArgs _ ⟨us, []⟩ = pure (List.zip _ us)) (fun _ _ _ => rfl) us hl
  have F_law_place := fun_mk (st := s_law_place) l_law_place c_law_place k_law_place
  have B_law_place := F_law_place.binds (ps := ["_law_text"]) fun _ _ _ _ _ _ us hl => len1 (P := fun us => bindArgs _ ⟨us, []⟩ = pure (List.zip _ us)) (fun _ => rfl) us hl
  have F_law_told := fun_mk (st := s_law_told) l_law_told c_law_told k_law_told
  have B_law_told := F_law_told.binds (ps := ["_law_text"]) fun _ _ _ _ _ _ us hl => len1 (P := fun us => bindArgs _ ⟨us, []⟩ = pure (List.zip _ us)) (fun _ => rfl) us hl
  have F_law := fun_mk (st := s_law) l_law c_law k_law
  have B_law := F_law.binds (ps := ["_law_script"]) fun _ _ _ _ _ _ us hl => len1 (P := fun us => bindArgs _ ⟨us, []⟩ = pure (List.zip _ us)) (fun _ => rfl) us hl
  exact ⟨⟨f_NoText_init, _, f_Reader_init, _, f_Reader_sign, _, f_Reader_step, _, f_Reader_steps, _, f_Reader_name_from, _, f_Reader_names, _, f_Reader_seen, _, f_Reader_summed, _, f_Reader_joined, _, f_Reader_formula, _, f_formula_read, _, f_law_cell_at, _, f_law_whole, _, f_law_mixed, _, f_law_names, _, f_law_formula, _, f_law_formula_text, _, f_law_kinds, _, f_law_bent, _, f_law_asked_for, _, f_law_place, _, f_law_told, _, f_law, _, k_BadPaper, k_BadStep, k_DoingError, k_NoAnswer, k_NoBow, k_NoCount, k_NoDoor, k_NoFormula, k_NoFraction, k_NoName, k_NoNest, k_NoQuestion, k_NoRoad, k_NoRule, k_NoSets, k_NoShare, k_NoText, k_NoThinning, k_NoTie, k_NoValue, k_NoWorld, k_Reader⟩, ⟨F_NoText_init,
    B_NoText_init,
    F_Reader_init,
    B_Reader_init,
    F_Reader_sign,
    B_Reader_sign,
    ⟨a_Reader_sign, i_Reader_sign, k_Reader_sign⟩,
    F_Reader_step,
    B_Reader_step,
    ⟨a_Reader_step, i_Reader_step, k_Reader_step⟩,
    F_Reader_steps,
    B_Reader_steps,
    ⟨a_Reader_steps, i_Reader_steps, k_Reader_steps⟩,
    F_Reader_name_from,
    B_Reader_name_from,
    ⟨a_Reader_name_from, i_Reader_name_from, k_Reader_name_from⟩,
    F_Reader_names,
    B_Reader_names,
    ⟨a_Reader_names, i_Reader_names, k_Reader_names⟩,
    F_Reader_seen,
    B_Reader_seen,
    ⟨a_Reader_seen, i_Reader_seen, k_Reader_seen⟩,
    F_Reader_summed,
    B_Reader_summed,
    ⟨a_Reader_summed, i_Reader_summed, k_Reader_summed⟩,
    F_Reader_joined,
    B_Reader_joined,
    ⟨a_Reader_joined, i_Reader_joined, k_Reader_joined⟩,
    F_Reader_formula,
    B_Reader_formula,
    ⟨a_Reader_formula, i_Reader_formula, k_Reader_formula⟩,
    F_formula_read,
    B_formula_read,
    PySem.W.mg_of X G a_formula_read,
    F_law_cell_at,
    B_law_cell_at,
    PySem.W.mg_of X G a_law_cell_at,
    F_law_whole,
    B_law_whole,
    PySem.W.mg_of X G a_law_whole,
    F_law_mixed,
    B_law_mixed,
    PySem.W.mg_of X G a_law_mixed,
    F_law_names,
    B_law_names,
    PySem.W.mg_of X G a_law_names,
    F_law_formula,
    B_law_formula,
    PySem.W.mg_of X G a_law_formula,
    F_law_formula_text,
    B_law_formula_text,
    PySem.W.mg_of X G a_law_formula_text,
    F_law_kinds,
    B_law_kinds,
    PySem.W.mg_of X G a_law_kinds,
    F_law_bent,
    B_law_bent,
    PySem.W.mg_of X G a_law_bent,
    F_law_asked_for,
    B_law_asked_for,
    PySem.W.mg_of X G a_law_asked_for,
    F_law_place,
    B_law_place,
    PySem.W.mg_of X G a_law_place,
    F_law_told,
    B_law_told,
    PySem.W.mg_of X G a_law_told,
    F_law,
    B_law,
    PySem.W.mg_of X G a_law,
    PySem.W.mg_of X G C_BadPaper,
    PySem.W.mg_of X G C_BadStep,
    PySem.W.mg_of X G C_DoingError,
    PySem.W.mg_of X G C_NoAnswer,
    PySem.W.mg_of X G C_NoBow,
    PySem.W.mg_of X G C_NoCount,
    PySem.W.mg_of X G C_NoDoor,
    PySem.W.mg_of X G C_NoFormula,
    PySem.W.mg_of X G C_NoFraction,
    PySem.W.mg_of X G C_NoName,
    PySem.W.mg_of X G C_NoNest,
    PySem.W.mg_of X G C_NoQuestion,
    PySem.W.mg_of X G C_NoRoad,
    PySem.W.mg_of X G C_NoRule,
    PySem.W.mg_of X G C_NoSets,
    PySem.W.mg_of X G C_NoShare,
    PySem.W.mg_of X G C_NoText,
    PySem.W.mg_of X G C_NoThinning,
    PySem.W.mg_of X G C_NoTie,
    PySem.W.mg_of X G C_NoValue,
    PySem.W.mg_of X G C_NoWorld,
    PySem.W.mg_of X G C_Reader,
    ⟨pg_Reader, hd_Reader, po_Reader, sa_Reader⟩,
    ⟨mk_Reader, a_Reader_init, i_Reader_init, kc_Reader⟩,
    ⟨xe_DoingError, xo_DoingError, xb_DoingError, xg_DoingError, xt_DoingError, xc_DoingError⟩,
    s_NoText,
    kk_NoText_ValueError,
    kk_NoText_NoText,
    kk_NoText_BadStep,
    kk_NoText_NoFormula,
    kk_NoText_NoQuestion,
    kk_NoText_NoAnswer,
    kk_NoText_NoThinning,
    kk_NoText_NoDoor,
    kk_NoText_NoNest,
    kk_NoText_BadPaper,
    kk_NoText_NoRule,
    kk_NoText_NoRoad,
    kk_NoText_NoShare,
    kk_NoText_NoValue,
    kk_NoText_NoWorld,
    kk_NoText_NoSets,
    kk_NoText_NoName,
    kk_NoText_NoBow,
    kk_NoText_NoTie,
    kk_NoText_NoCount,
    kk_NoText_NoFraction,
    PySem.W.mg_none_of X G z_ValueError,
    PySem.W.mg_none_of X G z_bool,
    PySem.W.mg_none_of X G z_int,
    PySem.W.mg_none_of X G z_isinstance,
    PySem.W.mg_none_of X G z_len,
    PySem.W.mg_none_of X G z_list,
    PySem.W.mg_none_of X G z_range,
    PySem.W.mg_none_of X G z_tuple,
    n_Reader_place,
    n_Reader_signs,
    ⟨_, PySem.W.mg_of X G v_LETTERS, ⟨_, rfl⟩⟩,
    ⟨ye, yo, yb, yg, yt, yc, ys, yn, a_NoText_init, i_NoText_init, yk⟩, ⟨yr, yf, yz⟩⟩, rfl, fun s v => .of_eq rfl⟩
theorem tx_of {K : PySem.W.Frag} {mg : Str → Option Value} {f : Addr} {x : Str} (h : ∃ t : Ad, Tx K mg t ∧ t.a_law = f ∧ ∀ (s : Shared) (v : Value), BindsTo s t.d_law ⟨[v], []⟩ [(x, v)]) (e : mg "law" = some (.ref f)) :
    ∃ t : Ad, Tx K mg t ∧ mg "law" = some (.ref t.a_law) ∧ ∀ (s : Shared) (v : Value), BindsTo s t.d_law ⟨[v], []⟩ [(x, v)] := by
  obtain ⟨t, T, rfl, b⟩ := h
  exact ⟨t, T, e, b⟩
end Lw
open PySem PySem.W PyProof.Rows
set_option maxRecDepth 100000 in
set_option maxHeartbeats 0 in
theorem PySem.Challenge.cw_doingbook_k84_where_a_formulas_text_fail_holds : PySem.Challenge.rw_doingbook_k84_where_a_formulas_text_fail.Holds := by
  w_on; o_law; k_head; (case hw => w_witness2)
  k_fill
  refine L2.walk_ofK (l := PySem.Challenge.rw_doingbook_k84_where_a_formulas_text_fail) (n := 63) (k := 175) (x := "_law_script") (CX := L2.CX0) (sp := fun K => U.lowSp K U.spL) rfl (by decide) rfl ⟨rfl, by decide, by decide⟩ (fun w h Y => PySem.W.kIn_of Y) ?F (fun K H a ns hl hO hS => U.spL_start hl hO hS) (fun _ _ _ _ z => z)
  case F =>
    intro w mg fa h KX G hmg
    have T : ∃ t : Lw.Ad, Lw.Tx (L2.KOf KX) mg t ∧ mg "law" = some (.ref t.a_law) ∧ ∀ (s : Shared) (v : Value), BindsTo s t.d_law ⟨[v], []⟩ [("_law_script", v)] := by
      dsimp only [L2.KOf]
      refine' Lw.tx_of (Lw.txt_mk KX G ?C_BadPaper ?C_BadStep ?C_DoingError ?C_NoAnswer ?C_NoBow ?C_NoCount ?C_NoDoor ?C_NoFormula ?C_NoFraction ?C_NoName ?C_NoNest ?C_NoQuestion ?C_NoRoad ?C_NoRule ?C_NoSets ?C_NoShare ?C_NoText ?C_NoThinning ?C_NoTie ?C_NoValue ?C_NoWorld ?C_Reader ?a_NoText_init ?i_NoText_init ?l_NoText_init ?c_NoText_init ?k_NoText_init ?a_Reader_init ?i_Reader_init ?l_Reader_init ?c_Reader_init ?k_Reader_init ?a_Reader_sign ?i_Reader_sign ?l_Reader_sign ?c_Reader_sign ?k_Reader_sign ?a_Reader_step ?i_Reader_step ?l_Reader_step ?c_Reader_step ?k_Reader_step ?a_Reader_steps ?i_Reader_steps ?l_Reader_steps ?c_Reader_steps ?k_Reader_steps ?a_Reader_name_from ?i_Reader_name_from ?l_Reader_name_from ?c_Reader_name_from ?k_Reader_name_from ?a_Reader_names ?i_Reader_names ?l_Reader_names ?c_Reader_names ?k_Reader_names ?a_Reader_seen ?i_Reader_seen ?l_Reader_seen ?c_Reader_seen ?k_Reader_seen ?a_Reader_summed ?i_Reader_summed ?l_Reader_summed ?c_Reader_summed ?k_Reader_summed ?a_Reader_joined ?i_Reader_joined ?l_Reader_joined ?c_Reader_joined ?k_Reader_joined ?a_Reader_formula ?i_Reader_formula ?l_Reader_formula ?c_Reader_formula ?k_Reader_formula ?a_formula_read ?l_formula_read ?c_formula_read ?k_formula_read ?a_law_cell_at ?l_law_cell_at ?c_law_cell_at ?k_law_cell_at ?a_law_whole ?l_law_whole ?c_law_whole ?k_law_whole ?a_law_mixed ?l_law_mixed ?c_law_mixed ?k_law_mixed ?a_law_names ?l_law_names ?c_law_names ?k_law_names ?a_law_formula ?l_law_formula ?c_law_formula ?k_law_formula ?a_law_formula_text ?l_law_formula_text ?c_law_formula_text ?k_law_formula_text ?a_law_kinds ?l_law_kinds ?c_law_kinds ?k_law_kinds ?a_law_bent ?l_law_bent ?c_law_bent ?k_law_bent ?a_law_asked_for ?l_law_asked_for ?c_law_asked_for ?k_law_asked_for ?a_law_place ?l_law_place ?c_law_place ?k_law_place ?a_law_told ?l_law_told ?c_law_told ?k_law_told ?a_law ?l_law ?c_law ?k_law ?pg_Reader ?hd_Reader ?po_Reader ?sa_Reader ?mk_Reader ?kc_Reader ?xe_DoingError ?xo_DoingError ?xb_DoingError ?xg_DoingError ?xt_DoingError ?xc_DoingError ?s_NoText ?kk_NoText_ValueError ?kk_NoText_NoText ?kk_NoText_BadStep ?kk_NoText_NoFormula ?kk_NoText_NoQuestion ?kk_NoText_NoAnswer ?kk_NoText_NoThinning ?kk_NoText_NoDoor ?kk_NoText_NoNest ?kk_NoText_BadPaper ?kk_NoText_NoRule ?kk_NoText_NoRoad ?kk_NoText_NoShare ?kk_NoText_NoValue ?kk_NoText_NoWorld ?kk_NoText_NoSets ?kk_NoText_NoName ?kk_NoText_NoBow ?kk_NoText_NoTie ?kk_NoText_NoCount ?kk_NoText_NoFraction ?z_ValueError ?z_bool ?z_int ?z_isinstance ?z_len ?z_list ?z_range ?z_tuple ?n_Reader_place ?n_Reader_signs ?v_LETTERS ?ye ?yo ?yb ?yg ?yt ?yc ?ys ?yn ?yk ?yr ?yf ?yz) ?tl
      (case C_BadPaper => k_is)
      (case C_BadStep => k_is)
      (case C_DoingError => k_is)
      (case C_NoAnswer => k_is)
      (case C_NoBow => k_is)
      (case C_NoCount => k_is)
      (case C_NoDoor => k_is)
      (case C_NoFormula => k_is)
      (case C_NoFraction => k_is)
      (case C_NoName => k_is)
      (case C_NoNest => k_is)
      (case C_NoQuestion => k_is)
      (case C_NoRoad => k_is)
      (case C_NoRule => k_is)
      (case C_NoSets => k_is)
      (case C_NoShare => k_is)
      (case C_NoText => k_is)
      (case C_NoThinning => k_is)
      (case C_NoTie => k_is)
      (case C_NoValue => k_is)
      (case C_NoWorld => k_is)
      (case C_Reader => k_is)
      (case a_NoText_init => k_is)
      (case i_NoText_init => k_is)
      (case l_NoText_init => k_is)
      (case c_NoText_init => k_is)
      (case k_NoText_init => k_is)
      (case a_Reader_init => k_is)
      (case i_Reader_init => k_is)
      (case l_Reader_init => k_is)
      (case c_Reader_init => k_is)
      (case k_Reader_init => k_is)
      (case a_Reader_sign => k_is)
      (case i_Reader_sign => k_is)
      (case l_Reader_sign => k_is)
      (case c_Reader_sign => k_is)
      (case k_Reader_sign => k_is)
      (case a_Reader_step => k_is)
      (case i_Reader_step => k_is)
      (case l_Reader_step => k_is)
      (case c_Reader_step => k_is)
      (case k_Reader_step => k_is)
      (case a_Reader_steps => k_is)
      (case i_Reader_steps => k_is)
      (case l_Reader_steps => k_is)
      (case c_Reader_steps => k_is)
      (case k_Reader_steps => k_is)
      (case a_Reader_name_from => k_is)
      (case i_Reader_name_from => k_is)
      (case l_Reader_name_from => k_is)
      (case c_Reader_name_from => k_is)
      (case k_Reader_name_from => k_is)
      (case a_Reader_names => k_is)
      (case i_Reader_names => k_is)
      (case l_Reader_names => k_is)
      (case c_Reader_names => k_is)
      (case k_Reader_names => k_is)
      (case a_Reader_seen => k_is)
      (case i_Reader_seen => k_is)
      (case l_Reader_seen => k_is)
      (case c_Reader_seen => k_is)
      (case k_Reader_seen => k_is)
      (case a_Reader_summed => k_is)
      (case i_Reader_summed => k_is)
      (case l_Reader_summed => k_is)
      (case c_Reader_summed => k_is)
      (case k_Reader_summed => k_is)
      (case a_Reader_joined => k_is)
      (case i_Reader_joined => k_is)
      (case l_Reader_joined => k_is)
      (case c_Reader_joined => k_is)
      (case k_Reader_joined => k_is)
      (case a_Reader_formula => k_is)
      (case i_Reader_formula => k_is)
      (case l_Reader_formula => k_is)
      (case c_Reader_formula => k_is)
      (case k_Reader_formula => k_is)
      (case a_formula_read => k_is)
      (case l_formula_read => k_is)
      (case c_formula_read => k_is)
      (case k_formula_read => k_is)
      (case a_law_cell_at => k_is)
      (case l_law_cell_at => k_is)
      (case c_law_cell_at => k_is)
      (case k_law_cell_at => k_is)
      (case a_law_whole => k_is)
      (case l_law_whole => k_is)
      (case c_law_whole => k_is)
      (case k_law_whole => k_is)
      (case a_law_mixed => k_is)
      (case l_law_mixed => k_is)
      (case c_law_mixed => k_is)
      (case k_law_mixed => k_is)
      (case a_law_names => k_is)
      (case l_law_names => k_is)
      (case c_law_names => k_is)
      (case k_law_names => k_is)
      (case a_law_formula => k_is)
      (case l_law_formula => k_is)
      (case c_law_formula => k_is)
      (case k_law_formula => k_is)
      (case a_law_formula_text => k_is)
      (case l_law_formula_text => k_is)
      (case c_law_formula_text => k_is)
      (case k_law_formula_text => k_is)
      (case a_law_kinds => k_is)
      (case l_law_kinds => k_is)
      (case c_law_kinds => k_is)
      (case k_law_kinds => k_is)
      (case a_law_bent => k_is)
      (case l_law_bent => k_is)
      (case c_law_bent => k_is)
      (case k_law_bent => k_is)
      (case a_law_asked_for => k_is)
      (case l_law_asked_for => k_is)
      (case c_law_asked_for => k_is)
      (case k_law_asked_for => k_is)
      (case a_law_place => k_is)
      (case l_law_place => k_is)
      (case c_law_place => k_is)
      (case k_law_place => k_is)
      (case a_law_told => k_is)
      (case l_law_told => k_is)
      (case c_law_told => k_is)
      (case k_law_told => k_is)
      (case a_law => k_is)
      (case l_law => k_is)
      (case c_law => k_is)
      (case k_law => k_is)
      (case pg_Reader => k_is)
      (case hd_Reader => k_is)
      (case po_Reader => k_is)
      (case sa_Reader => k_is)
      (case mk_Reader => k_is)
      (case kc_Reader => k_is)
      (case xe_DoingError => kernel_rfl)
      (case xo_DoingError => k_is)
      (case xb_DoingError => k_is)
      (case xg_DoingError => k_is)
      (case xt_DoingError => k_is)
      (case xc_DoingError => k_is)
      (case s_NoText => k_is)
      (case kk_NoText_ValueError => kit_is)
      (case kk_NoText_NoText => kit_is)
      (case kk_NoText_BadStep => kit_is)
      (case kk_NoText_NoFormula => kit_is)
      (case kk_NoText_NoQuestion => kit_is)
      (case kk_NoText_NoAnswer => kit_is)
      (case kk_NoText_NoThinning => kit_is)
      (case kk_NoText_NoDoor => kit_is)
      (case kk_NoText_NoNest => kit_is)
      (case kk_NoText_BadPaper => kit_is)
      (case kk_NoText_NoRule => kit_is)
      (case kk_NoText_NoRoad => kit_is)
      (case kk_NoText_NoShare => kit_is)
      (case kk_NoText_NoValue => kit_is)
      (case kk_NoText_NoWorld => kit_is)
      (case kk_NoText_NoSets => kit_is)
      (case kk_NoText_NoName => kit_is)
      (case kk_NoText_NoBow => kit_is)
      (case kk_NoText_NoTie => kit_is)
      (case kk_NoText_NoCount => kit_is)
      (case kk_NoText_NoFraction => kit_is)
      (case z_ValueError => k_is)
      (case z_bool => k_is)
      (case z_int => k_is)
      (case z_isinstance => k_is)
      (case z_len => k_is)
      (case z_list => k_is)
      (case z_range => k_is)
      (case z_tuple => k_is)
      (case n_Reader_place => k_is)
      (case n_Reader_signs => k_is)
      (case v_LETTERS => k_is)
      (case ye => kernel_rfl)
      (case yo => k_is)
      (case yb => k_is)
      (case yg => k_is)
      (case yt => k_is)
      (case yc => k_is)
      (case ys => k_is)
      (case yn => k_is)
      (case yk => k_is)
      (case yr => k_is)
      (case yf => k_is)
      (case yz => k_is)
      (case tl => exact PySem.W.mg_of KX G (by k_is))
    obtain ⟨t, T, e, hb⟩ := T
    have e0 := hmg.symm.trans e
    cases e0
    exact ⟨t.d_law, hb, fun base kb nb => Lw.G_law T⟩
