import PyProof.Rows.All
import Wide.All
import Wide.FinOn
import OpenK.KLine
import KE.RegKIsAll
import KE.KDictOf
import KE.KItem
import KE.LcSums
import KE.KBits
import PyProof.EqAt
import PyProof.EqKinds
import PyProof.TupleCall
import PySem.Challenge.RW_rowbreadth_k48_names_in_bounds
set_option Elab.async false
set_option linter.all false
set_option maxRecDepth 100000
set_option maxHeartbeats 4000000
abbrev Fg:=PySem.W.Frag
abbrev Vl:=PySem.Value
abbrev Ad:=PySem.Addr
abbrev Sh:=PySem.Shared
abbrev J0:=PySem.Str->Option Vl
abbrev J5:=Vl->Sh->Prop
abbrev Ja:=List Int
abbrev Jb:=List (Ad×PySem.Obj)
abbrev Jc:=List Vl
abbrev Jd:=Option Vl
abbrev Je:=List PySem.Str
abbrev Jf:=List Ad
abbrev Jg:=List PySem.Expr
theorem Jh {α:Type _} {β:Type _} {as:List α} {f:α->β}:(as.map f).length=as.length:=List.length_map ..
theorem Ji {α:Type _} {as bs:List α}:(as++bs).length=as.length+bs.length:=List.length_append ..
theorem Jj {α:Type _} {β:Type _} {f:α->β} {as bs:List α}:(as++bs).map f=as.map f++bs.map f:=List.map_append ..
namespace PySem.W.Fast
def tw9472437092808611824:=0
def tw5675850484456082437:=0
def tw10745948250014698698:=0
def tw4299808541995167682:=0
def tw7256456912567902419:=0
def tw17748621200408779057:=0
def tw3329628915891044517:=0
def tw10458111293115561244:=0
def tw16804078932325085312:=0
def tw11784925938180167120:=0
def tw2759234629171749396:=0
def tw13031586370955748045:=0
def tw2363431842888231580:=0
def tw6868122092792761422:=0
def tw7977652153264528265:=0
def tw11163370721729686794:=0
def tw1750981148231962094:=0
def tw13910192206468877792:=0
def tw3648410440203898769:=0
def tw850731642950264660:=0
def tw16312658460838088050:=0
def tw12914827897868245554:=0
def tw3038664963533341799:=0
def tw8348899006503216414:=0
def tw11540622978259262543:=0
def tw10719185953197846421:=0
def tw12625541073271891112:=0
def tw4869521546605107431:=0
def tw10758600240157146205:=0
def tw14821997607047765797:=0
def tw18288609093847374631:=0
def tw15022143130946235830:=0
def tw18422694970103745022:=0
def tw8292787234002774131:=0
def tw4099995419077844098:=0
def tw7902459794554991907:=0
def tw11833467387019382709:=0
def tw11613478837657467445:=0
def tw18318513817304420585:=0
def tw16412076062347878820:=0
def tw4817051767038318601:=0
def tw325813907692162632:=0
def tw7044139155323067577:=0
def tw4279815856493853983:=0
def tw8075149821661957523:=0
def tw8050833328104394472:=0
def tw18113363610335412394:=0
def tw2830050680998515843:=0
def tw7162183773176898434:=0
def tw146399816976241704:=0
def tw3743622610525343312:=0
def tw4811989320939264470:=0
def tw10120922919730680915:=0
def tw17053321923832764017:=0
def tw10343233715149048036:=0
def tw10005323345611123545:=0
def tw2159350550900977168:=0
def tw18285508334104271015:=0
def tw7106672712092708324:=0
def tw2096513031808226041:=0
def tw8247508259210734872:=0
def tw5820840391654578050:=0
def tw10271799990965427752:=0
def tw5997035952782107481:=0
def tw15259998565320842346:=0
def tw14108850755379198056:=0
def tw10061450875879718546:=0
def tw4970683584218483641:=0
def tw6460743314414852503:=0
def tw9555905042235545654:=0
def tw4062152722471165594:=0
def tw18223706155219543369:=0
def tw18322790999008438721:=0
def tw8826776407355494067:=0
def tw2668727370870035376:=0
def tw4033505492565525773:=0
def tw17711816910189115428:=0
def tw7697672954222167128:=0
def tw1613177300911992048:=0
def tw1660468296976006252:=0
def tw672683618863406030:=0
def tw16830460158542528698:=0
def tw890079124751481521:=0
def tw2569347825942439908:=0
def tw5591936061163306710:=0
def tw5708859692975680728:=0
def tw13998674498318090360:=0
def tw6870559129016641749:=0
def tw17460512100283987170:=0
def tw3448153616042585996:=0
def tw11947872920969937621:=0
def tw9803516066520046826:=0
def tw123872988853020351:=0
def tw35106376002065537:=0
def tw3416996737729147497:=0
def tw14316537332649371176:=0
def tw13796586370548236584:=0
def tw9501596829488289639:=0
def tw14390170857270961048:=0
def tw289485175503728813:=0
def tw11450396638149341940:=0
def tw17584695803648932244:=0
def tw5809060102170117276:=0
def tw17128466173745427118:=0
def tw832895383681160161:=0
def tw5643730656632252980:=0
def tw12449857778761932682:=0
def tw5373644890116585282:=0
def tw11619561688756423761:=0
def tw7843354213576302952:=0
def tw12925617795286462958:=0
def tw16313888134990234576:=0
def tw2877814511063046377:=0
def tw14275830738376793167:=0
def tw1044421518698696568:=0
def tw4689142463529767043:=0
def tw6076024983971868060:=0
def tw10004465489144220685:=0
def tw3037381697497593041:=0
def tw3094757911656394668:=0
def tw274660680194117466:=0
def tw17197237188681202877:=0
def tw13200183411096341432:=0
def tw3170967271736881502:=0
def tw5804738435549018668:=0
def tw6920292168262957318:=0
def tw14341816433778411104:=0
def tw17242323433113856948:=0
def tw13662327682123960366:=0
def tw18036084176285116434:=0
def tw8906881410143715641:=0
def tw15792994705792154135:=0
def tw8913030066100041389:=0
def tw12928565751629304314:=0
def tw13255914415138321867:=0
def tw13437424454107016310:=0
def tw11223823055803940634:=0
def tw7508990919958111184:=0
def tw8789615955582517130:=0
def tw1983537342758764165:=0
def tw15370781539769792389:=0
def tw3754171468689723643:=0
def tw2122311387863103161:=0
def tw6063066673301633413:=0
def tw8843339542934501059:=0
def tw3964262070616891716:=0
def tw3674525595352029735:=0
def tw5999290160929473472:=0
def tw12758139031324296309:=0
def tw17148456425019644295:=0
def tw13127282817067344582:=0
def tw422010112881072814:=0
def tw13692205715425622593:=0
def tw2633319328920723316:=0
def tw16594337252545832762:=0
def tw14142184219543779438:=0
def tw17218000133498657821:=0
def tw2067333007483861079:=0
def tw6342129268512627199:=0
def tw8707884086540803819:=0
def tw3639616784523702524:=0
def tw2843808081701333057:=0
def tw16783159229051744832:=0
def tw14331285176983427194:=0
def tw6859683378035100268:=0
def tw7084034972991212050:=0
def tw745503534165764478:=0
def tw8708658321905601167:=0
def tw3943945825700416454:=0
def tw16749241774331951411:=0
def tw1619319107579614921:=0
def tw10080919096826866406:=0
def tw12227265708796497587:=0
def tw8782505690863983923:=0
def tw9586593978202449563:=0
def tw1640195135428669164:=0
def tw8625765841425193576:=0
def tw2354149790786324586:=0
def tw15503634710989650455:=0
def tw11634004966499623177:=0
def tw1545941518848390197:=0
def tw3513772407486616068:=0
def tw177118371325712367:=0
def tw9510195885772327249:=0
def tw17978780607628026686:=0
def tw1658041558970439592:=0
def tw7831515742951927241:=0
def tw5415162743888016153:=0
def tw10624178102265031834:=0
def tw3269504527667405822:=0
def tw9907901154655072042:=0
def tw1079142612557618331:=0
def tw4427718061187718124:=0
def tw11147345568251135899:=0
def tw14837681995657851936:=0
def tw3076475087798504491:=0
def tw11190090505484299504:=0
def tw4256089086263932957:=0
def tw8178873942028225004:=0
def tw354089654838363852:=0
def tw10572533155778574813:=0
def tw8288795700019280367:=0
def tw4310494596648668504:=0
def tw15739903198013270775:=0
def tw13951240429899045162:=0
def tw412335717427802885:=0
def tw14667744269943543993:=0
def tw7214103218495784515:=0
def tw3707137378672300580:=0
def tw2978583926379868838:=0
def tw1370915933211916557:=0
def tw2119033957823862092:=0
def tw17624475950143122556:=0
def tw17647695949849088786:=0
def tw834136751917693231:=0
def tw1058028592942783984:=0
def tw688266148854008927:=0
def tw17648367880320764050:=0
def tw13779433026259449672:=0
def tw5629428813422773972:=0
def tw14343769171607804242:=0
def tw18312645663836295591:=0
def tw714636062689005805:=0
def tw9796674217800339112:=0
def tw666963301306763838:=0
def tw9451801882277184130:=0
def tw4376668486327481501:=0
def tw2680260819158277201:=0
def tw13660826034950448874:=0
def tw7556688661143931030:=0
def tw4052321907340751492:=0
def tw9546764770031370196:=0
def tw2364368672367598553:=0
def tw15624627029968498518:=0
def tw8745124628369474095:=0
def tw7946599339478391397:=0
def tw6391281198970968048:=0
def tw5546829012437581143:=0
def tw2902195120105539732:=0
def tw17509078494723804218:=0
def tw15815127202685014300:=0
def tw1563502851836961207:=0
def tw13766673405430792710:=0
def tw13084648813008257213:=0
def tw12831299977466044399:=0
def tw1861766684703361907:=0
def tw18281118026126514650:=0
def tw10160885591103734397:=0
def tw2439471939432334846:=0
def tw3187211227661393236:=0
def tw10953771762310152436:=0
def tw10954537419893450793:=0
def tw13396006044341064250:=0
def tw11252828347193487245:=0
def tw9124682811591883713:=0
def tw3774820285951294378:=0
def tw2302847945701697939:=0
def tw1302528528699887439:=0
def tw2501552847515875998:=0
def tw1675674587976264161:=0
def tw15950230749528889076:=0
def tw10360834317895657893:=0
def tw17270720592436816968:=0
def tw1476224361170698043:=0
def tw13924497307352290439:=0
def tw378957849725026495:=0
def tw15325349726380398106:=0
def tw13597807130475512713:=0
def tw7051865208705176255:=0
def tw4488609688487625356:=0
def tw9501664214431098479:=0
def tw3569750272936250573:=0
def tw18368535292950312608:=0
def tw5550718045744016703:=0
def tw8935018438267539352:=0
def tw2936835317232641049:=0
def tw16157255799044685299:=0
def tw9834593263914916371:=0
def tw17056241702974528176:=0
def tw2819197974304544369:=0
def tw16269980967263707359:=0
def tw13678750870974929116:=0
def tw12606297145987906725:=0
def tw5119335260510733031:=0
def tw17508291374504060006:=0
def tw14631180592122233142:=0
def tw8444628920605863210:=0
def tw16691439599610550637:=0
def tw3408113487533914044:=0
def tw2951267899568860200:=0
def tw16003773493755672119:=0
def tw16252616554542459518:=0
def tw15993699091605766832:=0
def tw5804726693684751032:=0
def tw18050854705586797617:=0
def tw7385626866359046936:=0
def tw2542168479134151280:=0
def tw13734844234738300791:=0
def tw1165212112369551657:=0
def tw14665932484681402526:=0
def tw15259291433141240863:=0
def tw14492900550827749900:=0
def tw1739640287934914106:=0
def tw1923880285717851847:=0
def tw17405628732731427126:=0
def tw861560722109352150:=0
def tw8452753857790308423:=0
def tw4944312936313807820:=0
def tw16159110237724685230:=0
def tw4098031130234681638:=0
def tw13943812896399374662:=0
def tw4267190273164425437:=0
def tw4009398362795936031:=0
def tw16472998614953741646:=0
def tw2873462892750711199:=0
def tw12885934951669514545:=0
def tw9006078731116894014:=0
def tw8977979613788804373:=0
def tw8678981461798201734:=0
def tw5122128602196454710:=0
def tw46224136754495311:=0
def tw17967871301370089419:=0
def tw16615410528812554168:=0
def tw15548098956551489246:=0
def tw12304051025364710333:=0
def tw10036484915670405339:=0
def tw4304173510476212695:=0
def tw10018500860578801279:=0
end PySem.W.Fast
open PySem renaming wpAny_bind→q0x
open PySem renaming wpAny_pure→q0y
open List renaming getD_eq_getElem?_getD→q0z
open List renaming mem_cons_of_mem→q9x
open List renaming mem_cons_self→q9y
open Bool renaming false_ne_true→q9z
open List renaming mem_append_right→x0x
open Nat renaming lt_of_lt_of_le→x0y
open List renaming length_cons→x0z
open List renaming append_nil→x1x
open List renaming getElem?_append_left→x1y
section
open PySem PySem.W
def ckx {α : Type} (a : List α) (i : Nat) : List α := (a.drop i).take 64
def ckv (p : Addr × Obj) : Option Obj := some p.2
theorem ck2 {α β γ : Type} {f : α → γ} {g : β → γ} {a : List α} {b : List β} {i : Nat} (x : (ckx a i).map f = (ckx b i).map g) (y : (a.drop (i + 64)).map f = (b.drop (i + 64)).map g) : (a.drop i).map f = (b.drop i).map g := by
  have h1 : ((a.drop i).take 64 ++ (a.drop i).drop 64).map f = ((b.drop i).take 64 ++ (b.drop i).drop 64).map g := by
    rw [List.map_append, List.map_append, List.drop_drop, List.drop_drop, y]
    exact congrArg (· ++ _) x
  rw [List.take_append_drop, List.take_append_drop] at h1
  exact h1
theorem ck_of {K : Params → Frag} {a : List Addr} (e : ∀ P, a = (K P).map (·.1)) (w : World) (s : Shared) (x : (((((ckx a 0).map s.heap.get?, (ckx a 64).map s.heap.get?), ((ckx a 128).map s.heap.get?, (ckx a 192).map s.heap.get?)), (((ckx a 256).map s.heap.get?, (ckx a 320).map s.heap.get?), ((ckx a 384).map s.heap.get?, (ckx a 448).map s.heap.get?))), ((((ckx a 512).map s.heap.get?, (ckx a 576).map s.heap.get?), ((ckx a 640).map s.heap.get?, (ckx a 704).map s.heap.get?)), (((ckx a 768).map s.heap.get?, (ckx a 832).map s.heap.get?), ((ckx a 896).map s.heap.get?, ((a).drop 960).map s.heap.get?)))) = (((((ckx (K w.params) 0).map ckv, (ckx (K w.params) 64).map ckv), ((ckx (K w.params) 128).map ckv, (ckx (K w.params) 192).map ckv)), (((ckx (K w.params) 256).map ckv, (ckx (K w.params) 320).map ckv), ((ckx (K w.params) 384).map ckv, (ckx (K w.params) 448).map ckv))), ((((ckx (K w.params) 512).map ckv, (ckx (K w.params) 576).map ckv), ((ckx (K w.params) 640).map ckv, (ckx (K w.params) 704).map ckv)), (((ckx (K w.params) 768).map ckv, (ckx (K w.params) 832).map ckv), ((ckx (K w.params) 896).map ckv, (((K w.params)).drop 960).map ckv))))) : InK K w s.heap :=
  InK.of e w s (ck2 (congrArg (·.1.1.1.1) x) (ck2 (congrArg (·.1.1.1.2) x) (ck2 (congrArg (·.1.1.2.1) x) (ck2 (congrArg (·.1.1.2.2) x) (ck2 (congrArg (·.1.2.1.1) x) (ck2 (congrArg (·.1.2.1.2) x) (ck2 (congrArg (·.1.2.2.1) x) (ck2 (congrArg (·.1.2.2.2) x) (ck2 (congrArg (·.2.1.1.1) x) (ck2 (congrArg (·.2.1.1.2) x) (ck2 (congrArg (·.2.1.2.1) x) (ck2 (congrArg (·.2.1.2.2) x) (ck2 (congrArg (·.2.2.1.1) x) (ck2 (congrArg (·.2.2.1.2) x) (ck2 (congrArg (·.2.2.2.1) x) (congrArg (·.2.2.2.2) x))))))))))))))))
local macro_rules
  | `(tactic| refine $h:ident (q := $q) (loose := $l) (Xt := $x) (XP := $xp) (Yf := $_:ident ($_:ident $k $a $e)) (Ya := $_) (YP := $_) (N := $n) $hl $_ $_ $rest*) => `(tactic| refine $h (q := $q) (loose := $l) (Xt := $x) (XP := $xp) (Yf := fun s => (((((ckx $a 0).map s.heap.get?, (ckx $a 64).map s.heap.get?), ((ckx $a 128).map s.heap.get?, (ckx $a 192).map s.heap.get?)), (((ckx $a 256).map s.heap.get?, (ckx $a 320).map s.heap.get?), ((ckx $a 384).map s.heap.get?, (ckx $a 448).map s.heap.get?))), ((((ckx $a 512).map s.heap.get?, (ckx $a 576).map s.heap.get?), ((ckx $a 640).map s.heap.get?, (ckx $a 704).map s.heap.get?)), (((ckx $a 768).map s.heap.get?, (ckx $a 832).map s.heap.get?), ((ckx $a 896).map s.heap.get?, (($a).drop 960).map s.heap.get?))))) (Ya := fun w => (((((ckx ($k w.params) 0).map ckv, (ckx ($k w.params) 64).map ckv), ((ckx ($k w.params) 128).map ckv, (ckx ($k w.params) 192).map ckv)), (((ckx ($k w.params) 256).map ckv, (ckx ($k w.params) 320).map ckv), ((ckx ($k w.params) 384).map ckv, (ckx ($k w.params) 448).map ckv))), ((((ckx ($k w.params) 512).map ckv, (ckx ($k w.params) 576).map ckv), ((ckx ($k w.params) 640).map ckv, (ckx ($k w.params) 704).map ckv)), (((ckx ($k w.params) 768).map ckv, (ckx ($k w.params) 832).map ckv), ((ckx ($k w.params) 896).map ckv, ((($k w.params)).drop 960).map ckv))))) (YP := InK $k) (N := $n) $hl (ck_of $e) InK.keeps $rest*)
open PyProof.Rows
set_option maxRecDepth 100000 in
set_option maxHeartbeats 0 in
open_top K48hd for PySem.Challenge.rw_rowbreadth_k48_names_in_bounds
end
namespace L2
open PySem PySem.Spec PyProof.Rows
abbrev Key:=Sum Int Str
def YV:Key->Vl->Bool
 | .inl k,v=>Value.isInt k v
 | .inr x,v=>Value.isStrOf x v
def keyH (w:World):Key->Int
 | .inl k=>hashInt k
 | .inr x=>hashStr w x
theorem yA:∀ {k:Key} {v:Vl},YV k v=true->(∃ i t,k=Sum.inl i/\v=Value.int i t)∨(∃ x t,k=Sum.inr x/\v=Value.str x t)
 | .inl i,v,h=>by
  obtain ⟨t,e⟩:=Value.isInt_shape (k:=i) (v:=v) h;exact .inl ⟨i,t,rfl,e⟩
 | .inr x,v,h=>by
  obtain ⟨t,e⟩:=Value.isStrOf_shape (x:=x) (v:=v) h;exact .inr ⟨x,t,rfl,e⟩
def keyIs_int (i:Int) (t:Tok):YV (.inl i) (.int i t)=true:=by simp [YV,Value.isInt]
def keyIs_str (x:Str) (t:Tok):YV (.inr x) (.str x t)=true:=by simp [YV,Value.isStrOf]
def key_ll (a b:Int):decide ((Sum.inl a:Key)=Sum.inl b)=(a == b):=by
 by_cases e:a=b
 ·subst e;simp
 ·have h:¬ (Sum.inl a:Key)=Sum.inl b:=λq=>e (Sum.inl.inj q)
  rw [decide_eq_false h];exact (beq_eq_false_iff_ne.mpr e).symm
def key_rr (a b:Str):decide ((Sum.inr a:Key)=Sum.inr b)=decide (a=b):=by
 by_cases e:a=b
 ·subst e;simp
 ·have h:¬ (Sum.inr a:Key)=Sum.inr b:=λq=>e (Sum.inr.inj q)
  rw [decide_eq_false h,decide_eq_false e]
def key_lr (a:Int) (b:Str):decide ((Sum.inl a:Key)=Sum.inr b)=false:=decide_eq_false (λq=>nomatch q)
def key_rl (a:Str) (b:Int):decide ((Sum.inr a:Key)=Sum.inl b)=false:=decide_eq_false (λq=>nomatch q)
def yK (prog:Program) (w:World):PySem.KeyKind prog w Key where
 is:=YV
 hash:=keyH w
 inj:=λv a b ha hb=>by
  rcases yA ha with ⟨i,t,rfl,rfl⟩ | ⟨x,t,rfl,rfl⟩
  ·rcases yA hb with ⟨j,u,rfl,e⟩ | ⟨y,u,rfl,e⟩
   ·injection e with e1 _;rw [e1]
   ·exact nomatch e
  ·rcases yA hb with ⟨j,u,rfl,e⟩ | ⟨y,u,rfl,e⟩
   ·exact nomatch e
   ·injection e with e1 _;rw [e1]
 byValue:=λk v h=>by
  rcases yA h with ⟨i,t,rfl,rfl⟩ | ⟨x,t,rfl,rfl⟩ <;> rfl
 pyHash:=λhv h=>by
  rcases yA hv with ⟨i,t,rfl,rfl⟩ | ⟨x,t,rfl,rfl⟩
  ·exact wpAny_pyHash_int h
  ·exact wpAny_pyHash_str h
 eqBool:=λhu hv h=>by
  rcases yA hu with ⟨i,t,rfl,rfl⟩ | ⟨x,t,rfl,rfl⟩
  ·rcases yA hv with ⟨j,u,rfl,rfl⟩ | ⟨y,u,rfl,rfl⟩
   ·rw [key_ll] at h;exact wpAny_eqBool_int h
   ·rw [key_lr] at h;exact SeqAt.EqAt.int_str i t y u _ _ _ _ h
  ·rcases yA hv with ⟨j,u,rfl,rfl⟩ | ⟨y,u,rfl,rfl⟩
   ·rw [key_rl] at h;exact SeqAt.EqAt.str_int x t j u _ _ _ _ h
   ·rw [key_rr] at h;exact wpAny_eqBool_str h
 «strs»:=λk x t v h=>by
  rcases yA h with ⟨i,u,rfl,e⟩ | ⟨y,u,rfl,e⟩
  ·exact nomatch e
  ·injection e with e1 _
   subst e1;cases v <;> rfl
def XT (prog:Program) (w:World) (i:Int) (t:Tok):(yK prog w).is (.inl i) (.int i t)=true:=keyIs_int i t
def XS (prog:Program) (w:World) (x:Str) (t:Tok):(yK prog w).is (.inr x) (.str x t)=true:=keyIs_str x t
inductive V where
 | non | bl (b:Bool) | int (i:Int) | str (x:Str) | byt (b:Array UInt8) | flt (b:UInt64) | ref (a:Ad) | ty (n:String)
 deriving DecidableEq
def RelV:V->Vl->Prop
 | .non,u=>u=Value.none
 | .bl b,u=>u=Value.bool b
 | .int i,u=>∃ t,u=Value.int i t
 | .str x,u=>∃ t,u=Value.str x t
 | .byt b,u=>∃ t,u=Value.bytes b t
 | .flt b,u=>∃ t,u=Value.float b t
 | .ref a,u=>u=Value.ref a
 | .ty n,u=>u=Value.type n
abbrev Vals:List V->Jc->Prop:=Paired RelV
def Vals.length {xs:List V} {us:Jc} (r:Vals xs us):xs.length=us.length:=Paired.length r
theorem Vals.get:∀ {xs:List V} {us:Jc} {i:Nat} {x:V},Vals xs us->xs[i]?=some x->∃ u,us[i]?=some u/\RelV x u
 | _,_,_,_,.nil,e=>by simp at e
 | _,_,0,_,.cons r _,e=>by simp at e;subst e;exact ⟨_,rfl,r⟩
 | _,_,i+1,x,.cons _ t,e=>by
  obtain ⟨u,h1,h2⟩:=Vals.get (i:=i) (x:=x) t (by simpa using e);exact ⟨u,by simpa using h1,h2⟩
theorem Vals.append:∀ {xs ys:List V} {us ws:Jc},Vals xs us->Vals ys ws->Vals (xs++ys) (us++ws)
 | _,_,_,_,.nil,s=>s
 | _,_,_,_,.cons r t,s=>.cons r (Vals.append t s)
theorem Vals.take:∀ {xs:List V} {us:Jc} (n:Nat),Vals xs us->Vals (xs.take n) (us.take n)
 | _,_,0,_=>.nil
 | _,_,_+1,.nil=>.nil
 | _,_,n+1,.cons r t=>.cons r (Vals.take n t)
theorem Vals.drop:∀ {xs:List V} {us:Jc} (n:Nat),Vals xs us->Vals (xs.drop n) (us.drop n)
 | _,_,0,r=>r
 | _,_,_+1,.nil=>.nil
 | _,_,n+1,.cons _ t=>Vals.drop n t
def RelO:Option V->Jd->Prop
 | some v,some u=>RelV v u
 | none,none=>True
 | _,_=>False
def KV {κ:Type}:List (κ×V)->List (κ×Vl)->Prop:=Paired λ(p:κ×V) (q:κ×Vl)=>p.1=q.1/\RelV p.2 q.2
def kV:Key->V
 | .inl i=>.int i
 | .inr x=>.str x
inductive HO where
  | lst (xs:List V)
  | tup (xs:List V)
  | dK (kvs:List (Key×V)) | dT (kvs:List (List Key×V))
  | set (S:Int->Bool) (n:Nat)
  | ins (C dx:Ad) (fs:List (Str×V))
  | own (x:Ad)
  | xd (fs:List (Str×V))
  | met (f x:Ad)
  | rng (lo hi:Int)
  | frz (o:Obj) (u:HO)
  | tbl (ps:Array Vl)
  | ext (φ:Heap->Prop)
abbrev Hp:=Ad->Option HO
theorem Jo (l:List PySem.Str) (h:decide l.Nodup=true:=by decide +kernel):l.Nodup:=of_decide_eq_true h
abbrev Jk:=List (Key×V)
abbrev Jl:=List (Ad×HO)
abbrev Jm:=List V
abbrev Jn:=Option V
def upd (H:Hp) (a:Ad) (o:HO):Hp:=λb=>if b=a then some o else H b
def zg {H:Hp} {a:Ad} {o:HO}:upd H a o a=some o:=by unfold upd;rw [if_pos rfl]
def zy {H:Hp} {a b:Ad} {o:HO} (h:b≠a):upd H a o b=H b:=by unfold upd;rw [if_neg h]
def yZ {H:Hp} {a:Ad} {o u:HO}:upd (upd H a o) a u=upd H a u:=by
 funext b;unfold upd;split <;> rfl
def zS {H:Hp} {a b:Ad} {o:HO} (h:H a=some o) (h':H b=none):a≠b:=by
 intro e;subst e;rw [h] at h';cases h'
section
variable (P:Program) (w:World)
def ObjOk (H:Hp) (h:Heap) (a:Ad):HO->Prop
 | .lst xs=>xs.length<=sizeLine/\∃ (its:Jc) (n:Nat),Vals xs its/\h.get? a=some { cls:=.type "list",data:=.seq its.toArray n }
 | .tup xs=>xs.length<=sizeLine/\∃ its:Jc,Vals xs its/\IsTup h a its.toArray
 | .dK kvs=>kvs.length<=sizeLine/\(a == sysModules)=false/\∃ vs,KV kvs vs/\h.DictOf (yK P w) a vs
 | .dT kvs=>kvs.length<=sizeLine/\(a == sysModules)=false/\∃ xs:List (List Key×Ad×Vl),
   Paired (λ(p:List Key×V) (q:List Key×Ad×Vl)=>p.1=q.1/\H q.2.1=some (.tup (p.1.map kV))/\RelV p.2 q.2.2) kvs xs /\
   ∃ o es ep,h.get? a=some o/\o.ExactDict/\o.data=.dict es ep/\es.toList=xs.map (entryOfKey (tupleKind (yK P w)))/\(xs.map (·.1)).Nodup
 | .set S n=>h.SetOf (intKind P w) a S n
 | .ins C dx fs=>H dx=some (.own a)/\fs.length<=1000/\dx≠a/\h.get? a=some (PySem.W.instObj C dx) /\
   ∃ mA,h.Ns1 dx mA/\(∀ f,RelO (fs.lookup f) (mA f))/\PySem.Within mA (fs.map (·.1))
 | .own _=>∃ o,h.get? a=some o
 | .xd fs=>∃ mA,h.Ns1 a mA/\∀ f,RelO (fs.lookup f) (mA f)
 | .rng lo hi=>∃ t u v,h.get? a=some { cls:=.type "range",data:=.fields #[.int lo t,.int hi u,.int 1 v] }
 | .frz o u=>h.get? a=some o/\ObjOk H h a u
 | .tbl ps=>h.get? a=some { cls:=.none,data:=.fields ps }
 | .met f x=>h.get? a=some (PySem.W.methodObj (.ref f) (.ref x))
 | .ext φ=>φ h/\(∃ o,h.get? a=some o)/\∀ h1 h2:Heap,φ h1->(∀ o,h1.get? a=some o->h2.get? a=some o)->φ h2
def HOk (H:Hp) (h:Heap):Prop:=∀ a o,H a=some o->ObjOk P w H h a o
end
section
variable {P:Program} {w:World} {H H':Hp} {h h':Heap} {a:Ad} {o:HO}
def ObjOk.lt (x:ObjOk P w H h a o):a<h.objs.size:=by
 cases o with
 | lst xs=>obtain ⟨_,_,_,_,e⟩:=x;exact Heap.lt_size e
 | tup xs=>obtain ⟨_,_,_,p⟩:=x;exact p.lt
 | dK kvs=>obtain ⟨_,_,_,_,o,_,_,e,_⟩:=x;exact Heap.lt_size e
 | dT kvs=>obtain ⟨_,_,_,_,o,_,_,e,_⟩:=x;exact Heap.lt_size e
 | set S n=>obtain ⟨o,_,_,_,e,_⟩:=x;exact Heap.lt_size e
 | ins C dx fs=>obtain ⟨_,_,_,e,_⟩:=x;exact Heap.lt_size e
 | own y=>obtain ⟨_,e⟩:=x;exact Heap.lt_size e
 | xd fs=>obtain ⟨_,⟨_,_,_,e,_⟩,_⟩:=x;exact Heap.lt_size e
 | rng lo hi=>obtain ⟨_,_,_,e⟩:=x;exact Heap.lt_size e
 | frz ob u=>obtain ⟨e,_⟩:=x;exact Heap.lt_size e
 | tbl ps=>exact Heap.lt_size (show h.get? a=some _ from x)
 | met f y=>exact Heap.lt_size (show h.get? a=some _ from x)
 | ext φ=>obtain ⟨_,⟨_,e⟩,_⟩:=x;exact Heap.lt_size e
theorem Paired.mapP {α β:Type} {F G:α->β->Prop}:∀ {l₁:List α} {l₂:List β},Paired F l₁ l₂->(∀ a b,F a b->G a b)->Paired G l₁ l₂
 | _,_,.nil,_=>.nil
 | _,_,.cons r t,f=>.cons (f _ _ r) (Paired.mapP t f)
def ObjOk.stay (x:ObjOk P w H h a o) (k:∀ b u,(b=a∨H b=some (.own a))->h.get? b=some u->h'.get? b=some u)
  (ho:∀ b,H b=some (.own a)->H' b=some (.own a)) (ht:∀ b xs,H b=some (.tup xs)->H' b=some (.tup xs)):ObjOk P w H' h' a o:=by
 induction o with
 | lst xs=>obtain ⟨z,its,n,r,e⟩:=x;exact ⟨z,its,n,r,k _ _ (.inl rfl) e⟩
 | tup xs=>obtain ⟨z,its,r,ob,e,c⟩:=x;exact ⟨z,its,r,ob,k _ _ (.inl rfl) e,c⟩
 | dK kvs=>obtain ⟨z,y,vs,r,ob,es,ep,e,c⟩:=x;exact ⟨z,y,vs,r,ob,es,ep,k _ _ (.inl rfl) e,c⟩
 | dT kvs =>
  obtain ⟨z,y,xs,r,ob,es,ep,e,c⟩:=x;exact ⟨z,y,xs,Paired.mapP r λp q z=>⟨z.1,ht _ _ z.2.1,z.2.2⟩,ob,es,ep,k _ _ (.inl rfl) e,c⟩
 | set S n=>obtain ⟨ob,es,ep,t,e,c⟩:=x;exact ⟨ob,es,ep,t,k _ _ (.inl rfl) e,c⟩
 | ins C dx fs =>
  obtain ⟨d,z,ne,e,mA,⟨od,es,ep,e2,c⟩,r⟩:=x;exact ⟨ho _ d,z,ne,k _ _ (.inl rfl) e,mA,⟨od,es,ep,k _ _ (.inr d) e2,c⟩,r⟩
 | own y=>obtain ⟨ob,e⟩:=x;exact ⟨ob,k _ _ (.inl rfl) e⟩
 | xd fs=>obtain ⟨mA,⟨od,es,ep,e,c⟩,r⟩:=x;exact ⟨mA,⟨od,es,ep,k _ _ (.inl rfl) e,c⟩,r⟩
 | rng lo hi=>obtain ⟨t,u,v,e⟩:=x;exact ⟨t,u,v,k _ _ (.inl rfl) e⟩
 | frz ob u ih=>obtain ⟨e,q⟩:=x;exact ⟨k _ _ (.inl rfl) e,ih q⟩
 | tbl ps =>
  have e:h.get? a=some { cls:=.none,data:=.fields ps }:=x;show h'.get? a=some { cls:=.none,data:=.fields ps };exact k a _ (.inl rfl) e
 | met f y =>
  have e:h.get? a=some (PySem.W.methodObj (.ref f) (.ref y)):=x;show h'.get? a=some (PySem.W.methodObj (.ref f) (.ref y));exact k a _ (.inl rfl) e
 | ext φ=>obtain ⟨p,⟨o,e⟩,st⟩:=x;exact ⟨st _ _ p λo q=>k _ _ (.inl rfl) q,⟨o,k _ _ (.inl rfl) e⟩,st⟩
def HOk.lt (x:HOk P w H h) (e:H a=some o):a<h.objs.size:=(x a o e).lt
def HOk.fresh (x:HOk P w H h) (e:h.objs.size<=a):H a=none:=by
 cases q:H a with
 | none=>rfl
 | some u=>exact absurd (x0y (x.lt q) e) (Nat.lt_irrefl _)
def HOk.kept (x:HOk P w H h) (k:∀ b u,h.get? b=some u->h'.get? b=some u):HOk P w H h':=λa o e =>
 (x a o e).stay (λb u _ q=>k b u q) (λ_ q=>q) λ_ _ q=>q
def HOk.laid (x:HOk P w H h) (k:∀ b u,h.get? b=some u->h'.get? b=some u) (hp:h.objs.size<=a) (new:ObjOk P w (upd H a o) h' a o):HOk P w (upd H a o) h':=λb u e=>by
 have hn:=x.fresh hp;by_cases hb:b=a
 ·subst hb;rw [zg] at e;cases e;exact new
 ·rw [zy hb] at e
  exact (x b u e).stay (λc v _ q=>k c v q) (λc q=>by rw [zy (zS q hn)];exact q) λc xs q=>by rw [zy (zS q hn)];exact q
end
def Rd (H:Hp) (a:Ad) (u:HO):Prop:=H a=some u∨∃ o,H a=some (.frz o u)
def Rd.ok {P:Program} {w:World} {H:Hp} {h:Heap} {a:Ad} {u:HO} (r:Rd H a u) (x:HOk P w H h):ObjOk P w H h a u:=by
 rcases r with r | ⟨o,r⟩
 ·exact x a u r
 ·obtain ⟨_,q⟩:=x a _ r
  exact q
def Mut:Option HO->Prop
 | some (.lst _)=>True
 | some (.dK _)=>True
 | some (.dT _)=>True
 | some (.set _ _)=>True
 | some (.ins _ _ _)=>True
 | some (.ext _)=>True
 | _=>False
section
variable {P:Program} {w:World} {H:Hp} {h h':Heap} {x e:Ad} {o':HO}
def HOk.write (ok:HOk P w H h) (mu:Mut (H x)) (he:e=x∨H e=some (.own x)) (k:∀ b u,b≠e->h.get? b=some u->h'.get? b=some u) (heo:∃ u,h'.get? e=some u)
  (new:ObjOk P w (upd H x o') h' x o'):HOk P w (upd H x o') h':=λb u q=>by
 have nown:∀ c y,H c=some (.own y)->c≠x:=λc y r z=>by subst z;rw [r] at mu;exact mu
 have ntup:∀ c xs,H c=some (.tup xs)->c≠x:=λc xs r z=>by subst z;rw [r] at mu;exact mu
 by_cases hb:b=x
 ·subst hb;rw [zg] at q;cases q;exact new
 ·rw [zy hb] at q
  by_cases hbe:b=e
  ·have q':H b=some (.own x):=by
    rcases he with z | z
    ·exact absurd (hbe.trans z) hb
    ·rw [hbe];exact z
   rw [q] at q';cases q';obtain ⟨v,hv⟩:=heo;exact ⟨v,by rw [hbe];exact hv⟩
  ·refine (ok b u q).stay (λc v hc r=>k c v ?_ r) (λc r=>by rw [zy (nown c b r)];exact r) λc xs r=>by rw [zy (ntup c xs r)];exact r
   rcases hc with rfl | hc
   ·exact hbe
   ·rintro rfl
    rcases he with z | z
    ·exact nown c b hc z
    ·rw [hc] at z;cases z;exact hb rfl
end
structure Un (fs ex:Jf) (H H':Hp) (h h':Heap):Prop where
 keep:∀ b o,h.get? b=some o->H b=none->b ∉ fs->b ∉ ex->h'.get? b=some o
 slot:∀ b o,h.get? b=some o->H b=none->b∈fs->b ∉ ex->∃ sl,h'.get? b=some { o with slots:=sl }
 free:∀ b o,h.get? b=some o->H b=none->b ∉ ex->H' b=none
 there:∀ b o,h.get? b=some o->b ∉ ex->∃ o',h'.get? b=some o'
 tups:∀ b xs,H b=some (.tup xs)->H' b=some (.tup xs)
 frzs:∀ b o u,H b=some (.frz o u)->H' b=some (.frz o u)
 tbls:∀ b ps,H b=some (.tbl ps)->∃ more,H' b=some (.tbl (ps++more))
section
variable {fs fs' ex ex':Jf} {H H1 H2:Hp} {h h1 h2 h':Heap} {a x e:Ad} {o:HO}
def Un.any (u:Un fs ex H H1 h h1) {b:Ad} {ob:Obj} (q:h.get? b=some ob) (n:H b=none) (hx:b ∉ ex):∃ sl,h1.get? b=some { ob with slots:=sl }:=by
 by_cases hb:b∈fs
 ·exact u.slot b ob q n hb hx
 ·exact ⟨ob.slots,u.keep b ob q n hb hx⟩
def Un.kept (k:∀ b u,h.get? b=some u->h'.get? b=some u):Un fs ex H H h h' :=
 ⟨λb ob q _ _ _=>k b ob q,λb ob q _ _ _=>⟨ob.slots,k b ob q⟩,λ_ _ _ n _=>n,λb ob q _=>⟨ob,k b ob q⟩,λ_ _ q=>q,λ_ _ _ q=>q,λ_ ps q=>⟨#[],by rw [q];simp⟩⟩
def Un.refl:Un fs ex H H h h:=Un.kept λ_ _ q=>q
def Un.laid (k:∀ b u,h.get? b=some u->h'.get? b=some u) (hp:h.objs.size<=a) (hn:H a=none):Un fs ex H (upd H a o) h h' where
 keep:=λb u q _ _ _=>k b u q
 slot:=λb u q _ _ _=>⟨u.slots,k b u q⟩
 free:=λb u q n _=>by rw [zy (Nat.ne_of_lt (x0y (Heap.lt_size q) hp))];exact n
 there:=λb u q _=>⟨u,k b u q⟩
 tups:=λb xs q=>by rw [zy (zS q hn)];exact q
 frzs:=λb u xs q=>by rw [zy (zS q hn)];exact q
 tbls:=λb ps q=>⟨#[],by rw [zy (zS q hn),q];simp⟩
def Un.write (mu:Mut (H x)) (he:e=x∨H e=some (.own x)) (k:∀ b u,b≠e->h.get? b=some u->h'.get? b=some u) (heo:∃ u,h'.get? e=some u):Un fs ex H (upd H x o) h h':=by
 have hx:∀ b,H b=none->b≠x:=λb n z=>by subst z;rw [n] at mu;exact mu
 have hb:∀ b,H b=none->b≠e:=λb n z=>by
  subst z;rcases he with r | r
  ·exact hx b n r
  ·rw [n] at r;cases r
 have hm:∀ b u,H b=some u->¬ Mut (some u)->b≠x:=λb u q nm z=>by subst z;rw [q] at mu;exact nm mu
 refine ⟨λb u q n _ _=>k b u (hb b n) q,λb u q n _ _=>⟨u.slots,k b u (hb b n) q⟩,λb u q n _=>by rw [zy (hx b n)];exact n,λb u q _=>?_,
  λb xs q=>by rw [zy (hm b _ q λz=>z)];exact q,λb u xs q=>by rw [zy (hm b _ q λz=>z)];exact q,λb ps q=>⟨#[],by rw [zy (hm b _ q λz=>z),q];simp⟩⟩
 by_cases hbe:b=e
 ·subst hbe;exact heo
 ·exact ⟨u,k b u hbe q⟩
end
def trk (h:Heap) (H:Hp):Jf:=(List.range h.objs.size).filter λa=>(H a).isSome
def hidT (h:Heap) (H:Hp):Heap:=PySem.W.hideAll h (trk h H)
def hidT_size (h:Heap) (H:Hp):(hidT h H).objs.size=h.objs.size:=PySem.W.hideAll_size _ _
def hidT_get {h:Heap} {H:Hp} {b:Ad} {o:Obj} (e:h.get? b=some o) (n:H b=none):(hidT h H).get? b=some o :=
 PySem.W.hideAll_get _ e λhm=>by
  have q:(H b).isSome=true:=(List.mem_filter.mp hm).2;rw [n] at q;simp at q
def of_hidT {h:Heap} {H:Hp} {b:Ad} {o:Obj} (e:(hidT h H).get? b=some o):h.get? b=some o/\H b=none:=by
 have e':h.get? b=some o:=PySem.W.of_hideAll (trk h H) e;refine ⟨e',?_⟩
 cases q:H b with
 | none=>rfl
 | some x =>
  have hm:b∈trk h H:=List.mem_filter.mpr ⟨List.mem_range.mpr (Heap.lt_size e'),by simp [q]⟩;have z:(hidT h H).get? b=none:=PySem.W.hideAll_none (trk h H) hm;rw [z] at e;cases e
def allNews (g h:Heap) (L:Ad):Jb:=(List.range h.objs.size).filterMap λa=>if a=L∨(g.get? a).isSome=true then none else (h.get? a).map λo=>(a,o)
def rest (g h:Heap) (L d:Ad):Jb:=(allNews g h L).filter λp=>decide (p.1≠d)
structure Mod (K:Fg) (mg:J0) (base:Heap):Prop where
 kin:K.In base
 glob:base.Ns mainGlobals mg
 blt:∃ mb,base.Ns builtinsNs mb/\∀ x:Str,x≠"__name__"->mb x=bootBuiltins x
 nolimit:base.NoLimit
structure Cx where
 prog:Program
 w:World
 K:Fg
 mg:J0
 base:Heap
 A:Around
 N:Je
 s₀:Sh
 H₀:Hp
 env:Env
 outer:List Env
 stack:List Env
 ex:Jf
 fn:Str->Bool
 calm:Bool
 pn:Jb
 xe:J5
def frs (l:List Env):Jf:=l.filterMap (·.frame)
abbrev Cx.fs (X:Cx):Jf:=frs X.outer
def Vis (sc:Scope) (x:Str):Prop:=sc.names.lookup x=some .local∨sc.names.lookup x=some .cell∨sc.names.lookup x=some .free
def Loc (sc:Scope) (x:Str):Prop:=sc.names.lookup x=some .local∨sc.names.lookup x=some .cell
def Look (env:Env) (h:Heap) (m:J0) (x:Str) (u:Vl):Prop :=
 (env.kindOf x=some .local/\m x=some u)∨((env.kindOf x=some .cell∨env.kindOf x=some .free)/\∃ c,env.cells.lookup x=some c/\h.IsCell c (some u))
structure Cx.Ok (X:Cx):Prop where
 mod:Mod X.K X.mg X.base
 kind:X.env.scope.kind=.function
 glob:X.env.globals=mainGlobals
 blt:X.env.builtins=builtinsNs
 above:X.s₀.heap.objs.size<=X.env.locals
 inj:∀ x y c,X.env.cells.lookup x=some c->X.env.cells.lookup y=some c->x=y
 has:∀ x,(X.env.kindOf x=some .cell∨X.env.kindOf x=some .free)->∃ c,X.env.cells.lookup x=some c
 cab:∀ x c,X.fn x=true->X.env.cells.lookup x=some c->X.s₀.heap.objs.size<=c
 hd:X.calm=true->X.A.handled=none
 frames:X.A.frames=some X.stack
 stk:X.stack=X.outer∨(X.stack=X.env::X.outer/\X.env.frame=some X.env.locals)
 exf:∀ b∈X.ex,b≠X.env.locals/\∀ x c,X.env.cells.lookup x=some c->c≠b
 bs:∀ b o,X.base.get? b=some o->X.s₀.heap.get? b=some o/\X.H₀ b=none
 bsz:X.base.objs.size<=X.s₀.heap.objs.size
 noex:∀ b o,X.base.get? b=some o->b ∉ X.ex
 exfs:∀ b∈X.ex,b ∉ X.fs
 funs:X.s₀.heap.FunFrames X.base X.outer
 frf:∀ b∈X.fs,X.H₀ b=none
structure Inv (X:Cx) (pins:Jb) (σ:List (Jn)) (H:Hp) (s:Sh):Prop where
 ok:X.Ok
 os:s.os=X.s₀.os
 bare:AllBare s.gens
 base:Un X.fs X.ex X.H₀ H X.s₀.heap s.heap
 loc:∃ m,s.heap.Ns X.env.locals m/\∀ (i:Nat) (x:Str) (v:V),X.N[i]?=some x->σ[i]?=some (some v)->Vis X.env.scope x->∃ u,RelV v u/\Look X.env s.heap m x u
 cell:∀ x c,X.env.cells.lookup x=some c->∃ v,s.heap.IsCell c v
 free:H X.env.locals=none
 freeC:∀ x c,X.env.cells.lookup x=some c->H c=none
 pin:∀ p∈X.pn++pins,s.heap.get? p.1=some p.2/\H p.1=none/\p.1≠X.env.locals/\p.1 ∉ X.fs/\∀ v,p.2.data≠.cell v
 hok:HOk X.prog X.w H s.heap
 len:σ.length=X.N.length
section
variable {X:Cx} {pins:Jb} {σ:List (Jn)} {H H':Hp} {s:Sh} {h':Heap}
def Cx.Ok.nofr (ok:X.Ok) {b:Ad} {o:Obj} (e:X.base.get? b=some o):b ∉ X.fs:=λhb=>by
 have:=(ok.funs.mem hb).1;rw [e] at this;cases this
def Inv.bs (I:Inv X pins σ H s):∀ b o,X.base.get? b=some o->s.heap.get? b=some o/\H b=none:=λb o e =>
 ⟨I.base.keep b o (I.ok.bs b o e).1 (I.ok.bs b o e).2 (I.ok.nofr e) (I.ok.noex b o e),I.base.free b o (I.ok.bs b o e).1 (I.ok.bs b o e).2 (I.ok.noex b o e)⟩
def Inv.bk (I:Inv X pins σ H s):∀ b o,X.base.get? b=some o->s.heap.get? b=some o:=λb o e=>(I.bs b o e).1
def Inv.mod (I:Inv X pins σ H s):Mod X.K X.mg X.base:=I.ok.mod
def Inv.kIn (I:Inv X pins σ H s):X.K.In s.heap:=I.ok.mod.kin.keeps I.bk
def Inv.lt (I:Inv X pins σ H s):X.env.locals<s.heap.objs.size:=let ⟨_,hn,_⟩:=I.loc;hn.lt
def Inv.sz (I:Inv X pins σ H s):X.s₀.heap.objs.size<=s.heap.objs.size:=Nat.le_trans I.ok.above (Nat.le_of_lt I.lt)
def Inv.nofs (I:Inv X pins σ H s) {a:Ad} (h:s.heap.objs.size<=a):a ∉ X.fs:=λhb=>by
 obtain ⟨_,o,ho,_⟩:=I.ok.funs.mem hb;exact absurd (x0y (Heap.lt_size ho) (Nat.le_trans I.sz h)) (Nat.lt_irrefl _)
def Inv.cne (I:Inv X pins σ H s):∀ x c,X.env.cells.lookup x=some c->c≠X.env.locals:=λx c e z=>by
 obtain ⟨v,o,ho,hd⟩:=I.cell x c e;obtain ⟨m,⟨o',es,ep,ho',hd',_⟩,_⟩:=I.loc;rw [z,ho'] at ho;cases ho;rw [hd'] at hd;cases hd
def Inv.funs (I:Inv X pins σ H s):s.heap.FunFrames X.base X.outer:=by
 have all:∀ (l:List Env),(∀ b∈frs l,b∈X.fs)->X.s₀.heap.FunFrames X.base l->s.heap.FunFrames X.base l:=by
  intro l
  induction l with
  | nil=>intro _ _;trivial
  | cons env r ih =>
   intro hs hl;obtain ⟨hk,⟨L,o,hf,hn,ho,hd⟩,hr⟩:=hl;have hL:L∈X.fs:=hs L (by unfold frs;rw [List.filterMap_cons,hf];exact q9y);obtain ⟨sl,e⟩:=I.base.slot L o ho (I.ok.frf L hL) hL λz=>I.ok.exfs L z hL;exact ⟨hk,⟨L,_,hf,hn,e,hd⟩,ih (λb hb=>hs b (by unfold frs;rw [List.filterMap_cons,hf];exact q9x _ hb)) hr⟩
 exact all X.outer (λ_ hb=>hb) I.ok.funs
def Inv.stack (I:Inv X pins σ H s):s.heap.FunFrames X.base X.stack:=by
 rcases I.ok.stk with e | ⟨e,hf⟩
 ·rw [e];exact I.funs
 ·rw [e]
  obtain ⟨m,hn,_⟩:=I.loc;refine .cons (by rw [I.ok.kind];decide) hf hn ?_ I.funs;exact Heap.get?_none_of_le (Nat.le_trans I.ok.bsz I.ok.above)
def Inv.stkSub (I:Inv X pins σ H s):∀ b∈frs X.stack,b∈X.env.locals::X.fs:=λb hb=>by
 rcases I.ok.stk with e | ⟨e,hf⟩
 ·rw [e] at hb;exact q9x _ hb
 ·rw [e] at hb
  unfold frs at hb;rw [List.filterMap_cons,hf] at hb;exact hb
def Inv.stkFree (I:Inv X pins σ H s):∀ b∈frs X.stack,H b=none:=λb hb=>by
 rcases List.mem_cons.mp (I.stkSub b hb) with e | hb
 ·rw [e];exact I.free
 ·obtain ⟨_,o,ho,_⟩:=I.ok.funs.mem hb
  exact I.base.free b o ho (I.ok.frf b hb) λz=>I.ok.exfs b z hb
def Inv.step {g':Array GenState} {t':Nat} {d':Drawn} {ch:Jf} (I:Inv X pins σ H s)
  (hch:∀ b∈ch,(b∈X.ex∨X.s₀.heap.objs.size<=b)/\b≠X.env.locals/\(∀ x c,X.env.cells.lookup x=some c->c≠b)/\∀ p∈X.pn++pins,p.1≠b)
  (keep:∀ b o,b≠X.env.locals->b ∉ X.fs->b ∉ ch->s.heap.get? b=some o->H b=none->h'.get? b=some o)
  (slot:∀ b o,b≠X.env.locals->b∈X.fs->b ∉ ch->s.heap.get? b=some o->H b=none->∃ sl,h'.get? b=some { o with slots:=sl }) (free:∀ b o,b ∉ ch->s.heap.get? b=some o->H b=none->H' b=none)
  (there:∀ b o,b ∉ ch->s.heap.get? b=some o->∃ o',h'.get? b=some o')
  (tups:∀ b xs,H b=some (.tup xs)->H' b=some (.tup xs)) (frzs:∀ b o u,H b=some (.frz o u)->H' b=some (.frz o u)) (tbls:∀ b ps,H b=some (.tbl ps)->∃ more,H' b=some (.tbl (ps++more)))
  (ns:∀ m,s.heap.Ns X.env.locals m->h'.Ns X.env.locals m) (hok:HOk X.prog X.w H' h') (hg:AllBare g') :
  Inv X pins σ H' { s with heap:=h',gens:=g',drawn:=d',toks:=t' }:=by
 have neL:∀ b o,X.s₀.heap.get? b=some o->b≠X.env.locals:=λb o e=>Nat.ne_of_lt (x0y (Heap.lt_size e) I.ok.above)
 have neC:∀ b o,X.s₀.heap.get? b=some o->b ∉ X.ex->b ∉ ch:=λb o e hx hb=>by
  rcases (hch b hb).1 with z | z
  ·exact hx z
  ·exact absurd (x0y (Heap.lt_size e) z) (Nat.lt_irrefl _)
 have cellK:∀ x c,X.env.cells.lookup x=some c->∀ v,s.heap.IsCell c v->h'.IsCell c v:=λx c e v ⟨o,ho,hd⟩=>by
  have nch:c ∉ ch:=λz=>(hch c z).2.2.1 x c e rfl;by_cases hc:c∈X.fs
  ·obtain ⟨sl,q⟩:=slot c o (I.cne x c e) hc nch ho (I.freeC x c e)
   exact ⟨_,q,hd⟩
  ·exact ⟨o,keep c o (I.cne x c e) hc nch ho (I.freeC x c e),hd⟩
 refine ⟨I.ok,I.os,hg,⟨λb o e n hb hx=>?_,λb o e n hb hx=>?_,λb o e n hx=>?_,λb o e hx=>?_,λb xs e=>tups b xs (I.base.tups b xs e),λb o xs e=>frzs b o xs (I.base.frzs b o xs e),λb ps e=>?_⟩,?_,λx c e=>?_,?_,λx c e=>?_,λp hp=>?_,hok,I.len⟩
 ·exact keep b o (neL b o e) hb (neC b o e hx) (I.base.keep b o e n hb hx) (I.base.free b o e n hx)
 ·obtain ⟨sl,e1⟩:=I.base.slot b o e n hb hx
  obtain ⟨sl',e2⟩:=slot b _ (neL b o e) hb (neC b o e hx) e1 (I.base.free b o e n hx);exact ⟨sl',e2⟩
 ·obtain ⟨o',e1⟩:=I.base.there b o e hx
  exact free b o' (neC b o e hx) e1 (I.base.free b o e n hx)
 ·obtain ⟨o',e1⟩:=I.base.there b o e hx
  exact there b o' (neC b o e hx) e1
 ·obtain ⟨m1,e1⟩:=I.base.tbls b ps e
  obtain ⟨m2,e2⟩:=tbls b _ e1;exact ⟨m1++m2,by rw [e2,Array.append_assoc]⟩
 ·obtain ⟨m,hn,hl⟩:=I.loc
  refine ⟨m,ns m hn,λi x v e1 e2 e3=>?_⟩;obtain ⟨u,r,l⟩:=hl i x v e1 e2 e3;refine ⟨u,r,?_⟩;rcases l with l | ⟨k,c,e,z⟩
  ·exact .inl l
  ·exact .inr ⟨k,c,e,cellK x c e _ z⟩
 ·obtain ⟨v,z⟩:=I.cell x c e
  exact ⟨v,cellK x c e v z⟩
 ·obtain ⟨m,⟨o,_,_,ho,_⟩,_⟩:=I.loc
  exact free _ o (λz=>(hch _ z).2.1 rfl) ho I.free
 ·obtain ⟨v,o,ho,hd⟩:=I.cell x c e
  exact free c o (λz=>(hch c z).2.2.1 x c e rfl) ho (I.freeC x c e)
 ·obtain ⟨e,n,ne,nf,d⟩:=I.pin p hp
  have nch:p.1 ∉ ch:=λz=>(hch p.1 z).2.2.2 p hp rfl;exact ⟨keep p.1 p.2 ne nf nch e n,free p.1 p.2 nch e n,ne,nf,d⟩
def Inv.un {t':Nat} (I:Inv X pins σ H s) (u:Un X.fs [] H H' s.heap h') (hok:HOk X.prog X.w H' h'):Inv X pins σ H' { s with heap:=h',toks:=t' }:=by
 obtain ⟨m,⟨o,es,ep,ho,r⟩,_⟩:=id I.loc;obtain ⟨sl,hL⟩:=u.any ho I.free (by simp)
 exact I.step (g':=s.gens) (d':=s.drawn) (ch:=[]) (λ_ z=>nomatch z) (λb o _ hb _ e n=>u.keep b o e n hb (by simp)) (λb o _ hb _ e n=>u.slot b o e n hb (by simp)) (λb o _ e n=>u.free b o e n (by simp)) (λb o _ e=>u.there b o e (by simp)) u.tups u.frzs u.tbls (λm' hm=>by
  obtain ⟨o',es',ep',ho',r'⟩:=hm;rw [ho] at ho';cases ho';exact ⟨_,es',ep',hL,r'⟩) hok I.bare
def Inv.call {g':Array GenState} {t':Nat} {d':Drawn} {ch:Jf} (I:Inv X pins σ H s) (u:Un (frs X.stack) ch H H' s.heap h') (hok:HOk X.prog X.w H' h') (hg:AllBare g')
  (hch:∀ b∈ch,(b∈X.ex∨X.s₀.heap.objs.size<=b)/\b≠X.env.locals/\(∀ x c,X.env.cells.lookup x=some c->c≠b)/\∀ p∈X.pn++pins,p.1≠b) :
  Inv X pins σ H' { s with heap:=h',gens:=g',drawn:=d',toks:=t' }:=by
 obtain ⟨m,⟨o,es,ep,ho,r⟩,_⟩:=id I.loc;obtain ⟨sl,hL⟩:=u.any ho I.free λz=>(hch _ z).2.1 rfl
 exact I.step (ch:=ch) hch (λb o hL hb hc e n=>u.keep b o e n (λz=>(List.mem_cons.mp (I.stkSub b z)).elim hL hb) hc) (λb o _ _ hc e n=>u.any e n hc) (λb o hc e n=>u.free b o e n hc) (λb o hc e=>u.there b o e hc) u.tups u.frzs u.tbls (λm' hm=>by
  obtain ⟨o',es',ep',ho',r'⟩:=hm;rw [ho] at ho';cases ho';exact ⟨_,es',ep',hL,r'⟩) hok hg
def Inv.turned {t':Nat} {it:Ad} (I:Inv X pins σ H s) (k:∀ b o,b≠it->s.heap.get? b=some o->h'.get? b=some o) (hn:H it=none) (hL:it≠X.env.locals)
  (h1:it∈X.ex∨X.s₀.heap.objs.size<=it) (h2:∀ x c,X.env.cells.lookup x=some c->c≠it) (h3:∀ p∈X.pn++pins,p.1≠it):Inv X pins σ H { s with heap:=h',toks:=t' }:=by
 have nit:∀ b u,H b=some u->b≠it:=λb u e z=>by rw [z,hn] at e;cases e
 refine I.step (g':=s.gens) (d':=s.drawn) (ch:=[it]) (λb hb=>?_) (λb o _ _ hc e _=>k b o (λz=>hc (by simp [z])) e) (λb o _ _ hc e _=>⟨o.slots,k b o (λz=>hc (by simp [z])) e⟩) (λ_ _ _ _ n=>n)
  (λb o hc e=>⟨o,k b o (λz=>hc (by simp [z])) e⟩) (λ_ _ e=>e) (λ_ _ _ e=>e) (λb ps e=>⟨#[],by rw [e];simp⟩) (λm hm=>?_) (λb u e=>?_) I.bare
 ·have e:b=it:=by simpa using hb
  subst e;exact ⟨h1,hL,h2,h3⟩
 ·obtain ⟨o,es,ep,ho,r⟩:=hm
  exact ⟨o,es,ep,k _ o (Ne.symm hL) ho,r⟩
 ·refine (I.hok b u e).stay (λc v hc q=>k c v ?_ q) (λ_ q=>q) λ_ _ q=>q
  rcases hc with z | z
  ·rw [z];exact nit b u e
  ·exact nit c _ z
def Inv.tok (I:Inv X pins σ H s) (t:Nat):Inv X pins σ H { s with toks:=t }:=I.un (h':=s.heap) (t':=t) Un.refl I.hok
def Inv.kept {t':Nat} (I:Inv X pins σ H s) (k:∀ b u,s.heap.get? b=some u->h'.get? b=some u):Inv X pins σ H { s with heap:=h',toks:=t' }:=I.un (Un.kept k) (I.hok.kept k)
def Inv.laid {a:Ad} {o:HO} {t':Nat} (I:Inv X pins σ H s) (k:∀ b u,s.heap.get? b=some u->h'.get? b=some u) (hp:s.heap.objs.size<=a) (new:ObjOk X.prog X.w (upd H a o) h' a o) :
  Inv X pins σ (upd H a o) { s with heap:=h',toks:=t' }:=I.un (Un.laid k hp (I.hok.fresh hp)) (I.hok.laid k hp new)
def Inv.write {x e:Ad} {o:HO} {t':Nat} (I:Inv X pins σ H s) (mu:Mut (H x)) (he:e=x∨H e=some (.own x)) (k:∀ b u,b≠e->s.heap.get? b=some u->h'.get? b=some u) (heo:∃ u,h'.get? e=some u)
  (new:ObjOk X.prog X.w (upd H x o) h' x o):Inv X pins σ (upd H x o) { s with heap:=h',toks:=t' }:=I.un (Un.write mu he k heo) (I.hok.write mu he k heo new)
def Inv.pins_of {pins':Jb} (I:Inv X pins σ H s) (h:∀ p∈pins',s.heap.get? p.1=some p.2/\H p.1=none/\p.1≠X.env.locals/\p.1 ∉ X.fs/\∀ v,p.2.data≠.cell v):Inv X pins' σ H s :=
 ⟨I.ok,I.os,I.bare,I.base,I.loc,I.cell,I.free,I.freeC,λp hp=>(List.mem_append.mp hp).elim (λz=>I.pin p (List.mem_append_left _ z)) (h p),I.hok,I.len⟩
def XR {N:Je} (hN:N.Nodup) {i j:Nat} {x:Str} (a:N[i]?=some x) (b:N[j]?=some x):i=j:=by
 obtain ⟨h1,e1⟩:=List.getElem?_eq_some_iff.mp a;obtain ⟨h2,e2⟩:=List.getElem?_eq_some_iff.mp b;exact (List.getElem_inj hN).mp (e1.trans e2.symm)
def store_ok2 {M:Model} {A:Around} {E:J5} {i:Nat} {x:Str} {v:V} {u:Vl} {Q:Unit->Sh->Prop} (I:Inv X pins σ H s) (hN:X.N.Nodup) (hi:X.N[i]?=some x) (hx:Loc X.env.scope x) (r:RelV v u)
  (h:∀ s',Inv X pins (σ.set i (some v)) H s'->(∃ a,Heap.SameBut a s.heap s'.heap/\(a=X.env.locals∨X.env.cells.lookup x=some a))->Q () s') (hf:X.fn x=true∨X.env.scope.names.lookup x=some .local:=by first | exact .inl rfl | exact .inr rfl | assumption):wpAny M A (storeName X.env x u) Q E s:=by
 obtain ⟨m,hn,hl⟩:=id I.loc;have hcls:(X.env.scope.kind == .class || (X.env.scope.kind == .module && X.env.locals != X.env.globals))=false:=by rw [I.ok.kind];rfl
 have hiσ:i<σ.length:=by rw [I.len];exact (List.getElem?_eq_some_iff.mp hi).1
 have cne:=I.cne
 have tracked:∀ {a:Ad} {h':Heap},(∃ o,s.heap.get? a=some o/\H a=none)->Heap.SameBut a s.heap h'->HOk X.prog X.w H h':=λ{a h'} ha hs b ob e=>by
  obtain ⟨_,_,hfree⟩:=ha;refine (I.hok b ob e).stay (λc w' hc q=>(hs.2 c ?_).trans q) (λ_ q=>q) λ_ _ q=>q;rintro rfl;rcases hc with rfl | hc
  ·rw [hfree] at e;cases e
  ·rw [hfree] at hc;cases hc
 rcases hx with hk | hk
 ·refine wpAny_storeName_local hk hn (λh' hn' hs=>?_) hcls
  obtain ⟨oL,_,_,hoL,_⟩:=id hn;refine h _ ⟨I.ok,I.os,I.bare,⟨λb o e n hb hx=>?_,λb o e n hb hx=>?_,I.base.free,λb o e hx=>?_,I.base.tups,I.base.frzs,I.base.tbls⟩,⟨_,hn',λj y v' e1 e2 e3=>?_⟩,λy c e=>?_,I.free,I.freeC,λp hp=>?_,tracked ⟨oL,hoL,I.free⟩ hs,by simpa using I.len⟩ ⟨_,hs,.inl rfl⟩
  ·exact (hs.2 b (Nat.ne_of_lt (x0y (Heap.lt_size e) I.ok.above))).trans (I.base.keep b o e n hb hx)
  ·obtain ⟨sl,e1⟩:=I.base.slot b o e n hb hx
   exact ⟨sl,(hs.2 b (Nat.ne_of_lt (x0y (Heap.lt_size e) I.ok.above))).trans e1⟩
  ·obtain ⟨o',e1⟩:=I.base.there b o e hx
   exact ⟨o',(hs.2 b (Nat.ne_of_lt (x0y (Heap.lt_size e) I.ok.above))).trans e1⟩
  ·by_cases hj:j=i
   ·subst hj
    rw [hi] at e1;cases e1;rw [List.getElem?_set_self hiσ] at e2;cases e2;exact ⟨u,r,.inl ⟨hk,by simp⟩⟩
   ·rw [List.getElem?_set_ne (Ne.symm hj)] at e2
    obtain ⟨u',r',q⟩:=hl j y v' e1 e2 e3;refine ⟨u',r',?_⟩;rcases q with ⟨k,e⟩ | ⟨k,c,e,z⟩
    ·refine .inl ⟨k,?_⟩
     have:y≠x:=λe=>hj (XR hN e1 (e ▸ hi));simp [this,e]
    ·exact .inr ⟨k,c,e,z.sameBut hs (cne y c e)⟩
  ·obtain ⟨w',z⟩:=I.cell y c e
   exact ⟨w',z.sameBut hs (cne y c e)⟩
  ·obtain ⟨e,n,ne,nf,d⟩:=I.pin p hp
   exact ⟨(hs.2 p.1 ne).trans e,n,ne,nf,d⟩
 ·have hfn:X.fn x=true:=by
   rcases hf with z | z
   ·exact z
   ·rw [z] at hk;cases hk
  obtain ⟨c,hc⟩:=I.ok.has x (.inl hk);obtain ⟨w',z⟩:=I.cell x c hc;refine wpAny_storeName_cell I.ok.kind hk hc z (λh' hc' hs=>?_);obtain ⟨oc,hoc,hocd⟩:=id z;refine h { s with heap:=h' } ⟨I.ok,I.os,I.bare,⟨λb o e n hb hx=>?_,λb o e n hb hx=>?_,I.base.free,λb o e hx=>?_,I.base.tups,I.base.frzs,I.base.tbls⟩,⟨m,hn.sameBut hs (Ne.symm (cne x c hc)),λj y v' e1 e2 e3=>?_⟩,λy c' e=>?_,I.free,I.freeC,λp hp=>?_,tracked ⟨oc,hoc,I.freeC x c hc⟩ hs,by simpa using I.len⟩ ⟨c,hs,.inr hc⟩
  ·exact (hs.2 b (Nat.ne_of_lt (x0y (Heap.lt_size e) (I.ok.cab x c hfn hc)))).trans (I.base.keep b o e n hb hx)
  ·obtain ⟨sl,e1⟩:=I.base.slot b o e n hb hx
   exact ⟨sl,(hs.2 b (Nat.ne_of_lt (x0y (Heap.lt_size e) (I.ok.cab x c hfn hc)))).trans e1⟩
  ·obtain ⟨o',e1⟩:=I.base.there b o e hx
   exact ⟨o',(hs.2 b (Nat.ne_of_lt (x0y (Heap.lt_size e) (I.ok.cab x c hfn hc)))).trans e1⟩
  ·by_cases hj:j=i
   ·subst hj
    rw [hi] at e1;cases e1;rw [List.getElem?_set_self hiσ] at e2;cases e2;exact ⟨u,r,.inr ⟨.inl hk,c,hc,hc'⟩⟩
   ·rw [List.getElem?_set_ne (Ne.symm hj)] at e2
    obtain ⟨u',r',q⟩:=hl j y v' e1 e2 e3;refine ⟨u',r',?_⟩;rcases q with q | ⟨k,c',e,z'⟩
    ·exact .inl q
    ·refine .inr ⟨k,c',e,z'.sameBut hs ?_⟩
     rintro rfl;exact hj (XR hN e1 (I.ok.inj _ _ _ e hc ▸ hi))
  ·by_cases hcc:c'=c
   ·subst hcc;exact ⟨_,hc'⟩
   ·obtain ⟨w2,z2⟩:=I.cell y c' e
    exact ⟨w2,z2.sameBut hs hcc⟩
  ·obtain ⟨e,n,ne,nf,d⟩:=I.pin p hp
   refine ⟨(hs.2 p.1 ?_).trans e,n,ne,nf,d⟩;intro q;rw [q,hoc] at e;have q':oc=p.2:=Option.some.inj e;exact d w' (by rw [← q'];exact hocd)
def XE {M:Model} {A:Around} {E:J5} {i:Nat} {x:Str} {v:V} {u:Vl} {Q:Unit->Sh->Prop} (I:Inv X pins σ H s) (hN:X.N.Nodup) (hi:X.N[i]?=some x) (hx:Loc X.env.scope x) (r:RelV v u)
  (h:∀ s',Inv X pins (σ.set i (some v)) H s'->Q () s') (hf:X.fn x=true∨X.env.scope.names.lookup x=some .local:=by first | exact .inl rfl | exact .inr rfl | assumption):wpAny M A (storeName X.env x u) Q E s :=
 store_ok2 I hN hi hx r (λs' I' _=>h s' I') hf
def Inv.call' {s':Sh} {ch:Jf} (I:Inv X pins σ H s) (ho:s'.os=s.os) (u:Un (frs X.stack) ch H H' s.heap s'.heap) (hok:HOk X.prog X.w H' s'.heap) (hg:AllBare s'.gens)
  (hch:∀ b∈ch,(b∈X.ex∨X.s₀.heap.objs.size<=b)/\b≠X.env.locals/\(∀ x c,X.env.cells.lookup x=some c->c≠b)/\∀ p∈X.pn++pins,p.1≠b):Inv X pins σ H' s':=by
 obtain ⟨h',g',d',t',o'⟩:=s';have e:o'=s.os:=ho;subst e;exact I.call (g':=g') (t':=t') (d':=d') u hok hg hch
end
abbrev XK:=Vl->Option Ad->Hp->Prop
abbrev St:=List (Jn)
abbrev VK:=V->Hp->Prop
abbrev TE:=St->Hp->VK->Prop
abbrev TT:=St->Hp->(Bool->Hp->Prop)->Prop
abbrev TA:=St->Hp->(Jm->Hp->Prop)->Prop
structure Ends where
 nx:St->Hp->Prop
 rt:VK
 bk:St->Hp->Prop:=λ_ _=>False
 ct:St->Hp->Prop:=λ_ _=>False
abbrev TS:=Ends->St->Hp->Prop
def EP (X:Cx) (pins:Jb) (σ:St) (Q:VK) (u:Vl) (s':Sh):Prop:=∃ v H',Inv X pins σ H' s'/\RelV v u/\Q v H'
def TP (X:Cx) (pins:Jb) (σ:St) (Q:Bool->Hp->Prop) (b:Bool) (s':Sh):Prop:=∃ H',Inv X pins σ H' s'/\Q b H'
def AP (X:Cx) (pins:Jb) (σ:St) (Q:Jm->Hp->Prop) (us:Jc) (s':Sh):Prop:=∃ vs H',Inv X pins σ H' s'/\Vals vs us/\Q vs H'
def SP (X:Cx) (pins:Jb) (D:Ends) (f:Flow) (s':Sh):Prop :=
 match f with
 | .next=>∃ σ' H',Inv X pins σ' H' s'/\D.nx σ' H'
 | .brk=>∃ σ' H',Inv X pins σ' H' s'/\D.bk σ' H'
 | .cont=>∃ σ' H',Inv X pins σ' H' s'/\D.ct σ' H'
 | .ret u=>∃ v σ' H',Inv X pins σ' H' s'/\RelV v u/\D.rt v H'
def PE (X:Cx) (e:Expr) (t:TE):Prop :=
 ∀ (pins:Jb) (s:Sh) (σ:St) (H:Hp) (Q:VK),Inv X pins σ H s->t σ H Q->wpAny (model X.prog X.w) X.A (eval e X.env) (EP X pins σ Q) X.xe s
def PT (X:Cx) (e:Expr) (t:TT):Prop :=
 ∀ (pins:Jb) (s:Sh) (σ:St) (H:Hp) (Q:Bool->Hp->Prop),Inv X pins σ H s->t σ H Q->wpAny (model X.prog X.w) X.A (isTrue e X.env (eval e X.env)) (TP X pins σ Q) X.xe s
def PW (X:Cx) (e:Expr) (t:TT):Prop :=
 ∀ (whole:Sem Vl) (pins:Jb) (s:Sh) (σ:St) (H:Hp) (Q:Bool->Hp->Prop),Inv X pins σ H s->t σ H Q->wpAny (model X.prog X.w) X.A (isTrue e X.env whole) (TP X pins σ Q) X.xe s
def PW.pt {X:Cx} {e:Expr} {t:TT} (h:PW X e t):PT X e t:=h _
def PA (X:Cx) (es:Jg) (t:TA):Prop :=
 ∀ (pos:Pos) (pins:Jb) (s:Sh) (σ:St) (H:Hp) (Q:Jm->Hp->Prop),Inv X pins σ H s->t σ H Q->wpAny (model X.prog X.w) X.A (spliced (backTo pos (starEach es X.env))) (AP X pins σ Q) X.xe s
def PS (X:Cx) (st:Stmt) (t:TS):Prop :=
 ∀ (pins:Jb) (s:Sh) (σ:St) (H:Hp) (D:Ends),Inv X pins σ H s->t D σ H->wpAny (model X.prog X.w) X.A (exec st X.env) (SP X pins D) X.xe s
def PSs (X:Cx) (st:List Stmt) (t:TS):Prop :=
 ∀ (pins:Jb) (s:Sh) (σ:St) (H:Hp) (D:Ends),Inv X pins σ H s->t D σ H->wpAny (model X.prog X.w) X.A (execs st X.env) (SP X pins D) X.xe s
def thn {α:Type} {t:Sem α} {Q Q':α->Sh->Prop} {M:Model} {A:Around} {E:J5} {s:Sh} (h:wpAny M A t Q E s) (hQ:∀ a s,Q a s->Q' a s):wpAny M A t Q' E s:=wpAny_mono h hQ λ_ _ x=>x
section
variable {X:Cx}
inductive tVar (i:Nat) (σ:St) (H:Hp) (Q:VK):Prop
 | mk (v:_) (_:σ[i]?=some (some v)) (_:Q v H)
def tC (v:V):TE:=λ_ H Q=>Q v H
def pe_var {i:Nat} {x:Str} {pos:Pos} (hN:X.N[i]?=some x) (hv:Vis X.env.scope x) (hd:(x == ("__debug__":Str))=false:=by decide) (hcd:(x == ("__classdict__":Str))=false:=by decide):PE X (.Name x pos) (tVar i):=by
 intro pins s σ H Q I h;obtain ⟨v,e,h⟩:=h;obtain ⟨m,hn,hl⟩:=I.loc;obtain ⟨u,r,l⟩:=hl i x v hN e hv;have fin:EP X pins σ Q u s:=⟨v,H,I,r,h⟩;rcases l with ⟨hk,hm⟩ | ⟨hk,c,hc,hcell⟩
 ·exact wpAny_Name (wpAny_loadName_local I.ok.kind hk hn hm fin) hd
 ·rcases hk with hk | hk
  ·exact wpAny_Name (wpAny_loadName_cell I.ok.kind hk hc hcell fin) hd
  ·exact wpAny_Name (wpAny_loadName_free I.ok.kind hk hc hcell fin hcd) hd
def zd {i j pos}:PE X (.Constant (.int i) j pos) (tC (.int i)):=λ_ _ _ H _ I h=>wpAny_Constant_int ⟨.int i,H,I.tok _,⟨_,rfl⟩,h⟩
def yF {b j pos}:PE X (.Constant (.bool b) j pos) (tC (.bl b)):=λ_ _ _ H _ I h=>Constant_bool ⟨.bl b,H,I,rfl,h⟩
def pe_non {j pos}:PE X (.Constant .none j pos) (tC .non):=λ_ _ _ H _ I h=>Constant_none ⟨.non,H,I,rfl,h⟩
def zh {x j pos}:PE X (.Constant (.str x) j pos) (tC (.str x)):=λ_ _ _ H _ I h=>Calls.Constant_str ⟨.str x,H,I.tok _,⟨_,rfl⟩,h⟩
def Gl (X:Cx) (x:Str):Prop:=X.env.kindOf x=some .globalImplicit
def Yk {E:J5} {pins:Jb} {s:Sh} {σ:St} {H:Hp} {x:Str} {u:Vl} {pos:Pos} {Q:J5} (I:Inv X pins σ H s) (hg:Gl X x) (hm:X.mg x=some u) (h:Q u s)
  (hd:(x == ("__debug__":Str))=false:=by decide):wpAny (model X.prog X.w) X.A (eval (.Name x pos) X.env) Q E s :=
 Calls.Name_function_global I.ok.kind hg (Calls.loadGlobal_global (by rw [I.ok.glob];exact I.mod.glob.keeps I.bk) hm h) hd
def Xm {E:J5} {pins:Jb} {s:Sh} {σ:St} {H:Hp} {x:Str} {u:Vl} {pos:Pos} {Q:J5} (I:Inv X pins σ H s) (hg:Gl X x) (hm:X.mg x=none) (hv:bootBuiltins x=some u) (h:Q u s)
  (hn:x≠"__name__":=by decide) (hd:(x == ("__debug__":Str))=false:=by decide):wpAny (model X.prog X.w) X.A (eval (.Name x pos) X.env) Q E s:=by
 obtain ⟨mb,h1,h2⟩:=I.mod.blt;exact Calls.Name_function_global I.ok.kind hg (Calls.loadGlobal_builtin (by rw [I.ok.glob];exact I.mod.glob.keeps I.bk) hm (by rw [I.ok.blt];exact h1.keeps I.bk) ((h2 x hn).trans hv) h) hd
def pe_glob {x:Str} {v:V} {u:Vl} {pos:Pos} (hg:Gl X x) (hm:X.mg x=some u) (r:RelV v u) (hd:(x == ("__debug__":Str))=false:=by decide):PE X (.Name x pos) (tC v) :=
 λ_ _ _ H _ I h=>Yk I hg hm ⟨v,H,I,r,h⟩ hd
def pe_bltn {x:Str} {v:V} {u:Vl} {pos:Pos} (hg:Gl X x) (hm:X.mg x=none) (hv:bootBuiltins x=some u) (r:RelV v u) (hn:x≠"__name__":=by decide) (hd:(x == ("__debug__":Str))=false:=by decide):PE X (.Name x pos) (tC v) :=
 λ_ _ _ H _ I h=>Xm I hg hm hv ⟨v,H,I,r,h⟩ hn hd
variable {a b:Expr} {ta tb:TE} {pos:Pos}
def PC (X:Cx) (op:CmpOp) (a b:Expr) (t:TE):Prop :=
 ∀ (pins:Jb) (s:Sh) (σ:St) (H:Hp) (Q:VK),Inv X pins σ H s->t σ H Q ->
  wpAny (model X.prog X.w) X.A (eval a X.env) (λv s₁=>wpAny (model X.prog X.w) X.A (eval b X.env) (λu s₂=>wpAny (model X.prog X.w) X.A (compareOp op v u) (EP X pins σ Q) X.xe s₂) X.xe s₁) X.xe s
inductive tB_S (Q:(Bool->Hp->Prop)) (x:V) (H1:Hp):Prop
 | mk (c:_) (_:x=.bl c) (_:Q c H1)
def tB (t:TE):TT:=λσ H Q=>t σ H λx H1=>tB_S Q x H1
def yb {e:Expr} {t:TE} (h:PE X e t) (he:∀ whole,isTrue e X.env whole=(do let v ← whole;standAt e.pos;holding [v] (truthy v)):=by intro _;rfl):PT X e (tB t):=by
 intro pins s σ H Q I hw;refine isTrue_plain (thn (h pins s σ H _ I hw) λv s1 ⟨x,H1,I1,r1,q1⟩=>?_) (he _);obtain ⟨d,rfl,q⟩:=q1;cases r1;exact wpAny_truthy_bool ⟨H1,I1,q⟩
variable {tA tB':TT} {rest:Jg}
def tAnd (t u:TT):TT:=λσ H Q=>t σ H λc H1=>if c=true then u σ H1 Q else Q false H1
def tOr (t u:TT):TT:=λσ H Q=>t σ H λc H1=>if c=true then Q true H1 else u σ H1 Q
def tNot (t:TT):TT:=λσ H Q=>t σ H λc H1=>Q (!c) H1
def ZR (ha:PT X a tA):PW X (.BoolOp .And [a] pos) tA:=by
 intro wh pins s σ H Q I h;refine isTrue_and (thn (ha pins s σ H Q I h) λc s1 e=>?_)
 cases c with
 | true=>exact isTrue_and_nil e
 | false=>exact e
def yh (ha:PT X a tA):PW X (.BoolOp .Or [a] pos) tA:=by
 intro wh pins s σ H Q I h;refine isTrue_or (thn (ha pins s σ H Q I h) λc s1 e=>?_)
 cases c with
 | false=>exact isTrue_or_nil e
 | true=>exact e
def Z1 (ha:PT X a tA) (hb:PW X (.BoolOp .And (b::rest) pos) tB'):PW X (.BoolOp .And (a::b::rest) pos) (tAnd tA tB'):=by
 intro wh pins s σ H Q I h;refine isTrue_and (thn (ha pins s σ H _ I h) λc s1 ⟨H1,I1,q1⟩=>?_)
 cases c with
 | true=>exact hb wh pins s1 σ H1 Q I1 q1
 | false=>exact ⟨H1,I1,q1⟩
def yz (ha:PT X a tA) (hb:PW X (.BoolOp .Or (b::rest) pos) tB'):PW X (.BoolOp .Or (a::b::rest) pos) (tOr tA tB'):=by
 intro wh pins s σ H Q I h;refine isTrue_or (thn (ha pins s σ H _ I h) λc s1 ⟨H1,I1,q1⟩=>?_)
 cases c with
 | true=>exact ⟨H1,I1,q1⟩
 | false=>exact hb wh pins s1 σ H1 Q I1 q1
def xi (ha:PT X a tA):PT X (.UnaryOp .Not a pos) (tNot tA):=by
 intro pins s σ H Q I h;exact isTrue_not (ha pins s σ H (λc H1=>Q (!c) H1) I h)
inductive tAndV_S (tb:TE) (σ:St) (Q:VK) (x:V) (H1:Hp):Prop
 | mk (c:_) (_:x=.bl c) (_:if c=true then tb σ H1 Q else Q (.bl false) H1)
def tAndV (ta tb:TE):TE:=λσ H Q=>ta σ H λx H1=>tAndV_S tb σ Q x H1
inductive tOrV_S (tb:TE) (σ:St) (Q:VK) (x:V) (H1:Hp):Prop
 | mk (c:_) (_:x=.bl c) (_:if c=true then Q (.bl true) H1 else tb σ H1 Q)
def tOrV (ta tb:TE):TE:=λσ H Q=>ta σ H λx H1=>tOrV_S tb σ Q x H1
inductive tNotV_S (Q:VK) (x:V) (H1:Hp):Prop
 | mk (c:_) (_:x=.bl c) (_:Q (.bl (!c)) H1)
def tNotV (ta:TE):TE:=λσ H Q=>ta σ H λx H1=>tNotV_S Q x H1
def Zu {op} {t:TE} (h:PE X a t):PE X (.BoolOp op [a] pos) t:=λpins s σ H Q I hw=>BoolOp_one (h pins s σ H Q I hw)
def x9 (ha:PE X a ta) (hb:PE X (.BoolOp .And (b::rest) pos) tb):PE X (.BoolOp .And (a::b::rest) pos) (tAndV ta tb):=by
 intro pins s σ H Q I h;refine BoolOp_and (thn (ha pins s σ H _ I h) λv s1 ⟨x,H1,I1,r1,q1⟩=>?_);obtain ⟨c,rfl,q1⟩:=q1;cases r1;refine wpAny_truthy_bool ?_
 cases c with
 | true=>exact hb pins s1 σ H1 Q I1 q1
 | false=>exact ⟨.bl false,H1,I1,rfl,q1⟩
def pe_or (ha:PE X a ta) (hb:PE X (.BoolOp .Or (b::rest) pos) tb):PE X (.BoolOp .Or (a::b::rest) pos) (tOrV ta tb):=by
 intro pins s σ H Q I h;refine BoolOp_or (thn (ha pins s σ H _ I h) λv s1 ⟨x,H1,I1,r1,q1⟩=>?_);obtain ⟨c,rfl,q1⟩:=q1;cases r1;refine wpAny_truthy_bool ?_
 cases c with
 | false=>exact hb pins s1 σ H1 Q I1 q1
 | true=>exact ⟨.bl true,H1,I1,rfl,q1⟩
def pe_not (ha:PE X a ta):PE X (.UnaryOp .Not a pos) (tNotV ta):=by
 intro pins s σ H Q I h;refine UnaryOp_ (thn (ha pins s σ H _ I h) λv s1 ⟨x,H1,I1,r1,q1⟩=>?_);obtain ⟨c,rfl,q1⟩:=q1;cases r1;exact not_of (wpAny_truthy_bool ⟨.bl (!c),H1,I1,rfl,q1⟩)
end
def SqL (K:Fg) (H:Hp) (a:Ad) (xs:Jm):Prop :=
 Rd H a (.lst xs) ∨
  ∃ (o:Obj) (its:Array Vl) (n:Nat),K.lookup a=some o/\o.cls=.type "list"/\o.dict=none/\o.data=.seq its n/\its.size<=sizeLine/\Vals xs its.toList
def SqT (K:Fg) (H:Hp) (a:Ad) (xs:Jm):Prop :=
 Rd H a (.tup xs) ∨
  ∃ (o:Obj) (its:Array Vl) (n:Nat),K.lookup a=some o/\o.cls=.type "tuple"/\o.data=.seq its n/\its.size<=sizeLine/\Vals xs its.toList
def absV:Vl->Jn
 | .none=>some .non
 | .bool b=>some (.bl b)
 | .int i _=>some (.int i)
 | .str x _=>some (.str x)
 | .bytes b _=>some (.byt b)
 | .float b _=>some (.flt b)
 | .ref a=>some (.ref a)
 | .type n=>some (.ty n)
 | _=>none
def RelV.abs {x:V} {u:Vl} (r:RelV x u):absV u=some x:=by
 cases x with
 | non=>cases r;rfl
 | bl _=>cases r;rfl
 | int _=>obtain ⟨t,rfl⟩:=r;rfl
 | str _=>obtain ⟨t,rfl⟩:=r;rfl
 | byt _=>obtain ⟨t,rfl⟩:=r;rfl
 | flt _=>obtain ⟨t,rfl⟩:=r;rfl
 | ref _=>cases r;rfl
 | ty _=>cases r;rfl
def RelV.inj {x y:V} {u:Vl} (r:RelV x u) (q:RelV y u):x=y:=Option.some.inj (r.abs.symm.trans q.abs)
theorem Vals.inj:∀ {xs ys:Jm} {us:Jc},Vals xs us->Vals ys us->xs=ys
 | _,_,_,.nil,.nil=>rfl
 | _,_,_,.cons r t,.cons r' t'=>by rw [r.inj r',Vals.inj t t']
section
variable {X:Cx} {pins:Jb} {σ:St} {H:Hp} {s:Sh} {a:Ad} {xs ys:Jm}
def SqL.of {K:Fg} (h:H a=some (.lst xs)):SqL K H a xs:=.inl (.inl h)
def SqT.of {K:Fg} (h:H a=some (.tup xs)):SqT K H a xs:=.inl (.inl h)
def Inv.list (I:Inv X pins σ H s) (h:SqL X.K H a xs):∃ its:Jc,Vals xs its/\PlainL s.heap a its.toArray/\xs.length<=sizeLine:=by
 rcases h with h | ⟨o,its,n,hk,hc,hd,hs,hz,r⟩
 ·obtain ⟨z,its,n,r,e⟩:=h.ok I.hok
  exact ⟨its,r,⟨_,n,e,rfl,rfl,rfl⟩,z⟩
 ·refine ⟨its.toList,r,⟨o,n,I.kIn a o hk,hc,hd,by simpa using hs⟩,?_⟩
  have e:=r.length;simp only [Array.length_toList] at e;omega
def Inv.tuple (I:Inv X pins σ H s) (h:SqT X.K H a xs):∃ its:Jc,Vals xs its/\IsTup s.heap a its.toArray/\xs.length<=sizeLine:=by
 rcases h with h | ⟨o,its,n,hk,hc,hs,hz,r⟩
 ·obtain ⟨z,its,r,p⟩:=h.ok I.hok
  exact ⟨its,r,p,z⟩
 ·refine ⟨its.toList,r,⟨o,I.kIn a o hk,hc,n,by simpa using hs⟩,?_⟩
  have e:=r.length;simp only [Array.length_toList] at e;omega
def Inv.list_inj (I:Inv X pins σ H s) (h:SqL X.K H a xs) (h':SqL X.K H a ys):xs=ys:=by
 obtain ⟨its,r,⟨o,n,e,_,_,d⟩,_⟩:=I.list h;obtain ⟨its',r',⟨o',n',e',_,_,d'⟩,_⟩:=I.list h';rw [e] at e';cases e';rw [d] at d';injection d' with d1 _
 have:its=its':=by simpa using congrArg Array.toList d1
 subst this;exact r.inj r'
end
abbrev Cx.wish (X:Cx) (E:J5):Cx:={ X with xe:=E }
abbrev Cx.nox (X:Cx):Cx:=X.wish λ_ _=>False
def Cx.Ok.wish {X:Cx} (ok:X.Ok) (E:J5):(X.wish E).Ok :=
 ⟨ok.mod,ok.kind,ok.glob,ok.blt,ok.above,ok.inj,ok.has,ok.cab,ok.hd,ok.frames,ok.stk,ok.exf,ok.bs,ok.bsz,ok.noex,ok.exfs,ok.funs,ok.frf⟩
def Cx.Ok.unwish {X:Cx} {E:J5} (ok:(X.wish E).Ok):X.Ok :=
 ⟨ok.mod,ok.kind,ok.glob,ok.blt,ok.above,ok.inj,ok.has,ok.cab,ok.hd,ok.frames,ok.stk,ok.exf,ok.bs,ok.bsz,ok.noex,ok.exfs,ok.funs,ok.frf⟩
section
variable {X:Cx} {pins:Jb} {σ:St} {H:Hp} {s:Sh} {E:J5}
def Inv.wish (I:Inv X pins σ H s) (E:J5):Inv (X.wish E) pins σ H s:=⟨I.ok.wish E,I.os,I.bare,I.base,I.loc,I.cell,I.free,I.freeC,I.pin,I.hok,I.len⟩
def Inv.unwish (I:Inv (X.wish E) pins σ H s):Inv X pins σ H s:=⟨I.ok.unwish,I.os,I.bare,I.base,I.loc,I.cell,I.free,I.freeC,I.pin,I.hok,I.len⟩
def SP.unwish {D:Ends} {f:Flow} {s':Sh} (h:SP (X.wish E) pins D f s'):SP X pins D f s':=by
 cases f with
 | next=>obtain ⟨σ',H',I,q⟩:=h;exact ⟨σ',H',I.unwish,q⟩
 | brk=>obtain ⟨σ',H',I,q⟩:=h;exact ⟨σ',H',I.unwish,q⟩
 | cont=>obtain ⟨σ',H',I,q⟩:=h;exact ⟨σ',H',I.unwish,q⟩
 | ret u=>obtain ⟨v,σ',H',I,r,q⟩:=h;exact ⟨v,σ',H',I.unwish,r,q⟩
def PSs.nox {st:List Stmt} {t:TS} (h:PSs X.nox st t):PSs X st t:=λpins s σ H D I hw =>
 wpAny_mono (h pins s σ H D (I.wish _) hw) (λ_ _ q=>q.unwish) λ_ _ z=>False.elim z
end
section
variable {X:Cx} {st:Stmt} {rest:List Stmt} {t u:TS} {e:Expr} {te:TE} {pos:Pos}
def tNext:TS:=λD σ H=>D.nx σ H
def tSeq (t u:TS):TS:=λD σ H=>t { D with nx:=u D } σ H
def zk:PSs X [] tNext:=λ_ _ σ H _ I h=>wpAny_execs_nil ⟨σ,H,I,h⟩
def zc (h1:PS X st t) (h2:PSs X rest u):PSs X (st::rest) (tSeq t u):=by
 intro pins s σ H D I h;refine wpAny_execs_cons (thn (h1 pins s σ H { D with nx:=u D } I h) λf s1 q=>?_)
 cases f with
 | next =>
  obtain ⟨σ',H',I',q⟩:=q;exact h2 pins s1 σ' H' D I' q
 | ret v=>exact q
 | brk=>exact q
 | cont=>exact q
def zf (h1:PS X st t):PSs X [st] t:=by
 intro pins s σ H D I h;refine wpAny_execs_cons (thn (h1 pins s σ H D I h) λf s1 q=>?_)
 cases f with
 | next=>exact wpAny_execs_nil q
 | ret v=>exact q
 | brk=>exact q
 | cont=>exact q
def Inv.quiet {pins:Jb} {σ:St} {H:Hp} {s:Sh} (I:Inv X pins σ H s):interactive X.env=false:=by simp [interactive,I.ok.kind]
def tDrop (te:TE):TS:=λD σ H=>te σ H λ_ H1=>D.nx σ H1
def zX (he:PE X e te) (hs:swapsWith e none pos.line X.env=pure false:=by rfl):PS X (.Expr e pos) (tDrop te):=by
 intro pins s σ H D I h;exact wpAny_Expr_any (thn (he pins s σ H _ I h) λv s1 ⟨x,H1,I1,r1,q1⟩=>⟨σ,H1,I1,q1⟩) I.quiet hs
def tRet (te:TE):TS:=λD σ H=>te σ H D.rt
def zj (he:PE X e te):PS X (.Return (some e) pos) (tRet te):=by
 intro pins s σ H D I h;exact wpAny_Return_some (thn (he pins s σ H _ I h) λv s1 ⟨x,H1,I1,r1,q1⟩=>⟨x,σ,H1,I1,r1,q1⟩)
def tIfS (c:TT) (t u:TS):TS:=λD σ H=>c σ H λb H1=>if b=true then t D σ H1 else u D σ H1
def zu {c:Expr} {a b:List Stmt} {tc:TT} (hc:PT X c tc) (ha:PSs X a t) (hb:PSs X b u):PS X (.If c a b pos) (tIfS tc t u):=by
 intro pins s σ H D I h;refine wpAny_If (thn (hc pins s σ H _ I h) λd s1 ⟨H1,I1,q1⟩=>?_)
 cases d with
 | true=>exact ha pins s1 σ H1 D I1 q1
 | false=>exact hb pins s1 σ H1 D I1 q1
end
abbrev TG:=V->St->Hp->(St->Hp->Prop)->Prop
abbrev TGs:=Jm->St->Hp->(St->Hp->Prop)->Prop
def PG (X:Cx) (target:Expr) (t:TG):Prop :=
 ∀ (pins:Jb) (s:Sh) (σ:St) (H:Hp) (v:V) (u:Vl) (Q:St->Hp->Prop),Inv X pins σ H s->RelV v u->t v σ H Q ->
  wpAny (model X.prog X.w) X.A (assign target X.env u) (λ_ s'=>∃ σ' H',Inv X pins σ' H' s'/\Q σ' H') X.xe s
abbrev TIp:=V->V->Hp->VK->Prop
section
variable {X:Cx} {pos:Pos}
def gName (i:Nat):TG:=λv σ H Q=>Q (σ.set i (some v)) H
def xD {i:Nat} {x:Str} (hN:X.N.Nodup) (hi:X.N[i]?=some x) (hx:Loc X.env.scope x) (hf:X.fn x=true∨X.env.scope.names.lookup x=some .local:=by first | exact .inl rfl | exact .inr rfl | assumption):PG X (.Name x pos) (gName i):=by
 intro pins s σ H v u Q I r h;exact wpAny_assign_Name (XE I hN hi hx r (λs' I'=>⟨_,H,I',h⟩) hf)
def tAsg (te:TE) (g:TG):TS:=λD σ H=>te σ H λx H1=>g x σ H1 D.nx
def zA {i:Nat} {x:Str} {e:Expr} {te:TE} {pos':Pos} (hN:X.N.Nodup) (hi:X.N[i]?=some x) (hx:Loc X.env.scope x) (he:PE X e te) (hs:swapsWith e (some (.Name x pos')) pos.line X.env=pure false:=by rfl) (hf:X.fn x=true∨X.env.scope.names.lookup x=some .local:=by first | exact .inl rfl | exact .inr rfl | assumption) :
  PS X (.Assign [.Name x pos'] e pos) (tAsg te (gName i)):=by
 intro pins s σ H D I h;refine wpAny_Assign_Name (thn (he pins s σ H _ I h) λv s1 ⟨y,H1,I1,r1,q1⟩=>?_) hs;exact XE I1 hN hi hx r1 (λs2 I2=>⟨_,H1,I2,q1⟩) hf
inductive tWhile (c:TT) (tb:TS) (D:Ends) (σ:St) (H:Hp):Prop
 | mk (W:Nat->St->Hp->Prop) (_:(∃ m,W m σ H)) (_:∀ m σ H,W m σ H->c σ H λb H1=>if b=true then ∃ N:St->Hp->Prop,(∀ σ' H',N σ' H'->∃ m',m'<m/\W m' σ' H')/\tb { D with nx:=N,ct:=N,bk:=D.nx } σ H1 else D.nx σ H1)
def ps_while {c:Expr} {body:List Stmt} {tc:TT} {tb:TS} (hp:PassesOwn (model X.prog X.w) X.A X.env X.xe) (hc:PT X c tc) (hb:PSs X body tb):PS X (.While c body [] pos) (tWhile tc tb):=by
 intro pins s σ H D I h;obtain ⟨W,⟨m0,w0⟩,turn⟩:=h;refine wpAny_While (codeAny_whileLoop (λn s'=>∃ σ' H',Inv X pins σ' H' s'/\W n σ' H') ?_ m0 ⟨σ,H,I,w0⟩);rintro n s1 ⟨σ1,H1,I1,w1⟩;refine wpAny_passesOwn hp (thn (hc pins s1 σ1 H1 _ I1 (turn n σ1 H1 w1)) λb s2 ⟨H2,I2,q2⟩=>?_)
 cases b with
 | true =>
  obtain ⟨N,hN,q2⟩:=q2;rw [if_pos rfl];refine wpAny_passesOwn hp (thn (hb pins s2 σ1 H2 _ I2 q2) λf s3 q3=>?_)
  cases f with
  | next =>
   obtain ⟨σ3,H3,I3,n3⟩:=q3;obtain ⟨m',hm,w3⟩:=hN σ3 H3 n3;exact ⟨m',hm,σ3,H3,I3,w3⟩
  | cont =>
   obtain ⟨σ3,H3,I3,n3⟩:=q3;obtain ⟨m',hm,w3⟩:=hN σ3 H3 n3;exact ⟨m',hm,σ3,H3,I3,w3⟩
  | brk=>exact q3
  | ret v=>exact q3
 | false =>
  rw [if_neg q9z];exact wpAny_execs_nil ⟨σ1,H2,I2,q2⟩
end
structure It where
 go:Nat->Hp->Prop
 yld:Nat->Hp->V->Hp->Prop
 stop:Nat->Hp->Prop
def FpOk (X:Cx) (pins:Jb) (H:Hp) (b:Ad):Prop :=
 H b=none/\b≠X.env.locals/\b ∉ X.fs/\(b∈X.ex∨X.s₀.heap.objs.size<=b)/\(∀ x c,X.env.cells.lookup x=some c->c≠b)/\∀ p∈X.pn++pins,p.1≠b
def Inv.fpOk {X:Cx} {pins:Jb} {σ:St} {H H':Hp} {s:Sh} {b:Ad} (I:Inv X pins σ H s) (hb:s.heap.objs.size<=b) (hn:H' b=none):FpOk X pins H' b:=by
 refine ⟨hn,Nat.ne_of_gt (x0y I.lt hb),I.nofs hb,.inr (Nat.le_trans I.sz hb),λx c e z=>?_,λp hp z=>?_⟩
 ·obtain ⟨v,q⟩:=I.cell x c e
  exact absurd (x0y q.lt (by rw [z];exact hb)) (Nat.lt_irrefl _)
 ·exact absurd (x0y (Heap.lt_size (I.pin p hp).1) (by rw [z];exact hb)) (Nat.lt_irrefl _)
structure Turn (P:Program) (w:World) (K:Fg) (tg:Expr) (J:It) (fp:Jf) (it:Ad) (tn:Nat->Heap->Prop):Prop where
 mem:it∈fp
 obj:∀ i h,tn i h->∀ b∈fp,∃ o,h.get? b=some o/\∀ v,o.data≠.cell v
 keep:∀ i h h',tn i h->(∀ b∈fp,∀ o,h.get? b=some o->h'.get? b=some o)->tn i h'
 item:∀ (X:Cx),X.prog=P->X.w=w->X.K=K->X.calm=true->∀ (i:Nat) (pins:Jb) (s:Sh) (σ:St) (H:Hp) (E:J5),Inv X pins σ H s->(∀ b∈fp,FpOk X pins H b)->tn i s.heap->J.go i H ->
  wpAny (model P w) X.A (pyNext (.ref it)) (λr s1=>∃ u,r=some u /\
   wpAny (model P w) X.A (letOwnedTupleGo tg (.ref it) u) (λ_ s2=>∃ x H',Inv X pins σ H' s2/\RelV x u/\J.yld i H x H'/\tn (i+1) s2.heap/\∀ b∈fp,H' b=none) E s1) E s
 done:∀ (X:Cx),X.prog=P->X.w=w->X.K=K->X.calm=true->∀ (i:Nat) (pins:Jb) (s:Sh) (σ:St) (H:Hp) (E:J5),Inv X pins σ H s->(∀ b∈fp,FpOk X pins H b)->tn i s.heap->J.stop i H ->
  wpAny (model P w) X.A (pyNext (.ref it)) (λr s1=>r=none/\Inv X pins σ H s1) E s
 self:∀ (A:Around) (i:Nat) (s:Sh) (Q:J5) (E:J5),tn i s.heap->Q (.ref it) s->wpAny (model P w) A (pyIter (.ref it)) Q E s
abbrev TI:=St->Hp->(It->Hp->Prop)->Prop
def PIE (X:Cx) (pins:Jb) (σ:St) (tg:Expr) (R:It->Hp->Prop) (itv:Vl) (s2:Sh):Prop :=
 ∃ (it:Ad) (fp:Jf) (tn:Nat->Heap->Prop) (J:It) (H':Hp),itv=.ref it/\Inv X pins σ H' s2/\Turn X.prog X.w X.K tg J fp it tn/\tn 0 s2.heap/\(∀ b∈fp,FpOk X pins H' b)/\R J H'
def PI (X:Cx) (tg iter:Expr) (wi:TI):Prop :=
 ∀ (pins:Jb) (s:Sh) (σ:St) (H:Hp) (R:It->Hp->Prop),Inv X pins σ H s->wi σ H R ->
  wpAny (model X.prog X.w) X.A (eval iter X.env) (λv s1=>wpAny (model X.prog X.w) X.A (pyIter v) (PIE X pins σ tg R) X.xe s1) X.xe s
def go_of {M:Model} {A:Around} {E:J5} {s:Sh} {tg:Expr} {it:Ad} {u:Vl} {o:Obj} {n:String} {vs:Array Vl} {Q:Unit->Sh->Prop} (ho:s.heap.get? it=some o) (hc:o.cls=.type n) (hd:o.data=.fields vs)
    (hn:["enumerate","zip","dict_itemiterator","dict_reverseitemiterator","odict_iterator","itertools.zip_longest","itertools.pairwise"].contains n=false) (hQ:Q () s):wpAny M A (letOwnedTupleGo tg (.ref it) u) Q E s:=by
  unfold letOwnedTupleGo;cases tg <;> first
    | exact q0y hQ
    | (cases u <;> first
        | exact q0y hQ
        | (refine q0x (wpAny_load ho ?_)
           rw [hc,hd];show wpAny M A (if (["enumerate","zip","dict_itemiterator","dict_reverseitemiterator","odict_iterator","itertools.zip_longest","itertools.pairwise"].contains n && vs[0]? == some (rawInt _))=true then _ else _) Q E s;rw [if_neg (by intro h;rw [hn,Bool.false_and] at h;cases h)];exact q0y hQ))
def Itl (K:Fg) (a:Ad):It :=
 ⟨λi H=>∃ xs x,SqL K H a xs/\xs[i]?=some x,λi H x H'=>H'=H/\∀ xs,SqL K H a xs->xs[i]?=some x,λi H=>∃ xs,SqL K H a xs/\xs.length<=i⟩
def Itt (K:Fg) (a:Ad):It :=
 ⟨λi H=>∃ xs x,SqT K H a xs/\xs[i]?=some x,λi H x H'=>H'=H/\∀ xs,SqT K H a xs->xs[i]?=some x,λi H=>∃ xs,SqT K H a xs/\xs.length<=i⟩
def Itr (lo:Int) (n:Nat):It:=⟨λi _=>i<n,λi H x H'=>H'=H/\x=.int (lo+i),λi _=>n<=i⟩
def turn_list {P:Program} {w:World} {K:Fg} {tg:Expr} (a it:Ad):Turn P w K tg (Itl K a) [it] it (λi h=>h.IsListIter it a i) where
 mem:=by simp
 obj:=λi h st b hb=>by
  have e:b=it:=by simpa using hb
  subst e;obtain ⟨o,e,c,d⟩:=st;exact ⟨o,e,λv z=>by rw [d] at z;cases z⟩
 keep:=λi h h' st k=>st.at λo e=>k it (by simp) o e
 item:=by
  intro X hP hw hK hc i pins s σ H E I hf st hg;subst hP hw hK;obtain ⟨xs,x,hq,hx⟩:=hg;obtain ⟨its,rv,p,hz⟩:=I.list hq;obtain ⟨u,hu,ru⟩:=rv.get hx;obtain ⟨f0,f1,f2,f3,f4,f5⟩:=hf it (by simp);refine wpAny_pyNext_list_item st p.isList (x:=u) (by simpa using hu) λh' st' sb=>?_;have I1:Inv X pins σ H { s with heap:=h' }:=I.turned (t':=s.toks) (λb o hb e=>(sb.2 b hb).trans e) f0 f1 f3 f4 f5;obtain ⟨o,e,c,d⟩:=id st';exact ⟨u,rfl,go_of (s:={ s with heap:=h' }) e c d (by decide) ⟨x,H,I1,ru,⟨rfl,λys hy=>by rw [I.list_inj hy hq];exact hx⟩,st',λb hb=>(hf b hb).1⟩⟩
 done:=by
  intro X hP hw hK hc i pins s σ H E I hf st hg;subst hP hw hK;obtain ⟨xs,hq,hx⟩:=hg;obtain ⟨its,rv,p,hz⟩:=I.list hq;obtain ⟨f0,f1,f2,f3,f4,f5⟩:=hf it (by simp);have hl:=rv.length;exact wpAny_pyNext_list_end (I.ok.hd hc) st p.isList (by simp;omega) λh' eb=>⟨rfl,I.turned (t':=s.toks) (λb o hb e=>eb b o hb e) f0 f1 f3 f4 f5⟩
 self:=λ_ _ _ _ _ st h=>wpAny_pyIter_listiter st h
def X3 {P:Program} {w:World} {K:Fg} {tg:Expr} (it:Ad) (lo:Int) (n:Nat):Turn P w K tg (Itr lo n) [it] it (λi h=>IsRangeIter h it (lo+(i:Nat)*1) ((n:Int)-(i:Nat)) 1) where
 mem:=by simp
 obj:=λi h st b hb=>by
  have e:b=it:=by simpa using hb
  subst e
  exact ⟨_,st,λv z=>by
   have z':Data.fields _=Data.cell v:=z;cases z'⟩
 keep:=λi h h' st k=>k it (by simp) _ st
 item:=by
  intro X hP hw hK hc i pins s σ H E I hf st hg;subst hP hw hK;obtain ⟨f0,f1,f2,f3,f4,f5⟩:=hf it (by simp);have W:=Walks.range (prog:=X.prog) (w:=X.w) (I.ok.hd hc) it lo 1 n;refine W.item i s _ _ hg st λv h' tk hv st' kk=>?_;obtain ⟨t,rfl⟩:=hv;have I1:Inv X pins σ H { s with heap:=h',toks:=tk }:=I.turned (λb o hb e=>kk b o (by simpa using hb) e) f0 f1 f3 f4 f5;refine ⟨_,rfl,go_of (s:={ s with heap:=h',toks:=tk }) (n:="range_iterator") st' rfl rfl (by decide) ⟨.int (lo+i),H,I1,⟨t,?_⟩,⟨rfl,rfl⟩,st',λb hb=>(hf b hb).1⟩⟩;rw [Int.mul_one]
 done:=by
  intro X hP hw hK hc i pins s σ H E I hf st hg;subst hP hw hK;obtain ⟨f0,f1,f2,f3,f4,f5⟩:=hf it (by simp);exact wpAny_pyNext_range_end (I.ok.hd hc) st (by have:n<=i:=hg;omega) λh' eb=>⟨rfl,I.turned (t':=s.toks) (λb o hb e=>eb b o hb e) f0 f1 f3 f4 f5⟩
 self:=λ_ _ _ _ _ st h=>wpAny_pyIter_rangeiter st h
section
variable {X:Cx} {tg:Expr}
inductive iList_S (K:Fg) (R:(It->Hp->Prop)) (x:V) (H1:Hp):Prop
 | mk (a:_) (_:x=.ref a) (_:(∃ xs,SqL K H1 a xs)) (_:R (Itl K a) H1)
def iList (K:Fg) (tl:TE):TI:=λσ H R=>tl σ H λx H1=>iList_S K R x H1
def Zl {l:Expr} {tl:TE} (hl:PE X l tl):PI X tg l (iList X.K tl):=by
 intro pins s σ H R I h;refine thn (hl pins s σ H _ I h) λv s1 ⟨x,H1,I1,r1,q1⟩=>?_;obtain ⟨a,e,⟨xs,hq⟩,q⟩:=q1;subst e;cases r1;obtain ⟨its,rv,p,hz⟩:=I1.list hq;refine wpAny_pyIter_list p.isList ?_;refine ⟨s1.heap.objs.size,[s1.heap.objs.size],_,_,H1,rfl,I1.kept (t':=s1.toks) λb o e=>Heap.get?_push_of_some _ e,turn_list a _,⟨_,Heap.get?_push_size _ rfl,rfl,rfl⟩,λb hb=>?_,q⟩;have e:b=s1.heap.objs.size:=by simpa using hb
 subst e;exact I1.fpOk (Nat.le_refl _) (I1.hok.fresh (Nat.le_refl _))
def range_it {pins:Jb} {σ:St} {H:Hp} {s:Sh} {R:It->Hp->Prop} {E:J5} {lo hi:Int} {t u v:Tok} {tk:Nat} (I:Inv X pins σ H s) (h1:-(2 ^ 62)<=lo) (h2:lo<2 ^ 62) (h3:-(2 ^ 62)<=hi) (h4:hi<2 ^ 62)
  (q:R (Itr lo (hi-lo).toNat) H):wpAny (model X.prog X.w) X.A (pyIter (.ref s.heap.objs.size)) (PIE X pins σ tg R) E { s with heap:=s.heap.push { cls:=.type "range",data:=.fields #[.int lo t,.int hi u,.int 1 v] },toks:=tk }:=by
 refine wpAny_pyIter_range (IsRange.new ..) (small_one h1 h2 h3 h4) ?_;have I1:Inv X pins σ H { s with heap:=s.heap.push { cls:=.type "range",data:=.fields #[.int lo t,.int hi u,.int 1 v] },toks:=tk }:=I.kept λb o e=>Heap.get?_push_of_some _ e
 refine ⟨(s.heap.push { cls:=.type "range",data:=.fields #[.int lo t,.int hi u,.int 1 v] }).objs.size,[(s.heap.push { cls:=.type "range",data:=.fields #[.int lo t,.int hi u,.int 1 v] }).objs.size],_,_,H,rfl,
  I1.kept (t':=tk) λb o e=>Heap.get?_push_of_some _ e,X3 _ lo (hi-lo).toNat,?_,λb hb=>?_,q⟩
 ·have e1:lo+((0:Nat):Int)*1=lo:=by simp
  have e2:(((hi-lo).toNat:Nat):Int)-((0:Nat):Int)=Builtin.Range.rangeSize lo hi 1:=by rw [rangeSize_one];split <;> omega
  show IsRangeIter _ _ (lo+((0:Nat):Int)*1) ((((hi-lo).toNat:Nat):Int)-((0:Nat):Int)) 1;rw [e1,e2];exact Heap.get?_push_size _ rfl
 ·have e:b=(s.heap.push { cls:=.type "range",data:=.fields #[.int lo t,.int hi u,.int 1 v] }).objs.size:=by simpa using hb
  subst e;exact I1.fpOk (Nat.le_refl _) (I1.hok.fresh (Nat.le_refl _))
inductive iRng1_S (R:(It->Hp->Prop)) (vs:Jm) (H1:Hp):Prop
 | mk (j:Int) (_:vs=[.int j]) (_:-(2 ^ 62)<=j) (_:j<2 ^ 62) (_:R (Itr 0 j.toNat) H1)
def iRng1 (ta:TA):TI:=λσ H R=>ta σ H λvs H1=>iRng1_S R vs H1
def YQ {a:Expr} {ta:TA} {p pos:Pos} (hg:Gl X "range") (hm:X.mg "range"=none) (ha:PA X [a] ta) (hs:starEach [a] X.env=[(false,eval a X.env)]:=by rfl):PI X tg (.Call (.Name "range" p) [a] [] pos) (iRng1 ta):=by
 intro pins s σ H R I h;refine Call_ (Xm I hg hm boot_range (PyProof.Rows.callWith_type1 (thn (ha pos pins s σ H _ I h) λus s1 ⟨vs,H1,I1,r1,q1⟩=>?_) hs rfl));obtain ⟨j,e,q1,q2,q⟩:=q1;subst e
 cases r1 with
 | cons r rr =>
  cases rr;obtain ⟨t,rfl⟩:=r;exact call_range_1 (range_it I1 (by omega) (by omega) q1 q2 (by simpa using q))
inductive tFor_S (g:TG) (tb:TS) (D:Ends) (σ:St) (J:It) (H1:Hp):Prop
 | mk (W:Nat->Nat->St->Hp->Prop) (_:(∃ m,W 0 m σ H1)) (_:∀ i m σ H,W i m σ H->(J.stop i H/\D.nx σ H)∨(J.go i H/\∃ N:St->Hp->Prop,(∀ σ' H',N σ' H'->∃ m',m'<m/\W (i+1) m' σ' H')/\∀ x H',J.yld i H x H'->g x σ H' λσ2 H2=>tb { D with nx:=N,ct:=N,bk:=D.nx } σ2 H2))
def tFor (wi:TI) (g:TG) (tb:TS):TS:=λD σ H=>wi σ H λJ H1=>tFor_S g tb D σ J H1
def Xh (fp:Jf) (h:Heap):Jb:=fp.filterMap λb=>(h.get? b).map λo=>(b,o)
def Zn {fp:Jf} {h:Heap} {b:Ad} {o:Obj} (hb:b∈fp) (e:h.get? b=some o):(b,o)∈Xh fp h:=List.mem_filterMap.mpr ⟨b,hb,by rw [e];rfl⟩
def of_pinsAt {fp:Jf} {h:Heap} {p:Ad×Obj} (hp:p∈Xh fp h):p.1∈fp/\h.get? p.1=some p.2:=by
 obtain ⟨b,hb,e⟩:=List.mem_filterMap.mp hp
 cases q:h.get? b with
 | none=>rw [q] at e;cases e
 | some o =>
  rw [q] at e;have e':(b,o)=p:=Option.some.inj e;subst e';exact ⟨hb,q⟩
def Inv.pinned {pins:Jb} {σ:St} {H:Hp} {s:Sh} {fp:Jf} (I:Inv X pins σ H s) (hf:∀ b∈fp,FpOk X pins H b) (ho:∀ b∈fp,∃ o,s.heap.get? b=some o/\∀ v,o.data≠.cell v):Inv X (pins++Xh fp s.heap) σ H s :=
 I.pins_of λp hp=>(List.mem_append.mp hp).elim (λz=>I.pin p (x0x _ z)) λz=>by
  obtain ⟨hb,e⟩:=of_pinsAt z;obtain ⟨f0,f1,f2,_⟩:=hf p.1 hb;obtain ⟨o,e',d⟩:=ho p.1 hb;rw [e] at e';cases e';exact ⟨e,f0,f1,f2,d⟩
def Inv.unpinned {pins pl:Jb} {σ:St} {H:Hp} {s:Sh} (I:Inv X (pins++pl) σ H s):Inv X pins σ H s:=I.pins_of λp hp=>I.pin p (x0x _ (List.mem_append_left _ hp))
def ZK {iter:Expr} {body:List Stmt} {wi:TI} {g:TG} {tb:TS} {pos:Pos} (hp:PassesOwn (model X.prog X.w) X.A X.env X.xe) (hc:X.calm=true) (hi:PI X tg iter wi) (hg:PG X tg g) (hb:PSs X body tb)
  (hs:∀ x,foldedSetIterable iter X.env x=pure x:=by intro _;rfl):PS X (.For tg iter body [] pos) (tFor wi g tb):=by
 intro pins s σ H D I h;refine wpAny_For (thn (hi pins s σ H _ I h) λv s1 h1=>thn h1 λitv s2 h2=>?_) hs;obtain ⟨it,fp,tn,J,H2,e,I2,T,st2,f2,W,⟨m0,w0⟩,turn⟩:=h2;subst e;have stat:∀ {H':Hp},(∀ b∈fp,H' b=none)->∀ b∈fp,FpOk X pins H' b:=λhn b hb=>⟨hn b hb,(f2 b hb).2⟩;refine codeAny_forLoop_any (λn s'=>∃ i σ' H',Inv X pins σ' H' s'/\tn i s'.heap/\(∀ b∈fp,H' b=none)/\W i n σ' H') ?_ m0 ⟨0,σ,H2,I2,st2,λb hb=>(f2 b hb).1,w0⟩;rintro n s3 ⟨i,σ3,H3,I3,st3,fr3,w3⟩;rcases turn i n σ3 H3 w3 with ⟨stop,qn⟩ | ⟨go,N,hN,step⟩
 ·refine wpAny_passesOwn hp (thn (T.done X rfl rfl rfl hc i pins s3 σ3 H3 X.xe I3 (stat fr3) st3 stop) λr s4 ⟨hr,I4⟩=>?_)
  subst hr;exact wpAny_execs_nil ⟨σ3,H3,I4,qn⟩
 ·refine wpAny_passesOwn hp (thn (T.item X rfl rfl rfl hc i pins s3 σ3 H3 X.xe I3 (stat fr3) st3 go) λr s4 ⟨u,hr,h4⟩=>?_)
  subst hr;refine wpAny_passesOwn hp (thn h4 λ_ s5 ⟨x,H5,I5,r5,y5,st5,fr5⟩=>?_);have I5':=I5.pinned (stat fr5) (T.obj _ _ st5);refine wpAny_passesOwn hp (thn (hg _ s5 σ3 H5 x u _ I5' r5 (step x H5 y5)) λ_ s6 ⟨σ6,H6,I6,q6⟩=>?_);refine wpAny_passesOwn hp (thn (hb _ s6 σ6 H6 _ I6 q6) λf s7 q7=>?_)
  have again:∀ {σ7:St} {H7:Hp},Inv X (pins++Xh fp s5.heap) σ7 H7 s7->N σ7 H7->∃ m,m<n/\∃ i σ' H',Inv X pins σ' H' s7/\tn i s7.heap/\(∀ b∈fp,H' b=none)/\W i m σ' H':=λ{σ7 H7} I7 n7=>by
   obtain ⟨m',hm,w7⟩:=hN σ7 H7 n7;refine ⟨m',hm,i+1,σ7,H7,I7.unpinned,T.keep _ _ _ st5 λb hb o e=>(I7.pin (b,o) (x0x _ (x0x _ (Zn hb e)))).1,λb hb=>?_,w7⟩;obtain ⟨o,e,d⟩:=T.obj _ _ st5 b hb;exact (I7.pin (b,o) (x0x _ (x0x _ (Zn hb e)))).2.1
  cases f with
  | next=>obtain ⟨σ7,H7,I7,n7⟩:=q7;exact again I7 n7
  | cont=>obtain ⟨σ7,H7,I7,n7⟩:=q7;exact again I7 n7
  | brk=>obtain ⟨σ7,H7,I7,q7⟩:=q7;exact ⟨σ7,H7,I7.unpinned,q7⟩
  | ret v=>obtain ⟨x7,σ7,H7,I7,r7,q7⟩:=q7;exact ⟨x7,σ7,H7,I7.unpinned,r7,q7⟩
end
def Zw {K:Fg} {a:Ad} {xs:Jm} {g:TG} {tb:TS} {D:Ends} {σ:St} {H:Hp} (Pv:Nat->St->Hp->Prop) (h0:Pv 0 σ H) (hl:∀ i σ H,i<=xs.length->Pv i σ H->SqL K H a xs)
  (hs:∀ i x σ H,xs[i]?=some x->Pv i σ H->g x σ H λσ2 H2=>tb { D with nx:=Pv (i+1),ct:=Pv (i+1),bk:=D.nx } σ2 H2) (hd:∀ σ H,Pv xs.length σ H->D.nx σ H) :
  tFor_S g tb D σ (Itl K a) H:=by
 refine ⟨λi m σ H=>m=xs.length-i/\i<=xs.length/\Pv i σ H,⟨xs.length,by simp,Nat.zero_le _,h0⟩,?_⟩;rintro i m σ H ⟨rfl,hi,p⟩;have q:=hl i σ H hi p;by_cases hlt:i<xs.length
 ·refine .inr ⟨⟨xs,xs[i],q,by simp [hlt]⟩,Pv (i+1),λσ' H' p'=>⟨xs.length-(i+1),by omega,rfl,hlt,p'⟩,λx H' y=>?_⟩
  obtain ⟨e,y⟩:=y;subst e;exact hs i x σ _ (y xs q) p
 ·have e:i=xs.length:=by omega
  subst e;exact .inl ⟨⟨xs,q,Nat.le_refl _⟩,hd σ H p⟩
def YX {lo:Int} {n:Nat} {g:TG} {tb:TS} {D:Ends} {σ:St} {H:Hp} (Pv:Nat->St->Hp->Prop) (h0:Pv 0 σ H)
  (hs:∀ i σ H,i<n->Pv i σ H->g (.int (lo+i)) σ H λσ2 H2=>tb { D with nx:=Pv (i+1),ct:=Pv (i+1),bk:=D.nx } σ2 H2) (hd:∀ σ H,Pv n σ H->D.nx σ H) :
  tFor_S g tb D σ (Itr lo n) H:=by
 refine ⟨λi m σ H=>m=n-i/\i<=n/\Pv i σ H,⟨n,by simp,Nat.zero_le _,h0⟩,?_⟩;rintro i m σ H ⟨rfl,hi,p⟩;by_cases hlt:i<n
 ·refine .inr ⟨hlt,Pv (i+1),λσ' H' p'=>⟨n-(i+1),by omega,rfl,hlt,p'⟩,λx H' y=>?_⟩
  obtain ⟨e,y⟩:=y;subst e y;exact hs i σ _ hlt p
 ·have e:i=n:=by omega
  subst e;exact .inl ⟨Nat.le_refl _,hd σ H p⟩
abbrev R2:=V->V->Hp->VK->Prop
def OpR (X:Cx) (f:Vl->Vl->Sem Vl) (r:R2):Prop :=
 ∀ (pins:Jb) (s:Sh) (σ:St) (H:Hp) (x y:V) (v u:Vl) (Q:VK),Inv X pins σ H s->RelV x v->RelV y u->r x y H Q ->
  wpAny (model X.prog X.w) X.A (f v u) (EP X pins σ Q) X.xe s
def UnR (X:Cx) (f:Vl->Sem Vl) (r:V->Hp->VK->Prop):Prop :=
 ∀ (pins:Jb) (s:Sh) (σ:St) (H:Hp) (x:V) (v:Vl) (Q:VK),Inv X pins σ H s->RelV x v->r x H Q ->
  wpAny (model X.prog X.w) X.A (f v) (EP X pins σ Q) X.xe s
def ZI (X:Cx) (f:Vl) (r:Jm->Hp->VK->Prop):Prop :=
 ∀ (pins:Jb) (s:Sh) (σ:St) (H:Hp) (xs:Jm) (us:Jc) (Q:VK),Inv X pins σ H s->Vals xs us->r xs H Q ->
  wpAny (model X.prog X.w) X.A (call f us) (EP X pins σ Q) X.xe s
def tOp (r:R2) (ta tb:TE):TE:=λσ H Q=>ta σ H λx H1=>tb σ H1 λy H2=>r x y H2 Q
def tUn (r:V->Hp->VK->Prop) (ta:TE):TE:=λσ H Q=>ta σ H λx H1=>r x H1 Q
inductive rI (C:Int->Int->Prop) (g:Int->Int->V) (x y:V) (H:Hp) (Q:VK):Prop
 | mk (i j:_) (_:x=.int i) (_:y=.int j) (_:C i j) (_:Q (g i j) H)
inductive rI0 (g:Int->Int->V) (x y:V) (H:Hp) (Q:VK):Prop
 | mk (i j:_) (_:x=.int i) (_:y=.int j) (_:Q (g i j) H)
inductive rU (g:Int->V) (x:V) (H:Hp) (Q:VK):Prop
 | mk (i:_) (_:x=.int i) (_:Q (g i) H)
section
variable {X:Cx} {a b c:Expr} {ta tb tc:TE} {pos:Pos}
def binT (ha:PE X a ta) (hb:PE X b tb) {pins:Jb} {s:Sh} {σ:St} {H:Hp} {R:V->V->Hp->Prop} (I:Inv X pins σ H s)
  (h:ta σ H λx H1=>tb σ H1 λy H2=>R x y H2) {Q:J5} {f:Vl->Vl->Sem Vl}
  (hf:∀ v u s2 x y H2,Inv X pins σ H2 s2->RelV x v->RelV y u->R x y H2->wpAny (model X.prog X.w) X.A (f v u) Q X.xe s2) :
  wpAny (model X.prog X.w) X.A (eval a X.env) (λv s₁=>wpAny (model X.prog X.w) X.A (eval b X.env) (λu s₂=>wpAny (model X.prog X.w) X.A (f v u) Q X.xe s₂) X.xe s₁) X.xe s:=by
 refine thn (ha pins s σ H _ I h) λv s1 ⟨x,H1,I1,r1,q1⟩=>?_;refine thn (hb pins s1 σ H1 _ I1 q1) λu s2 ⟨y,H2,I2,r2,q2⟩=>?_;exact hf v u s2 x y H2 I2 r1 r2 q2
def zr {op:Operator} {r:R2} (ho:OpR X (binaryOp op) r) (ha:PE X a ta) (hb:PE X b tb):PE X (.BinOp a op b pos) (tOp r ta tb):=by
 intro pins s σ H Q I h;exact wpAny_BinOp (binT ha hb I h λv u s2 x y H2 I2 rx ry q=>ho pins s2 σ H2 x y v u Q I2 rx ry q)
def pe_un {op:UnaryOp} {r:V->Hp->VK->Prop} (ho:UnR X (unaryOp op) r) (ha:PE X a ta):PE X (.UnaryOp op a pos) (tUn r ta):=by
 intro pins s σ H Q I h;exact UnaryOp_ (thn (ha pins s σ H _ I h) λv s1 ⟨x,H1,I1,r1,q1⟩=>ho pins s1 σ H1 x v Q I1 r1 q1)
def opI {f:Vl->Vl->Sem Vl} {C:Int->Int->Prop} {g:Int->Int->Int}
  (rule:∀ (i j:Int) (t u:Tok) (s:Sh) (Q:J5) (E:J5),C i j->Q (.int (g i j) s.toks) { s with toks:=s.toks+1 }->wpAny (model X.prog X.w) X.A (f (.int i t) (.int j u)) Q E s) :
  OpR X f (rI C λi j=>.int (g i j)):=by
 intro pins s σ H x y v u Q I rx ry h;obtain ⟨i,j,rfl,rfl,hc,q⟩:=h;obtain ⟨t,rfl⟩:=rx;obtain ⟨t',rfl⟩:=ry;exact rule i j t t' s _ _ hc ⟨.int (g i j),H,I.tok _,⟨_,rfl⟩,q⟩
def opI0 {f:Vl->Vl->Sem Vl} {g:Int->Int->Int}
  (rule:∀ (i j:Int) (t u:Tok) (s:Sh) (Q:J5) (E:J5),Q (.int (g i j) s.toks) { s with toks:=s.toks+1 }->wpAny (model X.prog X.w) X.A (f (.int i t) (.int j u)) Q E s) :
  OpR X f (rI0 λi j=>.int (g i j)):=by
 intro pins s σ H x y v u Q I rx ry h;obtain ⟨i,j,rfl,rfl,q⟩:=h;obtain ⟨t,rfl⟩:=rx;obtain ⟨t',rfl⟩:=ry;exact rule i j t t' s _ _ ⟨.int (g i j),H,I.tok _,⟨_,rfl⟩,q⟩
def opB0 {f:Vl->Vl->Sem Vl} {g:Int->Int->Bool}
  (rule:∀ (i j:Int) (t u:Tok) (s:Sh) (Q:J5) (E:J5),Q (.bool (g i j)) s->wpAny (model X.prog X.w) X.A (f (.int i t) (.int j u)) Q E s) :
  OpR X f (rI0 λi j=>.bl (g i j)):=by
 intro pins s σ H x y v u Q I rx ry h;obtain ⟨i,j,rfl,rfl,q⟩:=h;obtain ⟨t,rfl⟩:=rx;obtain ⟨t',rfl⟩:=ry;exact rule i j t t' s _ _ ⟨.bl (g i j),H,I,rfl,q⟩
def CDiv (i j:Int):Prop:=0<j/\j<1073741824
def CMul (i j:Int):Prop:=(-(2 ^ 64)<i/\i<2 ^ 64)∨(-(2 ^ 64)<j/\j<2 ^ 64)
def CMul.ok {i j:Int} (h:CMul i j):IntMulOk i j:=by
 rcases h with ⟨h1,h2⟩ | ⟨h1,h2⟩
 ·exact .of_left (intBits_le_64 h1 h2)
 ·exact .of_right (intBits_le_64 h1 h2)
def zZ:OpR X (binaryOp .Add) (rI0 λi j=>.int (i+j)):=opI0 λ_ _ _ _ _ _ _ q=>add_int q
def yM:OpR X (binaryOp .Sub) (rI0 λi j=>.int (i-j)):=opI0 λ_ _ _ _ _ _ _ q=>sub_int q
def Zm:OpR X (binaryOp .Mult) (rI CMul λi j=>.int (i*j)):=opI λ_ _ _ _ _ _ _ hc q=>mul_int q hc.ok
def yg:OpR X (binaryOp .FloorDiv) (rI CDiv λi j=>.int (i / j)):=opI λi j _ _ _ _ _ hc q=>by
 have h1:(0:Int)<j:=hc.1;have h2:j<1073741824:=hc.2;exact floordiv_int (by omega) (by rw [Int.fdiv_eq_ediv_of_nonneg i (by omega)];exact q) (.inl (PyProof.noPylong_small (by omega)))
def yc:OpR X (binaryOp .Mod) (rI (λ_ j=>0<j) λi j=>.int (i % j)):=opI λi j _ _ _ _ _ hc q=>by
 have h1:(0:Int)<j:=hc;exact mod_int' (by omega) (by rw [Int.fmod_eq_emod_of_nonneg i (by omega)];exact q)
def unI {f:Vl->Sem Vl} {g:Int->Int}
  (rule:∀ (i:Int) (t:Tok) (s:Sh) (Q:J5) (E:J5),Q (.int (g i) s.toks) { s with toks:=s.toks+1 }->wpAny (model X.prog X.w) X.A (f (.int i t)) Q E s) :
  UnR X f (rU λi=>.int (g i)):=by
 intro pins s σ H x v Q I rx h;obtain ⟨i,rfl,q⟩:=h;obtain ⟨t,rfl⟩:=rx;exact rule i t s _ _ ⟨.int (g i),H,I.tok _,⟨_,rfl⟩,q⟩
def un_neg:UnR X (unaryOp .USub) (rU λi=>.int (-i)):=unI λ_ _ _ _ _ q=>neg_int q
end
def scal:V->V->Bool
 | .non,.non=>true | .non,.int _=>true | .int _,.non=>true | .non,.bl _=>true | .bl _,.non=>true | .non,.str _=>true | .str _,.non=>true
 | .int _,.int _=>true | .bl _,.bl _=>true | .str _,.str _=>true | .byt _,.byt _=>true
 | .int _,.str _=>true | .str _,.int _=>true | .bl _,.str _=>true | .str _,.bl _=>true
 | _,_=>false
def rEq:R2:=λx y H Q=>scal x y=true/\Q (.bl (decide (x=y))) H
def rNe:R2:=λx y H Q=>scal x y=true/\Q (.bl (!decide (x=y))) H
def dec_int {i j:Int}:decide (V.int i=V.int j)=(i == j):=by
 rw [Bool.eq_iff_iff];simp
def dec_bl {i j:Bool}:decide (V.bl i=V.bl j)=(i == j):=by
 rw [Bool.eq_iff_iff];simp
def dec_str {i j:Str}:decide (V.str i=V.str j)=(i == j):=by
 rw [Bool.eq_iff_iff];simp
def dec_byt {i j:Array UInt8}:decide (V.byt i=V.byt j)=(i.toList == j.toList):=by
 rw [Bool.eq_iff_iff];cases i;cases j;simp
section
variable {X:Cx} {a b c:Expr} {ta tb tc:TE} {pos:Pos}
def ye {pins:Jb} {σ:St} {H:Hp} {s:Sh} {Q:VK} {k k':Bool} (I:Inv X pins σ H s) (q:Q (.bl k) H) (e:k=k'):EP X pins σ Q (.bool k') s:=by
 subst e;exact ⟨.bl k,H,I,rfl,q⟩
def zx:OpR X (compareOp .Eq) rEq:=by
 intro pins s σ H x y v u Q I rx ry h;obtain ⟨hs,q⟩:=h
 cases x with
 | non =>
  cases rx
  cases y with
  | non=>cases ry;exact PySem.EqNone.eq_none_none (ye I q (by simp))
  | bl j=>cases ry;exact PySem.EqNone.eq_none_bool (ye I q (by simp))
  | int j=>obtain ⟨t',rfl⟩:=ry;exact PySem.EqNone.eq_none_int (ye I q (by simp))
  | str j=>obtain ⟨t',rfl⟩:=ry;exact PySem.EqNone.eq_none_str (ye I q (by simp))
  | _=>exact absurd (show false=true from hs) q9z
 | bl i =>
  cases rx
  cases y with
  | non=>cases ry;exact PySem.EqNone.eq_bool_none (ye I q (by simp))
  | bl j=>cases ry;exact eq_bool (ye I q dec_bl)
  | str j=>obtain ⟨t',rfl⟩:=ry;exact PySem.EqMixed.eq_bool_str (ye I q (by simp))
  | _=>exact absurd (show false=true from hs) q9z
 | int i =>
  obtain ⟨t,rfl⟩:=rx
  cases y with
  | non=>cases ry;exact PySem.EqNone.eq_int_none (ye I q (by simp))
  | int j=>obtain ⟨t',rfl⟩:=ry;exact eq_int (ye I q dec_int)
  | str j=>obtain ⟨t',rfl⟩:=ry;exact PySem.EqMixed.eq_int_str (ye I q (by simp))
  | _=>exact absurd (show false=true from hs) q9z
 | str i =>
  obtain ⟨t,rfl⟩:=rx
  cases y with
  | non=>cases ry;exact PySem.EqNone.eq_str_none (ye I q (by simp))
  | bl j=>cases ry;exact PySem.EqMixed.eq_str_bool (ye I q (by simp))
  | int j=>obtain ⟨t',rfl⟩:=ry;exact PySem.EqMixed.eq_str_int (ye I q (by simp))
  | str j=>obtain ⟨t',rfl⟩:=ry;exact eq_str (ye I q dec_str)
  | _=>exact absurd (show false=true from hs) q9z
 | byt i =>
  obtain ⟨t,rfl⟩:=rx
  cases y with
  | byt j=>obtain ⟨t',rfl⟩:=ry;exact PySem.W.eq_bytes (ye I q dec_byt)
  | _=>exact absurd (show false=true from hs) q9z
 | _=>cases y <;> exact absurd (show false=true from hs) q9z
def YR:OpR X (compareOp .NotEq) rNe:=by
 intro pins s σ H x y v u Q I rx ry h;obtain ⟨hs,q⟩:=h
 cases x with
 | non =>
  cases rx
  cases y with
  | non=>cases ry;exact PySem.EqNone.ne_none_none (ye I q (by simp))
  | bl j=>cases ry;exact PySem.EqNone.ne_none_bool (ye I q (by simp))
  | int j=>obtain ⟨t',rfl⟩:=ry;exact PySem.EqNone.ne_none_int (ye I q (by simp))
  | str j=>obtain ⟨t',rfl⟩:=ry;exact PySem.EqNone.ne_none_str (ye I q (by simp))
  | _=>exact absurd (show false=true from hs) q9z
 | bl i =>
  cases rx
  cases y with
  | non=>cases ry;exact PySem.EqNone.ne_bool_none (ye I q (by simp))
  | bl j=>cases ry;exact ne_bool (ye I q (congrArg not dec_bl))
  | str j=>obtain ⟨t',rfl⟩:=ry;exact PySem.EqMixed.ne_bool_str (ye I q (by simp))
  | _=>exact absurd (show false=true from hs) q9z
 | int i =>
  obtain ⟨t,rfl⟩:=rx
  cases y with
  | non=>cases ry;exact PySem.EqNone.ne_int_none (ye I q (by simp))
  | int j=>obtain ⟨t',rfl⟩:=ry;exact ne_int (ye I q (congrArg not dec_int))
  | str j=>obtain ⟨t',rfl⟩:=ry;exact PySem.EqMixed.ne_int_str (ye I q (by simp))
  | _=>exact absurd (show false=true from hs) q9z
 | str i =>
  obtain ⟨t,rfl⟩:=rx
  cases y with
  | non=>cases ry;exact PySem.EqNone.ne_str_none (ye I q (by simp))
  | bl j=>cases ry;exact PySem.EqMixed.ne_str_bool (ye I q (by simp))
  | int j=>obtain ⟨t',rfl⟩:=ry;exact PySem.EqMixed.ne_str_int (ye I q (by simp))
  | str j=>obtain ⟨t',rfl⟩:=ry;exact ne_str (ye I q (congrArg not dec_str))
  | _=>exact absurd (show false=true from hs) q9z
 | byt i =>
  obtain ⟨t,rfl⟩:=rx
  cases y with
  | byt j=>obtain ⟨t',rfl⟩:=ry;exact PySem.W.ne_bytes (ye I q (congrArg not dec_byt))
  | _=>exact absurd (show false=true from hs) q9z
 | _=>cases y <;> exact absurd (show false=true from hs) q9z
def yd:OpR X (compareOp .Lt) (rI0 λi j=>.bl (decide (i<j))):=opB0 λ_ _ _ _ _ _ _ q=>lt_int q
def z9:OpR X (compareOp .LtE) (rI0 λi j=>.bl (decide (i<=j))):=opB0 λ_ _ _ _ _ _ _ q=>le_int q
def YS:OpR X (compareOp .Gt) (rI0 λi j=>.bl (decide (j<i))):=opB0 λ_ _ _ _ _ _ _ q=>gt_int q
def op_isN:OpR X (compareOp .Is) (λx y H Q=>y=.non/\Q (.bl (decide (x=.non))) H):=by
 intro pins s σ H x y v u Q I rx ry h;obtain ⟨rfl,q⟩:=h;cases ry;refine is_none_gen (ye I q ?_);cases x <;> first
  | (cases rx;rfl)
  | (obtain ⟨t,rfl⟩:=rx;rfl)
def op_notN:OpR X (compareOp .IsNot) (λx y H Q=>y=.non/\Q (.bl (!decide (x=.non))) H):=by
 intro pins s σ H x y v u Q I rx ry h;obtain ⟨rfl,q⟩:=h;cases ry;refine isnot_none_gen (ye I q ?_);cases x <;> first
  | (cases rx;rfl)
  | (obtain ⟨t,rfl⟩:=rx;rfl)
def zo (b:Expr) {op:CmpOp} (h:op≠.In:=by decide) (h2:op≠.NotIn:=by decide):behindInMarks op b=false:=by
 have e1:(op == CmpOp.In)=false:=by cases op <;> first | rfl | exact absurd rfl h
 have e2:(op == CmpOp.NotIn)=false:=by cases op <;> first | rfl | exact absurd rfl h2
 cases b <;> simp [behindInMarks,e1,e2]
def yn {op:CmpOp} {r:R2} (ho:OpR X (compareOp op) r) (ha:PE X a ta) (hb:PE X b tb) (hm:behindInMarks op b=false):PE X (.Compare a [op] [b] pos) (tOp r ta tb):=by
 intro pins s σ H Q I h;exact wpAny_Compare1 (binT ha hb I h λv u s2 x y H2 I2 rx ry q=>ho pins s2 σ H2 x y v u Q I2 rx ry q) hm
inductive tTest_S (Q:(Bool->Hp->Prop)) (x:V) (H':Hp):Prop
 | mk (k:_) (_:x=.bl k) (_:Q k H')
def tTest (t:TE):TT:=λσ H Q=>t σ H λx H'=>tTest_S Q x H'
def zi {op:CmpOp} {r:R2} (ho:OpR X (compareOp op) r) (ha:PE X a ta) (hb:PE X b tb) (hm:behindInMarks op b=false):PT X (.Compare a [op] [b] pos) (tTest (tOp r ta tb)):=by
 intro pins s σ H Q I h
 refine wpAny_isTrue_Compare1 (thn (ha pins s σ H _ I h) λv s1 ⟨x,H1,I1,r1,q1⟩=>thn (hb pins s1 σ H1 _ I1 q1) λu s2 ⟨y,H2,I2,r2,q2⟩ =>
  thn (ho pins s2 σ H2 x y v u _ I2 r1 r2 q2) λc s3 ⟨z,H3,I3,r3,k,e,q3⟩=>?_) hm
 subst e;cases r3;exact wpAny_truthy_bool ⟨H3,I3,q3⟩
def tChain (r r':R2) (ta tb tc:TE):TE:=λσ H Q=>ta σ H λx H1=>tb σ H1 λy H2=>r x y H2 λz H3=>∃ k,z=.bl k /\
 (if k=true then tc σ H3 λw' H4=>r' y w' H4 Q else Q (.bl false) H3)
def zI {op op':CmpOp} {r r':R2} (ho:OpR X (compareOp op) r) (ho':OpR X (compareOp op') r') (ha:PE X a ta) (hb:PE X b tb) (hc:PE X c tc)
  (hm:lastMarks [op,op'] [b,c]=false:=by with_unfolding_all rfl):PE X (.Compare a [op,op'] [b,c] pos) (tChain r r' ta tb tc):=by
 intro pins s σ H Q I h
 refine Compare_chain (thn (ha pins s σ H _ I h) λv s1 ⟨x,H1,I1,r1,q1⟩=>chain_link (thn (hb pins s1 σ H1 _ I1 q1) λu s2 ⟨y,H2,I2,r2,q2⟩ =>
  thn (ho pins s2 σ H2 x y v u _ I2 r1 r2 q2) λd s3 ⟨z,H3,I3,r3,k,e,q3⟩=>?_)) hm
 subst e;cases r3;refine wpAny_truthy_bool ?_
 cases k with
 | false=>exact ite_ff ⟨.bl false,H3,I3,rfl,q3⟩
 | true=>exact ite_tt (chain_last (thn (hc pins s3 σ H3 _ I3 q3) λw' s4 ⟨z',H4,I4,r4,q4⟩=>ho' pins s4 σ H4 y z' u w' Q I4 r2 r4 q4))
def YB:(sizeLine:Nat)<2 ^ 63:=by rw [sizeLine_eq];decide
def vals1 {x:V} {us:Jc} (r:Vals [x] us):∃ u,us=[u]/\RelV x u:=by
 cases r with
 | cons r1 r2=>cases r2;exact ⟨_,rfl,r1⟩
def vals2 {x y:V} {us:Jc} (r:Vals [x,y] us):∃ u w',us=[u,w']/\RelV x u/\RelV y w':=by
 cases r with
 | cons r1 r2 =>
  cases r2 with
  | cons r3 r4=>cases r4;exact ⟨_,_,rfl,r1,r3⟩
def Z5 (hc:X.calm=true):ZI X (.builtin "max") (λxs H Q=>∃ i j,xs=[.int i,.int j]/\Q (.int (if j > i then j else i)) H):=by
 intro pins s σ H xs us Q I r h;obtain ⟨i,j,rfl,q⟩:=h;obtain ⟨u,w',rfl,⟨t,rfl⟩,⟨t',rfl⟩⟩:=vals2 r;refine max_two_ints (I.ok.hd hc) λh' tk k=>⟨_,H,I.kept k,?_,q⟩;by_cases hj:j > i
 ·rw [if_pos hj,if_pos hj];exact ⟨_,rfl⟩
 ·rw [if_neg hj,if_neg hj];exact ⟨_,rfl⟩
def yE:ZI X (.type "int") (λxs H Q=>(∃ i,xs=[.int i]/\Q (.int i) H)∨∃ k,xs=[.bl k]/\Q (.int (if k then 1 else 0)) H):=by
 intro pins s σ H xs us Q I r h;rcases h with ⟨i,rfl,q⟩ | ⟨k,rfl,q⟩
 ·obtain ⟨u,rfl,t,rfl⟩:=vals1 r
  exact call_int_int ⟨.int i,H,I,⟨_,rfl⟩,q⟩
 ·obtain ⟨u,rfl,r1⟩:=vals1 r
  cases r1;exact call_int_bool ⟨.int (if k then 1 else 0),H,I.tok _,⟨_,rfl⟩,q⟩
end
structure ObjM (h:Heap) (x dx C:Ad) (mA:J0):Prop where
 obj:h.get? x=some (PySem.W.instObj C dx)
 ns:h.Ns1 dx mA
 ne:dx≠x
def lookIn_ns {h:Heap} {dx:Ad} {mA:J0} (n:h.Ns1 dx mA):∃ od,h.get? dx=some od/\∀ name,PySem.W.lookIn name od=some (mA name):=by
 obtain ⟨o,es,ep,ho,hd,hk,_,hm⟩:=n;refine ⟨o,ho,λname=>?_⟩;have e:=hm name;unfold nsFind findBy at e;rw [← Array.find?_toList] at e;unfold PySem.W.lookIn;rw [hd];dsimp only
 split
 ·rename_i y q
  rw [q] at e;exact congrArg some e
 ·rename_i q
  rw [q] at e
  have a:es.toList.any (·.refKey)=false:=by
   rw [List.any_eq_false];intro y hy;obtain ⟨z,t,hkey⟩:=hk y (Array.mem_toList_iff.mp hy);simp [DictEntry.refKey,hkey]
  have a':¬ es.toList.any (·.refKey)=true:=by rw [a];exact q9z
  rw [if_neg a'];exact congrArg some e
def ObjM.look {h:Heap} {x dx C:Ad} {mA:J0} (I:ObjM h x dx C mA):∃ od,PySem.W.InstAt h x (PySem.W.instObj C dx) C (some od)/\∀ name,PySem.W.lookIn name od=some (mA name) :=
 let ⟨od,ho,hl⟩:=lookIn_ns I.ns
 ⟨od,⟨I.obj,rfl,rfl,ho⟩,hl⟩
section
variable {prog:Program} {w:World} {A:Around} {E:J5} {s:Sh} {K:Fg} {x dx C f:Ad} {mA:J0} {name:Str} {v:Vl}
def get_map {expr:Bool} {Q:J5} (X:K.In s.heap) (I:ObjM s.heap x dx C mA) (hg:PySem.W.plainGet K C name=true) (hh:PySem.W.hasDictIn K C=true)
  (ha:PySem.W.findIn K (.ref C) name=some none) (hv:mA name=some v) (hv':PySem.W.handedIn v=true) (h:Q v { s with toks:=s.toks+1 }) :
  wpAny (model prog w) A (getAttr (.ref x) name expr) Q E s:=by
 obtain ⟨od,J,hl⟩:=I.look;exact PySem.W.get_value X J (PySem.W.plainGet_of hg).1 (PySem.W.findObj_own hh ha rfl (by rw [hl,hv])) hv' h
def get_meth {pl:Sem Bool} {Q:Vl×Jc->Sh->Prop} (X:K.In s.heap) (I:ObjM s.heap x dx C mA) (hg:PySem.W.plainGet K C name=true)
  (hf:PySem.W.findIn K (.ref C) name=some (some (.ref f))) (ht:PySem.W.isFn K (.ref f)=true) (hv:mA name=none) (h:Q (.ref f,[.ref x]) s) :
  wpAny (model prog w) A (getMethod (.ref x) name pl) Q E s:=by
 obtain ⟨od,J,hl⟩:=I.look;exact PySem.W.method_fn X J (PySem.W.plainGet_of hg).1 (PySem.W.plainGet_of hg).2 hf (beq_iff_eq.mp ht) (by show (PySem.W.lookIn name od).map (·.isSome)=some false;rw [hl,hv];rfl) h
def set_map {ns:Je} {Q:Unit->Sh->Prop} (X:K.In s.heap) (I:ObjM s.heap x dx C mA)
  (hs:PySem.W.findIn K (.ref C) "__setattr__"=some (some (.builtin "object.__setattr__"))) (hp:PySem.W.plainOver K C=true) (ht:PySem.W.takerIn K C name=some none) (hh:PySem.W.hasDictIn K C=true)
  (hw:PySem.Within mA ns) (hsz:ns.length<=sizeLine)
  (h:∀ h',ObjM h' x dx C (λy=>if y=name then some v else mA y)->Heap.SameBut dx s.heap h'->Q () { s with heap:=h',toks:=s.toks+2 }) :
  wpAny (model prog w) A (setAttr (.ref x) name v) Q E s:=by
 obtain ⟨od,J,hl⟩:=I.look;refine PySem.W.set_plain X J hs (PySem.W.osa_open (s:={ s with toks:=s.toks+1 }) (r:=none) X J hp ht λb=>?_);obtain ⟨cd,hc,hd'⟩:=PySem.W.any_some hh;have hx:s.heap.get? x=some ⟨.ref C,some dx,.plain,#[]⟩:=I.obj;refine q0x (q0y (q0x (q0x (wpAny_loadPart hx (q0x (PySem.W.Looks.here (s:={ s with toks:=s.toks+1 }) (PySem.W.looks_clsIn X hc) ?_))))));rw [hd'];refine q0y (a:=some dx) (q0x (q0y (q0x ?_)));refine wpAny_nsSet1 (s:={ s with toks:=s.toks+1 }) I.ns λh' hn2 hs2=>?_;obtain ⟨oD,esD,epD,hoD,hdD,hcD⟩:=hn2.count (PySem.Within.cons name v hw);refine q0x (wpAny_lookBehind hoD (by rw [hdD];exact pastItsLine_dict (Nat.le_trans hcD (by rw [x0z];omega))) ?_);exact q0y (h _ ⟨(hs2.2 _ (Ne.symm I.ne)).trans I.obj,hn2,I.ne⟩ hs2)
def make_map {R:Result->Sh->Prop} {vs:Jc} {kw:List (Str×Vl)} (X:K.In s.heap) (hm:PySem.W.makesIn K C=true)
  (hi:PySem.W.findIn K (.ref C) "__init__"=some (some (.ref f))) (hf:PySem.W.typeIn K (.ref f)=some (.type "function"))
  (h:codeAny (model prog w) (A.under (.builtin "type.__call__" ⟨.ref C::vs,kw⟩)) (.call (.ref f) ⟨.ref (s.heap.objs.size+1)::vs,kw⟩) (PySem.W.InitBack (s.heap.objs.size+1) R)
   { s with heap:=(s.heap.push PySem.W.emptyDict).push (PySem.W.instObj C s.heap.objs.size) }) :
  codeAny (model prog w) A (.call (.ref C) ⟨vs,kw⟩) R s:=by
 obtain ⟨hh,g,d,t,os⟩:=s;exact PySem.W.make_core (PySem.W.makes_of X hm) (PySem.W.looks_findIn X hi) (λself=>PySem.W.bind_fn X self hf) (.inl rfl) h
def make_map0 {R:Result->Sh->Prop} (X:K.In s.heap) (hm:PySem.W.makesIn K C=true)
  (hi:PySem.W.findIn K (.ref C) "__init__"=some (some (.builtin "object.__init__")))
  (hb:∀ self,PySem.W.Looks (model prog w) s.heap (bindSpecial (.builtin "object.__init__") self) (.builtin "object.__init__",[self]))
  (h:codeAny (model prog w) (A.under (.builtin "type.__call__" ⟨[.ref C],[]⟩)) (.call (.builtin "object.__init__") ⟨[.ref (s.heap.objs.size+1)],[]⟩) (PySem.W.InitBack (s.heap.objs.size+1) R)
   { s with heap:=(s.heap.push PySem.W.emptyDict).push (PySem.W.instObj C s.heap.objs.size) }) :
  codeAny (model prog w) A (.call (.ref C) ⟨[],[]⟩) R s:=by
 obtain ⟨hh,g,d,t,os⟩:=s;exact PySem.W.make_core (PySem.W.makes_of X hm) (PySem.W.looks_findIn X hi) hb (.inr ⟨rfl,rfl⟩) h
end
def Zk (f:Str) (v:V):List (Str×V)->List (Str×V)
 | []=>[(f,v)]
 | (g,x)::r=>if g=f then (g,v)::r else (g,x)::Zk f v r
theorem Z7 (f g:Str) (v:V):∀ fs:List (Str×V),(Zk f v fs).lookup g=if g=f then some v else fs.lookup g
 | []=>by
  show List.lookup g [(f,v)]=_;by_cases h:g=f
  ·have hb:(g == f)=true:=beq_iff_eq.mpr h
   simp only [List.lookup,hb,if_pos h]
  ·have hb:(g == f)=false:=beq_eq_false_iff_ne.mpr h
   simp only [List.lookup,hb,if_neg h]
 | (k,x)::r=>by
  have ih:=Z7 f g v r;rw [show Zk f v ((k,x)::r)=(if k=f then (k,v)::r else (k,x)::Zk f v r) from rfl];by_cases hk:k=f
  ·rw [if_pos hk]
   by_cases h:g=k
   ·have hb:(g == k)=true:=beq_iff_eq.mpr h
    simp only [List.lookup,hb,if_pos (h.trans hk)]
   ·have hb:(g == k)=false:=beq_eq_false_iff_ne.mpr h
    simp only [List.lookup,hb,if_neg (λe:g=f=>h (e.trans hk.symm))]
  ·rw [if_neg hk]
   by_cases h:g=k
   ·have hb:(g == k)=true:=beq_iff_eq.mpr h
    simp only [List.lookup,hb,if_neg (λe:g=f=>hk (h.symm.trans e))]
   ·have hb:(g == k)=false:=beq_eq_false_iff_ne.mpr h
    simp only [List.lookup,hb];exact ih
theorem Z2 (f:Str) (v:V):∀ fs:List (Str×V),f∈(Zk f v fs).map (·.1)/\∀ g,g∈fs.map (·.1)->g∈(Zk f v fs).map (·.1)
 | []=>⟨by simp [Zk],λg h=>by simp at h⟩
 | (k,x)::r=>by
  obtain ⟨i1,i2⟩:=Z2 f v r;rw [show Zk f v ((k,x)::r)=(if k=f then (k,v)::r else (k,x)::Zk f v r) from rfl];by_cases hk:k=f
  ·rw [if_pos hk]
   subst hk;exact ⟨by simp,λg h=>by simpa using h⟩
  ·rw [if_neg hk]
   refine ⟨?_,λg h=>?_⟩
   ·rw [List.map_cons]
    exact q9x _ i1
   ·rw [List.map_cons] at h ⊢
    rcases List.mem_cons.mp h with e | e
    ·exact List.mem_cons.mpr (.inl e)
    ·exact q9x _ (i2 g e)
theorem Z8 (f:Str) (v:V):∀ fs:List (Str×V),(Zk f v fs).length<=fs.length+1
 | []=>by simp [Zk]
 | (k,x)::r=>by
  have ih:=Z8 f v r;rw [show Zk f v ((k,x)::r)=(if k=f then (k,v)::r else (k,x)::Zk f v r) from rfl];by_cases hk:k=f
  ·rw [if_pos hk,x0z,x0z];omega
  ·rw [if_neg hk,x0z,x0z];omega
def RelO.some_of {v:V} {o:Jd} (r:RelO (some v) o):∃ u,o=some u/\RelV v u:=by
 cases o with
 | none=>exact (show False from r).elim
 | some u=>exact ⟨u,rfl,r⟩
def RelO.none_of {o:Jd} (r:RelO none o):o=none:=by
 cases o with
 | none=>rfl
 | some u=>exact (show False from r).elim
def handed_of {v:V} {u:Vl} (r:RelV v u):PySem.W.handedIn u=true:=by
 cases v with
 | non=>cases (show u=Value.none from r);rfl
 | bl b=>cases (show u=Value.bool b from r);rfl
 | int i=>obtain ⟨t,e⟩:=(show ∃ t,u=Value.int i t from r);cases e;rfl
 | str x=>obtain ⟨t,e⟩:=(show ∃ t,u=Value.str x t from r);cases e;rfl
 | byt b=>obtain ⟨t,e⟩:=(show ∃ t,u=Value.bytes b t from r);cases e;rfl
 | flt b=>obtain ⟨t,e⟩:=(show ∃ t,u=Value.float b t from r);cases e;rfl
 | ref a=>cases (show u=Value.ref a from r);rfl
 | ty n=>cases (show u=Value.type n from r);rfl
section
variable {P:Program} {w:World} {H H':Hp} {h h':Heap} {a C dx:Ad} {fs fs':List (Str×V)}
def Ym (hok:HOk P w H h) (e:H a=some (.ins C dx fs)):∃ mA,ObjM h a dx C mA/\(∀ f,RelO (fs.lookup f) (mA f))/\PySem.Within mA (fs.map (·.1))/\fs.length<=1000/\H dx=some (.own a):=by
 obtain ⟨d,z,ne,ob,mA,n,r,q⟩:=(show ObjOk P w H h a (.ins C dx fs) from hok a _ e);exact ⟨mA,⟨ob,n,ne⟩,r,q,z,d⟩
end
structure Cls (K:Fg) (C:Ad):Prop where
 pg:PySem.W.plainGet K C Str.empty=true
 hd:PySem.W.hasDictIn K C=true
 po:PySem.W.plainOver K C=true
 sa:PySem.W.findIn K (.ref C) "__setattr__"=some (some (.builtin "object.__setattr__"))
def Cls.get {K:Fg} {C:Ad} (c:Cls K C) (f:Str):PySem.W.plainGet K C f=true:=c.pg
def NoAttr (K:Fg) (C:Ad) (f:Str):Prop:=PySem.W.findIn K (.ref C) f=some none
def NoAttr.taker {K:Fg} {C:Ad} {f:Str} (n:NoAttr K C f):PySem.W.takerIn K C f=some none:=by
 unfold PySem.W.takerIn;rw [show PySem.W.findIn K (.ref C) f=some none from n];rfl
structure Con (K:Fg) (C:Ad) (f:Str) (v:V) (u:Vl):Prop where
 at_:PySem.W.findIn K (.ref C) f=some (some u)
 rel:RelV v u
 get:PySem.W.specialIn K u "__get__"=some none
 cp:PySem.W.copiedNames.contains f=false
structure Meth (K:Fg) (C:Ad) (m:Str) (f:Ad):Prop where
 at_:PySem.W.findIn K (.ref C) m=some (some (.ref f))
 fn:PySem.W.isFn K (.ref f)=true
 kp:PySem.W.keepIn K (.ref f)=true
section
variable {X:Cx} {pins:Jb} {σ:St} {H:Hp} {s:Sh} {a C dx:Ad} {fs:List (Str×V)} {f:Str} {v:V} {A:Around} {E:J5}
def zak {b:Bool} {Q:J5} (I:Inv X pins σ H s) (e:H a=some (.ins C dx fs)) (c:Cls X.K C) (n:NoAttr X.K C f) (l:fs.lookup f=some v)
  (h:∀ u s',Inv X pins σ H s'->RelV v u->Q u s'):wpAny (model X.prog X.w) A (getAttr (.ref a) f b) Q E s:=by
 obtain ⟨mA,O,r,_,_,_⟩:=Ym I.hok e;obtain ⟨u,hu,ru⟩:=RelO.some_of (v:=v) (o:=mA f) (by rw [← l];exact r f);exact get_map I.kIn O (c.get f) c.hd n hu (handed_of ru) (h u _ (I.tok _) ru)
def zaj {m:Str} {g:Ad} {pl:Sem Bool} {Q:Vl×Jc->Sh->Prop} (I:Inv X pins σ H s) (e:H a=some (.ins C dx fs)) (c:Cls X.K C) (k:Meth X.K C m g) (l:fs.lookup m=none)
  (h:Q (.ref g,[.ref a]) s):wpAny (model X.prog X.w) A (getMethod (.ref a) m pl) Q E s:=by
 obtain ⟨mA,O,r,_,_,_⟩:=Ym I.hok e;have hn:mA m=none:=RelO.none_of (by rw [← l];exact r m);exact get_meth I.kIn O (c.get m) k.at_ k.fn hn h
def X5 {y:V} {u:Vl} {Q:Unit->Sh->Prop} (I:Inv X pins σ H s) (e:H a=some (.ins C dx fs)) (c:Cls X.K C) (n:NoAttr X.K C f) (hl:fs.length<1000) (ry:RelV y u)
  (h:∀ s',Inv X pins σ (upd H a (.ins C dx (Zk f y fs))) s'->Q () s'):wpAny (model X.prog X.w) A (setAttr (.ref a) f u) Q E s:=by
 obtain ⟨mA,O,r,wi,_,ho⟩:=Ym I.hok e;have hz:(fs.map (·.1)).length<=sizeLine:=by rw [Jh,sizeLine_eq];omega
 refine set_map I.kIn O c.sa c.po n.taker c.hd wi hz λh' O' sb=>h _ ?_;have hd:∃ o,h'.get? dx=some o:=let ⟨o,_,_,e',_⟩:=O'.ns;⟨o,e'⟩;refine I.write (x:=a) (e:=dx) (by rw [e];exact True.intro) (.inr ho) (λb q hb z=>(sb.2 b hb).trans z) hd ?_;refine ⟨by rw [zy O.ne];exact ho,?_,O.ne,O'.obj,_,O'.ns,λg=>?_,λg hg=>?_⟩
 ·have:=Z8 f y fs;omega
 ·show RelO ((Zk f y fs).lookup g) (if g=f then some u else mA g)
  rw [Z7];by_cases q:g=f
  ·rw [if_pos q,if_pos q];exact ry
  ·rw [if_neg q,if_neg q];exact r g
 ·by_cases q:g=f
  ·rw [q];exact (Z2 f y fs).1
  ·refine (Z2 f y fs).2 g (wi g λz=>hg ?_)
   show (if g=f then some u else mA g)=none;rw [if_neg q];exact z
def Inv.made (I:Inv X pins σ H s):Inv X pins σ (upd (upd H s.heap.objs.size (.own (s.heap.objs.size+1))) (s.heap.objs.size+1) (.ins C s.heap.objs.size []))
  { s with heap:=(s.heap.push PySem.W.emptyDict).push (PySem.W.instObj C s.heap.objs.size) }:=by
 have e1:(s.heap.push PySem.W.emptyDict).get? s.heap.objs.size=some PySem.W.emptyDict:=Heap.get?_push_size s.heap rfl
 have e2:((s.heap.push PySem.W.emptyDict).push (PySem.W.instObj C s.heap.objs.size)).get? (s.heap.objs.size+1)=some (PySem.W.instObj C s.heap.objs.size):=by
  have:=Heap.get?_push_size (s.heap.push PySem.W.emptyDict) (o:=PySem.W.instObj C s.heap.objs.size) rfl
  rwa [Heap.size_push] at this
 have e3:(s.heap.push PySem.W.emptyDict).Ns s.heap.objs.size (λ_=>none):=⟨PySem.W.emptyDict,#[],_,e1,rfl,(λe he=>absurd he (by simp)),λ_=>rfl⟩;have I1:=I.laid (a:=s.heap.objs.size) (o:=.own (s.heap.objs.size+1)) (h':=s.heap.push PySem.W.emptyDict) (t':=s.toks) (λb u q=>Heap.get?_push_of_some _ q) (Nat.le_refl _) ⟨_,e1⟩;refine I1.laid (a:=s.heap.objs.size+1) (o:=.ins C s.heap.objs.size []) (t':=s.toks) (λb u q=>Heap.get?_push_of_some _ q) (Nat.le_of_eq (Heap.size_push _ _)) ?_;have ne:s.heap.objs.size≠s.heap.objs.size+1:=Nat.ne_of_lt (Nat.lt_succ_self _);refine ⟨by rw [zy ne,zg],Nat.zero_le _,ne,e2,λ_=>none,(Heap.Ns1.of_empty e3).at λo q=>Heap.get?_push_of_some _ q,λ_=>True.intro,λy hy=>absurd rfl hy⟩
def attr_of {prog:Program} {w:World} {env:Env} {e:Expr} {f:Str} {pos:Pos} {s:Sh} {Q:J5} (hb:attributeBase e f env (eval e env)=eval e env)
  (h:wpAny (model prog w) A (eval e env) (λo s₁=>wpAny (model prog w) A (getAttr o f true) Q E s₁) E s):wpAny (model prog w) A (eval (.Attribute e f pos) env) Q E s :=
 Attribute_any_ h (by rw [arm_eval_Attribute,hb])
end
inductive tFld_S (K:Fg) (f:Str) (Q:VK) (x:V) (H1:Hp):Prop
 | mk (a C:_) (dx fs v:_) (_:x=.ref a) (_:H1 a=some (.ins C dx fs)) (_:Cls K C) (_:NoAttr K C f) (_:fs.lookup f=some v) (_:Q v H1)
def tFld (K:Fg) (ta:TE) (f:Str):TE:=λσ H Q=>ta σ H λx H1=>tFld_S K f Q x H1
inductive sFld_S (K:Fg) (f:Str) (D:Ends) (σ:St) (y x:V) (H2:Hp):Prop
 | mk (a C:_) (dx fs:_) (_:x=.ref a) (_:H2 a=some (.ins C dx fs)) (_:Cls K C) (_:NoAttr K C f) (_:fs.length<1000) (_:D.nx σ (upd H2 a (.ins C dx (Zk f y fs))))
def sFld (K:Fg) (ta tv:TE) (f:Str):TS:=λD σ H=>tv σ H λy H1=>ta σ H1 λx H2=>sFld_S K f D σ y x H2
section
variable {X:Cx} {o e value:Expr} {f:Str} {pos pos' tpos:Pos} {ta tv:TE}
def zq (he:PE X e ta) (hb:attributeBase e f X.env (eval e X.env)=eval e X.env):PE X (.Attribute e f pos) (tFld X.K ta f):=by
 intro pins s σ H Q I h;refine attr_of hb (thn (he pins s σ H _ I h) λu s1 ⟨x,H1,I1,rx,a,C,dx,fs,v,ex,ea,c,n,l,q⟩=>?_);subst ex;obtain rfl:u=Value.ref a:=rx;exact zak I1 ea c n l λu' s2 I2 ru=>⟨v,H1,I2,ru,q⟩
def zM (ha:PE X o ta) (hv:PE X value tv) (hs:swapsWith value (some (.Attribute o f pos')) pos.line X.env=pure false):PS X (.Assign [.Attribute o f pos'] value pos) (sFld X.K ta tv f):=by
 intro pins s σ H D I h;refine plainObj_wpAny_Assign_Attribute (thn (hv pins s σ H _ I h) λu s1 ⟨y,H1,I1,ry,q⟩=>thn (ha pins s1 σ H1 _ I1 q) λov s2 ⟨x,H2,I2,rx,a,C,dx,fs,ex,ea,c,n,l,q2⟩=>?_) hs;subst ex;obtain rfl:ov=Value.ref a:=rx;exact X5 I2 ea c n l ry λs3 I3=>⟨σ,_,I3,q2⟩
end
section
variable {X:Cx} {pins:Jb} {σ:St} {H:Hp} {s:Sh} {A:Around} {E:J5} {Q:J5} {c:Vl} {b:Bool}
inductive TyOf (K:Fg) (H:Hp):V->Vl->Prop where
 | non:TyOf K H .non (.type "NoneType")
 | bl (x:Bool):TyOf K H (.bl x) (.type "bool")
 | int (i:Int):TyOf K H (.int i) (.type "int")
 | str (x:Str):TyOf K H (.str x) (.type "str")
 | flt (x:UInt64):TyOf K H (.flt x) (.type "float")
 | lst {a:Ad} {xs:Jm} (e:H a=some (.lst xs)):TyOf K H (.ref a) (.type "list")
 | frz {a:Ad} {o:Obj} {xs:Jm} (e:H a=some (.frz o (.lst xs))):TyOf K H (.ref a) (.type "list")
 | tup {a:Ad} {xs:Jm} (e:H a=some (.tup xs)):TyOf K H (.ref a) (.type "tuple")
 | dK {a:Ad} {kvs:Jk} (e:H a=some (.dK kvs)):TyOf K H (.ref a) (.type "dict")
 | dT {a:Ad} {kvs:List (List Key×V)} (e:H a=some (.dT kvs)):TyOf K H (.ref a) (.type "dict")
 | ins {a C dx:Ad} {fs:List (Str×V)} (e:H a=some (.ins C dx fs)) (cl:Cls K C) (ha:PySem.W.findIn K (.ref C) "__class__"=some (some (.builtin "object.__class__")))
   (hn:PySem.W.specialIn K (.builtin "object.__class__") "__get__"=some (some (.builtin "getset_descriptor.__get__"))) (htk:PySem.W.takesIn K (.builtin "object.__class__")=some true)
   (hm:PySem.W.mroIn K C (.type "object")=some true):TyOf K H (.ref a) (.ref C)
def isinst_ok {x:V} {u t:Vl} (I:Inv X pins σ H s) (rx:RelV x u) (ty:TyOf X.K H x t) (e:PySem.W.kitOne X.K t c=some b) (h:∀ tk,Q (.bool b) { s with toks:=tk }) :
  wpAny (model X.prog X.w) A (call (.builtin "isinstance") [u,c]) Q E s:=by
 cases ty with
 | non=>cases (show u=Value.none from rx);exact PySem.W.kia_one PySem.W.kitx_none I.kIn True.intro e (λz=>nomatch z) h
 | bl y=>cases (show u=Value.bool y from rx);exact PySem.W.kia_one PySem.W.kitx_bool I.kIn True.intro e (λz=>nomatch z) h
 | int i=>obtain ⟨t,q⟩:=(show ∃ t,u=Value.int i t from rx);cases q;exact PySem.W.kia_one PySem.W.kitx_int I.kIn True.intro e (λz=>nomatch z) h
 | str y=>obtain ⟨t,q⟩:=(show ∃ t,u=Value.str y t from rx);cases q;exact PySem.W.kia_one PySem.W.kitx_str I.kIn True.intro e (λz=>nomatch z) h
 | flt y=>obtain ⟨t,q⟩:=(show ∃ t,u=Value.float y t from rx);cases q;exact PySem.W.kia_one PySem.W.kitx_float I.kIn True.intro e (λz=>nomatch z) h
 | @lst a xs ea =>
  cases (show u=Value.ref a from rx);obtain ⟨_,_,n,_,h1⟩:=(show ObjOk X.prog X.w H s.heap a (.lst xs) from I.hok a _ ea);exact PySem.W.kia_one PySem.W.kitx_list I.kIn ⟨_,h1,rfl⟩ e (λz=>nomatch z) h
 | @frz a ob xs ea =>
  cases (show u=Value.ref a from rx);obtain ⟨_,_,_,n,_,h1⟩:=(show ObjOk X.prog X.w H s.heap a (.frz ob (.lst xs)) from I.hok a _ ea);exact PySem.W.kia_one PySem.W.kitx_list I.kIn ⟨_,h1,rfl⟩ e (λz=>nomatch z) h
 | @tup a xs ea =>
  cases (show u=Value.ref a from rx);obtain ⟨_,_,_,p⟩:=(show ObjOk X.prog X.w H s.heap a (.tup xs) from I.hok a _ ea);obtain ⟨o,h1,h2,_⟩:=p;exact PySem.W.kia_one PySem.W.kitx_tuple I.kIn ⟨o,h1,h2⟩ e (λz=>nomatch z) h
 | @dK a kvs ea =>
  cases (show u=Value.ref a from rx);obtain ⟨_,_,vs,_,p⟩:=(show ObjOk X.prog X.w H s.heap a (.dK kvs) from I.hok a _ ea);obtain ⟨o,es,ep,h1,h2,_⟩:=p;exact PySem.W.kia_one PySem.W.kitx_dict I.kIn ⟨o,h1,h2.1⟩ e (λz=>nomatch z) h
 | @dT a kvs ea =>
  cases (show u=Value.ref a from rx);obtain ⟨_,_,xs,_,o,es,ep,h1,h2,_⟩:=(show ObjOk X.prog X.w H s.heap a (.dT kvs) from I.hok a _ ea);exact PySem.W.kia_one PySem.W.kitx_dict I.kIn ⟨o,h1,h2.1⟩ e (λz=>nomatch z) h
 | @ins a C dx fs ea cl ha hn htk hm =>
  cases (show u=Value.ref a from rx);obtain ⟨mA,O,_⟩:=Ym I.hok ea;obtain ⟨od,J,_⟩:=O.look;exact PySem.W.kia_one (PySem.W.kitx_own (cl.get _) cl.hd ha hn htk hm) I.kIn J e (λz=>nomatch z) h
end
structure Room (k:Nat) (A:Around):Prop where
 hd:A.handled=none
 dp:A.depth+3*k+5<recursionLimit
 un:A.units+16*k+200<cLine
def Room.mono {j k:Nat} {A:Around} (r:Room k A) (h:j<=k):Room j A:=⟨r.hd,by have:=r.dp;omega,by have:=r.un;omega⟩
def Room.deeper {k:Nat} {A:Around} (r:Room (k+1) A) (env:Env):Room k (A.deeper env) :=
 ⟨r.hd,by have:=r.dp;show A.depth+1+3*k+5<_;omega,by have:=r.un;show A.units+3+16*k+200<_;omega⟩
def zai {A:Around} {C:Ad} {us:Jc} {kw:List (Str×Vl)}:(A.under (.builtin "type.__call__" ⟨.ref C::us,kw⟩)).depth=A.depth+1:=by
 first | rfl | simp [Around.under,Code.weight,Code.isCreation,Code.isGuard,Code.isCaller,Code.frames,Code.isFrame,guardIds]
def zah {A:Around} {C:Ad} {us:Jc} {kw:List (Str×Vl)}:(A.under (.builtin "type.__call__" ⟨.ref C::us,kw⟩)).units=A.units+1:=by
 first | rfl | simp [Around.under,Code.cUnits,Code.frames,Code.isFrame]
def Room.make {k:Nat} {A:Around} (r:Room (k+1) A) (C:Ad) (us:Jc) (kw:List (Str×Vl)):Room k (A.under (.builtin "type.__call__" ⟨.ref C::us,kw⟩)) :=
 ⟨r.hd,by have:=r.dp;rw [zai];omega,by have:=r.un;rw [zah];omega⟩
def Room.depth {k:Nat} {A:Around} (r:Room k A):A.depth<recursionLimit:=by have:=r.dp;omega
def Room.units {k:Nat} {A:Around} (r:Room k A):A.units+64<cLine:=by have:=r.un;omega
def tNil:TA:=λ_ H Q=>Q [] H
def tCons (ta:TE) (tr:TA):TA:=λσ H Q=>ta σ H λx H1=>tr σ H1 λxs H2=>Q (x::xs) H2
section
variable {X:Cx} {e:Expr} {es:Jg} {te:TE} {t:TA} {pos:Pos}
def ze:PA X [] tNil:=λ_ _ _ _ H Q I h=>Calls.spliced_nil ⟨[],H,I,.nil,h⟩
def zb (ha:PE X e te) (hr:PA X es t) (hs:starEach (e::es) X.env=(false,eval e X.env)::starEach es X.env:=by rfl):PA X (e::es) (tCons te t):=by
 intro pos pins s σ H Q I h;rw [hs];show wpAny _ _ (spliced ((false,eval e X.env)::backTo pos (starEach es X.env))) _ _ s;refine Calls.spliced_cons (thn (ha pins s σ H _ I h) λu s1 ⟨x,H1,I1,r1,q1⟩=>?_);exact thn (hr pos pins s1 σ H1 _ I1 q1) λus s2 ⟨xs,H2,I2,r2,q2⟩=>⟨x::xs,H2,I2,.cons r1 r2,q2⟩
def tTup (t:TA):TE:=λσ H Q=>t σ H λxs H1=>xs.length<=sizeLine/\∀ p,H1 p=none->Q (.ref p) (upd H1 p (.tup xs))
def tLst (t:TA):TE:=λσ H Q=>t σ H λxs H1=>xs.length<=sizeLine/\∀ p,H1 p=none->Q (.ref p) (upd H1 p (.lst xs))
def zR {x1} (h:PA X es t):PE X (.Tuple es x1 pos) (tTup t):=by
 intro pins s σ H Q I hq;refine wpAny_Tuple_spliced (thn (h pos pins s σ H _ I hq) λus s1 ⟨xs,H1,I1,r,z,q⟩=>⟨by rw [← r.length];exact z,?_⟩);have hf:H1 s1.heap.objs.size=none:=I1.hok.fresh (Nat.le_refl _);refine ⟨.ref s1.heap.objs.size,upd H1 s1.heap.objs.size (.tup xs),I1.laid (t':=s1.toks) (λb u e=>Heap.get?_push_of_some _ e) (Nat.le_refl _) ?_,rfl,q _ hf⟩;exact ⟨z,us,r,⟨_,Heap.get?_push_size _ rfl,rfl,_,rfl⟩⟩
def zQ (h:PA X es t):PE X (.List es pos) (tLst t):=by
 intro pins s σ H Q I hq;refine wpAny_List_spliced (thn (h pos pins s σ H _ I hq) λus s1 ⟨xs,H1,I1,r,z,q⟩=>⟨by rw [← r.length];exact z,?_⟩);have hf:H1 s1.heap.objs.size=none:=I1.hok.fresh (Nat.le_refl _);refine ⟨.ref s1.heap.objs.size,upd H1 s1.heap.objs.size (.lst xs),I1.laid (t':=s1.toks) (λb u e=>Heap.get?_push_of_some _ e) (Nat.le_refl _) ?_,rfl,q _ hf⟩;exact ⟨z,us,0,r,Heap.get?_push_size _ rfl⟩
end
abbrev Sp:=Jm->Hp->VK->XK->Prop
abbrev CXT:=List Env->Hp->Sh->XK->J5
structure Env0 (P:Program) (w:World) (K:Fg) (mg:J0) (base:Heap) (A:Around) (outer:List Env) (s:Sh) (H:Hp):Prop where
 frames:A.frames=some outer
 mod:Mod K mg base
 bs:∀ b o,base.get? b=some o->s.heap.get? b=some o/\H b=none
 bsz:base.objs.size<=s.heap.objs.size
 funs:s.heap.FunFrames base outer
 frf:∀ b∈frs outer,H b=none
 hok:HOk P w H s.heap
 bare:AllBare s.gens
def CE (outer:List Env) (P:Program) (w:World) (H:Hp) (s:Sh) (Q:VK) (u:Vl) (s':Sh):Prop :=
 ∃ v H',s'.os=s.os/\AllBare s'.gens/\Un (frs outer) [] H H' s.heap s'.heap/\HOk P w H' s'.heap/\RelV v u/\Q v H'
def CR (CX:CXT) (outer:List Env) (P:Program) (w:World) (H:Hp) (s:Sh) (Q:VK) (E:XK) (r:Result) (s':Sh):Prop :=
 match r with
 | .ok (.ret u)=>CE outer P w H s Q u s'
 | .ok _=>False
 | .error e=>CX outer H s E e s'
structure FnOk (P:Program) (w:World) (K:Fg) (mg:J0) (base:Heap) (CX:CXT) (k:Nat) (f:Ad) (fd:FuncData) (ps:Je) (sp:Sp):Prop where
 len:∀ vs H Q E,sp vs H Q E->vs.length=ps.length
 run:∀ (A:Around) (outer:List Env) (s:Sh) (H:Hp) (args:Args) (us:Jc) (vs:Jm) (Q:VK) (E:XK),Room k A->Env0 P w K mg base A outer s H->BindsTo s fd args (ps.zip us)->Vals vs us->sp vs H Q E ->
  codeAny (model P w) A (.call (.ref f) args) (CR CX outer P w H s Q E) s
def FnOk.mono {P:Program} {w:World} {K:Fg} {mg:J0} {base:Heap} {CX:CXT} {j k:Nat} {f:Ad} {fd:FuncData} {ps:Je} {sp:Sp} (F:FnOk P w K mg base CX j f fd ps sp) (h:j<=k) :
  FnOk P w K mg base CX k f fd ps sp:=⟨F.len,λA outer s H args us vs Q E hr=>F.run A outer s H args us vs Q E (hr.mono h)⟩
def Env0.make {P:Program} {w:World} {K:Fg} {mg:J0} {base:Heap} {A:Around} {outer:List Env} {s:Sh} {H:Hp} (e:Env0 P w K mg base A outer s H) (C:Ad) (us:Jc) (kw:List (Str×Vl)) :
  Env0 P w K mg base (A.under (.builtin "type.__call__" ⟨.ref C::us,kw⟩)) outer s H:=⟨by first | exact e.frames | (simpa [Around.under,Code.envs,Code.isFrame,pushEnvs] using e.frames),e.mod,e.bs,e.bsz,e.funs,e.frf,e.hok,e.bare⟩
section
variable {X:Cx} {pins:Jb} {σ:St} {H:Hp} {s s':Sh}
def Inv.env0 (I:Inv X pins σ H s):Env0 X.prog X.w X.K X.mg X.base X.A X.stack s H :=
 ⟨I.ok.frames,I.ok.mod,I.bs,Nat.le_trans I.ok.bsz I.sz,I.stack,I.stkFree,I.hok,I.bare⟩
def Inv.after {Q:VK} {u:Vl} (I:Inv X pins σ H s) (h:CE X.stack X.prog X.w H s Q u s'):EP X pins σ Q u s':=by
 obtain ⟨v,H',os,bare,un,hok,r,q⟩:=h;obtain ⟨hh,g,d,t,os'⟩:=s';obtain rfl:os'=s.os:=os;exact ⟨v,H',I.call (h':=hh) (g':=g) (d':=d) (t':=t) (ch:=[]) un hok bare (λb z=>absurd z (by simp)),r,q⟩
end
def tCall (sp:Sp) (dvs:Jm) (E:XK) (t:TA):TE:=λσ H Q=>t σ H λvs H1=>sp (vs++dvs) H1 Q E
inductive tMeth_S (C:Ad) (m:Str) (sp:Sp) (dvs:Jm) (E:XK) (t:TA) (σ:St) (Q:VK) (x:V) (H1:Hp):Prop
 | mk (a dx fs:_) (_:x=.ref a) (_:H1 a=some (.ins C dx fs)) (_:fs.lookup m=none) (_:t σ H1 λvs H2=>sp (x::(vs++dvs)) H2 Q E)
def tMeth (C:Ad) (m:Str) (sp:Sp) (dvs:Jm) (E:XK) (ta:TE) (t:TA):TE:=λσ H Q=>ta σ H λx H1=>tMeth_S C m sp dvs E t σ Q x H1
def tMake (C:Ad) (sp:Sp) (dvs:Jm) (E:XK) (t:TA):TE:=λσ H Q=>t σ H λvs H1=>∀ x dx,H1 x=none->H1 dx=none->dx≠x ->
 sp (.ref x::(vs++dvs)) (upd (upd H1 dx (.own x)) x (.ins C dx [])) (λv H2=>v=.non/\Q (.ref x) H2) E
def Binds (K:Fg) (fd:FuncData) (ps:Je) (ds:Jc):Prop :=
 ∀ (s:Sh) (us:Jc),K.In s.heap->(us++ds).length=ps.length->BindsTo s fd ⟨us,[]⟩ (ps.zip (us++ds))
def Binds.all {K:Fg} {fd:FuncData} {ps:Je} (h:∀ us:Jc,us.length=ps.length->bindArgs fd ⟨us,[]⟩=pure (ps.zip us)):Binds K fd ps []:=λs us _ hl=>by
 rw [x1x] at hl ⊢;exact .of_eq (h us hl)
def xK (CX:CXT) (X:Cx) (E:XK):Prop:=∀ (pins:Jb) (σ:St) (H:Hp) (s:Sh) (e:Vl) (s':Sh),Inv X pins σ H s->CX X.stack H s E e s'->X.xe e s'
section
variable {X:Cx} {CX:CXT} {k:Nat} {f C:Ad} {fd:FuncData} {ps:Je} {sp:Sp} {dvs:Jm} {ds:Jc} {E:XK} {x m:Str} {p pos apos:Pos} {e o:Expr} {es:Jg} {ta:TE} {t:TA}
def run_fn {pins:Jb} {σ:St} {H:Hp} {s:Sh} {Q:VK} {us:Jc} {vs:Jm} (F:FnOk X.prog X.w X.K X.mg X.base CX k f fd ps sp) (hr:Room k X.A) (hb:Binds X.K fd ps ds) (hd:Vals dvs ds) (hx:xK CX X E)
  (I:Inv X pins σ H s) (r:Vals vs us) (h:sp (vs++dvs) H Q E):wpAny (model X.prog X.w) X.A (call (.ref f) us) (EP X pins σ Q) X.xe s:=by
 have r2:Vals (vs++dvs) (us++ds):=r.append hd;have hl:(us++ds).length=ps.length:=by rw [← r2.length];exact F.len _ _ _ _ h
 refine wpAny_call (codeAny_mono (F.run X.A X.stack s H ⟨us,[]⟩ (us++ds) (vs++dvs) Q E hr I.env0 (hb s us I.kIn hl) r2 h) λr s' hq=>?_)
 cases r with
 | error e=>exact hx pins σ H s e s' I hq
 | ok fl =>
  cases fl with
  | ret u=>exact I.after hq
  | next=>exact False.elim hq
  | brk=>exact False.elim hq
  | cont=>exact False.elim hq
def pe_call (F:FnOk X.prog X.w X.K X.mg X.base CX k f fd ps sp) (hr:Room k X.A) (hg:Gl X x) (hm:X.mg x=some (.ref f)) (hk:PySem.W.keepIn X.K (.ref f)=true) (hb:Binds X.K fd ps ds) (hd:Vals dvs ds) (hx:xK CX X E)
  (ha:PA X (e::es) t) (hdb:(x == ("__debug__":Str))=false:=by decide) (he:starEach (e::es) X.env=(false,eval e X.env)::starEach es X.env:=by rfl) (hpl:(backTo pos (starEach es X.env)).any (·.1)=false:=by rfl) :
  PE X (.Call (.Name x p) (e::es) [] pos) (tCall sp dvs E t):=by
 intro pins s σ H Q I h;refine wpAny_Call_Name_kw (Yk I hg hm ?_ hdb);refine PySem.W.callWith_K (h₀:=X.base) I.ok.mod.kin hk (thn (ha pos pins s σ H _ I h) λus s1 ⟨vs,H1,I1,r,q⟩=>⟨I1.kIn,?_⟩) he hpl;exact run_fn F hr hb hd hx I1 r q
def pe_meth {pl:Sem Bool} (he:PE X o ta) (c:Cls X.K C) (hm:Meth X.K C m f) (F:FnOk X.prog X.w X.K X.mg X.base CX k f fd ps sp) (hr:Room k X.A) (hb:Binds X.K fd ps ds) (hd:Vals dvs ds) (hx:xK CX X E) (ha:PA X (e::es) t)
  (hst:starEach (e::es) X.env=(false,eval e X.env)::starEach es X.env:=by rfl) (hpl:(backTo pos (starEach es X.env)).any (·.1)=false:=by rfl)
  (ht:eval (.Call (.Attribute o m apos) (e::es) [] pos) X.env=(do
   let ov ← eval o X.env
   standAt apos.atName
   let (f,first) ← holding [ov] (getMethod ov m pl)
   callWith pos f first (backTo pos (starEach (e::es) X.env)) (backToKw pos (keywordEach [] X.env))):=by rfl) :
  PE X (.Call (.Attribute o m apos) (e::es) [] pos) (tMeth C m sp dvs E ta t):=by
 intro pins s σ H Q I h;refine PySem.W.methodCall_KW (pl:=pl) (thn (he pins s σ H _ I h) λu s1 ⟨x,H1,I1,rx,a,dx,fs,ex,ea,l,q⟩=>?_) ht;subst ex;obtain rfl:u=Value.ref a:=rx;refine zaj I1 ea c hm l ?_;refine PySem.W.callWith_K (first:=[.ref a]) (h₀:=X.base) I.ok.mod.kin hm.kp (thn (ha pos pins s1 σ H1 _ I1 q) λus s2 ⟨vs,H2,I2,r,q2⟩=>⟨I2.kIn,?_⟩) hst hpl;exact run_fn (us:=.ref a::us) (vs:=.ref a::vs) F hr hb hd hx I2 (.cons rfl r) q2
structure Mk (K:Fg) (C f:Ad):Prop where
 makes:PySem.W.makesIn K C=true
 init:PySem.W.findIn K (.ref C) "__init__"=some (some (.ref f))
 fn:PySem.W.isFn K (.ref f)=true
 kp:PySem.W.keepIn K (.ref C)=true
def run_make {pins:Jb} {σ:St} {H:Hp} {s:Sh} {Q:VK} {us:Jc} {vs:Jm} (M:Mk X.K C f) (F:FnOk X.prog X.w X.K X.mg X.base CX k f fd ps sp) (hr:Room (k+1) X.A) (hb:Binds X.K fd ps ds) (hd:Vals dvs ds)
  (hx:xK CX X E) (I:Inv X pins σ H s) (r:Vals vs us)
  (h:∀ x dx,H x=none->H dx=none->dx≠x->sp (.ref x::(vs++dvs)) (upd (upd H dx (.own x)) x (.ins C dx [])) (λv H2=>v=.non/\Q (.ref x) H2) E) :
  wpAny (model X.prog X.w) X.A (call (.ref C) us) (EP X pins σ Q) X.xe s:=by
 have hq:=h (s.heap.objs.size+1) s.heap.objs.size (I.hok.fresh (Nat.le_succ _)) (I.hok.fresh (Nat.le_refl _)) (Nat.ne_of_lt (Nat.lt_succ_self _));have I2:=Inv.made (C:=C) I;have r2:Vals (V.ref (s.heap.objs.size+1)::(vs++dvs)) (Value.ref (s.heap.objs.size+1)::(us++ds)):=.cons rfl (r.append hd)
 have hl:(Value.ref (s.heap.objs.size+1)::us++ds).length=ps.length:=by
  have e:=r2.length;rw [F.len _ _ _ _ hq] at e;exact e.symm
 refine wpAny_call (make_map (f:=f) I.kIn M.makes M.init (beq_iff_eq.mp M.fn) (codeAny_mono (F.run _ X.stack _ _ ⟨Value.ref (s.heap.objs.size+1)::us,[]⟩ (Value.ref (s.heap.objs.size+1)::(us++ds)) _ _ E (hr.make C us [])
  (I2.env0.make C us []) (hb _ (Value.ref (s.heap.objs.size+1)::us) I2.kIn hl) r2 hq) λr s' hq'=>?_))
 cases r with
 | error e=>exact hx pins σ _ _ e s' I2 hq'
 | ok fl =>
  cases fl with
  | ret u =>
   obtain ⟨v,H',I3,rv,ev,q3⟩:=I2.after hq';subst ev;exact ⟨rv,⟨V.ref (s.heap.objs.size+1),H',I3,rfl,q3⟩⟩
  | next=>exact False.elim hq'
  | brk=>exact False.elim hq'
  | cont=>exact False.elim hq'
def pe_make (M:Mk X.K C f) (F:FnOk X.prog X.w X.K X.mg X.base CX k f fd ps sp) (hr:Room (k+1) X.A) (hg:Gl X x) (hm:X.mg x=some (.ref C)) (hb:Binds X.K fd ps ds) (hd:Vals dvs ds) (hx:xK CX X E)
  (ha:PA X (e::es) t) (hdb:(x == ("__debug__":Str))=false:=by decide) (he:starEach (e::es) X.env=(false,eval e X.env)::starEach es X.env:=by rfl) (hpl:(backTo pos (starEach es X.env)).any (·.1)=false:=by rfl) :
  PE X (.Call (.Name x p) (e::es) [] pos) (tMake C sp dvs E t):=by
 intro pins s σ H Q I h;refine wpAny_Call_Name_kw (Yk I hg hm ?_ hdb);refine PySem.W.callWith_K (h₀:=X.base) I.ok.mod.kin M.kp (thn (ha pos pins s σ H _ I h) λus s1 ⟨vs,H1,I1,r,q⟩=>⟨I1.kIn,?_⟩) he hpl;exact run_make M F hr hb hd hx I1 r q
end
section
variable {X:Cx} {CX:CXT} {k:Nat} {f C:Ad} {fd:FuncData} {ps ks:Je} {sp:Sp} {E:XK} {x m:Str} {p pos apos kpos:Pos} {e o:Expr} {es:Jg} {kws:List Keyword} {te ta:TE} {t tk:TA} {nm:Option Str}
structure KBinds (K:Fg) (fd:FuncData) (ps ks:Je) (g:Jc->Jc->Jc) (gV:Jm->Jm->Jm):Prop where
 to:∀ (s:Sh) (us ws:Jc),K.In s.heap->(g us ws).length=ps.length->BindsTo s fd ⟨us,ks.zip ws⟩ (ps.zip (g us ws))
 rel:∀ {vs:Jm} {us:Jc} {zs:Jm} {ws:Jc},Vals vs us->Vals zs ws->Vals (gV vs zs) (g us ws)
variable {g:Jc->Jc->Jc} {gV:Jm->Jm->Jm}
end
structure FnScope (N P:Je) (sc:Scope):Prop where
 kind:sc.kind=.function
 co:sc.isCoroutine=false
 gen:sc.isGenerator=false
 nd:N.Nodup
 pre:N.take P.length=P
 par:∀ x∈P,sc.names.lookup x=some .local∨sc.names.lookup x=some .cell
 nofree:∀ y∈sc.names,y.2≠.free
theorem Y2 {kindOf:Str->Option NameKind} {x:Str}:∀ {binds:List (Str×Vl)} {m:J0},(∀ v,(x,v) ∉ binds)->bindL kindOf binds m x=m x
 | [],_,_=>rfl
 | (n,v)::r,m,h=>by
  unfold bindL;rw [Y2 λw hw=>h w (q9x _ hw)]
  split
  ·have:x≠n:=by rintro rfl;exact h v q9y
   simp [this]
  ·rfl
theorem Y4 {kindOf:Str->Option NameKind} {x:Str}:∀ {binds:List (Str×Vl)} {m:J0},(∀ v,(x,v) ∉ binds)->bindC kindOf binds m x=m x
 | [],_,_=>rfl
 | (n,v)::r,m,h=>by
  unfold bindC;rw [Y4 λw hw=>h w (q9x _ hw)]
  split
  ·rfl
  ·have:x≠n:=by rintro rfl;exact h v q9y
   simp [this]
theorem Y3 {kindOf:Str->Option NameKind} {x:Str} {v:Vl}:∀ {P:Je} {vs:Jc} {i:Nat} {m:J0},P.Nodup->P[i]?=some x->vs[i]?=some v->kindOf x=some .local ->
  bindL kindOf (P.zip vs) m x=some v
 | [],_,_,_,_,h,_,_=>by simp at h
 | _::_,[],_,_,_,_,h,_=>by simp at h
 | p::P,w::vs,0,m,nd,h1,h2,hk=>by
  simp at h1 h2;subst h1;subst h2;show bindL kindOf ((p,w)::P.zip vs) m p=_;unfold bindL;rw [Y2 λv hv=>(List.nodup_cons.mp nd).1 (List.of_mem_zip hv).1,if_pos hk];simp
 | p::P,w::vs,i+1,m,nd,h1,h2,hk=>by
  show bindL kindOf ((p,w)::P.zip vs) m x=_;unfold bindL;exact Y3 (i:=i) (List.nodup_cons.mp nd).2 (by simpa using h1) (by simpa using h2) hk
theorem Y5 {kindOf:Str->Option NameKind} {x:Str} {v:Vl}:∀ {P:Je} {vs:Jc} {i:Nat} {m:J0},P.Nodup->P[i]?=some x->vs[i]?=some v->kindOf x≠some .local ->
  bindC kindOf (P.zip vs) m x=some v
 | [],_,_,_,_,h,_,_=>by simp at h
 | _::_,[],_,_,_,_,h,_=>by simp at h
 | p::P,w::vs,0,m,nd,h1,h2,hk=>by
  simp at h1 h2;subst h1;subst h2;show bindC kindOf ((p,w)::P.zip vs) m p=_;unfold bindC;rw [Y4 λv hv=>(List.nodup_cons.mp nd).1 (List.of_mem_zip hv).1,if_neg hk];simp
 | p::P,w::vs,i+1,m,nd,h1,h2,hk=>by
  show bindC kindOf ((p,w)::P.zip vs) m x=_;unfold bindC;exact Y5 (i:=i) (List.nodup_cons.mp nd).2 (by simpa using h1) (by simpa using h2) hk
def start (N:Je) (vs:Jm):St:=vs.map some++List.replicate (N.length-vs.length) none
def cxOf (CX:CXT) (P:Program) (w:World) (K:Fg) (mg:J0) (base:Heap) (N:Je) (qual:Str) (scope:Scope) (f:Ad) (cd:Vl) (A:Around) (outer:List Env) (s:Sh) (H:Hp) (E:XK):Cx where
 prog:=P
 w:=w
 K:=K
 mg:=mg
 base:=base
 A:=A.deeper (envOfC qual scope s.heap.objs.size f cd)
 N:=N
 s₀:=s
 H₀:=H
 env:=envOfC qual scope s.heap.objs.size f cd
 outer:=outer
 stack:=envOfC qual scope s.heap.objs.size f cd::outer
 ex:=[]
 calm:=true
 fn:=λ_=>true
 pn:=[]
 xe:=λe s'=>wpAny (model P w) (A.deeper (envOfC qual scope s.heap.objs.size f cd)) (leaving (envOfC qual scope s.heap.objs.size f cd) e) (λ_ s''=>CX outer H s E e s'') (λe' s''=>CX outer H s E e' s'') s'
def X1 {sc:Scope} {n:Nat} {x:Str} (h:sc.names.lookup x=some .cell):∃ c,(cellsFrom n sc.names []).lookup x=some c:=by
 have q:=PySem.W.cellsFrom_some sc.names n [] (.inl h);exact Option.isSome_iff_exists.mp q
def inv_start {CX:CXT} {P:Program} {w:World} {K:Fg} {mg:J0} {base:Heap} {N ps:Je} {qual:Str} {scope:Scope} {f:Ad} {cd:Vl} {A:Around} {outer:List Env} {s s1:Sh} {H:Hp} {E:XK} {us:Jc} {vs:Jm}
  (S:FnScope N ps scope) (hd:A.handled=none) (e0:Env0 P w K mg base A outer s H) (hl:vs.length=ps.length) (r:Vals vs us)
  (x:InCallC s s.heap.objs.size (bindL (envOfC qual scope s.heap.objs.size f cd).kindOf (ps.zip us) λ_=>none) (cellsFrom (s.heap.objs.size+1) scope.names []) (bindC (envOfC qual scope s.heap.objs.size f cd).kindOf (ps.zip us) λ_=>none) s1) :
  Inv (cxOf CX P w K mg base N qual scope f cd A outer s H E) [] (start N vs) H s1:=by
 have hpl:ps.length<=N.length:=by have:=congrArg List.length S.pre;rw [List.length_take] at this;omega
 obtain ⟨h1,tk,rfl,hk⟩:=x.done;have noA:∀ b:Ad,b ∉ (cxOf CX P w K mg base N qual scope f cd A outer s H E).ex:=λb z=>absurd (show b∈([]:Jf) from z) (by simp)
 refine ⟨⟨e0.mod,S.kind,rfl,rfl,Nat.le_refl _,λy z c h1 h2=>?_,λy hy=>?_,λy c _ h=>?_,λ_=>hd,Around.frames_deeper e0.frames,.inr ⟨rfl,rfl⟩,λb z=>absurd z (noA b),e0.bs,e0.bsz,λb _ _=>noA b,λb z=>absurd z (noA b),e0.funs,e0.frf⟩,
  rfl,e0.bare,Un.kept hk,⟨_,x.toInCall.ns,λi y v h1 h2 h3=>?_⟩,λy c h=>⟨_,x.cell y c h⟩,e0.hok.fresh (Nat.le_refl _),λy c h=>?_,λp hp=>absurd (show p∈([]:Jb) from hp) (by simp),e0.hok.kept hk,?_⟩
 ·exact name_of_addr x.apart (PySem.mem_of_lookup h1) (PySem.mem_of_lookup h2)
 ·have hy:scope.names.lookup y=some .cell∨scope.names.lookup y=some .free:=hy
  rcases hy with hy | hy
  ·exact X1 hy
  ·exact absurd rfl (S.nofree _ (PySem.mem_of_lookup hy))
 ·exact Nat.le_of_lt (x.above y c (PySem.mem_of_lookup h))
 ·have hi:i<vs.length:=by
   unfold start at h2;by_cases hi:i<vs.length
   ·exact hi
   ·rw [List.getElem?_append_right (by simpa using hi)] at h2
    rw [List.getElem?_replicate] at h2
    split at h2 <;> cases h2
  have ha:vs[i]?=some v:=by
   unfold start at h2;rw [x1y (by simpa using hi),List.getElem?_map] at h2
   cases e:vs[i]? with
   | none=>rw [e] at h2;cases h2
   | some a=>rw [e] at h2;cases h2;rfl
  obtain ⟨u,hu,rv⟩:=r.get ha
  have hp:ps[i]?=some y:=by
   rw [← S.pre,List.getElem?_take_of_lt (by omega)];exact h1
  have ndP:ps.Nodup:=by rw [← S.pre];exact S.nd.sublist (List.take_sublist _ _)
  refine ⟨u,rv,?_⟩;rcases S.par y (List.mem_of_getElem? hp) with k | k
  ·exact .inl ⟨k,Y3 ndP hp hu k⟩
  ·obtain ⟨c,e⟩:=X1 (n:=s.heap.objs.size+1) k
   refine .inr ⟨.inl k,c,e,?_⟩;have q:=x.cell y c e;rw [Y5 ndP hp hu (by show scope.names.lookup y≠_;rw [k];decide)] at q;exact q
 ·exact e0.hok.fresh (Nat.le_of_lt (x.above y c (PySem.mem_of_lookup h)))
 ·unfold start
  show _=N.length;rw [Ji,Jh,List.length_replicate];omega
def fn_of {CX:CXT} {P:Program} {w:World} {K:Fg} {mg:J0} {base:Heap} {k:Nat} {f:Ad} {name qual:Str} {params:Arguments} {body:List Stmt} {scope:Scope} {dV kV doc pm cdv ct oc:Vl} {an od:Option Ad}
  {osl:Array (Jd)} {N ps:Je} {sp:Sp} (lk:K.lookup f=some ⟨oc,od,.func (PySem.W.fnOf name qual params body scope dV kV doc pm an cdv ct),osl⟩) (hcd:PySem.W.codeIn K cdv qual=true) (S:FnScope N ps scope)
  (len:∀ vs H Q E,sp vs H Q E->vs.length=ps.length)
  (hbody:∀ (A:Around) (outer:List Env) (s:Sh) (H:Hp) (vs:Jm) (Q:VK) (E:XK),Room k (A.deeper (envOfC qual scope s.heap.objs.size f cdv))->sp vs H Q E ->
   ∃ t,PSs (cxOf CX P w K mg base N qual scope f cdv A outer s H E) body t/\t { nx:=λ_ H'=>Q .non H',rt:=Q } (start N vs) H) :
  FnOk P w K mg base CX (k+1) f (PySem.W.fnOf name qual params body scope dV kV doc pm an cdv ct) ps sp:=by
 refine ⟨len,λA outer s H args us vs Q E hr e0 hb r hsp=>?_⟩;have hl:=len _ _ _ _ hsp;have KX:K.In s.heap:=e0.mod.kin.keeps λb o e=>(e0.bs b o e).1;have lim:s.heap.NoLimit:=e0.mod.nolimit.keeps λb o e=>(e0.bs b o e).1
 have hkind:∀ y∈ps.zip us,scope.names.lookup y.1=some .local∨(scope.names.lookup y.1=some .cell/\((cellsFrom (s.heap.objs.size+1) scope.names []).lookup y.1).isSome=true):=λ⟨n,v⟩ hy=>by
  rcases S.par n (List.of_mem_zip hy).1 with q | q
  ·exact .inl q
  ·exact .inr ⟨q,PySem.W.cellsFrom_some _ _ _ (.inl q)⟩
 refine codeAny_call_function hr.depth (KX _ _ lk) rfl S.co S.gen rfl (PySem.W.codeRec_of KX hcd) (hb _ _ _ _ ?_);refine wpAny_newFunctionEnv_cells S.kind hkind λenv he s1 x=>?_;subst he;refine ⟨lim.keeps x.toInCall.keep,codeAny_func ?_⟩;obtain ⟨t,ht,hq⟩:=hbody A outer s H vs Q E (hr.deeper _) hsp;have I:Inv (cxOf CX P w K mg base N qual scope f cdv A outer s H E) [] (start N vs) H s1:=inv_start S hr.hd e0 hl r x;refine wpAny_mono (ht [] s1 (start N vs) H _ I hq) (λfl s' hs=>?_) λe s' hs=>hs
 have fin:∀ {σ':St} {H':Hp} {v:V} {u:Vl},Inv (cxOf CX P w K mg base N qual scope f cdv A outer s H E) [] σ' H' s'->RelV v u->Q v H'->CE outer P w H s Q u s' :=
  λ{σ' H' v u} J rv q=>⟨v,H',J.os,J.bare,J.base,J.hok,rv,q⟩
 cases fl with
 | ret u =>
  obtain ⟨v,σ',H',J,rv,q⟩:=hs;exact fin J rv q
 | next =>
  obtain ⟨σ',H',J,q⟩:=hs;exact fin (v:=V.non) (u:=Value.none) J rfl q
 | brk =>
  obtain ⟨_,_,_,q⟩:=hs;exact False.elim q
 | cont =>
  obtain ⟨_,_,_,q⟩:=hs;exact False.elim q
section
variable {X:Cx} {x:Str} {p pos:Pos} {e:Expr} {es:Jg} {t:TA} {id T:String} {r:Jm->Hp->VK->Prop}
def tCB (r:Jm->Hp->VK->Prop) (t:TA):TE:=λσ H Q=>t σ H λvs H1=>r vs H1 Q
def zw (hc:ZI X (.builtin id) r) (hg:Gl X x) (hm:X.mg x=none) (hv:bootBuiltins x=some (.builtin id)) (ha:PA X (e::es) t) (hn:x≠"__name__":=by decide) (hdb:(x == ("__debug__":Str))=false:=by decide)
  (he:starEach (e::es) X.env=(false,eval e X.env)::starEach es X.env:=by rfl) (hpl:(backTo pos (starEach es X.env)).any (·.1)=false:=by rfl):PE X (.Call (.Name x p) (e::es) [] pos) (tCB r t):=by
 intro pins s σ H Q I h;refine wpAny_Call_Name_kw (Xm I hg hm hv ?_ hn hdb);exact PyProof.Rows.callWith_builtin1 (thn (ha pos pins s σ H _ I h) λus s1 ⟨vs,H1,I1,r1,q1⟩=>hc pins s1 σ H1 vs us Q I1 r1 q1) he hpl
def yf (hc:ZI X (.type T) r) (hg:Gl X x) (hm:X.mg x=none) (hv:bootBuiltins x=some (.type T)) (ha:PA X (e::es) t) (hn:x≠"__name__":=by decide) (hdb:(x == ("__debug__":Str))=false:=by decide)
  (he:starEach (e::es) X.env=(false,eval e X.env)::starEach es X.env:=by rfl) (hpl:(backTo pos (starEach es X.env)).any (·.1)=false:=by rfl):PE X (.Call (.Name x p) (e::es) [] pos) (tCB r t):=by
 intro pins s σ H Q I h;refine wpAny_Call_Name_kw (Xm I hg hm hv ?_ hn hdb);exact PyProof.Rows.callWith_type1 (thn (ha pos pins s σ H _ I h) λus s1 ⟨vs,H1,I1,r1,q1⟩=>hc pins s1 σ H1 vs us Q I1 r1 q1) he hpl
end
end L2
namespace HT
open PySem PyProof.Rows
def lexLt:Ja->Ja->Bool
 | [],[]=>false
 | [],_::_=>true
 | _::_,[]=>false
 | x::xs,y::ys=>if x=y then lexLt xs ys else decide (x<y)
section
open PySem.SeqAt
open PySem.AutoSeq1 (wpAny_loadPart')
open PySem.MeetsSeq PySem.MeetsSeq2 PySem.MeetsSeq3
end
section
variable {prog:Program} {w:World} {A:Around} {E:J5} {s:Sh}
def sIx (n d:Nat):Option Int->Nat
 | none=>d
 | some v=>if v<0 then (v+(n:Int)).toNat else min v.toNat n
def sIx_none (n d:Nat):sIx n d none=d:=rfl
end
end HT
namespace L2
open PySem PySem.Spec PyProof.Rows
abbrev TO:=St->Hp->(Option Int->Hp->Prop)->Prop
def PO (X:Cx) (e:Option Expr) (t:TO):Prop :=
 ∀ (pins:Jb) (s:Sh) (σ:St) (H:Hp) (Q:Option Int->Hp->Prop),Inv X pins σ H s->t σ H Q ->
  wpAny (model X.prog X.w) X.A (evalPart e X.env) (λu s'=>∃ o H',Inv X pins σ H' s'/\IsPart u o/\Q o H') X.xe s
def tNoPart:TO:=λ_ H Q=>Q none H
inductive tPart_S (Q:(Option Int->Hp->Prop)) (x:V) (H1:Hp):Prop
 | mk (i:_) (_:x=.int i) (_:Q (some i) H1)
def tPart (t:TE):TO:=λσ H Q=>t σ H λx H1=>tPart_S Q x H1
section
variable {X:Cx} {e:Expr} {te:TE} {lo hi:Option Expr} {tl th:TO} {pos p2:Pos}
def Yi:PO X none tNoPart:=by
 intro pins s σ H Q I h;rw [evalPart_none];exact q0y ⟨none,H,I,.none,h⟩
def x8 (h:PE X e te):PO X (some e) (tPart te):=by
 intro pins s σ H Q I hw;rw [evalPart_some];refine thn (h pins s σ H _ I hw) λu s1 ⟨x,H1,I1,r1,q1⟩=>?_;obtain ⟨i,rfl,q⟩:=q1;obtain ⟨t,rfl⟩:=r1;exact ⟨some i,H1,I1,.int i t,q⟩
def SlR (X:Cx) (r:V->Option Int->Option Int->Hp->VK->Prop):Prop :=
 ∀ (pins:Jb) (s:Sh) (σ:St) (H:Hp) (x:V) (v vl vu:Vl) (lo hi:Option Int) (sl:Ad) (Q:VK),Inv X pins σ H s->RelV x v->s.heap.IsSliceOf sl vl vu .none->IsPart vl lo->IsPart vu hi->r x lo hi H Q ->
  ∃ T id,typeLookup (.type T) "__getitem__"=pure (some (.builtin id))/\s.TypeIs v T/\wpAny (model X.prog X.w) X.A (getItem v (.ref sl)) (EP X pins σ Q) X.xe s
def tSl (r:V->Option Int->Option Int->Hp->VK->Prop) (te:TE) (tl th:TO):TE:=λσ H Q=>te σ H λx H1=>tl σ H1 λl H2=>th σ H2 λu H3=>r x l u H3 Q
def Ze {r:V->Option Int->Option Int->Hp->VK->Prop} (hr:SlR X r) (he:PE X e te) (hl:PO X lo tl) (hu:PO X hi th):PE X (.Subscript e (.Slice lo hi none p2) pos) (tSl r te tl th):=by
 intro pins s σ H Q I h;refine Subscript_ (thn (he pins s σ H _ I h) λv s1 ⟨x,H1,I1,r1,q1⟩=>?_);refine wpAny_Slice (thn (hl pins s1 σ H1 _ I1 q1) λvl s2 ⟨l,H2,I2,pl,q2⟩=>thn (hu pins s2 σ H2 _ I2 q2) λvu s3 ⟨u,H3,I3,pu,q3⟩=>?_);rw [evalPart_none];refine q0y ?_;have I4:Inv X pins σ H3 { s3 with heap:=s3.heap.push { cls:=.type "slice",data:=.fields #[vl,vu,.none] } }:=I3.kept (t':=s3.toks) λb ob q=>Heap.get?_push_of_some _ q;obtain ⟨T,id,hT,ht,hg⟩:=hr pins { s3 with heap:=s3.heap.push { cls:=.type "slice",data:=.fields #[vl,vu,.none] } } σ H3 x v vl vu l u s3.heap.objs.size Q I4 r1 (Heap.IsSliceOf.new ..) pl pu q3;show wpAny (model X.prog X.w) X.A (subscriptTail e (.Slice lo hi none p2) v (.ref s3.heap.objs.size)) (EP X pins σ Q) X.xe { s3 with heap:=s3.heap.push { cls:=.type "slice",data:=.fields #[vl,vu,.none] } };exact tail_any (ops:=[.ref s3.heap.objs.size,v]) ht hT hg (by with_unfolding_all rfl)
def cutV (xs:Jm) (lo hi:Option Int):Jm:=(xs.drop (HT.sIx xs.length 0 lo)).take (HT.sIx xs.length xs.length hi-HT.sIx xs.length 0 lo)
def XZ (xs:Jm) (lo hi:Option Int):(cutV xs lo hi).length<=xs.length:=by
 unfold cutV;rw [List.length_take,List.length_drop];omega
end
def ixN (n:Nat) (i:Int):Option Nat:=if 0<=i then (if i<n then some i.toNat else none) else if -(n:Int)<=i then some (i+n).toNat else none
def atI {α:Type} (xs:List α) (i:Int):Option α:=(ixN xs.length i).bind λj=>xs[j]?
def ixN_seq {n:Nat} {i:Int} {j:Nat} (h:ixN n i=some j):seqIndex? i n=some j/\j<n/\-(n:Int)<=i/\i<n:=by
 unfold ixN at h;by_cases h0:0<=i
 ·rw [if_pos h0] at h
  by_cases h1:i<n
  ·rw [if_pos h1] at h
   have e:i.toNat=j:=Option.some.inj h;exact ⟨by rw [seqIndex_of h0 h1,e],by omega,by omega,h1⟩
  ·rw [if_neg h1] at h;cases h
 ·rw [if_neg h0] at h
  by_cases h1:-(n:Int)<=i
  ·rw [if_pos h1] at h
   have e:(i+n).toNat=j:=Option.some.inj h;exact ⟨by rw [seqIndex_neg (by omega) h1,e],by omega,h1,by omega⟩
  ·rw [if_neg h1] at h;cases h
def Xv {α:Type} {xs:List α} {i:Int} {v:α} (h:atI xs i=some v):∃ j,seqIndex? i xs.length=some j/\xs[j]?=some v/\j<xs.length/\-(xs.length:Int)<=i/\i<xs.length:=by
 unfold atI at h
 cases e:ixN xs.length i with
 | none=>rw [e] at h;cases h
 | some j =>
  rw [e] at h;obtain ⟨h1,h2,h3,h4⟩:=ixN_seq e;exact ⟨j,h1,h,h2,h3,h4⟩
def zE {α:Type} {xs:List α} {j:Nat} {v:α} (h:xs[j]?=some v):atI xs (j:Int)=some v:=by
 have hj:j<xs.length:=(List.getElem?_eq_some_iff.mp h).1
 have e:ixN xs.length (j:Int)=some j:=by
  unfold ixN;rw [if_pos (by omega),if_pos (by omega)];simp
 unfold atI;rw [e];exact h
def PlainIx (b:Expr):Prop:=∀ o i,subscripted b false o i=operate [o,i] (getItem o i)
def IxR (X:Cx) (r:R2):Prop :=
 ∀ (value slice:Expr) (pins:Jb) (s:Sh) (σ:St) (H:Hp) (x y:V) (v u:Vl) (Q:VK),Inv X pins σ H s->RelV x v->RelV y u->r x y H Q ->
  subscripted slice false v u=operate [v,u] (getItem v u)->wpAny (model X.prog X.w) X.A (subscriptTail value slice v u) (EP X pins σ Q) X.xe s
def MtR (X:Cx) (id:String) (r:V->Jm->Hp->VK->Prop):Prop :=
 ∀ (pins:Jb) (s:Sh) (σ:St) (H:Hp) (x:V) (xs:Jm) (v:Vl) (us:Jc) (Q:VK),Inv X pins σ H s->RelV x v->Vals xs us->r x xs H Q ->
  wpAny (model X.prog X.w) X.A (call (.builtin id) (v::us)) (EP X pins σ Q) X.xe s
section
variable {X:Cx} {a b:Expr} {ta tb:TE} {pos:Pos}
def zP {r:R2} (hr:IxR X r) (ha:PE X a ta) (hb:PE X b tb) (hs:PlainIx b):PE X (.Subscript a b pos) (tOp r ta tb):=by
 intro pins s σ H Q I h;exact Subscript_ (binT ha hb I h λv u s2 x y H2 I2 rx ry q=>hr a b pins s2 σ H2 x y v u Q I2 rx ry q (hs _ _))
inductive rIxL (K:Fg) (x y:V) (H:Hp) (Q:VK):Prop
 | mk (p xs:_) (i v:_) (_:x=.ref p) (_:y=.int i) (_:SqL K H p xs) (_:atI xs i=some v) (_:Q v H)
inductive rIxT (K:Fg) (x y:V) (H:Hp) (Q:VK):Prop
 | mk (p xs:_) (i v:_) (_:x=.ref p) (_:y=.int i) (_:SqT K H p xs) (_:atI xs i=some v) (_:Q v H)
inductive rIxS (x y:V) (H:Hp) (Q:VK):Prop
 | mk (z i c:_) (_:x=.str z) (_:y=.int i) (_:z.length<=sizeLine) (_:atI z.cps.toList i=some c) (_:Q (.str ⟨#[c]⟩) H)
def zY:IxR X (rIxL X.K):=by
 intro value slice pins s σ H x y v u Q I rx ry h hs;obtain ⟨p,xs,i,z,rfl,rfl,hq,he,q⟩:=h;cases rx;obtain ⟨t,rfl⟩:=ry;obtain ⟨its,r,pl,hz⟩:=I.list hq;obtain ⟨j,h1,h2,h3,h4,h5⟩:=Xv he;obtain ⟨w,ew,rw'⟩:=r.get h2;have hl:=r.length;have hn:=YB;have fin:EP X pins σ Q w s:=⟨z,H,I,rw',q⟩;by_cases h0:0<=i
 ·have hj:i.toNat=j:=by
   rw [seqIndex_of h0 h5] at h1;exact Option.some.inj h1
  exact item_listR pl.isList h0 (by omega) (by rw [hj];simpa using ew) fin hs
 ·have hj:(i+(its.toArray.size:Int)).toNat=j:=by
   rw [seqIndex_neg (by omega) h4] at h1;rw [List.size_toArray,← hl];exact Option.some.inj h1
  exact subscriptTail_builtinR (x:=w) pl.isList.typeIs slot_list_getitem.lookup
   (wpAny_getItem_list_neg (Q:=λr s'=>r=w/\EP X pins σ Q r s') pl.isList (by omega) (by rw [List.size_toArray] <;> omega) (by omega) (by rw [hj];simpa using ew) ⟨rfl,fin⟩) hs
def yj:IxR X (rIxT X.K):=by
 intro value slice pins s σ H x y v u Q I rx ry h hs;obtain ⟨p,xs,i,z,rfl,rfl,hq,he,q⟩:=h;cases rx;obtain ⟨t,rfl⟩:=ry;obtain ⟨its,r,pl,hz⟩:=I.tuple hq;obtain ⟨j,h1,h2,h3,h4,h5⟩:=Xv he;obtain ⟨w,ew,rw'⟩:=r.get h2;have hl:=r.length;have hn:=YB;have fin:EP X pins σ Q w s:=⟨z,H,I,rw',q⟩;exact subscriptTail_builtinR (x:=w) pl.typeIs slot_tuple_getitem.lookup
  (getItem_tuple (j:=j) (Q:=λr s'=>r=w/\EP X pins σ Q r s') pl (by omega) (by omega) (by rw [List.size_toArray,← hl];exact h1) (by simpa using ew) ⟨rfl,fin⟩) hs
def ix_str:IxR X rIxS:=by
 intro value slice pins s σ H x y v u Q I rx ry h hs;obtain ⟨z,i,c,rfl,rfl,hz,he,q⟩:=h;obtain ⟨t,rfl⟩:=rx;obtain ⟨t',rfl⟩:=ry;obtain ⟨j,h1,h2,h3,h4,h5⟩:=Xv he;have hl:z.cps.toList.length=z.length:=by simp [Str.length]
 rw [hl] at h1 h4 h5;have hn:=YB
 exact tail_any (typeIs_str s z t) slot_str_getitem.lookup (getItem_str (c:=c) (by
  have e1:decide (i < -(2 ^ 63:Int))=false:=decide_eq_false (by omega);have e2:decide (i ≥ 2 ^ 63)=false:=decide_eq_false (by omega);rw [e1,e2,Bool.or_false]) (by rw [h1];simpa using h2) ⟨.str ⟨#[c]⟩,H,I.tok _,⟨_,rfl⟩,q⟩) hs
def Y7 (lo hi:Option Int) (n:Nat):(sliceBounds lo hi none n).1=((HT.sIx n 0 lo:Nat):Int)/\(sliceBounds lo hi none n).2.1=((HT.sIx n n hi:Nat):Int)/\(sliceBounds lo hi none n).2.2=1:=by
 refine ⟨?_,?_,rfl⟩
 ·cases lo with
  | none=>simp [sliceBounds,HT.sIx]
  | some i =>
   simp only [sliceBounds,HT.sIx,Option.getD_none,show (1:Int) > 0 by decide,if_true];by_cases h:i<0
   ·simp only [h,if_true] <;> omega
   ·simp only [h,if_false] <;> omega
 ·cases hi with
  | none=>simp [sliceBounds,HT.sIx]
  | some i =>
   simp only [sliceBounds,HT.sIx,Option.getD_none,show (1:Int) > 0 by decide,if_true];by_cases h:i<0
   ·simp only [h,if_true] <;> omega
   ·simp only [h,if_false] <;> omega
def YL (its:Jc) (lo hi:Option Int):slicePick its.toArray lo hi none=((its.drop (HT.sIx its.length 0 lo)).take (HT.sIx its.length its.length hi-HT.sIx its.length 0 lo)).toArray:=by
 obtain ⟨h1,h2,h3⟩:=Y7 lo hi its.toArray.size;unfold slicePick;rw [h1,h2,h3];simp only [sliceRange_one,pick_run,List.size_toArray] <;> rfl
inductive rSlL (K:Fg) (x:V) (lo hi:Option Int) (H:Hp) (Q:VK):Prop
 | mk (a xs:_) (_:x=.ref a) (_:SqL K H a xs) (_:∀ p,H p=none->Q (.ref p) (upd H p (.lst (cutV xs lo hi))))
def Zy:SlR X (rSlL X.K):=by
 intro pins s σ H x v vl vu lo hi sl Q I rx hs pl pu h;obtain ⟨a,xs,rfl,hx,q⟩:=h;cases rx;obtain ⟨its,r,ht,hz⟩:=I.list hx;have hlen:=r.length;refine ⟨"list",_,slot_list_getitem.lookup,ht.isList.typeIs,?_⟩;refine wpAny_getItem_list_slice ht.isList hs pl pu .none (by simp) ?_ (by rw [List.size_toArray] <;> omega);rw [YL,← hlen];refine ⟨.ref s.heap.objs.size,_,I.laid (t':=s.toks) (o:=.lst (cutV xs lo hi)) (λb ob q=>Heap.get?_push_of_some _ q) (Nat.le_refl _) ?_,rfl,q _ (I.hok.fresh (Nat.le_refl _))⟩;exact ⟨Nat.le_trans (XZ xs lo hi) hz,_,0,(r.drop (HT.sIx xs.length 0 lo)).take (HT.sIx xs.length xs.length hi-HT.sIx xs.length 0 lo),Heap.get?_push_size _ rfl⟩
def ZH:V->Bool
 | .non=>true
 | .bl _=>true
 | .int _=>true
 | .str _=>true
 | _=>false
def eqV:V->V->Bool
 | .non,.non=>true
 | .bl a,.bl b=>a == b
 | .bl a,.int b=>(if a then 1 else 0) == b
 | .int a,.bl b=>a == (if b then 1 else 0)
 | .int a,.int b=>a == b
 | .str a,.str b=>a == b
 | _,_=>false
def eqAt_V {A:Around} {s:Sh} {y x:V} {u v:Vl} (ry:RelV y u) (rx:RelV x v) (fy:ZH y=true) (fx:ZH x=true):SeqAt.EqAt A s u v (eqV y x):=by
 cases y with
 | non =>
  cases ry
  cases x with
  | non=>cases rx;exact SeqAt.EqAt.same _
  | bl b=>cases rx;exact SeqAt.EqAt.none_bool b
  | int b=>obtain ⟨t,rfl⟩:=rx;exact SeqAt.EqAt.none_int b t
  | str b=>obtain ⟨t,rfl⟩:=rx;exact SeqAt.EqAt.none_str b t
  | _=>exact absurd (show false=true from fx) q9z
 | bl a =>
  cases ry
  cases x with
  | non=>cases rx;exact SeqAt.EqAt.bool_none a
  | bl b=>cases rx;exact SeqAt.EqAt.bool_bool a b
  | int b=>obtain ⟨t,rfl⟩:=rx;exact SeqAt.EqAt.bool_int a b t
  | str b=>obtain ⟨t,rfl⟩:=rx;exact SeqAt.EqAt.bool_str a b t
  | _=>exact absurd (show false=true from fx) q9z
 | int a =>
  obtain ⟨t',rfl⟩:=ry
  cases x with
  | non=>cases rx;exact SeqAt.EqAt.int_none a t'
  | bl b=>cases rx;exact SeqAt.EqAt.int_bool a t' b
  | int b=>obtain ⟨t,rfl⟩:=rx;exact SeqAt.EqAt.int_int a t' b t
  | str b=>obtain ⟨t,rfl⟩:=rx;exact SeqAt.EqAt.int_str a t' b t
  | _=>exact absurd (show false=true from fx) q9z
 | str a =>
  obtain ⟨t',rfl⟩:=ry
  cases x with
  | non=>cases rx;exact SeqAt.EqAt.str_none a t'
  | bl b=>cases rx;exact SeqAt.EqAt.str_bool a t' b
  | int b=>obtain ⟨t,rfl⟩:=rx;exact SeqAt.EqAt.str_int a t' b t
  | str b=>obtain ⟨t,rfl⟩:=rx;exact SeqAt.EqAt.str_str a t' b t
  | _=>exact absurd (show false=true from fx) q9z
 | _=>exact absurd (show false=true from fy) q9z
def eqU (x:V) (u:Vl):Bool:=match u with
 | .none=>eqV .non x
 | .bool b=>eqV (.bl b) x
 | .int i _=>eqV (.int i) x
 | .str z _=>eqV (.str z) x
 | _=>false
def eqU_of {x y:V} {u:Vl} (r:RelV y u) (f:ZH y=true):eqU x u=eqV y x:=by
 cases y with
 | non=>cases r;rfl
 | bl b=>cases r;rfl
 | int i=>obtain ⟨t,rfl⟩:=r;rfl
 | str z=>obtain ⟨t,rfl⟩:=r;rfl
 | _=>exact absurd (show false=true from f) q9z
theorem Xw {x:V}:∀ {xs:Jm} {us:Jc},Vals xs us->xs.all ZH=true->us.any (eqU x)=xs.any λy=>eqV y x
 | _,_,.nil,_=>rfl
 | y::xs,u::us,.cons r t,f=>by
  rw [List.all_cons,Bool.and_eq_true] at f;rw [List.any_cons,List.any_cons,eqU_of r f.1,Xw t f.2]
theorem YA {A:Around} {s:Sh} {x:V} {v:Vl} (rx:RelV x v) (fx:ZH x=true):∀ {xs:Jm} {us:Jc},Vals xs us->xs.all ZH=true->∀ u∈us,SeqAt.EqAt A s u v (eqU x u)
 | _,_,.nil,_=>λu hu=>by cases hu
 | y::xs,u::us,.cons r t,f=>λu' hu=>by
  rw [List.all_cons,Bool.and_eq_true] at f;rcases List.mem_cons.mp hu with rfl | hu
  ·rw [eqU_of r f.1];exact eqAt_V r rx f.1 fx
  ·exact YA rx fx t f.2 u' hu
def inV (x:V) (xs:Jm):Bool:=xs.any λy=>eqV y x
inductive rIn (K:Fg) (neg:Bool) (x y:V) (H:Hp) (Q:VK):Prop
 | mk (p xs:_) (_:y=.ref p) (_:(SqL K H p xs∨SqT K H p xs)) (_:ZH x=true) (_:xs.all ZH=true) (_:Q (.bl (if neg then !inV x xs else inV x xs)) H)
def yX:OpR X (compareOp .In) (rIn X.K false):=by
 intro pins s σ H x y v u Q I rx ry h;obtain ⟨p,xs,rfl,hq,fx,fs,q⟩:=h;cases ry;rcases hq with hq | hq
 ·obtain ⟨its,r,pl,hz⟩:=I.list hq
  refine SeqAt.in_listAt (eqU x) pl.isList (λw hw=>YA rx fx r fs w (by simpa using hw)) ⟨.bl _,H,I,rfl,?_⟩;rw [show its.toArray.any (eqU x)=its.any (eqU x) by simp,Xw r fs];exact q
 ·obtain ⟨its,r,pl,hz⟩:=I.tuple hq
  refine SeqAt.in_tupleAt (eqU x) pl (λw hw=>YA rx fx r fs w (by simpa using hw)) ⟨.bl _,H,I,rfl,?_⟩;rw [show its.toArray.any (eqU x)=its.any (eqU x) by simp,Xw r fs];exact q
def zH:ZI X (.builtin "len") (λxs H Q=>∃ p ys,xs=[.ref p]/\(SqL X.K H p ys∨SqT X.K H p ys)/\Q (.int ys.length) H):=by
 intro pins s σ H xs us Q I r h;obtain ⟨p,ys,rfl,hq,q⟩:=h;obtain ⟨u,rfl,rx⟩:=vals1 r;cases rx;have hn:=YB;rcases hq with hq | hq
 ·obtain ⟨its,r',pl,hz⟩:=I.list hq
  have hlen:=r'.length;exact Calls.call_len_list pl.isList (by simp only [List.size_toArray] <;> omega) ⟨.int ys.length,H,I.tok _,⟨s.toks+1,by rw [List.size_toArray,hlen]⟩,q⟩
 ·obtain ⟨its,r',pl,hz⟩:=I.tuple hq
  have hlen:=r'.length;exact len_tuple pl (by simp only [List.size_toArray] <;> omega) ⟨.int ys.length,H,I.tok _,⟨s.toks+1,by rw [List.size_toArray,hlen]⟩,q⟩
def Xu:ZI X (.builtin "len") (λxs H Q=>∃ z,xs=[.str z]/\z.length<=sizeLine/\Q (.int z.length) H):=by
 intro pins s σ H xs us Q I r h;obtain ⟨z,rfl,hz,q⟩:=h;obtain ⟨u,rfl,t,rfl⟩:=vals1 r;have hn:=YB;exact len_str (by omega) ⟨.int z.length,H,I.tok _,⟨_,rfl⟩,q⟩
def yP:ZI X (.type "list") (λxs H Q=>∃ p ys,xs=[.ref p]/\(SqL X.K H p ys∨SqT X.K H p ys)/\∀ l,H l=none->Q (.ref l) (upd H l (.lst ys))):=by
 intro pins s σ H xs us Q I r h;obtain ⟨p,ys,rfl,hq,q⟩:=h;obtain ⟨u,rfl,rx⟩:=vals1 r;cases rx
 have fin:∀ (its:Jc),Vals ys its->ys.length<=sizeLine->∀ (h':Heap) (c':Nat),(∀ b o',s.heap.get? b=some o'->h'.get? b=some o') ->
   h'.get? s.heap.objs.size=some { cls:=.type "list",dict:=none,data:=.seq its.toArray c',slots:=#[] }->EP X pins σ Q (.ref s.heap.objs.size) { s with heap:=h' }:=λits r' hz h' c' kp e =>
  ⟨.ref s.heap.objs.size,_,I.laid (t':=s.toks) kp (Nat.le_refl _) (show ObjOk X.prog X.w _ h' _ (.lst ys) from ⟨hz,its,c',r',e⟩),rfl,q _ (I.hok.fresh (Nat.le_refl _))⟩
 rcases hq with hq | hq
 ·obtain ⟨its,r',pl,hz⟩:=I.list hq
  have hlen:=r'.length;obtain ⟨o,ho,hc,n,hd⟩:=pl.isList;exact call_list_seq p (.inl rfl) ho hc hd (λh' c' kp e=>fin its r' hz h' c' kp e) (by simp only [List.size_toArray] <;> omega)
 ·obtain ⟨its,r',pl,hz⟩:=I.tuple hq
  have hlen:=r'.length;obtain ⟨o,ho,hc,n,hd⟩:=pl;exact call_list_seq p (.inr rfl) ho hc hd (λh' c' kp e=>fin its r' hz h' c' kp e) (by simp only [List.size_toArray] <;> omega)
def tyV (K:Fg) (T:String) (x:V) (H:Hp):Prop:=match x with
 | .str _=>T="str"
 | .int _=>T="int"
 | .ref p=>(T="list"/\∃ xs,SqL K H p xs)∨(T="tuple"/\∃ o,K.lookup p=some o/\o.cls=.type "tuple"/\o.dict=none) ∨
   (T="dict"/\((∃ kvs,H p=some (.dK kvs))∨∃ kvs,H p=some (.dT kvs)))∨(T="set"/\∃ S n,H p=some (.set S n))
 | _=>False
def tyV_is {pins:Jb} {σ:St} {H:Hp} {s:Sh} {T:String} {x:V} {v:Vl} (I:Inv X pins σ H s) (r:RelV x v) (ty:tyV X.K T x H) :
  s.TypeIs v T/\∀ a,v=.ref a->∃ ob,s.heap.get? a=some ob/\ob.dict=none:=by
 cases x with
 | str z =>
  obtain ⟨t,rfl⟩:=r;cases (show T="str" from ty);exact ⟨typeIs_str s z t,λ_ e=>nomatch e⟩
 | int i =>
  obtain ⟨t,rfl⟩:=r;cases (show T="int" from ty);exact ⟨typeIs_int s i t,λ_ e=>nomatch e⟩
 | ref p =>
  cases r;rcases ty with ⟨rfl,xs,hq⟩ | ⟨rfl,o,hk,hc,hd⟩ | ⟨rfl,hk⟩ | ⟨rfl,S,n,hk⟩
  ·obtain ⟨its,_,pl,_⟩:=I.list hq
   refine ⟨pl.isList.typeIs,λa e=>?_⟩;cases e;obtain ⟨o,n,e,c,hd,_⟩:=pl;exact ⟨o,e,hd⟩
  ·refine ⟨⟨o,I.kIn p o hk,hc⟩,λa e=>?_⟩
   cases e;exact ⟨o,I.kIn _ o hk,hd⟩
  ·have z:∃ o,s.heap.get? p=some o/\o.ExactDict:=by
    rcases hk with ⟨kvs,hk⟩ | ⟨kvs,hk⟩
    ·obtain ⟨_,_,_,_,o,_,_,e,ex,_⟩:=I.hok p _ hk
     exact ⟨o,e,ex⟩
    ·obtain ⟨_,_,_,_,o,_,_,e,ex,_⟩:=I.hok p _ hk
     exact ⟨o,e,ex⟩
   obtain ⟨o,e,ex⟩:=z;refine ⟨⟨o,e,ex.1⟩,λa e2=>?_⟩;cases e2;exact ⟨o,e,ex.2.1⟩
  ·obtain ⟨o,_,_,_,e,ex,_⟩:=I.hok p _ hk
   refine ⟨⟨o,e,ex.1⟩,λa e2=>?_⟩;cases e2;exact ⟨o,e,ex.2.1⟩
 | _=>exact False.elim ty
def tBM0 (K:Fg) (T:String) (r:V->Jm->Hp->VK->Prop) (to:TE):TE:=λσ H Q=>to σ H λx H1=>tyV K T x H1/\r x [] H1 Q
def tBM (K:Fg) (T:String) (r:V->Jm->Hp->VK->Prop) (to:TE) (t:TA):TE:=λσ H Q=>to σ H λx H1=>tyV K T x H1/\t σ H1 λxs H2=>r x xs H2 Q
variable {o e:Expr} {es:Jg} {to:TE} {t:TA} {name:Str} {apos cpos:Pos} {T id:String} {r:V->Jm->Hp->VK->Prop}
def pe_bm0 (pa:PlainAttrs T) (slot:Slot T name id) (hty:typeOf (.builtin id)=pure (.type "method_descriptor")) (hm:MtR X id r) (ho:PE X o to)
  (hbase:attributeBase o name X.env (eval o X.env)=eval o X.env:=by rfl) (hline:(apos.endLine == cpos.line)=true:=by rfl):PE X (.Call (.Attribute o name apos) [] [] cpos) (tBM0 X.K T r to):=by
 intro pins s σ H Q I h;refine wpAny_Call_method0_late hbase hline (thn (ho pins s σ H _ I h) λv s1 ⟨x,H1,I1,r1,ty,q1⟩=>?_);obtain ⟨h1,h2⟩:=tyV_is I1 r1 ty;exact ⟨T,id,pa,slot,hty,h1,h2,Calls.callWith_builtin rfl (PySem.evalArgs_none (hm pins s1 σ H1 x [] v [] Q I1 r1 .nil q1))⟩
def xI (pa:PlainAttrs T) (slot:Slot T name id) (hty:typeOf (.builtin id)=pure (.type "method_descriptor")) (hm:MtR X id r) (ho:PE X o to) (ha:PA X (e::es) t)
  (hbase:attributeBase o name X.env (eval o X.env)=eval o X.env:=by rfl)
  (hfew:((backTo cpos (starEach (e::es) X.env)).all (λx=>!x.1) && (backToKw cpos (keywordEach [] X.env)).all (λx=>x.1.isSome)
   && decide ((e::es).length+([]:List Keyword).length+(if ([]:List Keyword).isEmpty then 0 else 1)<30))=true:=by rfl)
  (hline:(apos.endLine == cpos.line)=true:=by rfl) (hs:starEach (e::es) X.env=(false,eval e X.env)::starEach es X.env:=by rfl) (hplain:(backTo cpos (starEach es X.env)).any (·.1)=false:=by rfl) :
  PE X (.Call (.Attribute o name apos) (e::es) [] cpos) (tBM X.K T r to t):=by
 intro pins s σ H Q I h;refine wpAny_Call_method_late hbase hfew hline rfl (thn (ho pins s σ H _ I h) λv s1 ⟨x,H1,I1,r1,ty,q1⟩=>?_);obtain ⟨h1,h2⟩:=tyV_is I1 r1 ty;refine ⟨T,id,pa,slot,hty,h1,h2,?_⟩;have hA:=ha cpos pins s1 σ H1 _ I1 q1;rw [hs] at hA ⊢;refine Calls.callWith_builtin (by show (false || (backTo cpos (starEach es X.env)).any (·.1))=false;rw [hplain] <;> rfl) (Calls.evalArgs_plain ?_);exact thn hA λus s2 ⟨vs,H2,I2,r2,q2⟩=>hm pins s2 σ H2 x vs v us Q I2 r1 r2 q2
/- xs.append(e),list.index on a module's tuple .. are MtR facts of 06m -/
end
def MtM (X:Cx) (id:String) (r:V->Jm->Hp->VK->Prop):Prop :=
 ∀ (pins:Jb) (s:Sh) (σ:St) (H:Hp) (x:V) (xs:Jm) (v:Vl) (us:Jc) (Q:VK),Inv X pins σ H s->RelV x v->Vals xs us->r x xs H Q ->
  wpAny (model X.prog X.w) X.A (call (.builtin id) (v::us)) (EP X pins σ Q) X.xe s
theorem Vals.one:∀ {x:V} {us:Jc},Vals [x] us->∃ u,us=[u]/\RelV x u
 | _,_,.cons r .nil=>⟨_,rfl,r⟩
theorem Vals.zero:∀ {us:Jc},Vals [] us->us=[]
 | _,.nil=>rfl
def Vals.dropLast {xs:Jm} {us:Jc} (h:Vals xs us):Vals xs.dropLast us.dropLast:=by
 induction h with
 | nil=>exact .nil
 | cons r t ih =>
  cases t with
  | nil=>exact .nil
  | cons q t'=>exact .cons r ih
def zal {α:Type} (l:List α):l.eraseIdx (l.length-1)=l.dropLast:=by
 induction l with
 | nil=>rfl
 | cons a r ih =>
  cases r with
  | nil=>rfl
  | cons b r =>
   have e:(a::b::r).length-1=((b::r).length-1)+1:=by
    have h1:(a::b::r).length=r.length+2:=rfl;have h2:(b::r).length=r.length+1:=rfl;omega
   rw [e,List.eraseIdx_cons_succ,ih]
   all_goals rfl
section
variable {X:Cx} {pins:Jb} {σ:St} {H:Hp} {s:Sh} {l b:Ad} {xs ys zs:Jm}
def Inv.lset {its its':Jc} {n:Nat} {f:Array Vl->Array Vl} {t':Nat} (I:Inv X pins σ H s) (hH:H l=some (.lst xs))
  (e:s.heap.get? l=some { cls:=.type "list",data:=.seq its.toArray n }) (hf:f its.toArray=its'.toArray) (hv:Vals ys its') (hz:ys.length<=sizeLine) :
  Inv X pins σ (upd H l (.lst ys)) { s with heap:=s.heap.update l (Obj.mapSeq f),toks:=t' }:=by
 have q:=PySem.IsL.update e f;rw [hf] at q;refine I.write (x:=l) (e:=l) (by rw [hH];exact trivial) (.inl rfl) (λb' u hb hu=>(Heap.get?_update_other s.heap (Obj.mapSeq f) (Ne.symm hb)).trans hu) ⟨_,q⟩ ?_;exact ⟨hz,its',_,hv,q⟩
def Inv.lnew {its:Jc} {t':Nat} (I:Inv X pins σ H s) (hv:Vals ys its) (hz:ys.length<=sizeLine) :
  Inv X pins σ (upd H s.heap.objs.size (.lst ys)) { s with heap:=s.heap.push { cls:=.type "list",data:=.seq its.toArray },toks:=t' } :=
 I.laid (λ_ _ q=>Heap.get?_push_of_some _ q) (Nat.le_refl _) ⟨hz,its,0,hv,Heap.get?_push_size _ rfl⟩
def Inv.fresh (I:Inv X pins σ H s):H s.heap.objs.size=none:=I.hok.fresh (Nat.le_refl _)
def Inv.lstM (I:Inv X pins σ H s) (hH:H l=some (.lst xs)):xs.length<=sizeLine/\∃ (its:Jc) (n:Nat),Vals xs its/\xs.length=its.length/\s.heap.get? l=some { cls:=.type "list",data:=.seq its.toArray n }:=by
 obtain ⟨z,its,n,r,e⟩:=I.hok l _ hH;exact ⟨z,its,n,r,r.length,e⟩
def notLongL {n:Nat} (h:n<=sizeLine):Builtin.List.listTooLong n=false:=by
 unfold Builtin.List.listTooLong;exact decide_eq_false (by omega)
end
section
variable {X:Cx}
inductive rAppend (x:V) (vs:Jm) (H:Hp) (Q:VK):Prop
 | mk (l xs y:_) (_:x=.ref l) (_:vs=[y]) (_:H l=some (.lst xs)) (_:xs.length<sizeLine) (_:Q .non (upd H l (.lst (xs++[y]))))
def yr:MtM X "list.append" rAppend:=by
 intro pins s σ H x vs v us Q I rx rv h;obtain ⟨l,xs,y,rfl,rfl,hH,hz,q⟩:=h;cases rx;obtain ⟨u,rfl,ru⟩:=rv.one;obtain ⟨z,its,n,r,hl,e⟩:=I.lstM hH;refine call_meets F.slot_list_append ⟨_,e,rfl⟩ F.entry_list_append (F.args_list_append_2 _ _) (PySem.list_append l its.toArray n u (by rw [List.size_toArray];omega)) ⟨e,?_⟩;refine ⟨.non,_,I.lset (its':=its++[u]) hH e (by simp) (r.append (.cons ru .nil)) ?_,rfl,q⟩;rw [Ji,List.length_singleton];omega
inductive rExtend (x:V) (vs:Jm) (H:Hp) (Q:VK):Prop
 | mk (l b:_) (xs zs:_) (_:x=.ref l) (_:vs=[.ref b]) (_:H l=some (.lst xs)) (_:H b=some (.lst zs)) (_:xs.length+zs.length<=sizeLine) (_:Q .non (upd H l (.lst (xs++zs))))
def YT:MtM X "list.extend" rExtend:=by
 intro pins s σ H x vs v us Q I rx rv h;obtain ⟨l,b,xs,zs,rfl,rfl,hH,hB,hz,q⟩:=h;cases rx;obtain ⟨u,rfl,ru⟩:=rv.one;cases ru;obtain ⟨z,its,n,r,hl,e⟩:=I.lstM hH;obtain ⟨z2,its2,n2,r2,hl2,e2⟩:=I.lstM hB;have hsz:its.toArray.size+its2.toArray.size<=sizeLine:=by rw [List.size_toArray,List.size_toArray];omega
 have hlong:¬ (!its.toArray.isEmpty && Builtin.List.listTooLong (its.toArray.size+its2.toArray.size))=true:=by
  rw [notLongL hsz,Bool.and_false];exact q9z
 refine call_meets F.slot_list_extend ⟨_,e,rfl⟩ F.entry_list_extend (F.args_list_extend_2 _ _)
  (AutoSeq1.list_extend_list_list_0 l its.toArray n b its2.toArray n2 hlong (by rw [List.size_toArray];omega) (by omega)) ⟨e,e2,?_⟩
 refine ⟨.non,_,I.lset (its':=its++its2) hH e (by simp) (r.append r2) ?_,rfl,q⟩;rw [Ji];omega
inductive rPop (x:V) (vs:Jm) (H:Hp) (Q:VK):Prop
 | mk (l xs y:_) (_:x=.ref l) (_:vs=[]) (_:H l=some (.lst xs)) (_:xs[xs.length-1]?=some y) (_:Q y (upd H l (.lst xs.dropLast)))
def mt_pop:MtM X "list.pop" rPop:=by
 intro pins s σ H x vs v us Q I rx rv h;obtain ⟨l,xs,y,rfl,rfl,hH,hy,q⟩:=h;cases rx;have hus:=rv.zero;subst hus;obtain ⟨z,its,n,r,hl,e⟩:=I.lstM hH;obtain ⟨u,hu,ru⟩:=r.get hy
 have hy':its.toArray[its.toArray.size-1]?=some u:=by
  show its.toArray[its.length-1]?=some u;rw [← Array.getElem?_toList,← hl];exact hu
 refine call_meets F.slot_list_pop ⟨_,e,rfl⟩ F.entry_list_pop (F.args_list_pop_1 _) (MeetsSeq.list_pop_last l its.toArray n u hy' (by rw [List.size_toArray];omega)) ⟨e,?_⟩;refine ⟨y,_,I.lset (its':=its.dropLast) hH e ?_ r.dropLast ?_,ru,q⟩
 ·show its.toArray.eraseIdxIfInBounds (its.toArray.size-1)=its.dropLast.toArray
  rw [List.size_toArray,List.eraseIdxIfInBounds_toArray,zal]
 ·rw [List.length_dropLast]
  omega
inductive rCat (x y:V) (H:Hp) (Q:VK):Prop
 | mk (l b:_) (xs zs:_) (_:x=.ref l) (_:y=.ref b) (_:H l=some (.lst xs)) (_:H b=some (.lst zs)) (_:xs.length+zs.length<=sizeLine) (_:∀ p,H p=none->Q (.ref p) (upd H p (.lst (xs++zs))))
def xb:OpR X (binaryOp .Add) rCat:=by
 intro pins s σ H x y v u Q I rx ry h;obtain ⟨l,b,xs,zs,rfl,rfl,hH,hB,hz,q⟩:=h;cases rx;cases ry;obtain ⟨z,its,n,r,hl,e⟩:=I.lstM hH;obtain ⟨z2,its2,n2,r2,hl2,e2⟩:=I.lstM hB;refine PySem.P.add_list e e2 ?_ (by rw [List.size_toArray,List.size_toArray];omega);have ea:its.toArray++its2.toArray=(its++its2).toArray:=by simp
 rw [ea];exact ⟨.ref _,_,I.lnew (t':=s.toks) (r.append r2) (by rw [Ji];omega),rfl,q _ I.fresh⟩
end
section
variable {prog:Program} {w:World} {A:Around} {E:J5} {s:Sh}
set_option maxRecDepth 100000 in
end
section
variable {X:Cx}
end
end L2
namespace Att
open PySem PySem.W PySem.Calls PyProof.Rows
def Yf {P:Params} {h:Heap}:∀ (ns:Ja) (vs:Jc),WellAll P h vs (ns.map WData.int)->IntsAre vs ns:=by
 intro ns
 induction ns with
 | nil =>
  intro vs w;rw [List.map_nil] at w;cases w;exact .nil
 | cons n ns ih =>
  intro vs w;rw [List.map_cons] at w
  cases w with
  | cons a b =>
   cases a;exact .cons _ _ (ih _ b)
def script_of {l:OpenLaw} {n:Nat} (hn:l.most=some n) {P:Params} {h:Heap} {args:List WData} {vals:Jc}
  (hpre:l.row.toRowW.claim.pre args=true) (hwl:WellAll P h vals args) :
  ∃ a vs ns,vals=[Value.ref a]/\args=[WData.list (ns.map WData.int)]/\h.get? a=some { cls:=.type "list",data:=.seq vs.toArray }/\IntsAre vs ns/\ns.length<=n:=by
 have hsh:WShape.hasAll [] args [.list .int]=true:=(pre_splitW hpre).1;have hc:l.pre.holds [] { args:=args }=true:=(pre_splitW hpre).2;obtain ⟨d,r,rfl,h1,h2⟩:=hasAllW_cons hsh;obtain rfl:=hasAllW_nil h2;obtain ⟨xs,rfl,h3⟩:=hasW_list h1;obtain ⟨ns,rfl⟩:=items_int h3
 have hlen:ns.length<=n:=by
  unfold OpenLaw.pre at hc
  have h4:(WTm.not (.lt (.lit (.int (n:Int))) (.len (.arg 0)))).holds [] { args:=[.list (ns.map .int)] }=true:=by
   have h4:=(holds_andW hc).1;rw [hn] at h4;exact h4
  have h5:=condW_of h4 (w_not (w_lt w_lit (w_len_list (w_arg rfl))));rw [Jh] at h5;refine Nat.le_of_not_lt λq=>?_;have q':(n:Int)<((ns.length:Nat):Int):=by omega
  first
   | (rw [decide_eq_true q'] at h5;exact absurd h5 (by decide))
   | (simp at h5;omega)
 cases hwl with
 | cons w1 w2 =>
  cases w2
  cases w1 with
  | list ho hall=>exact ⟨_,_,ns,rfl,rfl,ho,Yf ns _ hall,hlen⟩
def post_true (l:OpenLaw) (args:List WData):l.row.toRowW.claim.post args (.bool true) args=true :=
 postW_of (r:=l.row.toRowW) (X:=(true == true))
  (show WShape.has [] (.bool true) .bool=true by first | rfl | decide | simp [WShape.has,WShape.arms,WShape.armsAll])
  (show (WTm.eq .res (.lit (.bool true))).value [] { args:=args,res:=some (.bool true),after:=args }=some (.bool (true == true)) from w_eq_bool (w_res rfl) w_lit) rfl
def attach_call {l:OpenLaw} {n:Nat} {q:Program} {loose:Je} {XP:(J0)->Heap->Prop} {YP:World->Heap->Prop} {d:DefRec}
  (hn:l.most=some n) (hdf:d.params.defaults=[])
  (call:∀ (w:World) (s₀ s₁:Sh) (mg mb:J0) (fa:Ad) (o:Obj) (pm cd doc:Vl) (a:Ad) (vs:Jc) (ns:Ja),
   Ground q loose [] XP w s₀ mg mb s₁.heap->YP w s₁.heap ->
   s₁.heap.get? fa=some o->o.data=.func (docDef d.name d.params d.body d.scope pm cd doc)->s₁.heap.CodeRec cd d.name->mg d.name=some (.ref fa) ->
   s₁.heap.get? a=some { cls:=.type "list",data:=.seq vs.toArray }->IntsAre vs ns->ns.length<=n->s₁.gens=#[] ->
   codeAny (model l.prog w) callerA (.call (.ref fa) ⟨[.ref a],[]⟩) (λr s'=>r=.ok (.ret (.bool true))/\OldK s₁.heap s'.heap/\s'.os=s₁.os/\AllBare s'.gens) s₁) :
  WalkO q loose XP YP l.row.toRowW d [] (λf vs=>PySem.call f vs):=by
 intro w s₀ s₁ mg mb G Y fa o pm cd doc dV kV ho hd hcd hD hmg hg args vals as hpre hlay hrd hwl hlo;obtain rfl:dV=.none:=Dflts.none hD hdf;obtain rfl:kV=.none:=Dflts.noKw hD;obtain ⟨a,vs,ns,rfl,rfl,hobj,hints,hlen⟩:=script_of hn hpre hwl;refine enter_call (codeAny_mono (call w s₀ s₁ mg mb fa o pm cd doc a vs ns G Y ho (fd_plain hd) hcd hmg hobj hints hlen hg) λr s' hq=>?_);obtain ⟨rfl,h2,h3,h4⟩:=hq;exact ⟨.inl ⟨.bool true,.bool true,[],rfl,λ_=>rfl,.bool true,post_true l _,λ_=>⟨List.Pairwise.nil,λ_ hm=>(nomatch hm)⟩⟩,h2,h3,h4⟩
section
variable {prog:Program} {w:World} {A:Around} {E:J5} {s:Sh} {K:Frag}
def ledger (h:Heap) (L d:Ad):Jb:=(List.range h.objs.size).filterMap λa=>if a=L∨a=d then none else (h.get? a).map λo=>(a,o)
end
end Att
namespace L2
open PySem PySem.Spec PyProof.Rows
theorem YO:∀ {vs:Jc} {ns:Ja},IntsAre vs ns->Vals (ns.map V.int) vs
 | _,_,.nil=>.nil
 | _,_,.cons n t h=>.cons ⟨t,rfl⟩ (YO h)
def Only (H:Hp):Prop:=∀ b,H b=none∨∃ o xs,H b=some (.frz o (.lst xs))
def law_call {P:Program} {w:World} {K:Fg} {mg mb:J0} {CX:CXT} {k:Nat} {fa a:Ad} {fd:FuncData} {x:Str} {sp:Sp} {s₁:Sh} {vs:Jc} {ns:Ja}
  (KX:K.In s₁.heap) (hns:s₁.heap.Ns mainGlobals mg) (hb:s₁.heap.Ns builtinsNs mb) (hbb:∀ x:Str,x≠"__name__"->mb x=bootBuiltins x) (hlim:s₁.heap.NoLimit) (hg:s₁.gens=#[])
  (ha:s₁.heap.get? a=some { cls:=.type "list",data:=.seq vs.toArray }) (hi:IntsAre vs ns) (hl:ns.length<=sizeLine) (hr:Room k callerA)
  (F:∀ base:Heap,K.In base->base.Ns mainGlobals mg->FnOk P w K mg base CX k fa fd [x] sp) (hbind:∀ (s:Sh) (u:Vl),BindsTo s fd ⟨[u],[]⟩ [(x,u)])
  (hsp:∀ H:Hp,Only H->SqL K H a (ns.map V.int)->sp [.ref a] H (λv _=>v=.bl true) λ_ _ _=>False)
  (hCX:∀ H e s',CX [] H s₁ (λ_ _ _=>False) e s'->False) :
  codeAny (model P w) callerA (.call (.ref fa) ⟨[.ref a],[]⟩) (λr s'=>r=.ok (.ret (.bool true))/\OldK s₁.heap s'.heap/\s'.os=s₁.os/\AllBare s'.gens) s₁:=by
 have rv:=YO hi;have lenV:=hi.length
 have core:∀ H:Hp,Only H->SqL K H a (ns.map V.int)->HOk P w H s₁.heap->(∀ b,H b≠none->b=a)->(H a≠none->K.lookup a=none) ->
   codeAny (model P w) callerA (.call (.ref fa) ⟨[.ref a],[]⟩) (λr s'=>r=.ok (.ret (.bool true))/\OldK s₁.heap s'.heap/\s'.os=s₁.os/\AllBare s'.gens) s₁:=by
  intro H hO hS hok hA hK;have base_of:∀ {b:Ad} {o:Obj},s₁.heap.get? b=some o->H b=none->(hidT s₁.heap H).get? b=some o:=λe n=>hidT_get e n
  have noA:∀ {b:Ad} {o:Obj} {es:Array DictEntry} {ep:Nat},s₁.heap.get? b=some o->o.data=.dict es ep->H b=none:=λ{b o es ep} e d=>by
   cases q:H b with
   | none=>rfl
   | some u =>
    have e':b=a:=hA b (by rw [q];simp);subst e';rw [ha] at e;cases e;have d':Data.seq vs.toArray _=Data.dict es ep:=d;cases d'
  have nsK:∀ {b:Ad} {m:J0},s₁.heap.Ns b m->(hidT s₁.heap H).Ns b m:=λ{b m} ⟨o,es,ep,e,d,r⟩=>⟨o,es,ep,base_of e (noA e d),d,r⟩
  have hKb:K.In (hidT s₁.heap H):=λb o e=>base_of (KX b o e) (by
   cases q:H b with
   | none=>rfl
   | some u =>
    have e':b=a:=hA b (by rw [q];simp);subst e';rw [hK (by rw [q];simp)] at e;cases e)
  have hM:Mod K mg (hidT s₁.heap H):=⟨hKb,nsK hns,⟨mb,nsK hb,hbb⟩,let ⟨mc,h1,h2⟩:=hlim;⟨mc,nsK h1,h2⟩⟩;have e0:Env0 P w K mg (hidT s₁.heap H) callerA [] s₁ H:=⟨rfl,hM,λb o e=>of_hidT e,Nat.le_of_eq (hidT_size _ _),trivial,λb hb=>absurd (show b∈([]:Jf) from hb) (by simp),hok,.of_eq hg⟩;refine codeAny_mono ((F _ hKb (nsK hns)).run callerA [] s₁ H ⟨[.ref a],[]⟩ [.ref a] [.ref a] _ _ hr e0 (hbind s₁ (.ref a)) (.cons rfl .nil) (hsp H hO hS)) λr s' h=>?_
  cases r with
  | error e=>exact (hCX H e s' h).elim
  | ok fl =>
   cases fl with
   | next=>exact False.elim h
   | brk=>exact False.elim h
   | cont=>exact False.elim h
   | ret u =>
    obtain ⟨v,H',os,bare,un,hok',r',q⟩:=h;have q':v=.bl true:=q;subst q';obtain rfl:u=Value.bool true:=r';refine ⟨rfl,OldK.of_keep λb o e=>?_,os,bare⟩
    cases q:H b with
    | none=>exact un.keep b o e q (by intro z;exact absurd (show b∈([]:Jf) from z) (by simp)) (by simp)
    | some u =>
     rcases hO b with z | ⟨ob,xs,z⟩
     ·rw [q] at z;cases z
     ·have z2:=un.frzs b ob _ z
      obtain ⟨e1,_⟩:=hok b _ z;obtain ⟨e2,_⟩:=hok' b _ z2;rw [e] at e1;cases e1;exact e2
 cases hk:K.lookup a with
 | some o =>
  have e:=KX a o hk;rw [ha] at e;cases e;refine core (λ_=>none) (λ_=>.inl rfl) (.inr ⟨_,vs.toArray,_,hk,rfl,rfl,rfl,by rw [List.size_toArray,lenV];exact hl,by simpa using rv⟩) (λb u z=>by have z':(none:Option HO)=some u:=z;cases z') (λb z=>absurd rfl z) λz=>absurd rfl z
 | none =>
  refine core (λb=>if b=a then some (.frz { cls:=.type "list",data:=.seq vs.toArray } (.lst (ns.map V.int))) else none) (λb=>?_) (.inl (.inr ⟨{ cls:=.type "list",data:=.seq vs.toArray },if_pos rfl⟩)) (λb u z=>?_) (λb z=>?_) λ_=>hk
  ·by_cases hb:b=a
   ·exact .inr ⟨_,_,if_pos hb⟩
   ·exact .inl (if_neg hb)
  ·by_cases hb:b=a
   ·have z':=(if_pos hb).symm.trans z
    cases z';subst hb;exact ⟨ha,by rw [Jh];exact hl,vs,_,rv,ha⟩
   ·have z':=(if_neg hb).symm.trans z
    cases z'
  ·by_cases hb:b=a
   ·exact hb
   ·exact absurd (if_neg hb) z
def walk_of {l:PySem.W.OpenLaw} {n k:Nat} {q:Program} {loose:Je} {XP:(J0)->Heap->Prop} {YP:World->Heap->Prop} {d:DefRec} {K:Params->Fg} {CX:World->CXT} {sp:World->Sp} {x:Str}
  (hn:l.most=some n) (hn2:n<=sizeLine) (hdf:d.params.defaults=[]) (hr:Room k callerA)
  (hY:∀ (w:World) (h:Heap),YP w h->(K w.params).In h)
  (F:∀ (w:World) (mg:J0) (fa:Ad) (h:Heap),(K w.params).In h->h.Ns mainGlobals mg->mg d.name=some (.ref fa) ->
   ∃ fd:FuncData,(∀ (s:Sh) (u:Vl),BindsTo s fd ⟨[u],[]⟩ [(x,u)]) /\
    ∀ base:Heap,(K w.params).In base->base.Ns mainGlobals mg->FnOk l.prog w (K w.params) mg base (CX w) k fa fd [x] (sp w))
  (hsp:∀ (w:World) (H:Hp) (a:Ad) (ns:Ja),ns.length<=n->Only H->SqL (K w.params) H a (ns.map V.int)->sp w [.ref a] H (λv _=>v=.bl true) λ_ _ _=>False)
  (hCX:∀ (w:World) (H:Hp) (s:Sh) (e:Vl) (s':Sh),CX w [] H s (λ_ _ _=>False) e s'->False) :
  PySem.W.WalkO q loose XP YP l.row.toRowW d [] (λf vs=>PySem.call f vs):=by
 refine Att.attach_call hn hdf λw s₀ s₁ mg mb fa o pm cd doc a vs ns G Y ho hd hcd hmg hobj hints hlen hg=>?_;have KX:=hY w _ Y;obtain ⟨fd,hb,hF⟩:=F w mg fa _ KX G.T.g hmg;exact law_call KX G.T.g G.T.b G.T.builtins G.T.nolimit hg hobj hints (Nat.le_trans hlen hn2) hr hF hb (λH hO hS=>hsp w H a ns hlen hO hS) λH e s'=>hCX w H s₁ e s'
end L2
/- THE LAST THEOREM (shape;LID,My.* are yours):
   My.Adr: a structure of the addresses that your layer names (classes,functions);My.Txt K t: a structure (Prop) of the equations over K;
   My.txt_mk:{K} {implicit addresses ..} (e1:nsIn K mainGlobals "law"=some (some (.ref f))) (e2:K.lookup f=some ⟨oc,od,.func (fnOf "law" "law" params body scope dV kV doc pm an cdv ct),sl⟩) (e3:codeIn K cdv "law"=true) ..:∃ t,My.Txt K t
set_option maxRecDepth 100000 in
set_option maxHeartbeats 0 in
(the tactic k_is has no namespace: write k_is) -/
namespace L2
open PySem PySem.Spec PyProof.Rows
def yo (s:Stmt) (j:Nat):Stmt:=match s with
 | .ClassDef _ _ _ body _ _ _ _ _ _ _=>body.getD j (.Pass ⟨0,0,0,0⟩)
 | _=>.Pass ⟨0,0,0,0⟩
def yk (s:Stmt):Arguments:=match s with
 | .FunctionDef _ a _ _ _ _ _ _ _ _=>a
 | _=>{ posonlyargs:=[],args:=[],vararg:=none,kwonlyargs:=[],kw_defaults:=[],kwarg:=none,defaults:=[] }
def z8 (s:Stmt):List Stmt:=match s with
 | .FunctionDef _ _ b _ _ _ _ _ _ _=>b
 | _=>[]
def zm (s:Stmt):Scope:=match s with
 | .FunctionDef _ _ _ _ _ _ sc _ _ _=>sc
 | _=>{ kind:=.function,names:=[],isGenerator:=false,isCoroutine:=false }
abbrev CX0:CXT:=λ_ _ _ _ _ _=>False
abbrev E0:XK:=λ_ _ _=>False
def zJ {X:Cx}:xK CX0 X E0:=λ_ _ _ _ _ _ _ h=>h.elim
structure Fun (K:Fg) (x qual:Str) (st:Stmt) (f:Ad) (fd:FuncData):Prop where
 ex:∃ (oc:Vl) (od:Option Ad) (kV doc pm:Vl) (an:Option Ad) (cdv ct:Vl) (osl:Array (Jd)),
  fd=PySem.W.fnOf x qual (yk st) (z8 st) (zm st) .none kV doc pm an cdv ct/\K.lookup f=some ⟨oc,od,.func fd,osl⟩/\PySem.W.codeIn K cdv qual=true
 kp:PySem.W.keepIn K (.ref f)=true
section
variable {P:Program} {w:World} {K:Fg} {mg:J0} {base:Heap}
def Fun.ok {x qual:Str} {st:Stmt} {f:Ad} {fd:FuncData} {N ps:Je} {k:Nat} {sp:Sp} (F:Fun K x qual st f fd) (S:FnScope N ps (zm st)) (len:∀ vs H Q E,sp vs H Q E->vs.length=ps.length)
  (hbody:∀ (cdv:Vl) (A:Around) (outer:List Env) (s:Sh) (H:Hp) (vs:Jm) (Q:VK) (E:XK),Room k (A.deeper (envOfC qual (zm st) s.heap.objs.size f cdv))->sp vs H Q E ->
   ∃ t,PSs (cxOf CX0 P w K mg base N qual (zm st) f cdv A outer s H E).nox (z8 st) t/\t { nx:=λ_ H'=>Q .non H',rt:=Q } (start N vs) H):FnOk P w K mg base CX0 (k+1) f fd ps sp:=by
 obtain ⟨oc,od,kV,doc,pm,an,cdv,ct,osl,rfl,lk,hcd⟩:=F.ex;refine fn_of lk hcd S len λA outer s H vs Q E hr hsp=>?_;obtain ⟨t,h,q⟩:=hbody cdv A outer s H vs Q E hr hsp;exact ⟨t,h.nox,q⟩
def Fun.binds {x qual:Str} {st:Stmt} {f:Ad} {fd:FuncData} {ps:Je} (F:Fun K x qual st f fd)
  (h:∀ (kV doc pm:Vl) (an:Option Ad) (cdv ct:Vl) (us:Jc),us.length=ps.length->bindArgs (PySem.W.fnOf x qual (yk st) (z8 st) (zm st) .none kV doc pm an cdv ct) ⟨us,[]⟩=pure (ps.zip us)):Binds K fd ps []:=by
 obtain ⟨oc,od,kV,doc,pm,an,cdv,ct,osl,rfl,lk,hcd⟩:=F.ex;exact .all (h kV doc pm an cdv ct)
def ZN {x qual:Str} {st:Stmt} {f:Ad} {oc:Vl} {od an:Option Ad} {osl:Array (Jd)} {kV doc pm cdv ct:Vl} (l:K.lookup f=some ⟨oc,od,.func (PySem.W.fnOf x qual (yk st) (z8 st) (zm st) .none kV doc pm an cdv ct),osl⟩)
  (c:PySem.W.codeIn K cdv qual=true) (k:PySem.W.keepIn K (.ref f)=true):Fun K x qual st f (PySem.W.fnOf x qual (yk st) (z8 st) (zm st) .none kV doc pm an cdv ct):=⟨⟨oc,od,kV,doc,pm,an,cdv,ct,osl,rfl,l,c⟩,k⟩
end
section
variable {X:Cx}
def pv (i:Nat) {x:Str} {pos:Pos} (hN:X.N[i]?=some x:=by rfl) (hv:Vis X.env.scope x:=by first | exact Or.inl rfl | exact Or.inr (Or.inl rfl) | exact Or.inr (Or.inr rfl)) (hd:(x == ("__debug__":Str))=false:=by decide)
  (hcd:(x == ("__classdict__":Str))=false:=by decide):PE X (.Name x pos) (tVar i):=pe_var hN hv hd hcd
end
def zU {A B:Prop} (h:B):if false=true then A else B:=by
 rw [if_neg q9z];exact h
def yB {A B:Prop} (h:A):if true=true then A else B:=by
 rw [if_pos rfl];exact h
def z7 {c A B:Prop} [Decidable c] (h1:c->A) (h2:¬ c->B):if c then A else B:=by
 by_cases h:c
 ·rw [if_pos h]
  exact h1 h
 ·rw [if_neg h]
  exact h2 h
def Same (H H':Hp):Prop:=∀ b o,H b=some o->H' b=some o
def Same.refl (H:Hp):Same H H:=λ_ _ h=>h
def Same.trans {H H1 H2:Hp} (a:Same H H1) (b:Same H1 H2):Same H H2:=λc o h=>b c o (a c o h)
def Same.free {H H':Hp} (e:Same H H') {l:Ad} (h:H' l=Option.none):H l=Option.none:=by
 cases q:H l with
 | none=>rfl
 | some o =>
  rw [e l o q] at h;cases h
structure Fly (base:Heap) (outer:List Env) (H:Hp) (s h:Heap) (e:Ad) (cls:Vl):Prop where
 stays:base.StaysIn h
 frames:h.FunFrames base outer
 baseE:base.get? e=none
 newE:s.get? e=none
 freeE:H e=none
 tr:∃ oe vs T oT ts,h.get? e=some oe/\oe.cls=cls/\oe.data=.fields vs/\vs[1]?=some (.ref T)/\T≠e/\h.get? T=some oT/\oT.data=.fields ts/\ts[3]?=some .none/\base.get? T=none/\s.get? T=none/\H T=none
def CXe (P:Program) (w:World) (base:Heap):CXT:=λouter H s E e s' =>
 ∃ (ea C:Ad) (H':Hp),e=.ref ea/\s'.os=s.os/\AllBare s'.gens/\Un (frs outer) [] H H' s.heap s'.heap/\HOk P w H' s'.heap/\Fly base outer H' s.heap s'.heap ea (.ref C)/\E (.ref C) none H'
section
variable {X:Cx} {pins:Jb} {σ:St} {H:Hp} {s:Sh} {e:Ad} {cls:Vl}
end
section
variable {X:Cx} {pins:Jb} {σ:St} {H H':Hp} {s s':Sh} {e:Ad} {cls:Vl}
end
section
variable {P:Program} {w:World} {K:Fg} {mg:J0} {base:Heap} {N:Je} {qual:Str} {scope:Scope} {f:Ad} {cd:Vl} {A:Around} {outer:List Env} {s:Sh} {H:Hp} {E:XK}
end
end L2
namespace My
open PySem PySem.Spec PySem.Calls PySem.W PyProof.Rows PySem.Builtin PySem.Builtin.ObjectAttr PySem.Builtin.Getset_descriptor
def ClsAt (x D:Ad) (h:Heap):Prop:=∃ o,h.get? x=some o/\o.cls=.ref D
def ZT {x D:Ad} (M:Model) (h:Heap) (p:ClsAt x D h):Looks M h (typeOf (.ref x)) (.ref D):=by
 obtain ⟨o,a,b⟩:=p;exact b ▸ (Looks.ld a).andThen .now
def find_data {K:Frag} {M:Model} {h:Heap} (X:K.In h) {x D:Ad} {name:Str} {g a:Vl} (ha:findIn K (.ref D) name=some (some a)) (hn:specialIn K a "__get__"=some (some g)) (htk:takesIn K a=some true) :
  Looks M h (find (.ref x) (.ref D) name) (.bind g a) :=
 (looks_findIn X ha).andThen ((show Looks M h (getOf (some a)) (some g) from looks_specialIn X hn).andThen ((show Looks M h (dataDescriptor? (some a) (some g)) (some (g,a)) from (looks_takesIn X htk).andThen .now).andThen (Looks.tag .now)))
section
variable {prog:Program} {w:World} {A:Around} {E:J5} {s:Sh} {K:Frag} {x D:Ad} {R:Result->Sh->Prop}
def class_of {tp:Vl} (X:K.In s.heap) (p:ClsAt x D s.heap) (hm:mroIn K D (.type "object")=some true) (h:R (.ok (.ret (.ref D))) s) :
  codeAny (model prog w) A (.call (.builtin "getset_descriptor.__get__") ⟨[.builtin "object.__class__",.ref x,tp],[]⟩) R s:=by
 obtain ⟨h0,g0,d0,t0,o0⟩:=s;have T0:=ZT (model prog w) h0 p;have T1:=looks_mroIn (M:=model prog w) X hm;refine codeAny_call_builtin KF.slot_gs.plain KF.entry_gs (KF.slot_gs.check _ _ _ _ _ _ _ _ KF.type_class (KF.args_gs _ _ _) ?_);unfold Builtin.«getset_descriptor.__get__» descrGet;rw [dga_obj];refine q0x (q0y ?_);unfold descrGetter descrCheckInstance descrNameAndClass isInstance;simp only [KF.owner_class]
 repeat lk
 refine ⟨Code.quiet_builtin _ (by decide +kernel),codeAny_builtin KF.entry_class ?_⟩;unfold Builtin.«object.__class__» shownTypeOf
 repeat lk
 exact h
def ga_check {M:Model} {Q:Unit->Sh->Prop} {nameV:Vl} {h0:Heap} {g0:Array GenState} {d0:Drawn} {t0:Nat} {o0:OsState} (T0:Looks M h0 (typeOf (.ref x)) (.ref D)) (TS:Looks M h0 (isSubtype (.ref D) (.type "BaseException")) true) (hq:Q () ⟨h0,g0,d0,t0,o0⟩) :
  wpAny M A (checkBuiltinCall "BaseException.__getattribute__" ⟨[.ref x,nameV],[]⟩) Q E ⟨h0,g0,d0,t0,o0⟩:=by
 have e1:builtinKind "BaseException.__getattribute__"=some .slot:=by decide +kernel
 have e2:splitId "BaseException.__getattribute__"=some ("BaseException","__getattribute__"):=by decide +kernel
 have e3:=F.args_bexc_ga (.ref x) nameV;simp only [checkBuiltinCall,e1,e2];refine q0x ?_;unfold isInstance
 repeat (first | lk | wp_step)
 exact hq
def ga_entry {Q:Fin->Sh->Prop} {tk:Tok} {h0:Heap} {g0:Array GenState} {d0:Drawn} {t0:Nat} {o0:OsState} (X:K.In h0) (p:ClsAt x D h0) (ha:findIn K (.ref D) "__class__"=some (some (.builtin "object.__class__")))
  (hn:specialIn K (.builtin "object.__class__") "__get__"=some (some (.builtin "getset_descriptor.__get__"))) (htk:takesIn K (.builtin "object.__class__")=some true) (hm:mroIn K D (.type "object")=some true) (hq:Q (.done (.ret (.ref D))) ⟨h0,g0,d0,t0,o0⟩) :
  wpAny (model prog w) A (Builtin.«object.__getattribute__» ⟨[.ref x,.str "__class__" tk],[]⟩) Q E ⟨h0,g0,d0,t0,o0⟩:=by
 have T0:=ZT (model prog w) h0 p;have T2:=find_data (M:=model prog w) X (x:=x) ha hn htk;unfold Builtin.«object.__getattribute__»;refine q0x (q0y ?_)
 repeat (first | (with_reducible refine q0x (T0.at ?_)) | (with_reducible refine q0x (T2.at ?_)) | wp_step)
 refine class_of (s:=⟨h0,g0,d0,t0,o0⟩) X p hm ?_
 repeat (any_goals (first | assumption | wp_step))
def zan {Q:Jd->Sh->Prop} (hg:findIn K (.ref D) "__getattribute__"=some (some (.builtin "BaseException.__getattribute__"))) (hgg:findIn K (.ref D) "__getattr__"=some none) (hsb:subIn K (.ref D) (.type "BaseException")=some true) (ha:findIn K (.ref D) "__class__"=some (some (.builtin "object.__class__")))
  (hn:specialIn K (.builtin "object.__class__") "__get__"=some (some (.builtin "getset_descriptor.__get__"))) (htk:takesIn K (.builtin "object.__class__")=some true) (hm:mroIn K D (.type "object")=some true)
  (X:K.In s.heap) (p:ClsAt x D s.heap) (h:Q (some (.ref D)) { s with toks:=s.toks+1 }):wpAny (model prog w) A (getAttr? (.ref x) "__class__") Q E s:=by
 obtain ⟨h0,g0,d0,t0,o0⟩:=s;have T0:=ZT (model prog w) h0 p;have T1:=looks_findIn (M:=model prog w) X hg;have T3:=looks_findIn (M:=model prog w) X hgg;have TS:=looks_subIn (M:=model prog w) X hsb;have f3:=F.excAttr_ValueError.ga.bind (.ref x);have hx2:(Value.builtin "BaseException.__getattribute__" == Value.builtin "object.__getattribute__")=false:=by decide +kernel
 have hx1:(onTheHeap (Value.ref D) && Value.builtin "BaseException.__getattribute__" == Value.builtin "object.__getattribute__")=false:=by rw [hx2];rfl
 unfold getAttr? getAttrBy? getAttrBy;refine q0x (wpAny_mkText (q0x (wpAny_attempt (wpAny_holding (q0x (T0.at (q0x (T1.at ?_))))))));dsimp only;rw [if_neg (by rw [hx1];exact q9z)];unfold getAttrByItsOwn hookBefore;rw [if_pos (show onTheHeap (Value.ref D)=true from rfl)];refine q0x (T3.at ?_)
 repeat (any_goals (first | assumption | wp_step | lk))
 refine codeAny_call_builtin F.excAttr_ValueError.ga.plain F.entry_bexc_ga (ga_check T0 TS (ga_entry (K:=K) X p ha hn htk hm ?_))
 repeat (any_goals (first | assumption | wp_step))
def kitx_exc (hg:findIn K (.ref D) "__getattribute__"=some (some (.builtin "BaseException.__getattribute__"))) (hgg:findIn K (.ref D) "__getattr__"=some none) (hsb:subIn K (.ref D) (.type "BaseException")=some true) (hd:hasDictIn K D=true) (ha:findIn K (.ref D) "__class__"=some (some (.builtin "object.__class__")))
  (hn:specialIn K (.builtin "object.__class__") "__get__"=some (some (.builtin "getset_descriptor.__get__"))) (htk:takesIn K (.builtin "object.__class__")=some true) (hm:mroIn K D (.type "object")=some true) :
  KitX K (.ref x) (.ref D) (ClsAt x D) where
 ty:=λM h _ p=>ZT M h p
 it:=λM h X _=>by
  obtain ⟨c,hc,_⟩:=any_some hd;unfold clsIn at hc
  split at hc
  ·rename_i u1 u2 u3 u4 ho
   intro A' Q' E' s' k q;unfold isType loadHead;exact q0x (wpAny_loadPart (k _ _ (X _ _ ho)) (q0y q))
  ·cases hc
 ne:=λh tp dd its n sl X e=>by
  obtain ⟨c,hc,_⟩:=any_some hd;refine Bool.eq_false_iff.mpr λq=>?_;obtain rfl:D=tp:=Value.ref.inj (beq_iff_eq.mp q);unfold clsIn at hc
  split at hc
  ·rename_i u1 u2 u3 u4 ho
   have z:=(X _ _ ho).symm.trans e;cases z
  ·cases hc
 ca:=λX p k=>zan hg hgg hsb ha hn htk hm X p k
end
end My
namespace L2
open PySem PySem.Spec PyProof.Rows
section
variable {X:Cx} {pins:Jb} {σ:St} {H H':Hp} {s s':Sh} {e C:Ad}
structure Mid (X:Cx) (H':Hp) (s:Heap) (s':Heap) (e C:Ad) (B:Heap) (a0:Vl) (T:Ad) (h:Heap):Prop where
 fly:Heap.FlyingW B (X.env::X.outer) e (.ref C) a0 h
 slots:s'.UpToSlots h
def Landed (X:Cx) (pins:Jb) (σ:St) (H':Hp) (e C:Ad) (s1:Sh):Prop :=
 ∃ (H:Hp) (s s':Sh) (B:Heap) (a0:Vl) (T:Ad),Inv X pins σ H s/\Un (frs X.stack) [] H H' s.heap s'.heap/\HOk X.prog X.w H' s'.heap/\AllBare s'.gens/\s'.os=s.os/\Fly X.base X.stack H' s.heap s'.heap e (.ref C) /\
  s.heap.get? T=none/\H' T=none/\(∀ b o,b ∉ e::T::frs X.stack->s'.heap.get? b=some o->B.get? b=some o)/\Heap.FlyingW B (X.env::X.outer) e (.ref C) a0 s1.heap/\s'.heap.UpToSlots s1.heap/\s1={ s' with heap:=s1.heap }
def Landed.free {s1:Sh} (l:Landed X pins σ H' e C s1):H' e=none:=by
 obtain ⟨H,s,s',B,a0,T,I,u,hok,bare,os,fl,_⟩:=l;exact fl.freeE
def excO (e C:Ad):HO:=.ext (My.ClsAt e C)
end
section
variable {X:Cx} {pins:Jb} {σ σ₀:St} {H H':Hp} {s s':Sh} {R:Ad->Hp->Prop}
structure Disp (P:Program) (w:World) (K:Fg) (mg:J0) (base:Heap) (CX:CXT) (k:Nat) (m:Str) (ps:Je) (sp:Sp) (C:Ad):Prop where
 cl:Cls K C
 to:∃ (f:Ad) (fd:FuncData),Meth K C m f/\FnOk P w K mg base CX k f fd ps sp/\Binds K fd ps []
end
def TopDict (w:World) (K:Fg) (a:Ad):Prop:=∃ es n,K.lookup a=some ⟨.type "dict",none,.dict es n,#[]⟩/\PySem.W.KeysLit w.params es.toList
section
variable {X:Cx} {a:Ad} {ke:Expr} {tk:TE} {p pos:Pos} {D:Str}
end
section
variable {X:Cx}
structure ExcCls (K:Fg) (C:Ad):Prop where
 hg:PySem.W.findIn K (.ref C) "__getattribute__"=some (some (.builtin "BaseException.__getattribute__"))
 hgg:PySem.W.findIn K (.ref C) "__getattr__"=some none
 hsb:PySem.W.subIn K (.ref C) (.type "BaseException")=some true
 hd:PySem.W.hasDictIn K C=true
 ha:PySem.W.findIn K (.ref C) "__class__"=some (some (.builtin "object.__class__"))
 hn:PySem.W.specialIn K (.builtin "object.__class__") "__get__"=some (some (.builtin "getset_descriptor.__get__"))
 ht:PySem.W.takesIn K (.builtin "object.__class__")=some true
 hm:PySem.W.mroIn K C (.type "object")=some true
def TyX (K:Fg) (H:Hp) (x:V) (t:Vl):Prop:=TyOf K H x t∨∃ e C,x=.ref e/\H e=some (excO e C)/\t=.ref C/\ExcCls K C
inductive rIsi (K:Fg) (vs:Jm) (H:Hp) (Q:VK):Prop
 | mk (x c:V) (cv t:Vl) (b:Bool) (_:vs=[x,c]) (_:RelV c cv) (_:(∀ u,RelV c u->u=cv)) (_:TyX K H x t) (_:PySem.W.kitOne K t cv=some b) (_:Q (.bl b) H)
def zB:ZI X (.builtin "isinstance") (rIsi X.K):=by
 intro pins s σ H xs us Q I r h;obtain ⟨x,c,cv,t,b,rfl,rc,ic,ty,e,q⟩:=h;obtain ⟨u,w',rfl,ru,rw'⟩:=vals2 r;cases ic w' rw';rcases ty with ty | ⟨ea,C,rfl,he,rfl,ec⟩
 ·exact isinst_ok I ru ty e λtk=>⟨.bl b,H,I.tok _,rfl,q⟩
 ·cases (show u=Value.ref ea from ru)
  obtain ⟨p,_⟩:=(show ObjOk X.prog X.w H s.heap ea (excO ea C) from I.hok ea _ he);exact PySem.W.kia_one (My.kitx_exc ec.hg ec.hgg ec.hsb ec.hd ec.ha ec.hn ec.ht ec.hm) I.kIn p e (λz=>nomatch z) λtk=>⟨.bl b,H,I.tok _,rfl,q⟩
end
def zW {P:Program} {w:World} {base:Heap} {X:Cx}:xK (CXe P w base) X E0:=λ_ _ _ _ _ _ _ h=>by
 obtain ⟨_,_,_,_,_,_,_,_,_,q⟩:=h;exact q.elim
section
variable {P:Program} {w:World} {K:Fg} {mg:J0} {base:Heap}
def Fun.okE {x qual:Str} {st:Stmt} {f:Ad} {fd:FuncData} {N ps:Je} {k:Nat} {sp:Sp} (F:Fun K x qual st f fd) (S:FnScope N ps (zm st)) (len:∀ vs H Q E,sp vs H Q E->vs.length=ps.length)
  (hbody:∀ (cdv:Vl) (A:Around) (outer:List Env) (s:Sh) (H:Hp) (vs:Jm) (Q:VK) (E:XK),Room k (A.deeper (envOfC qual (zm st) s.heap.objs.size f cdv))->sp vs H Q E ->
   ∃ t,PSs (cxOf (CXe P w base) P w K mg base N qual (zm st) f cdv A outer s H E) (z8 st) t/\t { nx:=λ_ H'=>Q .non H',rt:=Q } (start N vs) H):FnOk P w K mg base (CXe P w base) (k+1) f fd ps sp:=by
 obtain ⟨oc,od,kV,doc,pm,an,cdv,ct,osl,rfl,lk,hcd⟩:=F.ex;exact fn_of lk hcd S len λA outer s H vs Q E hr hsp=>hbody cdv A outer s H vs Q E hr hsp
def zC (K:Fg) (mg:J0) (x:Str) (st:Stmt) (ps:Je):Prop:=∃ (f:Ad) (fd:FuncData),mg x=some (.ref f)/\Fun K x x st f fd/\Binds K fd ps []
def defIn_mk {h:Heap} {x:Str} {st:Stmt} {ps:Je} {f:Ad} {oc:Vl} {od an:Option Ad} {osl:Array (Jd)} {kV doc pm cdv ct:Vl} (X:K.In h) (G:h.Ns mainGlobals mg)
  (a:PySem.W.nsIn K mainGlobals x=some (some (.ref f))) (l:K.lookup f=some ⟨oc,od,.func (PySem.W.fnOf x x (yk st) (z8 st) (zm st) .none kV doc pm an cdv ct),osl⟩)
  (c:PySem.W.codeIn K cdv x=true) (k:PySem.W.keepIn K (.ref f)=true)
  (b:∀ (kV doc pm:Vl) (an:Option Ad) (cdv ct:Vl) (us:Jc),us.length=ps.length->bindArgs (PySem.W.fnOf x x (yk st) (z8 st) (zm st) .none kV doc pm an cdv ct) ⟨us,[]⟩=pure (ps.zip us)):zC K mg x st ps :=
 ⟨f,_,PySem.W.mg_of X G a,ZN l c k,(ZN l c k).binds b⟩
def Ok (P:Program) (w:World) (K:Fg) (mg:J0) (base:Heap) (CX:CXT) (k:Nat) (x:Str) (ps:Je) (sp:Sp):Prop :=
 ∃ (f:Ad) (fd:FuncData),mg x=some (.ref f)/\PySem.W.keepIn K (.ref f)=true/\Binds K fd ps []/\FnOk P w K mg base CX k f fd ps sp
def Ok.mono {CX:CXT} {j k:Nat} {x:Str} {ps:Je} {sp:Sp} (o:Ok P w K mg base CX j x ps sp) (h:j<=k):Ok P w K mg base CX k x ps sp:=by
 obtain ⟨f,fd,a,b,c,d⟩:=o;exact ⟨f,fd,a,b,c,d.mono h⟩
end
def zG {X:Cx} {CX:CXT} {k:Nat} {x:Str} {ps:Je} {sp:Sp} {E:XK} {p pos:Pos} {e:Expr} {es:Jg} {t:TA} (o:Ok X.prog X.w X.K X.mg X.base CX k x ps sp) (hr:Room k X.A) (hg:Gl X x) (hx:xK CX X E) (ha:PA X (e::es) t)
  (hdb:(x == ("__debug__":Str))=false:=by decide) (he:starEach (e::es) X.env=(false,eval e X.env)::starEach es X.env:=by rfl) (hpl:(backTo pos (starEach es X.env)).any (·.1)=false:=by rfl) :
  PE X (.Call (.Name x p) (e::es) [] pos) (tCall sp [] E t):=by
 obtain ⟨f,fd,a,b,c,d⟩:=o;exact pe_call d hr hg a b c .nil hx ha hdb he hpl
theorem ints_of:∀ {ns:Ja} {us:Jc},Vals (ns.map V.int) us->IntsAre us ns
 | [],_,.nil=>.nil
 | n::ns,_,.cons ⟨t,e⟩ r=>by subst e;exact .cons n t (ints_of r)
section
variable {X:Cx}
def XL:OpR X (binaryOp .FloorDiv) (rI (λ_ j=>j≠0/\-18446744073709551616<j/\j<18446744073709551616) λi j=>.int (i.fdiv j)):=opI λi j _ _ _ _ _ hc q=>floordiv_int hc.1 q (.inl (PyProof.noPylong_of_log2 (by
 have h64:j.natAbs<2 ^ 65:=by omega
 have:=(Nat.log2_lt (by omega:j.natAbs≠0)).mpr h64;omega)))
end
inductive sp1 (g:Int->V) (vs:Jm) (H:Hp) (Q:VK) (_:XK):Prop
 | mk (n:_) (_:vs=[.int n]) (_:Q (g n) H)
def len1 {g:Int->V}:∀ vs H Q E,sp1 g vs H Q E->vs.length=1:=by rintro vs H Q E ⟨n,e,_⟩;rw [e];rfl
def Yj {X:Cx} {x:Str} {i:Int} {t:Tok} {pos:Pos} (hm:X.mg x=some (.int i t)) (hg:Gl X x:=by rfl) (hd:(x == ("__debug__":Str))=false:=by decide):PE X (.Name x pos) (tC (.int i)):=pe_glob hg hm (v:=.int i) ⟨_,rfl⟩ hd
def yw {X:Cx} {x:Str} {a:Ad} {pos:Pos} (hm:X.mg x=some (.ref a)) (hg:Gl X x:=by rfl) (hd:(x == ("__debug__":Str))=false:=by decide):PE X (.Name x pos) (tC (.ref a)):=pe_glob hg hm (v:=.ref a) rfl hd
def xj {X:Cx} {x:Str} {n:String} {pos:Pos} (hm:X.mg x=none) (hv:bootBuiltins x=some (.type n)) (hg:Gl X x:=by rfl) (hn:x≠"__name__":=by decide) (hd:(x == ("__debug__":Str))=false:=by decide):PE X (.Name x pos) (tC (.ty n)):=pe_bltn hg hm hv (v:=.ty n) rfl hn hd
abbrev Cx.comp (X:Cx) (scope:Scope) (cl:List (Str×Ad)) (NY:Je) (s3:Sh) (H3:Hp) (fp:Jf):Cx :=
 { X with N:=NY,s₀:=s3,H₀:=H3,env:=compEnvC scope cl s3.heap.objs.size X.env,outer:=X.stack,ex:=fp,fn:=λ_=>false,pn:=[],xe:=λ_ _=>False }
abbrev Lz:Obj:={ cls:=.type "list",data:=.seq ([]:Jc).toArray }
abbrev pz (s:Sh):Sh:={ s with heap:=s.heap.push Lz }
abbrev Xz (X:Cx) (scope:Scope) (cl:List (Str×Ad)) (NY:Je) (s2:Sh) (H2:Hp) (fp:Jf):Cx:=X.comp scope cl NY (pz s2) (upd H2 s2.heap.objs.size (.lst [])) fp
structure Sees (X:Cx) (scope:Scope) (cl:List (Str×Ad)):Prop where
 kind:scope.kind=.function
 clos:closureFor scope X.env=pure cl
 nocell:∀ y∈scope.names,y.2≠.cell
 names:∀ y∈scope.names,y.2=.local->scope.names.lookup y.1=some .local
 sub:∀ x c,cl.lookup x=some c->X.env.cells.lookup x=some c
 has:∀ x,((compEnvC scope cl 0 X.env).kindOf x=some .cell∨(compEnvC scope cl 0 X.env).kindOf x=some .free)->∃ c,cl.lookup x=some c
section
variable {X:Cx} {pins:Jb} {σ:St} {H3:Hp} {s3:Sh} {scope:Scope} {cl:List (Str×Ad)} {NY:Je} {fp:Jf}
def comp_ok (I:Inv X pins σ H3 s3) (S:Sees X scope cl) (hfp:∀ b∈fp,FpOk X pins H3 b) (hob:∀ b∈fp,∃ o,s3.heap.get? b=some o):(X.comp scope cl NY s3 H3 fp).Ok where
 mod:=I.ok.mod
 kind:=S.kind
 glob:=I.ok.glob
 blt:=I.ok.blt
 above:=Nat.le_refl _
 inj:=λx y c a b=>I.ok.inj x y c (S.sub _ _ a) (S.sub _ _ b)
 has:=λx h=>S.has x h
 cab:=λ_ _ h=>nomatch h
 hd:=I.ok.hd
 frames:=I.ok.frames
 stk:=.inl rfl
 exf:=λb hb=>⟨λz=>by
  obtain ⟨o,q⟩:=hob b hb;exact absurd (Heap.lt_size q) (by rw [z];exact Nat.lt_irrefl _),λx c q=>(hfp b hb).2.2.2.2.1 x c (S.sub _ _ q)⟩
 bs:=I.bs
 bsz:=Nat.le_trans I.ok.bsz I.sz
 noex:=λb o q hb=>by
  rcases (hfp b hb).2.2.2.1 with z | z
  ·exact I.ok.noex b o q z
  ·exact absurd (x0y (Heap.lt_size q) (Nat.le_trans I.ok.bsz z)) (Nat.lt_irrefl _)
 exfs:=λb hb z=>by
  rcases List.mem_cons.mp (I.stkSub b z) with y | y
  ·exact (hfp b hb).2.1 y
  ·exact (hfp b hb).2.2.1 y
 funs:=I.stack
 frf:=I.stkFree
def comp_inv {h1:Heap} {t:Nat} {σY:St} (I:Inv X pins σ H3 s3) (S:Sees X scope cl) (hfp:∀ b∈fp,FpOk X pins H3 b) (hob:∀ b∈fp,∃ o,s3.heap.get? b=some o)
  (hn:h1.Ns s3.heap.objs.size λ_=>none) (hk:∀ b o,s3.heap.get? b=some o->h1.get? b=some o) (hl:σY.length=NY.length)
  (hσ:∀ (i:Nat) (x:Str) (v:V),NY[i]?=some x->σY[i]?=some (some v)->∃ c u,(((compEnvC scope cl 0 X.env).kindOf x=some .cell∨(compEnvC scope cl 0 X.env).kindOf x=some .free))/\cl.lookup x=some c/\RelV v u/\s3.heap.IsCell c (some u)) :
  Inv (X.comp scope cl NY s3 H3 fp) [] σY H3 { s3 with heap:=h1,toks:=t } where
 ok:=comp_ok I S hfp hob
 os:=rfl
 bare:=I.bare
 base:=Un.kept hk
 loc:=⟨_,hn,λi x v e1 e2 _=>by
  obtain ⟨c,u,k,q,r,z⟩:=hσ i x v e1 e2;obtain ⟨o,z1,z2⟩:=z;exact ⟨u,r,.inr ⟨k,c,q,o,hk _ _ z1,z2⟩⟩⟩
 cell:=λx c q=>by
  obtain ⟨v,o,z1,z2⟩:=I.cell x c (S.sub _ _ q);exact ⟨v,o,hk _ _ z1,z2⟩
 free:=I.hok.fresh (Nat.le_refl _)
 freeC:=λx c q=>I.freeC x c (S.sub _ _ q)
 pin:=λp hp=>absurd hp (by simp)
 hok:=I.hok.kept hk
 len:=hl
def comp_back {Y:Jb} {σY:St} {H':Hp} {s':Sh} {h':Heap} (I:Inv X pins σ H3 s3) (hfp:∀ b∈fp,FpOk X pins H3 b) (J:Inv (X.comp scope cl NY s3 H3 fp) Y σY H' s') (hs:Heap.SameBut s3.heap.objs.size s'.heap h') :
  Inv X pins σ H' { s' with heap:=h' }:=by
 have ne:∀ b o,s3.heap.get? b=some o->b≠s3.heap.objs.size:=λb o q=>Nat.ne_of_lt (Heap.lt_size q);have B:=J.base;refine I.call' (s':={ s' with heap:=h' }) (ch:=fp) J.os ⟨λb o q n hb hx=>?_,λb o q n hb hx=>?_,B.free,λb o q hx=>?_,B.tups,B.frzs,B.tbls⟩ (λb o q=>?_) J.bare λb hb=>?_
 ·exact (hs.2 b (ne b o q)).trans (B.keep b o q n hb hx)
 ·obtain ⟨sl,z⟩:=B.slot b o q n hb hx
  exact ⟨sl,(hs.2 b (ne b o q)).trans z⟩
 ·obtain ⟨o',z⟩:=B.there b o q hx
  exact ⟨o',(hs.2 b (ne b o q)).trans z⟩
 ·have hf:H' s3.heap.objs.size=none:=J.free
  refine (J.hok b o q).stay (λc v hc r=>(hs.2 c ?_).trans r) (λ_ z=>z) λ_ _ z=>z;rintro rfl;rcases hc with z | z
  ·rw [← z,hf] at q;cases q
  ·rw [hf] at z;cases z
 ·obtain ⟨_,f2,_,f4,f5,f6⟩:=hfp b hb
  exact ⟨f4,f2,f5,f6⟩
end
section
variable {prog:Program} {w:World} {A:Around} {R:Result->Sh->Prop} {s:Sh}
theorem comp_loop {elt target iter:Expr} {scope:Scope} {pos:Pos} {it acc:Vl} {env:Env} (I:Nat->Sh->Prop)
  (turn:∀ n s,I n s->wpAny (model prog w) A (pyNext it) (λr s₁=>match r with
   | none=>R (.ok .next) s₁
   | some v=>wpAny (model prog w) A (letOwnedTupleGo target it v) (λ_ s₂=>wpAny (model prog w) A (assign target env v) (λ_ s₃=>wpAny (model prog w) A (eval elt env) (λx s₄ =>
     wpAny (model prog w) A (call (.builtin "list.append") [acc,x]) (λ_ s₅=>∃ m,m<n/\I m s₅) (λ_ _=>False) s₄) (λ_ _=>False) s₃) (λ_ _=>False) s₂) (λ_ _=>False) s₁) (λ_ _=>False) s)
  (n:Nat) (h:I n s):codeAny (model prog w) A (.compLoop (.ListComp elt [⟨target,iter,[],0⟩] scope pos) 0 it acc env) R s:=by
 refine codeAny_loop rfl I (λn s hI=>?_) n h;show wpAny _ _ ((compTurn (.ListComp elt [⟨target,iter,[],0⟩] scope pos) 0 it acc env).onRaise (λx=>do noteFrame x env;theTreesLotGoes x)) _ _ s;refine wpAny_noted ?_;rw [compTurn_list1];refine q0x (wpAny_standAt (q0x (wpAny_mono (turn n s hI) (λr s₁ h₁=>?_) λ_ _ z=>z.elim)))
 cases r with
 | none=>exact q0y h₁
 | some v =>
  refine q0x (wpAny_mono h₁ (λ_ s₂ h₂=>?_) λ_ _ z=>z.elim);refine q0x (wpAny_mono h₂ (λ_ s₃ h₃=>?_) λ_ _ z=>z.elim);refine q0x (q0x (wpAny_mono h₃ (λx s₄ h₄=>?_) λ_ _ z=>z.elim));exact q0x (wpAny_mono h₄ (λ_ s₅ h₅=>q0y (q0y ⟨rfl,h₅⟩)) λ_ _ z=>z.elim)
end
inductive CompW (J:It) (g:TG) (te:TE) (σY:St) (H1:Hp) (D:Ad) (Q:VK):Prop
 | mk (W:Nat->Nat->St->Hp->Prop) (_:(∃ m,W 0 m σY H1)) (_:∀ i m σ' H',W i m σ' H'->(J.stop i H'/\Q (.ref D) H')∨(J.go i H'/\∃ N:St->Hp->Prop,(∀ σ2 H2,N σ2 H2->∃ m',m'<m/\W (i+1) m' σ2 H2)/\∀ x H2,J.yld i H' x H2->g x σ' H2 λσ3 H3=>te σ3 H3 λv H4=>∃ xs,H4 D=some (.lst xs)/\xs.length<sizeLine/\N σ3 (upd H4 D (.lst (xs++[v]))))):CompW J g te σY H1 D Q
inductive tComp_S (g:TG) (te:TE) (σ0:St->Hp->St->Prop) (σ:St) (Q:VK) (J:It) (H1:Hp):Prop
 | mk (σY:_) (_:σ0 σ H1 σY) (_:∀ D,H1 D=none->CompW J g te σY (upd H1 D (.lst [])) D Q)
def tComp (wi:TI) (g:TG) (te:TE) (σ0:St->Hp->St->Prop):TE:=λσ H Q=>wi σ H λJ H1=>tComp_S g te σ0 σ Q J H1
section
variable {X:Cx} {tg:Expr}
structure CompEnd (X:Cx) (pins:Jb) (σ:St) (H5:Hp) (s6:Sh) (C:Ad):Prop where
 ns:∃ m,s6.heap.Ns C m
 hn:H5 C=none
 hL:C≠X.env.locals
 h1:X.s₀.heap.objs.size<=C
 h2:∀ x c,X.env.cells.lookup x=some c->c≠C
 h3:∀ p∈X.pn++pins,p.1≠C
 inv:∀ h',Heap.SameBut C s6.heap h'->Inv X pins σ H5 { s6 with heap:=h' }
def comp_core {iter elt:Expr} {scope:Scope} {pos pos':Pos} {cl:List (Str×Ad)} {NY:Je} {wi:TI} {g:TG} {te:TE} {σ0:St->Hp->St->Prop} (hc:X.calm=true) (S:Sees X scope cl) (hi:PI X tg iter wi)
  (hY:∀ (s3:Sh) (H3:Hp) (fp:Jf),PG (X.comp scope cl NY s3 H3 fp) tg g/\PE (X.comp scope cl NY s3 H3 fp) elt te)
  (h0:∀ (pins:Jb) (σ:St) (H:Hp) (s3:Sh) (σY:St),Inv X pins σ H s3->σ0 σ H σY->σY.length=NY.length/\∀ (i:Nat) (x:Str) (v:V),NY[i]?=some x->σY[i]?=some (some v) ->
   ∃ c u,(((compEnvC scope cl 0 X.env).kindOf x=some .cell∨(compEnvC scope cl 0 X.env).kindOf x=some .free))/\cl.lookup x=some c/\RelV v u/\s3.heap.IsCell c (some u))
  (hs:∀ x,foldedSetIterable iter X.env x=pure x) {use:Option (Vl->Sem Unit)} {R:J5} {pins:Jb} {s:Sh} {σ:St} {H:Hp} {Q:VK} (I:Inv X pins σ H s) (h:tComp wi g te σ0 σ H Q)
  (fin:∀ (C D:Ad) (H5:Hp) (s6:Sh),CompEnd X pins σ H5 s6 C->Q (.ref D) H5->compPost (model X.prog X.w) X.A X.xe use R (.ref D) C (.ok .next) s6) :
  wpAny (model X.prog X.w) X.A (comprehension (.ListComp elt [⟨tg,iter,[],0⟩] scope pos) scope X.env pos' (newList []) (firstAsync [⟨tg,iter,[],0⟩]) (firstIter [⟨tg,iter,[],0⟩] X.env) use) R X.xe s:=by
 refine wpAny_comprehension_free rfl hs S.clos S.kind S.names (thn (hi pins s σ H _ I h) λv s1 h1=>thn h1 λitv s2 h2=>?_);obtain ⟨it,fp,tn,J,H2,e,I2,T,st2,f2,σY,hσ,hW⟩:=h2;subst e;refine wpAny_newObj_type ?_;have I3:Inv X pins σ (upd H2 s2.heap.objs.size (.lst [])) (pz s2):=I2.lnew (t':=s2.toks) (its:=[]) .nil (Nat.zero_le _);obtain ⟨W,⟨m0,w0⟩,turn⟩:=hW s2.heap.objs.size (I2.hok.fresh (Nat.le_refl _));have ob2:=T.obj _ _ st2
 have hfp:∀ b∈fp,FpOk X pins (upd H2 s2.heap.objs.size (.lst [])) b:=λb hb=>by
  obtain ⟨o,q,_⟩:=ob2 b hb;exact ⟨by rw [zy (Nat.ne_of_lt (Heap.lt_size q))];exact (f2 b hb).1,(f2 b hb).2⟩
 have hob:∀ b∈fp,∃ o,(s2.heap.push Lz).get? b=some o:=λb hb=>by
  obtain ⟨o,q,_⟩:=ob2 b hb;exact ⟨o,Heap.get?_push_of_some _ q⟩
 refine wpAny_newFunctionEnv S.nocell (λy hy=>absurd hy (by simp)) (λh1 hn1 hs1=>?_) S.kind;obtain ⟨hl,hY0⟩:=h0 pins σ H2 s2 σY I2 hσ;have k23:∀ b o,s2.heap.get? b=some o->(s2.heap.push Lz).get? b=some o:=λb o q=>Heap.get?_push_of_some _ q;have k34:∀ b o,(s2.heap.push Lz).get? b=some o->h1.get? b=some o:=λb o q=>(hs1.2 b (Nat.ne_of_lt (Heap.lt_size q))).trans (Heap.get?_push_of_some _ q)
 have I4:=comp_inv (scope:=scope) (cl:=cl) (NY:=NY) (fp:=fp) (h1:=h1) (t:=s2.toks) (σY:=σY) I3 S hfp hob hn1 k34 hl λi x v e1 e2=>by
  obtain ⟨c,u,k,q,r,o,z1,z2⟩:=hY0 i x v e1 e2;exact ⟨c,u,k,q,r,o,k23 _ _ z1,z2⟩
 have st4:tn 0 h1:=T.keep _ _ _ st2 λb hb o q=>k34 _ _ (k23 _ _ q);have fr4:∀ b∈fp,(upd H2 s2.heap.objs.size (.lst [])) b=none:=λb hb=>(hfp b hb).1;obtain ⟨hg,he⟩:=hY (pz s2) (upd H2 s2.heap.objs.size (.lst [])) fp;have okY:=I4.ok
 have statY:∀ {H':Hp},(∀ b∈fp,H' b=none)->∀ b∈fp,FpOk (Xz X scope cl NY s2 H2 fp) [] H' b :=
  λhn b hb=>⟨hn b hb,(okY.exf b hb).1,okY.exfs b hb,.inl hb,(okY.exf b hb).2,λp hp=>absurd hp (by simp)⟩
 have loop:codeAny (model X.prog X.w) X.A (.compLoop (.ListComp elt [⟨tg,iter,[],0⟩] scope pos) 0 (.ref it) (.ref s2.heap.objs.size) (compEnvC scope cl (s2.heap.push Lz).objs.size X.env))
   (compPost (model X.prog X.w) X.A X.xe use R (.ref s2.heap.objs.size) (s2.heap.push Lz).objs.size) { s2 with heap:=h1,toks:=s2.toks }:=by
  refine comp_loop (λn s'=>∃ i σ' H',Inv (Xz X scope cl NY s2 H2 fp) [] σ' H' s'/\tn i s'.heap/\(∀ b∈fp,H' b=none)/\W i n σ' H') ?_ m0 ⟨0,σY,_,I4,st4,fr4,w0⟩;rintro n s5 ⟨i,σ5,H5,I5,st5,fr5,w5⟩;rcases turn i n σ5 H5 w5 with ⟨stop,q⟩ | ⟨go,N,hN,step⟩
  ·refine thn (T.done (Xz X scope cl NY s2 H2 fp) rfl rfl rfl hc i [] s5 σ5 H5 _ I5 (statY fr5) st5 stop) λr s6 ⟨hr,I6⟩=>?_
   subst hr;obtain ⟨m,hm,_⟩:=I6.loc;refine fin _ _ H5 s6 ⟨⟨m,hm⟩,I6.free,Ne.symm (Nat.ne_of_lt I3.lt),I3.sz,λx c z=>?_,λp hp=>?_,λh' hs'=>comp_back I3 hfp I6 hs'⟩ q
   ·obtain ⟨_,o,z1,_⟩:=I3.cell x c z
    exact Nat.ne_of_lt (Heap.lt_size z1)
   ·exact Nat.ne_of_lt (Heap.lt_size (I3.pin p hp).1)
  ·refine thn (T.item (Xz X scope cl NY s2 H2 fp) rfl rfl rfl hc i [] s5 σ5 H5 _ I5 (statY fr5) st5 go) λr s6 ⟨u,hr,h6⟩=>?_
   subst hr;refine thn h6 λ_ s7 ⟨x,H7,I7,r7,y7,st7,fr7⟩=>?_;have I7':=I7.pinned (statY fr7) (T.obj _ _ st7);refine thn (hg _ s7 σ5 H7 x u _ I7' r7 (step x H7 y7)) λ_ s8 ⟨σ8,H8,I8,q8⟩=>?_;refine thn (he _ s8 σ8 H8 _ I8 q8) λz s9 ⟨v9,H9,I9,r9,xs,hx9,hz9,n9⟩=>?_;refine thn (yr _ s9 σ8 H9 (.ref s2.heap.objs.size) [v9] (.ref s2.heap.objs.size) [z] (λ_ H'=>H'=upd H9 s2.heap.objs.size (.lst (xs++[v9]))) I9 rfl (.cons r9 .nil) ⟨s2.heap.objs.size,xs,v9,rfl,rfl,hx9,hz9,rfl⟩) λy s10 ⟨v10,H10,I10,_,e10⟩=>?_;subst e10;obtain ⟨m',hm,w10⟩:=hN _ _ n9;refine ⟨m',hm,i+1,σ8,_,I10.unpinned,T.keep _ _ _ st7 λb hb o q=>(I10.pin (b,o) (x0x _ (x0x _ (Zn hb q)))).1,λb hb=>?_,w10⟩;obtain ⟨o,q,d⟩:=T.obj _ _ st7 b hb;exact (I10.pin (b,o) (x0x _ (x0x _ (Zn hb q)))).2.1
 exact codeAny_compStart_list loop (T.self _ 0 _ _ _ st4 loop)
def pe_comp {iter elt:Expr} {scope:Scope} {pos:Pos} {cl:List (Str×Ad)} {NY:Je} {wi:TI} {g:TG} {te:TE} {σ0:St->Hp->St->Prop} (hc:X.calm=true) (S:Sees X scope cl) (hi:PI X tg iter wi)
  (hY:∀ (s3:Sh) (H3:Hp) (fp:Jf),PG (X.comp scope cl NY s3 H3 fp) tg g/\PE (X.comp scope cl NY s3 H3 fp) elt te)
  (h0:∀ (pins:Jb) (σ:St) (H:Hp) (s3:Sh) (σY:St),Inv X pins σ H s3->σ0 σ H σY->σY.length=NY.length/\∀ (i:Nat) (x:Str) (v:V),NY[i]?=some x->σY[i]?=some (some v) ->
   ∃ c u,(((compEnvC scope cl 0 X.env).kindOf x=some .cell∨(compEnvC scope cl 0 X.env).kindOf x=some .free))/\cl.lookup x=some c/\RelV v u/\s3.heap.IsCell c (some u))
  (hs:∀ x,foldedSetIterable iter X.env x=pure x:=by intro _;rfl) :
  PE X (.ListComp elt [⟨tg,iter,[],0⟩] scope pos) (tComp wi g te σ0):=by
 intro pins s σ H Q I h;rw [eval_ListComp];refine comp_core (use:=none) hc S hi hY h0 hs I h λC D H5 s6 e q=>?_;obtain ⟨m,hm⟩:=e.ns;exact ⟨m,hm,λh' hs'=>⟨.ref D,H5,e.inv h' hs',rfl,q⟩⟩
end
def YY {K:Fg} {a D:Ad} {xs:Jm} {g:TG} {te:TE} {σY:St} {H1:Hp} {Q:VK} (Pv:Nat->St->Hp->Prop) (h0:Pv 0 σY H1) (hl:∀ i σ H,i<=xs.length->Pv i σ H->SqL K H a xs)
  (hs:∀ i x σ H,xs[i]?=some x->Pv i σ H->g x σ H λσ3 H3=>te σ3 H3 λv H4=>∃ ys,H4 D=some (.lst ys)/\ys.length<sizeLine/\Pv (i+1) σ3 (upd H4 D (.lst (ys++[v])))) (hd:∀ σ H,Pv xs.length σ H->Q (.ref D) H) :
  CompW (Itl K a) g te σY H1 D Q:=by
 refine ⟨λi m σ H=>m=xs.length-i/\i<=xs.length/\Pv i σ H,⟨xs.length,by simp,Nat.zero_le _,h0⟩,?_⟩;rintro i m σ H ⟨rfl,hi,p⟩;have q:=hl i σ H hi p;by_cases hlt:i<xs.length
 ·refine .inr ⟨⟨xs,xs[i],q,by simp [hlt]⟩,Pv (i+1),λσ' H' p'=>⟨xs.length-(i+1),by omega,rfl,hlt,p'⟩,λx H' y=>?_⟩
  obtain ⟨e,y⟩:=y;subst e;exact hs i x σ _ (y xs q) p
 ·have e:i=xs.length:=by omega
  subst e;exact .inl ⟨⟨xs,q,Nat.le_refl _⟩,hd σ H p⟩
def clGo (env:Env):List (Str×NameKind)->List (Str×Ad)->List (Str×Ad)
 | [],cs=>cs
 | y::r,cs=>clGo env r (if y.2 == .free then (y.1,(env.cells.lookup y.1).getD 0)::cs else cs)
abbrev clOf (env:Env) (scope:Scope):List (Str×Ad):=clGo env scope.names []
def zam {scope:Scope} {env:Env} (h:∀ y∈scope.names,y.2=.free->∃ c,env.cells.lookup y.1=some c):closureFor scope env=pure (clOf env scope):=by
 rw [closureFor.eq_1]
 suffices q:∀ (names:List (Str×NameKind)) (cs:List (Str×Ad)),(∀ y∈names,y.2=.free->∃ c,env.cells.lookup y.1=some c) ->
   (do
    let s ← forIn names cs λx __s =>
     have cs:=__s
     match x with
     | (name,kind) =>
      if (kind == NameKind.free)=true then do
       let l ← cellOf env name;have cs:List (Str×Ad):=(name,l)::cs
       pure (ForInStep.yield cs)
      else pure (ForInStep.yield cs)
    pure s:Sem (List (Str×Ad)))=pure (clGo env names cs) from (congrArg (λ(m:Sem (List (Str×Ad)))=>m >>= λs=>(pure s:Sem (List (Str×Ad)))) (q scope.names [] h)).trans rfl
 intro names
 induction names with
 | nil=>intro cs _;rfl
 | cons y r ih =>
  intro cs h;obtain ⟨n,k⟩:=y;have hr:=λy hy=>h y (q9x _ hy);rw [List.forIn_cons];show _=pure (clGo env r (if k == .free then (n,(env.cells.lookup n).getD 0)::cs else cs));by_cases e:k=.free
  ·subst e
   obtain ⟨c,hc⟩:=h (n,.free) q9y rfl;have e1:cellOf env n=pure c:=by unfold cellOf;rw [show env.cells.lookup n=some c from hc]
   simp only [e1,show env.cells.lookup n=some c from hc,Option.getD_some,beq_self_eq_true,if_true];exact ih _ hr
  ·have e0:(k == NameKind.free)=false:=by simp [e]
   simp only [e0,Bool.false_eq_true,if_false];exact ih _ hr
theorem X0 {env:Env} {x:Str} {c:Ad}:∀ {names:List (Str×NameKind)} {cs:List (Str×Ad)},(∀ y∈names,y.2=.free->∃ c,env.cells.lookup y.1=some c)->(∀ x c,cs.lookup x=some c->env.cells.lookup x=some c)->(clGo env names cs).lookup x=some c->env.cells.lookup x=some c
 | [],cs,_,hc,h=>hc _ _ h
 | (n,k)::r,cs,hn,hc,h=>by
  refine X0 (λy hy=>hn y (q9x _ hy)) (λx c q=>?_) h;by_cases e:k=.free
  ·subst e
   obtain ⟨c',hc'⟩:=hn (n,.free) q9y rfl;simp only [beq_self_eq_true,if_true,show env.cells.lookup n=some c' from hc',Option.getD_some,List.lookup_cons] at q;by_cases z:x=n
   ·subst z;simp at q;rw [← q];exact hc'
   ·have z':(x == n)=false:=by simp [z]
    rw [z'] at q;exact hc _ _ q
  ·have e0:(k == NameKind.free)=false:=by simp [e]
   rw [e0] at q;exact hc _ _ q
theorem Y0 {env:Env} {x:Str}:∀ {names:List (Str×NameKind)} {cs:List (Str×Ad)},(∃ c,cs.lookup x=some c)->∃ c,(clGo env names cs).lookup x=some c
 | [],_,h=>h
 | (n,k)::r,cs,h=>by
  refine Y0 (names:=r) ?_;by_cases e:(k == NameKind.free)=true
  ·simp only [e,if_true,List.lookup_cons]
   cases hx:x == n with
   | true=>exact ⟨_,rfl⟩
   | false=>exact h
  ·simp only [e,if_false];exact h
theorem YG {env:Env} {x:Str}:∀ {names:List (Str×NameKind)} {cs:List (Str×Ad)},(x,NameKind.free)∈names->∃ c,(clGo env names cs).lookup x=some c
 | (n,k)::r,cs,h=>by
  rcases List.mem_cons.mp h with e | e
  ·cases e
   refine Y0 (names:=r) ⟨(env.cells.lookup x).getD 0,?_⟩;simp
  ·show ∃ c,(clGo env r _).lookup x=some c
   exact YG e
def seesOk (X:Cx) (scope:Scope):Bool :=
 (match scope.kind with | .function=>true | _=>false) && scope.names.all λy=>match y.2 with
  | .cell=>false
  | .free=>(match X.env.kindOf y.1 with | some .cell=>true | some .free=>true | _=>false)
  | .local=>(match scope.names.lookup y.1 with | some .local=>true | _=>false)
  | _=>true
def sees_of {X:Cx} {scope:Scope} (ok:X.Ok) (h:seesOk X scope=true):Sees X scope (clOf X.env scope):=by
 unfold seesOk at h;rw [Bool.and_eq_true,List.all_eq_true] at h;obtain ⟨hk,hn⟩:=h
 have fr:∀ y∈scope.names,y.2=.free->∃ c,X.env.cells.lookup y.1=some c:=λy hy e=>by
  have q:=hn y hy;rw [e] at q;refine ok.has y.1 ?_;revert q;dsimp only
  split
  ·rename_i z;intro _;exact .inl z
  ·rename_i z;intro _;exact .inr z
  ·intro q;cases q
 refine ⟨?_,zam fr,λy hy e=>?_,λy hy e=>?_,λx c q=>X0 fr (λ_ _ z=>by cases z) q,λx q=>?_⟩
 ·revert hk
  cases scope.kind <;> simp
 ·have q:=hn y hy
  rw [e] at q;exact q9z q
 ·have q:=hn y hy
  rw [e] at q;revert q;dsimp only
  split
  ·rename_i z;intro _;exact z
  ·intro q;cases q
 ·have key:∀ k,(compEnvC scope (clOf X.env scope) 0 X.env).kindOf x=some k->(k=.cell∨k=.free)->(x,NameKind.free)∈scope.names:=by
   intro k hk' hkk;have q:((scope.names.map λy=>match y with | (n,k)=>if (k == NameKind.free && X.env.scope.kind == ScopeKind.function && X.env.kindOf n == some NameKind.cell)=true then (n,NameKind.cell) else (n,k))).lookup x=some k:=hk'
   obtain ⟨n,k',e1,e2⟩:∃ n k',(n,k')∈scope.names/\(match (n,k') with | (n,k)=>if (k == NameKind.free && X.env.scope.kind == ScopeKind.function && X.env.kindOf n == some NameKind.cell)=true then (n,NameKind.cell) else (n,k))=(x,k):=by
    have m:(x,k)∈(scope.names.map λy=>match y with | (n,k)=>if (k == NameKind.free && X.env.scope.kind == ScopeKind.function && X.env.kindOf n == some NameKind.cell)=true then (n,NameKind.cell) else (n,k)):=by
     revert q;generalize (scope.names.map λy=>match y with | (n,k)=>if (k == NameKind.free && X.env.scope.kind == ScopeKind.function && X.env.kindOf n == some NameKind.cell)=true then (n,NameKind.cell) else (n,k))=l
     induction l with
     | nil=>intro q;cases q
     | cons a l ih =>
      intro q;obtain ⟨a1,a2⟩:=a;rw [List.lookup_cons] at q
      cases hx:x == a1 with
      | true=>rw [hx] at q;cases q;have:=beq_iff_eq.mp hx;subst this;exact q9y
      | false=>rw [hx] at q;exact q9x _ (ih q)
    obtain ⟨⟨n,k'⟩,h1,h2⟩:=List.mem_map.mp m;exact ⟨n,k',h1,h2⟩
   dsimp only at e2
   split at e2
   ·rename_i z
    cases e2;simp only [Bool.and_eq_true,beq_iff_eq] at z;rw [z.1.1] at e1;exact e1
   ·cases e2
    rcases hkk with rfl | rfl
    ·have z:=hn _ e1
     exact absurd z q9z
    ·exact e1
  rcases q with q | q
  ·exact YG (key _ q (.inl rfl))
  ·exact YG (key _ q (.inr rfl))
def capOk (X:Cx) (scope:Scope):Je->List (Option Nat)->Bool
 | [],[]=>true
 | _::r,none::c=>capOk X scope r c
 | x::r,some j::c=>(match X.N[j]? with | some y=>x == y | none=>false) && (match (compEnvC scope (clOf X.env scope) 0 X.env).kindOf x with | some .cell=>true | some .free=>true | _=>false)
   && (match X.env.kindOf x with | some .cell=>true | some .free=>true | _=>false) && capOk X scope r c
 | _,_=>false
def capt (cap:List (Option Nat)) (σ:St):St:=cap.map λo=>o.bind λj=>(σ[j]?).join
theorem Xt {X:Cx} {scope:Scope} {pins:Jb} {σ:St} {H:Hp} {s:Sh} (I:Inv X pins σ H s) (S:Sees X scope (clOf X.env scope)):∀ {NY:Je} {cap:List (Option Nat)},capOk X scope NY cap=true->(capt cap σ).length=NY.length/\∀ (i:Nat) (x:Str) (v:V),NY[i]?=some x->(capt cap σ)[i]?=some (some v) ->
   ∃ c u,(((compEnvC scope (clOf X.env scope) 0 X.env).kindOf x=some .cell∨(compEnvC scope (clOf X.env scope) 0 X.env).kindOf x=some .free))/\(clOf X.env scope).lookup x=some c/\RelV v u/\s.heap.IsCell c (some u)
 | [],[],_=>⟨rfl,λi x v e _=>by cases e⟩
 | [],_::_,h=>by cases h
 | y::r,[],h=>by cases h
 | y::r,none::c,h=>by
  obtain ⟨l,q⟩:=Xt I S (NY:=r) (cap:=c) h;refine ⟨by rw [x0z,← l];rfl,λi x v e1 e2=>?_⟩
  cases i with
  | zero=>cases e2
  | succ i=>exact q i x v e1 e2
 | y::r,some j::c,h=>by
  unfold capOk at h;rw [Bool.and_eq_true,Bool.and_eq_true,Bool.and_eq_true] at h;obtain ⟨⟨⟨h1,h2⟩,h3⟩,h4⟩:=h;obtain ⟨l,q⟩:=Xt I S (NY:=r) (cap:=c) h4;refine ⟨by rw [x0z,← l];rfl,λi x v e1 e2=>?_⟩
  cases i with
  | succ i=>exact q i x v e1 e2
  | zero =>
   have ey:y=x:=Option.some.inj e1;subst ey;have ev:(σ[j]?).join=some v:=Option.some.inj e2
   have hσ:σ[j]?=some (some v):=by
    cases z:σ[j]? with
    | none=>rw [z] at ev;cases ev
    | some o=>rw [z] at ev;rw [show o=some v from ev]
   have hN:X.N[j]?=some y:=by
    cases z:X.N[j]? with
    | none=>rw [z] at h1;cases h1
    | some y'=>rw [z] at h1;rw [beq_iff_eq.mp h1]
   have hK:(compEnvC scope (clOf X.env scope) 0 X.env).kindOf y=some .cell∨(compEnvC scope (clOf X.env scope) 0 X.env).kindOf y=some .free:=by
    revert h2
    split
    ·rename_i z;intro _;exact .inl z
    ·rename_i z;intro _;exact .inr z
    ·intro q;cases q
   have hV:X.env.kindOf y=some .cell∨X.env.kindOf y=some .free:=by
    revert h3
    split
    ·rename_i z;intro _;exact .inl z
    ·rename_i z;intro _;exact .inr z
    ·intro q;cases q
   obtain ⟨c',hc'⟩:=S.has y hK;obtain ⟨m,_,hl⟩:=I.loc;obtain ⟨u,ru,lk⟩:=hl j y v hN hσ (.inr hV);refine ⟨c',u,hK,hc',ru,?_⟩;rcases lk with ⟨k,_⟩ | ⟨_,c2,e3,e4⟩
   ·have k':X.env.kindOf y=some .local:=k
    rcases hV with z | z <;> rw [z] at k' <;> cases k'
   ·have e5:=S.sub _ _ hc'
    rw [e3] at e5;cases e5;exact e4
abbrev tCompC (wi:TI) (g:TG) (te:TE) (cap:List (Option Nat)):TE:=tComp wi g te λσ _ σY=>σY=capt cap σ
section
variable {X:Cx} {tg:Expr}
def XJ {iter elt:Expr} {scope:Scope} {pos:Pos} {wi:TI} {g:TG} {te:TE} (NY:Je) (cap:List (Option Nat)) (hc:X.calm=true) (hk:seesOk X scope=true) (hcap:capOk X scope NY cap=true) (hi:PI X tg iter wi)
  (hY:∀ (s3:Sh) (H3:Hp) (fp:Jf),PG (X.comp scope (clOf X.env scope) NY s3 H3 fp) tg g/\PE (X.comp scope (clOf X.env scope) NY s3 H3 fp) elt te)
  (hs:∀ x,foldedSetIterable iter X.env x=pure x:=by intro _;rfl):PE X (.ListComp elt [⟨tg,iter,[],0⟩] scope pos) (tCompC wi g te cap):=by
 intro pins s σ H Q I h;have S:=sees_of I.ok hk;refine pe_comp (NY:=NY) hc S hi hY (λpins σ H s3 σY I3 e=>?_) hs pins s σ H Q I h;subst e;exact Xt I3 S hcap
end
section
variable {X:Cx}
end
def xJ {ns:Ja} {j:Int} (i:Nat) (h:i<ns.length) (e:j=i):atI (ns.map V.int) j=some (.int (ns.getD i 0)):=by
 subst e;refine zE ?_;rw [List.getElem?_map,List.getElem?_eq_getElem h];simp [List.getD,h]
def getD_mem {ns:Ja} {i:Nat} (h:i<ns.length):ns.getD i 0∈ns:=by
 rw [q0z,List.getElem?_eq_getElem h];exact List.getElem_mem h
section
variable {X:Cx} {pins:Jb} {σ:St} {H:Hp} {s:Sh}
end
section
variable {X:Cx}
end
mutual
inductive DV (K:Fg) (H:Hp):V->PyData->Prop
 | non:DV K H .non .none
 | bl (b:Bool):DV K H (.bl b) (.bool b)
 | int (i:Int):DV K H (.int i) (.int i)
 | str (x:Str):DV K H (.str x) (.str x)
 | lst {a:Ad} {xs:Jm} {ds:List PyData}:SqL K H a xs->DVs K H xs ds->DV K H (.ref a) (.list ds)
 | tup {a:Ad} {xs:Jm} {ds:List PyData}:SqT K H a xs->DVs K H xs ds->DV K H (.ref a) (.tuple ds)
inductive DVs (K:Fg) (H:Hp):Jm->List PyData->Prop
 | nil:DVs K H [] []
 | cons {v:V} {vs:Jm} {d:PyData} {ds:List PyData}:DV K H v d->DVs K H vs ds->DVs K H (v::vs) (d::ds)
end
section
variable {X:Cx} {pins:Jb} {σ:St} {H:Hp} {s:Sh}
mutual
theorem YE (I:Inv X pins σ H s):∀ {v:V} {d:PyData} {u:Vl},DV X.K H v d->RelV v u->∃ as,Reads s.heap u d as
 | _,_,u,.non,r=>by cases (show u=Value.none from r);exact ⟨_,.none⟩
 | _,_,u,.bl b,r=>by cases (show u=Value.bool b from r);exact ⟨_,.bool b⟩
 | _,_,u,.int i,r=>by obtain ⟨t,rfl⟩:=(show ∃ t,u=Value.int i t from r);exact ⟨_,.int i t⟩
 | _,_,u,.str x,r=>by obtain ⟨t,rfl⟩:=(show ∃ t,u=Value.str x t from r);exact ⟨_,.str x t⟩
 | _,_,u,.lst (a:=a) h q,r=>by
  cases (show u=Value.ref a from r);obtain ⟨its,rv,⟨o,n,e,c,d,f⟩,_⟩:=I.list h;obtain ⟨as,ra⟩:=Z3 I q rv;exact ⟨_,.list e c f ra⟩
 | _,_,u,.tup (a:=a) h q,r=>by
  cases (show u=Value.ref a from r);obtain ⟨its,rv,⟨o,e,c,n,f⟩,_⟩:=I.tuple h;obtain ⟨as,ra⟩:=Z3 I q rv;exact ⟨_,.tuple e c f ra⟩
theorem Z3 (I:Inv X pins σ H s):∀ {vs:Jm} {ds:List PyData} {us:Jc},DVs X.K H vs ds->Vals vs us->∃ as,ReadsAll s.heap us ds as
 | _,_,_,.nil,.nil=>⟨_,.nil⟩
 | _,_,_,.cons h q,.cons r rr=>by
  obtain ⟨as,ra⟩:=YE I h r;obtain ⟨bs,rb⟩:=Z3 I q rr;exact ⟨_,.cons ra rb⟩
end
end
section
variable {X:Cx}
inductive rEqD (K:Fg) (f:Bool->Bool) (x y:V) (H:Hp) (Q:VK):Prop
 | mk (d e:_) (_:DV K H x d) (_:DV K H y e) (_:d.canLay0=true) (_:e.canLay0=true) (_:d.depth<=64) (_:Q (.bl (f (d.eqv e))) H)
def op_eqD (hu:X.A.units+64<cLine):OpR X (compareOp .Eq) (rEqD X.K id):=by
 intro pins s σ H x y v u Q I rx ry h;obtain ⟨d,e,hd,he,c1,c2,dp,q⟩:=h;obtain ⟨as,ra⟩:=YE I hd rx;obtain ⟨bs,rb⟩:=YE I he ry;exact SeqAt.compareEq_reads ra rb c1 c2 (by omega) ⟨.bl _,H,I,rfl,q⟩
end
end L2
namespace L2
open PySem
end L2
namespace L2
open PySem PySem.Spec PyProof.Rows
def zD {K:Fg} {H H':Hp} {a:Ad} {xs:Jm} (h:SqL K H a xs) (s:Same H H'):SqL K H' a xs:=by
 rcases h with h | h
 ·exact .inl (h.imp (λz=>s _ _ z) λ⟨o,z⟩=>⟨o,s _ _ z⟩)
 ·exact .inr h
def zN {H H':Hp} {a:Ad} {o:HO} (s:Same H H') (h:H a=none):Same H (upd H' a o):=λc x z=>by rw [zy (zS z h)];exact s _ _ z
def Xe {n d:Nat} {a:Int} (h:0<=a):HT.sIx n d (some a)=min a.toNat n:=by
 show (if a<0 then (a+(n:Int)).toNat else min a.toNat n)=min a.toNat n;rw [if_neg (by omega)]
def YK {ns:Ja} {i:Nat} (h:i<ns.length):(ns.take (i+1)).sum=(ns.take i).sum+ns.getD i 0:=by
 have e:ns.take (i+1)=ns.take i++[ns.getD i 0]:=by
  rw [List.take_add_one,q0z,List.getElem?_eq_getElem h];rfl
 rw [e,List.sum_append];simp
def XD {ns:Ja} (h:∀ v∈ns,0<=v):∀ (i:Nat),0<=(ns.take i).sum/\(ns.take i).sum<=ns.sum:=by
 induction ns with
 | nil=>intro i;simp
 | cons n ns ih =>
  intro i;have z:=h n q9y
  cases i with
  | zero =>
   have:=(ih (λv hv=>h v (q9x _ hv)) ns.length).1;rw [List.take_length] at this;simp;omega
  | succ i =>
   have:=ih (λv hv=>h v (q9x _ hv)) i;rw [List.take_succ_cons,List.sum_cons,List.sum_cons];omega
section
variable {P:Program} {w:World} {K:Fg} {mg:J0} {base:Heap}
def yV (K:Fg) (C:Ad) (x qual:Str) (st:Stmt) (ps:Je):Prop:=∃ (f:Ad) (fd:FuncData),Meth K C x f/\Fun K x qual st f fd/\Binds K fd ps []
def OkM (P:Program) (w:World) (K:Fg) (mg:J0) (base:Heap) (CX:CXT) (k:Nat) (C:Ad) (x:Str) (ps:Je) (sp:Sp):Prop :=
 ∃ (f:Ad) (fd:FuncData),Meth K C x f/\Binds K fd ps []/\FnOk P w K mg base CX k f fd ps sp
def yt (K:Fg) (C:Ad) (qual:Str) (st:Stmt) (ps:Je):Prop:=∃ (f:Ad) (fd:FuncData),Mk K C f/\Fun K "__init__" qual st f fd/\Binds K fd ps []
def OkI (P:Program) (w:World) (K:Fg) (mg:J0) (base:Heap) (CX:CXT) (k:Nat) (C:Ad) (ps:Je) (sp:Sp):Prop :=
 ∃ (f:Ad) (fd:FuncData),Mk K C f/\Binds K fd ps []/\FnOk P w K mg base CX k f fd ps sp
end
section
variable {X:Cx} {CX:CXT} {k:Nat} {C:Ad} {ps:Je} {sp:Sp} {E:XK} {x m:Str} {p pos apos:Pos} {e o:Expr} {es:Jg} {ta:TE} {t:TA}
def pe_okM (h:OkM X.prog X.w X.K X.mg X.base CX k C m ps sp) (c:Cls X.K C) (hr:Room k X.A) (hx:xK CX X E) {pl:Sem Bool} (he:PE X o ta) (ha:PA X (e::es) t)
  (hst:starEach (e::es) X.env=(false,eval e X.env)::starEach es X.env:=by rfl) (hpl:(backTo pos (starEach es X.env)).any (·.1)=false:=by rfl)
  (ht:eval (.Call (.Attribute o m apos) (e::es) [] pos) X.env=(do
   let ov ← eval o X.env
   standAt apos.atName
   let (f,first) ← holding [ov] (getMethod ov m pl)
   callWith pos f first (backTo pos (starEach (e::es) X.env)) (backToKw pos (keywordEach [] X.env))):=by rfl) :
  PE X (.Call (.Attribute o m apos) (e::es) [] pos) (tMeth C m sp [] E ta t):=by
 obtain ⟨f,fd,a,b,d⟩:=h;exact pe_meth he c a d hr b .nil hx ha hst hpl ht
def zV (h:OkI X.prog X.w X.K X.mg X.base CX k C ps sp) (hm:X.mg x=some (.ref C)) (hr:Room (k+1) X.A) (hg:Gl X x) (hx:xK CX X E) (ha:PA X (e::es) t) (hdb:(x == ("__debug__":Str))=false:=by decide)
  (he:starEach (e::es) X.env=(false,eval e X.env)::starEach es X.env:=by rfl) (hpl:(backTo pos (starEach es X.env)).any (·.1)=false:=by rfl):PE X (.Call (.Name x p) (e::es) [] pos) (tMake C sp [] E t):=by
 obtain ⟨f,fd,a,b,d⟩:=h;exact pe_make a d hr hg hm b .nil hx ha hdb he hpl
end
def FH (K:Fg) (x qual:Str) (st:Stmt) (f:Ad):Prop:=∃ (oc:Vl) (od:Option Ad) (kV dc pm:Vl) (an:Option Ad) (cd ct:Vl) (sl:Array (Jd)),K.lookup f=some ⟨oc,od,.func (PySem.W.fnOf x qual (yk st) (z8 st) (zm st) .none kV dc pm an cd ct),sl⟩/\PySem.W.codeIn K cd qual=true/\PySem.W.keepIn K (.ref f)=true
def DH (K:Fg) (x:Str) (st:Stmt) (f:Ad):Prop:=PySem.W.nsIn K mainGlobals x=some (some (.ref f))/\FH K x x st f
def MH (K:Fg) (C:Ad) (x qual:Str) (st:Stmt):Prop:=∃ f:Ad,(PySem.W.findIn K (.ref C) x=some (some (.ref f))/\PySem.W.isFn K (.ref f)=true)/\FH K x qual st f
def CH (K:Fg) (C:Ad):Prop:=PySem.W.plainGet K C Str.empty=true/\PySem.W.hasDictIn K C=true/\PySem.W.plainOver K C=true/\PySem.W.findIn K (.ref C) "__setattr__"=some (some (.builtin "object.__setattr__"))
def FN (K:Fg) (C:Ad):Je->Prop
 | []=>True
 | f::r=>PySem.W.findIn K (.ref C) f=some none/\FN K C r
section
variable {K:Fg} {mg:J0} {x qual:Str} {st:Stmt} {f C:Ad} {h:Heap} {ps:Je}
def DH.d (d:DH K x st f) (X:K.In h) (G:h.Ns mainGlobals mg)
  (b:∀ (kV doc pm:Vl) (an:Option Ad) (cdv ct:Vl) (us:Jc),us.length=ps.length->bindArgs (PySem.W.fnOf x x (yk st) (z8 st) (zm st) .none kV doc pm an cdv ct) ⟨us,[]⟩=pure (ps.zip us)):zC K mg x st ps :=
 by obtain ⟨a,_,_,_,_,_,_,_,_,_,l,c,k⟩:=d;exact defIn_mk X G a l c k b
def MH.m (d:MH K C x qual st)
  (b:∀ (kV doc pm:Vl) (an:Option Ad) (cdv ct:Vl) (us:Jc),us.length=ps.length->bindArgs (PySem.W.fnOf x qual (yk st) (z8 st) (zm st) .none kV doc pm an cdv ct) ⟨us,[]⟩=pure (ps.zip us)):yV K C x qual st ps :=
 by obtain ⟨f,⟨a,n⟩,_,_,_,_,_,_,_,_,_,l,c,k⟩:=d;exact ⟨f,_,⟨a,n,k⟩,ZN l c k,(ZN l c k).binds b⟩
def MH.i (d:MH K C "__init__" qual st) (mk:PySem.W.makesIn K C=true) (kC:PySem.W.keepIn K (.ref C)=true)
  (b:∀ (kV doc pm:Vl) (an:Option Ad) (cdv ct:Vl) (us:Jc),us.length=ps.length->bindArgs (PySem.W.fnOf "__init__" qual (yk st) (z8 st) (zm st) .none kV doc pm an cdv ct) ⟨us,[]⟩=pure (ps.zip us)):yt K C qual st ps :=
 by obtain ⟨f,⟨a,n⟩,_,_,_,_,_,_,_,_,_,l,c,k⟩:=d;exact ⟨f,_,⟨mk,a,n,kC⟩,ZN l c k,(ZN l c k).binds b⟩
def CH.c (d:CH K C):Cls K C:=⟨d.1,d.2.1,d.2.2.1,d.2.2.2⟩
end
end L2
namespace L2
open PySem
def DH.mk {K:Fg} {x:Str} {st:Stmt} {f:Ad} {oc:Vl} {od an:Option Ad} {kV dc pm cd ct:Vl} {sl:Array (Jd)} (a:PySem.W.nsIn K mainGlobals x=some (some (.ref f))) (l:K.lookup f=some ⟨oc,od,.func (PySem.W.fnOf x x (yk st) (z8 st) (zm st) .none kV dc pm an cd ct),sl⟩) (c:PySem.W.codeIn K cd x=true) (k:PySem.W.keepIn K (.ref f)=true):DH K x st f:=⟨a,_,_,_,_,_,_,_,_,_,l,c,k⟩
def MH.mk {K:Fg} {C:Ad} {x qual:Str} {st:Stmt} {f:Ad} {oc:Vl} {od an:Option Ad} {kV dc pm cd ct:Vl} {sl:Array (Jd)} (a:PySem.W.findIn K (.ref C) x=some (some (.ref f))) (n:PySem.W.isFn K (.ref f)=true) (l:K.lookup f=some ⟨oc,od,.func (PySem.W.fnOf x qual (yk st) (z8 st) (zm st) .none kV dc pm an cd ct),sl⟩) (c:PySem.W.codeIn K cd qual=true) (k:PySem.W.keepIn K (.ref f)=true):MH K C x qual st:=⟨f,⟨a,n⟩,_,_,_,_,_,_,_,_,_,l,c,k⟩
def scK {N P:Je} {sc:Scope} (h:(decide (sc.kind=.function) && (!sc.isCoroutine && (!sc.isGenerator && (decide N.Nodup && (decide (N.take P.length=P) && ((P.all λx=>decide (sc.names.lookup x=some .local∨sc.names.lookup x=some .cell)) && sc.names.all λy=>decide (y.2≠.free)))))))=true:=by decide +kernel):FnScope N P sc:=by
 simp only [Bool.and_eq_true,decide_eq_true_eq,Bool.not_eq_true',List.all_eq_true] at h;obtain ⟨h1,h2,h3,h4,h5,h6,h7⟩:=h;exact ⟨h1,h2,h3,h4,h5,h6,h7⟩
def TN (K:Fg) (T:Ad):Je->Prop
 | []=>True
 | x::r=>PySem.W.nsIn K T x=some none/\TN K T r
theorem TN.g {K:Fg} {T:Ad} {x:Str}:∀ {L:Je} (_:TN K T L) (i:Nat),L[i]?=some x->PySem.W.nsIn K T x=some none
 | _::_,h,0,e=>by cases e;exact h.1
 | _::_,h,i+1,e=>TN.g h.2 i e
theorem FN.g {K:Fg} {C:Ad} {x:Str}:∀ {L:Je} (_:FN K C L) (i:Nat),L[i]?=some x->PySem.W.findIn K (.ref C) x=some none
 | _::_,h,0,e=>by cases e;exact h.1
 | _::_,h,i+1,e=>FN.g h.2 i e
theorem ucV {n:Nat}:∀ {us:Jc},us.length=n+1->∃ a r,us=a::r/\r.length=n
 | a::r,h=>⟨a,r,rfl,Nat.succ.inj h⟩
end L2
namespace L2
open PySem PySem.Spec PyProof.Rows
structure Hd (B:Hp) (L:Jl) (H:Hp):Prop where
 nd:(L.map Prod.fst).Nodup
 nw:∀ p∈L,B p.1=none
 st:∀ p∈L,H p.1=some p.2
 sm:Same B H
namespace Hd
variable {B:Hp} {L:Jl} {H H':Hp} {a b:Ad} {o o':HO}
def base:Hd B [] B:=⟨List.nodup_nil,(λ_ h=>nomatch h),(λ_ h=>nomatch h),Same.refl B⟩
def get (h:Hd B L H) (i:Nat) (e:L[i]?=some (a,o)):H a=some o:=h.st _ (List.mem_of_getElem? e)
def same (h:Hd B L H) (s:Same H H'):Hd B L H':=⟨h.nd,h.nw,λp m=>s _ _ (h.st p m),h.sm.trans s⟩
def new (h:Hd B L H) (n:H a=none):Hd B ((a,o)::L) (upd H a o):=by
 have ne:∀ p∈L,p.1≠a:=λp m=>zS (h.st p m) n;refine ⟨List.nodup_cons.mpr ⟨λm=>?_,h.nd⟩,λp m=>?_,λp m=>?_,zN h.sm (h.sm.free n)⟩
 ·obtain ⟨p,mp,e⟩:=List.mem_map.mp m
  exact ne p mp e
 ·rcases List.mem_cons.mp m with rfl | m
  ·exact h.sm.free n
  ·exact h.nw p m
 ·rcases List.mem_cons.mp m with rfl | m
  ·exact zg
  ·rw [zy (ne p m)];exact h.st p m
def fst_set (i:Nat) (e:L[i]?=some (a,o)):(L.set i (a,o')).map Prod.fst=L.map Prod.fst:=by
 rw [List.map_set];apply List.ext_getElem?;intro j;rw [List.getElem?_set]
 split
 ·rename_i q
  subst q
  split
  ·rw [List.getElem?_map,e];rfl
  ·rename_i q
   rw [List.getElem?_eq_none (by omega)]
 ·rfl
def ne (h:Hd B L H) (i j:Nat) (ei:L[i]?=some (a,o)) (ej:L[j]?=some (b,o')) (hij:i≠j):a≠b:=λe=>by
 subst e;have h1:(L.map Prod.fst)[i]?=some a:=by rw [List.getElem?_map,ei];rfl
 have h2:(L.map Prod.fst)[j]?=some a:=by rw [List.getElem?_map,ej];rfl
 obtain ⟨b1,e1⟩:=List.getElem?_eq_some_iff.mp h1;obtain ⟨b2,e2⟩:=List.getElem?_eq_some_iff.mp h2
 have key:∀ (l:Jf),l.Nodup->∀ (i j:Nat) (b1:i<l.length) (b2:j<l.length),l[i]=l[j]->i=j:=by
  intro l hl
  induction l with
  | nil=>intro i j b1;cases b1
  | cons x r ih =>
   intro i j b1 b2 q;have nr:=List.nodup_cons.mp hl
   cases i with
   | zero =>
    cases j with
    | zero=>rfl
    | succ j=>exact absurd (by rw [List.getElem_cons_zero,List.getElem_cons_succ] at q;rw [q];exact List.getElem_mem _) nr.1
   | succ i =>
    cases j with
    | zero=>exact absurd (by rw [List.getElem_cons_zero,List.getElem_cons_succ] at q;rw [← q];exact List.getElem_mem _) nr.1
    | succ j=>rw [List.getElem_cons_succ,List.getElem_cons_succ] at q;rw [ih nr.2 i j _ _ q]
 exact hij (key _ h.nd i j b1 b2 (e1.trans e2.symm))
def chg (h:Hd B L H) (i:Nat) (e:L[i]?=some (a,o)) (k:∀ c u,c≠a->H c=some u->H' c=some u) (q:H' a=some o'):Hd B (L.set i (a,o')) H':=by
 have nb:B a=none:=h.nw _ (List.mem_of_getElem? e);refine ⟨by rw [fst_set i e];exact h.nd,λp m=>?_,λp m=>?_,λc u z=>k c u (zS z nb) (h.sm c u z)⟩
 ·rcases List.mem_or_eq_of_mem_set m with m | rfl
  ·exact h.nw p m
  ·exact nb
 ·obtain ⟨j,lt,ej⟩:=List.getElem_of_mem m
  have ej:(L.set i (a,o'))[j]?=some p:=by rw [List.getElem?_eq_getElem lt,ej]
  rw [List.getElem?_set] at ej
  split at ej
  ·split at ej
   ·cases ej;exact q
   ·cases ej
  ·rename_i hij
   obtain ⟨c,u⟩:=p;exact k c u (Ne.symm (h.ne i j e ej hij)) (h.get j ej)
def put (h:Hd B L H) (i:Nat) (e:L[i]?=some (a,o)):Hd B (L.set i (a,o')) (upd H a o'):=h.chg i e (λc u n z=>by rw [zy n];exact z) zg
def sql (h:Hd B L H) {K:Fg} {xs:Jm} (q:SqL K B a xs):SqL K H a xs:=zD q h.sm
def lst (h:Hd B L H) {K:Fg} {xs:Jm} (i:Nat) (e:L[i]?=some (a,.lst xs)):SqL K H a xs:=SqL.of (h.get i e)
def tup (h:Hd B L H) {K:Fg} {xs:Jm} (i:Nat) (e:L[i]?=some (a,.tup xs)):SqT K H a xs:=SqT.of (h.get i e)
def sub {L':Jl} (h:Hd B L H) (s:List.Sublist L' L):Hd B L' H:=⟨h.nd.sublist (s.map _),λp m=>h.nw p (s.subset m),λp m=>h.st p (s.subset m),h.sm⟩
def tl {p:Ad×HO} (h:Hd B (p::L) H):Hd B L H:=h.sub (List.sublist_cons_self _ _)
def free (h:Hd B L H) (n:H a=none):B a=none:=h.sm.free n
def add (h:Hd B L H) (n:∀ p∈L,p.1≠a) (nb:B a=none) (e:H a=some o):Hd B ((a,o)::L) H:=by
 refine ⟨List.nodup_cons.mpr ⟨λm=>?_,h.nd⟩,λp m=>?_,λp m=>?_,h.sm⟩
 ·obtain ⟨p,mp,e⟩:=List.mem_map.mp m
  exact n p mp e
 ·rcases List.mem_cons.mp m with rfl | m
  ·exact nb
  ·exact h.nw p m
 ·rcases List.mem_cons.mp m with rfl | m
  ·exact e
  ·exact h.st p m
def made {C x dx l:Ad} {ox ol:HO} (h:Hd B L H) (nx:H x=none) (ndx:H dx=none) (ne:dx≠x) (k:∀ b u,b≠x->upd (upd H dx (.own x)) x (.ins C dx []) b=some u->H' b=some u)
  (nl:upd (upd H dx (.own x)) x (.ins C dx []) l=none) (ex:H' x=some ox) (el:H' l=some ol):Hd B ((l,ol)::(x,ox)::(dx,.own x)::L) H':=by
 have h1:Hd B ((dx,.own x)::L) (upd H dx (.own x)):=h.new ndx;have h2:Hd B ((x,.ins C dx [])::(dx,.own x)::L) (upd (upd H dx (.own x)) x (.ins C dx [])):=h1.new (by rw [zy (Ne.symm ne)];exact nx);have h3:Hd B ((x,ox)::(dx,.own x)::L) H':=h2.chg 0 rfl k ex;refine h3.add (λp m=>?_) (h2.free nl) el;rcases List.mem_cons.mp m with rfl | m
 ·exact zS (h2.get 0 rfl) nl
 ·exact zS (h2.st p (q9x _ m)) nl
def made0 {C x dx:Ad} {ox:HO} (h:Hd B L H) (nx:H x=none) (ndx:H dx=none) (ne:dx≠x) (k:∀ b u,b≠x->upd (upd H dx (.own x)) x (.ins C dx []) b=some u->H' b=some u) (ex:H' x=some ox):Hd B ((x,ox)::(dx,.own x)::L) H':=by
 have h1:Hd B ((dx,.own x)::L) (upd H dx (.own x)):=h.new ndx;have h2:Hd B ((x,.ins C dx [])::(dx,.own x)::L) (upd (upd H dx (.own x)) x (.ins C dx [])):=h1.new (by rw [zy (Ne.symm ne)];exact nx);exact h2.chg 0 rfl k ex
def perm {B:Hp} {L L':Jl} {H:Hp} (h:Hd B L H) (p:L.Perm L'):Hd B L' H:=⟨(p.map Prod.fst).nodup h.nd,λq m=>h.nw q (p.mem_iff.mpr m),λq m=>h.st q (p.mem_iff.mpr m),h.sm⟩
end Hd
section
variable {X:Cx} {st:Stmt} {t:TS} {e:Expr} {te:TE}
inductive tMid (t:TS) (D:Ends) (σ:St) (H:Hp):Prop
 | mk (M:St->Hp->Prop) (_:t { D with nx:=M } σ H) (_:∀ σ' H',M σ' H'->D.nx σ' H')
def yQ (h:PS X st t):PS X st (tMid t):=by
 intro pins s σ H D I q;obtain ⟨M,q,k⟩:=q;refine thn (h pins s σ H _ I q) λf s1 z=>?_
 cases f with
 | next=>exact let ⟨σ',H',I',z⟩:=z;⟨σ',H',I',k _ _ z⟩
 | ret v=>exact z
 | brk=>exact z
 | cont=>exact z
end
def but (H:Hp) (ls:Jf):Hp:=λb=>if b∈ls then none else H b
def ZU {H:Hp} {ls:Jf} {b:Ad} (h:b∈ls):but H ls b=none:=by unfold but;rw [if_pos h]
def xk {H:Hp} {ls:Jf} {b:Ad} {o:HO} (h:H b=some o) (n:b ∉ ls):but H ls b=some o:=by unfold but;rw [if_neg n];exact h
def but_sub {H:Hp} {ls:Jf}:Same (but H ls) H:=λb o z=>by
 unfold but at z
 split at z
 ·cases z
 ·exact z
namespace Hd
variable {B B':Hp} {L:Jl} {H H':Hp} {a:Ad} {o:HO}
def but1 (h:H a=some o):Hd (but H [a]) [(a,o)] H:=⟨by simp,λp m=>by rw [List.mem_singleton.mp m];exact ZU (by simp),λp m=>by rw [List.mem_singleton.mp m];exact h,but_sub⟩
def into (h:Hd B [(a,o)] H):Same B (but H [a]):=λb u z=>xk (h.sm _ _ z) (by
 intro q;have q:=List.mem_singleton.mp q;subst q;rw [h.nw _ (List.mem_singleton.mpr rfl)] at z;cases z)
def back {L:Jl} {o':HO} (h:Hd B L H) (i:Nat) (e:L[i]?=some (a,o)) (k:Hd (but H [a]) [(a,o')] H'):Hd B (L.set i (a,o')) H' :=
 h.chg i e (λc u n z=>k.sm _ _ (xk z (by simp [n]))) (k.get 0 rfl)
end Hd
def but_inv {H:Hp} {a b:Ad} {o:HO} (h:but H [a] b=some o):b≠a/\H b=some o:=by
 unfold but at h
 split at h
 ·cases h
 ·rename_i z;exact ⟨λe=>z (by rw [e];exact List.mem_singleton_self a),h⟩
def but_free {H:Hp} {a b:Ad} (n:but H [a] b=none) (ne:b≠a):H b=none:=by
 unfold but at n;rw [if_neg (by simp [ne])] at n;exact n
section
variable {X:Cx} {pins:Jb} {σ σ':St} {H H':Hp} {s s':Sh} {a:Ad} {xs:Jm}
def Inv.hide (I:Inv X pins σ H s) (e:H a=some (.lst xs)):∃ (ob:Obj) (its:Jc) (n:Nat),Vals xs its/\ob={ cls:=.type "list",data:=.seq its.toArray n }/\xs.length<=sizeLine/\Inv X ((a,ob)::pins) σ (but H [a]) s:=by
 obtain ⟨hz,its,n,r,ea⟩:=I.hok a _ e
 have ne:∀ {b:Ad} {o:HO},H b=some o->o≠.lst xs->b ∉ [a]:=λ{b o} z y m=>by
  cases List.mem_singleton.mp m;rw [e] at z;injection z with z;exact y z.symm
 have nn:∀ {b:Ad},H b=none->but H [a] b=none:=λ{b} z=>by
  unfold but;split
  ·rfl
  ·exact z
 refine ⟨_,its,n,r,rfl,hz,I.ok,I.os,I.bare,⟨I.base.keep,I.base.slot,λb o q m x=>nn (I.base.free b o q m x),I.base.there,λb ys q=>xk (I.base.tups b ys q) (ne (I.base.tups b ys q) (λz=>by cases z)),λb o u q=>xk (I.base.frzs b o u q) (ne (I.base.frzs b o u q) (λz=>by cases z)),λb ps q=>let ⟨more,z⟩:=I.base.tbls b ps q;⟨more,xk z (ne z (λz=>by cases z))⟩⟩,I.loc,I.cell,nn I.free,λx c q=>nn (I.freeC x c q),λp m=>?_,λb u q=>?_,I.len⟩
 ·rcases List.mem_append.mp m with m | m
  ·have q:=I.pin p (List.mem_append_left _ m)
   exact ⟨q.1,nn q.2.1,q.2.2⟩
  ·rcases List.mem_cons.mp m with rfl | m
   ·refine ⟨ea,ZU (List.mem_singleton_self a),λz=>?_,λz=>?_,λv z=>by cases z⟩
    ·have:=I.free
     rw [← z] at this;have e':H a=some (.lst xs):=e;rw [e'] at this;cases this
    ·obtain ⟨_,o,q,_⟩:=I.ok.funs.mem z
     have:=I.base.free a o q (I.ok.frf a z) (λy=>I.ok.exfs a y z);rw [e] at this;cases this
   ·have q:=I.pin p (x0x _ m)
    exact ⟨q.1,nn q.2.1,q.2.2⟩
 ·obtain ⟨nb,q⟩:=but_inv q
  exact (I.hok b u q).stay (λ_ _ _ z=>z) (λc z=>xk z (ne z (λy=>by cases y))) (λc ys z=>xk z (ne z (λy=>by cases y)))
def Inv.back {ob:Obj} {its:Jc} {n:Nat} (I:Inv X pins σ H s) (e:H a=some (.lst xs)) (r:Vals xs its) (eo:ob={ cls:=.type "list",data:=.seq its.toArray n }) (hz:xs.length<=sizeLine) (J:Inv X ((a,ob)::pins) σ' H' s'):H' a=none/\Inv X pins σ' (upd H' a (.lst xs)) s':=by
 have ea:=J.pin (a,ob) (x0x _ q9y);have na:∀ {b:Ad},H b=none->b≠a:=λ{b} z y=>by subst y;rw [e] at z;cases z
 have st:∀ {b:Ad} {o:HO},H' b=some o->upd H' a (.lst xs) b=some o:=λ{b o} z=>by rw [zy (zS z ea.2.1)];exact z
 refine ⟨ea.2.1,J.ok,J.os,J.bare,⟨J.base.keep,J.base.slot,λb o q m x=>?_,J.base.there,λb ys q=>st (J.base.tups b ys q),λb o u q=>st (J.base.frzs b o u q),λb ps q=>let ⟨more,z⟩:=J.base.tbls b ps q;⟨more,st z⟩⟩,J.loc,J.cell,?_,λx c q=>?_,λp m=>?_,λb u q=>?_,J.len⟩
 ·rw [zy (na (I.base.free b o q m x))];exact J.base.free b o q m x
 ·rw [zy (na I.free)];exact J.free
 ·rw [zy (na (I.freeC x c q))];exact J.freeC x c q
 ·have q:=J.pin p (by
   rcases List.mem_append.mp m with m | m
   ·exact List.mem_append_left _ m
   ·exact x0x _ (q9x _ m))
  exact ⟨q.1,by rw [zy (na (I.pin p m).2.1)];exact q.2.1,q.2.2⟩
 ·by_cases hb:b=a
  ·subst hb
   rw [zg] at q;cases q;subst eo;exact ⟨hz,its,n,r,ea.1⟩
  ·rw [zy hb] at q
   exact (J.hok b u q).stay (λ_ _ _ z=>z) (λc z=>st z) (λc ys z=>st z)
inductive tHide (te:TE) (σ:St) (H:Hp) (Q:VK):Prop
 | mk (a:Ad) (xs:Jm) (_:H a=some (.lst xs)) (_:te σ (but H [a]) λv H'=>H' a=none->Q v (upd H' a (.lst xs)))
def pe_hide {e:Expr} {te:TE} (h:PE X e te):PE X e (tHide te):=by
 intro pins s σ H Q I q;obtain ⟨a,xs,ea,q⟩:=q;obtain ⟨ob,its,n,r,eo,hz,J⟩:=I.hide ea;refine thn (h _ s σ _ _ J q) λu s1 z=>?_;obtain ⟨v,H',J1,rv,q1⟩:=z;obtain ⟨fr,J2⟩:=I.back ea r eo hz J1;exact ⟨v,_,J2,rv,q1 fr⟩
end
def hide_at {te:TE} {σ:St} {B H:Hp} {a:Ad} {xs:Jm} {Q:VK} (h:Hd B [(a,.lst xs)] H) (q:∀ B',Same B B'->te σ B' λv H'=>H' a=none->Q v (upd H' a (.lst xs))):tHide te σ H Q :=
 ⟨a,xs,h.get 0 rfl,q _ h.into⟩
namespace Hd
variable {B:Hp} {L L':Jl} {H:Hp}
def split (h:Hd B L H) (s:List.Sublist L' L):Same B (but H (L'.map Prod.fst))/\Hd (but H (L'.map Prod.fst)) L' H:=by
 refine ⟨λb o z=>xk (h.sm _ _ z) λm=>?_,(h.sub s).nd,λp m=>ZU (List.mem_map_of_mem m),(h.sub s).st,but_sub⟩;obtain ⟨p,mp,e⟩:=List.mem_map.mp m;have:=h.nw p (s.subset mp);rw [e] at this;rw [this] at z;cases z
end Hd
def ItS (lo c:Int) (n:Nat):It:=⟨λi _=>i<n,λi H x H'=>H'=H/\x=.int (lo+i*c),λi _=>n<=i⟩
section
variable {X:Cx} {tg:Expr}
end
section
variable {X:Cx}
end
section
variable {X:Cx} {pins:Jb} {σ σ':St} {H H':Hp} {s s':Sh} {a:Ad} {xs:Jm}
def ZV (H H':Hp):Prop:=∀ b o,(∀ x u,o≠.frz x u)->H b=some o->H' b=some o
def lsts (L:List (Ad×Jm)):Jl:=L.map λp=>(p.1,.lst p.2)
end
def ints_at {ns:Ja} {us:Jc} (h:Vals (ns.map V.int) us) (i:Nat) (v:Vl) (e:us[i]?=some v):∃ n t,ns[i]?=some n/\v=.int n t:=by
 induction ns generalizing us i with
 | nil=>cases h;cases e
 | cons n ns ih =>
  cases h with
  | cons r rr =>
   cases i with
   | zero=>obtain ⟨t,rfl⟩:=r;cases (show some _=some v from e);exact ⟨n,t,rfl,rfl⟩
   | succ i=>exact ih rr i e
def Xy {vs:Jm} {us:Jc} (h:Vals vs us):us.length=vs.length:=by
 induction h with
 | nil=>rfl
 | cons _ _ ih=>rw [x0z,x0z,ih]
section
variable {X:Cx}
end
section
variable {X:Cx} {pins:Jb} {σ:St} {H:Hp} {s:Sh}
def clsV:V->Vl
 | .ref a=>.ref a
 | .ty n=>.type n
 | _=>.none
def isClsV:V->Bool
 | .ref _=>true
 | .ty _=>true
 | _=>false
end
section
variable {prog:Program} {w:World} {A:Around} {E:J5} {s:Sh}
end
section
variable {X:Cx} {pos:Pos}
inductive rAnyB (K:Fg) (xs:Jm) (H:Hp) (Q:VK):Prop
 | mk (p:Ad) (bs:List Bool) (_:xs=[.ref p]) (_:SqL K H p (bs.map V.bl)) (_:Q (.bl (bs.any id)) H)
def bools_at {bs:List Bool} {us:Jc} (h:Vals (bs.map V.bl) us) (i:Nat) (v:Vl) (e:us[i]?=some v):∃ b,bs[i]?=some b/\v=.bool b:=by
 induction bs generalizing us i with
 | nil=>cases h;cases e
 | cons b bs ih =>
  cases h with
  | cons r rr =>
   cases i with
   | zero=>cases (show _=Value.bool b from r);cases (show some _=some v from e);exact ⟨b,rfl,rfl⟩
   | succ i=>exact ih rr i e
def X9 (bs:List Bool):((List.range bs.length).any λi=>(bs[i]?).getD false)=bs.any id:=by
 induction bs with
 | nil=>rfl
 | cons n ns ih =>
  rw [x0z,List.range_succ_eq_map,List.any_cons,List.any_map,List.any_cons,← ih];rfl
def call_anyB (hc:X.calm=true):ZI X (.builtin "any") (rAnyB X.K):=by
 intro pins s σ H xs us Q I r h;obtain ⟨p,bs,rfl,hp,q⟩:=h;obtain ⟨u,rfl,ru⟩:=r.one;cases (show u=Value.ref p from ru);obtain ⟨its,rv,pl,_⟩:=I.list hp;have hl:=pl.isList;have hlt:p<s.heap.objs.size:=by obtain ⟨_,e,_⟩:=hl;exact Heap.lt_size e
 refine call_any_walk (wpAny_pyIter_list hl ?_)
 refine ⟨s.heap.objs.size,[s.heap.objs.size,p],[s.heap.objs.size],its.toArray.size,_,_,λi=>(bs[i]?).getD false,rfl,Walks.list (A:=X.A.in1) (I.ok.hd hc) _ p (Nat.ne_of_lt hlt) its.toArray,
  ⟨⟨_,Heap.get?_push_size _ rfl,rfl,rfl⟩,hl.push _⟩,λi v s' Q' E' hP hQ=>?_,λh' tk hk=>?_⟩
 ·obtain ⟨n,e,rfl⟩:=bools_at rv i v (by simpa using hP)
  simp only [e,Option.getD_some] at hQ;exact wpAny_truthy_bool hQ
 ·have ek:((List.range its.toArray.size).any λi=>(bs[i]?).getD false)=bs.any id:=by
   have:=Xy rv;rw [Jh] at this;rw [List.size_toArray,this];exact X9 bs
  rw [ek];exact ⟨.bl _,H,I.kept λb o e=>hk b o (λhm=>by rw [List.mem_singleton.mp hm] at e;exact Nat.lt_irrefl _ (Heap.lt_size e)) (Heap.get?_push_of_some _ e),rfl,q⟩
end
section
variable {X:Cx} {pins:Jb} {σ:St} {H:Hp} {s:Sh} {h':Heap}
end
def Itz (K:Fg) (l1 l2:Ad):It :=
  ⟨λi H=>∃ xs ys x y,SqL K H l1 xs/\SqL K H l2 ys/\xs[i]?=some x/\ys[i]?=some y,
   λi H x H'=>∃ T u v,x=.ref T/\H T=none/\H'=upd H T (.tup [u,v])/\∀ xs ys,SqL K H l1 xs->SqL K H l2 ys->xs[i]?=some u/\ys[i]?=some v,
   λi H=>∃ xs ys,SqL K H l1 xs/\SqL K H l2 ys/\(xs.length<=i∨ys.length<=i)⟩
section
variable {X:Cx} {es:Jg} {kt:Nat} {tp:Pos}
end
section
variable (P:Program) (w:World)
end
section
variable {P:Program} {w:World} {H H':Hp} {h h':Heap} {a:Ad} {o:HO}
end
section
variable {P:Program} {w:World} {H:Hp} {h h':Heap} {x e:Ad} {o':HO}
end
section
variable {fs fs' ex ex':Jf} {H H1 H2:Hp} {h h1 h2 h':Heap} {a x e:Ad} {o:HO}
end
section
variable {X:Cx} {pins:Jb} {σ:List (Jn)} {H H':Hp} {s:Sh} {h':Heap}
end
section
variable {X:Cx}
variable {a b:Expr} {ta tb:TE} {pos:Pos}
variable {tA tB':TT} {rest:Jg}
end
section
variable {X:Cx} {pins:Jb} {σ:St} {H:Hp} {s:Sh} {a:Ad} {xs ys:Jm}
end
section
variable {X:Cx} {pins:Jb} {σ:St} {H:Hp} {s:Sh} {E:J5}
end
section
variable {X:Cx} {st:Stmt} {rest:List Stmt} {t u:TS} {e:Expr} {te:TE} {pos:Pos}
end
section
variable {X:Cx} {pos:Pos}
end
section
variable {X:Cx} {tg:Expr}
end
section
variable {X:Cx} {a b c:Expr} {ta tb tc:TE} {pos:Pos}
end
section
variable {prog:Program} {w:World} {A:Around} {E:J5} {s:Sh} {K:Fg} {x dx C f:Ad} {mA:J0} {name:Str} {v:Vl}
end
section
variable {P:Program} {w:World} {H H':Hp} {h h':Heap} {a C dx:Ad} {fs fs':List (Str×V)}
end
section
variable {X:Cx} {pins:Jb} {σ:St} {H:Hp} {s:Sh} {a C dx:Ad} {fs:List (Str×V)} {f:Str} {v:V} {A:Around} {E:J5}
end
section
variable {X:Cx} {o e value:Expr} {f:Str} {pos pos' tpos:Pos} {ta tv:TE}
end
section
variable {X:Cx} {pins:Jb} {σ:St} {H:Hp} {s:Sh} {A:Around} {E:J5} {Q:J5} {c:Vl} {b:Bool}
end
section
variable {X:Cx} {e:Expr} {es:Jg} {te:TE} {t:TA} {pos:Pos}
end
section
variable {X:Cx} {pins:Jb} {σ:St} {H:Hp} {s s':Sh}
end
section
variable {X:Cx} {CX:CXT} {k:Nat} {f C:Ad} {fd:FuncData} {ps:Je} {sp:Sp} {dvs:Jm} {ds:Jc} {E:XK} {x m:Str} {p pos apos:Pos} {e o:Expr} {es:Jg} {ta:TE} {t:TA}
end
section
variable {X:Cx} {CX:CXT} {k:Nat} {f C:Ad} {fd:FuncData} {ps ks:Je} {sp:Sp} {E:XK} {x m:Str} {p pos apos kpos:Pos} {e o:Expr} {es:Jg} {kws:List Keyword} {te ta:TE} {t tk:TA} {nm:Option Str}
variable {g:Jc->Jc->Jc} {gV:Jm->Jm->Jm}
end
section
variable {X:Cx} {x:Str} {p pos:Pos} {e:Expr} {es:Jg} {t:TA} {id T:String} {r:Jm->Hp->VK->Prop}
end
section
variable {κ:Type} [DecidableEq κ]
def ZO (kvs:List (κ×V)) (k:κ):Jn:=(kvs.find? λkv=>decide (kv.1=k)).map (·.2)
def putK (kvs:List (κ×V)) (k:κ) (v:V):List (κ×V) :=
 if (kvs.any λkv=>decide (kv.1=k))=true then kvs.map (λkv=>if kv.1=k then (kv.1,v) else kv) else kvs++[(k,v)]
def dropK (kvs:List (κ×V)) (k:κ):List (κ×V):=kvs.filter λkv=>decide (kv.1≠k)
def XB {p:κ×V} {r:List (κ×V)} {k:κ} (e:p.1=k):ZO (p::r) k=some p.2:=by simp [ZO,List.find?_cons,e]
def XC {p:κ×V} {r:List (κ×V)} {k:κ} (e:¬ p.1=k):ZO (p::r) k=ZO r k:=by simp [ZO,List.find?_cons,e]
def XU (kvs:List (κ×V)) (k:κ) (v:V):(putK kvs k v).length<=kvs.length+1:=by
 unfold putK
 split
 ·rw [Jh];omega
 ·rw [Ji,x0z,List.length_nil];omega
def RelO.getD {o:Jn} {u:Jd} {d:V} {d':Vl} (r:RelO o u) (rd:RelV d d'):RelV (o.getD d) (u.getD d'):=by
 cases o with
 | none=>cases u with
  | none=>exact rd
  | some _=>exact (show False from r).elim
 | some _=>cases u with
  | none=>exact (show False from r).elim
  | some _=>exact r
def KV.val {kvs:List (κ×V)} {vs:List (κ×Vl)} (r:KV kvs vs) (k:κ):RelO (ZO kvs k) (valueAt vs k):=by
 unfold KV at r
 induction r with
 | nil=>exact True.intro
 | @cons p q ps qs h t ih =>
  obtain ⟨h1,h2⟩:=h;by_cases e:p.1=k
  ·have e':q.1=k:=h1.symm.trans e
   have b:valueAt (q::qs) k=some q.2:=by simp [valueAt,List.find?_cons,e']
   rw [XB e,b];exact h2
  ·have e':¬ q.1=k:=λz=>e (h1.trans z)
   have b:valueAt (q::qs) k=valueAt qs k:=by simp [valueAt,List.find?_cons,e']
   rw [XC e,b];exact ih
def KV.any {kvs:List (κ×V)} {vs:List (κ×Vl)} (r:KV kvs vs) (k:κ):(kvs.any λkv=>decide (kv.1=k))=vs.any λkv=>decide (kv.1=k):=by
 unfold KV at r
 induction r with
 | nil=>rfl
 | cons h t ih=>rw [List.any_cons,List.any_cons,ih,h.1]
def KV.repl {kvs:List (κ×V)} {vs:List (κ×Vl)} (r:KV kvs vs) (k:κ) {y:V} {u:Vl} (ry:RelV y u) :
  KV (kvs.map λkv=>if kv.1=k then (kv.1,y) else kv) (vs.map λkv=>if kv.1=k then (kv.1,u) else kv):=by
 unfold KV at r ⊢
 induction r with
 | nil=>exact .nil
 | @cons p q ps qs h t ih =>
  rw [List.map_cons,List.map_cons];refine .cons ?_ ih;obtain ⟨h1,h2⟩:=h;by_cases e:p.1=k
  ·rw [if_pos e,if_pos (h1.symm.trans e)];exact ⟨h1,ry⟩
  ·rw [if_neg e,if_neg (λz=>e (h1.trans z))];exact ⟨h1,h2⟩
def KV.put {kvs:List (κ×V)} {vs:List (κ×Vl)} (r:KV kvs vs) (k:κ) {y:V} {u:Vl} (ry:RelV y u):KV (putK kvs k y) (stored vs k u):=by
 unfold putK stored;rw [r.any k];by_cases e:(vs.any λkv=>decide (kv.1=k))=true
 ·rw [if_pos e,if_pos e];exact r.repl k ry
 ·rw [if_neg e,if_neg e];exact Paired.snoc r ⟨rfl,ry⟩
def KV.length {kvs:List (κ×V)} {vs:List (κ×Vl)} (r:KV kvs vs):kvs.length=vs.length:=Paired.length r
end
def kV_is {P:Program} {w:World} {k:Key} {u:Vl} (r:RelV (kV k) u):(yK P w).is k u=true:=by
 cases k with
 | inl i=>obtain ⟨t,e⟩:=(show ∃ t,u=Value.int i t from r);subst e;exact XT P w i t
 | inr x=>obtain ⟨t,e⟩:=(show ∃ t,u=Value.str x t from r);subst e;exact XS P w x t
theorem YW {P:Program} {w:World}:∀ {ks:List Key} {us:Jc},Vals (ks.map kV) us->ItemsAre (yK P w) ks us
 | [],_,r=>by rw [List.map_nil] at r;cases r;exact .nil
 | k::ks,_,r=>by
  rw [List.map_cons] at r
  cases r with
  | cons h t=>exact .cons (kV_is h) (YW t)
abbrev KT (H:Hp):List (List Key×V)->List (List Key×Ad×Vl)->Prop:=Paired λp q=>p.1=q.1/\H q.2.1=some (.tup (p.1.map kV))/\RelV p.2 q.2.2
def KT.val {H:Hp} {kvs:List (List Key×V)} {xs:List (List Key×Ad×Vl)} (r:KT H kvs xs) (k:List Key):RelO (ZO kvs k) ((atKey xs k).map (·.2)):=by
 induction r with
 | nil=>exact True.intro
 | @cons p q ps qs h t ih =>
  obtain ⟨h1,_,h2⟩:=h;by_cases e:p.1=k
  ·have e':q.1=k:=h1.symm.trans e
   have b:atKey (q::qs) k=some q.2:=by simp [atKey,List.find?_cons,e']
   rw [XB e,b];exact h2
  ·have e':¬ q.1=k:=λz=>e (h1.trans z)
   have b:atKey (q::qs) k=atKey qs k:=by simp [atKey,List.find?_cons,e']
   rw [XC e,b];exact ih
section
variable {P:Program} {w:World} {H:Hp} {h:Heap} {a:Ad}
def rd_of {u:HO} (ok:HOk P w H h) (e:Rd H a u):ObjOk P w H h a u:=e.ok ok
def dk_rd {kvs:Jk} (ok:HOk P w H h) (e:Rd H a (.dK kvs)):kvs.length<=sizeLine/\(a == sysModules)=false/\∃ vs,KV kvs vs/\h.DictOf (yK P w) a vs :=
 show ObjOk P w H h a (.dK kvs) from rd_of ok e
def dk_of {kvs:Jk} (ok:HOk P w H h) (e:H a=some (.dK kvs)):kvs.length<=sizeLine/\(a == sysModules)=false/\∃ vs,KV kvs vs/\h.DictOf (yK P w) a vs:=dk_rd ok (.inl e)
def key_of {ks:List Key} (ok:HOk P w H h) (e:H a=some (.tup (ks.map kV))):(tupleKind (yK P w)).is h ks a:=by
 obtain ⟨_,its,r,o,h1,h2,n,h3⟩:=(show ObjOk P w H h a (.tup (ks.map kV)) from ok a _ e);exact ⟨o,its.toArray,n,h1,h2,h3,by simpa using YW r⟩
def dt_rd {kvs:List (List Key×V)} (ok:HOk P w H h) (e:Rd H a (.dT kvs)):kvs.length<=sizeLine/\(a == sysModules)=false /\
  ∃ xs,KT H kvs xs/\h.DictOfH (tupleKind (yK P w)) a xs:=by
 obtain ⟨z,y,xs,r,o,es,ep,h1,h2,h3,h4,h5⟩:=(show ObjOk P w H h a (.dT kvs) from rd_of ok e);refine ⟨z,y,xs,r,o,es,ep,h1,h2,h3,h4,λx hx=>?_,h5⟩
 have all:∀ {l:List (List Key×V)} {m:List (List Key×Ad×Vl)},KT H l m->∀ x∈m,(tupleKind (yK P w)).is h x.1 x.2.1:=by
  intro l m q
  induction q with
  | nil=>intro x hx;exact nomatch hx
  | @cons p q ps qs hq t ih =>
   intro x hx;rcases List.mem_cons.mp hx with e | hx
   ·subst e
    exact key_of ok (by rw [← hq.1];exact hq.2.1)
   ·exact ih x hx
 exact all r x hx
end
def DGet (H:Hp) (a:Ad) (y:V) (r:Jn):Prop :=
 (∃ kvs k,Rd H a (.dK kvs)/\y=kV k/\r=ZO kvs k)∨∃ kvs k b,Rd H a (.dT kvs)/\y=.ref b/\H b=some (.tup (k.map kV))/\r=ZO kvs k
def DPut (H:Hp) (a:Ad) (y v:V) (H':Hp):Prop :=
 (∃ kvs k,H a=some (.dK kvs)/\y=kV k/\kvs.length<sizeLine/\H'=upd H a (.dK (putK kvs k v))) ∨
 ∃ kvs k b,H a=some (.dT kvs)/\y=.ref b/\H b=some (.tup (k.map kV))/\kvs.length<sizeLine/\H'=upd H a (.dT (putK kvs k v))
def DGet.k {H:Hp} {a:Ad} {kvs:Jk} {k:Key} (e:H a=some (.dK kvs)):DGet H a (kV k) (ZO kvs k):=.inl ⟨kvs,k,.inl e,rfl,rfl⟩
section
variable {X:Cx} {pins:Jb} {σ:St} {H:Hp} {s:Sh} {a:Ad} {y v:V} {u r:Vl} {o:Jn} {A:Around} {E:J5}
def Inv.big (I:Inv X pins σ H s):sysModules<s.heap.objs.size:=by
 have h:mainGlobals<s.heap.objs.size:=(I.mod.glob.keeps I.bk).lt;exact Nat.lt_trans (by decide) h
def d_getItem {Q:J5} (hu:A.units+1<cLine) (I:Inv X pins σ H s) (g:DGet H a y (some v)) (ry:RelV y u) (h:∀ w' s',Inv X pins σ H s'->RelV v w'->Q w' s') :
  wpAny (model X.prog X.w) A (getItem (.ref a) u) Q E s:=by
 rcases g with ⟨kvs,k,e,ey,l⟩ | ⟨kvs,k,b,e,ey,eb,l⟩
 ·subst ey
  obtain ⟨z,hd,vs,rel,dd⟩:=dk_rd I.hok e;obtain ⟨w',hw,rw'⟩:=RelO.some_of (v:=v) (o:=valueAt vs k) (by rw [l];exact rel.val k);exact wpAny_getItem_of (kV_is ry) dd.mapOf hw (h w' _ (I.tok _) rw')
 ·subst ey
  cases (show u=Value.ref b from ry);obtain ⟨z,hd,xs,rel,dd⟩:=dt_rd I.hok e;obtain ⟨w',hw,rw'⟩:=RelO.some_of (v:=v) (o:=(atKey xs k).map (·.2)) (by rw [l];exact rel.val k);obtain ⟨p,hp,hp2⟩:=Option.map_eq_some_iff.mp hw;refine wpAny_getItem_heap (tupleKind_room_in1 hu) (key_of I.hok eb) dd hp ?_;rw [hp2];exact h w' _ (I.tok _) rw'
def d_write {h':Heap} {t':Nat} {ob:HO} (I:Inv X pins σ H s) (mu:Mut (H a)) (hs:Heap.SameBut a s.heap h') (he:∃ q,h'.get? a=some q) (new:ObjOk X.prog X.w (upd H a ob) h' a ob) :
  Inv X pins σ (upd H a ob) { s with heap:=h',toks:=t' } :=
 I.write (x:=a) (e:=a) mu (.inl rfl) (λb q hb z=>(hs.2 b hb).trans z) he new
def dk_new {P:Program} {w:World} {H':Hp} {h':Heap} {kvs:Jk} {vs:List (Key×Vl)} (z:kvs.length<=sizeLine) (hd:(a == sysModules)=false) (rel:KV kvs vs) (dd:h'.DictOf (yK P w) a vs) :
  ObjOk P w H' h' a (.dK kvs):=⟨z,hd,vs,rel,dd⟩
end
section
variable {X:Cx} {pins:Jb} {σ:St} {H:Hp} {s:Sh} {a:Ad} {kvs:Jk} {k:Key} {u:Vl} {A:Around} {E:J5}
end
def NoSl (i:Expr):Prop:=∀ ov iv,subscripted i false ov iv=operate [ov,iv] (getItem ov iv)
def subD_of {prog:Program} {w:World} {A:Around} {E:J5} {s:Sh} {env:Env} {value slice:Expr} {pos:Pos} {T id:String} {Q:J5}
  (hl:typeLookup (.type T) "__getitem__"=pure (some (.builtin id))) (hs:NoSl slice)
  (h:wpAny (model prog w) A (eval value env) (λo s₁=>wpAny (model prog w) A (eval slice env) (λi s₂=>s₂.TypeIs o T/\wpAny (model prog w) A (getItem o i) Q E s₂) E s₁) E s) :
  wpAny (model prog w) A (eval (.Subscript value slice pos) env) Q E s:=by
 refine Subscript_ (wpAny_mono h (λo s₁ h₁=>wpAny_mono h₁ (λi s₂ h₂=>?_) λ_ _ x=>x) λ_ _ x=>x);obtain ⟨hT,h₂⟩:=h₂;unfold subscriptTail;refine q0x ?_;rw [getitemInPython_of_ne hT.not_modules];refine q0x (wpAny_specialOf hT hl ?_)
 have fin:wpAny (model prog w) A (subscripted slice false o i) (λr s₃=>wpAny (model prog w) A (letTemporaryGo value o r >>= λ_=>pure r) Q E s₃) E s₂:=by
  rw [hs o i];exact wpAny_operating (wpAny_mono h₂ (λr s₃ h₃=>q0x (wpAny_letTemporaryGo (q0y h₃))) λ_ _ x=>x)
 first
  | exact q0y (q0x fin)
  | exact q0x (q0y (q0x fin))
  | exact q0x fin
def XX {X:Cx} {pins:Jb} {σ:St} {H:Hp} {s:Sh} {a:Ad} {y:V} {o:Jn} (I:Inv X pins σ H s) (g:DGet H a y o):s.TypeIs (.ref a) "dict":=by
 rcases g with ⟨kvs,k,e,_,_⟩ | ⟨kvs,k,b,e,_,_,_⟩
 ·obtain ⟨_,_,vs,_,dd⟩:=dk_rd I.hok e
  exact dd.typeIs
 ·obtain ⟨_,_,xs,_,dd⟩:=dt_rd I.hok e
  exact dd.typeIs
inductive tDGet_S (Q:VK) (x y:V) (H2:Hp):Prop
 | mk (a v:_) (_:x=.ref a) (_:DGet H2 a y (some v)) (_:Q v H2)
def Yr (td ty:TE):TE:=λσ H Q=>td σ H λx H1=>ty σ H1 λy H2=>tDGet_S Q x y H2
section
variable {X:Cx} {o i e value:Expr} {pos pos' tpos:Pos} {td ty tv:TE}
def Xj (hu:X.A.units+1<cLine) (ho:PE X o td) (hi:PE X i ty) (hs:NoSl i):PE X (.Subscript o i pos) (Yr td ty):=by
 intro pins s σ H Q I h;refine subD_of PySem.F.slot_dict_getitem.lookup hs (thn (ho pins s σ H _ I h) λu s1 ⟨x,H1,I1,rx,q1⟩=>thn (hi pins s1 σ H1 _ I1 q1) λiv s2 ⟨y,H2,I2,ry,a,v,ex,g,q2⟩=>?_);subst ex;obtain rfl:u=Value.ref a:=rx;exact ⟨XX I2 g,d_getItem hu I2 g ry λw' s3 I3 rw'=>⟨v,H2,I3,rw',q2⟩⟩
end
def dk_empty {P:Program} {w:World} {H:Hp} (h:Heap) (hb:sysModules<h.objs.size):ObjOk P w H (h.push { cls:=.type "dict",data:=.dict #[] }) h.objs.size (.dK []) :=
 ⟨Nat.zero_le _,beq_eq_false_iff_ne.mpr (Ne.symm (Nat.ne_of_lt hb)),[],.nil,Heap.DictOf.new h⟩
section
variable {X:Cx} {pos:Pos}
end
def tPairs:List (TE×TE)->St->Hp->(List (V×V)->Hp->Prop)->Prop
 | [],_,H,Q=>Q [] H
 | (tk,tv)::r,σ,H,Q=>tk σ H λx H1=>tv σ H1 λy H2=>tPairs r σ H2 λps H3=>Q ((x,y)::ps) H3
abbrev VV:List (V×V)->List (Vl×Vl)->Prop:=Paired λp q=>RelV p.1 q.1/\RelV p.2 q.2
def PPs (X:Cx) (pos:Pos) (keys:List (Option Expr)) (values:Jg) (trs:List (TE×TE)):Prop :=
 ∀ (pins:Jb) (s:Sh) (σ:St) (H:Hp) (Q:List (V×V)->Hp->Prop),Inv X pins σ H s->tPairs trs σ H Q ->
  wpAny (model X.prog X.w) X.A (evalPairs (pairTrees keys values X.env pos)) (λvs s'=>∃ ps H',Inv X pins σ H' s'/\VV ps vs/\Q ps H') X.xe s
def Xg {X:Cx} {pos:Pos}:PPs X pos [] [] []:=λpins s σ H Q I h=>pairTrees_nil_walk ⟨[],H,I,.nil,h⟩
def yJ {X:Cx} {pos:Pos} {k v:Expr} {ks:List (Option Expr)} {vs:Jg} {tk tv:TE} {trs:List (TE×TE)} (hk:PE X k tk) (hv:PE X v tv) (hr:PPs X pos ks vs trs) :
  PPs X pos (some k::ks) (v::vs) ((tk,tv)::trs):=λpins s σ H Q I h =>
 pairTrees_cons_walk (thn (hk pins s σ H _ I h) λu s1 ⟨x,H1,I1,rx,q1⟩=>thn (hv pins s1 σ H1 _ I1 q1) λw2 s2 ⟨y,H2,I2,ry,q2⟩ =>
  thn (hr pins s2 σ H2 _ I2 q2) λws s3 ⟨ps,H3,I3,rel,q3⟩=>⟨(x,y)::ps,H3,I3,.cons ⟨rx,ry⟩ rel,q3⟩)
def Yz (kvs more:Jk):Jk:=more.foldl (λacc kv=>putK acc kv.1 kv.2) kvs
def KV.merge:∀ {more:Jk} {rs:List (Key×Vl)} {kvs:Jk} {vs:List (Key×Vl)},KV more rs->KV kvs vs->KV (Yz kvs more) (merged vs rs):=by
 intro more rs kvs vs r;unfold KV at r
 induction r generalizing kvs vs with
 | nil=>intro q;exact q
 | @cons p q ps qs h t ih =>
  intro r0
  have e:KV (putK kvs p.1 p.2) (stored vs q.1 q.2):=by
   have:=r0.put p.1 h.2;rw [← h.1];exact this
  exact ih e
theorem ZG:∀ (more kvs:Jk),(Yz kvs more).length<=kvs.length+more.length
 | [],kvs=>by show kvs.length<=kvs.length+0;omega
 | p::r,kvs=>by
  have h1:=ZG r (putK kvs p.1 p.2);have h2:=XU kvs p.1 p.2;show (Yz (putK kvs p.1 p.2) r).length<=_;rw [x0z];omega
theorem YH {P:Program} {w:World}:∀ {kvs:Jk} {ws:List (Vl×Vl)},VV (kvs.map λkv=>(kV kv.1,kv.2)) ws->∃ rs,Carries (yK P w) ws rs/\KV kvs rs
 | [],_,r=>by rw [List.map_nil] at r;cases r;exact ⟨[],True.intro,.nil⟩
 | p::kvs,_,r=>by
  rw [List.map_cons] at r
  cases r with
  | @cons a b as bs h t =>
   obtain ⟨rs,c,q⟩:=YH (P:=P) (w:=w) t;obtain ⟨b1,b2⟩:=b;exact ⟨(p.1,b2)::rs,⟨kV_is h.1,rfl,c⟩,.cons ⟨rfl,h.2⟩ q⟩
def Yq (trs:List (TE×TE)):TE:=λσ H Q=>∀ p,H p=none->tPairs trs σ (upd H p (.dK [])) λps H2=>H2 p=some (.dK [])/\∃ kvs:Jk,ps=kvs.map (λkv=>(kV kv.1,kv.2))/\kvs.length<=15/\Q (.ref p) (upd H2 p (.dK (Yz [] kvs)))
def Xi {X:Cx} {pos:Pos} {keys:List (Option Expr)} {values:Jg} {trs:List (TE×TE)} (h:PPs X pos keys values trs) (hall:keys.all (·.isSome)=true) (hl:keys.length=values.length) (h0:keys≠[])
  (h15:keys.length<=15):PE X (.Dict keys values pos) (Yq trs):=by
 intro pins s σ H Q I q;have hn:=I.hok.fresh (Nat.le_refl s.heap.objs.size);have I1:=I.laid (a:=s.heap.objs.size) (o:=.dK []) (h':=s.heap.push { cls:=.type "dict",data:=.dict #[] }) (t':=s.toks) (λ_ _ q=>Heap.get?_push_of_some _ q) (Nat.le_refl _) (dk_empty s.heap I.big);refine wpAny_Dict_walk (knd:=yK X.prog X.w) hall hl h0 h15 (thn (h pins _ σ _ _ I1 (q _ hn)) λws s2 ⟨ps,H2,I2,rel,e,kvs,ep,lk,q2⟩=>?_);subst ep;obtain ⟨rs,c,rk⟩:=YH (P:=X.prog) (w:=X.w) rel;obtain ⟨z,hd,vs0,r0,dd⟩:=dk_of I2.hok e;cases r0;refine ⟨rs,c,dd,λh' dd' hs=>⟨.ref s.heap.objs.size,_,?_,rfl,q2⟩⟩
 have hz:(Yz [] kvs).length<=sizeLine:=by
  have h1:=ZG kvs [];rw [List.length_nil] at h1;rw [sizeLine_eq];omega
 have he:∃ q,h'.get? s.heap.objs.size=some q:=let ⟨q,_,_,hq,_⟩:=dd';⟨q,hq⟩;exact d_write I2 (by rw [e];exact True.intro) hs he (dk_new hz hd (rk.merge .nil) dd')
structure M1 (X:Cx) (o:Expr) (m:Str) (apos:Pos) (e:Expr) (cpos:Pos):Prop where
 base:attributeBase o m X.env (eval o X.env)=eval o X.env
 few:((backTo cpos (starEach [e] X.env)).all (λx=>!x.1) && (backToKw cpos (keywordEach [] X.env)).all (λx=>x.1.isSome)
  && decide (([e]:Jg).length+([]:List Keyword).length+(if ([]:List Keyword).isEmpty then 0 else 1)<30))=true
 line:(apos.endLine == cpos.line)=true
 trees:backTo cpos (starEach [e] X.env)=[(false,eval e X.env)]
structure M2 (X:Cx) (o:Expr) (m:Str) (apos:Pos) (e f:Expr) (cpos:Pos):Prop where
 base:attributeBase o m X.env (eval o X.env)=eval o X.env
 few:((backTo cpos (starEach [e,f] X.env)).all (λx=>!x.1) && (backToKw cpos (keywordEach [] X.env)).all (λx=>x.1.isSome)
  && decide (([e,f]:Jg).length+([]:List Keyword).length+(if ([]:List Keyword).isEmpty then 0 else 1)<30))=true
 line:(apos.endLine == cpos.line)=true
 trees:backTo cpos (starEach [e,f] X.env)=[(false,eval e X.env),(false,eval f X.env)]
def IsD (H:Hp) (a:Ad):Prop:=(∃ kvs,Rd H a (.dK kvs))∨∃ kvs,Rd H a (.dT kvs)
section
variable {X:Cx} {pins:Jb} {σ:St} {H:Hp} {s:Sh} {a:Ad} {y d:V} {u r:Vl} {o:Jn} {A:Around} {E:J5}
end
section
variable {X:Cx} {o e f:Expr} {apos cpos:Pos} {td ty tx:TE}
end
section
variable {X:Cx} {pins:Jb} {σ:St} {H:Hp} {s:Sh} {a:Ad} {kvs:Jk} {A:Around} {E:J5}
end
section
variable {X:Cx} {pins:Jb} {σ:St} {H:Hp} {s:Sh} {a:Ad} {y:V} {u:Vl} {A:Around} {E:J5}
end
end L2
namespace Att
open PySem PySem.W PySem.Calls PyProof.Rows
section
variable {prog:Program} {w:World} {A:Around} {E:J5} {s:Sh} {K:Frag}
end
end Att
namespace L2
open PySem PySem.Spec PyProof.Rows
section
variable {P:Program} {w:World} {K:Fg} {mg:J0} {base:Heap}
end
section
variable {X:Cx}
end
section
variable {κ:Type} [DecidableEq κ]
end
section
variable {prog:Program} {w:World} {A:Around} {E:J5} {s:Sh}
end
end L2
namespace PySem
open Sem (wp)
namespace F
end F
end PySem
namespace L2
open PySem PySem.Spec PyProof.Rows
section
variable {prog:Program} {w:World} {A:Around} {E:J5} {s:Sh} {z TI TO i1 i2 l1 l2 d:Ad} {xs ys:Array Vl}
end
def putAll (kvs:Jk):Jk->Jk
 | []=>kvs
 | p::r=>putAll (putK kvs p.1 p.2) r
section
variable {prog:Program} {w:World} {A:Around} {E:J5} {s:Sh} {z TI TO i1 i2 l1 l2:Ad} {xs ys:Array Vl}
end
section
variable {X:Cx}
end
end L2
namespace L2
open PySem
namespace Hd
variable {B:Hp} {L:Jl} {H H' J:Hp} {a b:Ad} {o o':HO}
def grow (h:Hd B L H) (n:H a=none):Hd (upd B a o) L (upd H a o):=by
 refine ⟨h.nd,λp q=>?_,λp q=>?_,λb u z=>?_⟩
 ·rw [zy (zS (h.st p q) n)];exact h.nw p q
 ·rw [zy (zS (h.st p q) n)];exact h.st p q
 ·by_cases e:b=a
  ·subst e;rw [zg] at z ⊢;exact z
  ·rw [zy e] at z ⊢;exact h.sm _ _ z
def settle (m:Hd B ((a,o)::L) H):Hd (upd B a o) L H:=by
 have h:=m.tl;have na:a ∉ L.map Prod.fst:=(List.nodup_cons.mp m.nd).1;refine ⟨h.nd,λp q=>?_,h.st,λb u z=>?_⟩
 ·rw [zy (λe=>na (by rw [← e];exact List.mem_map_of_mem q))];exact h.nw p q
 ·by_cases e:b=a
  ·subst e;rw [zg] at z;cases z;exact m.get 0 rfl
  ·rw [zy e] at z;exact m.sm _ _ z
def settled (m:Hd B ((a,o)::L) H):Same B (upd B a o):=zN (Same.refl _) (m.nw (a,o) (q9y ..))
def waste (h:Hd B L H) (n:H a=none):Hd B L (upd H a o):=h.same (zN (Same.refl _) n)
def fnew {p:Ad×HO} (h:Hd B (p::L) H) (n:H a=none):Hd B (p::(a,o)::L) (upd H a o):=(h.new n).perm (List.Perm.swap _ _ _)
def fput (h:Hd B ((a,o)::L) H):Hd B ((a,o')::L) (upd H a o'):=h.put 0 rfl
end Hd
namespace Hd
variable {B:Hp} {L L2:Jl} {H H' J:Hp} {a b:Ad} {o o':HO}
def join (m:Hd B L H) (h:Hd H L2 J):Hd B (L++L2) J:=by
 refine ⟨?_,λp q=>?_,λp q=>?_,λb u z=>h.sm _ _ (m.sm _ _ z)⟩
 ·rw [Jj]
  refine List.nodup_append.mpr ⟨m.nd,h.nd,λx hx y hy e=>?_⟩;obtain ⟨p,hp,rfl⟩:=List.mem_map.mp hx;obtain ⟨q,hq,rfl⟩:=List.mem_map.mp hy;have:=m.st p hp;rw [e,h.nw q hq] at this;cases this
 ·rcases List.mem_append.mp q with q | q
  ·exact m.nw p q
  ·exact m.free (h.nw p q)
 ·rcases List.mem_append.mp q with q | q
  ·exact h.sm _ _ (m.st p q)
  ·exact h.st p q
def settles {S:Jl}:∀ {B:Hp},Hd B (S++L) H->∃ B',Same B B'/\(∀ p∈S,B' p.1=some p.2)/\Hd B' L H:=by
 induction S with
 | nil=>exact λ{B} h=>⟨B,Same.refl _,(λp m=>by cases m),h⟩
 | cons p S ih =>
  intro B h;obtain ⟨a,o⟩:=p;obtain ⟨B',s,e,h'⟩:=ih (Hd.settle h);refine ⟨B',(Hd.settled h).trans s,λp m=>?_,h'⟩;rcases List.mem_cons.mp m with rfl | m
  ·exact s _ _ zg
  ·exact e p m
end Hd
namespace Hd
def over {B J J2:Hp} {L:Jl} (h:Hd B L J) (s:Same J J2):∃ B2,Same B B2/\Hd B2 L J2/\∀ a o,J2 a=some o->a ∉ L.map Prod.fst->B2 a=some o:=by
 classical
 refine ⟨λa=>if a∈L.map Prod.fst then none else J2 a,λa o e=>?_,⟨h.nd,λp q=>?_,λp q=>s _ _ (h.st p q),λa o e=>?_⟩,λa o e n=>?_⟩
 ·have na:a ∉ L.map Prod.fst:=λm=>by
   obtain ⟨p,hp,rfl⟩:=List.mem_map.mp m;rw [h.nw p hp] at e;cases e
  show (if _ then _ else _)=_;rw [if_neg na];exact s _ _ (h.sm _ _ e)
 ·show (if _ then _ else _)=_
  rw [if_pos (List.mem_map_of_mem q)]
 ·have e:(if a∈L.map Prod.fst then none else J2 a)=some o:=e
  split at e
  ·cases e
  ·exact e
 ·show (if _ then _ else _)=_
  rw [if_neg n];exact e
end Hd
def yi {H X:Hp} {t:Ad} {o:HO} (h:upd H t o=X) (n:H t=none):Same H X/\X t=some o:=by
 subst h;exact ⟨zN (Same.refl _) n,zg⟩
def hdG {B H X:Hp} {L:Jl} {t:Ad} {o:HO} (m:Hd B L H) (h:upd H t o=X) (n:H t=none):∃ B',Same B B'/\B' t=some o/\Hd B' L X:=by
 subst h;exact ⟨_,zN (Same.refl _) (m.free n),zg,m.grow n⟩
def hdM {B H H2:Hp} {L:Jl} {C x dx:Ad} {ox:HO} (h:Hd B L H) (nx:H x=none) (ndx:H dx=none) (ne:dx≠x) (k:∀ b u,b≠x->upd (upd H dx (.own x)) x (.ins C dx []) b=some u->H2 b=some u) (ex:H2 x=some ox):∃ B',Same B B'/\B' x=some ox/\Hd B' L H2:=by
 have h2:=h.made0 nx ndx ne k ex;exact ⟨_,h2.settled.trans h2.settle.settled,by rw [zy (Ne.symm ne)];exact zg,h2.settle.settle⟩
end L2
namespace L2
open PySem PySem.Spec PyProof.Rows
section
variable {prog:Program} {w:World} {A:Around} {R:Result->Sh->Prop} {s:Sh}
end
section
variable {X:Cx} {tg:Expr}
end
section
variable {prog:Program} {w:World} {A:Around} {s:Sh}
end
section
variable {prog:Program} {w:World} {A:Around} {E:J5} {s:Sh}
end
section
variable {X:Cx} {e:Expr} {te:TE} {p p' pos pos':Pos}
end
end L2
namespace L2
open PySem PySem.Spec PyProof.Rows PyProof
section
variable {X:Cx}
end
end L2
namespace L2
open PySem PySem.Spec PyProof.Rows
section
variable {X:Cx}
def call_maxM (hc:X.calm=true):ZI X (.builtin "max") (λxs H Q=>∃ (p:Ad) (ns:Ja),xs=[.ref p]/\SqL X.K H p (ns.map V.int)/\0<ns.length/\∀ m,m∈ns->(∀ v∈ns,v<=m)->Q (.int m) H):=by
 intro pins s σ H xs us Q I r h;obtain ⟨p,ns,rfl,hp,h0,q⟩:=h;obtain ⟨u,rfl,ru⟩:=r.one;cases (show u=Value.ref p from ru);obtain ⟨its,rv,pl,_⟩:=I.list hp;obtain ⟨ys,hy⟩:=(ints_of rv).allInts.items;have hl:s.heap.IsList p (intItems ys):=hy ▸ pl.isList;have e1:=Xy rv;rw [Jh] at e1
 have hsz:ys.size=ns.length:=by
  have z:its.toArray.size=(intItems ys).size:=by rw [hy]
  simp [intItems] at z;omega
 have hne:0<ys.size:=by omega
 refine max_intList (I.ok.hd hc) hl hne λv h' tk hv hk=>?_
 have z:its[argBest (λi j=>decide (numAt ys i > numAt ys j)) (ys.size-1)]?=some v:=by
  rw [← hy] at hv;simpa using hv
 obtain ⟨n,t,en,rfl⟩:=ints_at rv _ v z
 have nu:∀ (j:Nat) (n':Int),ns[j]?=some n'->n'=numAt ys j:=λj n' e=>by
  obtain ⟨u,eu,ru⟩:=rv.get (show (ns.map V.int)[j]?=some (.int n') by rw [List.getElem?_map,e];rfl);obtain ⟨t',rfl⟩:=(show ∃ t',u=Value.int n' t' from ru);obtain ⟨t2,e2⟩:=intItems_at (xs:=ys) (i:=j) (v:=.int n' t') (by rw [← hy];simpa using eu);injection e2
 refine ⟨.int n,H,I.kept hk,⟨_,rfl⟩,q n (List.mem_of_getElem? en) λv' hv'=>?_⟩;obtain ⟨j,hj,ej⟩:=List.getElem_of_mem hv';have a1:=nu j v' (by rw [List.getElem?_eq_getElem hj,ej]);have a2:=nu _ n en;have a3:=(argBest_gt (numAt ys) (ys.size-1)).2 j (by omega);rw [a1,a2];exact a3
end
def Zq {xs:Jm} {b:Int} (hb:0<=b):cutV xs none (some b)=xs.take b.toNat:=by
 unfold cutV;rw [HT.sIx_none,Xe hb,List.drop_zero,Nat.sub_zero];rw [List.take_eq_take_iff];omega
end L2
namespace My
open PySem PySem.W PyProof.Rows
def YJ (x y:Int):Builtin.bitAnd x y / 2=Builtin.bitAnd (x / 2) (y / 2)/\Builtin.bitAnd x y % 2=(x % 2)*(y % 2):=by
 have h:=kbt_halves x y;rcases (by omega:x % 2=0∨x % 2=1) with a | a <;> rcases (by omega:y % 2=0∨y % 2=1) with b | b <;>
  (rw [a,b] at h ⊢;simp at h ⊢;omega)
def Xk (x y:Int):Builtin.bitOr x y / 2=Builtin.bitOr (x / 2) (y / 2)/\Builtin.bitOr x y % 2=max (x % 2) (y % 2):=by
 rw [bitOr_and,bitOr_and];have h:=kbt_halves x y;rcases (by omega:x % 2=0∨x % 2=1) with a | a <;> rcases (by omega:y % 2=0∨y % 2=1) with b | b <;>
  (rw [a,b] at h ⊢;simp at h;omega)
def Yp (x y:Int):Builtin.bitXor x y / 2=Builtin.bitXor (x / 2) (y / 2)/\Builtin.bitXor x y % 2=(x % 2+y % 2) % 2:=by
 rw [bitXor_and,bitXor_and];have h:=kbt_halves x y;rcases (by omega:x % 2=0∨x % 2=1) with a | a <;> rcases (by omega:y % 2=0∨y % 2=1) with b | b <;>
  (rw [a,b] at h ⊢;simp at h;omega)
def xc (x:Int) (k:Nat):x / 2 ^ (k+1)=x / 2 / 2 ^ k:=by
 rw [Int.ediv_ediv_of_nonneg (by decide),Int.pow_succ,Int.mul_comm]
def and_bit (k:Nat):∀ x y:Int,Builtin.bitAnd x y / 2 ^ k % 2=(x / 2 ^ k % 2)*(y / 2 ^ k % 2):=by
 induction k with
 | zero=>intro x y;simpa using (YJ x y).2
 | succ k ih=>intro x y;rw [xc,xc,xc,(YJ x y).1,ih]
def or_bit (k:Nat):∀ x y:Int,Builtin.bitOr x y / 2 ^ k % 2=max (x / 2 ^ k % 2) (y / 2 ^ k % 2):=by
 induction k with
 | zero=>intro x y;simpa using (Xk x y).2
 | succ k ih=>intro x y;rw [xc,xc,xc,(Xk x y).1,ih]
def xor_bit (k:Nat):∀ x y:Int,Builtin.bitXor x y / 2 ^ k % 2=(x / 2 ^ k % 2+y / 2 ^ k % 2) % 2:=by
 induction k with
 | zero=>intro x y;simpa using (Yp x y).2
 | succ k ih=>intro x y;rw [xc,xc,xc,(Yp x y).1,ih]
def In (n:Nat) (x:Int):Prop:=-(2 ^ n)<=x/\x<2 ^ n
def Xo {n:Nat} {x:Int}:In (n+1) x↔In n (x / 2):=by
 unfold In;rw [Int.pow_succ];constructor
 ·intro h;omega
 ·intro h;omega
def ZE {x:Int} (h:In 0 x):x=0∨x=-1:=by
 unfold In at h;omega
def and_in (n:Nat):∀ x y:Int,In n x->In n y->In n (Builtin.bitAnd x y):=by
 induction n with
 | zero =>
  intro x y hx hy;rcases ZE hx with a | a <;> rcases ZE hy with b | b <;> (subst a;subst b;unfold In;decide)
 | succ n ih=>intro x y hx hy;rw [Xo] at *;rw [(YJ x y).1];exact ih _ _ hx hy
def or_in (n:Nat):∀ x y:Int,In n x->In n y->In n (Builtin.bitOr x y):=by
 induction n with
 | zero =>
  intro x y hx hy;rcases ZE hx with a | a <;> rcases ZE hy with b | b <;> (subst a;subst b;unfold In;decide)
 | succ n ih=>intro x y hx hy;rw [Xo] at *;rw [(Xk x y).1];exact ih _ _ hx hy
def xor_in (n:Nat):∀ x y:Int,In n x->In n y->In n (Builtin.bitXor x y):=by
 induction n with
 | zero =>
  intro x y hx hy;rcases ZE hx with a | a <;> rcases ZE hy with b | b <;> (subst a;subst b;unfold In;decide)
 | succ n ih=>intro x y hx hy;rw [Xo] at *;rw [(Yp x y).1];exact ih _ _ hx hy
def kept (n:Int):Int:=Int.fmod (n+9223372036854775808) 18446744073709551616-9223372036854775808
def Kin (x:Int):Prop:=-9223372036854775808<=x/\x<=9223372036854775807
structure Free (op:Int->Int->Int):Prop where
 cl:∀ a b,Kin a->Kin b->Kin (op a b)
 cm:∀ a b,Kin a->Kin b->op a b=op b a
 as:∀ a b c,Kin a->Kin b->Kin c->op (op a b) c=op a (op b c)
end My
namespace L2
open PySem PySem.Spec PyProof.Rows
section
variable {X:Cx} {σ₀:St}
end
end L2
namespace FM
open PySem L2
abbrev Kin (x:Int):Prop:=-9223372036854775808<=x/\x<=9223372036854775807
def kept (n:Int):Int:=(n+9223372036854775808) % (2*9223372036854775808)-9223372036854775808
def signs:Je:=["+","-","*","/","rest","least","most","<","=","&","|","^"]
def doneR (sg:Str) (a b:Int):Option Int :=
 if sg="+" then some (kept (a+b)) else if sg="-" then some (kept (a-b)) else if sg="*" then some (kept (a*b))
 else if sg="/" then (if b=0 then none else some (kept (a.fdiv b))) else if sg="rest" then (if b=0 then none else some (a.fmod b))
 else if sg="least" then some (if b<a then b else a) else if sg="most" then some (if b > a then b else a)
 else if sg="<" then some (if a<b then 1 else 0) else if sg="=" then some (if a=b then 1 else 0)
 else if sg="&" then some (Builtin.bitAnd a b) else if sg="|" then some (Builtin.bitOr a b) else some (Builtin.bitXor a b)
def edges:Ja:=[-9223372036854775808,9223372036854775807,-1,4294967296,-9223372036854775807,3037000500]
def xw (c:Int):Int :=
 if c % 4=0 then c / 4 % 7-3 else if c % 4=1 then edges.getD (c / 4 % 6).toNat 0 else if c % 4=2 then c / 4*48271 % 2001-1000
 else c / 4*2862933555777941757 % 18446744073709551616-9223372036854775808
def edge_at:∀ k:Nat,k<6->(edges.map V.int)[k]?=some (V.int (edges.getD k 0))/\Kin (edges.getD k 0):=by decide
def bitDue (sg:Str) (a b:Int):Int:=if sg="&" then a*b else if sg="|" then (if b > a then b else a) else (a+b) % 2
def pw_pos (n:Nat):(0:Int)<2 ^ n:=by
 induction n with
 | zero=>decide
 | succ n ih=>rw [Int.pow_succ];omega
def fbit (x:Int) (n:Nat):x.fdiv (2 ^ n) % 2=x / 2 ^ n % 2:=by rw [Int.fdiv_eq_ediv_of_nonneg _ (Int.le_of_lt (pw_pos n))]
def in63 {x:Int}:Kin x↔My.In 63 x:=by
 unfold Kin My.In;have e:(2:Int) ^ 63=9223372036854775808:=by decide
 rw [e];omega
def bits_ok {sg:Str} (hs:sg="&"∨sg="|"∨sg="^") {a b:Int} (ha:Kin a) (hb:Kin b):∃ r,doneR sg a b=some r/\Kin r/\∀ n:Nat,r.fdiv (2 ^ n) % 2=bitDue sg (a.fdiv (2 ^ n) % 2) (b.fdiv (2 ^ n) % 2):=by
 rcases hs with rfl | rfl | rfl
 ·exact ⟨_,rfl,in63.mpr (My.and_in 63 a b (in63.mp ha) (in63.mp hb)),λn=>by rw [fbit,fbit,fbit,My.and_bit];rfl⟩
 ·refine ⟨_,rfl,in63.mpr (My.or_in 63 a b (in63.mp ha) (in63.mp hb)),λn=>?_⟩
  rw [fbit,fbit,fbit,My.or_bit];show max _ _=if _ > _ then _ else _
  split <;> omega
 ·exact ⟨_,rfl,in63.mpr (My.xor_in 63 a b (in63.mp ha) (in63.mp hb)),λn=>by rw [fbit,fbit,fbit,My.xor_bit];rfl⟩
def Yl (n:Int):Kin (kept n):=by unfold kept;omega
def done_in {sg:Str} (hs:sg∈signs) {a b r:Int} (ha:Kin a) (hb:Kin b) (h:doneR sg a b=some r):Kin r:=by
 simp only [signs,List.mem_cons,List.not_mem_nil,or_false] at hs
 have bit:(sg="&"∨sg="|"∨sg="^")->Kin r:=λz=>by
  obtain ⟨r',e,k,_⟩:=bits_ok z ha hb;rw [e] at h;cases h;exact k
 rcases hs with rfl | rfl | rfl | rfl | rfl | rfl | rfl | rfl | rfl | rfl | rfl | rfl
 ·cases h;exact Yl _
 ·cases h;exact Yl _
 ·cases h;exact Yl _
 ·have h':(if b=0 then none else some (kept (a.fdiv b)))=some r:=h
  split at h'
  ·cases h'
  ·cases h';exact Yl _
 ·have h':(if b=0 then none else some (a.fmod b))=some r:=h
  split at h'
  ·cases h'
  ·rename_i z
   cases h';rcases (by omega:0<b∨b<0) with p | p
   ·have h1:=Int.fmod_nonneg_of_pos a p
    have h2:=Int.fmod_lt_of_pos a p;omega
   ·have h1:a.fmod b<=0:=by
     have e:=Int.neg_fmod_neg a b;have h3:=Int.fmod_nonneg_of_pos (-a) (show 0 < -b by omega);omega
    have h2:b<a.fmod b:=by
     have e:=Int.neg_fmod_neg a b;have h3:=Int.fmod_lt_of_pos (-a) (show 0 < -b by omega);omega
    omega
 ·have h':some (if b<a then b else a)=some r:=h
  cases h';split <;> omega
 ·have h':some (if b > a then b else a)=some r:=h
  cases h';split <;> omega
 ·have h':some (if a<b then (1:Int) else 0)=some r:=h
  cases h';split <;> omega
 ·have h':some (if a=b then (1:Int) else 0)=some r:=h
  cases h';split <;> omega
 ·exact bit (.inl rfl)
 ·exact bit (.inr (.inl rfl))
 ·exact bit (.inr (.inr rfl))
inductive Fm | num (n:Int) | here | cell (r:Int) | shi (r by' other:Int) | loc (at':Int) | at' (r:Int) (p:Fm) | pair (sg:Str) (l r:Fm) | cho (t l r:Fm)
inductive Res | ok (n:Int) | nought | outside
 deriving DecidableEq
structure SpotD where
 lens:Ja
 cells:Ja
 place:Int
 own:Ja
structure Cs where
 num:Ad
 here:Ad
 cell:Ad
 shi:Ad
 loc:Ad
 at':Ad
 pair:Ad
 cho:Ad
 spot:Ad
def FormAt (c:Cs) (H:Hp):Fm->Ad->Prop
 | .num n,x=>∃ dx,H x=some (.ins c.num dx [("number",.int n)])
 | .here,x=>∃ dx,H x=some (.ins c.here dx [])
 | .cell r,x=>∃ dx,H x=some (.ins c.cell dx [("row",.int r)])
 | .shi r b o,x=>∃ dx,H x=some (.ins c.shi dx [("row",.int r),("by",.int b),("other",.int o)])
 | .loc a,x=>∃ dx,H x=some (.ins c.loc dx [("at",.int a)])
 | .at' r p,x=>∃ dx y,H x=some (.ins c.at' dx [("row",.int r),("place",.ref y)])/\FormAt c H p y
 | .pair sg l r,x=>∃ dx y z,H x=some (.ins c.pair dx [("sign",.str sg),("left",.ref y),("right",.ref z)])/\FormAt c H l y/\FormAt c H r z
 | .cho t l r,x=>∃ dx u y z,H x=some (.ins c.cho dx [("test",.ref u),("left",.ref y),("right",.ref z)])/\FormAt c H t u/\FormAt c H l y/\FormAt c H r z
theorem FormAt.same {c:Cs} {H H':Hp} (s:Same H H'):∀ {F:Fm} {x:Ad},FormAt c H F x->FormAt c H' F x
 | .num _,_,⟨dx,h⟩=>⟨dx,s _ _ h⟩
 | .here,_,⟨dx,h⟩=>⟨dx,s _ _ h⟩
 | .cell _,_,⟨dx,h⟩=>⟨dx,s _ _ h⟩
 | .shi _ _ _,_,⟨dx,h⟩=>⟨dx,s _ _ h⟩
 | .loc _,_,⟨dx,h⟩=>⟨dx,s _ _ h⟩
 | .at' _ _,_,⟨dx,y,h,p⟩=>⟨dx,y,s _ _ h,FormAt.same s p⟩
 | .pair _ _ _,_,⟨dx,y,z,h,p,q⟩=>⟨dx,y,z,s _ _ h,FormAt.same s p,FormAt.same s q⟩
 | .cho _ _ _,_,⟨dx,u,y,z,h,o,p,q⟩=>⟨dx,u,y,z,s _ _ h,FormAt.same s o,FormAt.same s p,FormAt.same s q⟩
structure SpotAt (c:Cs) (K:Fg) (H:Hp) (x:Ad) (S:SpotD):Prop where
 ex:∃ dx l f e o,H x=some (.ins c.spot dx [("lengths",.ref l),("functions",.ref f),("cells",.ref e),("place",.int S.place),("own",.ref o)])/\SqL K H l (S.lens.map V.int)/\SqL K H e (S.cells.map V.int)/\SqL K H o (S.own.map V.int)
def SpotD.start (S:SpotD) (r:Int):Int:=(S.lens.take r.toNat).sum
def SpotD.len (S:SpotD) (r:Int):Int:=S.lens.getD r.toNat 0
def SpotD.cellAt (S:SpotD) (r q:Int):Int:=S.cells.getD (S.start r+q).toNat 0
structure SpotOk (S:SpotD):Prop where
 ln:∀ v∈S.lens,0<=v
 tot:(S.cells.length:Int)=S.lens.sum
 ck:∀ v∈S.cells,Kin v
 ok':∀ v∈S.own,Kin v
 pl:Kin S.place
def SpotD.has (S:SpotD) (r:Int):Prop:=0<=r/\r.toNat<S.lens.length
def cell_in {S:SpotD} (o:SpotOk S) {r q:Int} (h:S.has r) (h0:0<=q) (h1:q<S.len r):0<=S.start r+q/\S.start r+q<S.cells.length/\Kin (S.cellAt r q):=by
 have m:=XD o.ln r.toNat;have m2:=XD o.ln (r.toNat+1);have e:=YK h.2;have t:=o.tot;unfold SpotD.start SpotD.len at *;have a:0<=(S.lens.take r.toNat).sum+q:=by omega
 have b:(S.lens.take r.toNat).sum+q<S.cells.length:=by omega
 refine ⟨a,b,?_⟩;unfold SpotD.cellAt SpotD.start;exact o.ck _ (L2.getD_mem (by omega))
def ev (S:SpotD):Fm->Res
 | .num n=>.ok n
 | .here=>.ok S.place
 | .cell r=>if S.len r=1 then .ok (S.cellAt r 0) else .ok (S.cellAt r S.place)
 | .shi r b o=>if 0<=S.place+b/\S.place+b<S.len r then .ok (S.cellAt r (S.place+b)) else .ok o
 | .loc a=>.ok (S.own.getD a.toNat 0)
 | .at' r p=>match ev S p with
  | .ok q=>if 0<=q/\q<S.len r then .ok (S.cellAt r q) else .outside
  | e=>e
 | .pair sg l r=>match ev S l with
  | .ok a=>(match ev S r with
   | .ok b=>(match doneR sg a b with
    | some n=>.ok n
    | none=>.nought)
   | e=>e)
  | e=>e
 | .cho t l r=>match ev S t with
  | .ok a=>if a≠0 then ev S l else ev S r
  | e=>e
def WF (S:SpotD):Fm->Prop
 | .num n=>Kin n
 | .here=>True
 | .cell r=>S.has r/\1<=S.len r/\(S.len r≠1->0<=S.place/\S.place<S.len r)
 | .shi r _ o=>S.has r/\Kin o
 | .loc a=>0<=a/\a.toNat<S.own.length
 | .at' r p=>S.has r/\WF S p
 | .pair sg l r=>sg∈signs/\WF S l/\WF S r
 | .cho t l r=>WF S t/\WF S l/\WF S r
theorem Zb {S:SpotD} (o:SpotOk S):∀ {F:Fm} {n:Int},WF S F->ev S F=.ok n->Kin n
 | .num _,_,h,e=>by cases e;exact h
 | .here,_,_,e=>by cases e;exact o.pl
 | .cell r,n,h,e=>by
  unfold ev at e
  split at e
  ·rename_i z;cases e;exact (cell_in o h.1 (by omega) (by omega)).2.2
  ·rename_i z;cases e;exact (cell_in o h.1 (h.2.2 z).1 (h.2.2 z).2).2.2
 | .shi r b o',n,h,e=>by
  unfold ev at e
  split at e
  ·rename_i z;cases e;exact (cell_in o h.1 z.1 z.2).2.2
  ·cases e;exact h.2
 | .loc a,n,h,e=>by cases e;exact o.ok' _ (L2.getD_mem h.2)
 | .at' r p,n,h,e=>by
  unfold ev at e
  split at e
  ·rename_i q hq
   split at e
   ·rename_i z;cases e;exact (cell_in o h.1 z.1 z.2).2.2
   ·cases e
  ·rename_i e' hq;exact absurd e (hq n)
 | .pair sg l r,n,h,e=>by
  unfold ev at e
  split at e
  ·rename_i a ha
   split at e
   ·rename_i b hb
    split at e
    ·rename_i m hm;cases e;exact done_in h.1 (Zb o h.2.1 ha) (Zb o h.2.2 hb) hm
    ·cases e
   ·rename_i e' hq;exact absurd e (hq n)
  ·rename_i e' hq;exact absurd e (hq n)
 | .cho t l r,n,h,e=>by
  unfold ev at e
  split at e
  ·split at e
   ·exact Zb o h.2.1 e
   ·exact Zb o h.2.2 e
  ·rename_i e' hq;exact absurd e (hq n)
end FM
namespace L2
open PySem PySem.Spec PyProof.Rows
structure Air (X:Cx) (H:Hp) (h:Heap) (e:Ad) (cls:Vl):Prop where
 be:X.base.get? e=none
 se:X.s₀.heap.get? e=none
 fe:H e=none
 tr:∃ oe vs T oT ts x,h.get? e=some oe/\oe.cls=cls/\oe.data=.fields vs/\vs[1]?=some (.ref T)/\T≠e/\h.get? T=some oT/\oT.data=.fields ts/\ts[3]?=some x/\X.base.get? T=none/\X.s₀.heap.get? T=none/\H T=none
section
variable {X:Cx} {pins:Jb} {σ:St} {H:Hp} {s:Sh} {e:Ad} {cls:Vl}
end
section
variable {prog:Program} {w:World} {A:Around} {R:Result->Sh->Prop} {s:Sh}
end
section
variable {X:Cx} {pins:Jb} {σ:St} {H H':Hp} {s s':Sh} {e C T:Ad}
end
section
variable {X:Cx} {tg:Expr}
end
structure MkN (K:Fg) (C:Ad):Prop where
 makes:PySem.W.makesIn K C=true
 init:PySem.W.findIn K (.ref C) "__init__"=some (some (.builtin "object.__init__"))
 kp:PySem.W.keepIn K (.ref C)=true
def tMakeN (C:Ad):TE:=λ_ H Q=>∀ x dx,H x=none->H dx=none->dx≠x->Q (.ref x) (upd (upd H dx (.own x)) x (.ins C dx []))
section
variable {X:Cx} {C:Ad} {x:Str} {p pos:Pos}
def XI (M:MkN X.K C) (hg:Gl X x) (hm:X.mg x=some (.ref C)) (hdb:(x == ("__debug__":Str))=false:=by decide):PE X (.Call (.Name x p) [] [] pos) (tMakeN C):=by
 intro pins s σ H Q I h;refine wpAny_Call_Name_kw (Yk I hg hm ?_ hdb);refine PySem.W.callWith_K0 I.kIn M.kp ?_;have I2:=Inv.made (C:=C) I;have q:=h (s.heap.objs.size+1) s.heap.objs.size (I.hok.fresh (Nat.le_succ _)) (I.hok.fresh (Nat.le_refl _)) (Nat.ne_of_lt (Nat.lt_succ_self _));refine wpAny_call (make_map0 I.kIn M.makes M.init (λself=>PySem.W.Looks.of_pure (PySem.W.oi_bind self)) ?_);have Y:=PySem.W.makes_of (M:=model X.prog X.w) I.kIn M.makes
 have e2:((s.heap.push PySem.W.emptyDict).push (PySem.W.instObj C s.heap.objs.size)).get? (s.heap.objs.size+1)=some (PySem.W.instObj C s.heap.objs.size):=by
  have:=Heap.get?_push_size (s.heap.push PySem.W.emptyDict) (o:=PySem.W.instObj C s.heap.objs.size) rfl
  rwa [Heap.size_push] at this
 have t1:PySem.W.Looks (model X.prog X.w) ((s.heap.push PySem.W.emptyDict).push (PySem.W.instObj C s.heap.objs.size)) (typeOf (.ref (s.heap.objs.size+1))) (.ref C):=(PySem.W.Looks.ld e2).andThen .now;have kp:∀ b o,s.heap.get? b=some o->((s.heap.push PySem.W.emptyDict).push (PySem.W.instObj C s.heap.objs.size)).get? b=some o:=λb o e=>Heap.get?_push_of_some _ (Heap.get?_push_of_some _ e);have t2:PySem.W.Looks (model X.prog X.w) ((s.heap.push PySem.W.emptyDict).push (PySem.W.instObj C s.heap.objs.size)) (isInstance (.ref (s.heap.objs.size+1)) (.type "object")) true:=t1.andThen (Y.top.keeps kp);refine codeAny_call_builtin PySem.W.oi_plain PySem.W.entry_oi (PySem.W.check_slot PySem.W.oi_kind PySem.W.oi_split t2 (PySem.W.oi_args _) ?_);rw [PySem.W.oi_run];exact q0y ⟨rfl,.ref (s.heap.objs.size+1),_,I2,rfl,q⟩
end
end L2
namespace F2
open PySem L2
abbrev Kin:=FM.Kin
abbrev SpotD:=FM.SpotD
abbrev Res:=FM.Res
mutual
inductive Fm
 | num (n:Int) | here | cell (r:Int) | shi (r b o:Int) | loc (a:Int) | at' (r:Int) (p:Fm) | pair (sg:Str) (l r:Fm) | cho (t l r:Fm) | call (a:Int) (hs:Fms)
inductive Fms
 | nil | cons (f:Fm) (r:Fms)
end
instance:Inhabited Fm:=⟨.here⟩
def Fms.len:Fms->Nat
 | .nil=>0
 | .cons _ r=>r.len+1
structure Cs extends FM.Cs where
 call:Ad
mutual
def FormAt (c:Cs) (H:Hp):Fm->Ad->Prop
 | .num n,x=>∃ dx,H x=some (.ins c.num dx [("number",.int n)])
 | .here,x=>∃ dx,H x=some (.ins c.here dx [])
 | .cell r,x=>∃ dx,H x=some (.ins c.cell dx [("row",.int r)])
 | .shi r b o,x=>∃ dx,H x=some (.ins c.shi dx [("row",.int r),("by",.int b),("other",.int o)])
 | .loc a,x=>∃ dx,H x=some (.ins c.loc dx [("at",.int a)])
 | .at' r p,x=>∃ dx y,H x=some (.ins c.at' dx [("row",.int r),("place",.ref y)])/\FormAt c H p y
 | .pair sg l r,x=>∃ dx y z,H x=some (.ins c.pair dx [("sign",.str sg),("left",.ref y),("right",.ref z)])/\FormAt c H l y/\FormAt c H r z
 | .cho t l r,x=>∃ dx u y z,H x=some (.ins c.cho dx [("test",.ref u),("left",.ref y),("right",.ref z)])/\FormAt c H t u/\FormAt c H l y/\FormAt c H r z
 | .call a hs,x=>∃ dx l ys,H x=some (.ins c.call dx [("at",.int a),("handed",.ref l)])/\H l=some (.lst (ys.map V.ref))/\FormsAt c H hs ys
def FormsAt (c:Cs) (H:Hp):Fms->Jf->Prop
 | .nil,ys=>ys=[]
 | .cons f r,ys=>∃ y t,ys=y::t/\FormAt c H f y/\FormsAt c H r t
end
mutual
theorem FormAt.same {c:Cs} {H H':Hp} (s:Same H H'):∀ {F:Fm} {x:Ad},FormAt c H F x->FormAt c H' F x
 | .num _,_,h=>by obtain ⟨dx,h⟩:=h;exact ⟨dx,s _ _ h⟩
 | .here,_,h=>by obtain ⟨dx,h⟩:=h;exact ⟨dx,s _ _ h⟩
 | .cell _,_,h=>by obtain ⟨dx,h⟩:=h;exact ⟨dx,s _ _ h⟩
 | .shi _ _ _,_,h=>by obtain ⟨dx,h⟩:=h;exact ⟨dx,s _ _ h⟩
 | .loc _,_,h=>by obtain ⟨dx,h⟩:=h;exact ⟨dx,s _ _ h⟩
 | .at' _ _,_,h=>by obtain ⟨dx,y,h,p⟩:=h;exact ⟨dx,y,s _ _ h,FormAt.same s p⟩
 | .pair _ _ _,_,h=>by obtain ⟨dx,y,z,h,p,q⟩:=h;exact ⟨dx,y,z,s _ _ h,FormAt.same s p,FormAt.same s q⟩
 | .cho _ _ _,_,h=>by obtain ⟨dx,u,y,z,h,o,p,q⟩:=h;exact ⟨dx,u,y,z,s _ _ h,FormAt.same s o,FormAt.same s p,FormAt.same s q⟩
 | .call _ _,_,h=>by obtain ⟨dx,l,ys,h,e,p⟩:=h;exact ⟨dx,l,ys,s _ _ h,s _ _ e,FormsAt.same s p⟩
theorem FormsAt.same {c:Cs} {H H':Hp} (s:Same H H'):∀ {F:Fms} {ys:Jf},FormsAt c H F ys->FormsAt c H' F ys
 | .nil,_,h=>h
 | .cons _ _,_,h=>by obtain ⟨y,t,e,p,q⟩:=h;exact ⟨y,t,e,FormAt.same s p,FormsAt.same s q⟩
end
theorem FormsAt.len {c:Cs} {H:Hp}:∀ {F:Fms} {ys:Jf},FormsAt c H F ys->ys.length=F.len
 | .nil,_,h=>by cases (show _=[] from h);rfl
 | .cons _ r,_,h=>by
  obtain ⟨y,t,e,_,q⟩:=h;subst e;show t.length+1=r.len+1;rw [FormsAt.len q]
abbrev Fn:=Nat×Fm
def bodyOf (fs:List Fn) (a:Int):Fm:=(fs.getD a.toNat (0,.here)).2
def handsOf (fs:List Fn) (a:Int):Nat:=(fs.getD a.toNat (0,.here)).1
structure FunsAt (c:Cs) (K:Fg) (H:Hp) (f:Ad) (fs:List Fn):Prop where
 ex:∃ ts:Jf,SqL K H f (ts.map V.ref)/\ts.length=fs.length/\∀ i,i<fs.length->∃ b,SqT K H (ts.getD i 0) [.int ((fs.getD i (0,.here)).1:Int),.ref b]/\FormAt c H (fs.getD i (0,.here)).2 b
def sqt_same {K:Fg} {H H':Hp} {a:Ad} {xs:Jm} (h:SqT K H a xs) (s:Same H H'):SqT K H' a xs:=by
 rcases h with h | h
 ·exact .inl (h.imp (λz=>s _ _ z) λ⟨o,z⟩=>⟨o,s _ _ z⟩)
 ·exact .inr h
def FunsAt.same {c:Cs} {K:Fg} {H H':Hp} {f:Ad} {fs:List Fn} (h:FunsAt c K H f fs) (s:Same H H'):FunsAt c K H' f fs:=by
 obtain ⟨ts,a,b,d⟩:=h.ex;exact ⟨ts,zD a s,b,λi hi=>let ⟨x,p,q⟩:=d i hi;⟨x,sqt_same p s,q.same s⟩⟩
structure SpotAt (c:Cs) (K:Fg) (H:Hp) (x:Ad) (S:SpotD) (fs:List Fn):Prop where
 ex:∃ dx l f e o,H x=some (.ins c.spot dx [("lengths",.ref l),("functions",.ref f),("cells",.ref e),("place",.int S.place),("own",.ref o)])/\SqL K H l (S.lens.map V.int)/\FunsAt c K H f fs/\SqL K H e (S.cells.map V.int)/\SqL K H o (S.own.map V.int)
inductive RL | ok (l:Ja) | bad (e:Res)
mutual
def ev (cl:Int->Ja->Res) (S:SpotD):Fm->Res
 | .num n=>.ok n
 | .here=>.ok S.place
 | .cell r=>if S.len r=1 then .ok (S.cellAt r 0) else .ok (S.cellAt r S.place)
 | .shi r b o=>if 0<=S.place+b/\S.place+b<S.len r then .ok (S.cellAt r (S.place+b)) else .ok o
 | .loc a=>.ok (S.own.getD a.toNat 0)
 | .at' r p=>match ev cl S p with
  | .ok q=>if 0<=q/\q<S.len r then .ok (S.cellAt r q) else .outside
  | e=>e
 | .pair sg l r=>match ev cl S l with
  | .ok a=>(match ev cl S r with
   | .ok b=>(match FM.doneR sg a b with
    | some n=>.ok n
    | none=>.nought)
   | e=>e)
  | e=>e
 | .cho t l r=>match ev cl S t with
  | .ok a=>if a≠0 then ev cl S l else ev cl S r
  | e=>e
 | .call a hs=>match evs cl S hs with
  | .ok l=>cl a l
  | .bad e=>e
def evs (cl:Int->Ja->Res) (S:SpotD):Fms->RL
 | .nil=>.ok []
 | .cons f r=>match ev cl S f with
  | .ok n=>(match evs cl S r with
   | .ok l=>.ok (n::l)
   | .bad e=>.bad e)
  | e=>.bad e
end
def Zx (fs:List Fn) (S:SpotD):Nat->Int->Ja->Res
 | 0,_,_=>.outside
 | k+1,a,l=>ev (Zx fs S k) { S with own:=l } (bodyOf fs a)
mutual
def WF (fs:List Fn) (k:Nat) (S:SpotD):Fm->Prop
 | .num n=>Kin n
 | .here=>True
 | .cell r=>S.has r/\1<=S.len r/\(S.len r≠1->0<=S.place/\S.place<S.len r)
 | .shi r _ o=>S.has r/\Kin o
 | .loc a=>0<=a/\a.toNat<S.own.length
 | .at' r p=>S.has r/\WF fs k S p
 | .pair sg l r=>sg∈FM.signs/\WF fs k S l/\WF fs k S r
 | .cho t l r=>WF fs k S t/\WF fs k S l/\WF fs k S r
 | .call a hs=>0<=a/\a.toNat<k/\a.toNat<fs.length/\hs.len=handsOf fs a/\WFs fs k S hs
def WFs (fs:List Fn) (k:Nat) (S:SpotD):Fms->Prop
 | .nil=>True
 | .cons f r=>WF fs k S f/\WFs fs k S r
end
def Bodies (fs:List Fn):Prop:=∀ (a:Int) (S:SpotD) (l:Ja),0<=a->a.toNat<fs.length->l.length=handsOf fs a->WF fs a.toNat { S with own:=l } (bodyOf fs a)
mutual
theorem WF.mono {fs:List Fn} {j k:Nat} {S:SpotD} (h:j<=k):∀ {F:Fm},WF fs j S F->WF fs k S F
 | .num _,w=>w
 | .here,w=>w
 | .cell _,w=>w
 | .shi _ _ _,w=>w
 | .loc _,w=>w
 | .at' _ _,w=>⟨w.1,WF.mono h w.2⟩
 | .pair _ _ _,w=>⟨w.1,WF.mono h w.2.1,WF.mono h w.2.2⟩
 | .cho _ _ _,w=>⟨WF.mono h w.1,WF.mono h w.2.1,WF.mono h w.2.2⟩
 | .call _ _,w=>⟨w.1,by have:=w.2.1;omega,w.2.2.1,w.2.2.2.1,WFs.mono h w.2.2.2.2⟩
theorem WFs.mono {fs:List Fn} {j k:Nat} {S:SpotD} (h:j<=k):∀ {F:Fms},WFs fs j S F->WFs fs k S F
 | .nil,_=>trivial
 | .cons _ _,w=>⟨WF.mono h w.1,WFs.mono h w.2⟩
end
mutual
theorem Zp {fs:List Fn} (hb:Bodies fs) {S T:SpotD} {j k k':Nat} (h1:j<=k) (h2:j<=k') (ih:∀ a l,0<=a->a.toNat<j->a.toNat<fs.length->l.length=handsOf fs a->Zx fs T k a l=Zx fs T k' a l):∀ {F:Fm},WF fs j S F->ev (Zx fs T k) S F=ev (Zx fs T k') S F
 | .num _,_=>rfl
 | .here,_=>rfl
 | .cell _,_=>rfl
 | .shi _ _ _,_=>rfl
 | .loc _,_=>rfl
 | .at' r p,w=>by unfold ev;rw [Zp hb h1 h2 ih w.2]
 | .pair sg l r,w=>by unfold ev;rw [Zp hb h1 h2 ih w.2.1,Zp hb h1 h2 ih w.2.2]
 | .cho t l r,w=>by unfold ev;rw [Zp hb h1 h2 ih w.1,Zp hb h1 h2 ih w.2.1,Zp hb h1 h2 ih w.2.2]
 | .call a hs,w=>by
  unfold ev;obtain ⟨e,el⟩:=XW hb h1 h2 ih w.2.2.2.2;rw [e]
  cases z:evs (Zx fs T k') S hs with
  | bad _=>rfl
  | ok l =>
   exact ih a l w.1 w.2.1 w.2.2.1 (by rw [el l z];exact w.2.2.2.1)
theorem XW {fs:List Fn} (hb:Bodies fs) {S T:SpotD} {j k k':Nat} (h1:j<=k) (h2:j<=k') (ih:∀ a l,0<=a->a.toNat<j->a.toNat<fs.length->l.length=handsOf fs a->Zx fs T k a l=Zx fs T k' a l):∀ {F:Fms},WFs fs j S F->evs (Zx fs T k) S F=evs (Zx fs T k') S F/\∀ l,evs (Zx fs T k') S F=.ok l->l.length=F.len
 | .nil,_=>⟨rfl,λl e=>by cases (show RL.ok []=RL.ok l from e);rfl⟩
 | .cons f r,w=>by
  have e1:=Zp hb h1 h2 ih w.1;obtain ⟨e2,el⟩:=XW hb h1 h2 ih w.2;refine ⟨by unfold evs;rw [e1,e2],λl e=>?_⟩;unfold evs at e
  split at e
  ·split at e
   ·rename_i l' z
    cases e;show l'.length+1=r.len+1;rw [el l' z]
   ·cases e
  ·cases e
end
theorem evs_bad {cl:Int->Ja->Res} {S:SpotD} (n:Int):∀ {F:Fms},evs cl S F≠.bad (.ok n)
 | .nil=>λe=>by cases (show RL.ok []=RL.bad _ from e)
 | .cons f r=>λe=>by
  unfold evs at e
  split at e
  ·split at e
   ·cases e
   ·rename_i e' z
    cases e;exact evs_bad n z
  ·rename_i e' z
   injection e with e
   exact z n e
mutual
theorem Zb {fs:List Fn} {S:SpotD} (o:FM.SpotOk S) {k:Nat} {cl:Int->Ja->Res} (hc:∀ a l n,0<=a->a.toNat<k->a.toNat<fs.length->l.length=handsOf fs a->(∀ v∈l,Kin v)->cl a l=.ok n->Kin n):∀ {F:Fm} {n:Int},WF fs k S F->ev cl S F=.ok n->Kin n
 | .num _,_,h,e=>by cases (show FM.Res.ok _=FM.Res.ok _ from e);exact h
 | .here,_,_,e=>by cases (show FM.Res.ok _=FM.Res.ok _ from e);exact o.pl
 | .cell r,n,h,e=>by
  unfold ev at e
  split at e
  ·rename_i z;cases e;exact (FM.cell_in o h.1 (by omega) (by omega)).2.2
  ·rename_i z;cases e;exact (FM.cell_in o h.1 (h.2.2 z).1 (h.2.2 z).2).2.2
 | .shi r b o',n,h,e=>by
  unfold ev at e
  split at e
  ·rename_i z;cases e;exact (FM.cell_in o h.1 z.1 z.2).2.2
  ·cases e;exact h.2
 | .loc a,n,h,e=>by cases (show FM.Res.ok _=FM.Res.ok _ from e);exact o.ok' _ (L2.getD_mem h.2)
 | .at' r p,n,h,e=>by
  unfold ev at e
  split at e
  ·rename_i q hq
   split at e
   ·rename_i z;cases e;exact (FM.cell_in o h.1 z.1 z.2).2.2
   ·cases e
  ·rename_i e' hq;exact absurd e (hq n)
 | .pair sg l r,n,h,e=>by
  unfold ev at e
  split at e
  ·rename_i a ha
   split at e
   ·rename_i b hb
    split at e
    ·rename_i m hm;cases e;exact FM.done_in h.1 (Zb o hc h.2.1 ha) (Zb o hc h.2.2 hb) hm
    ·cases e
   ·rename_i e' hq;exact absurd e (hq n)
  ·rename_i e' hq;exact absurd e (hq n)
 | .cho t l r,n,h,e=>by
  unfold ev at e
  split at e
  ·split at e
   ·exact Zb o hc h.2.1 e
   ·exact Zb o hc h.2.2 e
  ·rename_i e' hq;exact absurd e (hq n)
 | .call a hs,n,h,e=>by
  unfold ev at e
  split at e
  ·rename_i l z
   obtain ⟨q1,q2⟩:=evs_kin o hc h.2.2.2.2 z;exact hc a l n h.1 h.2.1 h.2.2.1 (by rw [q1];exact h.2.2.2.1) q2 e
  ·rename_i e' z
   cases e'
   ·exact absurd z (evs_bad _)
   ·cases e
   ·cases e
theorem evs_kin {fs:List Fn} {S:SpotD} (o:FM.SpotOk S) {k:Nat} {cl:Int->Ja->Res} (hc:∀ a l n,0<=a->a.toNat<k->a.toNat<fs.length->l.length=handsOf fs a->(∀ v∈l,Kin v)->cl a l=.ok n->Kin n):∀ {F:Fms} {l:Ja},WFs fs k S F->evs cl S F=.ok l->l.length=F.len/\∀ v∈l,Kin v
 | .nil,l,_,e=>by cases (show RL.ok []=RL.ok l from e);exact ⟨rfl,λv hv=>nomatch hv⟩
 | .cons f r,l,h,e=>by
  unfold evs at e
  split at e
  ·rename_i n hn
   split at e
   ·rename_i l' z
    cases e;obtain ⟨q1,q2⟩:=evs_kin o hc h.2 z;refine ⟨by show l'.length+1=r.len+1;rw [q1],λv hv=>?_⟩;rcases List.mem_cons.mp hv with rfl | hv
    ·exact Zb o hc h.1 hn
    ·exact q2 v hv
   ·cases e
  ·cases e
end
abbrev SpotOk:=FM.SpotOk
end F2
namespace L2
open PySem PySem.Spec PyProof.Rows
structure FunD (K:Fg) (x qual:Str) (st:Stmt) (f:Ad) (fd:FuncData) (ds:Array Vl):Prop where
 ex:∃ (oc:Vl) (od:Option Ad) (kV doc pm:Vl) (an:Option Ad) (cdv ct:Vl) (osl:Array (Jd)) (T:Ad) (o:Obj) (n:Nat),
  fd=PySem.W.fnOf x qual (yk st) (z8 st) (zm st) (.ref T) kV doc pm an cdv ct/\K.lookup f=some ⟨oc,od,.func fd,osl⟩/\PySem.W.codeIn K cdv qual=true/\K.lookup T=some o/\o.data=.seq ds n
 kp:PySem.W.keepIn K (.ref f)=true
section
variable {P:Program} {w:World} {K:Fg} {mg:J0} {base:Heap}
def FunD.okE {x qual:Str} {st:Stmt} {f:Ad} {fd:FuncData} {ds:Array Vl} {N ps:Je} {k:Nat} {sp:Sp} (F:FunD K x qual st f fd ds) (S:FnScope N ps (zm st)) (len:∀ vs H Q E,sp vs H Q E->vs.length=ps.length)
  (hbody:∀ (cdv:Vl) (A:Around) (outer:List Env) (s:Sh) (H:Hp) (vs:Jm) (Q:VK) (E:XK),Room k (A.deeper (envOfC qual (zm st) s.heap.objs.size f cdv))->sp vs H Q E ->
   ∃ t,PSs (cxOf (CXe P w base) P w K mg base N qual (zm st) f cdv A outer s H E) (z8 st) t/\t { nx:=λ_ H'=>Q .non H',rt:=Q } (start N vs) H):FnOk P w K mg base (CXe P w base) (k+1) f fd ps sp:=by
 obtain ⟨oc,od,kV,doc,pm,an,cdv,ct,osl,T,o,n,rfl,lk,hcd,_,_⟩:=F.ex;exact fn_of lk hcd S len λA outer s H vs Q E hr hsp=>hbody cdv A outer s H vs Q E hr hsp
def FunD.binds {x qual:Str} {st:Stmt} {f:Ad} {fd:FuncData} {ds:Array Vl} {ps:Je} {ds2:Jc} (F:FunD K x qual st f fd ds)
  (h:∀ (T:Ad) (kV doc pm:Vl) (an:Option Ad) (cdv ct:Vl) (us:Jc),(us++ds2).length=ps.length->∃ k:Option (Array Vl)->Sem (List (Str×Vl)),bindArgs (PySem.W.fnOf x qual (yk st) (z8 st) (zm st) (.ref T) kV doc pm an cdv ct) ⟨us,[]⟩=seqItems? (.ref T) >>= k/\k (some ds)=pure (ps.zip (us++ds2))):Binds K fd ps ds2:=by
 obtain ⟨oc,od,kV,doc,pm,an,cdv,ct,osl,T,o,n,rfl,lk,hcd,lT,eT⟩:=F.ex;intro s us KX hl;obtain ⟨k,h1,h2⟩:=h T kV doc pm an cdv ct us hl;exact BindsTo.of_defaults rfl (KX _ _ lT) eT h1 h2
def yH {x qual:Str} {st:Stmt} {f T:Ad} {oc ocT:Vl} {od an odT:Option Ad} {osl oslT:Array (Jd)} {kV doc pm cdv ct:Vl} {ds:Array Vl} {n:Nat} (l:K.lookup f=some ⟨oc,od,.func (PySem.W.fnOf x qual (yk st) (z8 st) (zm st) (.ref T) kV doc pm an cdv ct),osl⟩)
  (c:PySem.W.codeIn K cdv qual=true) (k:PySem.W.keepIn K (.ref f)=true) (lT:K.lookup T=some ⟨ocT,odT,.seq ds n,oslT⟩):FunD K x qual st f (PySem.W.fnOf x qual (yk st) (z8 st) (zm st) (.ref T) kV doc pm an cdv ct) ds:=⟨⟨oc,od,kV,doc,pm,an,cdv,ct,osl,T,_,n,rfl,l,c,lT,rfl⟩,k⟩
def Ya (K:Fg) (C:Ad) (qual:Str) (st:Stmt) (ps:Je):Prop:=∃ (f:Ad) (fd:FuncData),Mk K C f/\FunD K "__init__" qual st f fd #[.none]/\Binds K fd ps []/\Binds K fd ps [.none]
def OkN (P:Program) (w:World) (K:Fg) (mg:J0) (base:Heap) (CX:CXT) (k:Nat) (C:Ad) (ps:Je) (sp:Sp):Prop :=
 ∃ (f:Ad) (fd:FuncData),Mk K C f/\Binds K fd ps []/\Binds K fd ps [.none]/\FnOk P w K mg base CX k f fd ps sp
end
section
variable {X:Cx} {CX:CXT} {k:Nat} {C:Ad} {ps:Je} {sp:Sp} {E:XK} {x m:Str} {p pos apos:Pos} {e o:Expr} {es:Jg} {ta:TE} {t:TA}
def OkN.all {P:Program} {w:World} {K:Fg} {mg:J0} {base:Heap} (h:OkN P w K mg base CX k C ps sp):OkI P w K mg base CX k C ps sp:=by
 obtain ⟨f,fd,a,b,_,d⟩:=h;exact ⟨f,fd,a,b,d⟩
end
section
variable {P:Program} {w:World} {K:Fg} {mg:J0} {base:Heap}
def FunD.ok {x qual:Str} {st:Stmt} {f:Ad} {fd:FuncData} {ds:Array Vl} {N ps:Je} {k:Nat} {sp:Sp} (F:FunD K x qual st f fd ds) (S:FnScope N ps (zm st)) (len:∀ vs H Q E,sp vs H Q E->vs.length=ps.length)
  (hbody:∀ (cdv:Vl) (A:Around) (outer:List Env) (s:Sh) (H:Hp) (vs:Jm) (Q:VK) (E:XK),Room k (A.deeper (envOfC qual (zm st) s.heap.objs.size f cdv))->sp vs H Q E ->
   ∃ t,PSs (cxOf CX0 P w K mg base N qual (zm st) f cdv A outer s H E).nox (z8 st) t/\t { nx:=λ_ H'=>Q .non H',rt:=Q } (start N vs) H):FnOk P w K mg base CX0 (k+1) f fd ps sp:=by
 obtain ⟨oc,od,kV,doc,pm,an,cdv,ct,osl,T,o,n,rfl,lk,hcd,_,_⟩:=F.ex;refine fn_of lk hcd S len λA outer s H vs Q E hr hsp=>?_;obtain ⟨t,h,q⟩:=hbody cdv A outer s H vs Q E hr hsp;exact ⟨t,h.nox,q⟩
def DefD (K:Fg) (mg:J0) (x:Str) (st:Stmt) (ps:Je):Prop:=∃ (f:Ad) (fd:FuncData) (t:Tok),mg x=some (.ref f)/\FunD K x x st f fd #[.int 0 t]/\Binds K fd ps []/\Binds K fd ps [.int 0 t]
def OkD (P:Program) (w:World) (K:Fg) (mg:J0) (base:Heap) (CX:CXT) (k:Nat) (x:Str) (ps:Je) (sp:Sp):Prop :=
 ∃ (f:Ad) (fd:FuncData) (t:Tok),mg x=some (.ref f)/\PySem.W.keepIn K (.ref f)=true/\Binds K fd ps []/\Binds K fd ps [.int 0 t]/\FnOk P w K mg base CX k f fd ps sp
def OkD.all {CX:CXT} {k:Nat} {x:Str} {ps:Je} {sp:Sp} (h:OkD P w K mg base CX k x ps sp):Ok P w K mg base CX k x ps sp:=by
 obtain ⟨f,fd,t,a,b,c,_,e⟩:=h;exact ⟨f,fd,a,b,c,e⟩
end
def pe_okD {X:Cx} {CX:CXT} {k:Nat} {x:Str} {ps:Je} {sp:Sp} {E:XK} {p pos:Pos} {e:Expr} {es:Jg} {t:TA} (o:OkD X.prog X.w X.K X.mg X.base CX k x ps sp) (hr:Room k X.A) (hg:Gl X x) (hx:xK CX X E) (ha:PA X (e::es) t)
  (hdb:(x == ("__debug__":Str))=false:=by decide) (he:starEach (e::es) X.env=(false,eval e X.env)::starEach es X.env:=by rfl) (hpl:(backTo pos (starEach es X.env)).any (·.1)=false:=by rfl) :
  PE X (.Call (.Name x p) (e::es) [] pos) (tCall sp [.int 0] E t):=by
 obtain ⟨f,fd,tk,a,b,_,c,d⟩:=o;exact pe_call d hr hg a b c (.cons ⟨tk,rfl⟩ .nil) hx ha hdb he hpl
def constV:Expr->Jn
 | .Constant (.str x) _ _=>some (.str x)
 | .Constant (.int i) _ _=>some (.int i)
 | _=>none
def Yo:Jg->Option (Jm)
 | []=>some []
 | e::es=>match constV e with
  | some v=>(match Yo es with
   | some vs=>some (v::vs)
   | none=>none)
  | none=>none
def tKs (vs:Jm):TA:=λ_ H Q=>Q vs H
theorem pa_ks {X:Cx}:∀ {es:Jg} {vs:Jm},Yo es=some vs->PA X es (tKs vs)
 | [],vs,h=>by cases h;exact ze
 | e::es,vs,h=>by
  unfold Yo at h
  split at h
  ·rename_i v hv
   split at h
   ·rename_i ws hw
    cases h;have ih:=pa_ks (X:=X) hw;unfold constV at hv
    split at hv
    ·cases hv;exact zb zh ih rfl
    ·cases hv;exact zb zd ih rfl
    ·cases hv
   ·cases h
  ·cases h
structure PB (X:Cx) (sts:List Stmt) (t:TS):Prop where
 h:PSs X sts t
structure PW1 (X:Cx) (st:Stmt) (t:TS):Prop where
 h:PS X st t
section
variable {X:Cx} {st:Stmt} {rest:List Stmt} {t u:TS}
def yU (h1:PW1 X st t) (h2:PB X rest u):PB X (st::rest) (tSeq t u):=⟨zc h1.h h2.h⟩
def pb_one (h1:PW1 X st t):PB X [st] t:=⟨zf h1.h⟩
def pw_ks {i:Nat} {x:Str} {es:Jg} {vs:Jm} {p pos pos':Pos} (hN:X.N.Nodup) (hi:X.N[i]?=some x) (hx:Loc X.env.scope x) (h:Yo es=some vs) (hf:X.fn x=true∨X.env.scope.names.lookup x=some .local:=by first | exact .inl rfl | exact .inr rfl | assumption) :
  PW1 X (.Assign [.Name x pos'] (.List es p) pos) (tAsg (tLst (tKs vs)) (gName i)):=⟨zA hN hi hx (zQ (pa_ks h)) rfl hf⟩
end
section
variable {P:Program} {w:World} {K:Fg} {mg:J0} {base:Heap}
def Fun.okB {x qual:Str} {st:Stmt} {f:Ad} {fd:FuncData} {N ps:Je} {k:Nat} {sp:Sp} (F:Fun K x qual st f fd) (S:FnScope N ps (zm st)) (len:∀ vs H Q E,sp vs H Q E->vs.length=ps.length)
  (hbody:∀ (cdv:Vl) (A:Around) (outer:List Env) (s:Sh) (H:Hp) (vs:Jm) (Q:VK) (E:XK),Room k (A.deeper (envOfC qual (zm st) s.heap.objs.size f cdv))->sp vs H Q E ->
   ∃ t,PB (cxOf CX0 P w K mg base N qual (zm st) f cdv A outer s H E).nox (z8 st) t/\t { nx:=λ_ H'=>Q .non H',rt:=Q } (start N vs) H):FnOk P w K mg base CX0 (k+1) f fd ps sp :=
 F.ok S len λcdv A outer s H vs Q E hr h=>let ⟨t,q,z⟩:=hbody cdv A outer s H vs Q E hr h;⟨t,q.h,z⟩
end
end L2
namespace K48
open PySem L2 FM
variable {P:Program} {w:World} {K:Fg} {mg:J0} {base:Heap}
abbrev rq (a:Ad):Jn:=some (.ref a)
abbrev iq (n:Int):Jn:=some (.int n)
def top (i:Nat):Stmt:=PySem.Challenge.pw_rowbreadth_k48_names_in_bounds.main.body.getD i (.Pass ⟨0,0,0,0⟩)
abbrev xf:Stmt:=top 21
def sc_count_of:FnScope ["steps","count","step"] ["steps"] (zm xf):=scK
abbrev yI:Stmt:=top 23
def sc_seats_for_two:FnScope ["first","second","functions"] ["first","second","functions"] (zm yI):=scK
abbrev yC:Stmt:=top 24
def sc_seats_for_call:FnScope ["form","functions","parts","part"] ["form","functions"] (zm yC):=scK
abbrev xo:Stmt:=top 25
def sc_seats_for:FnScope ["form","functions"] ["form","functions"] (zm xo):=scK
abbrev yO:Stmt:=top 26
def sc_seats_for_step:FnScope ["step","functions","seats"] ["step","functions"] (zm yO):=scK
abbrev xW:Stmt:=top 31
def sc_cell_step:FnScope ["maker","form","aim"] ["maker","form","aim"] (zm xW):=scK
abbrev xN:Stmt:=top 32
def sc_leaf_step:FnScope ["maker","form","aim"] ["maker","form","aim"] (zm xN):=scK
abbrev xH:Stmt:=top 33
def sc_make_two:FnScope ["maker","first","first_aim","second","second_aim","seat","slot"] ["maker","first","first_aim","second","second_aim"] (zm xH):=scK
abbrev Zc:Stmt:=top 34
def sc_make_at:FnScope ["maker","form","aim"] ["maker","form","aim"] (zm Zc):=scK
abbrev xq:Stmt:=top 35
def sc_make_pair:FnScope ["maker","form","aim","seats"] ["maker","form","aim"] (zm xq):=scK
abbrev yR:Stmt:=top 36
def sc_make_choice:FnScope ["maker","form","aim","left","right","left_aim","right_aim","seats"] ["maker","form","aim"] (zm yR):=scK
abbrev xt:Stmt:=top 37
def sc_make_call:FnScope ["maker","form","aim","first","own","handed","body"] ["maker","form","aim"] (zm xt):=scK
abbrev xr:Stmt:=top 38
def sc_make_form:FnScope ["maker","form","aim"] ["maker","form","aim"] (zm xr):=scK
abbrev xL:Stmt:=top 40
def sc_may_fault:FnScope ["step"] ["step"] (zm xL):=scK
abbrev xV:Stmt:=top 43
def sc_group_for:FnScope ["seats"] ["seats"] (zm xV):=scK
abbrev xM:Stmt:=top 44
def sc_make_test:FnScope ["maker","step"] ["maker","step"] (zm xM):=scK
abbrev xy:Stmt:=top 45
def sc_make_value:FnScope ["maker","step","mask","aim","seats"] ["maker","step","mask"] (zm xy):=scK
abbrev Zh:Stmt:=top 46
def sc_round_of:FnScope ["program","step","number","group","maker","mask","effect","made_step"] ["program","step","number","group"] (zm Zh):=scK
abbrev Zz:Stmt:=top 47
def sc_look_at:FnScope ["program","row","group"] ["program","row","group"] (zm Zz):=scK
abbrev xG:Stmt:=top 48
def sc_turns_of:FnScope ["program","till","number","group","inner","look"] ["program","till","number","group"] (zm xG):=scK
abbrev Zd:Stmt:=top 49
def sc_code_of:FnScope ["program","steps","first","group","code","number","step"] ["program","steps","first","group"] (zm Zd):=scK
abbrev Z0:Stmt:=top 50
def sc_made:FnScope ["program","group"] ["program","group"] (zm Z0):=scK
abbrev ZA:Stmt:=top 52
def X6:FnScope ["_law_found"] ["_law_found"] (zm ZA):=scK
abbrev xU:Stmt:=top 53
def Y8:FnScope ["_law_script","_law_k"] ["_law_script","_law_k"] (zm xU):=scK
abbrev xS:Stmt:=top 54
def sc_l_kept_by:FnScope ["_law_cell","_law_how","_law_edges"] ["_law_cell"] (zm xS):=scK
abbrev Zi:Stmt:=top 56
def sc_l_row_by:FnScope ["_law_cell","_law_target","_law_row"] ["_law_cell","_law_target"] (zm Zi):=scK
abbrev xR:Stmt:=top 57
def sc_l_leaf_by:FnScope ["_law_cell","_law_target","_law_mixed","_law_kind","_law_more"] ["_law_cell","_law_target"] (zm xR):=scK
abbrev xP:Stmt:=top 58
def sc_l_sign_by:FnScope ["_law_cell","_law_signs"] ["_law_cell"] (zm xP):=scK
abbrev ZC:Stmt:=top 59
def sc_l_grown:FnScope ["_law_pile","_law_cell","_law_target","_law_lengths","_law_mixed","_law_kind","_law_more","_law_top","_law_rest","_law_row","_law_side"] ["_law_pile","_law_cell","_law_target","_law_lengths"] (zm ZC):=scK
abbrev xT:Stmt:=top 60
def sc_l_form_by:FnScope ["_law_cells","_law_target","_law_lengths","_law_pile","_law_cell","_law_form","_law_k"] ["_law_cells","_law_target","_law_lengths"] (zm xT):=scK
abbrev xO:Stmt:=top 61
def sc_l_step_by:FnScope ["_law_more","_law_value_cells","_law_test_cells","_law_lengths","_law_kind","_law_target","_law_value","_law_test","_law_fold","_law_place"] ["_law_more","_law_value_cells","_law_test_cells","_law_lengths"] (zm xO):=scK
abbrev xz:Stmt:=top 62
def sc_l_steps_by:FnScope ["_law_script","_law_lengths","_law_most_heads","_law_most_tills","_law_steps","_law_at","_law_heads","_law_tills","_law_mixed","_law_size","_law_tests","_law_value_cells","_law_test_cells","_law_step"] ["_law_script","_law_lengths","_law_most_heads","_law_most_tills"] (zm xz):=scK
abbrev y6:Stmt:=top 63
def sc_l_lengths_by:FnScope ["_law_script","_law_count"] ["_law_script"] (zm y6):=scK
abbrev y4:Stmt:=top 64
def sc_l_program_by:FnScope ["_law_script","_law_lengths","_law_most_heads","_law_most_tills","_law_first","_law_second","_law_steps"] ["_law_script","_law_lengths","_law_most_heads","_law_most_tills"] (zm y4):=scK
abbrev ZB:Stmt:=top 67
def sc_l_shape:FnScope ["_law_word"] ["_law_word"] (zm ZB):=scK
abbrev ZP:Stmt:=top 68
def sc_l_part:FnScope ["_law_kind","_law_part_here","_law_seats","_law_rows"] ["_law_kind","_law_part_here","_law_seats","_law_rows"] (zm ZP):=scK
abbrev xA:Stmt:=top 69
def sc_l_in_round:FnScope ["_law_step","_law_seats","_law_rows","_law_shape_here","_law_k"] ["_law_step","_law_seats","_law_rows"] (zm xA):=scK
abbrev xQ:Stmt:=top 70
def sc_l_outside:FnScope ["_law_step","_law_count"] ["_law_step","_law_count"] (zm xQ):=scK
abbrev ZQ:Stmt:=top 71
def sc_l_code:FnScope ["_law_code_here","_law_group","_law_rows","_law_count","_law_seats","_law_turns","_law_step"] ["_law_code_here","_law_group","_law_rows","_law_count"] (zm ZQ):=scK
abbrev Yx:Stmt:=top 72
def sc_law:FnScope ["_law_script","_law_lengths","_law_program","_law_group","_law_code_here"] ["_law_script"] (zm Yx):=scK
abbrev xl:Stmt:=yo (top 4) 0
def Yu:FnScope ["self","number"] ["self","number"] (zm xl):=scK
abbrev xZ:Stmt:=yo (top 6) 0
def Xc:FnScope ["self","row"] ["self","row"] (zm xZ):=scK
abbrev y8:Stmt:=yo (top 7) 0
def Yb:FnScope ["self","row","by","other"] ["self","row","by","other"] (zm y8):=scK
abbrev xC:Stmt:=yo (top 8) 0
def YN:FnScope ["self","at"] ["self","at"] (zm xC):=scK
abbrev ZD:Stmt:=yo (top 9) 0
def X7:FnScope ["self","row","place"] ["self","row","place"] (zm ZD):=scK
abbrev xY:Stmt:=yo (top 10) 0
def Xa:FnScope ["self","sign","left","right"] ["self","sign","left","right"] (zm xY):=scK
abbrev xm:Stmt:=yo (top 11) 0
def Yw:FnScope ["self","test","left","right"] ["self","test","left","right"] (zm xm):=scK
abbrev x6:Stmt:=yo (top 12) 0
def Xd:FnScope ["self","at","handed"] ["self","at","handed"] (zm x6):=scK
abbrev xh:Stmt:=yo (top 15) 0
def XG:FnScope ["self","target","value","test"] ["self","target","value","test"] (zm xh):=scK
abbrev yT:Stmt:=yo (top 15) 1
def Yv:FnScope ["self","lengths"] ["self","lengths"] (zm yT):=scK
abbrev xg:Stmt:=yo (top 16) 0
def XF:FnScope ["self","target","value","place","many","test"] ["self","target","value","place","many","test"] (zm xg):=scK
abbrev yS:Stmt:=yo (top 16) 1
def Yt:FnScope ["self","lengths"] ["self","lengths"] (zm yS):=scK
abbrev yW:Stmt:=yo (top 17) 0
def Xb:FnScope ["self","target","fold","value","many","test"] ["self","target","fold","value","many","test"] (zm yW):=scK
abbrev yL:Stmt:=yo (top 17) 1
def Ye:FnScope ["self","lengths"] ["self","lengths"] (zm yL):=scK
abbrev yD:Stmt:=yo (top 18) 0
def Yc:FnScope ["self","target","fold","value","test"] ["self","target","fold","value","test"] (zm yD):=scK
abbrev yx:Stmt:=yo (top 18) 1
def ZJ:FnScope ["self","lengths"] ["self","lengths"] (zm yx):=scK
abbrev xX:Stmt:=yo (top 19) 0
def Y9:FnScope ["self","target","most","steps"] ["self","target","most","steps"] (zm xX):=scK
abbrev y9:Stmt:=yo (top 20) 0
def Yd:FnScope ["self","lengths","functions","steps"] ["self","lengths","functions","steps"] (zm y9):=scK
abbrev xB:Stmt:=yo (top 29) 0
def YM:FnScope ["self","lengths","functions","group"] ["self","lengths","functions","group"] (zm xB):=scK
abbrev xa:Stmt:=yo (top 29) 1
def sc_Maker_put_by:FnScope ["self","seat","mask","slot"] ["self","seat","mask"] (zm xa):=scK
abbrev Zj:Stmt:=yo (top 30) 0
def XH:FnScope ["self","seat","mask","level","own"] ["self","seat","mask","level","own"] (zm Zj):=scK
inductive spKB (vs:Jm) (H:Hp) (Q:VK) (_:XK):Prop
 | mk (c:_) (_:vs=[.int c]) (_:∀ H',Same H H'->Q (.int (xw c)) H')
def zac (d:zC K mg "_law_kept_by" xS ["_law_cell"]):Ok P w K mg base (CXe P w base) 1 "_law_kept_by" ["_law_cell"] spKB:=by
 obtain ⟨f,fd,m,F,b⟩:=d;refine ⟨f,fd,m,F.kp,b,F.okE sc_l_kept_by (by rintro vs H Q E ⟨_,e,_⟩;rw [e];rfl) λcdv A outer s H vs Q E hr h=>?_⟩;obtain ⟨c,rfl,k⟩:=h;have nd:=sc_l_kept_by.nd;refine ⟨_,zc (zA (i:=1) nd rfl (Or.inl rfl) (zr yc (pv 0) zd))
  (zc (zu (zi zx (pv 1) zd (zo _)) (zf (zj (zr yM (zr yc (zr yg (pv 0) zd) zd) zd))) zk)
  (zc (zu (zi zx (pv 1) zd (zo _)) (zc (zA (i:=2) nd rfl (Or.inl rfl) (zQ (zb (pe_un un_neg zd) (zb zd (zb (pe_un un_neg zd) (zb zd (zb (pe_un un_neg zd) (zb zd ze))))))))
   (zf (zj (zP zY (pv 2) (zr yc (zr yg (pv 0) zd) zd) (λ_ _=>rfl))))) zk)
  (zc (zu (zi zx (pv 1) zd (zo _)) (zf (zj (zr yM (zr yc (zr Zm (zr yg (pv 0) zd) zd) zd) zd))) zk)
  (zf (zj (zr yM (zr yc (zr Zm (zr yg (pv 0) zd) zd) zd) zd)))))),?_⟩
 refine ⟨_,rfl,_,_,rfl,rfl,(by show (0:Int)<4;decide),?_⟩;refine ⟨_,rfl,rfl,_,rfl,?_⟩;refine z7 (λz=>?_) (λz=>?_)
 ·have z:c % 4=0:=by simpa using z
  have e:xw c=c / 4 % 7-3:=by unfold xw;rw [if_pos z]
  rw [e] at k;exact ⟨_,rfl,_,_,rfl,rfl,⟨by decide,by decide⟩,_,_,rfl,rfl,(by show (0:Int)<7;decide),_,_,rfl,rfl,k H (Same.refl H)⟩
 have z0:¬ c % 4=0:=by simpa using z
 refine ⟨_,rfl,rfl,_,rfl,?_⟩;refine z7 (λz=>?_) (λz=>?_)
 ·have z1:c % 4=1:=by simpa using z
  have e:xw c=edges.getD (c / 4 % 6).toNat 0:=by unfold xw;rw [if_neg z0,if_pos z1]
  rw [e] at k;refine ⟨_,rfl,_,rfl,_,rfl,(by show 6<=sizeLine;decide),λl hl=>?_⟩;refine ⟨_,rfl,_,rfl,_,_,rfl,rfl,⟨by decide,by decide⟩,_,_,rfl,rfl,(by show (0:Int)<6;decide),l,edges.map V.int,_,V.int (edges.getD (c / 4 % 6).toNat 0),rfl,rfl,SqL.of zg,?_,k _ λb o q=>by rw [zy (zS q hl)];exact q⟩;have hz:(((c / 4 % 6).toNat:Nat):Int)=c / 4 % 6:=by omega
  rw [← hz];exact zE (edge_at _ (by omega)).1
 have z1:¬ c % 4=1:=by simpa using z
 refine ⟨_,rfl,rfl,_,rfl,?_⟩;refine z7 (λz=>?_) (λz=>?_)
 ·have z2:c % 4=2:=by simpa using z
  have e:xw c=c / 4*48271 % 2001-1000:=by unfold xw;rw [if_neg z0,if_neg z1,if_pos z2]
  rw [e] at k;exact ⟨_,rfl,_,_,rfl,rfl,⟨by decide,by decide⟩,_,_,rfl,rfl,.inr ⟨by decide,by decide⟩,_,_,rfl,rfl,(by show (0:Int)<2001;decide),_,_,rfl,rfl,k H (Same.refl H)⟩
 have z2:¬ c % 4=2:=by simpa using z
 have e:xw c=c / 4*2862933555777941757 % 18446744073709551616-9223372036854775808:=by unfold xw;rw [if_neg z0,if_neg z1,if_neg z2]
 rw [e] at k;exact ⟨_,rfl,_,_,rfl,rfl,⟨by decide,by decide⟩,_,_,rfl,rfl,.inr ⟨by decide,by decide⟩,_,_,rfl,rfl,(by show (0:Int)<18446744073709551616;decide),_,_,rfl,rfl,k H (Same.refl H)⟩
structure Ints (K:Fg) (mg:J0):Prop where
 isi:mg "isinstance"=none
 int:mg "int"=none
 bool:mg "bool"=none
 ii:PySem.W.kitOne K (.type "int") (.type "int")=some true
 ib:PySem.W.kitOne K (.type "int") (.type "bool")=some false
def ok_whole (d:zC K mg "_law_whole" ZA ["_law_found"]) (N:Ints K mg):Ok P w K mg base (CXe P w base) 1 "_law_whole" ["_law_found"] (sp1 λ_=>.bl true):=by
 obtain ⟨f,fd,m,F,b⟩:=d;refine ⟨f,fd,m,F.kp,b,F.okE X6 len1 λcdv A outer s H vs Q E hr h=>?_⟩;obtain ⟨n,rfl,k⟩:=h;refine ⟨_,zf (zj (x9 (zw zB rfl N.isi PyProof.Rows.boot_isinstance (zb (pv 0) (zb (xj N.int PyProof.Rows.boot_int) ze)))
  (Zu (pe_not (zw zB rfl N.isi PyProof.Rows.boot_isinstance (zb (pv 0) (zb (xj N.bool PyProof.Rows.boot_bool) ze))))))),?_⟩
 refine ⟨_,rfl,_,_,.type "int",.type "int",true,rfl,rfl,(λu r=>r),.inl (.int n),N.ii,true,rfl,?_⟩;exact yB ⟨_,rfl,_,_,.type "bool",.type "int",false,rfl,rfl,(λu r=>r),.inl (.int n),N.ib,false,rfl,k⟩
def zK {H H':Hp} {x dx:Ad} {o1 o2:HO} (nx:H x=none) (ndx:H dx=none) (k:∀ b o,b≠x->upd (upd H dx o1) x o2 b=some o->H' b=some o):Same H H':=λc o z=>k c o (zS z nx) (by rw [zy (zS z nx),zy (zS z ndx)];exact z)
inductive spI_Number (C:Ad) (vs:Jm) (H:Hp) (Q:VK) (_:XK):Prop
 | mk (x dx:Ad) (u0:V) (_:vs=[.ref x,u0]) (_:H x=some (.ins C dx [])) (_:∀ H',(∀ b o,b≠x->H b=some o->H' b=some o)->H' x=some (.ins C dx [("number",u0)])->Q .non H')
def zaf {C:Ad} (d:yt K C "Number.__init__" xl ["self","number"]) (cl:Cls K C) (n0:NoAttr K C "number"):OkI P w K mg base (CXe P w base) 1 C ["self","number"] (spI_Number C):=by
 obtain ⟨f,fd,m,F,bd⟩:=d;refine ⟨f,fd,m,bd,F.okE Yu (by rintro vs H Q E ⟨_,_,_,e,_⟩;rw [e];rfl) λcdv A outer s H vs Q E hr h=>?_⟩;obtain ⟨x,dx,u0,rfl,hx,k⟩:=h;refine ⟨_,(zf (zM (pv 0) (pv 1) rfl)),?_⟩;refine ⟨_,rfl,_,rfl,x,C,dx,[],rfl,hx,cl,n0,(by show 0<1000;decide),?_⟩
 exact k _ (λb o nb z=>by
  rw [zy nb];exact z) zg
inductive spI_Cell (C:Ad) (vs:Jm) (H:Hp) (Q:VK) (_:XK):Prop
 | mk (x dx:Ad) (u0:V) (_:vs=[.ref x,u0]) (_:H x=some (.ins C dx [])) (_:∀ H',(∀ b o,b≠x->H b=some o->H' b=some o)->H' x=some (.ins C dx [("row",u0)])->Q .non H')
def okI_Cell {C:Ad} (d:yt K C "Cell.__init__" xZ ["self","row"]) (cl:Cls K C) (n0:NoAttr K C "row"):OkI P w K mg base (CXe P w base) 1 C ["self","row"] (spI_Cell C):=by
 obtain ⟨f,fd,m,F,bd⟩:=d;refine ⟨f,fd,m,bd,F.okE Xc (by rintro vs H Q E ⟨_,_,_,e,_⟩;rw [e];rfl) λcdv A outer s H vs Q E hr h=>?_⟩;obtain ⟨x,dx,u0,rfl,hx,k⟩:=h;refine ⟨_,(zf (zM (pv 0) (pv 1) rfl)),?_⟩;refine ⟨_,rfl,_,rfl,x,C,dx,[],rfl,hx,cl,n0,(by show 0<1000;decide),?_⟩
 exact k _ (λb o nb z=>by
  rw [zy nb];exact z) zg
inductive spI_Shifted (C:Ad) (vs:Jm) (H:Hp) (Q:VK) (_:XK):Prop
 | mk (x dx:Ad) (u0 u1 u2:V) (_:vs=[.ref x,u0,u1,u2]) (_:H x=some (.ins C dx [])) (_:∀ H',(∀ b o,b≠x->H b=some o->H' b=some o)->H' x=some (.ins C dx [("row",u0),("by",u1),("other",u2)])->Q .non H')
def XQ {C:Ad} (d:yt K C "Shifted.__init__" y8 ["self","row","by","other"]) (cl:Cls K C) (n0:NoAttr K C "row") (n1:NoAttr K C "by") (n2:NoAttr K C "other"):OkI P w K mg base (CXe P w base) 1 C ["self","row","by","other"] (spI_Shifted C):=by
 obtain ⟨f,fd,m,F,bd⟩:=d;refine ⟨f,fd,m,bd,F.okE Yb (by rintro vs H Q E ⟨_,_,_,_,_,e,_⟩;rw [e];rfl) λcdv A outer s H vs Q E hr h=>?_⟩;obtain ⟨x,dx,u0,u1,u2,rfl,hx,k⟩:=h;refine ⟨_,(zc (zM (pv 0) (pv 1) rfl) (zc (zM (pv 0) (pv 2) rfl) (zf (zM (pv 0) (pv 3) rfl)))),?_⟩;refine ⟨_,rfl,_,rfl,x,C,dx,[],rfl,hx,cl,n0,(by show 0<1000;decide),?_⟩;refine ⟨_,rfl,_,rfl,x,C,dx,[("row",u0)],rfl,zg,cl,n1,(by show 1<1000;decide),?_⟩;refine ⟨_,rfl,_,rfl,x,C,dx,[("row",u0),("by",u1)],rfl,zg,cl,n2,(by show 2<1000;decide),?_⟩
 exact k _ (λb o nb z=>by
  rw [zy nb,zy nb,zy nb];exact z) zg
inductive spI_Local (C:Ad) (vs:Jm) (H:Hp) (Q:VK) (_:XK):Prop
 | mk (x dx:Ad) (u0:V) (_:vs=[.ref x,u0]) (_:H x=some (.ins C dx [])) (_:∀ H',(∀ b o,b≠x->H b=some o->H' b=some o)->H' x=some (.ins C dx [("at",u0)])->Q .non H')
def okI_Local {C:Ad} (d:yt K C "Local.__init__" xC ["self","at"]) (cl:Cls K C) (n0:NoAttr K C "at"):OkI P w K mg base (CXe P w base) 1 C ["self","at"] (spI_Local C):=by
 obtain ⟨f,fd,m,F,bd⟩:=d;refine ⟨f,fd,m,bd,F.okE YN (by rintro vs H Q E ⟨_,_,_,e,_⟩;rw [e];rfl) λcdv A outer s H vs Q E hr h=>?_⟩;obtain ⟨x,dx,u0,rfl,hx,k⟩:=h;refine ⟨_,(zf (zM (pv 0) (pv 1) rfl)),?_⟩;refine ⟨_,rfl,_,rfl,x,C,dx,[],rfl,hx,cl,n0,(by show 0<1000;decide),?_⟩
 exact k _ (λb o nb z=>by
  rw [zy nb];exact z) zg
inductive spI_At (C:Ad) (vs:Jm) (H:Hp) (Q:VK) (_:XK):Prop
 | mk (x dx:Ad) (u0 u1:V) (_:vs=[.ref x,u0,u1]) (_:H x=some (.ins C dx [])) (_:∀ H',(∀ b o,b≠x->H b=some o->H' b=some o)->H' x=some (.ins C dx [("row",u0),("place",u1)])->Q .non H')
def okI_At {C:Ad} (d:yt K C "At.__init__" ZD ["self","row","place"]) (cl:Cls K C) (n0:NoAttr K C "row") (n1:NoAttr K C "place"):OkI P w K mg base (CXe P w base) 1 C ["self","row","place"] (spI_At C):=by
 obtain ⟨f,fd,m,F,bd⟩:=d;refine ⟨f,fd,m,bd,F.okE X7 (by rintro vs H Q E ⟨_,_,_,_,e,_⟩;rw [e];rfl) λcdv A outer s H vs Q E hr h=>?_⟩;obtain ⟨x,dx,u0,u1,rfl,hx,k⟩:=h;refine ⟨_,(zc (zM (pv 0) (pv 1) rfl) (zf (zM (pv 0) (pv 2) rfl))),?_⟩;refine ⟨_,rfl,_,rfl,x,C,dx,[],rfl,hx,cl,n0,(by show 0<1000;decide),?_⟩;refine ⟨_,rfl,_,rfl,x,C,dx,[("row",u0)],rfl,zg,cl,n1,(by show 1<1000;decide),?_⟩
 exact k _ (λb o nb z=>by
  rw [zy nb,zy nb];exact z) zg
inductive spI_Pair (C:Ad) (vs:Jm) (H:Hp) (Q:VK) (_:XK):Prop
 | mk (x dx:Ad) (u0 u1 u2:V) (_:vs=[.ref x,u0,u1,u2]) (_:H x=some (.ins C dx [])) (_:∀ H',(∀ b o,b≠x->H b=some o->H' b=some o)->H' x=some (.ins C dx [("sign",u0),("left",u1),("right",u2)])->Q .non H')
def okI_Pair {C:Ad} (d:yt K C "Pair.__init__" xY ["self","sign","left","right"]) (cl:Cls K C) (n0:NoAttr K C "sign") (n1:NoAttr K C "left") (n2:NoAttr K C "right"):OkI P w K mg base (CXe P w base) 1 C ["self","sign","left","right"] (spI_Pair C):=by
 obtain ⟨f,fd,m,F,bd⟩:=d;refine ⟨f,fd,m,bd,F.okE Xa (by rintro vs H Q E ⟨_,_,_,_,_,e,_⟩;rw [e];rfl) λcdv A outer s H vs Q E hr h=>?_⟩;obtain ⟨x,dx,u0,u1,u2,rfl,hx,k⟩:=h;refine ⟨_,(zc (zM (pv 0) (pv 1) rfl) (zc (zM (pv 0) (pv 2) rfl) (zf (zM (pv 0) (pv 3) rfl)))),?_⟩;refine ⟨_,rfl,_,rfl,x,C,dx,[],rfl,hx,cl,n0,(by show 0<1000;decide),?_⟩;refine ⟨_,rfl,_,rfl,x,C,dx,[("sign",u0)],rfl,zg,cl,n1,(by show 1<1000;decide),?_⟩;refine ⟨_,rfl,_,rfl,x,C,dx,[("sign",u0),("left",u1)],rfl,zg,cl,n2,(by show 2<1000;decide),?_⟩
 exact k _ (λb o nb z=>by
  rw [zy nb,zy nb,zy nb];exact z) zg
inductive spI_Choice (C:Ad) (vs:Jm) (H:Hp) (Q:VK) (_:XK):Prop
 | mk (x dx:Ad) (u0 u1 u2:V) (_:vs=[.ref x,u0,u1,u2]) (_:H x=some (.ins C dx [])) (_:∀ H',(∀ b o,b≠x->H b=some o->H' b=some o)->H' x=some (.ins C dx [("test",u0),("left",u1),("right",u2)])->Q .non H')
def zag {C:Ad} (d:yt K C "Choice.__init__" xm ["self","test","left","right"]) (cl:Cls K C) (n0:NoAttr K C "test") (n1:NoAttr K C "left") (n2:NoAttr K C "right"):OkI P w K mg base (CXe P w base) 1 C ["self","test","left","right"] (spI_Choice C):=by
 obtain ⟨f,fd,m,F,bd⟩:=d;refine ⟨f,fd,m,bd,F.okE Yw (by rintro vs H Q E ⟨_,_,_,_,_,e,_⟩;rw [e];rfl) λcdv A outer s H vs Q E hr h=>?_⟩;obtain ⟨x,dx,u0,u1,u2,rfl,hx,k⟩:=h;refine ⟨_,(zc (zM (pv 0) (pv 1) rfl) (zc (zM (pv 0) (pv 2) rfl) (zf (zM (pv 0) (pv 3) rfl)))),?_⟩;refine ⟨_,rfl,_,rfl,x,C,dx,[],rfl,hx,cl,n0,(by show 0<1000;decide),?_⟩;refine ⟨_,rfl,_,rfl,x,C,dx,[("test",u0)],rfl,zg,cl,n1,(by show 1<1000;decide),?_⟩;refine ⟨_,rfl,_,rfl,x,C,dx,[("test",u0),("left",u1)],rfl,zg,cl,n2,(by show 2<1000;decide),?_⟩
 exact k _ (λb o nb z=>by
  rw [zy nb,zy nb,zy nb];exact z) zg
inductive spI_Aim (C:Ad) (vs:Jm) (H:Hp) (Q:VK) (_:XK):Prop
 | mk (x dx:Ad) (u0 u1 u2 u3:V) (_:vs=[.ref x,u0,u1,u2,u3]) (_:H x=some (.ins C dx [])) (_:∀ H',(∀ b o,b≠x->H b=some o->H' b=some o)->H' x=some (.ins C dx [("seat",u0),("mask",u1),("level",u2),("own",u3)])->Q .non H')
def okI_Aim {C:Ad} (d:yt K C "Aim.__init__" Zj ["self","seat","mask","level","own"]) (cl:Cls K C) (n0:NoAttr K C "seat") (n1:NoAttr K C "mask") (n2:NoAttr K C "level") (n3:NoAttr K C "own"):OkI P w K mg base (CXe P w base) 1 C ["self","seat","mask","level","own"] (spI_Aim C):=by
 obtain ⟨f,fd,m,F,bd⟩:=d;refine ⟨f,fd,m,bd,F.okE XH (by rintro vs H Q E ⟨_,_,_,_,_,_,e,_⟩;rw [e];rfl) λcdv A outer s H vs Q E hr h=>?_⟩;obtain ⟨x,dx,u0,u1,u2,u3,rfl,hx,k⟩:=h;refine ⟨_,(zc (zM (pv 0) (pv 1) rfl) (zc (zM (pv 0) (pv 2) rfl) (zc (zM (pv 0) (pv 3) rfl) (zf (zM (pv 0) (pv 4) rfl))))),?_⟩;refine ⟨_,rfl,_,rfl,x,C,dx,[],rfl,hx,cl,n0,(by show 0<1000;decide),?_⟩;refine ⟨_,rfl,_,rfl,x,C,dx,[("seat",u0)],rfl,zg,cl,n1,(by show 1<1000;decide),?_⟩;refine ⟨_,rfl,_,rfl,x,C,dx,[("seat",u0),("mask",u1)],rfl,zg,cl,n2,(by show 2<1000;decide),?_⟩;refine ⟨_,rfl,_,rfl,x,C,dx,[("seat",u0),("mask",u1),("level",u2)],rfl,zg,cl,n3,(by show 3<1000;decide),?_⟩
 exact k _ (λb o nb z=>by
  rw [zy nb,zy nb,zy nb,zy nb];exact z) zg
inductive spI_Let (C:Ad) (vs:Jm) (H:Hp) (Q:VK) (_:XK):Prop
 | mk (x dx:Ad) (u0 u1 u2:V) (_:vs=[.ref x,u0,u1,u2]) (_:H x=some (.ins C dx [])) (_:∀ H',(∀ b o,b≠x->H b=some o->H' b=some o)->H' x=some (.ins C dx [("target",u0),("value",u1),("test",u2)])->Q .non H')
def okN_Let {C:Ad} (d:Ya K C "Let.__init__" xh ["self","target","value","test"]) (cl:Cls K C) (n0:NoAttr K C "target") (n1:NoAttr K C "value") (n2:NoAttr K C "test"):OkN P w K mg base (CXe P w base) 1 C ["self","target","value","test"] (spI_Let C):=by
 obtain ⟨f,fd,m,F,bd,bn⟩:=d;refine ⟨f,fd,m,bd,bn,F.okE XG (by rintro vs H Q E ⟨_,_,_,_,_,e,_⟩;rw [e];rfl) λcdv A outer s H vs Q E hr h=>?_⟩;obtain ⟨x,dx,u0,u1,u2,rfl,hx,k⟩:=h;refine ⟨_,(zc (zM (pv 0) (pv 1) rfl) (zc (zM (pv 0) (pv 2) rfl) (zf (zM (pv 0) (pv 3) rfl)))),?_⟩;refine ⟨_,rfl,_,rfl,x,C,dx,[],rfl,hx,cl,n0,(by show 0<1000;decide),?_⟩;refine ⟨_,rfl,_,rfl,x,C,dx,[("target",u0)],rfl,zg,cl,n1,(by show 1<1000;decide),?_⟩;refine ⟨_,rfl,_,rfl,x,C,dx,[("target",u0),("value",u1)],rfl,zg,cl,n2,(by show 2<1000;decide),?_⟩
 exact k _ (λb o nb z=>by
  rw [zy nb,zy nb,zy nb];exact z) zg
inductive spI_Put (C:Ad) (vs:Jm) (H:Hp) (Q:VK) (_:XK):Prop
 | mk (x dx:Ad) (u0 u1 u2 u3 u4:V) (_:vs=[.ref x,u0,u1,u2,u3,u4]) (_:H x=some (.ins C dx [])) (_:∀ H',(∀ b o,b≠x->H b=some o->H' b=some o)->H' x=some (.ins C dx [("target",u0),("value",u1),("place",u2),("many",u3),("test",u4)])->Q .non H')
def okN_Put {C:Ad} (d:Ya K C "Put.__init__" xg ["self","target","value","place","many","test"]) (cl:Cls K C) (n0:NoAttr K C "target") (n1:NoAttr K C "value") (n2:NoAttr K C "place") (n3:NoAttr K C "many") (n4:NoAttr K C "test"):OkN P w K mg base (CXe P w base) 1 C ["self","target","value","place","many","test"] (spI_Put C):=by
 obtain ⟨f,fd,m,F,bd,bn⟩:=d;refine ⟨f,fd,m,bd,bn,F.okE XF (by rintro vs H Q E ⟨_,_,_,_,_,_,_,e,_⟩;rw [e];rfl) λcdv A outer s H vs Q E hr h=>?_⟩;obtain ⟨x,dx,u0,u1,u2,u3,u4,rfl,hx,k⟩:=h;refine ⟨_,(zc (zM (pv 0) (pv 1) rfl) (zc (zM (pv 0) (pv 2) rfl) (zc (zM (pv 0) (pv 3) rfl) (zc (zM (pv 0) (pv 4) rfl) (zf (zM (pv 0) (pv 5) rfl)))))),?_⟩;refine ⟨_,rfl,_,rfl,x,C,dx,[],rfl,hx,cl,n0,(by show 0<1000;decide),?_⟩;refine ⟨_,rfl,_,rfl,x,C,dx,[("target",u0)],rfl,zg,cl,n1,(by show 1<1000;decide),?_⟩;refine ⟨_,rfl,_,rfl,x,C,dx,[("target",u0),("value",u1)],rfl,zg,cl,n2,(by show 2<1000;decide),?_⟩;refine ⟨_,rfl,_,rfl,x,C,dx,[("target",u0),("value",u1),("place",u2)],rfl,zg,cl,n3,(by show 3<1000;decide),?_⟩;refine ⟨_,rfl,_,rfl,x,C,dx,[("target",u0),("value",u1),("place",u2),("many",u3)],rfl,zg,cl,n4,(by show 4<1000;decide),?_⟩
 exact k _ (λb o nb z=>by
  rw [zy nb,zy nb,zy nb,zy nb,zy nb];exact z) zg
inductive spI_Fold (C:Ad) (vs:Jm) (H:Hp) (Q:VK) (_:XK):Prop
 | mk (x dx:Ad) (u0 u1 u2 u3 u4:V) (_:vs=[.ref x,u0,u1,u2,u3,u4]) (_:H x=some (.ins C dx [])) (_:∀ H',(∀ b o,b≠x->H b=some o->H' b=some o)->H' x=some (.ins C dx [("target",u0),("fold",u1),("value",u2),("many",u3),("test",u4)])->Q .non H')
def okN_Fold {C:Ad} (d:Ya K C "Fold.__init__" yW ["self","target","fold","value","many","test"]) (cl:Cls K C) (n0:NoAttr K C "target") (n1:NoAttr K C "fold") (n2:NoAttr K C "value") (n3:NoAttr K C "many") (n4:NoAttr K C "test"):OkN P w K mg base (CXe P w base) 1 C ["self","target","fold","value","many","test"] (spI_Fold C):=by
 obtain ⟨f,fd,m,F,bd,bn⟩:=d;refine ⟨f,fd,m,bd,bn,F.okE Xb (by rintro vs H Q E ⟨_,_,_,_,_,_,_,e,_⟩;rw [e];rfl) λcdv A outer s H vs Q E hr h=>?_⟩;obtain ⟨x,dx,u0,u1,u2,u3,u4,rfl,hx,k⟩:=h;refine ⟨_,(zc (zM (pv 0) (pv 1) rfl) (zc (zM (pv 0) (pv 2) rfl) (zc (zM (pv 0) (pv 3) rfl) (zc (zM (pv 0) (pv 4) rfl) (zf (zM (pv 0) (pv 5) rfl)))))),?_⟩;refine ⟨_,rfl,_,rfl,x,C,dx,[],rfl,hx,cl,n0,(by show 0<1000;decide),?_⟩;refine ⟨_,rfl,_,rfl,x,C,dx,[("target",u0)],rfl,zg,cl,n1,(by show 1<1000;decide),?_⟩;refine ⟨_,rfl,_,rfl,x,C,dx,[("target",u0),("fold",u1)],rfl,zg,cl,n2,(by show 2<1000;decide),?_⟩;refine ⟨_,rfl,_,rfl,x,C,dx,[("target",u0),("fold",u1),("value",u2)],rfl,zg,cl,n3,(by show 3<1000;decide),?_⟩;refine ⟨_,rfl,_,rfl,x,C,dx,[("target",u0),("fold",u1),("value",u2),("many",u3)],rfl,zg,cl,n4,(by show 4<1000;decide),?_⟩
 exact k _ (λb o nb z=>by
  rw [zy nb,zy nb,zy nb,zy nb,zy nb];exact z) zg
inductive spI_Running (C:Ad) (vs:Jm) (H:Hp) (Q:VK) (_:XK):Prop
 | mk (x dx:Ad) (u0 u1 u2 u3:V) (_:vs=[.ref x,u0,u1,u2,u3]) (_:H x=some (.ins C dx [])) (_:∀ H',(∀ b o,b≠x->H b=some o->H' b=some o)->H' x=some (.ins C dx [("target",u0),("fold",u1),("value",u2),("test",u3)])->Q .non H')
def XO {C:Ad} (d:Ya K C "Running.__init__" yD ["self","target","fold","value","test"]) (cl:Cls K C) (n0:NoAttr K C "target") (n1:NoAttr K C "fold") (n2:NoAttr K C "value") (n3:NoAttr K C "test"):OkN P w K mg base (CXe P w base) 1 C ["self","target","fold","value","test"] (spI_Running C):=by
 obtain ⟨f,fd,m,F,bd,bn⟩:=d;refine ⟨f,fd,m,bd,bn,F.okE Yc (by rintro vs H Q E ⟨_,_,_,_,_,_,e,_⟩;rw [e];rfl) λcdv A outer s H vs Q E hr h=>?_⟩;obtain ⟨x,dx,u0,u1,u2,u3,rfl,hx,k⟩:=h;refine ⟨_,(zc (zM (pv 0) (pv 1) rfl) (zc (zM (pv 0) (pv 2) rfl) (zc (zM (pv 0) (pv 3) rfl) (zf (zM (pv 0) (pv 4) rfl))))),?_⟩;refine ⟨_,rfl,_,rfl,x,C,dx,[],rfl,hx,cl,n0,(by show 0<1000;decide),?_⟩;refine ⟨_,rfl,_,rfl,x,C,dx,[("target",u0)],rfl,zg,cl,n1,(by show 1<1000;decide),?_⟩;refine ⟨_,rfl,_,rfl,x,C,dx,[("target",u0),("fold",u1)],rfl,zg,cl,n2,(by show 2<1000;decide),?_⟩;refine ⟨_,rfl,_,rfl,x,C,dx,[("target",u0),("fold",u1),("value",u2)],rfl,zg,cl,n3,(by show 3<1000;decide),?_⟩
 exact k _ (λb o nb z=>by
  rw [zy nb,zy nb,zy nb,zy nb];exact z) zg
inductive spI_Call (K:Fg) (C:Ad) (vs:Jm) (H:Hp) (Q:VK) (_:XK):Prop
 | mk (x dx h:Ad) (u0:V) (xs:Jm) (_:vs=[.ref x,u0,.ref h]) (_:H x=some (.ins C dx [])) (_:SqL K H h xs) (_:∀ H' l,H l=none->(∀ b o,b≠x->H b=some o->H' b=some o)->H' l=some (.lst xs)->H' x=some (.ins C dx [("at",u0),("handed",.ref l)])->Q .non H')
def okI_Call {C:Ad} (d:yt K C "Call.__init__" x6 ["self","at","handed"]) (hlist:mg "list"=none) (cl:Cls K C) (n0:NoAttr K C "at") (n1:NoAttr K C "handed"):OkI P w K mg base (CXe P w base) 1 C ["self","at","handed"] (spI_Call K C):=by
 obtain ⟨f,fd,m,F,bd⟩:=d;refine ⟨f,fd,m,bd,F.okE Xd (by rintro vs H Q E ⟨_,_,_,_,_,e,_⟩;rw [e];rfl) λcdv A outer s H vs Q E hr h=>?_⟩;obtain ⟨x,dx,h,u0,xs,rfl,hx,hh,k⟩:=h;refine ⟨_,(zc (zM (pv 0) (pv 1) rfl) (zf (zM (pv 0) (yf yP (by rfl) hlist PyProof.Rows.boot_list (zb (pv 2) ze)) rfl))),?_⟩;refine ⟨_,rfl,_,rfl,x,C,dx,[],rfl,hx,cl,n0,(by show 0<1000;decide),?_⟩
 have h2:SqL K (upd H x (.ins C dx [("at",u0)])) h xs:=by
  rcases hh with (z | ⟨o,z⟩) | z
  ·exact .inl (.inl (by rw [zy (λe=>by subst e;rw [hx] at z;cases z)];exact z))
  ·exact .inl (.inr ⟨o,by rw [zy (λe=>by subst e;rw [hx] at z;cases z)];exact z⟩)
  ·exact .inr z
 refine ⟨_,rfl,h,_,rfl,.inl h2,λl nl=>?_⟩;have nx:l≠x:=λe=>by subst e;rw [zg] at nl;cases nl
 refine ⟨_,rfl,x,C,dx,[("at",u0)],rfl,(by rw [zy (Ne.symm nx)];exact zg),cl,n1,(by show 1<1000;decide),?_⟩;refine k _ l (by rw [zy nx] at nl;exact nl) (λb o nb z=>?_) (by rw [zy nx];exact zg) zg;rw [zy nb];have nl':b≠l:=λe=>by subst e;rw [zy nb] at nl;rw [nl] at z;cases z
 rw [zy nl',zy nb];exact z
def sql_but {x a C dx:Ad} {xs:Jm} {H:Hp} {fl:List (Str×V)} (hx:H x=some (.ins C dx fl)) (h:SqL K H a xs):SqL K (but H [x]) a xs:=by
 rcases h with (z | ⟨o,z⟩) | z
 ·exact .inl (.inl (xk z (λm=>by cases List.mem_singleton.mp m;rw [hx] at z;cases z)))
 ·exact .inl (.inr ⟨o,xk z (λm=>by cases List.mem_singleton.mp m;rw [hx] at z;cases z)⟩)
 ·exact .inr z
inductive spI_Till (K:Fg) (C:Ad) (vs:Jm) (H:Hp) (Q:VK) (_:XK):Prop
 | mk (x dx a:Ad) (u0 u1:V) (xs:Jm) (_:vs=[.ref x,u0,u1,.ref a]) (_:H x=some (.ins C dx [])) (_:SqL K H a xs) (_:∀ H' l,H l=none->(∀ b o,b≠x->H b=some o->H' b=some o)->H' l=some (.lst xs)->H' x=some (.ins C dx [("target",u0),("most",u1),("steps",.ref l)])->Q .non H')
def okI_Till {C:Ad} (d:yt K C "Till.__init__" xX ["self","target","most","steps"]) (hlist:mg "list"=none) (cl:Cls K C) (n0:NoAttr K C "target") (n1:NoAttr K C "most") (n2:NoAttr K C "steps"):OkI P w K mg base (CXe P w base) 1 C ["self","target","most","steps"] (spI_Till K C):=by
 obtain ⟨f,fd,m,F,bd⟩:=d;refine ⟨f,fd,m,bd,F.okE Y9 (by rintro vs H Q E ⟨_,_,_,_,_,_,e,_⟩;rw [e];rfl) λcdv A outer s H vs Q E hr h=>?_⟩;obtain ⟨x,dx,a,u0,u1,xs,rfl,hx,ha,k⟩:=h;refine ⟨_,(zc (zM (pv 0) (pv 1) rfl) (zc (zM (pv 0) (pv 2) rfl) (zf (zM (pv 0) (yf yP (by rfl) hlist PyProof.Rows.boot_list (zb (pv 3) ze)) rfl)))),?_⟩;have h:=Hd.but1 hx;have ha:=sql_but hx ha;have nb:∀ b' o,b'≠x->H b'=some o->but H [x] b'=some o:=λb' o n z=>xk z (λe=>n (List.mem_singleton.mp e));refine ⟨_,rfl,_,rfl,x,C,dx,[],rfl,h.get 0 rfl,cl,n0,(by show 0<1000;decide),?_⟩;have h:=h.put (o':=.ins C dx [("target",u0)]) 0 rfl;refine ⟨_,rfl,_,rfl,x,C,dx,[("target",u0)],rfl,h.get 0 rfl,cl,n1,(by show 1<1000;decide),?_⟩;have h:=h.put (o':=.ins C dx [("target",u0),("most",u1)]) 0 rfl;refine ⟨_,rfl,a,_,rfl,.inl (h.sql ha),λl nl=>?_⟩;have nlx:l≠x:=(zS (h.get 0 rfl) nl).symm;have fr:H l=none:=but_free (h.free nl) nlx;have h:=h.new (o:=.lst xs) nl;refine ⟨_,rfl,x,C,dx,[("target",u0),("most",u1)],rfl,h.get 1 rfl,cl,n2,(by show 2<1000;decide),?_⟩;have h:=h.put (o':=.ins C dx [("target",u0),("most",u1),("steps",.ref l)]) 1 rfl;exact k _ l fr (λb' o n z=>h.sm _ _ (nb b' o n z)) (h.get 0 rfl) (h.get 1 rfl)
structure Tb where
 s:Int->Nat
 z:Int->Nat
 d:Int->Nat
mutual
def sN (T:Tb):F2.Fm->Nat
 | .at' _ p=>sN T p
 | .pair _ l r=>max (sN T l) (1+sN T r)
 | .cho t l r=>max (sN T t) (max (sN T l) (1+sN T r))
 | .call a hs=>sNs T (T.s a) hs
 | .num _=>1
 | .here=>1
 | .cell _=>1
 | .shi _ _ _=>1
 | .loc _=>1
def sNs (T:Tb) (m:Nat):F2.Fms->Nat
 | .nil=>m
 | .cons f r=>max (sN T f) (sNs T m r)
end
mutual
def zF (T:Tb):F2.Fm->Nat
 | .at' _ p=>zF T p+1
 | .pair _ l r=>zF T l+zF T r+1
 | .cho t l r=>zF T t+zF T l+zF T r+1
 | .call a hs=>zFs T hs+T.z a+1
 | .num _=>1
 | .here=>1
 | .cell _=>1
 | .shi _ _ _=>1
 | .loc _=>1
def zFs (T:Tb):F2.Fms->Nat
 | .nil=>0
 | .cons f r=>zF T f+zFs T r
end
mutual
def cD (T:Tb):F2.Fm->Nat
 | .at' _ p=>cD T p
 | .pair _ l r=>max (cD T l) (cD T r)
 | .cho t l r=>max (cD T t) (max (cD T l) (cD T r)+1)
 | .call a hs=>cDs T (T.d a) hs
 | .num _=>0
 | .here=>0
 | .cell _=>0
 | .shi _ _ _=>0
 | .loc _=>0
def cDs (T:Tb) (m:Nat):F2.Fms->Nat
 | .nil=>m
 | .cons f r=>max (cD T f) (cDs T m r)
end
mutual
def FOk (nr:Nat) (fs:List F2.Fn) (ow:Nat):F2.Fm->Prop
 | .at' r p=>(0<=r/\r.toNat<nr)/\FOk nr fs ow p
 | .pair _ l r=>FOk nr fs ow l/\FOk nr fs ow r
 | .cho t l r=>FOk nr fs ow t/\FOk nr fs ow l/\FOk nr fs ow r
 | .call a hs=>(0<=a/\a.toNat<fs.length/\hs.len=F2.handsOf fs a)/\FOks nr fs ow hs
 | .num _=>True
 | .here=>True
 | .cell r=>0<=r/\r.toNat<nr
 | .shi r _ _=>0<=r/\r.toNat<nr
 | .loc a=>0<=a/\a.toNat<ow
def FOks (nr:Nat) (fs:List F2.Fn) (ow:Nat):F2.Fms->Prop
 | .nil=>True
 | .cons f r=>FOk nr fs ow f/\FOks nr fs ow r
end
structure TabOk (nr:Nat) (fs:List F2.Fn) (T:Tb):Prop where
 s:∀ a:Int,0<=a->a.toNat<fs.length->sN T (F2.bodyOf fs a)=T.s a
 z:∀ a:Int,0<=a->a.toNat<fs.length->zF T (F2.bodyOf fs a)<=T.z a
 d:∀ a:Int,0<=a->a.toNat<fs.length->cD T (F2.bodyOf fs a)<=T.d a
 o:∀ a:Int,0<=a->a.toNat<fs.length->FOk nr fs (F2.handsOf fs a) (F2.bodyOf fs a)
 p:∀ a,1<=T.s a
theorem xE (T:Tb):∀ F:F2.Fm,1<=zF T F
 | .at' _ p=>Nat.le_add_left ..
 | .pair _ l r=>Nat.le_add_left ..
 | .cho t l r=>Nat.le_add_left ..
 | .call a hs=>Nat.le_add_left ..
 | .num _=>Nat.le_refl _
 | .here=>Nat.le_refl _
 | .cell _=>Nat.le_refl _
 | .shi _ _ _=>Nat.le_refl _
 | .loc _=>Nat.le_refl _
theorem Yg (T:Tb):∀ hs:F2.Fms,hs.len<=zFs T hs
 | .nil=>Nat.le_refl _
 | .cons f r=>by
  have:=Yg T r;have:=xE T f;show r.len+1<=zF T f+zFs T r;omega
def xF (s p mk:Nat):Jm:=[.str "save",.int s,.int p,.int mk]
def YI (p s mk:Nat):Jm:=[.str "bring",.int p,.int s,.int mk]
def opT (p:Nat) (sg:Str) (a c mk:Nat):Jm:=[.str "op",.int p,.str sg,.int a,.int c,.int mk]
def Z6 (p a c m mk:Nat):Jm:=[.str "pick",.int p,.int a,.int c,.int m,.int mk]
def Y1 (lens:Ja) (p mk:Nat) (r:Int):Jm:=if lens.getD r.toNat 0=1 then [.str "spread",.int p,.int r,.int mk] else [.str "load",.int p,.int r,.int mk]
def Zf (fits:Prop) [Decidable fits] (c1 c2 c2':List (Jm)) (p s mk:Nat):List (Jm):=if fits then c1++c2 else c1++[xF s p mk]++c2'++[YI (p+1) s mk]
def Za (f:F2.Fm->Nat->List (Jm)) (p mk:Nat):F2.Fms->Nat->List (Jm)
 | .nil,_=>[]
 | .cons h r,s=>f h s++[xF s p mk]++Za f p mk r (s+1)
def slots (s n:Nat):List Nat:=(List.range n).map (s+·)
def mkC (lens:Ja) (fs:List F2.Fn) (T:Tb) (se:Nat):Nat->F2.Fm->Nat->Nat->Nat->Nat->List Nat->List (Jm)
 | 0,_,_,_,_,_,_=>[]
 | n+1,F,p,mk,lv,s,ow=>match F with
  | .num v=>[[.str "number",.int p,.int v,.int mk]]
  | .here=>[[.str "here",.int p,.int mk]]
  | .cell r=>[Y1 lens p mk r]
  | .shi r d o=>[[.str "shift",.int p,.int r,.int d,.int o,.int mk]]
  | .loc a=>[YI p (ow.getD a.toNat 0) mk]
  | .at' r f=>mkC lens fs T se n f p mk lv s ow++[[.str "gather",.int p,.int p,.int r,.int mk]]
  | .pair sg l r=>Zf (p+1+sN T r<=se) (mkC lens fs T se n l p mk lv s ow) (mkC lens fs T se n r (p+1) mk lv s ow) (mkC lens fs T se n r p mk lv (s+1) ow) p s mk++[if p+1+sN T r<=se then opT p sg p (p+1) mk else opT p sg (p+1) p mk]
  | .cho t l r=>mkC lens fs T se n t p mk lv s ow++[[.str "choose",.int (2+2*lv:Nat),.int p,.int mk],[.str "other",.int (3+2*lv:Nat),.int p,.int mk]]++Zf (p+1+sN T r<=se) (mkC lens fs T se n l p (2+2*lv) (lv+1) s ow) (mkC lens fs T se n r (p+1) (3+2*lv) (lv+1) s ow) (mkC lens fs T se n r p (3+2*lv) (lv+1) (s+1) ow) p s (2+2*lv)++[if p+1+sN T r<=se then Z6 p p (p+1) (2+2*lv) mk else Z6 p (p+1) p (2+2*lv) mk]
  | .call a hs=>Za (λh s'=>mkC lens fs T se n h p mk lv s' ow) p mk hs s++mkC lens fs T se n (F2.bodyOf fs a) p mk lv (s+hs.len) (slots s hs.len)
def Yh {fits:Prop} [Decidable fits] {c1 c2 c2':List (Jm)} {p s mk a b:Nat} (h1:c1.length<=a) (h2:c2.length<=b) (h3:c2'.length<=b):(Zf fits c1 c2 c2' p s mk).length<=a+b+2:=by
 unfold Zf
 split
 ·rw [Ji];omega
 ·rw [Ji,Ji,Ji]
  show c1.length+1+c2'.length+1<=_;omega
theorem yG {lens:Ja} {fs:List F2.Fn} {T:Tb} {se nr:Nat} (t:TabOk nr fs T):∀ (n:Nat) (F:F2.Fm) (p mk lv s ow':Nat) (ow:List Nat),zF T F<=n->FOk nr fs ow' F->(mkC lens fs T se n F p mk lv s ow).length+1<=6*zF T F
 | 0,F,_,_,_,_,_,_,h,_=>by have:=xE T F;omega
 | n+1,F,p,mk,lv,s,ow',ow,h,ok=>by
  cases F with
  | at' r f =>
   have e:zF T (.at' r f)=zF T f+1:=rfl;have:=yG (lens:=lens) (se:=se) t n f p mk lv s ow' ow (by omega) ok.2;show (mkC lens fs T se n f p mk lv s ow++[_]).length+1<=_;rw [Ji];show _+1+1<=_;omega
  | pair sg l r =>
   have e:zF T (.pair sg l r)=zF T l+zF T r+1:=rfl;have a1:=yG (lens:=lens) (se:=se) t n l p mk lv s ow' ow (by omega) ok.1;have a2:=yG (lens:=lens) (se:=se) t n r (p+1) mk lv s ow' ow (by omega) ok.2;have a3:=yG (lens:=lens) (se:=se) t n r p mk lv (s+1) ow' ow (by omega) ok.2;have:=Yh (fits:=p+1+sN T r<=se) (p:=p) (s:=s) (mk:=mk) (Nat.le_sub_one_of_lt a1) (Nat.le_sub_one_of_lt a2) (Nat.le_sub_one_of_lt a3);show (Zf _ _ _ _ _ _ _++[_]).length+1<=_;rw [Ji];show _+1+1<=_;omega
  | cho t' l r =>
   have e:zF T (.cho t' l r)=zF T t'+zF T l+zF T r+1:=rfl;have a0:=yG (lens:=lens) (se:=se) t n t' p mk lv s ow' ow (by omega) ok.1;have a1:=yG (lens:=lens) (se:=se) t n l p (2+2*lv) (lv+1) s ow' ow (by omega) ok.2.1;have a2:=yG (lens:=lens) (se:=se) t n r (p+1) (3+2*lv) (lv+1) s ow' ow (by omega) ok.2.2;have a3:=yG (lens:=lens) (se:=se) t n r p (3+2*lv) (lv+1) (s+1) ow' ow (by omega) ok.2.2;have:=Yh (fits:=p+1+sN T r<=se) (p:=p) (s:=s) (mk:=2+2*lv) (Nat.le_sub_one_of_lt a1) (Nat.le_sub_one_of_lt a2) (Nat.le_sub_one_of_lt a3);show (_++[_,_]++Zf _ _ _ _ _ _ _++[_]).length+1<=_;rw [Ji,Ji,Ji];show _+2+_+1+1<=_;omega
  | call a hs =>
   have e:zF T (.call a hs)=zFs T hs+T.z a+1:=rfl;obtain ⟨⟨a0,a1,a2⟩,oks⟩:=ok;have hz:=t.z a a0 a1;have b1:=yG (lens:=lens) (se:=se) t n (F2.bodyOf fs a) p mk lv (s+hs.len) _ (slots s hs.len) (by omega) (t.o a a0 a1)
   have key:∀ (hs:F2.Fms) (s:Nat),zFs T hs<=n->FOks nr fs ow' hs->(Za (λh s'=>mkC lens fs T se n h p mk lv s' ow) p mk hs s).length<=6*zFs T hs:=by
    intro hs
    induction hs using F2.Fms.rec (motive_1:=λ_=>True) with
    | nil=>exact λ_ _ _=>Nat.le_refl _
    | cons g r _ ih =>
     intro s hz ok;have e:zFs T (.cons g r)=zF T g+zFs T r:=rfl;have:=yG (lens:=lens) (se:=se) t n g p mk lv s ow' ow (by omega) ok.1;have:=ih (s+1) (by omega) ok.2;show (mkC lens fs T se n g p mk lv s ow++[xF s p mk]++Za _ p mk r (s+1)).length<=_;rw [Ji,Ji];show _+1+_<=_;omega
    | _=>trivial
   have b2:=key hs s (by omega) oks;show (Za _ p mk hs s++mkC lens fs T se n (F2.bodyOf fs a) p mk lv (s+hs.len) (slots s hs.len)).length+1<=_;rw [Ji];omega
  | _=>show (1:Nat)+1<=6*1;omega
inductive ZV (se nr:Nat):Nat->V->Prop
 | w (s:Str):ZV se nr 119 (.str s)
 | x (s:Str):ZV se nr 120 (.str s)
 | l (n:Nat) (h:n<se):ZV se nr 108 (.int n)
 | s (n:Nat) (h:n<se):ZV se nr 115 (.int n)
 | m (n:Nat) (h:n<16):ZV se nr 109 (.int n)
 | k (n:Nat) (h:1<=n) (h':n<16):ZV se nr 107 (.int n)
 | o (n:Nat) (h:n<60):ZV se nr 111 (.int n)
 | r (i:Int) (h:0<=i) (h':i.toNat<nr):ZV se nr 114 (.int i)
 | n (i:Int):ZV se nr 110 (.int i)
def fits (se nr:Nat):List Nat->Jm->Prop
 | [],[]=>True
 | c::cs,v::vs=>ZV se nr c v/\fits se nr cs vs
 | _,_=>False
def ZY:List (Str×List Nat):=[("op",[119,108,120,115,115,109]),("pick",[119,108,115,115,109,109]),("shift",[119,108,114,110,110,109]),("gather",[119,108,115,114,109]),("put",[119,114,115,115,109]),("number",[119,108,110,109]),("load",[119,108,114,109]),("spread",[119,108,114,109]),("bring",[119,108,111,109]),("fold",[119,114,120,115,109]),("running",[119,114,120,115,109]),("choose",[119,107,115,109]),("other",[119,107,115,109]),("save",[119,111,115,109]),("here",[119,108,109]),("reach",[119,115,110,109]),("store",[119,114,115,109]),("any",[119,115,109]),("trim",[119]),("stop",[119,110])]
structure Good (se nr:Nat) (tv:Jm):Prop where
 ex:∃ (w:Str) (L:List Nat) (r:Jm),tv=.str w::r/\(w,L)∈ZY/\fits se nr L tv
def yp {se nr:Nat} {w:Str} {L:List Nat} {r:Jm} (i:Nat) (e:ZY[i]?=some (w,L)) (h:fits se nr L (.str w::r)):Good se nr (.str w::r):=⟨w,L,r,rfl,List.mem_of_getElem? e,h⟩
section
variable {se nr p mk:Nat}
def g_op {sg:Str} {a c:Nat} (h1:p<se) (h2:a<se) (h3:c<se) (h4:mk<16):Good se nr (opT p sg a c mk):=yp 0 rfl ⟨.w _,.l _ h1,.x _,.s _ h2,.s _ h3,.m _ h4,trivial⟩
def g_pick {a c m:Nat} (h1:p<se) (h2:a<se) (h3:c<se) (h5:m<16) (h4:mk<16):Good se nr (Z6 p a c m mk):=yp 1 rfl ⟨.w _,.l _ h1,.s _ h2,.s _ h3,.m _ h5,.m _ h4,trivial⟩
def Xp {s:Nat} (h1:p<se) (h2:s<60) (h4:mk<16):Good se nr (xF s p mk):=yp 13 rfl ⟨.w _,.o _ h2,.s _ h1,.m _ h4,trivial⟩
def Yn {s:Nat} (h1:p<se) (h2:s<60) (h4:mk<16):Good se nr (YI p s mk):=yp 8 rfl ⟨.w _,.l _ h1,.o _ h2,.m _ h4,trivial⟩
def XV {k:Nat} (h1:p<se) (h2:1<=k) (h3:k<16) (h4:mk<16):Good se nr [.str "choose",.int k,.int p,.int mk]:=yp 11 rfl ⟨.w _,.k _ h2 h3,.s _ h1,.m _ h4,trivial⟩
def g_other {k:Nat} (h1:p<se) (h2:1<=k) (h3:k<16) (h4:mk<16):Good se nr [.str "other",.int k,.int p,.int mk]:=yp 12 rfl ⟨.w _,.k _ h2 h3,.s _ h1,.m _ h4,trivial⟩
def Xx {fits:Prop} [Decidable fits] {c1 c2 c2':List (Jm)} {s:Nat} {G:Jm->Prop} (h1:∀ tv∈c1,G tv) (h2:fits->∀ tv∈c2,G tv) (h3:¬ fits->∀ tv∈c2',G tv) (hs:G (xF s p mk)) (hb:G (YI (p+1) s mk)):∀ tv∈Zf fits c1 c2 c2' p s mk,G tv:=by
 unfold Zf;intro tv m
 split at m
 ·rename_i z
  rcases List.mem_append.mp m with m | m
  ·exact h1 _ m
  ·exact h2 z _ m
 ·rename_i z
  rcases List.mem_append.mp m with m | m
  ·rcases List.mem_append.mp m with m | m
   ·rcases List.mem_append.mp m with m | m
    ·exact h1 _ m
    ·cases List.mem_singleton.mp m;exact hs
   ·exact h3 z _ m
  ·cases List.mem_singleton.mp m;exact hb
end
def sN_pos {T:Tb} (h:∀ a,1<=T.s a):∀ F:F2.Fm,1<=sN T F:=by
 intro F
 induction F using F2.Fm.rec (motive_2:=λhs=>∀ m,1<=m->1<=sNs T m hs) with
 | at' r p ih=>exact ih
 | pair sg l r ih _=>exact Nat.le_trans ih (Nat.le_max_left ..)
 | cho t l r ih _ _=>exact Nat.le_trans ih (Nat.le_max_left ..)
 | call a hs ih=>exact ih _ (h a)
 | nil=>rename_i h;exact h
 | cons f r ih _=>exact Nat.le_trans ih (Nat.le_max_left ..)
 | _=>exact Nat.le_refl _
theorem sNs_ge {T:Tb} {m:Nat}:∀ hs:F2.Fms,m<=sNs T m hs
 | .nil=>Nat.le_refl _
 | .cons f r=>Nat.le_trans (sNs_ge r) (Nat.le_max_right ..)
theorem cDs_ge {T:Tb} {m:Nat}:∀ hs:F2.Fms,m<=cDs T m hs
 | .nil=>Nat.le_refl _
 | .cons f r=>Nat.le_trans (cDs_ge r) (Nat.le_max_right ..)
def ZX (s n:Nat):(slots s n).length=n:=by unfold slots;rw [Jh,List.length_range]
def slots_lt {s n x:Nat} (h:x∈slots s n):x<s+n:=by
 obtain ⟨i,hi,rfl⟩:=List.mem_map.mp h;have:=List.mem_range.mp hi;omega
theorem yN {lens:Ja} {fs:List F2.Fn} {T:Tb} {se nr:Nat} (t:TabOk nr fs T):∀ (n:Nat) (F:F2.Fm) (p mk lv s:Nat) (ow:List Nat),zF T F<=n->FOk nr fs ow.length F->(∀ x∈ow,x<60)->p+min 2 (sN T F)<=se->p<se->mk<2+2*lv->lv+cD T F<=7->s+zF T F<=60->∀ tv∈mkC lens fs T se n F p mk lv s ow,Good se nr tv
 | 0,F,_,_,_,_,_,h,_,_,_,_,_,_,_=>by have:=xE T F;omega
 | n+1,F,p,mk,lv,s,ow,h,ok,hw,hp,hp1,hm,hl,hs=>by
  have m16:mk<16:=by omega
  have one:∀ {a:Jm},Good se nr a->∀ tv∈[a],Good se nr tv:=λg tv m=>by cases List.mem_singleton.mp m;exact g
  cases F with
  | num v=>exact one (yp 5 rfl ⟨.w _,.l _ hp1,.n _,.m _ m16,trivial⟩)
  | here=>exact one (yp 14 rfl ⟨.w _,.l _ hp1,.m _ m16,trivial⟩)
  | cell r =>
   refine one ?_;unfold Y1
   split
   ·exact yp 7 rfl ⟨.w _,.l _ hp1,.r _ ok.1 ok.2,.m _ m16,trivial⟩
   ·exact yp 6 rfl ⟨.w _,.l _ hp1,.r _ ok.1 ok.2,.m _ m16,trivial⟩
  | shi r d o=>exact one (yp 2 rfl ⟨.w _,.l _ hp1,.r _ ok.1 ok.2,.n _,.n _,.m _ m16,trivial⟩)
  | loc a =>
   refine one (Yn hp1 (hw _ ?_) m16);rw [q0z,List.getElem?_eq_getElem ok.2];exact List.getElem_mem _
  | at' r f =>
   have e1:zF T (.at' r f)=zF T f+1:=rfl;have e2:sN T (.at' r f)=sN T f:=rfl;have e3:cD T (.at' r f)=cD T f:=rfl;intro tv m;rcases List.mem_append.mp m with m | m
   ·exact yN t n f p mk lv s ow (by omega) ok.2 hw (by omega) hp1 hm (by omega) (by omega) tv m
   ·have g:Good se nr [.str "gather",.int p,.int p,.int r,.int mk]:=yp 3 rfl ⟨.w _,.l _ hp1,.s _ hp1,.r _ ok.1.1 ok.1.2,.m _ m16,trivial⟩
    exact one g tv m
  | pair sg l r =>
   have e1:zF T (.pair sg l r)=zF T l+zF T r+1:=rfl;have e2:sN T (.pair sg l r)=max (sN T l) (1+sN T r):=rfl;have e3:cD T (.pair sg l r)=max (cD T l) (cD T r):=rfl;have r1:=sN_pos t.p r;have p2:p+2<=se:=by omega
   intro tv m;rcases List.mem_append.mp m with m | m
   ·exact Xx (yN t n l p mk lv s ow (by omega) ok.1 hw (by omega) hp1 hm (by omega) (by omega)) (λz=>yN t n r (p+1) mk lv s ow (by omega) ok.2 hw (by omega) (by omega) hm (by omega) (by omega)) (λz=>yN t n r p mk lv (s+1) ow (by omega) ok.2 hw (by omega) hp1 hm (by omega) (by omega)) (Xp hp1 (by omega) m16) (Yn (by omega) (by omega) m16) tv m
   ·refine one ?_ tv m
    split
    ·exact g_op hp1 hp1 (by omega) m16
    ·exact g_op hp1 (by omega) hp1 m16
  | cho t' l r =>
   have e1:zF T (.cho t' l r)=zF T t'+zF T l+zF T r+1:=rfl;have e2:sN T (.cho t' l r)=max (sN T t') (max (sN T l) (1+sN T r)):=rfl;have e3:cD T (.cho t' l r)=max (cD T t') (max (cD T l) (cD T r)+1):=rfl;have r1:=sN_pos t.p r;have p2:p+2<=se:=by omega
   intro tv m;rcases List.mem_append.mp m with m | m
   ·rcases List.mem_append.mp m with m | m
    ·rcases List.mem_append.mp m with m | m
     ·exact yN t n t' p mk lv s ow (by omega) ok.1 hw (by omega) hp1 hm (by omega) (by omega) tv m
     ·rcases List.mem_cons.mp m with rfl | m
      ·exact XV hp1 (by omega) (by omega) m16
      ·exact one (g_other hp1 (by omega) (by omega) m16) tv m
    ·exact Xx (yN t n l p (2+2*lv) (lv+1) s ow (by omega) ok.2.1 hw (by omega) hp1 (by omega) (by omega) (by omega)) (λz=>yN t n r (p+1) (3+2*lv) (lv+1) s ow (by omega) ok.2.2 hw (by omega) (by omega) (by omega) (by omega) (by omega)) (λz=>yN t n r p (3+2*lv) (lv+1) (s+1) ow (by omega) ok.2.2 hw (by omega) hp1 (by omega) (by omega) (by omega)) (Xp hp1 (by omega) (by omega)) (Yn (by omega) (by omega) (by omega)) tv m
   ·refine one ?_ tv m
    split
    ·exact g_pick hp1 hp1 (by omega) (by omega) m16
    ·exact g_pick hp1 (by omega) hp1 (by omega) m16
  | call a hs' =>
   obtain ⟨⟨a0,a1,a2⟩,oks⟩:=ok;have e1:zF T (.call a hs')=zFs T hs'+T.z a+1:=rfl;have e2:sN T (.call a hs')=sNs T (T.s a) hs':=rfl;have e3:cD T (.call a hs')=cDs T (T.d a) hs':=rfl;have g2:=sNs_ge (T:=T) (m:=T.s a) hs';have g3:=cDs_ge (T:=T) (m:=T.d a) hs';have ts:=t.s a a0 a1;have tz:=t.z a a0 a1;have td:=t.d a a0 a1;have lz:=Yg T hs'
   have key:∀ (hs':F2.Fms) (s m d:Nat),zFs T hs'<=n->FOks nr fs ow.length hs'->p+min 2 (sNs T m hs')<=se->lv+cDs T d hs'<=7->s+zFs T hs'<=60->∀ tv∈Za (λh s'=>mkC lens fs T se n h p mk lv s' ow) p mk hs' s,Good se nr tv:=by
    intro hs'
    induction hs' using F2.Fms.rec (motive_1:=λ_=>True) with
    | nil=>exact λ_ _ _ _ _ _ _ _ _ m=>nomatch m
    | cons g r _ ih =>
     intro s m d hz ok hp hl hs tv mm;have e1:zFs T (.cons g r)=zF T g+zFs T r:=rfl;have e2:sNs T m (.cons g r)=max (sN T g) (sNs T m r):=rfl;have e3:cDs T d (.cons g r)=max (cD T g) (cDs T d r):=rfl;have:=xE T g;rcases List.mem_append.mp mm with mm | mm
     ·rcases List.mem_append.mp mm with mm | mm
      ·exact yN t n g p mk lv s ow (by omega) ok.1 hw (by omega) hp1 hm (by omega) (by omega) tv mm
      ·exact one (Xp hp1 (by omega) m16) tv mm
     ·exact ih (s+1) m d (by omega) ok.2 (by omega) (by omega) (by omega) tv mm
    | _=>trivial
   intro tv m;rcases List.mem_append.mp m with m | m
   ·exact key hs' s (T.s a) (T.d a) (by omega) oks (by omega) (by omega) (by omega) tv m
   ·refine yN t n (F2.bodyOf fs a) p mk lv (s+hs'.len) (slots s hs'.len) (by omega) (by rw [ZX,a2];exact t.o a a0 a1) (λx hx=>by have:=slots_lt hx;omega) (by omega) hp1 hm (by omega) (by omega) tv m
def Fl:F2.Fms->List F2.Fm
 | .nil=>[]
 | .cons f r=>f::Fl r
theorem Zs:∀ hs:F2.Fms,(Fl hs).length=hs.len
 | .nil=>rfl
 | .cons f r=>by show (Fl r).length+1=r.len+1;rw [Zs r]
theorem YC {c:F2.Cs} {H:Hp}:∀ {hs:F2.Fms} {ys:Jf} {i:Nat} {y:Ad},F2.FormsAt c H hs ys->ys[i]?=some y->∃ f,(Fl hs)[i]?=some f/\F2.FormAt c H f y
 | .nil,_,_,_,h,e=>by cases (show _=[] from h);cases e
 | .cons f r,_,i,y,h,e=>by
  obtain ⟨y',t,rfl,a,b⟩:=h
  cases i with
  | zero=>cases e;exact ⟨f,rfl,a⟩
  | succ i=>exact YC (i:=i) b e
theorem mem_Fl {T:Tb} {nr ow:Nat} {fs:List F2.Fn}:∀ {hs:F2.Fms} {f:F2.Fm},f∈Fl hs->FOks nr fs ow hs->FOk nr fs ow f/\zF T f<=zFs T hs
 | .cons g r,f,m,ok=>by
  have e:zFs T (.cons g r)=zF T g+zFs T r:=rfl;rcases List.mem_cons.mp m with rfl | m
  ·exact ⟨ok.1,by omega⟩
  ·have:=mem_Fl (T:=T) m ok.2
   exact ⟨this.1,by omega⟩
theorem sNs_max {T:Tb} {m:Nat}:∀ hs:F2.Fms,sNs T m hs∈(Fl hs).map (sN T)++[m]/\∀ v∈(Fl hs).map (sN T)++[m],v<=sNs T m hs
 | .nil=>⟨List.mem_singleton.mpr rfl,λv h=>by cases List.mem_singleton.mp h;exact Nat.le_refl _⟩
 | .cons f r=>by
  obtain ⟨a,b⟩:=sNs_max (T:=T) (m:=m) r;have e:sNs T m (.cons f r)=max (sN T f) (sNs T m r):=rfl;refine ⟨?_,λv h=>?_⟩
  ·show _∈sN T f::((Fl r).map (sN T)++[m])
   by_cases z:sN T f<=sNs T m r
   ·rw [e,Nat.max_eq_right z];exact q9x _ a
   ·rw [e,Nat.max_eq_left (by omega)];exact q9y
  ·rcases List.mem_cons.mp (show v∈sN T f::((Fl r).map (sN T)++[m]) from h) with rfl | h
   ·omega
   ·have:=b v h;omega
structure Fx where
 nr:Nat
 fs:List F2.Fn
 T:Tb
 ok:TabOk nr fs T
structure Mk1 (d:Fx) (ow n:Nat) (F:F2.Fm):Prop where
 o:FOk d.nr d.fs ow F
 z:zF d.T F<=n
structure KF (K:Fg) (C:Ad):Prop where
 cl:Cls K C
 k1:PySem.W.findIn K (.ref C) "__class__"=some (some (.builtin "object.__class__"))
 k2:PySem.W.specialIn K (.builtin "object.__class__") "__get__"=some (some (.builtin "getset_descriptor.__get__"))
 k3:PySem.W.takesIn K (.builtin "object.__class__")=some true
 k4:PySem.W.mroIn K C (.type "object")=some true
def KF.ty {K:Fg} {C:Ad} (s:KF K C) {H:Hp} {x dx:Ad} {fl:List (Str×V)} (h:H x=some (.ins C dx fl)):TyX K H (.ref x) (.ref C):=.inl (.ins h s.cl s.k1 s.k2 s.k3 s.k4)
structure FormG (mg:J0) (c:F2.Cs):Prop where
 at':mg "At"=some (.ref c.at')
 pair:mg "Pair"=some (.ref c.pair)
 cho:mg "Choice"=some (.ref c.cho)
 call:mg "Call"=some (.ref c.call)
 num:mg "Number"=some (.ref c.num)
 here:mg "Here"=some (.ref c.here)
 cell:mg "Cell"=some (.ref c.cell)
 shi:mg "Shifted"=some (.ref c.shi)
 loc:mg "Local"=some (.ref c.loc)
abbrev isK (K:Fg) (C D:Ad) (b:Bool):Prop:=PySem.W.kitOne K (.ref C) (.ref D)=some b
structure ClsK (K:Fg) (c:F2.Cs) (C:Ad) (a p o u n h e s:Bool):Prop where
 k:KF K C
 a:isK K C c.at' a
 p:isK K C c.pair p
 o:isK K C c.cho o
 u:isK K C c.call u
 n:isK K C c.num n
 h:isK K C c.here h
 e:isK K C c.cell e
 s:isK K C c.shi s
def isA:F2.Fm->Bool
 | .at' _ _=>true
 | _=>false
def isP:F2.Fm->Bool
 | .pair _ _ _=>true
 | _=>false
def isO:F2.Fm->Bool
 | .cho _ _ _=>true
 | _=>false
def isU:F2.Fm->Bool
 | .call _ _=>true
 | _=>false
def isN:F2.Fm->Bool
 | .num _=>true
 | _=>false
def isH:F2.Fm->Bool
 | .here=>true
 | _=>false
def isE:F2.Fm->Bool
 | .cell _=>true
 | _=>false
def isS:F2.Fm->Bool
 | .shi _ _ _=>true
 | _=>false
def clsF (c:F2.Cs):F2.Fm->Ad
 | .num _=>c.num
 | .here=>c.here
 | .cell _=>c.cell
 | .shi _ _ _=>c.shi
 | .loc _=>c.loc
 | .at' _ _=>c.at'
 | .pair _ _ _=>c.pair
 | .cho _ _ _=>c.cho
 | .call _ _=>c.call
structure FormK (K:Fg) (c:F2.Cs):Prop where
 num:ClsK K c c.num false false false false true false false false
 n1:NoAttr K c.num "number"
 cell:ClsK K c c.cell false false false false false false true false
 c1:NoAttr K c.cell "row"
 here:ClsK K c c.here false false false false false true false false
 pair:ClsK K c c.pair false true false false false false false false
 p1:NoAttr K c.pair "sign"
 p2:NoAttr K c.pair "left"
 p3:NoAttr K c.pair "right"
 cho:ClsK K c c.cho false false true false false false false false
 o1:NoAttr K c.cho "test"
 o2:NoAttr K c.cho "left"
 o3:NoAttr K c.cho "right"
 at':ClsK K c c.at' true false false false false false false false
 a1:NoAttr K c.at' "row"
 a2:NoAttr K c.at' "place"
 shi:ClsK K c c.shi false false false false false false false true
 s1:NoAttr K c.shi "row"
 s2:NoAttr K c.shi "by"
 s3:NoAttr K c.shi "other"
 loc:ClsK K c c.loc false false false false false false false false
 l1:NoAttr K c.loc "at"
 call:ClsK K c c.call false false false true false false false false
 u1:NoAttr K c.call "at"
 u2:NoAttr K c.call "handed"
theorem FormK.of {K:Fg} {c:F2.Cs} (L:FormK K c):∀ F:F2.Fm,ClsK K c (clsF c F) (isA F) (isP F) (isO F) (isU F) (isN F) (isH F) (isE F) (isS F)
 | .num _=>L.num
 | .cell _=>L.cell
 | .here=>L.here
 | .pair _ _ _=>L.pair
 | .cho _ _ _=>L.cho
 | .at' _ _=>L.at'
 | .shi _ _ _=>L.shi
 | .loc _=>L.loc
 | .call _ _=>L.call
theorem YD {c:F2.Cs} {H:Hp} {x:Ad}:∀ {F:F2.Fm},F2.FormAt c H F x->∃ dx fl,H x=some (.ins (clsF c F) dx fl)
 | .num _,⟨dx,h⟩=>⟨dx,_,h⟩
 | .cell _,⟨dx,h⟩=>⟨dx,_,h⟩
 | .here,⟨dx,h⟩=>⟨dx,_,h⟩
 | .shi _ _ _,⟨dx,h⟩=>⟨dx,_,h⟩
 | .loc _,⟨dx,h⟩=>⟨dx,_,h⟩
 | .pair _ _ _,⟨dx,_,_,h,_⟩=>⟨dx,_,h⟩
 | .cho _ _ _,⟨dx,_,_,_,h,_⟩=>⟨dx,_,h⟩
 | .at' _ _,⟨dx,_,h,_⟩=>⟨dx,_,h⟩
 | .call _ _,⟨dx,_,_,h,_⟩=>⟨dx,_,h⟩
def szU (n:Nat) (h:n<=1000:=by decide):n<=sizeLine:=Nat.le_trans h (by decide)
def Xl (a c:Nat):(if (c:Int) > (a:Int) then (c:Int) else a)=((max a c:Nat):Int):=by split <;> omega
def ZM {α:Type} {f:α->V} {l:List α} {i:Nat} {x:V} (h:(l.map f)[i]?=some x):∃ a,l[i]?=some a/\x=f a:=by
 rw [List.getElem?_map] at h;obtain ⟨a,e,z⟩:=Option.map_eq_some_iff.mp h;exact ⟨a,e,z.symm⟩
def fun_at {c:F2.Cs} {K:Fg} {H:Hp} {f:Ad} {fs:List F2.Fn} (h:F2.FunsAt c K H f fs) {a:Int} (a0:0<=a) (a1:a.toNat<fs.length):∃ (xs:Jm) (t b:Ad) (n:Int),SqL K H f xs/\atI xs a=some (.ref t)/\SqT K H t [.int n,.ref b]/\F2.FormAt c H (F2.bodyOf fs a) b:=by
 obtain ⟨ts,q,l,k⟩:=h.ex;obtain ⟨b,e,g⟩:=k a.toNat a1;refine ⟨_,ts.getD a.toNat 0,b,_,q,?_,e,g⟩;obtain ⟨n,rfl⟩:∃ n:Nat,a=n:=⟨a.toNat,by omega⟩;rw [Int.toNat_natCast] at *;refine zE ?_;rw [List.getElem?_map,List.getElem?_eq_getElem (by omega),q0z,List.getElem?_eq_getElem (by omega)];rfl
def ok_no {x:Str} {st:Stmt} {N ps:Je} {sp:Sp} (d:zC K mg x st ps) (S:FnScope N ps (zm st)) (h:∀ vs H Q E,¬ sp vs H Q E):Ok P w K mg base CX0 1 x ps sp:=by
 obtain ⟨g,fd,m,F,b⟩:=d;exact ⟨g,fd,m,F.kp,b,F.ok S (λ_ _ _ _ z=>(h _ _ _ _ z).elim) λ_ _ _ _ _ _ _ _ _ z=>(h _ _ _ _ z).elim⟩
inductive spSF (c:F2.Cs) (K:Fg) (n:Nat) (vs:Jm) (H:Hp) (Q:VK) (_:XK):Prop
 | mk (d:Fx) (ow:Nat) (x fu:Ad) (F:F2.Fm) (_:vs=[.ref x,.ref fu]) (_:F2.FormAt c H F x) (_:F2.FunsAt c K H fu d.fs) (_:Mk1 d ow n F) (_:∀ H',Same H H'->Q (.int (sN d.T F)) H')
inductive spS2 (c:F2.Cs) (K:Fg) (n:Nat) (vs:Jm) (H:Hp) (Q:VK) (_:XK):Prop
 | mk (d:Fx) (ow:Nat) (x y fu:Ad) (F G:F2.Fm) (_:vs=[.ref x,.ref y,.ref fu]) (_:F2.FormAt c H F x) (_:F2.FormAt c H G y) (_:F2.FunsAt c K H fu d.fs) (_:Mk1 d ow n F) (_:Mk1 d ow n G) (_:∀ H',Same H H'->Q (.int (max (sN d.T F) (1+sN d.T G):Nat)) H')
inductive spSC (c:F2.Cs) (K:Fg) (n:Nat) (vs:Jm) (H:Hp) (Q:VK) (_:XK):Prop
 | mk (d:Fx) (ow:Nat) (x fu:Ad) (a:Int) (hs:F2.Fms) (_:vs=[.ref x,.ref fu]) (_:F2.FormAt c H (.call a hs) x) (_:F2.FunsAt c K H fu d.fs) (_:FOk d.nr d.fs ow (.call a hs)) (_:zFs d.T hs<=n) (_:d.T.z a<=n) (_:n<=400) (_:∀ H',Same H H'->Q (.int (sNs d.T (d.T.s a) hs)) H')
def ok_s2 {c:F2.Cs} {n:Nat} (d:zC K mg "seats_for_two" yI ["first","second","functions"]) (hmax:mg "max"=none) (SF:Ok P w K mg base CX0 (2*n+2) "seats_for" ["form","functions"] (spSF c K n)):Ok P w K mg base CX0 (2*n+3) "seats_for_two" ["first","second","functions"] (spS2 c K n):=by
 obtain ⟨g,fd,m,F,b⟩:=d;refine ⟨g,fd,m,F.kp,b,F.ok sc_seats_for_two (by rintro vs H Q E ⟨_,_,_,_,_,_,_,e,_⟩;rw [e];rfl) λcdv A outer s H vs Q E hr h=>?_⟩;obtain ⟨d,ow,x,y,fu,F,G,rfl,hx,hy,hf,mF,mG,k⟩:=h;have nd:=sc_seats_for_two.nd;have hrS:=hr;refine ⟨_,(zf (zj (zw (Z5 rfl) (by rfl) hmax PyProof.Rows.boot_max (zb (zG SF hrS (by rfl) zJ (zb (pv 0) (zb (pv 2) ze))) (zb (zr zZ zd (zG SF hrS (by rfl) zJ (zb (pv 1) (zb (pv 2) ze)))) ze))))),?_⟩;refine ⟨_,rfl,_,rfl,d,ow,x,fu,F,rfl,hx,hf,mF,λH1 s1=>?_⟩;refine ⟨_,rfl,_,rfl,d,ow,y,fu,G,rfl,hy.same s1,hf.same s1,mG,λH2 s2=>?_⟩;refine ⟨_,_,rfl,rfl,_,_,rfl,?_⟩;have e:(1:Int)+(sN d.T G:Int)=((1+sN d.T G:Nat):Int):=by omega
 show Q (.int (if (1:Int)+(sN d.T G:Int) > (sN d.T F:Int) then (1:Int)+(sN d.T G:Int) else (sN d.T F:Int))) H2;rw [e,Xl];exact k H2 (s1.trans s2)
def ok_sc {c:F2.Cs} {n:Nat} (d:zC K mg "seats_for_call" yC ["form","functions"]) (hmax:mg "max"=none) (L:FormK K c) (SF:Ok P w K mg base CX0 (2*n+2) "seats_for" ["form","functions"] (spSF c K n)):Ok P w K mg base CX0 (2*n+3) "seats_for_call" ["form","functions"] (spSC c K n):=by
 obtain ⟨g,fd,m,F,b⟩:=d;refine ⟨g,fd,m,F.kp,b,F.ok sc_seats_for_call (by rintro vs H Q E ⟨_,_,_,_,_,_,e,_⟩;rw [e];rfl) λcdv A outer s H vs Q E hr h=>?_⟩;obtain ⟨d,ow,x,fu,a,hs,rfl,hx,hf,ok,z1,z2,n4,k⟩:=h;have nd:=sc_seats_for_call.nd;have hrS:=hr;obtain ⟨dx,l,ys,ex,el,hys⟩:=hx;obtain ⟨⟨a0,a1,a2⟩,oks⟩:=ok;obtain ⟨xs,tt,bb,nn,qf,ea,et,hb⟩:=fun_at hf a0 a1;refine ⟨_,(zc (zA (i:=2) nd rfl (Or.inl rfl) (zr xb (zq (pv 0) rfl) (zQ (zb (zP yj (zP zY (pv 1) (zq (pv 0) rfl) (λ_ _=>rfl)) zd (λ_ _=>rfl)) ze))))
   (zf (zj (zw (call_maxM rfl) (by rfl) hmax PyProof.Rows.boot_max (zb (XJ ["part","functions"] [none,some 1] rfl rfl rfl (Zl (pv 2)) (λs3 H3 fp=>⟨xD (i:=0) (Jo ["part","functions"]) rfl (Or.inl rfl),(zG SF hrS (by rfl) zJ (zb (pv 0) (zb (pv 1) ze)))⟩)) ze))))),?_⟩
 refine ⟨_,rfl,x,_,dx,_,.ref l,rfl,ex,L.call.k.cl,L.u2,rfl,_,rfl,_,rfl,x,_,dx,_,.int a,rfl,ex,L.call.k.cl,L.u1,rfl,fu,_,_,_,rfl,rfl,qf,ea,tt,_,_,_,rfl,rfl,et,zE (j:=1) rfl,szU 1,λl1 nl1=>?_⟩;have sA:=Same.refl H;generalize hX:upd _ _ _=H1;obtain ⟨sX,el1⟩:=yi hX nl1;replace sA:=sA.trans sX;replace el:=sX _ _ el;clear hX sX;have yl:ys.length=hs.len:=hys.len;have zl:=Yg d.T hs;refine ⟨l,l1,_,_,rfl,rfl,el,el1,(by rw [Jh];exact Nat.le_trans (show _<=401 by show ys.length+1<=401;omega) (szU 401)),λl2 nl2=>?_⟩;generalize hX:upd _ _ _=H2;obtain ⟨sX,el2⟩:=yi hX nl2;replace sA:=sA.trans sX;clear hX sX;have e2:ys.map V.ref++[V.ref bb]=(ys++[bb]).map V.ref:=by rw [Jj];rfl
 rw [e2] at el2;refine ⟨_,rfl,l2,rfl,⟨_,SqL.of el2⟩,_,rfl,λD nD=>?_⟩;have tb:=d.ok.z a a0 a1;let ns:List Nat:=(Fl hs).map (sN d.T)++[d.T.s a];have nl:ns.length=ys.length+1:=by show ((Fl hs).map (sN d.T)++[d.T.s a]).length=_;rw [Ji,Jh,Zs,yl];rfl
 refine YY (K:=K) (a:=l2) (D:=D) (xs:=(ys++[bb]).map V.ref) (λi σ J=>∃ u B,σ=[u,rq fu]/\Same H2 B/\Hd B [(D,.lst (((ns.take i).map λv:Nat=>(v:Int)).map V.int))] J) ⟨none,H2,rfl,Same.refl _,Hd.base.new nD⟩ (λi σ J _ ⟨_,B,_,s,h⟩=>SqL.of (h.sm _ _ (s _ _ el2))) ?_ ?_
 ·rintro i y σ J hi ⟨u,B,rfl,sB,h⟩
  obtain ⟨t,et',rfl⟩:=ZM hi;have il:i<ys.length+1:=by have:=(List.getElem?_eq_some_iff.mp et').1;rw [Ji] at this;exact this
  have sJ:=(sA.trans sB).trans h.sm
  obtain ⟨f,ef,mf,hf'⟩:∃ f,ns[i]?=some (sN d.T f)/\(∃ ow',Mk1 d ow' n f)/\F2.FormAt c H f t:=by
   by_cases z:i<ys.length
   ·rw [x1y z] at et'
    obtain ⟨f,ef,hf'⟩:=YC hys et';have:=mem_Fl (T:=d.T) (List.mem_of_getElem? ef) oks;refine ⟨f,?_,⟨ow,this.1,by omega⟩,hf'⟩;show ((Fl hs).map (sN d.T)++[d.T.s a])[i]?=_;rw [x1y (by rw [Jh,Zs];omega),List.getElem?_map,ef];rfl
   ·have e:i=ys.length:=by omega
    subst e;rw [List.getElem?_append_right (Nat.le_refl _),Nat.sub_self] at et';cases et';refine ⟨F2.bodyOf d.fs a,?_,⟨_,d.ok.o a a0 a1,by omega⟩,hb⟩;show ((Fl hs).map (sN d.T)++[d.T.s a])[ys.length]?=_;rw [List.getElem?_append_right (by rw [Jh,Zs];omega),Jh,Zs,yl,Nat.sub_self,d.ok.s a a0 a1];rfl
  obtain ⟨ow',mf⟩:=mf;refine ⟨_,rfl,_,rfl,d,ow',t,fu,f,rfl,hf'.same sJ,hf.same sJ,mf,λJ2 s2=>?_⟩;obtain ⟨B2,sB2,h2,_⟩:=h.over s2;refine ⟨_,h2.get 0 rfl,(by rw [Jh,Jh,List.length_take];exact Nat.lt_of_le_of_lt (show _<=401 by omega) (by decide)),some (.ref t),B2,rfl,sB.trans sB2,?_⟩;rw [List.take_add_one,ef,Jj,Jj];exact h2.put 0 rfl
 rintro σ J ⟨u,B,rfl,sB,h⟩;rw [Jh,Ji,show ys.length+[bb].length=ns.length by rw [nl];rfl,List.take_length] at h;refine ⟨D,ns.map λv:Nat=>(v:Int),rfl,h.lst 0 rfl,(by rw [Jh];omega),λmm m1 m2=>?_⟩;obtain ⟨q1,q2⟩:=sNs_max (T:=d.T) (m:=d.T.s a) hs
 have em:mm=((sNs d.T (d.T.s a) hs:Nat):Int):=by
  obtain ⟨v,hv,rfl⟩:=List.mem_map.mp m1;have b1:=q2 v hv;have b2:=m2 _ (List.mem_map_of_mem q1);show (v:Int)=_;have b2:((sNs d.T (d.T.s a) hs:Nat):Int)<=(v:Int):=b2;omega
 rw [em];exact k J ((sA.trans sB).trans h.sm)
def ok_sf_s {c:F2.Cs} {n:Nat} (n4:n<=400) (d:zC K mg "seats_for" xo ["form","functions"]) (hisi:mg "isinstance"=none) (hmax:mg "max"=none) (G:FormG mg c) (L:FormK K c) (SF:Ok P w K mg base CX0 (2*n+3) "seats_for" ["form","functions"] (spSF c K n)) (S2:Ok P w K mg base CX0 (2*n+3) "seats_for_two" ["first","second","functions"] (spS2 c K n)) (SC:Ok P w K mg base CX0 (2*n+3) "seats_for_call" ["form","functions"] (spSC c K n)):Ok P w K mg base CX0 (2*n+4) "seats_for" ["form","functions"] (spSF c K (n+1)):=by
 obtain ⟨g,fd,m,F,b⟩:=d;refine ⟨g,fd,m,F.kp,b,F.ok sc_seats_for (by rintro vs H Q E ⟨_,_,_,_,_,e,_⟩;rw [e];rfl) λcdv A outer s H vs Q E hr h=>?_⟩;obtain ⟨d,ow,x,fu,F,rfl,hx,hf,mF,k⟩:=h;have nd:=sc_seats_for.nd;have hrS:=hr;have s:=L.of F;obtain ⟨dx,fl,ex⟩:=YD hx;refine ⟨_,(zc (zu (yb (zw zB (by rfl) hisi PyProof.Rows.boot_isinstance (zb (pv 0) (zb (yw G.at') ze)))) (zf (zj (zG SF hrS (by rfl) zJ (zb (zq (pv 0) rfl) (zb (pv 1) ze))))) zk)
   (zc (zu (yb (zw zB (by rfl) hisi PyProof.Rows.boot_isinstance (zb (pv 0) (zb (yw G.pair) ze)))) (zf (zj (zG S2 hrS (by rfl) zJ (zb (zq (pv 0) rfl) (zb (zq (pv 0) rfl) (zb (pv 1) ze)))))) zk)
   (zc (zu (yb (zw zB (by rfl) hisi PyProof.Rows.boot_isinstance (zb (pv 0) (zb (yw G.cho) ze)))) (zf (zj (zw (Z5 rfl) (by rfl) hmax PyProof.Rows.boot_max (zb (zG SF hrS (by rfl) zJ (zb (zq (pv 0) rfl) (zb (pv 1) ze))) (zb (zG S2 hrS (by rfl) zJ (zb (zq (pv 0) rfl) (zb (zq (pv 0) rfl) (zb (pv 1) ze)))) ze))))) zk)
   (zc (zu (yb (zw zB (by rfl) hisi PyProof.Rows.boot_isinstance (zb (pv 0) (zb (yw G.call) ze)))) (zf (zj (zG SC hrS (by rfl) zJ (zb (pv 0) (zb (pv 1) ze))))) zk)
   (zf (zj zd)))))),?_⟩
 refine ⟨_,rfl,_,_,.ref c.at',_,isA F,rfl,rfl,(λu r=>r),s.k.ty ex,s.a,_,rfl,?_⟩;refine z7 (λz=>?_) (λz=>?_)
 ·cases F with
  | at' r p =>
   obtain ⟨dx,y,ex,hy⟩:=hx;have zz:zF d.T p+1<=n+1:=mF.z;exact ⟨_,rfl,x,_,dx,_,.ref y,rfl,ex,L.at'.k.cl,L.a2,rfl,_,rfl,d,ow,y,fu,p,rfl,hy,hf,⟨mF.o.2,by omega⟩,k⟩
  | _=>exact absurd z Bool.noConfusion
 refine ⟨_,rfl,_,_,.ref c.pair,_,isP F,rfl,rfl,(λu r=>r),s.k.ty ex,s.p,_,rfl,?_⟩;refine z7 (λz=>?_) (λz=>?_)
 ·cases F with
  | pair sg l r =>
   obtain ⟨dx,y,y2,ex,hy,hy2⟩:=hx;have zz:zF d.T l+zF d.T r+1<=n+1:=mF.z;exact ⟨_,rfl,x,_,dx,_,.ref y,rfl,ex,L.pair.k.cl,L.p2,rfl,_,rfl,x,_,dx,_,.ref y2,rfl,ex,L.pair.k.cl,L.p3,rfl,_,rfl,d,ow,y,y2,fu,l,r,rfl,hy,hy2,hf,⟨mF.o.1,by omega⟩,⟨mF.o.2,by omega⟩,k⟩
  | _=>exact absurd z Bool.noConfusion
 refine ⟨_,rfl,_,_,.ref c.cho,_,isO F,rfl,rfl,(λu r=>r),s.k.ty ex,s.o,_,rfl,?_⟩;refine z7 (λz=>?_) (λz=>?_)
 ·cases F with
  | cho t l r =>
   obtain ⟨dx,y0,y,y2,ex,hy0,hy,hy2⟩:=hx;have zz:zF d.T t+zF d.T l+zF d.T r+1<=n+1:=mF.z;refine ⟨_,rfl,x,_,dx,_,.ref y0,rfl,ex,L.cho.k.cl,L.o1,rfl,_,rfl,d,ow,y0,fu,t,rfl,hy0,hf,⟨mF.o.1,by omega⟩,λH1 s1=>?_⟩;refine ⟨_,rfl,x,_,dx,_,.ref y,rfl,s1 _ _ ex,L.cho.k.cl,L.o2,rfl,_,rfl,x,_,dx,_,.ref y2,rfl,s1 _ _ ex,L.cho.k.cl,L.o3,rfl,_,rfl,d,ow,y,y2,fu,l,r,rfl,hy.same s1,hy2.same s1,hf.same s1,⟨mF.o.2.1,by omega⟩,⟨mF.o.2.2,by omega⟩,λH2 s2=>?_⟩;refine ⟨_,_,rfl,?_⟩;rw [Xl];exact k H2 (s1.trans s2)
  | _=>exact absurd z Bool.noConfusion
 refine ⟨_,rfl,_,_,.ref c.call,_,isU F,rfl,rfl,(λu r=>r),s.k.ty ex,s.u,_,rfl,?_⟩;refine z7 (λz=>?_) (λz=>?_)
 ·cases F with
  | call a hs =>
   have zz:zFs d.T hs+d.T.z a+1<=n+1:=mF.z;exact ⟨_,rfl,_,rfl,d,ow,x,fu,a,hs,rfl,hx,hf,mF.o,by omega,by omega,n4,k⟩
  | _=>exact absurd z Bool.noConfusion
 have e:sN d.T F=1:=by
  cases F with
  | at' r p=>exact absurd rfl ‹¬isA (.at' r p)=true›
  | pair sg l r=>exact absurd rfl ‹¬isP (.pair sg l r)=true›
  | cho t l r=>exact absurd rfl ‹¬isO (.cho t l r)=true›
  | call a hs=>exact absurd rfl ‹¬isU (.call a hs)=true›
  | _=>rfl
 rw [e] at k;exact k H (Same.refl _)
def sf_no {c:F2.Cs} {vs:Jm} {H:Hp} {Q:VK} {E:XK}:¬ spSF c K 0 vs H Q E:=λ⟨d,_,_,_,F,_,_,_,m,_⟩=>by have:=m.z;have:=xE d.T F;omega
theorem ok_sf {c:F2.Cs} (d:zC K mg "seats_for" xo ["form","functions"]) (d2:zC K mg "seats_for_two" yI ["first","second","functions"]) (dc:zC K mg "seats_for_call" yC ["form","functions"]) (hisi:mg "isinstance"=none) (hmax:mg "max"=none) (G:FormG mg c) (L:FormK K c):∀ n:Nat,n<=400->Ok P w K mg base CX0 (2*n+2) "seats_for" ["form","functions"] (spSF c K n)
 | 0,_=>(ok_no d sc_seats_for λ_ _ _ _=>sf_no).mono (by omega)
 | n+1,n4=>by
  have h:=ok_sf d d2 dc hisi hmax G L n (by omega);exact ok_sf_s (by omega) d hisi hmax G L (h.mono (by omega)) (ok_s2 d2 hmax h) (ok_sc dc hmax L h)
structure QCs where
 ma:Ad
 ai:Ad
 let_:Ad
 put:Ad
 fold:Ad
 run:Ad
 till:Ad
 pr:Ad
structure MakerC (K:Fg) (C:Ad):Prop where
 c:Cls K C
 n0:NoAttr K C "lengths"
 n1:NoAttr K C "functions"
 n2:NoAttr K C "seats"
 n3:NoAttr K C "code"
 n4:NoAttr K C "free_slot"
structure AimC (K:Fg) (C:Ad):Prop where
 c:Cls K C
 n0:NoAttr K C "seat"
 n1:NoAttr K C "mask"
 n2:NoAttr K C "level"
 n3:NoAttr K C "own"
structure AimG (mg:J0) (q:QCs):Prop where
 ma:mg "Maker"=some (.ref q.ma)
 ai:mg "Aim"=some (.ref q.ai)
structure Mg where
 m:Ad
 dm:Ad
 le:Ad
 fu:Ad
 cd:Ad
 se:Nat
 lens:Ja
 d:Fx
structure MgAt (c:F2.Cs) (K:Fg) (B:Hp) (g:Mg):Prop where
 le:SqL K B g.le (g.lens.map V.int)
 fu:F2.FunsAt c K B g.fu g.d.fs
 nr:g.lens.length=g.d.nr
def MgAt.same {c:F2.Cs} {K:Fg} {B B':Hp} {g:Mg} (h:MgAt c K B g) (s:Same B B'):MgAt c K B' g:=⟨zD h.le s,h.fu.same s,h.nr⟩
abbrev Mg.code (g:Mg) (n:Nat) (F:F2.Fm) (p mk lv s:Nat) (ow:List Nat):List (Jm):=mkC g.lens g.d.fs g.d.T g.se n F p mk lv s ow
def Mg.fl (g:Mg) (s:Nat):List (Str×V):=[("lengths",.ref g.le),("functions",.ref g.fu),("seats",.int g.se),("code",.ref g.cd),("free_slot",.int s)]
def aimFl (p mk lv:Nat) (ow:Ad):List (Str×V):=[("seat",.int p),("mask",.int mk),("level",.int lv),("own",.ref ow)]
abbrev MkAt (q:QCs) (B:Hp) (g:Mg) (s:Nat) (cs:Jf) (H:Hp):Prop:=Hd B [(g.cd,.lst (cs.map V.ref)),(g.m,.ins q.ma g.dm (g.fl s))] H
def iNs (l:List Nat):Jm:=l.map λn:Nat=>V.int (n:Int)
def AimAt (q:QCs) (K:Fg) (B:Hp) (a:Ad) (p mk lv:Nat) (ow:List Nat):Prop:=∃ da oa,B a=some (.ins q.ai da (aimFl p mk lv oa))/\SqL K B oa (iNs ow)
def AimAt.same {q:QCs} {K:Fg} {B B':Hp} {a:Ad} {p mk lv:Nat} {ow:List Nat} (h:AimAt q K B a p mk lv ow) (s:Same B B'):AimAt q K B' a p mk lv ow:=by
 obtain ⟨da,oa,e,l⟩:=h;exact ⟨da,oa,s _ _ e,zD l s⟩
structure CodeAt (B:Hp) (cs:Jf) (code:List (Jm)):Prop where
 n:cs.length=code.length
 t:∀ (i:Nat) a tv,cs[i]?=some a->code[i]?=some tv->B a=some (.tup tv)
def CodeAt.same {B B':Hp} {cs:Jf} {code:List (Jm)} (h:CodeAt B cs code) (s:Same B B'):CodeAt B' cs code:=⟨h.n,λi a tv x y=>s _ _ (h.t i a tv x y)⟩
def YF {B:Hp}:CodeAt B [] []:=⟨rfl,λi a tv x=>by cases x⟩
theorem zT {B:Hp} {t:Ad} {tv:Jm} (e:B t=some (.tup tv)):CodeAt B [t] [tv]:=⟨rfl,λi b v hx hy=>by
 match i,hx,hy with
 | 0,hx,hy=>cases hx;cases hy;exact e
 | i+1,hx,hy=>cases hx⟩
def zO {B:Hp} {a b:Jf} {c d:List (Jm)} (h1:CodeAt B a c) (h2:CodeAt B b d):CodeAt B (a++b) (c++d):=by
 refine ⟨by rw [Ji,Ji,h1.n,h2.n],λi x tv e f=>?_⟩;by_cases z:i<a.length
 ·rw [x1y z] at e
  rw [x1y (by rw [← h1.n];exact z)] at f;exact h1.t i x tv e f
 ·rw [List.getElem?_append_right (by omega)] at e
  rw [List.getElem?_append_right (by rw [← h1.n];omega),← h1.n] at f;exact h2.t _ x tv e f
def MkAt.row {q:QCs} {B:Hp} {g:Mg} {s:Nat} {t:Ad} {cs:Jf} {H:Hp} (h:MkAt q B g s cs H):MkAt q B g s (cs++[t]) (upd H g.cd (.lst (cs.map V.ref++[.ref t]))):=by
 have:=Hd.put (o':=.lst (cs.map V.ref++[.ref t])) h 0 rfl;show Hd B [(g.cd,.lst ((cs++[t]).map V.ref)),_] _;rw [Jj];exact this
def MkAt.free' {q:QCs} {B:Hp} {g:Mg} {s s':Nat} {cs:Jf} {H:Hp} (h:MkAt q B g s cs H):MkAt q B g s' cs (upd H g.m (.ins q.ma g.dm (g.fl s'))):=Hd.put h 1 rfl
def Hd.m {q:QCs} {B:Hp} {g:Mg} {s:Nat} {cs:Jf} {H:Hp} (h:MkAt q B g s cs H):H g.m=some (.ins q.ma g.dm (g.fl s)):=Hd.get h 1 rfl
def sz3 {n:Nat} (h:n<=3000):n<sizeLine:=Nat.lt_of_le_of_lt h (by decide)
inductive spCellStep (c:F2.Cs) (q:QCs) (K:Fg) (vs:Jm) (H:Hp) (Q:VK) (_:XK):Prop
 | mk (g:Mg) (x a da dx ow:Ad) (s p mk lv:Nat) (r:Int) (_:vs=[.ref g.m,.ref x,.ref a]) (_:H g.m=some (.ins q.ma g.dm (g.fl s))) (_:H a=some (.ins q.ai da (aimFl p mk lv ow))) (_:H x=some (.ins c.cell dx [("row",.int r)])) (_:SqL K H g.le (g.lens.map V.int)) (_:0<=r) (_:r.toNat<g.lens.length) (_:∀ t,H t=none->Q (.ref t) (upd H t (.tup (Y1 g.lens p mk r))))
def XN {c:F2.Cs} {q:QCs} (d:zC K mg "cell_step" xW ["maker","form","aim"]) (L:FormK K c) (MC:MakerC K q.ma) (AC:AimC K q.ai):Ok P w K mg base CX0 1 "cell_step" ["maker","form","aim"] (spCellStep c q K):=by
 obtain ⟨g,fd,m,F,b⟩:=d;refine ⟨g,fd,m,F.kp,b,F.ok sc_cell_step (by rintro vs H Q E ⟨_,_,_,_,_,_,_,_,_,_,_,e,_⟩;rw [e];rfl) λcdv A outer s H vs Q E hr h=>?_⟩;obtain ⟨g,x,a,da,dx,ow,s,p,mk,lv,r,rfl,hm,ha,hx,hl,r0,rl,k⟩:=h;have nd:=sc_cell_step.nd;refine ⟨_,(zc (zu (zi zx (zP zY (zq (pv 0) rfl) (zq (pv 1) rfl) (λ_ _=>rfl)) zd (zo _)) (zf (zj (zR (zb zh (zb (zq (pv 2) rfl) (zb (zq (pv 1) rfl) (zb (zq (pv 2) rfl) ze))))))) zk)
   (zf (zj (zR (zb zh (zb (zq (pv 2) rfl) (zb (zq (pv 1) rfl) (zb (zq (pv 2) rfl) ze)))))))),?_⟩
 refine ⟨_,rfl,g.m,_,g.dm,_,.ref g.le,rfl,hm,MC.c,MC.n0,rfl,_,rfl,x,_,dx,_,.int r,rfl,hx,L.cell.k.cl,L.c1,rfl,g.le,_,_,_,rfl,rfl,hl,xJ r.toNat rl (by omega),rfl,_,rfl,?_⟩;unfold Y1 at k;refine z7 (λz=>?_) (λz=>?_)
 ·rw [if_pos (V.int.inj (of_decide_eq_true z))] at k
  exact ⟨_,rfl,a,_,da,_,.int p,rfl,ha,AC.c,AC.n0,rfl,_,rfl,x,_,dx,_,.int r,rfl,hx,L.cell.k.cl,L.c1,rfl,_,rfl,a,_,da,_,.int mk,rfl,ha,AC.c,AC.n1,rfl,szU 4,λt nt=>k t nt⟩
 ·rw [if_neg (λy=>z (decide_eq_true (congrArg V.int y)))] at k
  exact ⟨_,rfl,a,_,da,_,.int p,rfl,ha,AC.c,AC.n0,rfl,_,rfl,x,_,dx,_,.int r,rfl,hx,L.cell.k.cl,L.c1,rfl,_,rfl,a,_,da,_,.int mk,rfl,ha,AC.c,AC.n1,rfl,szU 4,λt nt=>k t nt⟩
def Xn (F:F2.Fm):Bool:=!(isA F || isP F || isO F || isU F)
def leafC (lens:Ja) (p mk:Nat) (ow:List Nat):F2.Fm->Jm
 | .num v=>[.str "number",.int p,.int v,.int mk]
 | .here=>[.str "here",.int p,.int mk]
 | .cell r=>Y1 lens p mk r
 | .shi r d o=>[.str "shift",.int p,.int r,.int d,.int o,.int mk]
 | .loc a=>YI p (ow.getD a.toNat 0) mk
 | _=>[]
def leaf_code {g:Mg} {n p mk lv s:Nat} {ow:List Nat} {F:F2.Fm} (h:Xn F=true):g.code (n+1) F p mk lv s ow=[leafC g.lens p mk ow F]:=by
 cases F with
 | at' r f=>exact absurd h Bool.noConfusion
 | pair sg l r=>exact absurd h Bool.noConfusion
 | cho t l r=>exact absurd h Bool.noConfusion
 | call a hs=>exact absurd h Bool.noConfusion
 | _=>rfl
inductive spLeafStep (c:F2.Cs) (q:QCs) (K:Fg) (vs:Jm) (H:Hp) (Q:VK) (_:XK):Prop
 | mk (g:Mg) (x a:Ad) (s p mk lv:Nat) (ow:List Nat) (F:F2.Fm) (_:vs=[.ref g.m,.ref x,.ref a]) (_:H g.m=some (.ins q.ma g.dm (g.fl s))) (_:AimAt q K H a p mk lv ow) (_:F2.FormAt c H F x) (_:Xn F=true) (_:SqL K H g.le (g.lens.map V.int)) (_:FOk g.lens.length g.d.fs ow.length F) (_:∀ t,H t=none->Q (.ref t) (upd H t (.tup (leafC g.lens p mk ow F))))
def XM {c:F2.Cs} {q:QCs} (d:zC K mg "leaf_step" xN ["maker","form","aim"]) (hisi:mg "isinstance"=none) (G:FormG mg c) (L:FormK K c) (MC:MakerC K q.ma) (AC:AimC K q.ai) (CS:Ok P w K mg base CX0 1 "cell_step" ["maker","form","aim"] (spCellStep c q K)):Ok P w K mg base CX0 2 "leaf_step" ["maker","form","aim"] (spLeafStep c q K):=by
 obtain ⟨g,fd,m,F,b⟩:=d;refine ⟨g,fd,m,F.kp,b,F.ok sc_leaf_step (by rintro vs H Q E ⟨_,_,_,_,_,_,_,_,_,e,_⟩;rw [e];rfl) λcdv A outer s H vs Q E hr h=>?_⟩;obtain ⟨g,x,a,s,p,mk,lv,ow,F,rfl,hm,⟨da,oa,ha,hoa⟩,hx,lF,hl,ok,k⟩:=h;have nd:=sc_leaf_step.nd;have hr1:=hr;have s':=L.of F;obtain ⟨dx',fl',ex'⟩:=YD hx;refine ⟨_,(zc (zu (yb (zw zB (by rfl) hisi PyProof.Rows.boot_isinstance (zb (pv 1) (zb (yw G.num) ze)))) (zf (zj (zR (zb zh (zb (zq (pv 2) rfl) (zb (zq (pv 1) rfl) (zb (zq (pv 2) rfl) ze))))))) zk)
   (zc (zu (yb (zw zB (by rfl) hisi PyProof.Rows.boot_isinstance (zb (pv 1) (zb (yw G.here) ze)))) (zf (zj (zR (zb zh (zb (zq (pv 2) rfl) (zb (zq (pv 2) rfl) ze)))))) zk)
   (zc (zu (yb (zw zB (by rfl) hisi PyProof.Rows.boot_isinstance (zb (pv 1) (zb (yw G.cell) ze)))) (zf (zj (zG CS hr1 (by rfl) zJ (zb (pv 0) (zb (pv 1) (zb (pv 2) ze)))))) zk)
   (zc (zu (yb (zw zB (by rfl) hisi PyProof.Rows.boot_isinstance (zb (pv 1) (zb (yw G.shi) ze)))) (zf (zj (zR (zb zh (zb (zq (pv 2) rfl) (zb (zq (pv 1) rfl) (zb (zq (pv 1) rfl) (zb (zq (pv 1) rfl) (zb (zq (pv 2) rfl) ze))))))))) zk)
   (zf (zj (zR (zb zh (zb (zq (pv 2) rfl) (zb (zP zY (zq (pv 2) rfl) (zq (pv 1) rfl) (λ_ _=>rfl)) (zb (zq (pv 2) rfl) ze))))))))))),?_⟩
 refine ⟨_,rfl,_,_,.ref c.num,_,isN F,rfl,rfl,(λu r=>r),s'.k.ty ex',s'.n,_,rfl,?_⟩;refine z7 (λz=>?_) (λz1=>?_)
 ·cases F with
  | num n =>
   obtain ⟨dx,ex⟩:=hx;exact ⟨_,rfl,a,_,da,_,.int p,rfl,ha,AC.c,AC.n0,rfl,_,rfl,x,_,dx,_,.int n,rfl,ex,L.num.k.cl,L.n1,rfl,_,rfl,a,_,da,_,.int mk,rfl,ha,AC.c,AC.n1,rfl,szU 4,λt nt=>k t nt⟩
  | _=>exact absurd z Bool.noConfusion
 refine ⟨_,rfl,_,_,.ref c.here,_,isH F,rfl,rfl,(λu r=>r),s'.k.ty ex',s'.h,_,rfl,?_⟩;refine z7 (λz=>?_) (λz2=>?_)
 ·cases F with
  | here=>exact ⟨_,rfl,a,_,da,_,.int p,rfl,ha,AC.c,AC.n0,rfl,_,rfl,a,_,da,_,.int mk,rfl,ha,AC.c,AC.n1,rfl,szU 3,λt nt=>k t nt⟩
  | _=>exact absurd z Bool.noConfusion
 refine ⟨_,rfl,_,_,.ref c.cell,_,isE F,rfl,rfl,(λu r=>r),s'.k.ty ex',s'.e,_,rfl,?_⟩;refine z7 (λz=>?_) (λz3=>?_)
 ·cases F with
  | cell r =>
   obtain ⟨dx,ex⟩:=hx;exact ⟨_,rfl,_,rfl,_,rfl,g,x,a,da,dx,oa,s,p,mk,lv,r,rfl,hm,ha,ex,hl,ok.1,ok.2,λt nt=>k t nt⟩
  | _=>exact absurd z Bool.noConfusion
 refine ⟨_,rfl,_,_,.ref c.shi,_,isS F,rfl,rfl,(λu r=>r),s'.k.ty ex',s'.s,_,rfl,?_⟩;refine z7 (λz=>?_) (λz4=>?_)
 ·cases F with
  | shi r b o =>
   obtain ⟨dx,ex⟩:=hx;exact ⟨_,rfl,a,_,da,_,.int p,rfl,ha,AC.c,AC.n0,rfl,_,rfl,x,_,dx,_,.int r,rfl,ex,L.shi.k.cl,L.s1,rfl,_,rfl,x,_,dx,_,.int b,rfl,ex,L.shi.k.cl,L.s2,rfl,_,rfl,x,_,dx,_,.int o,rfl,ex,L.shi.k.cl,L.s3,rfl,_,rfl,a,_,da,_,.int mk,rfl,ha,AC.c,AC.n1,rfl,szU 6,λt nt=>k t nt⟩
  | _=>exact absurd z Bool.noConfusion
 cases F with
 | loc j =>
  obtain ⟨dx,ex⟩:=hx
  have ej:atI (iNs ow) j=some (.int (ow.getD j.toNat 0:Nat)):=by
   obtain ⟨jn,rfl⟩:∃ n:Nat,j=n:=⟨j.toNat,by have:=ok.1;omega⟩;have hj:jn<ow.length:=ok.2;refine zE ?_;unfold iNs;rw [List.getElem?_map,Int.toNat_natCast,List.getElem?_eq_getElem hj,q0z,List.getElem?_eq_getElem hj];rfl
  exact ⟨_,rfl,a,_,da,_,.int p,rfl,ha,AC.c,AC.n0,rfl,_,rfl,a,_,da,_,.ref oa,rfl,ha,AC.c,AC.n3,rfl,_,rfl,x,_,dx,_,.int j,rfl,ex,L.loc.k.cl,L.l1,rfl,oa,_,_,_,rfl,rfl,hoa,ej,_,rfl,a,_,da,_,.int mk,rfl,ha,AC.c,AC.n1,rfl,szU 4,λt nt=>k t nt⟩
 | num n=>exact absurd rfl z1
 | here=>exact absurd rfl z2
 | cell r=>exact absurd rfl z3
 | shi r b o=>exact absurd rfl z4
 | at' r p=>exact absurd lF Bool.noConfusion
 | pair sg l r=>exact absurd lF Bool.noConfusion
 | cho t l r=>exact absurd lF Bool.noConfusion
 | call a hs=>exact absurd lF Bool.noConfusion
inductive spMk (c:F2.Cs) (q:QCs) (K:Fg) (n:Nat) (vs:Jm) (H:Hp) (Q:VK) (_:XK):Prop
 | mk (B:Hp) (g:Mg) (x a:Ad) (s p mk lv:Nat) (ow:List Nat) (cs:Jf) (F:F2.Fm) (_:vs=[.ref g.m,.ref x,.ref a]) (_:MkAt q B g s cs H) (_:MgAt c K B g) (_:AimAt q K B a p mk lv ow) (_:F2.FormAt c B F x) (_:Mk1 g.d ow.length n F) (_:cs.length+6*zF g.d.T F<=3000) (_:∀ B' H' ts,Same B B'->MkAt q B' g s (cs++ts) H'->CodeAt B' ts (g.code n F p mk lv s ow)->Q .non H')
inductive spPutBy (q:QCs) (vs:Jm) (H:Hp) (Q:VK) (_:XK):Prop
 | mk (B:Hp) (g:Mg) (s p mk:Nat) (cs:Jf) (_:vs=[.ref g.m,.int p,.int mk]) (_:MkAt q B g s cs H) (_:cs.length<=3000) (_:∀ B' H' t,Same B B'->MkAt q B' g (s+1) (cs++[t]) H'->B' t=some (.tup (xF s p mk))->Q (.int s) H')
def ok_putby {q:QCs} (d:yV K q.ma "put_by" "Maker.put_by" xa ["self","seat","mask"]) (MC:MakerC K q.ma):OkM P w K mg base CX0 1 q.ma "put_by" ["self","seat","mask"] (spPutBy q):=by
 obtain ⟨f,fd,m,F,bd⟩:=d;refine ⟨f,fd,m,bd,F.ok sc_Maker_put_by (by rintro vs H Q E ⟨_,_,_,_,_,_,e,_⟩;rw [e];rfl) λcdv A outer s H vs Q E hr h=>?_⟩;obtain ⟨B,g,s,p,mk,cs,rfl,h,cl,k⟩:=h;have nd:=sc_Maker_put_by.nd;refine ⟨_,(zc (zA (i:=3) nd rfl (Or.inl rfl) (zq (pv 0) rfl))
   (zc (zX (xI PySem.F.plainAttrs_list PySem.F.slot_list_append PySem.F.type_list_append yr (zq (pv 0) rfl) (zb (zR (zb zh (zb (pv 3) (zb (pv 1) (zb (pv 2) ze))))) ze)))
   (zc (zM (pv 0) (zr zZ (pv 3) zd) rfl)
   (zf (zj (pv 3)))))),?_⟩
 refine ⟨_,rfl,g.m,_,g.dm,_,.int s,rfl,Hd.m h,MC.c,MC.n4,rfl,?_⟩;refine ⟨_,rfl,g.m,_,g.dm,_,.ref g.cd,rfl,Hd.m h,MC.c,MC.n3,rfl,.inl ⟨rfl,_,Hd.lst h 0 rfl⟩,_,rfl,_,rfl,_,rfl,szU 4,λt nt=>?_⟩;generalize hX:upd _ _ _=H1;obtain ⟨B1,s1,e1,h1⟩:=hdG h hX nt;clear hX;refine ⟨g.cd,_,_,rfl,rfl,Hd.get h1 0 rfl,(by rw [Jh];exact sz3 cl),?_⟩;have h2:=MkAt.row (t:=t) h1;generalize hX:upd _ _ _=H2 at h2 ⊢;clear hX;refine ⟨_,rfl,_,_,rfl,rfl,_,rfl,g.m,_,g.dm,_,rfl,Hd.m h2,MC.c,MC.n4,(by show 5<1000;decide),?_⟩;have h3:=MkAt.free' (s':=s+1) h2;exact ⟨_,rfl,k B1 _ t s1 h3 e1⟩
inductive spTwo (c:F2.Cs) (q:QCs) (K:Fg) (n:Nat) (vs:Jm) (H:Hp) (Q:VK) (_:XK):Prop
 | mk (B:Hp) (g:Mg) (x a1 y a2:Ad) (s p mk1 mk2 lv:Nat) (ow:List Nat) (cs:Jf) (F G:F2.Fm) (_:vs=[.ref g.m,.ref x,.ref a1,.ref y,.ref a2]) (_:MkAt q B g s cs H) (_:MgAt c K B g) (_:AimAt q K B a1 p mk1 lv ow) (_:AimAt q K B a2 p mk2 lv ow) (_:F2.FormAt c B F x) (_:F2.FormAt c B G y) (_:Mk1 g.d ow.length n F) (_:Mk1 g.d ow.length n G) (_:cs.length+6*zF g.d.T F+6*zF g.d.T G<=3000) (_:∀ B' H' ts t,Same B B'->MkAt q B' g s (cs++ts) H'->CodeAt B' ts (Zf (p+1+sN g.d.T G<=g.se) (g.code n F p mk1 lv s ow) (g.code n G (p+1) mk2 lv s ow) (g.code n G p mk2 lv (s+1) ow) p s mk1)->B' t=some (.tup (if p+1+sN g.d.T G<=g.se then [.int (p:Nat),.int (p+1:Nat)] else [.int (p+1:Nat),.int (p:Nat)]))->Q (.ref t) H')
def ZF {g:Mg} {n p mk lv s:Nat} {ow:List Nat} {F:F2.Fm} {B:Hp} {ts:Jf} (h:Mk1 g.d ow.length n F) (c:CodeAt B ts (g.code n F p mk lv s ow)):ts.length+1<=6*zF g.d.T F:=by
 rw [c.n];exact yG g.d.ok n F p mk lv s _ ow h.z h.o
def two_le {g:Mg} {n p mk1 mk2 lv s:Nat} {ow:List Nat} {l r:F2.Fm} (ml:Mk1 g.d ow.length n l) (mr:Mk1 g.d ow.length n r):(Zf (p+1+sN g.d.T r<=g.se) (g.code n l p mk1 lv s ow) (g.code n r (p+1) mk2 lv s ow) (g.code n r p mk2 lv (s+1) ow) p s mk1).length<=6*zF g.d.T l+6*zF g.d.T r:=by
 have a1:=xE g.d.T l;have a2:=xE g.d.T r;exact Nat.le_trans (Yh (Nat.le_sub_one_of_lt (yG g.d.ok n l p mk1 lv s _ ow ml.z ml.o)) (Nat.le_sub_one_of_lt (yG g.d.ok n r (p+1) mk2 lv s _ ow mr.z mr.o)) (Nat.le_sub_one_of_lt (yG g.d.ok n r p mk2 lv (s+1) _ ow mr.z mr.o))) (by omega)
def ok_two {c:F2.Cs} {q:QCs} {n:Nat} (d:zC K mg "make_two" xH ["maker","first","first_aim","second","second_aim"]) (MC:MakerC K q.ma) (AC:AimC K q.ai) (AG:AimG mg q) (IA:OkI P w K mg base (CXe P w base) 1 q.ai ["self","seat","mask","level","own"] (spI_Aim q.ai)) (PB:OkM P w K mg base CX0 1 q.ma "put_by" ["self","seat","mask"] (spPutBy q)) (SF:Ok P w K mg base CX0 (2*n+2) "seats_for" ["form","functions"] (spSF c K n)) (MF:Ok P w K mg base CX0 (3*n+4) "make_form" ["maker","form","aim"] (spMk c q K n)) :
  Ok P w K mg base CX0 (3*n+5) "make_two" ["maker","first","first_aim","second","second_aim"] (spTwo c q K n):=by
 obtain ⟨g,fd,m,F,b⟩:=d;refine ⟨g,fd,m,F.kp,b,F.ok sc_make_two (by rintro vs H Q E ⟨_,_,_,_,_,_,_,_,_,_,_,_,_,_,_,e,_⟩;rw [e];rfl) λcdv A outer s H vs Q E hr h=>?_⟩;obtain ⟨B,g,x,a1,y,a2,s,p,mk1,mk2,lv,ow,cs,F,G,rfl,h,hg,ha1,ha2,hx,hy,mF,mG,cl,k⟩:=h;have nd:=sc_make_two.nd;have hrM:=hr;have hrS:Room (2*n+2) _:=hr.mono (by omega);have hr1:Room 1 _:=hr.mono (by omega);have hr2:Room 2 _:=hr.mono (by omega);obtain ⟨da1,oa1,ea1,qa1⟩:=ha1;obtain ⟨da2,oa2,ea2,qa2⟩:=ha2;refine ⟨_,(zc (zA (i:=5) nd rfl (Or.inl rfl) (zq (pv 2) rfl))
   (zc (zX (zG MF hrM (by rfl) zJ (zb (pv 0) (zb (pv 1) (zb (pv 2) ze)))))
   (zc (zu (zi z9 (zr zZ (zr zZ (pv 5) zd) (zG SF hrS (by rfl) zJ (zb (pv 3) (zb (zq (pv 0) rfl) ze)))) (zq (pv 0) rfl) (zo _)) (zc (zX (zG MF hrM (by rfl) zJ (zb (pv 0) (zb (pv 3) (zb (zV IA AG.ai hr2 (by rfl) zW (zb (zr zZ (pv 5) zd) (zb (zq (pv 4) rfl) (zb (zq (pv 4) rfl) (zb (zq (pv 4) rfl) ze))))) ze)))))
   (zf (zj (zR (zb (pv 5) (zb (zr zZ (pv 5) zd) ze)))))) zk)
   (zc (zA (i:=6) nd rfl (Or.inl rfl) (pe_okM PB MC.c hr1 zJ (pv 0) (zb (pv 5) (zb (zq (pv 2) rfl) ze))))
   (zc (zX (zG MF hrM (by rfl) zJ (zb (pv 0) (zb (pv 3) (zb (pv 4) ze)))))
   (zc (zX (xI PySem.F.plainAttrs_list PySem.F.slot_list_append PySem.F.type_list_append yr (zq (pv 0) rfl) (zb (zR (zb zh (zb (zr zZ (pv 5) zd) (zb (pv 6) (zb (zq (pv 2) rfl) ze))))) ze)))
   (zc (zM (pv 0) (pv 6) rfl)
   (zf (zj (zR (zb (zr zZ (pv 5) zd) (zb (pv 5) ze)))))))))))),?_⟩
 refine ⟨_,rfl,a1,_,da1,_,.int p,rfl,h.sm _ _ ea1,AC.c,AC.n0,rfl,?_⟩;refine ⟨_,rfl,_,rfl,_,rfl,B,g,x,a1,s,p,mk1,lv,ow,cs,F,rfl,h,hg,⟨da1,oa1,ea1,qa1⟩,hx,mF,by omega,λB1 H1 ts1 s1 h1 c1=>?_⟩;have l1:=ZF mF c1;clear h;replace ea1:=s1 _ _ ea1;replace ea2:=s1 _ _ ea2;replace qa2:=zD qa2 s1;replace hy:=hy.same s1;replace hg:=hg.same s1;refine ⟨_,rfl,_,_,rfl,rfl,_,rfl,_,rfl,g.m,_,g.dm,_,.ref g.fu,rfl,Hd.m h1,MC.c,MC.n1,rfl,g.d,ow.length,y,g.fu,G,rfl,hy.same h1.sm,hg.fu.same h1.sm,mG,λH2 s2=>?_⟩;obtain ⟨B2,sB2,h2,_⟩:=h1.over s2;replace h2:MkAt q B2 g s (cs++ts1) H2:=h2;clear h1 s2;replace ea1:=sB2 _ _ ea1;replace ea2:=sB2 _ _ ea2;replace qa2:=zD qa2 sB2;replace hy:=hy.same sB2;replace hg:=hg.same sB2;replace c1:=c1.same sB2;replace s1:=s1.trans sB2;clear sB2;refine ⟨_,_,rfl,rfl,_,rfl,g.m,_,g.dm,_,.int g.se,rfl,Hd.m h2,MC.c,MC.n2,rfl,_,_,rfl,rfl,_,rfl,?_⟩;have cs1:(cs++ts1).length+1<=cs.length+6*zF g.d.T F:=by rw [Ji];omega
 refine z7 (λz=>?_) (λz=>?_)
 ·have z:p+1+sN g.d.T G<=g.se:=by have:=of_decide_eq_true z;omega
  unfold Zf at k;rw [if_pos z,if_pos z] at k;refine ⟨_,rfl,_,rfl,_,rfl,_,_,rfl,rfl,_,rfl,a2,_,da2,_,.int mk2,rfl,h2.sm _ _ ea2,AC.c,AC.n1,rfl,_,rfl,a2,_,da2,_,.int lv,rfl,h2.sm _ _ ea2,AC.c,AC.n2,rfl,_,rfl,a2,_,da2,_,.ref oa2,rfl,h2.sm _ _ ea2,AC.c,AC.n3,rfl,?_⟩;refine λai dai n1 n2 n3=>⟨ai,dai,.int ((p:Int)+1),.int mk2,.int lv,.ref oa2,rfl,zg,λH3 k3 e3=>⟨rfl,?_⟩⟩;obtain ⟨B3,s3,e3',h3⟩:=hdM h2 n1 n2 n3 k3 e3;refine ⟨B3,g,y,ai,s,p+1,mk2,lv,ow,cs++ts1,G,rfl,h3,hg.same s3,⟨dai,oa2,e3',zD qa2 s3⟩,hy.same s3,mG,by omega,λB4 H4 ts2 s4 h4 c2=>?_⟩;refine ⟨_,rfl,_,rfl,_,_,rfl,rfl,szU 2,λt nt=>?_⟩;generalize hX:upd _ _ _=H5;obtain ⟨B5,s5,e5,h5⟩:=hdG h4 hX nt;refine k B5 H5 (ts1++ts2) t (((s1.trans s3).trans s4).trans s5) (by rw [← List.append_assoc];exact h5) (zO (c1.same ((s3.trans s4).trans s5)) (c2.same s5)) e5
 ·have z:¬ p+1+sN g.d.T G<=g.se:=λy=>z (decide_eq_true (by omega))
  unfold Zf at k;rw [if_neg z,if_neg z] at k;refine ⟨_,rfl,g.m,g.dm,_,rfl,Hd.m h2,rfl,_,rfl,_,rfl,a1,_,da1,_,.int mk1,rfl,h2.sm _ _ ea1,AC.c,AC.n1,rfl,B2,g,s,p,mk1,cs++ts1,rfl,h2,by omega,λB3 H3 t3 s3 h3 e3=>?_⟩;refine ⟨_,rfl,_,rfl,_,rfl,B3,g,y,a2,s+1,p,mk2,lv,ow,cs++ts1++[t3],G,rfl,h3,hg.same s3,⟨da2,oa2,s3 _ _ ea2,zD qa2 s3⟩,hy.same s3,mG,by rw [Ji];show (cs++ts1).length+1+6*zF g.d.T G<=3000;omega,λB4 H4 ts2 s4 h4 c2=>?_⟩;have l2:=ZF mG c2;refine ⟨_,rfl,g.m,_,g.dm,_,.ref g.cd,rfl,Hd.m h4,MC.c,MC.n3,rfl,.inl ⟨rfl,_,Hd.lst h4 0 rfl⟩,_,rfl,_,_,rfl,rfl,_,rfl,_,rfl,a1,_,da1,_,.int mk1,rfl,h4.sm _ _ (s4 _ _ (s3 _ _ ea1)),AC.c,AC.n1,rfl,szU 4,λt5 n5=>?_⟩;generalize hX:upd _ _ _=H5;obtain ⟨B5,s5,e5,h5⟩:=hdG h4 hX n5;clear hX;refine ⟨g.cd,_,_,rfl,rfl,Hd.get h5 0 rfl,(by rw [Jh,Ji,Ji];exact sz3 (by show (cs++ts1).length+1+ts2.length<=3000;omega)),?_⟩;have h6:=MkAt.row (t:=t5) h5;generalize hX:upd _ _ _=H6 at h6 ⊢;clear hX;refine ⟨_,rfl,_,rfl,g.m,_,g.dm,_,rfl,Hd.m h6,MC.c,MC.n4,(by show 5<1000;decide),?_⟩;have h7:MkAt q B5 g s (cs++ts1++[t3]++ts2++[t5]) (upd H6 g.m (.ins q.ma g.dm (Zk "free_slot" (.int s) (g.fl (s+1))))):=MkAt.free' (s':=s) h6;generalize hX:upd _ _ _=H7 at h7 ⊢;clear hX;refine ⟨_,rfl,_,_,rfl,rfl,_,rfl,szU 2,λt nt=>?_⟩;generalize hX:upd _ _ _=H8;obtain ⟨B8,s8,e8,h8⟩:=hdG h7 hX nt;have s38:=((s3.trans s4).trans s5).trans s8;refine k B8 H8 (ts1++[t3]++ts2++[t5]) t (s1.trans s38) (by rw [← List.append_assoc,← List.append_assoc,← List.append_assoc];exact h8) (zO (zO (zO (c1.same s38) (zT (((s4.trans s5).trans s8) _ _ e3))) (c2.same (s5.trans s8))) (zT (s8 _ _ e5))) e8
inductive spMx (c:F2.Cs) (q:QCs) (K:Fg) (n:Nat) (is:F2.Fm->Bool) (vs:Jm) (H:Hp) (Q:VK) (_:XK):Prop
 | mk (B:Hp) (g:Mg) (x a:Ad) (s p mk lv:Nat) (ow:List Nat) (cs:Jf) (F:F2.Fm) (_:vs=[.ref g.m,.ref x,.ref a]) (_:is F=true) (_:MkAt q B g s cs H) (_:MgAt c K B g) (_:AimAt q K B a p mk lv ow) (_:F2.FormAt c B F x) (_:Mk1 g.d ow.length (n+1) F) (_:cs.length+6*zF g.d.T F<=3000) (_:∀ B' H' ts,Same B B'->MkAt q B' g s (cs++ts) H'->CodeAt B' ts (g.code (n+1) F p mk lv s ow)->Q .non H')
def ok_mkpair {c:F2.Cs} {q:QCs} {n:Nat} (d:zC K mg "make_pair" xq ["maker","form","aim"]) (L:FormK K c) (MC:MakerC K q.ma) (AC:AimC K q.ai) (MT:Ok P w K mg base CX0 (3*n+5) "make_two" ["maker","first","first_aim","second","second_aim"] (spTwo c q K n)):Ok P w K mg base CX0 (3*n+6) "make_pair" ["maker","form","aim"] (spMx c q K n isP):=by
 obtain ⟨g,fd,m,F,b⟩:=d;refine ⟨g,fd,m,F.kp,b,F.ok sc_make_pair (by rintro vs H Q E ⟨_,_,_,_,_,_,_,_,_,_,_,e,_⟩;rw [e];rfl) λcdv A outer s H vs Q E hr h=>?_⟩;obtain ⟨B,g,x,a,s,p,mk,lv,ow,cs,F,rfl,iF,h,hg,⟨da,oa,ea,qa⟩,hx,mF,cl,k⟩:=h
 cases F with
 | pair sg l r =>
  obtain ⟨dx,y1,y2,ex,hy1,hy2⟩:=hx;have nd:=sc_make_pair.nd;have hrT:=hr;have zz:zF g.d.T l+zF g.d.T r+1<=n+1:=mF.z;have ez:zF g.d.T (.pair sg l r)=zF g.d.T l+zF g.d.T r+1:=rfl;have ml:Mk1 g.d ow.length n l:=⟨mF.o.1,by omega⟩;have mr:Mk1 g.d ow.length n r:=⟨mF.o.2,by omega⟩;refine ⟨_,(zc (zA (i:=3) nd rfl (Or.inl rfl) (zG MT hrT (by rfl) zJ (zb (pv 0) (zb (zq (pv 1) rfl) (zb (pv 2) (zb (zq (pv 1) rfl) (zb (pv 2) ze)))))))
   (zf (zX (xI PySem.F.plainAttrs_list PySem.F.slot_list_append PySem.F.type_list_append yr (zq (pv 0) rfl) (zb (zR (zb zh (zb (zq (pv 2) rfl) (zb (zq (pv 1) rfl) (zb (zP yj (pv 3) zd (λ_ _=>rfl)) (zb (zP yj (pv 3) zd (λ_ _=>rfl)) (zb (zq (pv 2) rfl) ze))))))) ze))))),?_⟩
  refine ⟨_,rfl,_,rfl,x,_,dx,_,.ref y1,rfl,h.sm _ _ ex,L.pair.k.cl,L.p2,rfl,_,rfl,_,rfl,x,_,dx,_,.ref y2,rfl,h.sm _ _ ex,L.pair.k.cl,L.p3,rfl,_,rfl,?_⟩;refine ⟨B,g,y1,a,y2,a,s,p,mk,mk,lv,ow,cs,l,r,rfl,h,hg,⟨da,oa,ea,qa⟩,⟨da,oa,ea,qa⟩,hy1,hy2,ml,mr,by omega,λB1 H1 ts t s1 h1 c1 e1=>?_⟩;have tl:ts.length<=6*zF g.d.T l+6*zF g.d.T r:=by rw [c1.n];exact two_le ml mr
  obtain ⟨u,v,e1',eo⟩:∃ u v:Nat,B1 t=some (.tup [.int u,.int v])/\(if p+1+sN g.d.T r<=g.se then opT p sg p (p+1) mk else opT p sg (p+1) p mk)=opT p sg u v mk:=by
   by_cases z:p+1+sN g.d.T r<=g.se
   ·rw [if_pos z] at e1 ⊢;exact ⟨p,p+1,e1,rfl⟩
   ·rw [if_neg z] at e1 ⊢;exact ⟨p+1,p,e1,rfl⟩
  have ea1:=h1.sm _ _ (s1 _ _ ea);have ex1:=h1.sm _ _ (s1 _ _ ex);have et1:=h1.sm _ _ e1';refine ⟨_,rfl,g.m,_,g.dm,_,.ref g.cd,rfl,Hd.m h1,MC.c,MC.n3,rfl,.inl ⟨rfl,_,Hd.lst h1 0 rfl⟩,_,rfl,a,_,da,_,.int p,rfl,ea1,AC.c,AC.n0,rfl,_,rfl,x,_,dx,_,.str sg,rfl,ex1,L.pair.k.cl,L.p1,rfl,_,rfl,t,_,_,_,rfl,rfl,SqT.of et1,zE (j:=0) rfl,_,rfl,t,_,_,_,rfl,rfl,SqT.of et1,zE (j:=1) rfl,_,rfl,a,_,da,_,.int mk,rfl,ea1,AC.c,AC.n1,rfl,szU 6,λt5 n5=>?_⟩;generalize hX:upd _ _ _=H5;obtain ⟨B5,s5,e5,h5⟩:=hdG h1 hX n5;clear hX;refine ⟨g.cd,_,_,rfl,rfl,Hd.get h5 0 rfl,(by rw [Jh,Ji];exact sz3 (by omega)),?_⟩;have h6:=MkAt.row (t:=t5) h5;refine k B5 _ (ts++[t5]) (s1.trans s5) (by rw [← List.append_assoc];exact h6) ?_;show CodeAt B5 _ (Zf _ _ _ _ _ _ _++[if p+1+sN g.d.T r<=g.se then opT p sg p (p+1) mk else opT p sg (p+1) p mk]);rw [eo];exact zO (c1.same s5) (zT e5)
 | _=>exact absurd iF Bool.noConfusion
def ok_mkat {c:F2.Cs} {q:QCs} {n:Nat} (d:zC K mg "make_at" Zc ["maker","form","aim"]) (L:FormK K c) (MC:MakerC K q.ma) (AC:AimC K q.ai) (MF:Ok P w K mg base CX0 (3*n+4) "make_form" ["maker","form","aim"] (spMk c q K n)):Ok P w K mg base CX0 (3*n+6) "make_at" ["maker","form","aim"] (spMx c q K n isA):=by
 obtain ⟨g,fd,m,F,b⟩:=d;refine ⟨g,fd,m,F.kp,b,F.ok sc_make_at (by rintro vs H Q E ⟨_,_,_,_,_,_,_,_,_,_,_,e,_⟩;rw [e];rfl) λcdv A outer s H vs Q E hr h=>?_⟩;obtain ⟨B,g,x,a,s,p,mk,lv,ow,cs,F,rfl,iF,h,hg,⟨da,oa,ea,qa⟩,hx,mF,cl,k⟩:=h
 cases F with
 | at' r f =>
  obtain ⟨dx,y1,ex,hy1⟩:=hx;have nd:=sc_make_at.nd;have hrF:Room (3*n+4) _:=hr.mono (by omega);have zz:zF g.d.T f+1<=n+1:=mF.z;have ez:zF g.d.T (.at' r f)=zF g.d.T f+1:=rfl;have mf:Mk1 g.d ow.length n f:=⟨mF.o.2,by omega⟩;refine ⟨_,(zc (zX (zG MF hrF (by rfl) zJ (zb (pv 0) (zb (zq (pv 1) rfl) (zb (pv 2) ze)))))
   (zf (zX (xI PySem.F.plainAttrs_list PySem.F.slot_list_append PySem.F.type_list_append yr (zq (pv 0) rfl) (zb (zR (zb zh (zb (zq (pv 2) rfl) (zb (zq (pv 2) rfl) (zb (zq (pv 1) rfl) (zb (zq (pv 2) rfl) ze)))))) ze))))),?_⟩
  refine ⟨_,rfl,_,rfl,x,_,dx,_,.ref y1,rfl,h.sm _ _ ex,L.at'.k.cl,L.a2,rfl,_,rfl,B,g,y1,a,s,p,mk,lv,ow,cs,f,rfl,h,hg,⟨da,oa,ea,qa⟩,hy1,mf,by omega,λB1 H1 ts s1 h1 c1=>?_⟩;have tl:=ZF mf c1;have ea1:=h1.sm _ _ (s1 _ _ ea);have ex1:=h1.sm _ _ (s1 _ _ ex);refine ⟨_,rfl,g.m,_,g.dm,_,.ref g.cd,rfl,Hd.m h1,MC.c,MC.n3,rfl,.inl ⟨rfl,_,Hd.lst h1 0 rfl⟩,_,rfl,a,_,da,_,.int p,rfl,ea1,AC.c,AC.n0,rfl,_,rfl,a,_,da,_,.int p,rfl,ea1,AC.c,AC.n0,rfl,_,rfl,x,_,dx,_,.int r,rfl,ex1,L.at'.k.cl,L.a1,rfl,_,rfl,a,_,da,_,.int mk,rfl,ea1,AC.c,AC.n1,rfl,szU 5,λt5 n5=>?_⟩;generalize hX:upd _ _ _=H5;obtain ⟨B5,s5,e5,h5⟩:=hdG h1 hX n5;clear hX;refine ⟨g.cd,_,_,rfl,rfl,Hd.get h5 0 rfl,(by rw [Jh,Ji];exact sz3 (by omega)),?_⟩;have h6:=MkAt.row (t:=t5) h5;exact k B5 _ (ts++[t5]) (s1.trans s5) (by rw [← List.append_assoc];exact h6) (zO (c1.same s5) (zT e5))
 | _=>exact absurd iF Bool.noConfusion
def ok_mkcho {c:F2.Cs} {q:QCs} {n:Nat} {tF:Tok} (d:zC K mg "make_choice" yR ["maker","form","aim"]) (hFC:mg "FIRST_CHOICE_MASK"=some (.int 2 tF)) (L:FormK K c) (MC:MakerC K q.ma) (AC:AimC K q.ai) (AG:AimG mg q) (IA:OkI P w K mg base (CXe P w base) 1 q.ai ["self","seat","mask","level","own"] (spI_Aim q.ai)) (MF:Ok P w K mg base CX0 (3*n+4) "make_form" ["maker","form","aim"] (spMk c q K n)) (MT:Ok P w K mg base CX0 (3*n+5) "make_two" ["maker","first","first_aim","second","second_aim"] (spTwo c q K n)):Ok P w K mg base CX0 (3*n+6) "make_choice" ["maker","form","aim"] (spMx c q K n isO):=by
 obtain ⟨g,fd,m,F,b⟩:=d;refine ⟨g,fd,m,F.kp,b,F.ok sc_make_choice (by rintro vs H Q E ⟨_,_,_,_,_,_,_,_,_,_,_,e,_⟩;rw [e];rfl) λcdv A outer s H vs Q E hr h=>?_⟩;obtain ⟨B,g,x,a,s,p,mk,lv,ow,cs,F,rfl,iF,h,hg,⟨da,oa,ea,qa⟩,hx,mF,cl,k⟩:=h
 cases F with
 | cho t l r =>
  obtain ⟨dx,y0,y1,y2,ex,hy0,hy1,hy2⟩:=hx;have nd:=sc_make_choice.nd;have hrT:=hr;have hrF:Room (3*n+4) _:=hr.mono (by omega);have hr2:Room 2 _:=hr.mono (by omega);have zz:zF g.d.T t+zF g.d.T l+zF g.d.T r+1<=n+1:=mF.z;have ez:zF g.d.T (.cho t l r)=zF g.d.T t+zF g.d.T l+zF g.d.T r+1:=rfl;have mt:Mk1 g.d ow.length n t:=⟨mF.o.1,by omega⟩;have ml:Mk1 g.d ow.length n l:=⟨mF.o.2.1,by omega⟩;have mr:Mk1 g.d ow.length n r:=⟨mF.o.2.2,by omega⟩;refine ⟨_,(zc (zX (zG MF hrF (by rfl) zJ (zb (pv 0) (zb (zq (pv 1) rfl) (zb (pv 2) ze)))))
   (zc (zA (i:=3) nd rfl (Or.inl rfl) (zr zZ (Yj hFC) (zr Zm zd (zq (pv 2) rfl))))
   (zc (zA (i:=4) nd rfl (Or.inl rfl) (zr zZ (pv 3) zd))
   (zc (zX (xI PySem.F.plainAttrs_list PySem.F.slot_list_append PySem.F.type_list_append yr (zq (pv 0) rfl) (zb (zR (zb zh (zb (pv 3) (zb (zq (pv 2) rfl) (zb (zq (pv 2) rfl) ze))))) ze)))
   (zc (zX (xI PySem.F.plainAttrs_list PySem.F.slot_list_append PySem.F.type_list_append yr (zq (pv 0) rfl) (zb (zR (zb zh (zb (pv 4) (zb (zq (pv 2) rfl) (zb (zq (pv 2) rfl) ze))))) ze)))
   (zc (zA (i:=5) nd rfl (Or.inl rfl) (zV IA AG.ai hr2 (by rfl) zW (zb (zq (pv 2) rfl) (zb (pv 3) (zb (zr zZ (zq (pv 2) rfl) zd) (zb (zq (pv 2) rfl) ze))))))
   (zc (zA (i:=6) nd rfl (Or.inl rfl) (zV IA AG.ai hr2 (by rfl) zW (zb (zq (pv 2) rfl) (zb (pv 4) (zb (zr zZ (zq (pv 2) rfl) zd) (zb (zq (pv 2) rfl) ze))))))
   (zc (zA (i:=7) nd rfl (Or.inl rfl) (zG MT hrT (by rfl) zJ (zb (pv 0) (zb (zq (pv 1) rfl) (zb (pv 5) (zb (zq (pv 1) rfl) (zb (pv 6) ze)))))))
   (zf (zX (xI PySem.F.plainAttrs_list PySem.F.slot_list_append PySem.F.type_list_append yr (zq (pv 0) rfl) (zb (zR (zb zh (zb (zq (pv 2) rfl) (zb (zP yj (pv 7) zd (λ_ _=>rfl)) (zb (zP yj (pv 7) zd (λ_ _=>rfl)) (zb (pv 3) (zb (zq (pv 2) rfl) ze))))))) ze)))))))))))),?_⟩
  refine ⟨_,rfl,_,rfl,x,_,dx,_,.ref y0,rfl,h.sm _ _ ex,L.cho.k.cl,L.o1,rfl,_,rfl,B,g,y0,a,s,p,mk,lv,ow,cs,t,rfl,h,hg,⟨da,oa,ea,qa⟩,hy0,mt,by omega,λB1 H1 ts0 s1 h1 c1=>?_⟩;have tl0:=ZF mt c1;clear h;replace ea:=s1 _ _ ea;replace ex:=s1 _ _ ex;replace qa:=zD qa s1;replace hy1:=hy1.same s1;replace hy2:=hy2.same s1;replace hg:=hg.same s1;refine ⟨_,rfl,a,_,da,_,.int lv,rfl,h1.sm _ _ ea,AC.c,AC.n2,rfl,_,_,rfl,rfl,.inl ⟨by decide,by decide⟩,_,_,rfl,rfl,?_⟩;refine ⟨_,rfl,_,_,rfl,rfl,?_⟩;have em:(2:Int)+2*(lv:Int)=((2+2*lv:Nat):Int):=by omega
  have em':((2+2*lv:Nat):Int)+1=((3+2*lv:Nat):Int):=by omega
  rw [em,em'];refine ⟨_,rfl,g.m,_,g.dm,_,.ref g.cd,rfl,Hd.m h1,MC.c,MC.n3,rfl,.inl ⟨rfl,_,Hd.lst h1 0 rfl⟩,_,rfl,_,rfl,a,_,da,_,.int p,rfl,h1.sm _ _ ea,AC.c,AC.n0,rfl,_,rfl,a,_,da,_,.int mk,rfl,h1.sm _ _ ea,AC.c,AC.n1,rfl,szU 4,λt2 n2=>?_⟩;generalize hX:upd _ _ _=H2;obtain ⟨B2,s2,e2,h2⟩:=hdG h1 hX n2;clear hX h1;refine ⟨g.cd,_,_,rfl,rfl,Hd.get h2 0 rfl,(by rw [Jh,Ji];exact sz3 (by omega)),?_⟩;replace h2:=MkAt.row (t:=t2) h2;generalize hX:upd _ _ _=H2' at h2 ⊢;clear hX;replace ea:=s2 _ _ ea;replace ex:=s2 _ _ ex;refine ⟨_,rfl,g.m,_,g.dm,_,.ref g.cd,rfl,Hd.m h2,MC.c,MC.n3,rfl,.inl ⟨rfl,_,Hd.lst h2 0 rfl⟩,_,rfl,_,rfl,a,_,da,_,.int p,rfl,h2.sm _ _ ea,AC.c,AC.n0,rfl,_,rfl,a,_,da,_,.int mk,rfl,h2.sm _ _ ea,AC.c,AC.n1,rfl,szU 4,λt3 n3=>?_⟩;generalize hX:upd _ _ _=H3;obtain ⟨B3,s3,e3,h3⟩:=hdG h2 hX n3;clear hX h2;refine ⟨g.cd,_,_,rfl,rfl,Hd.get h3 0 rfl,(by rw [Jh,Ji,Ji];exact sz3 (by show cs.length+ts0.length+1<=3000;omega)),?_⟩;replace h3:=MkAt.row (t:=t3) h3;generalize hX:upd _ _ _=H3' at h3 ⊢;clear hX;replace ea:=s3 _ _ ea;replace ex:=s3 _ _ ex;have s23:=s2.trans s3;replace c1:=zO (zO (c1.same s23) (zT (s3 _ _ e2))) (zT e3);replace hy1:=hy1.same s23;replace hy2:=hy2.same s23;replace hg:=hg.same s23;replace qa:=zD qa s23;replace s1:=s1.trans s23;clear s2 s3 s23 e2 e3;refine ⟨_,rfl,a,_,da,_,.int p,rfl,h3.sm _ _ ea,AC.c,AC.n0,rfl,_,rfl,_,rfl,a,_,da,_,.int lv,rfl,h3.sm _ _ ea,AC.c,AC.n2,rfl,_,_,rfl,rfl,_,rfl,a,_,da,_,.ref oa,rfl,h3.sm _ _ ea,AC.c,AC.n3,rfl,?_⟩;refine λai dai n1 n2 n3=>⟨ai,dai,.int p,.int (2+2*lv:Nat),.int ((lv:Int)+1),.ref oa,rfl,zg,λH4 k4 e4=>⟨rfl,?_⟩⟩;obtain ⟨B4,s4,e4',h4⟩:=hdM h3 n1 n2 n3 k4 e4;clear h3 k4 e4 n1 n2 n3;replace ea:=s4 _ _ ea;replace ex:=s4 _ _ ex;refine ⟨_,rfl,a,_,da,_,.int p,rfl,h4.sm _ _ ea,AC.c,AC.n0,rfl,_,rfl,_,rfl,a,_,da,_,.int lv,rfl,h4.sm _ _ ea,AC.c,AC.n2,rfl,_,_,rfl,rfl,_,rfl,a,_,da,_,.ref oa,rfl,h4.sm _ _ ea,AC.c,AC.n3,rfl,?_⟩;refine λbi dbi n1 n2 n3=>⟨bi,dbi,.int p,.int (3+2*lv:Nat),.int ((lv:Int)+1),.ref oa,rfl,zg,λH5 k5 e5=>⟨rfl,?_⟩⟩;obtain ⟨B5,s5,e5',h5⟩:=hdM h4 n1 n2 n3 k5 e5;clear h4 k5 e5 n1 n2 n3;replace ea:=s5 _ _ ea;replace ex:=s5 _ _ ex;have s45:=s4.trans s5;replace qa:=zD qa s45
  have lcs:(cs++ts0++[t2]++[t3]).length+1<=cs.length+6*zF g.d.T t+2:=by
   rw [Ji,Ji,Ji];show cs.length+ts0.length+1+1+1<=_;omega
  refine ⟨_,rfl,_,rfl,x,_,dx,_,.ref y1,rfl,h5.sm _ _ ex,L.cho.k.cl,L.o2,rfl,_,rfl,_,rfl,x,_,dx,_,.ref y2,rfl,h5.sm _ _ ex,L.cho.k.cl,L.o3,rfl,_,rfl,?_⟩;refine ⟨B5,g,y1,ai,y2,bi,s,p,2+2*lv,3+2*lv,lv+1,ow,cs++ts0++[t2]++[t3],l,r,rfl,h5,hg.same s45,⟨dai,oa,s5 _ _ e4',qa⟩,⟨dbi,oa,e5',qa⟩,hy1.same s45,hy2.same s45,ml,mr,by omega,λB6 H6 ts tp s6 h6 c6 e6=>?_⟩;have tl:ts.length<=6*zF g.d.T l+6*zF g.d.T r:=by rw [c6.n];exact two_le ml mr
  obtain ⟨u,v,e6',eo⟩:∃ u v:Nat,B6 tp=some (.tup [.int u,.int v])/\(if p+1+sN g.d.T r<=g.se then Z6 p p (p+1) (2+2*lv) mk else Z6 p (p+1) p (2+2*lv) mk)=Z6 p u v (2+2*lv) mk:=by
   by_cases z:p+1+sN g.d.T r<=g.se
   ·rw [if_pos z] at e6 ⊢;exact ⟨p,p+1,e6,rfl⟩
   ·rw [if_neg z] at e6 ⊢;exact ⟨p+1,p,e6,rfl⟩
  have ea1:=h6.sm _ _ (s6 _ _ ea);have et1:=h6.sm _ _ e6';refine ⟨_,rfl,g.m,_,g.dm,_,.ref g.cd,rfl,Hd.m h6,MC.c,MC.n3,rfl,.inl ⟨rfl,_,Hd.lst h6 0 rfl⟩,_,rfl,a,_,da,_,.int p,rfl,ea1,AC.c,AC.n0,rfl,_,rfl,tp,_,_,_,rfl,rfl,SqT.of et1,zE (j:=0) rfl,_,rfl,tp,_,_,_,rfl,rfl,SqT.of et1,zE (j:=1) rfl,_,rfl,_,rfl,a,_,da,_,.int mk,rfl,ea1,AC.c,AC.n1,rfl,szU 6,λt7 n7=>?_⟩;generalize hX:upd _ _ _=H7;obtain ⟨B7,s7,e7,h7⟩:=hdG h6 hX n7;clear hX;refine ⟨g.cd,_,_,rfl,rfl,Hd.get h7 0 rfl,(by rw [Jh,Ji];exact sz3 (by omega)),?_⟩;have h8:=MkAt.row (t:=t7) h7;have s57:=(s45.trans s6).trans s7;refine k B7 _ (ts0++[t2]++[t3]++ts++[t7]) (s1.trans s57) (by rw [show cs++(ts0++[t2]++[t3]++ts++[t7])=cs++ts0++[t2]++[t3]++ts++[t7] by simp only [List.append_assoc]];exact h8) ?_;have fin:=zO (zO (c1.same s57) (c6.same s7)) (zT e7);show CodeAt B7 _ (g.code n t p mk lv s ow++[_,_]++Zf _ _ _ _ _ _ _++[if p+1+sN g.d.T r<=g.se then Z6 p p (p+1) (2+2*lv) mk else Z6 p (p+1) p (2+2*lv) mk]);rw [eo];have ea2:g.code n t p mk lv s ow++[[V.str "choose",.int (2+2*lv:Nat),.int p,.int mk]]++[[V.str "other",.int (3+2*lv:Nat),.int p,.int mk]]=g.code n t p mk lv s ow++[[V.str "choose",.int (2+2*lv:Nat),.int p,.int mk],[V.str "other",.int (3+2*lv:Nat),.int p,.int mk]]:=by rw [List.append_assoc];rfl
  rw [ea2] at fin;exact fin
 | _=>exact absurd iF Bool.noConfusion
end K48
namespace L2
open PySem
def Hd.out {B H:Hp} {L:Jl} {a:Ad} {o:HO} (h:Hd B L H) (e:B a=some o):Hd (but B [a]) ((a,o)::L) H:=by
 refine ⟨List.nodup_cons.mpr ⟨λm=>?_,h.nd⟩,λp m=>?_,λp m=>?_,λb u z=>h.sm _ _ (but_inv z).2⟩
 ·obtain ⟨p,hp,z⟩:=List.mem_map.mp m
  have:=h.nw p hp;rw [z,e] at this;cases this
 ·rcases List.mem_cons.mp m with rfl | m
  ·exact ZU (List.mem_singleton_self _)
  ·unfold but;split
   ·rfl
   ·exact h.nw p m
 ·rcases List.mem_cons.mp m with rfl | m
  ·exact h.sm _ _ e
  ·exact h.st p m
def same_out {B B':Hp} {a:Ad} {o:HO} (n:B a=none) (s:Same (upd B a o) B'):Same B (but B' [a]):=λb u z=>by
 have ne:b≠a:=zS z n;exact xk (s _ _ (by rw [zy ne];exact z)) λm=>ne (List.mem_singleton.mp m)
end L2
namespace K48
open PySem L2 FM
variable {P:Program} {w:World} {K:Fg} {mg:J0} {base:Heap}
def CodeAt.out {B:Hp} {a:Ad} {xs:Jm} {ts:Jf} {code:List (Jm)} (h:CodeAt B ts code) (e:B a=some (.lst xs)):CodeAt (but B [a]) ts code:=⟨h.n,λi b tv x y=>xk (h.t i b tv x y) λm=>by
 have:=h.t i b tv x y;rw [List.mem_singleton.mp m,e] at this;cases this⟩
def Zv (f:F2.Fm->Nat->List (Jm)) (p mk:Nat):List F2.Fm->Nat->List (Jm)
 | [],_=>[]
 | h::r,s=>f h s++[xF s p mk]++Zv f p mk r (s+1)
theorem hands_L (f:F2.Fm->Nat->List (Jm)) (p mk:Nat):∀ (hs:F2.Fms) (s:Nat),Za f p mk hs s=Zv f p mk (Fl hs) s
 | .nil,_=>rfl
 | .cons h r,s=>by
  show f h s++[xF s p mk]++Za f p mk r (s+1)=f h s++[xF s p mk]++Zv f p mk (Fl r) (s+1);rw [hands_L f p mk r]
theorem Z9 (f:F2.Fm->Nat->List (Jm)) (p mk:Nat) (h:F2.Fm):∀ (l:List F2.Fm) (s:Nat),Zv f p mk (l++[h]) s=Zv f p mk l s++f h (s+l.length)++[xF (s+l.length) p mk]
 | [],s=>by
  show f h s++[xF s p mk]++[]=[]++f h s++[xF s p mk];rw [x1x,List.nil_append]
 | g::r,s=>by
  show f g s++[xF s p mk]++Zv f p mk (r++[h]) (s+1)=f g s++[xF s p mk]++Zv f p mk r (s+1)++f h (s+(r.length+1))++[xF (s+(r.length+1)) p mk];rw [Z9 f p mk h r,show s+1+r.length=s+(r.length+1) by omega];simp only [List.append_assoc]
def zL (T:Tb) (l:List F2.Fm):Nat:=(l.map (zF T)).sum
def zL_snoc (T:Tb) (l:List F2.Fm) (h:F2.Fm):zL T (l++[h])=zL T l+zF T h:=by
 unfold zL;rw [Jj,List.sum_append];rfl
def zL_app (T:Tb) (l r:List F2.Fm):zL T (l++r)=zL T l+zL T r:=by
 unfold zL;rw [Jj,List.sum_append]
theorem zL_Fl (T:Tb):∀ hs:F2.Fms,zL T (Fl hs)=zFs T hs
 | .nil=>rfl
 | .cons f r=>by
  show zF T f+zL T (Fl r)=zF T f+zFs T r;rw [zL_Fl T r]
def X4 (s n:Nat):iNs (slots s (n+1))=iNs (slots s n)++[V.int ((s+n:Nat):Int)]:=by
 unfold iNs slots;rw [List.range_succ,Jj,Jj];rfl
def ok_mkcall {c:F2.Cs} {q:QCs} {n:Nat} (d:zC K mg "make_call" xt ["maker","form","aim"]) (L:FormK K c) (MC:MakerC K q.ma) (AC:AimC K q.ai) (AG:AimG mg q) (IA:OkI P w K mg base (CXe P w base) 1 q.ai ["self","seat","mask","level","own"] (spI_Aim q.ai)) (PB:OkM P w K mg base CX0 1 q.ma "put_by" ["self","seat","mask"] (spPutBy q)) (MF:Ok P w K mg base CX0 (3*n+4) "make_form" ["maker","form","aim"] (spMk c q K n)):Ok P w K mg base CX0 (3*n+6) "make_call" ["maker","form","aim"] (spMx c q K n isU):=by
 obtain ⟨g,fd,m,F,b⟩:=d;refine ⟨g,fd,m,F.kp,b,F.ok sc_make_call (by rintro vs H Q E ⟨_,_,_,_,_,_,_,_,_,_,_,e,_⟩;rw [e];rfl) λcdv A outer s H vs Q E hr h=>?_⟩;obtain ⟨B,g,x,a,s,p,mk,lv,ow,cs,F,rfl,iF,h,hg,⟨da,oa,ea,qa⟩,hx,mF,cl,k⟩:=h
 cases F with
 | call j hs =>
  obtain ⟨dx,l,ys,ex,el,hys⟩:=hx;have nd:=sc_make_call.nd;have hrF:Room (3*n+4) _:=hr.mono (by omega);have hr2:Room 2 _:=hr.mono (by omega);have hr1:Room 1 _:=hr.mono (by omega);have zz:zFs g.d.T hs+g.d.T.z j+1<=n+1:=mF.z;have ez:zF g.d.T (.call j hs)=zFs g.d.T hs+g.d.T.z j+1:=rfl;obtain ⟨⟨j0,j1,j2⟩,oks⟩:=mF.o;have yl:ys.length=(Fl hs).length:=by rw [hys.len,Zs]
  have tz:=g.d.ok.z j j0 j1;let fh:F2.Fm->Nat->List (Jm):=λh s'=>g.code n h p mk lv s' ow;refine ⟨_,(zc (zA (i:=3) nd rfl (Or.inl rfl) (zq (pv 0) rfl))
   (zc (zA (i:=4) nd rfl (Or.inl rfl) (zQ ze))
   (zc (ZK PassesOwn.never rfl (Zl (zq (pv 1) rfl)) (xD (i:=5) nd rfl (Or.inl rfl)) (zc (zX (zG MF hrF (by rfl) zJ (zb (pv 0) (zb (pv 5) (zb (pv 2) ze)))))
   (zf (zX (xI PySem.F.plainAttrs_list PySem.F.slot_list_append PySem.F.type_list_append yr (pv 4) (zb (pe_okM PB MC.c hr1 zJ (pv 0) (zb (zq (pv 2) rfl) (zb (zq (pv 2) rfl) ze))) ze))))))
   (zc (zA (i:=6) nd rfl (Or.inl rfl) (zP yj (zP zY (zq (pv 0) rfl) (zq (pv 1) rfl) (λ_ _=>rfl)) zd (λ_ _=>rfl)))
   (zc (zX (zG MF hrF (by rfl) zJ (zb (pv 0) (zb (pv 6) (zb (zV IA AG.ai hr2 (by rfl) zW (zb (zq (pv 2) rfl) (zb (zq (pv 2) rfl) (zb (zq (pv 2) rfl) (zb (pv 4) ze))))) ze)))))
   (zf (zM (pv 0) (pv 3) rfl))))))),?_⟩
  refine ⟨_,rfl,g.m,_,g.dm,_,.int s,rfl,Hd.m h,MC.c,MC.n4,rfl,?_⟩;refine ⟨szU 0,λwn nw=>?_⟩;have h0:Hd B ((wn,.lst (iNs (slots s 0)))::[(g.cd,.lst (cs.map V.ref)),(g.m,.ins q.ma g.dm (g.fl s))]) (upd H wn (.lst [])):=Hd.new h nw;generalize upd H wn (.lst [])=H1 at h0 ⊢;clear h;refine ⟨_,rfl,x,_,dx,_,.ref l,rfl,h0.sm _ _ ex,L.call.k.cl,L.u2,rfl,l,rfl,⟨_,SqL.of (h0.sm _ _ el)⟩,?_⟩;refine Zw (K:=K) (a:=l) (xs:=ys.map V.ref) (λi σ J=>∃ u B1 ts,σ=[rq g.m,rq x,rq a,iq s,rq wn,u,none]/\Same B B1/\Hd B1 ((wn,.lst (iNs (slots s i)))::[(g.cd,.lst ((cs++ts).map V.ref)),(g.m,.ins q.ma g.dm (g.fl (s+i)))]) J/\ts.length<=6*zL g.d.T ((Fl hs).take i)/\CodeAt B1 ts (Zv fh p mk ((Fl hs).take i) s)) ⟨none,B,[],rfl,Same.refl _,by rw [x1x];exact h0,Nat.zero_le _,YF⟩ (λi σ J _ ⟨_,B1,_,_,sB,h,_⟩=>SqL.of (h.sm _ _ (sB _ _ el))) ?_ ?_
  ·rintro i y σ J hi ⟨u,B1,ts,rfl,sB,h,tl,ct⟩
   obtain ⟨t,et,rfl⟩:=ZM hi;obtain ⟨f,ef,hf⟩:=YC hys et;have il:i<(Fl hs).length:=(List.getElem?_eq_some_iff.mp ef).1;have eT:(Fl hs).take (i+1)=(Fl hs).take i++[f]:=by rw [List.take_add_one,ef];rfl
   have lT:((Fl hs).take i).length=i:=by rw [List.length_take];omega
   have mf:=mem_Fl (T:=g.d.T) (List.mem_of_getElem? ef) oks
   have za:zL g.d.T ((Fl hs).take i)+zF g.d.T f<=zFs g.d.T hs:=by
    rw [← zL_snoc,← eT,← zL_Fl];have:=zL_app g.d.T ((Fl hs).take (i+1)) ((Fl hs).drop (i+1));rw [List.take_append_drop] at this;omega
   have m1:Mk1 g.d ow.length n f:=⟨mf.1,by omega⟩;have nB:B1 wn=none:=h.nw _ q9y;have hS:=h.settle;have s1:Same B1 (upd B1 wn (.lst (iNs (slots s i)))):=h.settled;have sS:=sB.trans s1;refine ⟨_,rfl,_,rfl,_,rfl,_,g,t,a,s+i,p,mk,lv,ow,cs++ts,f,rfl,hS,hg.same sS,⟨da,oa,sS _ _ ea,zD qa sS⟩,hf.same sS,m1,by rw [Ji];omega,λB2 H2 ts2 s2 h2 c2=>?_⟩;have l2:=ZF m1 c2;have sS2:=sS.trans s2;have ew2:B2 wn=some (.lst (iNs (slots s i))):=s2 _ _ zg;refine ⟨_,rfl,.inl ⟨rfl,_,SqL.of (h2.sm _ _ ew2)⟩,_,rfl,g.m,g.dm,_,rfl,Hd.m h2,rfl,_,rfl,a,_,da,_,.int p,rfl,h2.sm _ _ (sS2 _ _ ea),AC.c,AC.n0,rfl,_,rfl,a,_,da,_,.int mk,rfl,h2.sm _ _ (sS2 _ _ ea),AC.c,AC.n1,rfl,B2,g,s+i,p,mk,cs++ts++ts2,rfl,h2,by rw [Ji,Ji];omega,λB3 H3 t3 s3 h3 e3=>?_⟩;have ew3:=s3 _ _ ew2;refine ⟨wn,_,_,rfl,rfl,h3.sm _ _ ew3,(by unfold iNs;rw [Jh,ZX];exact sz3 (by have:=Zs hs;have:=Yg g.d.T hs;omega)),?_⟩;have h4:=(h3.out ew3).put (o':=.lst (iNs (slots s i)++[V.int ((s+i:Nat):Int)])) 0 rfl;have so:=same_out nB (s2.trans s3);refine ⟨some (.ref t),but B3 [wn],ts++ts2++[t3],rfl,sB.trans so,?_,?_,?_⟩
   ·rw [X4,show cs++(ts++ts2++[t3])=cs++ts++ts2++[t3] by simp only [List.append_assoc]]
    exact h4
   ·rw [eT,zL_snoc,Ji,Ji]
    show ts.length+ts2.length+1<=_;omega
   ·rw [eT,Z9,lT]
    refine zO (zO ((ct.same so)) ?_) ?_
    ·exact (c2.same s3).out ew3
    ·exact (zT e3).out ew3
  ·rintro σ J ⟨u,B1,ts,rfl,sB,h,tl,ct⟩
   rw [Jh,yl,List.take_length] at ct tl;rw [Jh,yl] at h;rw [zL_Fl] at tl;obtain ⟨xs,tt,bb,nn,qf,eaj,ett,hb⟩:=fun_at hg.fu j0 j1;have hS:=h.settle;have sS:=sB.trans h.settled;have sJ:=sS.trans hS.sm;refine ⟨_,rfl,g.m,_,g.dm,_,.ref g.fu,rfl,Hd.m hS,MC.c,MC.n1,rfl,_,rfl,x,_,dx,_,.int j,rfl,sJ _ _ ex,L.call.k.cl,L.u1,rfl,g.fu,_,_,_,rfl,rfl,zD qf sJ,eaj,tt,_,_,_,rfl,rfl,F2.sqt_same ett sJ,zE (j:=1) rfl,?_⟩;have eJ:=sJ _ _ ea;refine ⟨_,rfl,_,rfl,_,rfl,a,_,da,_,.int p,rfl,eJ,AC.c,AC.n0,rfl,_,rfl,a,_,da,_,.int mk,rfl,eJ,AC.c,AC.n1,rfl,_,rfl,a,_,da,_,.int lv,rfl,eJ,AC.c,AC.n2,rfl,_,rfl,?_⟩;refine λai dai n1 n2 n3=>⟨ai,dai,.int p,.int mk,.int lv,.ref wn,rfl,zg,λH3 k3 e3=>⟨rfl,?_⟩⟩;obtain ⟨B3,s3,e3',h3⟩:=hdM hS n1 n2 n3 k3 e3;have sS3:=sS.trans s3;have mb:Mk1 g.d (slots s (Fl hs).length).length n (F2.bodyOf g.d.fs j):=⟨by rw [ZX,Zs,j2];exact g.d.ok.o j j0 j1,by omega⟩;refine ⟨B3,g,bb,ai,s+(Fl hs).length,p,mk,lv,slots s (Fl hs).length,cs++ts,F2.bodyOf g.d.fs j,rfl,h3,hg.same sS3,⟨dai,wn,e3',SqL.of (s3 _ _ zg)⟩,hb.same sS3,mb,by rw [Ji];omega,λB4 H4 ts2 s4 h4 c4=>?_⟩;refine ⟨_,rfl,_,rfl,g.m,_,g.dm,_,rfl,Hd.m h4,MC.c,MC.n4,(by show 5<1000;decide),?_⟩;have h5:MkAt q B4 g s (cs++ts++ts2) (upd H4 g.m (.ins q.ma g.dm (Zk "free_slot" (.int s) (g.fl (s+(Fl hs).length))))):=MkAt.free' (s':=s) h4;refine k B4 _ (ts++ts2) (sS3.trans s4) (by rw [← List.append_assoc];exact h5) ?_;show CodeAt B4 _ (Za fh p mk hs s++g.code n (F2.bodyOf g.d.fs j) p mk lv (s+hs.len) (slots s hs.len));rw [hands_L,← Zs];exact zO (ct.same ((h.settled.trans s3).trans s4)) c4
 | _=>exact absurd iF Bool.noConfusion
def ok_mk_s {c:F2.Cs} {q:QCs} {n:Nat} (d:zC K mg "make_form" xr ["maker","form","aim"]) (hisi:mg "isinstance"=none) (G:FormG mg c) (L:FormK K c) (MC:MakerC K q.ma) (MA:Ok P w K mg base CX0 (3*n+6) "make_at" ["maker","form","aim"] (spMx c q K n isA)) (MP:Ok P w K mg base CX0 (3*n+6) "make_pair" ["maker","form","aim"] (spMx c q K n isP)) (MO:Ok P w K mg base CX0 (3*n+6) "make_choice" ["maker","form","aim"] (spMx c q K n isO)) (MC0:Ok P w K mg base CX0 (3*n+6) "make_call" ["maker","form","aim"] (spMx c q K n isU)) (LS:Ok P w K mg base CX0 2 "leaf_step" ["maker","form","aim"] (spLeafStep c q K)):Ok P w K mg base CX0 (3*n+7) "make_form" ["maker","form","aim"] (spMk c q K (n+1)):=by
 obtain ⟨g,fd,m,F,b⟩:=d;refine ⟨g,fd,m,F.kp,b,F.ok sc_make_form (by rintro vs H Q E ⟨_,_,_,_,_,_,_,_,_,_,_,e,_⟩;rw [e];rfl) λcdv A outer s H vs Q E hr h=>?_⟩;obtain ⟨B,g,x,a,s,p,mk,lv,ow,cs,F,rfl,h,hg,ha,hx,mF,cl,k⟩:=h;have nd:=sc_make_form.nd;have hrM:=hr;have hr2:Room 2 _:=hr.mono (by omega);have s':=L.of F;obtain ⟨dx,fl,ex⟩:=YD (hx.same h.sm);refine ⟨_,(zf (zu (yb (zw zB (by rfl) hisi PyProof.Rows.boot_isinstance (zb (pv 1) (zb (yw G.at') ze)))) (zf (zX (zG MA hrM (by rfl) zJ (zb (pv 0) (zb (pv 1) (zb (pv 2) ze)))))) (zf (zu (yb (zw zB (by rfl) hisi PyProof.Rows.boot_isinstance (zb (pv 1) (zb (yw G.pair) ze)))) (zf (zX (zG MP hrM (by rfl) zJ (zb (pv 0) (zb (pv 1) (zb (pv 2) ze)))))) (zf (zu (yb (zw zB (by rfl) hisi PyProof.Rows.boot_isinstance (zb (pv 1) (zb (yw G.cho) ze)))) (zf (zX (zG MO hrM (by rfl) zJ (zb (pv 0) (zb (pv 1) (zb (pv 2) ze)))))) (zf (zu (yb (zw zB (by rfl) hisi PyProof.Rows.boot_isinstance (zb (pv 1) (zb (yw G.call) ze)))) (zf (zX (zG MC0 hrM (by rfl) zJ (zb (pv 0) (zb (pv 1) (zb (pv 2) ze)))))) (zf (zX (xI PySem.F.plainAttrs_list PySem.F.slot_list_append PySem.F.type_list_append yr (zq (pv 0) rfl) (zb (zG LS hr2 (by rfl) zJ (zb (pv 0) (zb (pv 1) (zb (pv 2) ze)))) ze)))))))))))),?_⟩;refine ⟨_,rfl,_,_,.ref c.at',_,isA F,rfl,rfl,(λu r=>r),s'.k.ty ex,s'.a,_,rfl,?_⟩;refine z7 (λz=>?_) (λz1=>?_)
 ·exact ⟨_,rfl,_,rfl,_,rfl,B,g,x,a,s,p,mk,lv,ow,cs,F,rfl,z,h,hg,ha,hx,mF,cl,k⟩
 refine ⟨_,rfl,_,_,.ref c.pair,_,isP F,rfl,rfl,(λu r=>r),s'.k.ty ex,s'.p,_,rfl,?_⟩;refine z7 (λz=>?_) (λz2=>?_)
 ·exact ⟨_,rfl,_,rfl,_,rfl,B,g,x,a,s,p,mk,lv,ow,cs,F,rfl,z,h,hg,ha,hx,mF,cl,k⟩
 refine ⟨_,rfl,_,_,.ref c.cho,_,isO F,rfl,rfl,(λu r=>r),s'.k.ty ex,s'.o,_,rfl,?_⟩;refine z7 (λz=>?_) (λz3=>?_)
 ·exact ⟨_,rfl,_,rfl,_,rfl,B,g,x,a,s,p,mk,lv,ow,cs,F,rfl,z,h,hg,ha,hx,mF,cl,k⟩
 refine ⟨_,rfl,_,_,.ref c.call,_,isU F,rfl,rfl,(λu r=>r),s'.k.ty ex,s'.u,_,rfl,?_⟩;refine z7 (λz=>?_) (λz4=>?_)
 ·exact ⟨_,rfl,_,rfl,_,rfl,B,g,x,a,s,p,mk,lv,ow,cs,F,rfl,z,h,hg,ha,hx,mF,cl,k⟩
 have lF:Xn F=true:=by
  unfold Xn;rw [Bool.eq_false_iff.mpr z1,Bool.eq_false_iff.mpr z2,Bool.eq_false_iff.mpr z3,Bool.eq_false_iff.mpr z4];rfl
 have z1:=xE g.d.T F;refine ⟨_,rfl,g.m,_,g.dm,_,.ref g.cd,rfl,Hd.m h,MC.c,MC.n3,rfl,.inl ⟨rfl,_,Hd.lst h 0 rfl⟩,_,rfl,_,rfl,_,rfl,g,x,a,s,p,mk,lv,ow,F,rfl,Hd.m h,ha.same h.sm,hx.same h.sm,lF,h.sql hg.le,(by rw [hg.nr];exact mF.o),λt nt=>?_⟩;generalize hX:upd _ _ _=H5;obtain ⟨B5,s5,e5,h5⟩:=hdG h hX nt;clear hX;refine ⟨g.cd,_,_,rfl,rfl,Hd.get h5 0 rfl,(by rw [Jh];exact sz3 (by omega)),?_⟩;exact k B5 _ [t] s5 (MkAt.row (t:=t) h5) (by rw [leaf_code lF];exact zT e5)
structure MkDs (K:Fg) (mg:J0):Prop where
 f:zC K mg "make_form" xr ["maker","form","aim"]
 a:zC K mg "make_at" Zc ["maker","form","aim"]
 p:zC K mg "make_pair" xq ["maker","form","aim"]
 o:zC K mg "make_choice" yR ["maker","form","aim"]
 u:zC K mg "make_call" xt ["maker","form","aim"]
 t:zC K mg "make_two" xH ["maker","first","first_aim","second","second_aim"]
def mk_no {c:F2.Cs} {q:QCs} {vs:Jm} {H:Hp} {Q:VK} {E:XK}:¬ spMk c q K 0 vs H Q E:=λ⟨_,g,_,_,_,_,_,_,_,_,F,_,_,_,_,_,m,_,_⟩=>by have:=m.z;have:=xE g.d.T F;omega
theorem ok_mk {c:F2.Cs} {q:QCs} {tF:Tok} (D:MkDs K mg) (hisi:mg "isinstance"=none) (hFC:mg "FIRST_CHOICE_MASK"=some (.int 2 tF)) (G:FormG mg c) (L:FormK K c) (MC:MakerC K q.ma) (AC:AimC K q.ai) (AG:AimG mg q) (IA:OkI P w K mg base (CXe P w base) 1 q.ai ["self","seat","mask","level","own"] (spI_Aim q.ai)) (PB:OkM P w K mg base CX0 1 q.ma "put_by" ["self","seat","mask"] (spPutBy q)) (LS:Ok P w K mg base CX0 2 "leaf_step" ["maker","form","aim"] (spLeafStep c q K)) (SF:∀ n:Nat,n<=400->Ok P w K mg base CX0 (2*n+2) "seats_for" ["form","functions"] (spSF c K n)):∀ n:Nat,n<=400->Ok P w K mg base CX0 (3*n+4) "make_form" ["maker","form","aim"] (spMk c q K n)
 | 0,_=>(ok_no D.f sc_make_form λ_ _ _ _=>mk_no).mono (by omega)
 | n+1,n4=>by
  have h:=ok_mk D hisi hFC G L MC AC AG IA PB LS SF n (by omega);have t:=ok_two D.t MC AC AG IA PB (SF n (by omega)) h;exact ok_mk_s D.f hisi G L MC (ok_mkat D.a L MC AC h) (ok_mkpair D.p L MC AC t) (ok_mkcho D.o hFC L MC AC AG IA h t) (ok_mkcall D.u L MC AC AG IA PB h) LS
structure Pg where
 lens:Ja
 d:Fx
 n:Nat
abbrev Pg.cf (D:Pg) (se:Nat) (F:F2.Fm) (p mk lv s:Nat):List (Jm):=mkC D.lens D.d.fs D.d.T se D.n F p mk lv s []
abbrev Pg.sn (D:Pg) (F:F2.Fm):Nat:=sN D.d.T F
def ZL:Option F2.Fm->Nat
 | none=>0
 | some _=>1
def mayF (tv:Jm):Bool:=decide (tv[0]?=some (.str "gather")) || decide (tv[0]?=some (.str "reach")) || (decide (tv[0]?=some (.str "op")) && (decide (tv[2]?=some (.str "/")) || decide (tv[2]?=some (.str "rest"))))
def letT (tg mk:Nat):Jm:=[.str "store",.int tg,.int 0,.int mk]
def tailC (may:Bool) (eff:Jm) (n:Int):List (Jm):=if may then [[.str "trim"],eff,[.str "stop",.int n]] else [eff]
def Xf (mn_ g:Int) (body:List (Jm)) (may:Bool) (eff:Jm) (n:Int):List (Jm):=[[.str "begin",.int mn_,.int g]]++body++tailC may eff n++[[.str "next"]]
inductive Stp1
 | let_ (tg:Nat) (v:F2.Fm) (t:Option F2.Fm)
 | put (tg:Nat) (v p:F2.Fm) (mn_:Int) (t:Option F2.Fm)
 | fold (tg:Nat) (f:Str) (v:F2.Fm) (mn_:Int) (t:Option F2.Fm)
 | run (tg:Nat) (f:Str) (v:F2.Fm) (t:Option F2.Fm)
def Stp1.v:Stp1->F2.Fm
 | .let_ _ v _=>v
 | .put _ v _ _ _=>v
 | .fold _ _ v _ _=>v
 | .run _ _ v _=>v
def Stp1.t:Stp1->Option F2.Fm
 | .let_ _ _ t=>t
 | .put _ _ _ _ t=>t
 | .fold _ _ _ _ t=>t
 | .run _ _ _ t=>t
def Stp1.tg:Stp1->Nat
 | .let_ tg _ _=>tg
 | .put tg _ _ _ _=>tg
 | .fold tg _ _ _ _=>tg
 | .run tg _ _ _=>tg
def Stp1.mn_ (lens:Ja):Stp1->Int
 | .let_ tg _ _=>lens.getD tg 0
 | .put _ _ _ m _=>m
 | .fold _ _ _ m _=>m
 | .run tg _ _ _=>lens.getD tg 0
def Stp1.valC (D:Pg) (se mk:Nat):Stp1->List (Jm)
 | .put tg v p _ _=>Zf (0+1+D.sn p<=se) (D.cf se v 0 mk 0 0) (D.cf se p (0+1) mk 0 0) (D.cf se p 0 mk 0 (0+1)) 0 0 mk++[[.str "reach",.int ((if 0+1+D.sn p<=se then 1 else 0:Nat):Int),.int (D.lens.getD tg 0),.int mk]]
 | s=>D.cf se s.v 0 mk 0 0
def Stp1.eff (D:Pg) (se mk:Nat):Stp1->Jm
 | .let_ tg _ _=>letT tg mk
 | .put tg _ p _ _=>[.str "put",.int tg,.int ((if 0+1+D.sn p<=se then 1 else 0:Nat):Int),.int ((if 0+1+D.sn p<=se then 0 else 1:Nat):Int),.int mk]
 | .fold tg f _ _ _=>[.str "fold",.int tg,.str f,.int 0,.int mk]
 | .run tg f _ _=>[.str "running",.int tg,.str f,.int 0,.int mk]
def Stp1.s0 (D:Pg):Stp1->Nat
 | .put _ v p _ _=>max (D.sn v) (1+D.sn p)
 | s=>D.sn s.v
def Stp1.seats (D:Pg) (s:Stp1):Nat:=match s.t with
 | none=>s.s0 D
 | some t=>max (s.s0 D) (D.sn t)
def testC (D:Pg) (se:Nat):Option F2.Fm->List (Jm)
 | none=>[]
 | some t=>D.cf se t 0 0 0 0++[[.str "choose",.int 1,.int 0,.int 0]]
def Stp1.body (D:Pg) (se:Nat) (s:Stp1):List (Jm):=testC D se s.t++s.valC D se (ZL s.t)
def grOf (n:Nat):Nat:=if n<=2 then 4 else if n<=4 then 2 else 1
def Stp1.code (D:Pg) (g:Nat) (s:Stp1) (n:Int):List (Jm):=Xf (s.mn_ D.lens) g (s.body D (8 / g)) ((s.body D (8 / g)).any mayF) (s.eff D (8 / g) (ZL s.t)) n
def Stp1.grp (D:Pg) (gp:Nat) (s:Stp1):Nat:=if gp=0 then grOf (s.seats D) else gp
def TestAt (c:F2.Cs) (B:Hp) (tv:V):Option F2.Fm->Prop
 | none=>tv=.non
 | some f=>∃ y,tv=.ref y/\F2.FormAt c B f y
def TestAt.same {c:F2.Cs} {B B':Hp} {tv:V} {t:Option F2.Fm} (h:TestAt c B tv t) (s:Same B B'):TestAt c B' tv t:=by
 cases t with
 | none=>exact h
 | some f=>obtain ⟨y,e,q⟩:=h;exact ⟨y,e,q.same s⟩
def StepAt (c:F2.Cs) (q:QCs) (B:Hp) (s:Ad):Stp1->Prop
 | .let_ tg v t=>∃ ds x tv,B s=some (.ins q.let_ ds [("target",.int tg),("value",.ref x),("test",tv)])/\F2.FormAt c B v x/\TestAt c B tv t
 | .put tg v p m t=>∃ ds x y tv,B s=some (.ins q.put ds [("target",.int tg),("value",.ref x),("place",.ref y),("many",.int m),("test",tv)])/\F2.FormAt c B v x/\F2.FormAt c B p y/\TestAt c B tv t
 | .fold tg f v m t=>∃ ds x tv,B s=some (.ins q.fold ds [("target",.int tg),("fold",.str f),("value",.ref x),("many",.int m),("test",tv)])/\F2.FormAt c B v x/\TestAt c B tv t
 | .run tg f v t=>∃ ds x tv,B s=some (.ins q.run ds [("target",.int tg),("fold",.str f),("value",.ref x),("test",tv)])/\F2.FormAt c B v x/\TestAt c B tv t
theorem StepAt.same {c:F2.Cs} {q:QCs} {B B':Hp} {s:Ad} (z:Same B B'):∀ {st:Stp1},StepAt c q B s st->StepAt c q B' s st
 | .let_ _ _ _,⟨ds,x,tv,e,h1,h2⟩=>⟨ds,x,tv,z _ _ e,h1.same z,h2.same z⟩
 | .put _ _ _ _ _,⟨ds,x,y,tv,e,h1,h2,h3⟩=>⟨ds,x,y,tv,z _ _ e,h1.same z,h2.same z,h3.same z⟩
 | .fold _ _ _ _ _,⟨ds,x,tv,e,h1,h2⟩=>⟨ds,x,tv,z _ _ e,h1.same z,h2.same z⟩
 | .run _ _ _ _,⟨ds,x,tv,e,h1,h2⟩=>⟨ds,x,tv,z _ _ e,h1.same z,h2.same z⟩
def clsS (q:QCs):Stp1->Ad
 | .let_ _ _ _=>q.let_
 | .put _ _ _ _ _=>q.put
 | .fold _ _ _ _ _=>q.fold
 | .run _ _ _ _=>q.run
def sIsP:Stp1->Bool
 | .put _ _ _ _ _=>true
 | _=>false
def sIsL:Stp1->Bool
 | .let_ _ _ _=>true
 | _=>false
def sIsF:Stp1->Bool
 | .fold _ _ _ _ _=>true
 | _=>false
structure StepG (mg:J0) (q:QCs):Prop where
 let_:mg "Let"=some (.ref q.let_)
 put:mg "Put"=some (.ref q.put)
 fold:mg "Fold"=some (.ref q.fold)
 till:mg "Till"=some (.ref q.till)
structure StpC (K:Fg) (q:QCs) (C:Ad) (p l f:Bool):Prop where
 k:KF K C
 p:isK K C q.put p
 l:isK K C q.let_ l
 f:isK K C q.fold f
 t:isK K C q.till false
 n0:NoAttr K C "target"
 n1:NoAttr K C "value"
 n2:NoAttr K C "test"
structure StepK (K:Fg) (q:QCs):Prop where
 let_:StpC K q q.let_ false true false
 put:StpC K q q.put true false false
 p3:NoAttr K q.put "place"
 p4:NoAttr K q.put "many"
 fold:StpC K q q.fold false false true
 f3:NoAttr K q.fold "fold"
 f4:NoAttr K q.fold "many"
 run:StpC K q q.run false false false
 r3:NoAttr K q.run "fold"
theorem StepK.of {K:Fg} {q:QCs} (L:StepK K q):∀ s:Stp1,StpC K q (clsS q s) (sIsP s) (sIsL s) (sIsF s)
 | .let_ _ _ _=>L.let_
 | .put _ _ _ _ _=>L.put
 | .fold _ _ _ _ _=>L.fold
 | .run _ _ _ _=>L.run
theorem StepAt.ins {c:F2.Cs} {q:QCs} {B:Hp} {s:Ad}:∀ {st:Stp1},StepAt c q B s st->∃ ds fl x tv,B s=some (.ins (clsS q st) ds fl)/\fl.lookup ("target":Str)=some (V.int st.tg)/\fl.lookup ("value":Str)=some (V.ref x)/\fl.lookup ("test":Str)=some tv/\fl.lookup ("many_of":Str)=none/\F2.FormAt c B st.v x/\TestAt c B tv st.t
 | .let_ _ _ _,⟨ds,x,tv,e,h1,h2⟩=>⟨ds,_,x,tv,e,rfl,rfl,rfl,rfl,h1,h2⟩
 | .put _ _ _ _ _,⟨ds,x,y,tv,e,h1,h2,h3⟩=>⟨ds,_,x,tv,e,rfl,rfl,rfl,rfl,h1,h3⟩
 | .fold _ _ _ _ _,⟨ds,x,tv,e,h1,h2⟩=>⟨ds,_,x,tv,e,rfl,rfl,rfl,rfl,h1,h2⟩
 | .run _ _ _ _,⟨ds,x,tv,e,h1,h2⟩=>⟨ds,_,x,tv,e,rfl,rfl,rfl,rfl,h1,h2⟩
structure StF (D:Pg) (s:Stp1):Prop where
 n:D.n<=150
 v:Mk1 D.d 0 D.n s.v
 t:∀ f,s.t=some f->Mk1 D.d 0 D.n f
 p:∀ tg v p m t,s=.put tg v p m t->Mk1 D.d 0 D.n p
 g:s.tg<D.lens.length
def Xs {D:Pg} {F:F2.Fm} (h:Mk1 D.d 0 D.n F) (se p mk lv s:Nat):(D.cf se F p mk lv s).length+1<=6*D.n:=Nat.le_trans (yG D.d.ok D.n F p mk lv s _ [] h.z h.o) (by have:=h.z;omega)
def xv (tv:Jm):Prop:=∃ z r,tv=.str z::r/\(z="op"->∃ a sg r',r=a::.str sg::r')
def ym {z:Str} {r:Jm} (h:z≠"op"):xv (.str z::r):=⟨z,r,rfl,λe=>absurd e h⟩
def row_op (p:Nat) (sg:Str) (a c mk:Nat):xv (opT p sg a c mk):=⟨"op",_,rfl,λ_=>⟨_,_,_,rfl⟩⟩
def yq {a b:List (Jm)} (h1:∀ tv∈a,xv tv) (h2:∀ tv∈b,xv tv):∀ tv∈a++b,xv tv:=λtv h=>(List.mem_append.mp h).elim (h1 tv) (h2 tv)
def yu {a:Jm} (h1:xv a):∀ tv∈[a],xv tv:=λtv h=>by rw [List.mem_singleton.mp h];exact h1
def Yy {fits:Prop} [Decidable fits] {c1 c2 c2':List (Jm)} {p s mk:Nat} (h1:∀ tv∈c1,xv tv) (h2:∀ tv∈c2,xv tv) (h3:∀ tv∈c2',xv tv):∀ tv∈Zf fits c1 c2 c2' p s mk,xv tv:=by
 unfold Zf
 split
 ·exact yq h1 h2
 ·exact yq (yq (yq h1 (yu (ym (by decide)))) h3) (yu (ym (by decide)))
theorem yy {lens:Ja} {fs:List F2.Fn} {T:Tb} {se:Nat}:∀ (n:Nat) (F:F2.Fm) (p mk lv s:Nat) (ow:List Nat),∀ tv∈mkC lens fs T se n F p mk lv s ow,xv tv
 | 0,F,p,mk,lv,s,ow,tv,h=>nomatch h
 | n+1,F,p,mk,lv,s,ow,tv,h=>by
  revert tv
  cases F with
  | num v=>exact yu (ym (by decide))
  | here=>exact yu (ym (by decide))
  | cell r=>exact yu (by unfold Y1;split <;> exact ym (by decide))
  | shi r d o=>exact yu (ym (by decide))
  | loc a=>exact yu (ym (by decide))
  | at' r f=>exact yq (yy n f p mk lv s ow) (yu (ym (by decide)))
  | pair sg l r=>exact yq (Yy (yy n l _ _ _ _ _) (yy n r _ _ _ _ _) (yy n r _ _ _ _ _)) (yu (by split <;> exact row_op _ _ _ _ _))
  | cho t l r=>exact yq (yq (yq (yy n t _ _ _ _ _) (yq (yu (ym (by decide))) (yu (ym (by decide))))) (Yy (yy n l _ _ _ _ _) (yy n r _ _ _ _ _) (yy n r _ _ _ _ _))) (yu (by split <;> exact ym (by decide)))
  | call a hs =>
   refine yq ?_ (yy n _ _ _ _ _ _)
   have key:∀ (hs:F2.Fms) (s:Nat),∀ tv∈Za (λh s'=>mkC lens fs T se n h p mk lv s' ow) p mk hs s,xv tv:=by
    intro hs
    induction hs using F2.Fms.rec (motive_1:=λ_=>True) with
    | nil=>exact λ_ tv h=>nomatch h
    | cons g r _ ih=>exact λs=>yq (yq (yy n g _ _ _ _ _) (yu (ym (by decide)))) (ih (s+1))
    | _=>trivial
   exact key hs s
inductive spMay (K:Fg) (vs:Jm) (H:Hp) (Q:VK) (_:XK):Prop
 | mk (t:Ad) (tv:Jm) (_:vs=[.ref t]) (_:SqT K H t tv) (_:xv tv) (_:∀ H',Same H H'->Q (.bl (mayF tv)) H')
def ok_may (d:zC K mg "may_fault" xL ["step"]):Ok P w K mg base CX0 1 "may_fault" ["step"] (spMay K):=by
 obtain ⟨g,fd,m,F,b⟩:=d;refine ⟨g,fd,m,F.kp,b,F.ok sc_may_fault (by rintro vs H Q E ⟨_,_,e,_⟩;rw [e];rfl) λcdv A outer s H vs Q E hr h=>?_⟩;obtain ⟨t,tv,rfl,hT,⟨z,r,rfl,ho⟩,k⟩:=h;have nd:=sc_may_fault.nd
 have in2:∀ x y:Str,inV (V.str z) [V.str x,V.str y]=(decide (z=x) || decide (z=y)):=λx y=>by
  unfold inV;by_cases h1:z=x
  ·subst h1;simp [eqV]
  ·by_cases h2:z=y
   ·subst h2;simp [eqV]
   ·rw [decide_eq_false h1,decide_eq_false h2]
    simp [eqV];exact ⟨λe=>h1 e.symm,λe=>h2 e.symm⟩
 have e0:∀ x:Str,decide ((V.str z::r)[0]?=some (V.str x))=decide (z=x):=λx=>decide_eq_decide.mpr ⟨λh=>V.str.inj (Option.some.inj h),λh=>by rw [h];rfl⟩;unfold mayF at k;rw [e0,e0,e0] at k;refine ⟨_,(zf (zj (pe_or (yn yX (zP yj (pv 0) zd (λ_ _=>rfl)) (zR (zb zh (zb zh ze))) rfl) (Zu (x9 (yn zx (zP yj (pv 0) zd (λ_ _=>rfl)) zh (zo _)) (Zu (yn yX (zP yj (pv 0) zd (λ_ _=>rfl)) (zR (zb zh (zb zh ze))) rfl))))))),?_⟩;refine ⟨_,rfl,t,_,_,_,rfl,rfl,hT,zE (j:=0) rfl,?_⟩;refine ⟨szU 2,λp np=>⟨p,_,rfl,.inr (SqT.of zg),rfl,rfl,_,rfl,?_⟩⟩;generalize hX:upd _ _ _=H1;obtain ⟨s1,e1⟩:=yi hX np;clear hX;rw [in2]
 cases hb:(decide (z="gather") || decide (z="reach")) with
 | true =>
  rw [hb] at k;exact yB (k H1 s1)
 | false =>
  rw [hb] at k;refine zU ⟨_,rfl,t,_,_,_,rfl,rfl,F2.sqt_same hT s1,zE (j:=0) rfl,rfl,_,rfl,?_⟩;have ez:decide (V.str z=V.str "op")=decide (z="op"):=decide_eq_decide.mpr ⟨V.str.inj,λh=>by rw [h]⟩;rw [ez]
  cases ho':decide (z="op") with
  | false =>
   rw [ho'] at k;exact zU (k H1 s1)
  | true =>
   rw [ho'] at k;obtain ⟨a,sg,r',rfl⟩:=ho (of_decide_eq_true ho');have e2:∀ x:Str,decide ((V.str z::a::V.str sg::r')[2]?=some (V.str x))=decide (sg=x):=λx=>decide_eq_decide.mpr ⟨λh=>V.str.inj (Option.some.inj h),λh=>by rw [h];rfl⟩;rw [e2,e2] at k;refine yB ⟨_,rfl,t,_,_,_,rfl,rfl,F2.sqt_same hT s1,zE (j:=2) rfl,?_⟩;refine ⟨szU 2,λp2 np2=>⟨p2,_,rfl,.inr (SqT.of zg),rfl,rfl,?_⟩⟩
   have in3:inV (V.str sg) [V.str "/",V.str "rest"]=(decide (sg="/") || decide (sg="rest")):=by
    unfold inV;by_cases h1:sg="/"
    ·subst h1;simp [eqV]
    ·by_cases h2:sg="rest"
     ·subst h2;simp [eqV]
     ·rw [decide_eq_false h1,decide_eq_false h2]
      simp [eqV];exact ⟨λe=>h1 e.symm,λe=>h2 e.symm⟩
   rw [in3];exact k _ (s1.trans (zN (Same.refl _) np2))
def spSS (c:F2.Cs) (q:QCs) (K:Fg) (n:Nat):Sp:=λvs H Q _=>∃ (s fu:Ad) (D:Pg) (st:Stp1),vs=[.ref s,.ref fu]/\D.n=n/\StepAt c q H s st/\F2.FunsAt c K H fu D.d.fs/\StF D st/\∀ H',Same H H'->Q (.int (st.seats D)) H'
def ok_ss {c:F2.Cs} {q:QCs} {n:Nat} (d:zC K mg "seats_for_step" yO ["step","functions"]) (hisi:mg "isinstance"=none) (hmax:mg "max"=none) (SG:StepG mg q) (SK:StepK K q) (SF:Ok P w K mg base CX0 (2*n+2) "seats_for" ["form","functions"] (spSF c K n)) (S2:Ok P w K mg base CX0 (2*n+3) "seats_for_two" ["first","second","functions"] (spS2 c K n)):Ok P w K mg base CX0 (2*n+4) "seats_for_step" ["step","functions"] (spSS c q K n):=by
 obtain ⟨g,fd,m,F,b⟩:=d;refine ⟨g,fd,m,F.kp,b,F.ok sc_seats_for_step (by rintro vs H Q E ⟨_,_,_,_,e,_⟩;rw [e];rfl) λcdv A outer s H vs Q E hr h=>?_⟩;obtain ⟨s,fu,D,st,rfl,rfl,hs,hfu,hf,k⟩:=h;have nd:=sc_seats_for_step.nd;have hrS2:=hr;have hrS:Room (2*D.n+2) _:=hr.mono (by omega);have kk:=SK.of st;obtain ⟨ds,fl,x,tv,es,f0,f1,f2,f3,hx,ht⟩:=hs.ins;refine ⟨_,(zc (zA (i:=2) nd rfl (Or.inl rfl) (zG SF hrS (by rfl) zJ (zb (zq (pv 0) rfl) (zb (pv 1) ze))))
   (zc (yQ (zu (yb (zw zB (by rfl) hisi PyProof.Rows.boot_isinstance (zb (pv 0) (zb (yw SG.put) ze)))) (zf (zA (i:=2) nd rfl (Or.inl rfl) (zG S2 hrS2 (by rfl) zJ (zb (zq (pv 0) rfl) (zb (zq (pv 0) rfl) (zb (pv 1) ze)))))) zk))
   (zc (zu (zi op_notN (zq (pv 0) rfl) pe_non (zo _)) (zf (zA (i:=2) nd rfl (Or.inl rfl) (zw (Z5 rfl) (by rfl) hmax PyProof.Rows.boot_max (zb (pv 2) (zb (zG SF hrS (by rfl) zJ (zb (zq (pv 0) rfl) (zb (pv 1) ze))) ze))))) zk)
   (zf (zj (pv 2)))))),?_⟩
 refine ⟨_,rfl,s,_,ds,_,_,rfl,es,kk.k.cl,kk.n1,f1,_,rfl,D.d,0,x,fu,st.v,rfl,hx,hfu,hf.v,λH1 s1=>?_⟩;refine ⟨λσ J=>σ=[rq s,rq fu,iq (st.s0 D)]/\Same H J,?_,?_⟩
 ·refine ⟨_,rfl,_,_,.ref q.put,_,sIsP st,rfl,rfl,(λu r=>r),kk.k.ty (s1 _ _ es),kk.p,_,rfl,?_⟩
  cases st with
  | put tg v p m t =>
   obtain ⟨ds,x,y,tv,es,hx,hy,ht⟩:=hs;have fp:=hf.p tg v p m t rfl;exact yB ⟨_,rfl,s,_,ds,_,.ref x,rfl,s1 _ _ es,kk.k.cl,kk.n1,rfl,_,rfl,s,_,ds,_,.ref y,rfl,s1 _ _ es,kk.k.cl,SK.p3,rfl,_,rfl,D.d,0,x,y,fu,v,p,rfl,hx.same s1,hy.same s1,hfu.same s1,hf.v,fp,λH2 s2=>⟨rfl,s1.trans s2⟩⟩
  | _=>exact zU ⟨rfl,s1⟩
 rintro σ J ⟨rfl,sJ⟩;refine ⟨_,rfl,s,_,ds,_,tv,rfl,sJ _ _ es,kk.k.cl,kk.n2,f2,rfl,?_⟩
 cases et:st.t with
 | none =>
  have es':st.seats D=st.s0 D:=by unfold Stp1.seats;rw [et]
  rw [et] at ht;have ht:tv=.non:=ht;refine ⟨false,congrArg V.bl (by rw [ht,decide_eq_true rfl];rfl),zU ⟨_,rfl,?_⟩⟩;rw [es'] at k;exact k J sJ
 | some f =>
  have es':st.seats D=max (st.s0 D) (D.sn f):=by unfold Stp1.seats;rw [et]
  rw [et] at ht;obtain ⟨y,ey,hy⟩:=ht;have ft:=hf.t f et;refine ⟨true,congrArg V.bl (by rw [ey,decide_eq_false (by intro z;cases z)];rfl),yB ?_⟩;refine ⟨_,rfl,_,rfl,s,_,ds,_,tv,rfl,sJ _ _ es,kk.k.cl,kk.n2,f2,_,rfl,D.d,0,y,fu,f,by rw [ey];rfl,hy.same sJ,hfu.same sJ,ft,λH2 s2=>?_⟩;refine ⟨_,_,rfl,?_⟩;rw [Xl];rw [es'] at k;exact ⟨_,rfl,k H2 (sJ.trans s2)⟩
inductive spGroupF (vs:Jm) (H:Hp) (Q:VK) (_:XK):Prop
 | mk (n:Nat) (_:vs=[.int n]) (_:Q (.int (grOf n)) H)
def ok_groupF (d:zC K mg "group_for" xV ["seats"]):Ok P w K mg base CX0 1 "group_for" ["seats"] spGroupF:=by
 obtain ⟨g,fd,m,F,b⟩:=d;refine ⟨g,fd,m,F.kp,b,F.ok sc_group_for (by rintro vs H Q E ⟨_,e,_⟩;rw [e];rfl) λcdv A outer s H vs Q E hr h=>?_⟩;obtain ⟨n,rfl,k⟩:=h;have nd:=sc_group_for.nd;unfold grOf at k;refine ⟨_,(zc (zu (zi z9 (pv 0) zd (zo _)) (zf (zj zd)) zk)
   (zc (zu (zi z9 (pv 0) zd (zo _)) (zf (zj zd)) zk)
   (zf (zj zd)))),?_⟩
 refine ⟨_,rfl,_,_,rfl,rfl,_,rfl,?_⟩;refine z7 (λz=>?_) (λz=>?_)
 ·rw [if_pos (by have:=of_decide_eq_true z;omega)] at k;exact k
 have z1:¬ n<=2:=λy=>z (decide_eq_true (by omega));rw [if_neg z1] at k;refine ⟨_,rfl,_,_,rfl,rfl,_,rfl,?_⟩;refine z7 (λz=>?_) (λz=>?_)
 ·rw [if_pos (by have:=of_decide_eq_true z;omega)] at k;exact k
 ·rw [if_neg (λy=>z (decide_eq_true (by omega)))] at k;exact k
structure PrC (K:Fg) (C:Ad):Prop where
 c:Cls K C
 n0:NoAttr K C "lengths"
 n1:NoAttr K C "functions"
 n2:NoAttr K C "steps"
def prFl (la lb lc:Ad):List (Str×V):=[("lengths",.ref la),("functions",.ref lb),("steps",.ref lc)]
abbrev Mg.pg (g:Mg) (n:Nat):Pg:=⟨g.lens,g.d,n⟩
inductive spMT (c:F2.Cs) (q:QCs) (K:Fg) (n:Nat) (vs:Jm) (H:Hp) (Q:VK) (_:XK):Prop
 | mk (B:Hp) (g:Mg) (s:Ad) (cs:Jf) (st:Stp1) (_:vs=[.ref g.m,.ref s]) (_:MkAt q B g 0 cs H) (_:MgAt c K B g) (_:StepAt c q B s st) (_:StF (g.pg n) st) (_:cs.length<=10) (_:∀ B' H' ts,Same B B'->MkAt q B' g 0 (cs++ts) H'->CodeAt B' ts (testC (g.pg n) g.se st.t)->Q (.int (ZL st.t)) H')
def ok_mt {c:F2.Cs} {q:QCs} {n:Nat} {t:Tok} (d:zC K mg "make_test" xM ["maker","step"]) (hTM:mg "TEST_MASK"=some (.int 1 t)) (SK:StepK K q) (MC:MakerC K q.ma) (AG:AimG mg q) (IA:OkI P w K mg base (CXe P w base) 1 q.ai ["self","seat","mask","level","own"] (spI_Aim q.ai)) (MF:Ok P w K mg base CX0 (3*n+4) "make_form" ["maker","form","aim"] (spMk c q K n)):Ok P w K mg base CX0 (3*n+5) "make_test" ["maker","step"] (spMT c q K n):=by
 obtain ⟨g,fd,m,F,b⟩:=d;refine ⟨g,fd,m,F.kp,b,F.ok sc_make_test (by rintro vs H Q E ⟨_,_,_,_,_,e,_⟩;rw [e];rfl) λcdv A outer s H vs Q E hr h=>?_⟩;obtain ⟨B,g,s,cs,st,rfl,h,hg,hs,hf,cl,k⟩:=h;have nd:=sc_make_test.nd;have hrF:=hr;have hr2:Room 2 _:=hr.mono (by omega);have kk:=SK.of st;have n150:n<=150:=hf.n;obtain ⟨ds,fl,x,tv,es,f0,f1,f2,f3,hx,ht⟩:=hs.ins;refine ⟨_,(zc (zu (zi op_isN (zq (pv 1) rfl) pe_non (zo _)) (zf (zj zd)) zk)
   (zc (zX (zG MF hrF (by rfl) zJ (zb (pv 0) (zb (zq (pv 1) rfl) (zb (zV IA AG.ai hr2 (by rfl) zW (zb zd (zb zd (zb zd (zb (zQ ze) ze))))) ze)))))
   (zc (zX (xI PySem.F.plainAttrs_list PySem.F.slot_list_append PySem.F.type_list_append yr (zq (pv 0) rfl) (zb (zR (zb zh (zb (Yj hTM) (zb zd (zb zd ze))))) ze)))
   (zf (zj (Yj hTM)))))),?_⟩
 refine ⟨_,rfl,s,_,ds,_,tv,rfl,h.sm _ _ es,kk.k.cl,kk.n2,f2,rfl,?_⟩
 cases et:st.t with
 | none =>
  rw [et] at ht k;have ht:tv=.non:=ht;exact ⟨true,congrArg V.bl (by rw [ht,decide_eq_true rfl]),yB (k B H [] (Same.refl _) (by rw [x1x];exact h) YF)⟩
 | some f =>
  have ft:=hf.t f et;rw [et] at ht k;obtain ⟨y,ey,hy⟩:=ht;have zn:zF g.d.T f<=n:=ft.z;refine ⟨false,congrArg V.bl (by rw [ey,decide_eq_false (by intro z;cases z)]),zU ?_⟩;refine ⟨_,rfl,_,rfl,s,_,ds,_,tv,rfl,h.sm _ _ es,kk.k.cl,kk.n2,f2,szU 0,λow now=>?_⟩;generalize hX:upd _ _ _=H1;obtain ⟨B1,s1,e1,h1⟩:=hdG h hX now;clear hX;refine λai dai n1 n2 n3=>⟨ai,dai,.int (0:Nat),.int (0:Nat),.int (0:Nat),.ref ow,rfl,zg,λH3 k3 e3=>⟨rfl,?_⟩⟩;obtain ⟨B3,s3,e3',h3⟩:=hdM h1 n1 n2 n3 k3 e3;have s13:=s1.trans s3;refine ⟨B3,g,y,ai,0,0,0,0,[],cs,f,by rw [ey];rfl,h3,hg.same s13,⟨dai,ow,e3',SqL.of (s3 _ _ e1)⟩,hy.same s13,ft,by omega,λB4 H4 ts s4 h4 c4=>?_⟩;have tl:=ZF ft c4;refine ⟨_,rfl,g.m,_,g.dm,_,.ref g.cd,rfl,Hd.m h4,MC.c,MC.n3,rfl,.inl ⟨rfl,_,Hd.lst h4 0 rfl⟩,szU 4,λt5 n5=>?_⟩;generalize hX:upd _ _ _=H5;obtain ⟨B5,s5,e5,h5⟩:=hdG h4 hX n5;clear hX;refine ⟨g.cd,_,_,rfl,rfl,Hd.get h5 0 rfl,(by rw [Jh,Ji];exact sz3 (by omega)),?_⟩;exact k B5 _ (ts++[t5]) ((s13.trans s4).trans s5) (by rw [← List.append_assoc];exact MkAt.row (t:=t5) h5) (zO (c4.same s5) (zT e5))
inductive spMV (c:F2.Cs) (q:QCs) (K:Fg) (n:Nat) (vs:Jm) (H:Hp) (Q:VK) (_:XK):Prop
 | mk (B:Hp) (g:Mg) (s:Ad) (mk:Nat) (cs:Jf) (st:Stp1) (_:vs=[.ref g.m,.ref s,.int mk]) (_:MkAt q B g 0 cs H) (_:MgAt c K B g) (_:StepAt c q B s st) (_:StF (g.pg n) st) (_:cs.length<=10+6*n) (_:∀ B' H' ts e,Same B B'->MkAt q B' g 0 (cs++ts) H'->CodeAt B' ts (st.valC (g.pg n) g.se mk)->B' e=some (.tup (st.eff (g.pg n) g.se mk))->Q (.ref e) H')
def ok_mv {c:F2.Cs} {q:QCs} {n:Nat} (d:zC K mg "make_value" xy ["maker","step","mask"]) (hisi:mg "isinstance"=none) (SG:StepG mg q) (SK:StepK K q) (MC:MakerC K q.ma) (AG:AimG mg q) (IA:OkI P w K mg base (CXe P w base) 1 q.ai ["self","seat","mask","level","own"] (spI_Aim q.ai)) (MF:Ok P w K mg base CX0 (3*n+4) "make_form" ["maker","form","aim"] (spMk c q K n)) (MT:Ok P w K mg base CX0 (3*n+5) "make_two" ["maker","first","first_aim","second","second_aim"] (spTwo c q K n)):Ok P w K mg base CX0 (3*n+6) "make_value" ["maker","step","mask"] (spMV c q K n):=by
 obtain ⟨g,fd,m,F,b⟩:=d;refine ⟨g,fd,m,F.kp,b,F.ok sc_make_value (by rintro vs H Q E ⟨_,_,_,_,_,_,e,_⟩;rw [e];rfl) λcdv A outer s H vs Q E hr h=>?_⟩;obtain ⟨B,g,s,mk,cs,st,rfl,h,hg,hs,hf,cl,k⟩:=h;have nd:=sc_make_value.nd;have hrF:Room (3*n+4) _:=hr.mono (by omega);have hrT:=hr;have hr2:Room 2 _:=hr.mono (by omega);have kk:=SK.of st;have n150:n<=150:=hf.n;have zv:zF g.d.T st.v<=n:=hf.v.z;obtain ⟨ds,fl,x,tv,es,f0,f1,f2,f3,hx,ht⟩:=hs.ins;refine ⟨_,(zc (zA (i:=3) nd rfl (Or.inl rfl) (zV IA AG.ai hr2 (by rfl) zW (zb zd (zb (pv 2) (zb zd (zb (zQ ze) ze))))))
   (zc (zu (yb (zw zB (by rfl) hisi PyProof.Rows.boot_isinstance (zb (pv 1) (zb (yw SG.put) ze)))) (zc (zA (i:=4) nd rfl (Or.inl rfl) (zG MT hrT (by rfl) zJ (zb (pv 0) (zb (zq (pv 1) rfl) (zb (pv 3) (zb (zq (pv 1) rfl) (zb (pv 3) ze)))))))
   (zc (zX (xI PySem.F.plainAttrs_list PySem.F.slot_list_append PySem.F.type_list_append yr (zq (pv 0) rfl) (zb (zR (zb zh (zb (zP yj (pv 4) zd (λ_ _=>rfl)) (zb (zP zY (zq (pv 0) rfl) (zq (pv 1) rfl) (λ_ _=>rfl)) (zb (pv 2) ze))))) ze)))
   (zf (zj (zR (zb zh (zb (zq (pv 1) rfl) (zb (zP yj (pv 4) zd (λ_ _=>rfl)) (zb (zP yj (pv 4) zd (λ_ _=>rfl)) (zb (pv 2) ze)))))))))) zk)
   (zc (zX (zG MF hrF (by rfl) zJ (zb (pv 0) (zb (zq (pv 1) rfl) (zb (pv 3) ze)))))
   (zc (zu (yb (zw zB (by rfl) hisi PyProof.Rows.boot_isinstance (zb (pv 1) (zb (yw SG.let_) ze)))) (zf (zj (zR (zb zh (zb (zq (pv 1) rfl) (zb zd (zb (pv 2) ze))))))) zk)
   (zc (zu (yb (zw zB (by rfl) hisi PyProof.Rows.boot_isinstance (zb (pv 1) (zb (yw SG.fold) ze)))) (zf (zj (zR (zb zh (zb (zq (pv 1) rfl) (zb (zq (pv 1) rfl) (zb zd (zb (pv 2) ze)))))))) zk)
   (zf (zj (zR (zb zh (zb (zq (pv 1) rfl) (zb (zq (pv 1) rfl) (zb zd (zb (pv 2) ze))))))))))))),?_⟩
 refine ⟨_,rfl,szU 0,λow now=>?_⟩;generalize hX:upd _ _ _=H1;obtain ⟨B1,s1,e1,h1⟩:=hdG h hX now;clear hX h;refine λai dai n1 n2 n3=>⟨ai,dai,.int (0:Nat),.int mk,.int (0:Nat),.ref ow,rfl,zg,λH3 k3 e3=>⟨rfl,?_⟩⟩;obtain ⟨B3,s3,e3',h3⟩:=hdM h1 n1 n2 n3 k3 e3;clear h1 k3 e3 n1 n2 n3;have s13:=s1.trans s3;replace hs:=hs.same s13;replace es:=s13 _ _ es;replace hx:=hx.same s13;replace hg:=hg.same s13;have aim:AimAt q K B3 ai 0 mk 0 []:=⟨dai,ow,e3',SqL.of (s3 _ _ e1)⟩;refine ⟨_,rfl,_,_,.ref q.put,_,sIsP st,rfl,rfl,(λu r=>r),kk.k.ty (h3.sm _ _ es),kk.p,_,rfl,?_⟩;refine z7 (λz=>?_) (λz=>?_)
 ·cases st with
  | put tg v p mm t =>
   obtain ⟨ds,x,y,tv,es,hx,hy,ht⟩:=hs;have fp:=hf.p tg v p mm t rfl;have zp:zF g.d.T p<=n:=fp.z;have zv:zF g.d.T v<=n:=zv;have es3:=h3.sm _ _ es;refine ⟨_,rfl,_,rfl,s,_,ds,_,.ref x,rfl,es3,kk.k.cl,kk.n1,rfl,_,rfl,_,rfl,s,_,ds,_,.ref y,rfl,es3,kk.k.cl,SK.p3,rfl,_,rfl,?_⟩;refine ⟨B3,g,x,ai,y,ai,0,0,mk,mk,0,[],cs,v,p,rfl,h3,hg,aim,aim,hx,hy,hf.v,fp,by omega,λB4 H4 ts t4 s4 h4 c4 e4=>?_⟩;have tl:ts.length<=6*zF g.d.T v+6*zF g.d.T p:=by rw [c4.n];exact two_le hf.v fp
   have tgl:tg<g.lens.length:=hf.g
   obtain ⟨u,u',e4',eu,eu'⟩:∃ u u':Nat,B4 t4=some (.tup [.int u,.int u'])/\(if 0+1+(g.pg n).sn p<=g.se then 1 else 0)=u'/\(if 0+1+(g.pg n).sn p<=g.se then 0 else 1)=u:=by
    by_cases z:0+1+sN g.d.T p<=g.se
    ·rw [if_pos z] at e4;exact ⟨0,1,e4,if_pos z,if_pos z⟩
    ·rw [if_neg z] at e4;exact ⟨1,0,e4,if_neg z,if_neg z⟩
   have es4:=h4.sm _ _ (s4 _ _ es);have et4:=h4.sm _ _ e4';refine ⟨_,rfl,g.m,_,g.dm,_,.ref g.cd,rfl,Hd.m h4,MC.c,MC.n3,rfl,.inl ⟨rfl,_,Hd.lst h4 0 rfl⟩,_,rfl,t4,_,_,_,rfl,rfl,SqT.of et4,zE (j:=1) rfl,_,rfl,g.m,_,g.dm,_,.ref g.le,rfl,Hd.m h4,MC.c,MC.n0,rfl,_,rfl,s,_,ds,_,.int tg,rfl,es4,kk.k.cl,kk.n0,rfl,g.le,_,_,_,rfl,rfl,h4.sql (hg.same s4).le,xJ tg tgl rfl,_,rfl,szU 4,λt5 n5=>?_⟩;generalize hX:upd _ _ _=H5;obtain ⟨B5,s5,e5,h5⟩:=hdG h4 hX n5;clear hX;refine ⟨g.cd,_,_,rfl,rfl,Hd.get h5 0 rfl,(by rw [Jh,Ji];exact sz3 (by omega)),?_⟩;have h6:=MkAt.row (t:=t5) h5;generalize hX:upd _ _ _=H6 at h6 ⊢;clear hX;have s45:=s4.trans s5;have es6:=h6.sm _ _ (s45 _ _ es);have et6:=h6.sm _ _ (s5 _ _ e4');refine ⟨_,rfl,s,_,ds,_,.int tg,rfl,es6,kk.k.cl,kk.n0,rfl,_,rfl,t4,_,_,_,rfl,rfl,SqT.of et6,zE (j:=1) rfl,_,rfl,t4,_,_,_,rfl,rfl,SqT.of et6,zE (j:=0) rfl,_,rfl,szU 5,λe7 n7=>?_⟩;generalize hX:upd _ _ _=H7;obtain ⟨B7,s7,e7',h7⟩:=hdG h6 hX n7;refine k B7 H7 (ts++[t5]) e7 ((s13.trans s45).trans s7) (by rw [← List.append_assoc];exact h7) ?_ ?_
   ·show CodeAt B7 _ (Zf _ _ _ _ _ _ _++[[.str "reach",.int ((if 0+1+(g.pg n).sn p<=g.se then 1 else 0:Nat):Int),.int (g.lens.getD tg 0),.int mk]])
    rw [eu];exact zO (c4.same (s5.trans s7)) (zT (s7 _ _ e5))
   ·show B7 e7=some (.tup [.str "put",.int tg,.int ((if 0+1+(g.pg n).sn p<=g.se then 1 else 0:Nat):Int),.int ((if 0+1+(g.pg n).sn p<=g.se then 0 else 1:Nat):Int),.int mk])
    rw [eu,eu'];exact e7'
  | _=>exact absurd z Bool.noConfusion
 have ev:st.valC (g.pg n) g.se mk=(g.pg n).cf g.se st.v 0 mk 0 0:=by
  cases st with
  | put tg v p mm t=>exact absurd rfl z
  | _=>rfl
 rw [ev] at k;refine ⟨_,rfl,_,rfl,s,_,ds,_,.ref x,rfl,h3.sm _ _ es,kk.k.cl,kk.n1,f1,_,rfl,B3,g,x,ai,0,0,mk,0,[],cs,st.v,rfl,h3,hg,aim,hx,hf.v,by omega,λB4 H4 ts s4 h4 c4=>?_⟩;replace hs:=hs.same s4;replace es:=h4.sm _ _ (s4 _ _ es);refine ⟨_,rfl,_,_,.ref q.let_,_,sIsL st,rfl,rfl,(λu r=>r),kk.k.ty es,kk.l,_,rfl,?_⟩;refine z7 (λz2=>?_) (λz2=>?_)
 ·cases st with
  | let_ tg v t =>
   refine ⟨_,rfl,s,_,ds,_,.int tg,rfl,es,kk.k.cl,kk.n0,f0,_,rfl,szU 4,λe ne=>?_⟩;generalize hX:upd _ _ _=H5;obtain ⟨B5,s5,e5,h5⟩:=hdG h4 hX ne;exact k B5 H5 ts e ((s13.trans s4).trans s5) h5 (c4.same s5) e5
  | _=>exact absurd z2 Bool.noConfusion
 refine ⟨_,rfl,_,_,.ref q.fold,_,sIsF st,rfl,rfl,(λu r=>r),kk.k.ty es,kk.f,_,rfl,?_⟩;refine z7 (λz3=>?_) (λz3=>?_)
 ·cases st with
  | fold tg f v mm t =>
   obtain ⟨ds,x,tv,es,_,_⟩:=hs;replace es:=h4.sm _ _ es;refine ⟨_,rfl,s,_,ds,_,.int tg,rfl,es,kk.k.cl,kk.n0,rfl,_,rfl,s,_,ds,_,.str f,rfl,es,kk.k.cl,SK.f3,rfl,_,rfl,szU 5,λe ne=>?_⟩;generalize hX:upd _ _ _=H5;obtain ⟨B5,s5,e5,h5⟩:=hdG h4 hX ne;exact k B5 H5 ts e ((s13.trans s4).trans s5) h5 (c4.same s5) e5
  | _=>exact absurd z3 Bool.noConfusion
 cases st with
 | run tg f v t =>
  obtain ⟨ds,x,tv,es,_,_⟩:=hs;replace es:=h4.sm _ _ es;refine ⟨_,rfl,s,_,ds,_,.int tg,rfl,es,kk.k.cl,kk.n0,rfl,_,rfl,s,_,ds,_,.str f,rfl,es,kk.k.cl,SK.r3,rfl,_,rfl,szU 5,λe ne=>?_⟩;generalize hX:upd _ _ _=H5;obtain ⟨B5,s5,e5,h5⟩:=hdG h4 hX ne;exact k B5 H5 ts e ((s13.trans s4).trans s5) h5 (c4.same s5) e5
 | let_ tg v t=>exact absurd rfl z2
 | put tg v p mm t=>exact absurd rfl z
 | fold tg f v mm t=>exact absurd rfl z3
def spI_Mk (q:QCs):Sp:=λvs H Q _=>∃ (B:Hp) (x dx le fu:Ad) (g:Nat) (D:Pg),vs=[.ref x,.ref le,.ref fu,.int g]/\Hd B [(x,.ins q.ma dx [])] H/\(g=1∨g=2∨g=4)/\∀ H' cd,MkAt q B ⟨x,dx,le,fu,cd,8 / g,D.lens,D.d⟩ 0 [] H'->Q .non H'
def okI_Mk {q:QCs} {t:Tok} (d:yt K q.ma "Maker.__init__" xB ["self","lengths","functions","group"]) (hMB:mg "MANY_BOXES"=some (.int 8 t)) (MC:MakerC K q.ma):OkI P w K mg base CX0 1 q.ma ["self","lengths","functions","group"] (spI_Mk q):=by
 obtain ⟨f,fd,m,F,bd⟩:=d;refine ⟨f,fd,m,bd,F.ok YM (by rintro vs H Q E ⟨_,_,_,_,_,_,_,e,_⟩;rw [e];rfl) λcdv A outer s H vs Q E hr h=>?_⟩;obtain ⟨B,x,dx,le,fu,g,D,rfl,h,hg,k⟩:=h;refine ⟨_,(zc (zM (pv 0) (pv 1) rfl)
   (zc (zM (pv 0) (pv 2) rfl)
   (zc (zM (pv 0) (zr XL (Yj hMB) (pv 3)) rfl)
   (zc (zM (pv 0) (zQ ze) rfl)
   (zf (zM (pv 0) zd rfl)))))),?_⟩
 refine ⟨_,rfl,_,rfl,x,q.ma,dx,[],rfl,h.get 0 rfl,MC.c,MC.n0,(by show 0<1000;decide),?_⟩;replace h:=h.put (o':=.ins q.ma dx [("lengths",.ref le)]) 0 rfl;refine ⟨_,rfl,_,rfl,x,q.ma,dx,[("lengths",.ref le)],rfl,h.get 0 rfl,MC.c,MC.n1,(by show 1<1000;decide),?_⟩;replace h:=h.put (o':=.ins q.ma dx [("lengths",.ref le),("functions",.ref fu)]) 0 rfl;have eg:(8:Int).fdiv (g:Int)=((8 / g:Nat):Int):=by rcases hg with e | e | e <;> subst e <;> rfl
 refine ⟨_,rfl,_,_,rfl,rfl,⟨by omega,by omega,by omega⟩,_,rfl,x,q.ma,dx,[("lengths",.ref le),("functions",.ref fu)],rfl,h.get 0 rfl,MC.c,MC.n2,(by show 2<1000;decide),?_⟩;rw [eg];replace h:=h.put (o':=.ins q.ma dx [("lengths",.ref le),("functions",.ref fu),("seats",.int (8 / g:Nat))]) 0 rfl;refine ⟨szU 0,λcd ncd=>?_⟩;replace h:=h.new (o:=.lst []) ncd;refine ⟨_,rfl,x,q.ma,dx,[("lengths",.ref le),("functions",.ref fu),("seats",.int (8 / g:Nat))],rfl,h.get 1 rfl,MC.c,MC.n3,(by show 3<1000;decide),?_⟩;replace h:=h.put (o':=.ins q.ma dx [("lengths",.ref le),("functions",.ref fu),("seats",.int (8 / g:Nat)),("code",.ref cd)]) 1 rfl;refine ⟨_,rfl,x,q.ma,dx,[("lengths",.ref le),("functions",.ref fu),("seats",.int (8 / g:Nat)),("code",.ref cd)],rfl,h.get 1 rfl,MC.c,MC.n4,(by show 4<1000;decide),?_⟩;replace h:=h.put (o':=.ins q.ma dx (Mg.fl ⟨x,dx,le,fu,cd,8 / g,D.lens,D.d⟩ 0)) 1 rfl;exact k _ cd h
inductive spMany (c:F2.Cs) (q:QCs) (K:Fg) (st:Stp1) (vs:Jm) (H:Hp) (Q:VK) (_:XK):Prop
 | mk (s le:Ad) (lens:Ja) (_:vs=[.ref s,.ref le]) (_:StepAt c q H s st) (_:SqL K H le (lens.map V.int)) (_:st.tg<lens.length) (_:Q (.int (st.mn_ lens)) H)
def ok_manyL {c:F2.Cs} {q:QCs} {tg:Nat} {v:F2.Fm} {t:Option F2.Fm} (d:yV K q.let_ "many_of" "Let.many_of" yT ["self","lengths"]) (SK:StepK K q):OkM P w K mg base CX0 1 q.let_ "many_of" ["self","lengths"] (spMany c q K (.let_ tg v t)):=by
 obtain ⟨f,fd,m,F,bd⟩:=d;refine ⟨f,fd,m,bd,F.ok Yv (by rintro vs H Q E ⟨_,_,_,e,_⟩;rw [e];rfl) λcdv A outer s H vs Q E hr h=>?_⟩;obtain ⟨s,le,lens,rfl,⟨ds,x,tv,es,_,_⟩,hl,tl,k⟩:=h;refine ⟨_,(zf (zj (zP zY (pv 1) (zq (pv 0) rfl) (λ_ _=>rfl)))),?_⟩;exact ⟨_,rfl,_,rfl,s,_,ds,_,.int tg,rfl,es,SK.let_.k.cl,SK.let_.n0,rfl,le,_,_,_,rfl,rfl,hl,xJ tg tl rfl,k⟩
def ok_manyP {c:F2.Cs} {q:QCs} {tg:Nat} {v p:F2.Fm} {mm:Int} {t:Option F2.Fm} (d:yV K q.put "many_of" "Put.many_of" yS ["self","lengths"]) (SK:StepK K q):OkM P w K mg base CX0 1 q.put "many_of" ["self","lengths"] (spMany c q K (.put tg v p mm t)):=by
 obtain ⟨f,fd,m,F,bd⟩:=d;refine ⟨f,fd,m,bd,F.ok Yt (by rintro vs H Q E ⟨_,_,_,e,_⟩;rw [e];rfl) λcdv A outer s H vs Q E hr h=>?_⟩;obtain ⟨s,le,lens,rfl,⟨ds,x,y,tv,es,_,_,_⟩,hl,tl,k⟩:=h;refine ⟨_,(zf (zj (zq (pv 0) rfl))),?_⟩;exact ⟨_,rfl,s,_,ds,_,.int mm,rfl,es,SK.put.k.cl,SK.p4,rfl,k⟩
def ok_manyF {c:F2.Cs} {q:QCs} {tg:Nat} {f':Str} {v:F2.Fm} {mm:Int} {t:Option F2.Fm} (d:yV K q.fold "many_of" "Fold.many_of" yL ["self","lengths"]) (SK:StepK K q):OkM P w K mg base CX0 1 q.fold "many_of" ["self","lengths"] (spMany c q K (.fold tg f' v mm t)):=by
 obtain ⟨f,fd,m,F,bd⟩:=d;refine ⟨f,fd,m,bd,F.ok Ye (by rintro vs H Q E ⟨_,_,_,e,_⟩;rw [e];rfl) λcdv A outer s H vs Q E hr h=>?_⟩;obtain ⟨s,le,lens,rfl,⟨ds,x,tv,es,_,_⟩,hl,tl,k⟩:=h;refine ⟨_,(zf (zj (zq (pv 0) rfl))),?_⟩;exact ⟨_,rfl,s,_,ds,_,.int mm,rfl,es,SK.fold.k.cl,SK.f4,rfl,k⟩
def ok_manyR {c:F2.Cs} {q:QCs} {tg:Nat} {f':Str} {v:F2.Fm} {t:Option F2.Fm} (d:yV K q.run "many_of" "Running.many_of" yx ["self","lengths"]) (SK:StepK K q):OkM P w K mg base CX0 1 q.run "many_of" ["self","lengths"] (spMany c q K (.run tg f' v t)):=by
 obtain ⟨f,fd,m,F,bd⟩:=d;refine ⟨f,fd,m,bd,F.ok ZJ (by rintro vs H Q E ⟨_,_,_,e,_⟩;rw [e];rfl) λcdv A outer s H vs Q E hr h=>?_⟩;obtain ⟨s,le,lens,rfl,⟨ds,x,tv,es,_,_⟩,hl,tl,k⟩:=h;refine ⟨_,(zf (zj (zP zY (pv 1) (zq (pv 0) rfl) (λ_ _=>rfl)))),?_⟩;exact ⟨_,rfl,_,rfl,s,_,ds,_,.int tg,rfl,es,SK.run.k.cl,SK.run.n0,rfl,le,_,_,_,rfl,rfl,hl,xJ tg tl rfl,k⟩
theorem ok_many {c:F2.Cs} {q:QCs} (d1:yV K q.let_ "many_of" "Let.many_of" yT ["self","lengths"]) (d2:yV K q.put "many_of" "Put.many_of" yS ["self","lengths"]) (d3:yV K q.fold "many_of" "Fold.many_of" yL ["self","lengths"]) (d4:yV K q.run "many_of" "Running.many_of" yx ["self","lengths"]) (SK:StepK K q):∀ st:Stp1,OkM P w K mg base CX0 1 (clsS q st) "many_of" ["self","lengths"] (spMany c q K st)
 | .let_ _ _ _=>ok_manyL d1 SK
 | .put _ _ _ _ _=>ok_manyP d2 SK
 | .fold _ _ _ _ _=>ok_manyF d3 SK
 | .run _ _ _ _=>ok_manyR d4 SK
def ZW {D:Pg} {se:Nat} {s:Stp1} (hf:StF D s):(∀ tv∈testC D se s.t,xv tv)/\(testC D se s.t).length<=6*D.n:=by
 cases et:s.t with
 | none=>exact ⟨(λtv h=>nomatch h),Nat.zero_le _⟩
 | some f =>
  refine ⟨yq (yy D.n f 0 0 0 0 []) (yu (ym (by decide))),?_⟩;show (D.cf se f 0 0 0 0++[_]).length<=_;rw [Ji];exact Xs (hf.t f et) se 0 0 0 0
def XA {D:Pg} {se mk:Nat} {s:Stp1} (hf:StF D s):(∀ tv∈s.valC D se mk,xv tv)/\(s.valC D se mk).length<=12*D.n+1:=by
 have hv:=Xs hf.v se 0 mk 0 0
 cases s with
 | put tg v p m t =>
  have fp:=hf.p tg v p m t rfl;refine ⟨yq (Yy (yy D.n v _ _ _ _ _) (yy D.n p _ _ _ _ _) (yy D.n p _ _ _ _ _)) (yu (ym (by decide))),?_⟩;show (Zf _ _ _ _ _ _ _++[_]).length<=_;rw [Ji];have hv:(D.cf se v 0 mk 0 0).length+1<=_:=hv;have:=Yh (fits:=0+1+D.sn p<=se) (p:=0) (s:=0) (mk:=mk) (Nat.le_sub_one_of_lt hv) (Nat.le_sub_one_of_lt (Xs fp se (0+1) mk 0 0)) (Nat.le_sub_one_of_lt (Xs fp se 0 mk 0 (0+1)));have:=fp.z;have:=xE D.d.T p;show _+1<=_;omega
 | let_ tg v t=>exact ⟨yy D.n v _ _ _ _ _,by show (D.cf se v 0 mk 0 0).length<=_;have:(D.cf se v 0 mk 0 0).length+1<=_:=hv;omega⟩
 | fold tg f v m t=>exact ⟨yy D.n v _ _ _ _ _,by show (D.cf se v 0 mk 0 0).length<=_;have:(D.cf se v 0 mk 0 0).length+1<=_:=hv;omega⟩
 | run tg f v t=>exact ⟨yy D.n v _ _ _ _ _,by show (D.cf se v 0 mk 0 0).length<=_;have:(D.cf se v 0 mk 0 0).length+1<=_:=hv;omega⟩
def X2 {D:Pg} {se:Nat} {s:Stp1} (hf:StF D s):(s.body D se).length<=18*D.n+1:=by
 unfold Stp1.body;rw [Ji];have a:=(ZW (se:=se) hf).2;have b:=(XA (se:=se) (mk:=ZL s.t) hf).2;omega
def tail_len (may:Bool) (eff:Jm) (n:Int):(tailC may eff n).length<=3:=by cases may <;> exact Nat.le_of_ble_eq_true rfl
def code_len {D:Pg} {g:Nat} {s:Stp1} (hf:StF D s) (k:Int):(s.code D g k).length<=18*D.n+6:=by
 unfold Stp1.code Xf;rw [Ji,Ji,Ji];have a:=X2 (se:=8 / g) hf;have b:=tail_len ((s.body D (8 / g)).any mayF) (s.eff D (8 / g) (ZL s.t)) k;show 1+_+_+1<=_;omega
def Told (H:Hp) (code:List (Jm)) (Q:VK):Prop:=∀ H' l cs,Same H H'->H l=none->H' l=some (.lst (cs.map V.ref))->CodeAt H' cs code->Q (.ref l) H'
def spRnd (c:F2.Cs) (q:QCs) (K:Fg) (n:Nat):Sp:=λvs H Q _=>∃ (pr dp la lb lc s:Ad) (D:Pg) (st:Stp1) (number:Int) (gp:Nat),vs=[.ref pr,.ref s,.int number,.int gp]/\D.n=n/\H pr=some (.ins q.pr dp (prFl la lb lc))/\StepAt c q H s st/\StF D st/\SqL K H la (D.lens.map V.int)/\F2.FunsAt c K H lb D.d.fs/\D.lens.length=D.d.nr/\(gp=0∨gp=1∨gp=2∨gp=4)/\Told H (st.code D (st.grp D gp) number) Q
def ok_rnd {c:F2.Cs} {q:QCs} {n:Nat} (d:zC K mg "round_of" Zh ["program","step","number","group"]) (hany:mg "any"=none) (SK:StepK K q) (PC:PrC K q.pr) (MC:MakerC K q.ma) (AG:AimG mg q)
  (SS:Ok P w K mg base CX0 (2*n+4) "seats_for_step" ["step","functions"] (spSS c q K n)) (GF:Ok P w K mg base CX0 1 "group_for" ["seats"] spGroupF) (IM:OkI P w K mg base CX0 1 q.ma ["self","lengths","functions","group"] (spI_Mk q)) (MO:∀ st,OkM P w K mg base CX0 1 (clsS q st) "many_of" ["self","lengths"] (spMany c q K st))
  (MTe:Ok P w K mg base CX0 (3*n+5) "make_test" ["maker","step"] (spMT c q K n)) (MV:Ok P w K mg base CX0 (3*n+6) "make_value" ["maker","step","mask"] (spMV c q K n)) (MY:Ok P w K mg base CX0 1 "may_fault" ["step"] (spMay K)):Ok P w K mg base CX0 (3*n+7) "round_of" ["program","step","number","group"] (spRnd c q K n):=by
 obtain ⟨g,fd,m,F,b⟩:=d;refine ⟨g,fd,m,F.kp,b,F.ok sc_round_of (by rintro vs H Q E ⟨_,_,_,_,_,_,_,_,_,_,e,_⟩;rw [e];rfl) λcdv A outer s H vs Q E hr h=>?_⟩;obtain ⟨pr,dp,la,lb,lc,s,D,st,number,gp,rfl,rfl,hp,hs,hf,hl,hfu,hnr,hg,k⟩:=h;have nd:=sc_round_of.nd;have hrV:=hr;have hrE:Room (3*D.n+5) _:=hr.mono (by omega);have hrS:Room (2*D.n+4) _:=hr.mono (by omega);have hr2:Room 2 _:=hr.mono (by omega);have hr1:Room 1 _:=hr.mono (by omega);have kk:=SK.of st;obtain ⟨ds,fl,x,tv,es,f0,f1,f2,f3,hx,ht⟩:=hs.ins;refine ⟨_,(zc (yQ (zu (zi zx (pv 3) zd (zo _)) (zf (zA (i:=3) nd rfl (Or.inl rfl) (zG GF hr1 (by rfl) zJ (zb (zG SS hrS (by rfl) zJ (zb (pv 1) (zb (zq (pv 0) rfl) ze))) ze)))) zk))
   (zc (zA (i:=4) nd rfl (Or.inl rfl) (zV IM AG.ma hr2 (by rfl) zJ (zb (zq (pv 0) rfl) (zb (zq (pv 0) rfl) (zb (pv 3) ze)))))
   (zc (zX (xI PySem.F.plainAttrs_list PySem.F.slot_list_append PySem.F.type_list_append yr (zq (pv 4) rfl) (zb (zR (zb zh (zb (pe_okM (MO st) kk.k.cl hr1 zJ (pv 1) (zb (zq (pv 0) rfl) ze)) (zb (pv 3) ze)))) ze)))
   (zc (zA (i:=5) nd rfl (Or.inl rfl) (zG MTe hrE (by rfl) zJ (zb (pv 4) (zb (pv 1) ze))))
   (zc (zA (i:=6) nd rfl (Or.inl rfl) (zG MV hrV (by rfl) zJ (zb (pv 4) (zb (pv 1) (zb (pv 5) ze)))))
   (zc (zu (yb (zw (call_anyB rfl) (by rfl) hany PyProof.Rows.boot_any (zb (XJ ["made_step"] [none] rfl rfl rfl (Zl (zq (pv 4) rfl)) (λs3 H3 fp=>⟨xD (i:=0) (Jo ["made_step"]) rfl (Or.inl rfl),(zG MY hr1 (by rfl) zJ (zb (pv 0) ze))⟩)) ze))) (zf (zj (zr xb (zq (pv 4) rfl) (zQ (zb (zR (zb zh ze)) (zb (pv 6) (zb (zR (zb zh (zb (pv 2) ze))) (zb (zR (zb zh ze)) ze)))))))) zk)
   (zf (zj (zr xb (zq (pv 4) rfl) (zQ (zb (pv 6) (zb (zR (zb zh ze)) ze)))))))))))),?_⟩
 refine ⟨λσ J=>σ=[rq pr,rq s,iq number,iq (st.grp D gp),none,none,none,none]/\Same H J,?_,?_⟩
 ·refine ⟨_,rfl,rfl,_,rfl,?_⟩
  refine z7 (λz=>?_) (λz=>?_)
  ·have z:(gp:Int)=0:=V.int.inj (of_decide_eq_true z)
   have z:gp=0:=by omega
   refine ⟨_,rfl,_,rfl,pr,_,dp,_,.ref lb,rfl,hp,PC.c,PC.n1,rfl,s,lb,D,st,rfl,rfl,hs,hfu,hf,λH1 s1=>⟨st.seats D,rfl,?_⟩⟩;have e:st.grp D gp=grOf (st.seats D):=if_pos z;rw [e];exact ⟨rfl,s1⟩
  ·have z:¬ gp=0:=λy=>z (decide_eq_true (by rw [y];rfl))
   have e:st.grp D gp=gp:=if_neg z;rw [e];exact ⟨rfl,Same.refl _⟩
 rintro σ J ⟨rfl,sJ⟩
 have gb:st.grp D gp=1∨st.grp D gp=2∨st.grp D gp=4:=by
  unfold Stp1.grp grOf
  split
  ·split
   ·omega
   ·split <;> omega
  ·omega
 generalize st.grp D gp=gg at gb k ⊢;replace hp:=sJ _ _ hp;replace hs:=hs.same sJ;replace es:=sJ _ _ es;replace hl:=zD hl sJ;replace hfu:=hfu.same sJ;have n150:=hf.n;refine ⟨_,rfl,pr,_,dp,_,.ref la,rfl,hp,PC.c,PC.n0,rfl,_,rfl,pr,_,dp,_,.ref lb,rfl,hp,PC.c,PC.n1,rfl,_,rfl,λmk dmk n1 n2 n3=>?_⟩;have s0:Same J (upd J dmk (.own mk)):=zN (Same.refl _) n2;have h0:Hd (upd J dmk (.own mk)) [(mk,.ins q.ma dmk [])] (upd (upd J dmk (.own mk)) mk (.ins q.ma dmk [])):=Hd.base.new (by rw [zy (Ne.symm n3)];exact n1);generalize upd J dmk (.own mk)=B0 at s0 h0;refine ⟨B0,mk,dmk,la,lb,gg,D,rfl,h0,gb,λH1 cd h1=>⟨rfl,?_⟩⟩;clear h0 n1 n2 n3;have hp1:=h1.sm _ _ (s0 _ _ hp);refine ⟨_,rfl,mk,_,dmk,_,.ref cd,rfl,Hd.m h1,MC.c,MC.n3,rfl,.inl ⟨rfl,_,Hd.lst h1 0 rfl⟩,_,rfl,s,ds,_,rfl,h1.sm _ _ (s0 _ _ es),f3,_,rfl,pr,_,dp,_,.ref la,rfl,hp1,PC.c,PC.n0,rfl,s,la,D.lens,rfl,hs.same (s0.trans h1.sm),h1.sql (zD hl s0),hf.g,_,rfl,szU 3,λt0 nt0=>?_⟩;generalize hX:upd _ _ _=H2;obtain ⟨B2,s2,e0,h2⟩:=hdG h1 hX nt0;clear hX h1 hp1;refine ⟨cd,_,_,rfl,rfl,Hd.get h2 0 rfl,(by show 0<sizeLine;decide),?_⟩;replace h2:=MkAt.row (t:=t0) h2;generalize hX:upd _ _ _=H2' at h2 ⊢;clear hX;replace s2:=s0.trans s2;have mgA:∀ {B:Hp},Same J B->MgAt c K B ⟨mk,dmk,la,lb,cd,8 / gg,D.lens,D.d⟩:=λs=>⟨zD hl s,hfu.same s,hnr⟩;refine ⟨_,rfl,_,rfl,B2,⟨mk,dmk,la,lb,cd,8 / gg,D.lens,D.d⟩,s,[]++[t0],st,rfl,h2,mgA s2,hs.same s2,hf,(by show 1<=10;decide),λB3 H3 ts1 s3 h3 c3=>?_⟩;clear h2;have l3:ts1.length<=6*D.n:=by rw [c3.n];exact (ZW hf).2
 have s23:=s2.trans s3;refine ⟨_,rfl,_,rfl,_,rfl,B3,⟨mk,dmk,la,lb,cd,8 / gg,D.lens,D.d⟩,s,ZL st.t,[]++[t0]++ts1,st,rfl,h3,mgA s23,hs.same s23,hf,by rw [Ji];show 1+ts1.length<=_;omega,λB4 H4 ts2 te s4 h4 c4 e4=>?_⟩;have em:=Hd.m h4
 have ecd:H4 cd=some (.lst ((t0::(ts1++ts2)).map V.ref)):=by
  have:=Hd.get h4 0 rfl;rw [show []++[t0]++ts1++ts2=t0::(ts1++ts2) by simp] at this;exact this
 have cc:CodeAt H4 (t0::(ts1++ts2)) ([.str "begin",.int (st.mn_ D.lens),.int gg]::st.body D (8 / gg)):=(zO (zT (s4 _ _ (s3 _ _ e0))) (zO (c3.same s4) c4)).same h4.sm;have ete:=h4.sm _ _ e4;have sH4:Same H H4:=((sJ.trans s23).trans s4).trans h4.sm;have rows:∀ tv∈([.str "begin",.int (st.mn_ D.lens),.int gg]::st.body D (8 / gg):List (Jm)),xv tv:=yq (a:=[[.str "begin",.int (st.mn_ D.lens),.int gg]]) (yu (ym (by decide))) (yq (ZW hf).1 (XA hf).1);have bl:=X2 (se:=8 / gg) hf;have cn:=cc.n;have any1:([.str "begin",.int (st.mn_ D.lens),.int gg]::st.body D (8 / gg):List (Jm)).any mayF=(st.body D (8 / gg)).any mayF:=rfl;clear h4 h3 s3 s4 s23 s2 e0 c3 c4 e4 l3;unfold Stp1.code Xf at k;generalize hcs:t0::(ts1++ts2)=cs4 at *;generalize hrw:([.str "begin",.int (st.mn_ D.lens),.int gg]::st.body D (8 / gg):List (Jm))=rw4 at *;have lcs:cs4.length<=2800:=by rw [cn,← hrw];show (st.body D (8 / gg)).length+1<=2800;omega
 have ek:[[V.str "begin",.int (st.mn_ D.lens),.int gg]]++st.body D (8 / gg)=rw4:=hrw;rw [ek] at k;refine ⟨_,rfl,mk,_,dmk,_,.ref cd,rfl,em,MC.c,MC.n3,rfl,cd,rfl,⟨_,SqL.of ecd⟩,_,rfl,λDl nD=>?_⟩;refine YY (K:=K) (a:=cd) (D:=Dl) (xs:=cs4.map V.ref) (λi σ J2=>∃ u B4,σ=[u]/\Same H4 B4/\Hd B4 [(Dl,.lst (((rw4.take i).map mayF).map V.bl))] J2) ⟨none,H4,rfl,Same.refl _,Hd.base.new nD⟩ (λi σ J2 _ ⟨_,B4,_,s4,h4⟩=>SqL.of (h4.sm _ _ (s4 _ _ ecd))) ?_ ?_
 ·rintro i y σ J2 hi ⟨u,B4,rfl,s4,h4⟩
  obtain ⟨t,et,rfl⟩:=ZM hi;have il':i<cs4.length:=(List.getElem?_eq_some_iff.mp et).1;obtain ⟨tv',etv⟩:∃ tv',rw4[i]?=some tv':=⟨_,List.getElem?_eq_getElem (by rw [← cn];exact il')⟩;have eT:=cc.t i t tv' et etv;refine ⟨_,rfl,t,tv',rfl,SqT.of (h4.sm _ _ (s4 _ _ eT)),rows tv' (List.mem_of_getElem? etv),λJ3 s5=>?_⟩;obtain ⟨B5,sB5,h5,_⟩:=h4.over s5;refine ⟨_,h5.get 0 rfl,(by rw [Jh,Jh,List.length_take];exact sz3 (by omega)),some (.ref t),B5,rfl,s4.trans sB5,?_⟩;rw [List.take_add_one,etv,Jj,Jj];exact h5.put 0 rfl
 rintro σ J2 ⟨u,B4,rfl,s4,h4⟩;rw [Jh,cn,List.take_length] at h4;refine ⟨Dl,rw4.map mayF,rfl,h4.lst 0 rfl,_,rfl,?_⟩;have eb:(rw4.map mayF).any id=(st.body D (8 / gg)).any mayF:=by rw [List.any_map];exact any1
 have sJ2:=s4.trans h4.sm;clear h4 nD;replace em:=sJ2 _ _ em;replace ecd:=sJ2 _ _ ecd;replace cc:=cc.same sJ2;replace ete:=sJ2 _ _ ete;have sA:=sH4.trans sJ2;clear sJ2 s4 sH4;have nl:∀ l,J2 l=none->H l=none:=λl e=>sA.free e;rw [eb];refine z7 (λz=>?_) (λz=>?_)
 ·rw [z] at k
  refine ⟨_,rfl,mk,_,dmk,_,.ref cd,rfl,em,MC.c,MC.n3,rfl,szU 1,λt5 n5=>?_⟩;generalize hX:upd _ _ _=G1;obtain ⟨sX,e5⟩:=yi hX n5;replace sA:=sA.trans sX;replace ecd:=sX _ _ ecd;replace cc:=cc.same sX;replace ete:=sX _ _ ete;clear hX sX;refine ⟨_,rfl,_,rfl,szU 2,λt6 n6=>?_⟩;generalize hX:upd _ _ _=G2;obtain ⟨sX,e6⟩:=yi hX n6;replace sA:=sA.trans sX;replace ecd:=sX _ _ ecd;replace cc:=cc.same sX;replace ete:=sX _ _ ete;replace e5:=sX _ _ e5;clear hX sX;refine ⟨szU 1,λt7 n7=>?_⟩;generalize hX:upd _ _ _=G3;obtain ⟨sX,e7⟩:=yi hX n7;replace sA:=sA.trans sX;replace ecd:=sX _ _ ecd;replace cc:=cc.same sX;replace ete:=sX _ _ ete;replace e5:=sX _ _ e5;replace e6:=sX _ _ e6;clear hX sX;refine ⟨szU 4,λl1 nl1=>?_⟩;generalize hX:upd _ _ _=G4;obtain ⟨sX,el1⟩:=yi hX nl1;replace sA:=sA.trans sX;replace ecd:=sX _ _ ecd;replace cc:=cc.same sX;replace ete:=sX _ _ ete;replace e5:=sX _ _ e5;replace e6:=sX _ _ e6;replace e7:=sX _ _ e7;clear hX sX;refine ⟨cd,l1,_,_,rfl,rfl,ecd,el1,(by rw [Jh];exact Nat.le_of_lt (sz3 (by show cs4.length+4<=3000;omega))),λl2 nl2=>?_⟩;have nH:H l2=none:=sA.free nl2;generalize hX:upd _ _ _=G5;obtain ⟨sX,el2⟩:=yi hX nl2;replace sA:=sA.trans sX;replace cc:=cc.same sX;replace ete:=sX _ _ ete;replace e5:=sX _ _ e5;replace e6:=sX _ _ e6;replace e7:=sX _ _ e7;clear hX sX;refine k G5 l2 (cs4++[t5,te,t6]++[t7]) sA nH (by rw [el2,Jj,Jj,List.append_assoc];rfl) (zO (zO cc ?_) (zT e7));exact zO (zT e5) (zO (zT ete) (zT e6))
 ·have z:(st.body D (8 / gg)).any mayF=false:=Bool.eq_false_iff.mpr z
  rw [z] at k;refine ⟨_,rfl,mk,_,dmk,_,.ref cd,rfl,em,MC.c,MC.n3,rfl,_,rfl,szU 1,λt7 n7=>?_⟩;generalize hX:upd _ _ _=G3;obtain ⟨sX,e7⟩:=yi hX n7;replace sA:=sA.trans sX;replace ecd:=sX _ _ ecd;replace cc:=cc.same sX;replace ete:=sX _ _ ete;clear hX sX;refine ⟨szU 2,λl1 nl1=>?_⟩;generalize hX:upd _ _ _=G4;obtain ⟨sX,el1⟩:=yi hX nl1;replace sA:=sA.trans sX;replace ecd:=sX _ _ ecd;replace cc:=cc.same sX;replace ete:=sX _ _ ete;replace e7:=sX _ _ e7;clear hX sX;refine ⟨cd,l1,_,_,rfl,rfl,ecd,el1,(by rw [Jh];exact Nat.le_of_lt (sz3 (by show cs4.length+2<=3000;omega))),λl2 nl2=>?_⟩;have nH:H l2=none:=sA.free nl2;generalize hX:upd _ _ _=G5;obtain ⟨sX,el2⟩:=yi hX nl2;replace sA:=sA.trans sX;replace cc:=cc.same sX;replace ete:=sX _ _ ete;replace e7:=sX _ _ e7;clear hX sX;exact k G5 l2 (cs4++[te]++[t7]) sA nH (by rw [el2,Jj,Jj,List.append_assoc];rfl) (zO (zO cc (zT ete)) (zT e7))
mutual
inductive Stp
 | st (s:Stp1)
 | till (tg:Nat) (most:Int) (ss:Stps)
inductive Stps
 | nil
 | cons (s:Stp) (r:Stps)
end
mutual
def cnt:Stp->Nat
 | .st _=>1
 | .till _ _ ss=>1+cnts ss
def cnts:Stps->Nat
 | .nil=>0
 | .cons s r=>cnt s+cnts r
end
mutual
def dep:Stp->Nat
 | .st _=>0
 | .till _ _ ss=>Zt ss+1
def Zt:Stps->Nat
 | .nil=>0
 | .cons s r=>max (dep s) (Zt r)
end
def YU (D:Pg) (row gp:Nat):List (Jm):=[[.str "begin",.int (D.lens.getD row 0),.int (if gp=0 then 4 else gp:Nat)],[.str "load",.int (0:Nat),.int row,.int (0:Nat)],[.str "any",.int (0:Nat),.int (0:Nat)],[.str "next"]]
mutual
def xx (D:Pg) (gp:Nat):Stp->Int->List (Jm)
 | .st s,k=>s.code D (s.grp D gp) k
 | .till tg most ss,k=>[[.str "turns"]]++xu D gp ss (k+1)++([[.str "quiet"]]++YU D tg gp)++[[.str "till",.int most,.int k]]
def xu (D:Pg) (gp:Nat):Stps->Int->List (Jm)
 | .nil,_=>[]
 | .cons s r,k=>xx D gp s k++xu D gp r (k+cnt s)
end
mutual
def StpAt (c:F2.Cs) (q:QCs) (B:Hp):Ad->Stp->Prop
 | s,.st s1=>StepAt c q B s s1
 | s,.till tg most ss=>∃ ds l ys,B s=some (.ins q.till ds [("target",.int tg),("most",.int most),("steps",.ref l)])/\B l=some (.lst (ys.map V.ref))/\StpsAt c q B ys ss
def StpsAt (c:F2.Cs) (q:QCs) (B:Hp):Jf->Stps->Prop
 | ys,.nil=>ys=[]
 | ys,.cons s r=>∃ y t,ys=y::t/\StpAt c q B y s/\StpsAt c q B t r
end
mutual
theorem StpAt.same {c:F2.Cs} {q:QCs} {B B':Hp} (z:Same B B'):∀ {s:Stp} {x:Ad},StpAt c q B x s->StpAt c q B' x s
 | .st s1,x,h=>StepAt.same z h
 | .till tg most ss,x,h=>by
  obtain ⟨ds,l,ys,e,el,h⟩:=h;exact ⟨ds,l,ys,z _ _ e,z _ _ el,StpsAt.same z h⟩
theorem StpsAt.same {c:F2.Cs} {q:QCs} {B B':Hp} (z:Same B B'):∀ {ss:Stps} {ys:Jf},StpsAt c q B ys ss->StpsAt c q B' ys ss
 | .nil,ys,h=>h
 | .cons s r,ys,h=>by
  obtain ⟨y,t,e,a,b⟩:=h;exact ⟨y,t,e,StpAt.same z a,StpsAt.same z b⟩
end
mutual
def StA (D:Pg):Stp->Prop
 | .st s=>StF D s
 | .till tg _ ss=>tg<D.lens.length/\StAs D ss
def StAs (D:Pg):Stps->Prop
 | .nil=>True
 | .cons s r=>StA D s/\StAs D r
end
def Sl:Stps->List Stp
 | .nil=>[]
 | .cons s r=>s::Sl r
theorem Ys {c:F2.Cs} {q:QCs} {H:Hp}:∀ {ss:Stps} {ys:Jf},StpsAt c q H ys ss->ys.length=(Sl ss).length/\∀ (i:Nat) y,ys[i]?=some y->∃ s,(Sl ss)[i]?=some s/\StpAt c q H y s
 | .nil,_,h=>by cases (show _=[] from h);exact ⟨rfl,λi y e=>by cases e⟩
 | .cons s r,_,h=>by
  obtain ⟨y',t,rfl,a,b⟩:=h;obtain ⟨n,k⟩:=Ys b;refine ⟨by show t.length+1=(Sl r).length+1;rw [n],λi y e=>?_⟩
  cases i with
  | zero=>cases e;exact ⟨s,rfl,a⟩
  | succ i=>exact k i y e
theorem mem_Sl {D:Pg}:∀ {ss:Stps} {s:Stp},s∈Sl ss->StAs D ss->StA D s/\dep s<=Zt ss
 | .cons g r,s,m,ok=>by
  have e:Zt (.cons g r)=max (dep g) (Zt r):=rfl;rcases List.mem_cons.mp m with rfl | m
  ·exact ⟨ok.1,by omega⟩
  ·have:=mem_Sl (D:=D) m ok.2
   exact ⟨this.1,by omega⟩
def cntP (l:List Stp):Nat:=(l.map cnt).sum
def yY (D:Pg) (gp:Nat):List Stp->Int->List (Jm)
 | [],_=>[]
 | s::r,k=>xx D gp s k++yY D gp r (k+cnt s)
theorem cnt_Sl:∀ ss:Stps,cntP (Sl ss)=cnts ss
 | .nil=>rfl
 | .cons s r=>by show cnt s+cntP (Sl r)=cnt s+cnts r;rw [cnt_Sl r]
theorem Xr (D:Pg) (gp:Nat):∀ (ss:Stps) (k:Int),yY D gp (Sl ss) k=xu D gp ss k
 | .nil,_=>rfl
 | .cons s r,k=>by show xx D gp s k++yY D gp (Sl r) _=xx D gp s k++xu D gp r _;rw [Xr D gp r]
def YZ (l:List Stp) (s:Stp):cntP (l++[s])=cntP l+cnt s:=by unfold cntP;rw [Jj,List.sum_append];rfl
theorem Z4 (D:Pg) (gp:Nat):∀ (a b:List Stp) (k:Int),yY D gp (a++b) k=yY D gp a k++yY D gp b (k+cntP a)
 | [],b,k=>by
  show yY D gp b k=[]++yY D gp b (k+((0:Nat):Int));rw [List.nil_append,show k+((0:Nat):Int)=k by omega]
 | s::a,b,k=>by
  show xx D gp s k++yY D gp (a++b) (k+cnt s)=xx D gp s k++yY D gp a (k+cnt s)++yY D gp b (k+((cnt s+cntP a:Nat):Int));rw [Z4 D gp a,List.append_assoc,show k+(cnt s:Int)+(cntP a:Int)=k+((cnt s+cntP a:Nat):Int) by omega]
def codeP_one (D:Pg) (gp:Nat) (s:Stp) (k:Int):yY D gp [s] k=xx D gp s k:=x1x _
structure TillC (K:Fg) (q:QCs):Prop where
 k:KF K q.till
 t:isK K q.till q.till true
 n0:NoAttr K q.till "target"
 n1:NoAttr K q.till "most"
 n2:NoAttr K q.till "steps"
def isT:Stp->Bool
 | .till _ _ _=>true
 | _=>false
theorem stp_ty {c:F2.Cs} {q:QCs} {K:Fg} {H:Hp} (SK:StepK K q) (TC:TillC K q) {x:Ad}:∀ {s:Stp},StpAt c q H x s->∃ C,TyX K H (.ref x) (.ref C)/\isK K C q.till (isT s)
 | .st s1,h=>by
  obtain ⟨ds,fl,_,_,e,_⟩:=StepAt.ins h;exact ⟨_,(SK.of s1).k.ty e,(SK.of s1).t⟩
 | .till _ _ _,h=>by
  obtain ⟨ds,l,ys,e,_⟩:=h;exact ⟨_,TC.k.ty e,TC.t⟩
def sz30 {n:Nat} (h:n<=30000):n<sizeLine:=Nat.lt_of_le_of_lt h (by decide)
inductive spCnt (c:F2.Cs) (q:QCs) (K:Fg) (n:Nat) (vs:Jm) (H:Hp) (Q:VK) (_:XK):Prop
 | mk (l:Ad) (ys:Jf) (ss:Stps) (_:vs=[.ref l]) (_:SqL K H l (ys.map V.ref)) (_:StpsAt c q H ys ss) (_:Zt ss<n) (_:Q (.int (cnts ss)) H)
def ok_cnt_s {c:F2.Cs} {q:QCs} {n:Nat} (d:zC K mg "count_of" xf ["steps"]) (hisi:mg "isinstance"=none) (SG:StepG mg q) (SK:StepK K q) (TC:TillC K q) (CO:Ok P w K mg base CX0 (n+1) "count_of" ["steps"] (spCnt c q K n)):Ok P w K mg base CX0 (n+2) "count_of" ["steps"] (spCnt c q K (n+1)):=by
 obtain ⟨g,fd,m,F,b⟩:=d;refine ⟨g,fd,m,F.kp,b,F.ok sc_count_of (by rintro vs H Q E ⟨_,_,_,e,_⟩;rw [e];rfl) λcdv A outer s H vs Q E hr h=>?_⟩;obtain ⟨l,ys,ss,rfl,hl,hs,dn,k⟩:=h;have nd:=sc_count_of.nd;have hrN:=hr;obtain ⟨yl,ya⟩:=Ys hs;refine ⟨_,(zc (zA (i:=1) nd rfl (Or.inl rfl) zd)
   (zc (ZK PassesOwn.never rfl (Zl (pv 0)) (xD (i:=2) nd rfl (Or.inl rfl)) (zc (zA (i:=1) nd rfl (Or.inl rfl) (zr zZ (pv 1) zd))
   (zf (yQ (zu (yb (zw zB (by rfl) hisi PyProof.Rows.boot_isinstance (zb (pv 2) (zb (yw SG.till) ze)))) (zf (zA (i:=1) nd rfl (Or.inl rfl) (zr zZ (pv 1) (zG CO hrN (by rfl) zJ (zb (zq (pv 2) rfl) ze))))) zk)))))
   (zf (zj (pv 1))))),?_⟩
 refine ⟨_,rfl,l,rfl,⟨_,hl⟩,?_⟩;refine Zw (K:=K) (a:=l) (xs:=ys.map V.ref) (λi σ J=>∃ u,σ=[some (.ref l),some (.int (cntP ((Sl ss).take i))),u]/\J=H) ⟨none,rfl,rfl⟩ (λi σ J _ ⟨_,_,e⟩=>by rw [e];exact hl) ?_ ?_
 ·rintro i y σ J hi ⟨u,rfl,rfl⟩
  obtain ⟨t,et,rfl⟩:=ZM hi;obtain ⟨s',es,hs'⟩:=ya i t et;have eT:(Sl ss).take (i+1)=(Sl ss).take i++[s']:=by rw [List.take_add_one,es];rfl
  have dd:dep s'<=Zt ss:=by
   have key:∀ {ss:Stps} {s:Stp},s∈Sl ss->dep s<=Zt ss:=by
    intro ss
    induction ss using Stps.rec (motive_1:=λ_=>True) with
    | nil=>exact λm=>nomatch m
    | cons g r _ ih =>
     intro s m;have e:Zt (.cons g r)=max (dep g) (Zt r):=rfl;rcases List.mem_cons.mp m with rfl | m
     ·omega
     ·have:=ih m;omega
    | _=>trivial
   exact key (List.mem_of_getElem? es)
  refine ⟨_,rfl,_,_,rfl,rfl,?_⟩;obtain ⟨C,ty,it⟩:=stp_ty SK TC hs';refine ⟨λσ J'=>σ=[some (.ref l),some (.int (cntP ((Sl ss).take (i+1)))),some (.ref t)]/\J'=J,?_,λσ J' e=>⟨_,e⟩⟩;refine ⟨_,rfl,_,_,.ref q.till,_,isT s',rfl,rfl,(λu r=>r),ty,it,_,rfl,?_⟩;rw [eT,YZ]
  cases s' with
  | st s1 =>
   refine zU ⟨?_,rfl⟩;show [_,some (V.int ((cntP ((Sl ss).take i):Int)+1)),_]=_;rfl
  | till tg most ss' =>
   obtain ⟨ds,l',ys',e,el',hss⟩:=hs';have dt:dep (.till tg most ss')=Zt ss'+1:=rfl;refine yB ⟨_,rfl,_,rfl,t,_,ds,_,.ref l',rfl,e,TC.k.cl,TC.n2,rfl,l',ys',ss',rfl,SqL.of el',hss,by omega,_,_,rfl,rfl,?_,rfl⟩;show [_,some (V.int ((cntP ((Sl ss).take i):Int)+1+(cnts ss':Int))),_]=[_,some (V.int ((cntP ((Sl ss).take i)+(1+cnts ss'):Nat):Int)),_];rw [show (cntP ((Sl ss).take i):Int)+1+(cnts ss':Int)=((cntP ((Sl ss).take i)+(1+cnts ss'):Nat):Int) by omega]
 ·rintro σ J ⟨u,rfl,rfl⟩
  rw [Jh,yl,List.take_length,cnt_Sl];exact ⟨_,rfl,k⟩
theorem ok_cnt {c:F2.Cs} {q:QCs} (d:zC K mg "count_of" xf ["steps"]) (hisi:mg "isinstance"=none) (SG:StepG mg q) (SK:StepK K q) (TC:TillC K q):∀ n:Nat,Ok P w K mg base CX0 (n+1) "count_of" ["steps"] (spCnt c q K n)
 | 0=>ok_no d sc_count_of λ_ _ _ _ ⟨_,_,_,_,_,_,z,_⟩=>Nat.not_lt_zero _ z
 | n+1=>ok_cnt_s d hisi SG SK TC (ok_cnt d hisi SG SK TC n)
structure PgAt (c:F2.Cs) (q:QCs) (K:Fg) (H:Hp) (pr:Ad) (lc:Ad) (D:Pg):Prop where
 ex:∃ dp la lb,H pr=some (.ins q.pr dp (prFl la lb lc))/\SqL K H la (D.lens.map V.int)/\F2.FunsAt c K H lb D.d.fs
 nr:D.lens.length=D.d.nr
def PgAt.same {c:F2.Cs} {q:QCs} {H H':Hp} {pr lc:Ad} {D:Pg} (h:PgAt c q K H pr lc D) (s:Same H H'):PgAt c q K H' pr lc D:=by
 obtain ⟨⟨dp,la,lb,a,b,d⟩,e⟩:=h;exact ⟨⟨dp,la,lb,s _ _ a,zD b s,d.same s⟩,e⟩
def Grp (g:Nat):Prop:=g=0∨g=1∨g=2∨g=4
inductive spLook (c:F2.Cs) (q:QCs) (K:Fg) (vs:Jm) (H:Hp) (Q:VK) (_:XK):Prop
 | mk (pr lc:Ad) (D:Pg) (row gp:Nat) (_:vs=[.ref pr,.int row,.int gp]) (_:PgAt c q K H pr lc D) (_:row<D.lens.length) (_:Told H (YU D row gp) Q)
def ok_look {c:F2.Cs} {q:QCs} (d:zC K mg "look_at" Zz ["program","row","group"]) (PC:PrC K q.pr) (GF:Ok P w K mg base CX0 1 "group_for" ["seats"] spGroupF):Ok P w K mg base CX0 2 "look_at" ["program","row","group"] (spLook c q K):=by
 obtain ⟨g,fd,m,F,b⟩:=d;refine ⟨g,fd,m,F.kp,b,F.ok sc_look_at (by rintro vs H Q E ⟨_,_,_,_,_,e,_⟩;rw [e];rfl) λcdv A outer s H vs Q E hr h=>?_⟩;obtain ⟨pr,lc,D,row,gp,rfl,hp,rl,k⟩:=h;have nd:=sc_look_at.nd;have hr1:Room 1 _:=hr;obtain ⟨⟨dp,la,lb,ep,hl,hfu⟩,hnr⟩:=hp;refine ⟨_,(zc (yQ (zu (zi zx (pv 2) zd (zo _)) (zf (zA (i:=2) nd rfl (Or.inl rfl) (zG GF hr1 (by rfl) zJ (zb zd ze)))) zk))
   (zf (zj (zQ (zb (zR (zb zh (zb (zP zY (zq (pv 0) rfl) (pv 1) (λ_ _=>rfl)) (zb (pv 2) ze)))) (zb (zR (zb zh (zb zd (zb (pv 1) (zb zd ze))))) (zb (zR (zb zh (zb zd (zb zd ze)))) (zb (zR (zb zh ze)) ze)))))))),?_⟩
 refine ⟨λσ J=>σ=[rq pr,iq row,iq (if gp=0 then 4 else gp:Nat)]/\J=H,?_,?_⟩
 ·refine ⟨_,rfl,rfl,_,rfl,?_⟩
  refine z7 (λz=>?_) (λz=>?_)
  ·have z:(gp:Int)=0:=V.int.inj (of_decide_eq_true z)
   have z:gp=0:=by omega
   rw [if_pos z];exact ⟨1,rfl,rfl,rfl⟩
  ·have z:¬ gp=0:=λy=>z (decide_eq_true (by rw [y];rfl))
   rw [if_neg z];exact ⟨rfl,rfl⟩
 rintro σ J ⟨rfl,rfl⟩;have sA:=Same.refl J;refine ⟨_,rfl,pr,_,dp,_,.ref la,rfl,ep,PC.c,PC.n0,rfl,_,rfl,la,_,_,_,rfl,rfl,hl,xJ row rl rfl,_,rfl,szU 3,λt1 n1=>?_⟩;generalize hX:upd _ _ _=G1;obtain ⟨sX,e1⟩:=yi hX n1;replace sA:=sA.trans sX;clear hX sX;refine ⟨_,rfl,szU 4,λt2 n2=>?_⟩;generalize hX:upd _ _ _=G2;obtain ⟨sX,e2⟩:=yi hX n2;replace sA:=sA.trans sX;replace e1:=sX _ _ e1;clear hX sX;refine ⟨szU 3,λt3 n3=>?_⟩;generalize hX:upd _ _ _=G3;obtain ⟨sX,e3⟩:=yi hX n3;replace sA:=sA.trans sX;replace e1:=sX _ _ e1;replace e2:=sX _ _ e2;clear hX sX;refine ⟨szU 1,λt4 n4=>?_⟩;generalize hX:upd _ _ _=G4;obtain ⟨sX,e4⟩:=yi hX n4;replace sA:=sA.trans sX;replace e1:=sX _ _ e1;replace e2:=sX _ _ e2;replace e3:=sX _ _ e3;clear hX sX;refine ⟨szU 4,λl nl=>?_⟩;have nH:=sA.free nl;generalize hX:upd _ _ _=G5;obtain ⟨sX,el⟩:=yi hX nl;replace sA:=sA.trans sX;replace e1:=sX _ _ e1;replace e2:=sX _ _ e2;replace e3:=sX _ _ e3;replace e4:=sX _ _ e4;clear hX sX;exact k G5 l [t1,t2,t3,t4] sA nH el (zO (zT e1) (zO (zT e2) (zO (zT e3) (zT e4))))
inductive spTurns (c:F2.Cs) (q:QCs) (K:Fg) (n m:Nat) (vs:Jm) (H:Hp) (Q:VK) (_:XK):Prop
 | mk (pr lc s:Ad) (D:Pg) (tg:Nat) (most:Int) (ss:Stps) (number:Int) (gp:Nat) (_:vs=[.ref pr,.ref s,.int number,.int gp]) (_:D.n=n) (_:PgAt c q K H pr lc D) (_:StpAt c q H s (.till tg most ss)) (_:StA D (.till tg most ss)) (_:Zt ss<m) (_:Grp gp) (_:(xx D gp (.till tg most ss) number).length<=30000) (_:Told H (xx D gp (.till tg most ss) number) Q)
inductive spCode (c:F2.Cs) (q:QCs) (K:Fg) (n m:Nat) (vs:Jm) (H:Hp) (Q:VK) (_:XK):Prop
 | mk (pr lc ls:Ad) (ys:Jf) (ss:Stps) (D:Pg) (first:Int) (gp:Nat) (_:vs=[.ref pr,.ref ls,.int first,.int gp]) (_:D.n=n) (_:PgAt c q K H pr lc D) (_:SqL K H ls (ys.map V.ref)) (_:StpsAt c q H ys ss) (_:StAs D ss) (_:Zt ss<m) (_:Grp gp) (_:(xu D gp ss first).length<=30000) (_:Told H (xu D gp ss first) Q)
def ok_turns {c:F2.Cs} {q:QCs} {n m:Nat} (d:zC K mg "turns_of" xG ["program","till","number","group"]) (TC:TillC K q) (LA:Ok P w K mg base CX0 2 "look_at" ["program","row","group"] (spLook c q K)) (CD:Ok P w K mg base CX0 (3*n+2*m+8) "code_of" ["program","steps","first","group"] (spCode c q K n m)):Ok P w K mg base CX0 (3*n+2*m+9) "turns_of" ["program","till","number","group"] (spTurns c q K n m):=by
 obtain ⟨g,fd,m',F,b⟩:=d;refine ⟨g,fd,m',F.kp,b,F.ok sc_turns_of (by rintro vs H Q E ⟨_,_,_,_,_,_,_,_,_,e,_⟩;rw [e];rfl) λcdv A outer s H vs Q E hr h=>?_⟩;obtain ⟨pr,lc,s,D,tg,most,ss,number,gp,rfl,rfl,hp,hs,hf,dn,hg,l3,k⟩:=h;have nd:=sc_turns_of.nd;have hrC:=hr;have hr2:Room 2 _:=hr.mono (by omega);obtain ⟨ds,l,ys,es,el,hss⟩:=hs;have ec:xx D gp (.till tg most ss) number=[[.str "turns"]]++xu D gp ss (number+1)++([[.str "quiet"]]++YU D tg gp)++[[.str "till",.int most,.int number]]:=rfl;rw [ec] at l3 k
 have l4:(xu D gp ss (number+1)).length+7<=30000:=by
  rw [Ji,Ji,Ji,Ji] at l3;have:1+(xu D gp ss (number+1)).length+(1+4)+1<=30000:=l3;omega
 refine ⟨_,(zc (zA (i:=4) nd rfl (Or.inl rfl) (zG CD hrC (by rfl) zJ (zb (pv 0) (zb (zq (pv 1) rfl) (zb (zr zZ (pv 2) zd) (zb (pv 3) ze))))))
   (zc (zA (i:=5) nd rfl (Or.inl rfl) (zr xb (zQ (zb (zR (zb zh ze)) ze)) (zG LA hr2 (by rfl) zJ (zb (pv 0) (zb (zq (pv 1) rfl) (zb (pv 3) ze))))))
   (zf (zj (zr xb (zr xb (zr xb (zQ (zb (zR (zb zh ze)) ze)) (pv 4)) (pv 5)) (zQ (zb (zR (zb zh (zb (zq (pv 1) rfl) (zb (pv 2) ze)))) ze))))))),?_⟩
 refine ⟨_,rfl,_,rfl,s,_,ds,_,.ref l,rfl,es,TC.k.cl,TC.n2,rfl,_,rfl,_,_,rfl,rfl,_,rfl,pr,lc,l,ys,ss,D,number+1,gp,rfl,rfl,hp,SqL.of el,hss,hf.2,dn,hg,by omega,λH1 l1 cs1 sA n1 e1 c1=>?_⟩;refine ⟨szU 1,λt2 n2=>?_⟩;generalize hX:upd _ _ _=G2;obtain ⟨sX,e2⟩:=yi hX n2;replace sA:=sA.trans sX;replace e1:=sX _ _ e1;replace c1:=c1.same sX;clear hX sX;refine ⟨szU 1,λl3 nl3=>?_⟩;generalize hX:upd _ _ _=G3;obtain ⟨sX,el3⟩:=yi hX nl3;replace sA:=sA.trans sX;replace e1:=sX _ _ e1;replace c1:=c1.same sX;replace e2:=sX _ _ e2;clear hX sX;refine ⟨_,rfl,_,rfl,s,_,ds,_,.int tg,rfl,sA _ _ es,TC.k.cl,TC.n0,rfl,_,rfl,pr,lc,D,tg,gp,rfl,hp.same sA,hf.1,λG4 l5 cs5 s4 n5 e5 c5=>?_⟩;replace sA:=sA.trans s4;replace e1:=s4 _ _ e1;replace c1:=c1.same s4;replace e2:=s4 _ _ e2;replace el3:=s4 _ _ el3;have len5:cs5.length=4:=c5.n;refine ⟨l3,l5,_,_,rfl,rfl,el3,e5,(by rw [Jh,len5];exact szU 5),λl6 n6=>?_⟩;generalize hX:upd _ _ _=G6;obtain ⟨sX,e6⟩:=yi hX n6;replace sA:=sA.trans sX;replace e1:=sX _ _ e1;replace c1:=c1.same sX;replace e2:=sX _ _ e2;replace c5:=c5.same sX;clear hX sX;refine ⟨szU 1,λt7 n7=>?_⟩;generalize hX:upd _ _ _=G7;obtain ⟨sX,e7⟩:=yi hX n7;replace sA:=sA.trans sX;replace e1:=sX _ _ e1;replace c1:=c1.same sX;replace e2:=sX _ _ e2;replace c5:=c5.same sX;replace e6:=sX _ _ e6;clear hX sX;refine ⟨szU 1,λl8 n8=>?_⟩;generalize hX:upd _ _ _=G8;obtain ⟨sX,e8⟩:=yi hX n8;replace sA:=sA.trans sX;replace e1:=sX _ _ e1;replace c1:=c1.same sX;replace e2:=sX _ _ e2;replace c5:=c5.same sX;replace e6:=sX _ _ e6;replace e7:=sX _ _ e7;clear hX sX;refine ⟨_,rfl,l8,l1,_,_,rfl,rfl,e8,e1,(by rw [Jh,c1.n];exact Nat.le_of_lt (sz30 (by show 1+_<=30000;omega))),λl9 n9=>?_⟩;generalize hX:upd _ _ _=G9;obtain ⟨sX,e9⟩:=yi hX n9;replace sA:=sA.trans sX;replace c1:=c1.same sX;replace e2:=sX _ _ e2;replace c5:=c5.same sX;replace e6:=sX _ _ e6;replace e7:=sX _ _ e7;clear hX sX;refine ⟨_,rfl,l9,l6,_,_,rfl,rfl,e9,e6,(by rw [Ji,Ji,Jh,Jh,c1.n,len5];exact Nat.le_of_lt (sz30 (by show 1+_+(1+4)<=30000;omega))),λla na=>?_⟩;generalize hX:upd _ _ _=Ga;obtain ⟨sX,ea⟩:=yi hX na;replace sA:=sA.trans sX;replace c1:=c1.same sX;replace e2:=sX _ _ e2;replace c5:=c5.same sX;replace e7:=sX _ _ e7;clear hX sX;refine ⟨_,rfl,s,_,ds,_,.int most,rfl,sA _ _ es,TC.k.cl,TC.n1,rfl,_,rfl,szU 3,λtb nb=>?_⟩;generalize hX:upd _ _ _=Gb;obtain ⟨sX,eb⟩:=yi hX nb;replace sA:=sA.trans sX;replace c1:=c1.same sX;replace e2:=sX _ _ e2;replace c5:=c5.same sX;replace e7:=sX _ _ e7;replace ea:=sX _ _ ea;clear hX sX;refine ⟨szU 1,λlc' nc=>?_⟩;generalize hX:upd _ _ _=Gc;obtain ⟨sX,ec'⟩:=yi hX nc;replace sA:=sA.trans sX;replace c1:=c1.same sX;replace e2:=sX _ _ e2;replace c5:=c5.same sX;replace e7:=sX _ _ e7;replace ea:=sX _ _ ea;replace eb:=sX _ _ eb;clear hX sX;refine ⟨la,lc',_,_,rfl,rfl,ea,ec',(by rw [Ji,Ji,Ji,Jh,Jh,c1.n,len5];exact Nat.le_of_lt (sz30 (by show 1+_+(1+4)+1<=30000;omega))),λld nld=>?_⟩;have nH:=sA.free nld;generalize hX:upd _ _ _=Gd;obtain ⟨sX,ed⟩:=yi hX nld;replace sA:=sA.trans sX;replace c1:=c1.same sX;replace e2:=sX _ _ e2;replace c5:=c5.same sX;replace e7:=sX _ _ e7;replace eb:=sX _ _ eb;clear hX sX;refine k Gd ld ([t7]++cs1++([t2]++cs5)++[tb]) sA nH ?_ (zO (zO (zO (zT e7) c1) (zO (zT e2) c5)) (zT eb));rw [ed,Jj,Jj,Jj,Jj];rfl
def ok_code_s {c:F2.Cs} {q:QCs} {n m:Nat} (d:zC K mg "code_of" Zd ["program","steps","first","group"]) (hisi:mg "isinstance"=none) (SG:StepG mg q) (SK:StepK K q) (TC:TillC K q) (NU:Ok P w K mg base CX0 (3*n+2*m+9) "turns_of" ["program","till","number","group"] (spTurns c q K n m)) (RO:Ok P w K mg base CX0 (3*n+7) "round_of" ["program","step","number","group"] (spRnd c q K n)) (CO:Ok P w K mg base CX0 (m+2) "count_of" ["steps"] (spCnt c q K (m+1))):Ok P w K mg base CX0 (3*n+2*m+10) "code_of" ["program","steps","first","group"] (spCode c q K n (m+1)):=by
 obtain ⟨g,fd,m',F,b⟩:=d;refine ⟨g,fd,m',F.kp,b,F.ok sc_code_of (by rintro vs H Q E ⟨_,_,_,_,_,_,_,_,e,_⟩;rw [e];rfl) λcdv A outer s H vs Q E hr h=>?_⟩;obtain ⟨pr,lc,ls,ys,ss,D,first,gp,rfl,rfl,hp,hls,hss,hF,dn,hg,l9,k⟩:=h;have nd:=sc_code_of.nd;have hrT:=hr;have hrR:Room (3*D.n+7) _:=hr.mono (by omega);have hrN:Room (m+2) _:=hr.mono (by omega);obtain ⟨yl,ya⟩:=Ys hss;refine ⟨_,(zc (zA (i:=4) nd rfl (Or.inl rfl) (zQ ze))
   (zc (zA (i:=5) nd rfl (Or.inl rfl) (pv 2))
   (zc (ZK PassesOwn.never rfl (Zl (pv 1)) (xD (i:=6) nd rfl (Or.inl rfl)) (zc (yQ (zu (yb (zw zB (by rfl) hisi PyProof.Rows.boot_isinstance (zb (pv 6) (zb (yw SG.till) ze)))) (zf (zX (xI PySem.F.plainAttrs_list PySem.F.slot_list_extend PySem.F.type_list_extend YT (pv 4) (zb (zG NU hrT (by rfl) zJ (zb (pv 0) (zb (pv 6) (zb (pv 5) (zb (pv 3) ze))))) ze)))) (zf (zX (xI PySem.F.plainAttrs_list PySem.F.slot_list_extend PySem.F.type_list_extend YT (pv 4) (zb (zG RO hrR (by rfl) zJ (zb (pv 0) (zb (pv 6) (zb (pv 5) (zb (pv 3) ze))))) ze))))))
   (zf (zA (i:=5) nd rfl (Or.inl rfl) (zr zZ (pv 5) (zG CO hrN (by rfl) zJ (zb (zQ (zb (pv 6) ze)) ze)))))))
   (zf (zj (pv 4)))))),?_⟩
 refine ⟨szU 0,λcd ncd=>?_⟩;have ncd0:=ncd;have h0:Hd H [(cd,.lst (([]:Jf).map V.ref))] (upd H cd (.lst [])):=Hd.base.new ncd;generalize upd H cd (.lst [])=H1 at h0 ⊢;refine ⟨_,rfl,?_⟩;refine ⟨_,rfl,ls,rfl,⟨_,h0.sql hls⟩,?_⟩;refine Zw (K:=K) (a:=ls) (xs:=ys.map V.ref) (λi σ J=>∃ (u:Jn) (B:Hp) (cs:Jf),σ=[some (.ref pr),some (.ref ls),some (.int first),some (.int gp),some (.ref cd),some (.int (first+(cntP ((Sl ss).take i):Int))),u]/\Same H B/\Hd B [(cd,.lst (cs.map V.ref))] J/\CodeAt B cs (yY D gp ((Sl ss).take i) first)) ⟨none,H,[],by rw [show first+(cntP ((Sl ss).take 0):Int)=first by show first+((0:Nat):Int)=first;omega];rfl,Same.refl _,h0,YF⟩ (λi σ J _ ⟨_,B,_,_,sB,h,_⟩=>h.sql (zD hls sB)) ?_ ?_
 ·clear h0
  rintro i y σ J hi ⟨u,B,cs,rfl,sB,h,CB⟩;obtain ⟨t,et,rfl⟩:=ZM hi;obtain ⟨s',es,hs'⟩:=ya i t et;obtain ⟨hF',dd⟩:=mem_Sl (D:=D) (List.mem_of_getElem? es) hF;have sJ:=sB.trans h.sm;have eT:(Sl ss).take (i+1)=(Sl ss).take i++[s']:=by rw [List.take_add_one,es];rfl
  have ec:yY D gp ((Sl ss).take (i+1)) first=yY D gp ((Sl ss).take i) first++xx D gp s' (first+(cntP ((Sl ss).take i):Int)):=by rw [eT,Z4,codeP_one]
  have all:(yY D gp ((Sl ss).take (i+1)) first).length<=30000:=by
   have e:=Z4 D gp ((Sl ss).take (i+1)) ((Sl ss).drop (i+1)) first
   rw [List.take_append_drop,Xr] at e;rw [e,Ji] at l9;omega
  obtain ⟨C,ty,it⟩:=stp_ty SK TC (hs'.same sJ)
  have put:∀ {Q2:VK},(∀ (cs2:Jf) (J2:Hp) (l:Ad) (B2:Hp),Same B B2->Hd B2 [(cd,.lst (cs.map V.ref))] J2->J2 l=some (.lst (cs2.map V.ref))->CodeAt B2 (cs++cs2) (yY D gp ((Sl ss).take (i+1)) first)->(cs++cs2).length<=30000->Q2 (.ref l) J2)->Told J (xx D gp s' (first+(cntP ((Sl ss).take i):Int))) Q2:=by
   intro Q2 kk J2 l cs2 s2 nl el CO2;have ecd:=s2 _ _ (h.get 0 rfl);obtain ⟨B2,sB2,h2,new2⟩:=h.over s2
   have CO3:CodeAt B2 cs2 (xx D gp s' (first+(cntP ((Sl ss).take i):Int))):=⟨CO2.n,λi b tv x y=>new2 _ _ (CO2.t i b tv x y) λe=>by
    have:=CO2.t i b tv x y;rw [List.mem_singleton.mp e,ecd] at this;cases this⟩
   have CA:=zO (CB.same sB2) CO3;rw [← ec] at CA;exact kk cs2 J2 l B2 sB2 h2 el CA (by rw [CA.n];exact all)
  refine ⟨λσ J'=>∃ (B2:Hp) (cs2:Jf),σ=[some (.ref pr),some (.ref ls),some (.int first),some (.int gp),some (.ref cd),some (.int (first+(cntP ((Sl ss).take i):Int))),some (.ref t)]/\Same B B2/\Hd B2 [(cd,.lst (cs2.map V.ref))] J'/\CodeAt B2 cs2 (yY D gp ((Sl ss).take (i+1)) first),?_,?_⟩
  ·refine ⟨_,rfl,_,_,.ref q.till,_,isT s',rfl,rfl,(λu r=>r),ty,it,_,rfl,?_⟩
   have fin:∀ (cs2:Jf) (J2:Hp) (l:Ad) (B2:Hp),Same B B2->Hd B2 [(cd,.lst (cs.map V.ref))] J2->J2 l=some (.lst (cs2.map V.ref))->CodeAt B2 (cs++cs2) (yY D gp ((Sl ss).take (i+1)) first)->(cs++cs2).length<=30000->∃ (a b:Ad) (xs zs:Jm),(V.ref cd=.ref a/\[V.ref l]=[.ref b]/\J2 a=some (.lst xs)/\J2 b=some (.lst zs)/\xs.length+zs.length<=sizeLine)/\∃ (B2:Hp) (cs2:Jf),Same B B2/\Hd B2 [(cd,.lst (cs2.map V.ref))] (upd J2 a (.lst (xs++zs)))/\CodeAt B2 cs2 (yY D gp ((Sl ss).take (i+1)) first):=λcs2 J2 l B2 sB2 h2 el CA csl=>⟨cd,l,_,_,⟨rfl,rfl,h2.get 0 rfl,el,by rw [Jh,Jh,← List.length_append];exact Nat.le_of_lt (sz30 csl)⟩,B2,cs++cs2,sB2,by rw [← List.map_append];exact h2.put 0 rfl,CA⟩
   cases s' with
   | st s1 =>
    obtain ⟨⟨dp,la,lb,ep,hl,hfu⟩,hnr⟩:=hp.same sJ;refine zU ⟨_,rfl,.inl ⟨rfl,_,h.lst 0 rfl⟩,_,rfl,_,rfl,_,rfl,_,rfl,pr,dp,la,lb,lc,t,D,s1,first+(cntP ((Sl ss).take i):Int),gp,rfl,rfl,ep,hs'.same sJ,hF',hl,hfu,hnr,hg,put λcs2 J2 l B2 sB2 h2 el CA csl=>?_⟩;obtain ⟨a,b,xs,zs,⟨x1,x2,x3,x4,x5⟩,y⟩:=fin cs2 J2 l B2 sB2 h2 el CA csl;cases x1;cases x2;obtain ⟨B3,cs3,y1,y2,y3⟩:=y;exact ⟨_,_,xs,zs,rfl,rfl,x3,x4,x5,B3,cs3,rfl,y1,y2,y3⟩
   | till tg most ss' =>
    have dt:dep (.till tg most ss')=Zt ss'+1:=rfl;refine yB ⟨_,rfl,.inl ⟨rfl,_,h.lst 0 rfl⟩,_,rfl,_,rfl,_,rfl,_,rfl,pr,lc,t,D,tg,most,ss',first+(cntP ((Sl ss).take i):Int),gp,rfl,rfl,hp.same sJ,hs'.same sJ,hF',by omega,hg,?_,put λcs2 J2 l B2 sB2 h2 el CA csl=>?_⟩
    ·rw [ec,Ji] at all;omega
    obtain ⟨a,b,xs,zs,⟨x1,x2,x3,x4,x5⟩,y⟩:=fin cs2 J2 l B2 sB2 h2 el CA csl;cases x1;cases x2;obtain ⟨B3,cs3,y1,y2,y3⟩:=y;exact ⟨_,_,xs,zs,rfl,rfl,x3,x4,x5,B3,cs3,rfl,y1,y2,y3⟩
  rintro σ J' ⟨B2,cs2,rfl,sB2,h2,CA⟩;refine ⟨_,rfl,_,rfl,szU 1,λl3 nl3=>?_⟩;have h4:=h2.waste (o:=.lst [.ref t]) nl3;have e3:upd J' l3 (.lst [.ref t]) l3=_:=zg;generalize upd J' l3 (.lst [.ref t])=J4 at h4 e3 ⊢;have s04:=(sB.trans sB2).trans h4.sm;have d1:Zt (.cons s' .nil)=max (dep s') 0:=rfl;have c1:cnts (.cons s' .nil)=cnt s':=Nat.add_zero _;refine ⟨l3,[t],.cons s' .nil,rfl,SqL.of e3,⟨t,[],rfl,hs'.same s04,rfl⟩,by omega,_,_,rfl,rfl,?_⟩;rw [c1];exact ⟨_,B2,cs2,by rw [show first+(cntP ((Sl ss).take i):Int)+(cnt s':Int)=first+(cntP ((Sl ss).take (i+1)):Int) by rw [eT,YZ];omega];rfl,sB.trans sB2,h4,CA⟩
 ·clear h0
  rintro σ J ⟨u,B,cs,rfl,sB,h,CB⟩;rw [Jh,yl,List.take_length,Xr] at CB;exact ⟨_,rfl,k _ cd cs (sB.trans h.sm) ncd0 (h.get 0 rfl) (CB.same h.sm)⟩
theorem ok_code {c:F2.Cs} {q:QCs} {n:Nat} (d:zC K mg "code_of" Zd ["program","steps","first","group"]) (dt:zC K mg "turns_of" xG ["program","till","number","group"]) (dc:zC K mg "count_of" xf ["steps"]) (hisi:mg "isinstance"=none) (SG:StepG mg q) (SK:StepK K q) (TC:TillC K q) (LA:Ok P w K mg base CX0 2 "look_at" ["program","row","group"] (spLook c q K)) (RO:Ok P w K mg base CX0 (3*n+7) "round_of" ["program","step","number","group"] (spRnd c q K n)):∀ m:Nat,Ok P w K mg base CX0 (3*n+2*m+8) "code_of" ["program","steps","first","group"] (spCode c q K n m)
 | 0=>(ok_no d sc_code_of λ_ _ _ _ ⟨_,_,_,_,_,_,_,_,_,_,_,_,_,_,z,_,_,_⟩=>Nat.not_lt_zero _ z).mono (by omega)
 | m+1=>ok_code_s d hisi SG SK TC (ok_turns dt TC LA (ok_code d dt dc hisi SG SK TC LA RO m)) RO (ok_cnt dc hisi SG SK TC (m+1))
inductive spMade (c:F2.Cs) (q:QCs) (K:Fg) (n m:Nat) (vs:Jm) (H:Hp) (Q:VK) (_:XK):Prop
 | mk (pr lc:Ad) (ys:Jf) (ss:Stps) (D:Pg) (gp:Nat) (_:vs=[.ref pr,.int gp]) (_:D.n=n) (_:PgAt c q K H pr lc D) (_:SqL K H lc (ys.map V.ref)) (_:StpsAt c q H ys ss) (_:StAs D ss) (_:Zt ss<m) (_:Grp gp) (_:(xu D gp ss 0).length<=30000) (_:Told H (xu D gp ss 0) Q)
def ok_made {c:F2.Cs} {q:QCs} {n m:Nat} (d:DefD K mg "made" Z0 ["program","group"]) (PC:PrC K q.pr) (CD:Ok P w K mg base CX0 (3*n+2*m+8) "code_of" ["program","steps","first","group"] (spCode c q K n m)):OkD P w K mg base CX0 (3*n+2*m+9) "made" ["program","group"] (spMade c q K n m):=by
 obtain ⟨g,fd,t,m',F,b,b2⟩:=d;refine ⟨g,fd,t,m',F.kp,b,b2,F.ok sc_made (by rintro vs H Q E ⟨_,_,_,_,_,_,e,_⟩;rw [e];rfl) λcdv A outer s H vs Q E hr h=>?_⟩;obtain ⟨pr,lc,ys,ss,D,gp,rfl,hn,hp,hls,hSt,hF',dn,hg,l9,k⟩:=h;have nd:=sc_made.nd;have hrC:=hr;obtain ⟨dp,la,lb,ep,hl,hfu⟩:=hp.ex;refine ⟨_,(zf (zj (zG CD hrC (by rfl) zJ (zb (pv 0) (zb (zq (pv 0) rfl) (zb zd (zb (pv 1) ze))))))),?_⟩;exact ⟨_,rfl,_,rfl,pr,_,dp,_,.ref lc,rfl,ep,PC.c,PC.n2,rfl,_,rfl,pr,lc,lc,ys,ss,D,0,gp,rfl,hn,hp,hls,hSt,hF',dn,hg,l9,k⟩
def fsK (sg:Str):List F2.Fn:=[(2,.pair sg (.loc 0) (.loc 1)),(2,.call 0 (.cons (.loc 1) (.cons (.loc 0) .nil)))]
def T0:Tb:=⟨λ_=>2,λa=>if a=0 then 3 else 6,λ_=>0⟩
def Y6 {a:Int} (h0:0<=a) (h1:a.toNat<2):a=0∨a=1:=by omega
def tab_ok (sg:Str):TabOk 5 (fsK sg) T0:=⟨λa h0 h1=>by rcases Y6 h0 h1 with rfl | rfl <;> rfl,λa h0 h1=>by rcases Y6 h0 h1 with rfl | rfl <;> exact Nat.le_refl _,λa h0 h1=>by rcases Y6 h0 h1 with rfl | rfl <;> exact Nat.le_refl _,λa h0 h1=>by
  rcases Y6 h0 h1 with rfl | rfl
  ·exact ⟨⟨by decide,by show 0<2;decide⟩,⟨by decide,by show 1<2;decide⟩⟩
  ·exact ⟨⟨by decide,by show 0<2;decide,rfl⟩,⟨by decide,by show 1<2;decide⟩,⟨by decide,by show 0<2;decide⟩,trivial⟩,λa=>by show 1<=2;decide⟩
def fx (sg:Str):Fx:=⟨5,fsK sg,T0,tab_ok sg⟩
structure FB (z d:Nat) (F:F2.Fm):Prop where
 o:∀ sg,FOk 5 (fsK sg) 0 F
 z:zF T0 F<=z
 d:cD T0 F<=d
def FB.mono {z d z' d':Nat} {F:F2.Fm} (h:FB z d F) (h1:z<=z') (h2:d<=d'):FB z' d' F:=⟨h.o,Nat.le_trans h.z h1,Nat.le_trans h.d h2⟩
def fb_at {z d:Nat} {F:F2.Fm} {r:Int} (r0:0<=r) (r1:r<5) (h:FB z d F):FB (z+1) d (.at' r F):=⟨λsg=>⟨⟨r0,by omega⟩,h.o sg⟩,Nat.succ_le_succ h.z,h.d⟩
def Xq (v:Int):FB 1 0 (.num v):=⟨λ_=>trivial,Nat.le_refl _,Nat.le_refl _⟩
def ZS {z d z' d':Nat} {F G:F2.Fm} (sg:Str) (h:FB z d F) (h':FB z' d' G):FB (z+z'+1) (max d d') (.pair sg F G):=by
 refine ⟨λs=>⟨h.o s,h'.o s⟩,?_,?_⟩
 ·show zF T0 F+zF T0 G+1<=_
  have:=h.z;have:=h'.z;omega
 ·show max (cD T0 F) (cD T0 G)<=_
  have:=h.d;have:=h'.d;omega
def fb_cho {z d z' d' z2 d2:Nat} {E F G:F2.Fm} (h0:FB z2 d2 E) (h:FB z d F) (h':FB z' d' G):FB (z2+z+z'+1) (max d2 (max d d'+1)) (.cho E F G):=by
 refine ⟨λs=>⟨h0.o s,h.o s,h'.o s⟩,?_,?_⟩
 ·show zF T0 E+zF T0 F+zF T0 G+1<=_
  have:=h0.z;have:=h.z;have:=h'.z;omega
 ·show max (cD T0 E) (max (cD T0 F) (cD T0 G)+1)<=_
  have:=h0.d;have:=h.d;have:=h'.d;omega
def fb_call {z d z' d':Nat} {F G:F2.Fm} {a:Int} (a0:0<=a) (a1:a<2) (h:FB z d F) (h':FB z' d' G):FB (z+z'+7) (max d d') (.call a (.cons F (.cons G .nil))):=by
 have ea:a=0∨a=1:=by omega
 refine ⟨λs=>⟨⟨a0,by show a.toNat<2;omega,?_⟩,h.o s,h'.o s,trivial⟩,?_,?_⟩
 ·rcases ea with rfl | rfl <;> rfl
 ·show zF T0 F+(zF T0 G+0)+T0.z a+1<=_
  have e:T0.z a<=6:=by show (if a=0 then 3 else 6)<=6;split <;> decide
  have:=h.z;have:=h'.z;omega
 ·show max (cD T0 F) (max (cD T0 G) 0)<=_
  have:=h.d;have:=h'.d;omega
def Zo {F:F2.Fm} (h:∀ sg,FOk 5 (fsK sg) 0 F) (hz:zF T0 F=1) (hd:cD T0 F=0):FB 1 0 F:=⟨h,Nat.le_of_eq hz,Nat.le_of_eq hd⟩
inductive spRB (vs:Jm) (H:Hp) (Q:VK) (_:XK):Prop
 | mk (cell tg:Int) (_:vs=[.int cell,.int tg]) (_:∀ H' r,Same H H'->0<=r->r<5->Q (.int r) H')
def ok_rowby (d:zC K mg "_law_row_by" Zi ["_law_cell","_law_target"]):Ok P w K mg base CX0 1 "_law_row_by" ["_law_cell","_law_target"] spRB:=by
 obtain ⟨g,fd,m,F,b⟩:=d;refine ⟨g,fd,m,F.kp,b,F.ok sc_l_row_by (by rintro vs H Q E ⟨_,_,e,_⟩;rw [e];rfl) λcdv A outer s H vs Q E hr h=>?_⟩;obtain ⟨cell,tg,rfl,k⟩:=h;have nd:=sc_l_row_by.nd;refine ⟨_,(zc (zA (i:=2) nd rfl (Or.inl rfl) (zP zY (zQ (zb zd (zb zd (zb zd (zb zd ze))))) (zr yc (pv 0) zd) (λ_ _=>rfl)))
   (zc (zu (zi zx (pv 2) (pv 1) (zo _)) (zf (zj zd)) zk)
   (zf (zj (pv 2))))),?_⟩
 have sA:=Same.refl H;refine ⟨szU 4,λl nl=>?_⟩;generalize hX:upd _ _ _=H1;obtain ⟨sX,el⟩:=yi hX nl;replace sA:=sA.trans sX;clear hX sX
 obtain ⟨r,er,r0,r1⟩:∃ r:Int,atI ([0,1,3,4].map V.int) (cell % 4)=some (.int r)/\0<=r/\r<5:=by
  have:cell % 4=0∨cell % 4=1∨cell % 4=2∨cell % 4=3:=by omega
  rcases this with e | e | e | e <;> rw [e]
  ·exact ⟨0,rfl,by decide,by decide⟩
  ·exact ⟨1,rfl,by decide,by decide⟩
  ·exact ⟨3,rfl,by decide,by decide⟩
  ·exact ⟨4,rfl,by decide,by decide⟩
 refine ⟨_,rfl,_,_,rfl,rfl,(by show (0:Int)<4;decide),l,_,_,_,rfl,rfl,SqL.of el,er,?_⟩;refine ⟨_,rfl,_,rfl,rfl,_,rfl,z7 (λz=>?_) (λz=>?_)⟩
 ·exact k H1 1 sA (by decide) (by decide)
 ·exact ⟨_,rfl,k H1 r sA r0 r1⟩
inductive spLB (c:F2.Cs) (vs:Jm) (H:Hp) (Q:VK) (_:XK):Prop
 | mk (cell tg:Int) (_:vs=[.int cell,.int tg]) (_:∀ H' x F,Same H H'->F2.FormAt c H' F x->FB 1 0 F->Q (.ref x) H')
def ok_leafby {c:F2.Cs} (d:zC K mg "_law_leaf_by" xR ["_law_cell","_law_target"]) (G:FormG mg c) (RB:Ok P w K mg base CX0 1 "_law_row_by" ["_law_cell","_law_target"] spRB) (KB:Ok P w K mg base (CXe P w base) 1 "_law_kept_by" ["_law_cell"] spKB) (MH:MkN K c.here) (IN:OkI P w K mg base (CXe P w base) 1 c.num ["self","number"] (spI_Number c.num)) (IC:OkI P w K mg base (CXe P w base) 1 c.cell ["self","row"] (spI_Cell c.cell)) (IS:OkI P w K mg base (CXe P w base) 1 c.shi ["self","row","by","other"] (spI_Shifted c.shi)):Ok P w K mg base CX0 3 "_law_leaf_by" ["_law_cell","_law_target"] (spLB c):=by
 obtain ⟨g,fd,m,F,b⟩:=d;refine ⟨g,fd,m,F.kp,b,F.ok sc_l_leaf_by (by rintro vs H Q E ⟨_,_,e,_⟩;rw [e];rfl) λcdv A outer s H vs Q E hr h=>?_⟩;obtain ⟨cell,tg,rfl,k⟩:=h;have nd:=sc_l_leaf_by.nd;have hr2:=hr;have hr1:Room 1 _:=hr.mono (by decide);refine ⟨_,(zc (zA (i:=2) nd rfl (Or.inl rfl) (zr yc (zr Zm (pv 0) zd) zd))
   (zc (zA (i:=3) nd rfl (Or.inl rfl) (zr yc (pv 2) zd))
   (zc (zA (i:=4) nd rfl (Or.inl rfl) (zr yg (pv 2) zd))
   (zc (zu (zi zx (pv 3) zd (zo _)) (zf (zj (zV IN G.num hr2 (by rfl) zW (zb (zG KB hr1 (by rfl) zW (zb (pv 0) ze)) ze)))) zk)
   (zc (zu (zi zx (pv 3) zd (zo _)) (zf (zj (zV IN G.num hr2 (by rfl) zW (zb (zr yM (zr yc (pv 4) zd) zd) ze)))) zk)
   (zc (zu (zi zx (pv 3) zd (zo _)) (zf (zj (XI MH (by rfl) G.here))) zk)
   (zc (zu (zi zx (pv 3) zd (zo _)) (zf (zj (zV IC G.cell hr2 (by rfl) zW (zb zd ze)))) zk)
   (zc (zu (zi zx (pv 3) zd (zo _)) (zf (zj (zV IC G.cell hr2 (by rfl) zW (zb (zr Zm (zr yc (pv 4) zd) zd) ze)))) zk)
   (zc (zu (Z1 (zi zx (pv 3) zd (zo _)) (ZR (zi YR (pv 1) zd (zo _)))).pt (zf (zj (zV IC G.cell hr2 (by rfl) zW (zb zd ze)))) zk)
   (zf (zj (zV IS G.shi hr2 (by rfl) zW (zb (zG RB hr1 (by rfl) zJ (zb (pv 4) (zb (pv 1) ze))) (zb (zr yM (zr yc (zr yg (pv 4) zd) zd) zd) (zb (zG KB hr1 (by rfl) zW (zb (zr yg (pv 0) zd) ze)) ze))))))))))))))),?_⟩
 refine ⟨_,rfl,_,_,rfl,rfl,.inr ⟨by decide,by decide⟩,_,_,rfl,rfl,(by show (0:Int)<2147483629;decide),?_⟩;have mx0:0<=cell*48271 % 2147483629:=by omega
 generalize cell*48271 % 2147483629=mx at mx0 ⊢;refine ⟨_,rfl,_,_,rfl,rfl,(by show (0:Int)<8;decide),?_⟩;generalize hk:mx % 8=kd;refine ⟨_,rfl,_,_,rfl,rfl,⟨by decide,by decide⟩,?_⟩;generalize mx / 8=mo;refine ⟨_,rfl,rfl,_,rfl,z7 (λz=>?_) (λz0=>?_)⟩
 ·refine ⟨_,rfl,_,rfl,λH1 s1=>?_⟩
  exact λx dx n1 n2 n3=>⟨x,dx,.int (xw cell),rfl,zg,λH2 k2 e2=>⟨rfl,k H2 x (.num _) (s1.trans (zK n1 n2 k2)) ⟨dx,e2⟩ (Xq _)⟩⟩
 refine ⟨_,rfl,rfl,_,rfl,z7 (λz=>?_) (λz1=>?_)⟩
 ·refine ⟨_,rfl,_,_,rfl,rfl,(by show (0:Int)<9;decide),_,_,rfl,rfl,?_⟩
  exact λx dx n1 n2 n3=>⟨x,dx,.int (mo % 9-4),rfl,zg,λH2 k2 e2=>⟨rfl,k H2 x (.num _) (zK n1 n2 k2) ⟨dx,e2⟩ (Xq _)⟩⟩
 refine ⟨_,rfl,rfl,_,rfl,z7 (λz=>?_) (λz2=>?_)⟩
 ·exact λx dx n1 n2 n3=>k _ x .here ((zN (Same.refl _) n2).trans (zN (Same.refl _) (by rw [zy (Ne.symm n3)];exact n1))) ⟨dx,zg⟩ (Zo (λ_=>trivial) rfl rfl)
 refine ⟨_,rfl,rfl,_,rfl,z7 (λz=>?_) (λz3=>?_)⟩
 ·exact λx dx n1 n2 n3=>⟨x,dx,.int 1,rfl,zg,λH2 k2 e2=>⟨rfl,k H2 x (.cell 1) (zK n1 n2 k2) ⟨dx,e2⟩ (Zo (λ_=>⟨by decide,by decide⟩) rfl rfl)⟩⟩
 refine ⟨_,rfl,rfl,_,rfl,z7 (λz=>?_) (λz4=>?_)⟩
 ·refine ⟨_,rfl,_,_,rfl,rfl,(by show (0:Int)<2;decide),_,_,rfl,rfl,.inr ⟨by decide,by decide⟩,?_⟩
  exact λx dx n1 n2 n3=>⟨x,dx,.int (mo % 2*4),rfl,zg,λH2 k2 e2=>⟨rfl,k H2 x (.cell (mo % 2*4)) (zK n1 n2 k2) ⟨dx,e2⟩ (Zo (λ_=>⟨by omega,by omega⟩) rfl rfl)⟩⟩
 refine ⟨_,rfl,rfl,_,rfl,?_⟩;refine z7 (λz=>⟨_,rfl,rfl,_,rfl,z7 (λz'=>?_) (λz'=>?_)⟩) (λz5=>?_)
 ·exact λx dx n1 n2 n3=>⟨x,dx,.int 2,rfl,zg,λH2 k2 e2=>⟨rfl,k H2 x (.cell 2) (zK n1 n2 k2) ⟨dx,e2⟩ (Zo (λ_=>⟨by decide,by decide⟩) rfl rfl)⟩⟩
 ·refine ⟨_,rfl,_,rfl,mo,tg,rfl,λH1 r s1 r0 r1=>?_⟩
  refine ⟨_,rfl,_,_,rfl,rfl,⟨by decide,by decide⟩,_,_,rfl,rfl,(by show (0:Int)<7;decide),_,_,rfl,rfl,_,rfl,_,_,rfl,rfl,⟨by decide,by decide⟩,_,rfl,λH2 s2=>?_⟩;exact λx dx n1 n2 n3=>⟨x,dx,.int r,.int (mo / 4 % 7-3),.int (xw (cell / 3)),rfl,zg,λH3 k3 e3=>⟨rfl,k H3 x (.shi r _ _) ((s1.trans s2).trans (zK n1 n2 k3)) ⟨dx,e3⟩ (Zo (λ_=>⟨r0,by omega⟩) rfl rfl)⟩⟩
 ·refine zU ?_
  refine ⟨_,rfl,_,rfl,mo,tg,rfl,λH1 r s1 r0 r1=>?_⟩;refine ⟨_,rfl,_,_,rfl,rfl,⟨by decide,by decide⟩,_,_,rfl,rfl,(by show (0:Int)<7;decide),_,_,rfl,rfl,_,rfl,_,_,rfl,rfl,⟨by decide,by decide⟩,_,rfl,λH2 s2=>?_⟩;exact λx dx n1 n2 n3=>⟨x,dx,.int r,.int (mo / 4 % 7-3),.int (xw (cell / 3)),rfl,zg,λH3 k3 e3=>⟨rfl,k H3 x (.shi r _ _) ((s1.trans s2).trans (zK n1 n2 k3)) ⟨dx,e3⟩ (Zo (λ_=>⟨r0,by omega⟩) rfl rfl)⟩⟩
def sgs:Je:=["+","-","*","/","rest","least","most","<","=","&","|","^","+","-","*"]
def sgs_in:∀ s∈sgs,s∈FM.signs:=by decide
inductive spSB (vs:Jm) (H:Hp) (Q:VK) (_:XK):Prop
 | mk (c:_) (_:vs=[.int c]) (_:∀ H' s,Same H H'->s∈FM.signs->Q (.str s) H')
def ok_signby (d:zC K mg "_law_sign_by" xP ["_law_cell"]):Ok P w K mg base CX0 1 "_law_sign_by" ["_law_cell"] spSB:=by
 obtain ⟨f,fd,m,F,b⟩:=d;refine ⟨f,fd,m,F.kp,b,F.okB sc_l_sign_by (by rintro vs H Q E ⟨_,e,_⟩;rw [e];rfl) λcdv A outer s H vs Q E hr h=>?_⟩;obtain ⟨c,rfl,k⟩:=h;have nd:=sc_l_sign_by.nd;refine ⟨_,(yU (pw_ks (i:=1) nd rfl (Or.inl rfl) rfl)
   (pb_one (PW1.mk (zj (zP zY (pv 1) (zr yc (pv 0) zd) (λ_ _=>rfl)))))),?_⟩
 refine ⟨(by show 15<=sizeLine;decide),λsg nsg=>?_⟩;have s0:Same H (upd H sg (.lst (sgs.map V.str))):=zN (Same.refl H) nsg;have esg:upd H sg (.lst (sgs.map V.str)) sg=some (.lst (sgs.map V.str)):=zg;revert s0 esg;show Same H (upd H sg (.lst [.str "+",.str "-",.str "*",.str "/",.str "rest",.str "least",.str "most",.str "<",.str "=",.str "&",.str "|",.str "^",.str "+",.str "-",.str "*"]))->upd H sg (.lst [.str "+",.str "-",.str "*",.str "/",.str "rest",.str "least",.str "most",.str "<",.str "=",.str "&",.str "|",.str "^",.str "+",.str "-",.str "*"]) sg=some (.lst (sgs.map V.str))->_;generalize upd H sg (.lst [.str "+",.str "-",.str "*",.str "/",.str "rest",.str "least",.str "most",.str "<",.str "=",.str "&",.str "|",.str "^",.str "+",.str "-",.str "*"])=H0;intro s0 esg;have hz:(((c % 15).toNat:Nat):Int)=c % 15:=by omega
 have hl:(c % 15).toNat<sgs.length:=by show (c % 15).toNat<15;omega
 have e:(sgs.map V.str)[(c % 15).toNat]?=some (V.str (sgs[(c % 15).toNat]'hl)):=by
  rw [List.getElem?_map,List.getElem?_eq_getElem hl];rfl
 have hin:=sgs_in _ (List.getElem_mem hl);generalize sgs[(c % 15).toNat]'hl=sv at e hin;exact ⟨_,rfl,_,rfl,_,_,rfl,rfl,(by show (0:Int)<15;decide),sg,_,_,_,rfl,rfl,SqL.of esg,(by rw [← hz];exact zE e),k _ _ s0 hin⟩
structure Tr where
 F:F2.Fm
 w:Nat
 y:Ad
abbrev yv (Ts:List Tr):Jm:=Ts.map λt=>V.ref t.y
structure TrOk (c:F2.Cs) (H:Hp) (t:Tr):Prop where
 a:F2.FormAt c H t.F t.y
 w:1<=t.w
 b:FB (8*t.w) t.w t.F
structure PlIn (c:F2.Cs) (H:Hp) (n:Nat) (Ts:List Tr):Prop where
 t:∀ t∈Ts,TrOk c H t
 n:(Ts.map Tr.w).sum<=n
def TrOk.same {c:F2.Cs} {H H':Hp} {t:Tr} (h:TrOk c H t) (s:Same H H'):TrOk c H' t:=⟨h.a.same s,h.w,h.b⟩
theorem w_le {c:F2.Cs} {H:Hp}:∀ {Ts:List Tr},(∀ t∈Ts,TrOk c H t)->Ts.length<=(Ts.map Tr.w).sum
 | [],_=>Nat.le_refl _
 | t::r,h=>by
  have:=w_le (Ts:=r) (λt m=>h t (q9x _ m));have:=(h t q9y).w;show r.length+1<=t.w+(r.map Tr.w).sum;omega
def PlIn.len {c:F2.Cs} {H:Hp} {n:Nat} {Ts:List Tr} (h:PlIn c H n Ts):Ts.length<=n:=Nat.le_trans (w_le h.t) h.n
def PlIn.top {c:F2.Cs} {H H':Hp} {n:Nat} {R S:List Tr} {t:Tr} (h:PlIn c H n (R++S)) (s:Same H H') (ht:TrOk c H' t) (hw:t.w<=(S.map Tr.w).sum+1):PlIn c H' (n+1) (R++[t]):=by
 refine ⟨λu m=>?_,?_⟩
 ·rcases List.mem_append.mp m with m | m
  ·exact (h.t u (List.mem_append_left _ m)).same s
  ·rw [List.mem_singleton.mp m];exact ht
 ·have:=h.n
  rw [Jj,List.sum_append] at this ⊢;show _+(t.w+0)<=_;omega
inductive spGr (c:F2.Cs) (K:Fg) (vs:Jm) (H:Hp) (Q:VK) (_:XK):Prop
 | mk (l le:Ad) (cell tg:Int) (n:Nat) (Ts:List Tr) (lens:Ja) (_:vs=[.ref l,.int cell,.int tg,.ref le]) (_:H l=some (.lst (yv Ts))) (_:PlIn c H n Ts) (_:n<=10) (_:SqL K H le (lens.map V.int)) (_:lens.length=5) (_:∀ H' l' Ts',Same H H'->H' l'=some (.lst (yv Ts'))->PlIn c H' (n+1) Ts'->Q (.ref l') H')
def ok_grown {c:F2.Cs} (d:zC K mg "_law_grown" ZC ["_law_pile","_law_cell","_law_target","_law_lengths"]) (hlen:mg "len"=none) (G:FormG mg c) (RB:Ok P w K mg base CX0 1 "_law_row_by" ["_law_cell","_law_target"] spRB) (LB:Ok P w K mg base CX0 3 "_law_leaf_by" ["_law_cell","_law_target"] (spLB c)) (SB:Ok P w K mg base CX0 1 "_law_sign_by" ["_law_cell"] spSB) (IN:OkI P w K mg base (CXe P w base) 1 c.num ["self","number"] (spI_Number c.num)) (IT:OkI P w K mg base (CXe P w base) 1 c.at' ["self","row","place"] (spI_At c.at')) (IP:OkI P w K mg base (CXe P w base) 1 c.pair ["self","sign","left","right"] (spI_Pair c.pair)) (IO:OkI P w K mg base (CXe P w base) 1 c.cho ["self","test","left","right"] (spI_Choice c.cho)) (IU:OkI P w K mg base (CXe P w base) 1 c.call ["self","at","handed"] (spI_Call K c.call)):Ok P w K mg base CX0 4 "_law_grown" ["_law_pile","_law_cell","_law_target","_law_lengths"] (spGr c K):=by
 obtain ⟨g,fd,m,F,b⟩:=d;refine ⟨g,fd,m,F.kp,b,F.ok sc_l_grown (by rintro vs H Q E ⟨_,_,_,_,_,_,_,e,_⟩;rw [e];rfl) λcdv A outer s H vs Q E hr h=>?_⟩;obtain ⟨l,le,cell,tg,n,Ts,lens,rfl,el,hT,n10,hl,ll,k⟩:=h;have nd:=sc_l_grown.nd;have hr3:=hr;have hr2:Room 2 _:=hr.mono (by decide);have hr1:Room 1 _:=hr.mono (by decide);have tl:=hT.len;refine ⟨_,(zc (zA (i:=4) nd rfl (Or.inl rfl) (zr yc (zr Zm (pv 1) zd) zd))
   (zc (zA (i:=5) nd rfl (Or.inl rfl) (zr yc (pv 4) zd))
   (zc (zA (i:=6) nd rfl (Or.inl rfl) (zr yg (pv 4) zd))
   (zc (zu (yz (zi yd (pv 5) zd (zo _)) (yh (zi zx (zw zH (by rfl) hlen PySem.boot_len (zb (pv 0) ze)) zd (zo _)))).pt (zf (zj (zr xb (pv 0) (zQ (zb (zG LB hr3 (by rfl) zJ (zb (pv 1) (zb (pv 2) ze))) ze))))) zk)
   (zc (zA (i:=7) nd rfl (Or.inl rfl) (zP zY (pv 0) (zr yM (zw zH (by rfl) hlen PySem.boot_len (zb (pv 0) ze)) zd) (λ_ _=>rfl)))
   (zc (yQ (zA (i:=8) nd rfl (Or.inl rfl) (Ze Zy (pv 0) Yi (x8 (zr yM (zw zH (by rfl) hlen PySem.boot_len (zb (pv 0) ze)) zd)))))
   (zc (zu (zi zx (pv 5) zd (zo _)) (zc (zA (i:=9) nd rfl (Or.inl rfl) (zG RB hr1 (by rfl) zJ (zb (pv 6) (zb (pv 2) ze))))
   (zc (zu (zi zx (zr yc (zr yg (pv 6) zd) zd) zd (zo _)) (zf (zj (zr xb (pv 8) (zQ (zb (zV IT G.at' hr2 (by rfl) zW (zb (pv 9) (zb (pv 7) ze))) ze))))) zk)
   (zf (zj (zr xb (pv 8) (zQ (zb (zV IT G.at' hr2 (by rfl) zW (zb (pv 9) (zb (zV IP G.pair hr2 (by rfl) zW (zb zh (zb (pv 7) (zb (zV IN G.num hr2 (by rfl) zW (zb (zP zY (pv 3) (pv 9) (λ_ _=>rfl)) ze)) ze)))) ze))) ze))))))) zk)
   (zc (zu (zi zx (pv 5) zd (zo _)) (zf (zj (zr xb (pv 8) (zQ (zb (zV IU G.call hr2 (by rfl) zW (zb (zr yc (pv 6) zd) (zb (zQ (zb (pv 7) (zb (zG LB hr3 (by rfl) zJ (zb (zr yg (pv 1) zd) (zb (pv 2) ze))) ze))) ze))) ze))))) zk)
   (zc (yQ (zu (Z1 (zi zx (pv 5) zd (zo _)) (ZR (zi YS (zw zH (by rfl) hlen PySem.boot_len (zb (pv 8) ze)) zd (zo _)))).pt (zf (zj (zr xb (Ze Zy (pv 8) Yi (x8 (zr yM (zw zH (by rfl) hlen PySem.boot_len (zb (pv 8) ze)) zd))) (zQ (zb (zV IO G.cho hr2 (by rfl) zW (zb (zP zY (pv 8) (zr yM (zw zH (by rfl) hlen PySem.boot_len (zb (pv 8) ze)) zd) (λ_ _=>rfl)) (zb (zP zY (pv 8) (zr yM (zw zH (by rfl) hlen PySem.boot_len (zb (pv 8) ze)) zd) (λ_ _=>rfl)) (zb (pv 7) ze)))) ze))))) zk))
   (zc (zu (zi zx (pv 5) zd (zo _)) (zc (zA (i:=10) nd rfl (Or.inl rfl) (zG LB hr3 (by rfl) zJ (zb (zr yg (pv 1) zd) (zb (pv 2) ze))))
   (zf (zj (zr xb (pv 8) (zQ (zb (zV IO G.cho hr2 (by rfl) zW (zb (pv 7) (zb (pv 10) (zb (pv 10) ze)))) ze)))))) zk)
   (zc (zu (zi YS (zw zH (by rfl) hlen PySem.boot_len (zb (pv 8) ze)) zd (zo _)) (zf (zj (zr xb (Ze Zy (pv 8) Yi (x8 (zr yM (zw zH (by rfl) hlen PySem.boot_len (zb (pv 8) ze)) zd))) (zQ (zb (zV IP G.pair hr2 (by rfl) zW (zb (zG SB hr1 (by rfl) zJ (zb (pv 6) ze)) (zb (zP zY (pv 8) (zr yM (zw zH (by rfl) hlen PySem.boot_len (zb (pv 8) ze)) zd) (λ_ _=>rfl)) (zb (pv 7) ze)))) ze))))) zk)
   (zf (zj (zQ (zb (zV IP G.pair hr2 (by rfl) zW (zb (zG SB hr1 (by rfl) zJ (zb (pv 6) ze)) (zb (zG LB hr3 (by rfl) zJ (zb (zr yg (pv 1) zd) (zb (pv 2) ze))) (zb (pv 7) ze)))) ze))))))))))))))),?_⟩
 refine ⟨_,rfl,_,_,rfl,rfl,.inr ⟨by decide,by decide⟩,_,_,rfl,rfl,(by show (0:Int)<2147483647;decide),?_⟩;generalize cell*16807 % 2147483647=mx;refine ⟨_,rfl,_,_,rfl,rfl,(by show (0:Int)<7;decide),?_⟩;generalize mx % 7=kd;refine ⟨_,rfl,_,_,rfl,rfl,⟨by decide,by decide⟩,?_⟩;generalize mx / 7=mo;refine ⟨_,rfl,_,_,rfl,rfl,_,rfl,z7 (λz=>yB ?_) (λz0=>?_)⟩
 ·refine ⟨_,rfl,_,rfl,_,rfl,cell,tg,rfl,λH1 x F s1 hx fb=>⟨szU 1,λl1 n1=>?_⟩⟩
  have sA:=s1;generalize hX:upd _ _ _=H2;obtain ⟨sX,e1⟩:=yi hX n1;replace sA:=sA.trans sX;replace hx:=hx.same sX;clear hX sX;refine ⟨l,l1,_,_,rfl,rfl,sA _ _ el,e1,(by rw [Jh];exact Nat.le_trans (show _<=11 by show Ts.length+1<=11;omega) (szU 11)),λl2 n2=>?_⟩;generalize hX:upd _ _ _=H3;obtain ⟨sX,e2⟩:=yi hX n2;replace sA:=sA.trans sX;replace hx:=hx.same sX;clear hX sX;exact k H3 l2 (Ts++[⟨F,1,x⟩]) sA (by rw [e2];show _=some (HO.lst ((Ts++[_]).map _));rw [Jj];rfl) (PlIn.top (S:=[]) (by rw [x1x];exact hT) sA ⟨hx,Nat.le_refl _,fb.mono (Nat.le_of_ble_eq_true rfl) (Nat.zero_le _)⟩ (Nat.le_of_ble_eq_true rfl))
 refine ⟨_,rfl,l,_,rfl,.inl (SqL.of el),rfl,_,rfl,z7 (λz=>?_) (λz1=>?_)⟩
 ·refine ⟨_,rfl,_,rfl,_,rfl,cell,tg,rfl,λH1 x F s1 hx fb=>⟨szU 1,λl1 n1=>?_⟩⟩
  have sA:=s1;generalize hX:upd _ _ _=H2;obtain ⟨sX,e1⟩:=yi hX n1;replace sA:=sA.trans sX;replace hx:=hx.same sX;clear hX sX;refine ⟨l,l1,_,_,rfl,rfl,sA _ _ el,e1,(by rw [Jh];exact Nat.le_trans (show _<=11 by show Ts.length+1<=11;omega) (szU 11)),λl2 n2=>?_⟩;generalize hX:upd _ _ _=H3;obtain ⟨sX,e2⟩:=yi hX n2;replace sA:=sA.trans sX;replace hx:=hx.same sX;clear hX sX;exact k H3 l2 (Ts++[⟨F,1,x⟩]) sA (by rw [e2];show _=some (HO.lst ((Ts++[_]).map _));rw [Jj];rfl) (PlIn.top (S:=[]) (by rw [x1x];exact hT) sA ⟨hx,Nat.le_refl _,fb.mono (Nat.le_of_ble_eq_true rfl) (Nat.zero_le _)⟩ (Nat.le_of_ble_eq_true rfl))
 have z1:Ts≠[]:=λe=>z1 (by rw [e];rfl);obtain ⟨R,t,rfl⟩:∃ R t,Ts=R++[t]:=⟨_,_,(List.dropLast_concat_getLast z1).symm⟩;have rl:R.length+1<=10:=by rw [Ji] at tl;exact Nat.le_trans tl n10
 have er:yv (R++[t])=yv R++[V.ref t.y]:=by show (R++[t]).map _=_;rw [Jj];rfl
 rw [er] at el;refine ⟨_,rfl,_,rfl,l,_,rfl,.inl (SqL.of el),_,_,rfl,rfl,l,_,_,_,rfl,rfl,SqL.of el,(show atI _ _=some (V.ref t.y) from ?_),?_⟩
 ·rw [Ji,Jh]
  have e:((R.length+[V.ref t.y].length:Nat):Int)-1=(R.length:Nat):=by show ((R.length+1:Nat):Int)-1=_;omega
  rw [e];refine zE ?_;rw [List.getElem?_append_right (by rw [Jh];exact Nat.le_refl _),Jh,Nat.sub_self];rfl
 refine ⟨λσ J=>∃ lr,σ=[rq l,iq cell,iq tg,rq le,iq mx,iq kd,iq mo,rq t.y,rq lr,none,none]/\Same H J/\J lr=some (.lst (yv R)),?_,?_⟩
 ·refine ⟨_,rfl,_,rfl,l,_,rfl,.inl (SqL.of el),_,_,rfl,rfl,_,rfl,l,_,rfl,SqL.of el,λlr nlr=>?_⟩
  refine ⟨lr,rfl,zN (Same.refl _) nlr,?_⟩;rw [zg,Zq (by rw [Ji];show (0:Int)<=((_+1:Nat):Int)-1;omega),Ji,show (((yv R).length+[V.ref t.y].length:Nat):Int)-1=(((yv R).length:Nat):Int) by show (((yv R).length+1:Nat):Int)-1=_;omega,Int.toNat_natCast,List.take_left]
 rintro σ J ⟨lr,rfl,sJ,elr⟩;have ht:=hT.t t (x0x _ q9y);have n11:∀ {a b:Jm},a.length<=10->b.length=1->a.length+b.length<=sizeLine:=λh1 h2=>Nat.le_trans (show _<=11 by omega) (szU 11);have lR:(yv R).length<=10:=by show (R.map _).length<=10;rw [Jh];omega
 have top1:∀ {J2:Hp} {R':List Tr} {S:List Tr} {l2 x:Ad} {F:F2.Fm} {wt:Nat},R++[t]=R'++S->Same H J2->J2 l2=some (.lst (yv R'++[V.ref x]))->F2.FormAt c J2 F x->FB (8*wt) wt F->1<=wt->wt<=(S.map Tr.w).sum+1->Q (.ref l2) J2:=λ{J2 R' S l2 x F wt} e sA e2 hF fb w1 w2=>k J2 l2 (R'++[⟨F,wt,x⟩]) sA (by rw [e2];show _=some (HO.lst ((R'++[_]).map _));rw [Jj];rfl) (PlIn.top (S:=S) (by rw [← e];exact hT) sA ⟨hF,w1,fb⟩ w2);refine ⟨_,rfl,rfl,_,rfl,z7 (λz=>?_) (λz3=>?_)⟩
 ·refine ⟨_,rfl,_,rfl,mo,tg,rfl,λH1 r s1 r0 r1=>?_⟩
  refine ⟨_,rfl,_,_,rfl,rfl,⟨by decide,by decide⟩,_,_,rfl,rfl,(by show (0:Int)<3;decide),rfl,_,rfl,z7 (λz=>?_) (λz=>?_)⟩
  ·refine ⟨_,rfl,_,rfl,_,rfl,λx dx n1 n2 n3=>⟨x,dx,.int r,.ref t.y,rfl,zg,λH2 k2 e2=>⟨rfl,szU 1,λl1 nl1=>?_⟩⟩⟩
   have sA:=(sJ.trans s1).trans (zK n1 n2 k2);have elr2:=(s1.trans (zK n1 n2 k2)) _ _ elr;generalize hX:upd _ _ _=H3;obtain ⟨sX,el1⟩:=yi hX nl1;replace sA:=sA.trans sX;replace elr2:=sX _ _ elr2;replace e2:=sX _ _ e2;clear hX sX;refine ⟨lr,l1,_,_,rfl,rfl,elr2,el1,n11 lR rfl,λl2 nl2=>?_⟩;generalize hX:upd _ _ _=H4;obtain ⟨sX,el2⟩:=yi hX nl2;replace sA:=sA.trans sX;replace e2:=sX _ _ e2;clear hX sX;exact top1 (S:=[t]) (F:=.at' r t.F) (wt:=t.w+1) rfl sA el2 ⟨dx,t.y,e2,ht.a.same sA⟩ ((fb_at r0 r1 ht.b).mono (by omega) (Nat.le_succ _)) (Nat.le_add_left ..) (Nat.le_refl _)
  ·refine ⟨_,rfl,_,rfl,_,rfl,_,rfl,_,rfl,le,_,_,_,rfl,rfl,zD hl (sJ.trans s1),xJ r.toNat (by omega) (by omega),λxn dxn a1 a2 a3=>⟨xn,dxn,.int (lens.getD r.toNat 0),rfl,zg,λHn kn en=>⟨rfl,λxp dxp b1 b2 b3=>⟨xp,dxp,.str "rest",.ref t.y,.ref xn,rfl,zg,λHq kp ep=>⟨rfl,λx dx n1 n2 n3=>⟨x,dx,.int r,.ref xp,rfl,zg,λH2 k2 e2=>⟨rfl,szU 1,λl1 nl1=>?_⟩⟩⟩⟩⟩⟩⟩
   have sP:=zK b1 b2 kp;have sX:=zK n1 n2 k2;have s12:=(s1.trans (zK a1 a2 kn)).trans (sP.trans sX);have sA:=sJ.trans s12;have elr2:=s12 _ _ elr;replace en:=(sP.trans sX) _ _ en;replace ep:=sX _ _ ep;generalize hX:upd _ _ _=H3;obtain ⟨sX,el1⟩:=yi hX nl1;replace sA:=sA.trans sX;replace elr2:=sX _ _ elr2;replace e2:=sX _ _ e2;replace en:=sX _ _ en;replace ep:=sX _ _ ep;clear hX sX;refine ⟨lr,l1,_,_,rfl,rfl,elr2,el1,n11 lR rfl,λl2 nl2=>?_⟩;generalize hX:upd _ _ _=H4;obtain ⟨sX,el2⟩:=yi hX nl2;replace sA:=sA.trans sX;replace e2:=sX _ _ e2;replace en:=sX _ _ en;replace ep:=sX _ _ ep;clear hX sX;exact top1 (S:=[t]) (F:=.at' r (.pair "rest" t.F (.num _))) (wt:=t.w+1) rfl sA el2 ⟨dx,xp,e2,dxp,t.y,xn,ep,ht.a.same sA,dxn,en⟩ ((fb_at r0 r1 (ZS "rest" ht.b (Xq _))).mono (by omega) (by omega)) (Nat.le_add_left ..) (Nat.le_refl _)
 refine ⟨_,rfl,rfl,_,rfl,z7 (λz=>?_) (λz4=>?_)⟩
 ·refine ⟨_,rfl,_,rfl,_,_,rfl,rfl,(by show (0:Int)<2;decide),_,rfl,_,rfl,_,_,rfl,rfl,⟨by decide,by decide⟩,_,rfl,_,tg,rfl,λH1 y F s1 hy fb=>⟨szU 2,λlh nlh=>?_⟩⟩
  have sA:=sJ.trans s1;replace elr:=s1 _ _ elr;generalize hX:upd _ _ _=H2;obtain ⟨sX,elh⟩:=yi hX nlh;replace sA:=sA.trans sX;replace elr:=sX _ _ elr;replace hy:=hy.same sX;clear hX sX;refine λx dx n1 n2 n3=>?_;have sM:Same H2 (upd (upd H2 dx (.own x)) x (.ins c.call dx [])):=(zN (Same.refl _) n2).trans (zN (Same.refl _) (by rw [zy (Ne.symm n3)];exact n1));refine ⟨x,dx,lh,.int (mo % 2),_,rfl,zg,SqL.of (sM _ _ elh),λH3 l' nl' k2 el' e2=>⟨rfl,szU 1,λl1 nl1=>?_⟩⟩;have s3:=zK n1 n2 k2;replace sA:=sA.trans s3;replace elr:=s3 _ _ elr;replace hy:=hy.same s3;generalize hX:upd _ _ _=H4;obtain ⟨sX,el1⟩:=yi hX nl1;replace sA:=sA.trans sX;replace elr:=sX _ _ elr;replace hy:=hy.same sX;replace e2:=sX _ _ e2;replace el':=sX _ _ el';clear hX sX;refine ⟨lr,l1,_,_,rfl,rfl,elr,el1,n11 lR rfl,λl2 nl2=>?_⟩;generalize hX:upd _ _ _=H5;obtain ⟨sX,el2⟩:=yi hX nl2;replace sA:=sA.trans sX;replace hy:=hy.same sX;replace e2:=sX _ _ e2;replace el':=sX _ _ el';clear hX sX;exact top1 (S:=[t]) (F:=.call (mo % 2) (.cons t.F (.cons F .nil))) (wt:=t.w+1) rfl sA el2 ⟨dx,l',[t.y,y],e2,el',t.y,[y],rfl,ht.a.same sA,y,[],rfl,hy,rfl⟩ ((fb_call (by omega) (by omega) ht.b fb).mono (by omega) (by omega)) (Nat.le_add_left ..) (Nat.le_refl _)
 refine ⟨λσ' J'=>σ'=[rq l,iq cell,iq tg,rq le,iq mx,iq kd,iq mo,rq t.y,rq lr,none,none]/\J'=J,?_,?_⟩
 ·refine ⟨_,rfl,rfl,_,rfl,z7 (λz=>⟨_,rfl,lr,_,rfl,.inl (SqL.of elr),_,_,rfl,rfl,_,rfl,z7 (λz'=>?_) (λz'=>⟨rfl,rfl⟩)⟩) (λz5=>zU ⟨rfl,rfl⟩)⟩
  have z':1<R.length:=by
   have:(1:Int)<((yv R).length:Int):=of_decide_eq_true z';rw [show (yv R).length=R.length from List.length_map ..] at this;omega
  obtain ⟨R',a,b,rfl⟩:∃ R' a b,R=R'++[a,b]:=by
   refine ⟨R.take (R.length-2),R[R.length-2],R[R.length-1],?_⟩;have e1:=(List.take_append_drop (R.length-2) R).symm;rw [List.drop_eq_getElem_cons (by omega),show R.length-2+1=R.length-1 by omega,List.drop_eq_getElem_cons (by omega),show R.length-1+1=R.length by omega,List.drop_length] at e1;exact e1
  have er2:yv (R'++[a,b])=yv R'++[V.ref a.y,V.ref b.y]:=by show (R'++[a,b]).map _=_;rw [Jj];rfl
  rw [er2] at elr;have lR':(yv R').length<=10:=by rw [er2,Ji] at lR;exact Nat.le_trans (Nat.le_add_right ..) lR
  have ln:((yv R'++[V.ref a.y,V.ref b.y]).length:Int)=(((yv R').length+2:Nat):Int):=by rw [Ji];rfl
  refine ⟨_,rfl,_,rfl,lr,_,rfl,.inl (SqL.of elr),_,_,rfl,rfl,_,rfl,lr,_,rfl,SqL.of elr,λls nls=>?_⟩;rw [ln,Zq (by omega),show ((((yv R').length+2:Nat):Int)-2).toNat=(yv R').length by omega,List.take_left];have sA:=sJ;generalize hX:upd _ _ _=H1;obtain ⟨sX,els⟩:=yi hX nls;replace sA:=sA.trans sX;replace elr:=sX _ _ elr;clear hX sX
  have ea:atI (yv R'++[V.ref a.y,V.ref b.y]) ((((yv R').length+2:Nat):Int)-2)=some (V.ref a.y):=by
   rw [show (((yv R').length+2:Nat):Int)-2=(((yv R').length:Nat):Int) by omega];refine zE ?_;rw [List.getElem?_append_right (Nat.le_refl _),Nat.sub_self];rfl
  have eb:atI (yv R'++[V.ref a.y,V.ref b.y]) ((((yv R').length+2:Nat):Int)-1)=some (V.ref b.y):=by
   rw [show (((yv R').length+2:Nat):Int)-1=(((yv R').length+1:Nat):Int) by omega];refine zE ?_;rw [List.getElem?_append_right (Nat.le_add_right ..),show (yv R').length+1-(yv R').length=1 by omega];rfl
  refine ⟨_,rfl,_,rfl,lr,_,rfl,.inl (SqL.of elr),_,_,rfl,rfl,lr,_,_,_,rfl,rfl,SqL.of elr,(by rw [ln];exact ea),_,rfl,_,rfl,lr,_,rfl,.inl (SqL.of elr),_,_,rfl,rfl,lr,_,_,_,rfl,rfl,SqL.of elr,(by rw [ln];exact eb),_,rfl,λx dx n1 n2 n3=>⟨x,dx,.ref a.y,.ref b.y,.ref t.y,rfl,zg,λH2 k2 e2=>⟨rfl,szU 1,λl1 nl1=>?_⟩⟩⟩;have s3:=zK n1 n2 k2;replace sA:=sA.trans s3;replace els:=s3 _ _ els;generalize hX:upd _ _ _=H3;obtain ⟨sX,el1⟩:=yi hX nl1;replace sA:=sA.trans sX;replace els:=sX _ _ els;replace e2:=sX _ _ e2;clear hX sX;refine ⟨ls,l1,_,_,rfl,rfl,els,el1,n11 lR' rfl,λl2 nl2=>?_⟩;generalize hX:upd _ _ _=H4;obtain ⟨sX,el2⟩:=yi hX nl2;replace sA:=sA.trans sX;replace e2:=sX _ _ e2;clear hX sX;have ha:=hT.t a (by simp);have hb:=hT.t b (by simp);have wa:=ha.w;have wb:=hb.w;exact top1 (R':=R') (S:=[a,b,t]) (F:=.cho a.F b.F t.F) (wt:=a.w+b.w+t.w+1) (by simp) sA el2 ⟨dx,a.y,b.y,t.y,e2,ha.a.same sA,hb.a.same sA,ht.a.same sA⟩ ((fb_cho ha.b hb.b ht.b).mono (by omega) (by omega)) (Nat.le_add_left ..) (by show _<=a.w+(b.w+(t.w+0))+1;omega)
 rintro σ' J' ⟨rfl,rfl⟩;refine ⟨_,rfl,rfl,_,rfl,z7 (λz=>?_) (λz5=>?_)⟩
 ·refine ⟨_,rfl,_,_,rfl,rfl,⟨by decide,by decide⟩,_,rfl,_,tg,rfl,λH1 y F s1 hy fb=>?_⟩
  refine ⟨_,rfl,_,rfl,_,rfl,_,rfl,λx dx n1 n2 n3=>⟨x,dx,.ref t.y,.ref y,.ref y,rfl,zg,λH2 k2 e2=>⟨rfl,szU 1,λl1 nl1=>?_⟩⟩⟩;have s3:=zK n1 n2 k2;have sA:=(sJ.trans s1).trans s3;replace elr:=(s1.trans s3) _ _ elr;replace hy:=hy.same s3;generalize hX:upd _ _ _=H3;obtain ⟨sX,el1⟩:=yi hX nl1;replace sA:=sA.trans sX;replace elr:=sX _ _ elr;replace e2:=sX _ _ e2;replace hy:=hy.same sX;clear hX sX;refine ⟨lr,l1,_,_,rfl,rfl,elr,el1,n11 lR rfl,λl2 nl2=>?_⟩;generalize hX:upd _ _ _=H4;obtain ⟨sX,el2⟩:=yi hX nl2;replace sA:=sA.trans sX;replace e2:=sX _ _ e2;replace hy:=hy.same sX;clear hX sX;exact top1 (S:=[t]) (F:=.cho t.F F F) (wt:=t.w+1) rfl sA el2 ⟨dx,t.y,y,y,e2,ht.a.same sA,hy,hy⟩ ((fb_cho ht.b fb fb).mono (by omega) (by omega)) (Nat.le_add_left ..) (Nat.le_refl _)
 refine ⟨_,rfl,lr,_,rfl,.inl (SqL.of elr),_,_,rfl,rfl,_,rfl,z7 (λz=>?_) (λz6=>?_)⟩
 ·have z':R≠[]:=λe=>by
   have:(0:Int)<((yv R).length:Int):=of_decide_eq_true z;rw [e] at this;exact absurd this (by decide)
  obtain ⟨R',a,rfl⟩:∃ R' a,R=R'++[a]:=⟨_,_,(List.dropLast_concat_getLast z').symm⟩;have er2:yv (R'++[a])=yv R'++[V.ref a.y]:=by show (R'++[a]).map _=_;rw [Jj];rfl
  rw [er2] at elr;have lR':(yv R').length<=10:=by rw [er2,Ji] at lR;exact Nat.le_trans (Nat.le_add_right ..) lR
  have ln:((yv R'++[V.ref a.y]).length:Int)=(((yv R').length+1:Nat):Int):=by rw [Ji];rfl
  refine ⟨_,rfl,_,rfl,lr,_,rfl,.inl (SqL.of elr),_,_,rfl,rfl,_,rfl,lr,_,rfl,SqL.of elr,λls nls=>?_⟩;rw [ln,Zq (by omega),show ((((yv R').length+1:Nat):Int)-1).toNat=(yv R').length by omega,List.take_left];have sA:=sJ;generalize hX:upd _ _ _=H1;obtain ⟨sX,els⟩:=yi hX nls;replace sA:=sA.trans sX;replace elr:=sX _ _ elr;clear hX sX
  have ea:atI (yv R'++[V.ref a.y]) ((((yv R').length+1:Nat):Int)-1)=some (V.ref a.y):=by
   rw [show (((yv R').length+1:Nat):Int)-1=(((yv R').length:Nat):Int) by omega];refine zE ?_;rw [List.getElem?_append_right (Nat.le_refl _),Nat.sub_self];rfl
  refine ⟨_,rfl,mo,rfl,λH2 sg s2 hsg=>?_⟩;replace sA:=sA.trans s2;replace els:=s2 _ _ els;replace elr:=s2 _ _ elr;refine ⟨_,rfl,_,rfl,lr,_,rfl,.inl (SqL.of elr),_,_,rfl,rfl,lr,_,_,_,rfl,rfl,SqL.of elr,(by rw [ln];exact ea),_,rfl,λx dx n1 n2 n3=>⟨x,dx,.str sg,.ref a.y,.ref t.y,rfl,zg,λH2 k2 e2=>⟨rfl,szU 1,λl1 nl1=>?_⟩⟩⟩;have s3:=zK n1 n2 k2;replace sA:=sA.trans s3;replace els:=s3 _ _ els;generalize hX:upd _ _ _=H3;obtain ⟨sX,el1⟩:=yi hX nl1;replace sA:=sA.trans sX;replace els:=sX _ _ els;replace e2:=sX _ _ e2;clear hX sX;refine ⟨ls,l1,_,_,rfl,rfl,els,el1,n11 lR' rfl,λl2 nl2=>?_⟩;generalize hX:upd _ _ _=H4;obtain ⟨sX,el2⟩:=yi hX nl2;replace sA:=sA.trans sX;replace e2:=sX _ _ e2;clear hX sX;have ha:=hT.t a (by simp);have wa:=ha.w;exact top1 (R':=R') (S:=[a,t]) (F:=.pair sg a.F t.F) (wt:=a.w+t.w+1) (by simp) sA el2 ⟨dx,a.y,t.y,e2,ha.a.same sA,ht.a.same sA⟩ ((ZS sg ha.b ht.b).mono (by omega) (by omega)) (Nat.le_add_left ..) (by show _<=a.w+(t.w+0)+1;omega)
 ·have z':R=[]:=by
   have:¬ (0:Int)<((yv R).length:Int):=λy=>z6 (decide_eq_true y);rw [show (yv R).length=R.length from List.length_map ..] at this;exact List.length_eq_zero_iff.mp (by omega)
  subst z';refine ⟨_,rfl,mo,rfl,λH1 sg s1 hsg=>?_⟩;refine ⟨_,rfl,_,_,rfl,rfl,⟨by decide,by decide⟩,_,rfl,_,tg,rfl,λH2 y F s2 hy fb=>?_⟩;refine ⟨_,rfl,λx dx n1 n2 n3=>⟨x,dx,.str sg,.ref y,.ref t.y,rfl,zg,λH3 k2 e2=>⟨rfl,szU 1,λl2 nl2=>?_⟩⟩⟩;have s3:=zK n1 n2 k2;have sA:=((sJ.trans s1).trans s2).trans s3;replace hy:=hy.same s3;generalize hX:upd _ _ _=H4;obtain ⟨sX,el2⟩:=yi hX nl2;replace sA:=sA.trans sX;replace e2:=sX _ _ e2;replace hy:=hy.same sX;clear hX sX;exact top1 (R':=[]) (S:=[t]) (F:=.pair sg F t.F) (wt:=t.w+1) rfl sA el2 ⟨dx,y,t.y,e2,hy,ht.a.same sA⟩ ((ZS sg fb ht.b).mono (by omega) (by omega)) (Nat.le_add_left ..) (Nat.le_refl _)
inductive spFm (c:F2.Cs) (K:Fg) (vs:Jm) (H:Hp) (Q:VK) (_:XK):Prop
 | mk (ca le:Ad) (ns:Ja) (tg:Int) (lens:Ja) (_:vs=[.ref ca,.int tg,.ref le]) (_:SqL K H ca (ns.map V.int)) (_:ns.length<=9) (_:SqL K H le (lens.map V.int)) (_:lens.length=5) (_:∀ H' x F,Same H H'->F2.FormAt c H' F x->FB (9*ns.length+1) ns.length F->Q (.ref x) H')
def wL (Ts:List Tr) (i:Nat):Nat:=((Ts.drop (Ts.length-1-i)).map Tr.w).sum
def wL_succ {Ts:List Tr} {i:Nat} (h:i+1<Ts.length):wL Ts (i+1)=(Ts[Ts.length-2-i]'(by omega)).w+wL Ts i:=by
 unfold wL;rw [show Ts.length-1-(i+1)=Ts.length-2-i by omega,List.drop_eq_getElem_cons (by omega),show Ts.length-2-i+1=Ts.length-1-i by omega];rfl
def wL_le (Ts:List Tr) (i:Nat):wL Ts i<=(Ts.map Tr.w).sum:=by
 have:∀ (l:List Tr) (k:Nat),((l.drop k).map Tr.w).sum<=(l.map Tr.w).sum:=by
  intro l
  induction l with
  | nil=>intro k;rw [List.drop_nil];exact Nat.le_refl _
  | cons t r ih =>
   intro k
   cases k with
   | zero=>exact Nat.le_refl _
   | succ k=>exact Nat.le_trans (ih k) (Nat.le_add_left ..)
 exact this Ts _
def ok_formby {c:F2.Cs} (d:zC K mg "_law_form_by" xT ["_law_cells","_law_target","_law_lengths"]) (hlen:mg "len"=none) (hrg:mg "range"=none) (G:FormG mg c) (GR:Ok P w K mg base CX0 4 "_law_grown" ["_law_pile","_law_cell","_law_target","_law_lengths"] (spGr c K)) (MH:MkN K c.here) (IP:OkI P w K mg base (CXe P w base) 1 c.pair ["self","sign","left","right"] (spI_Pair c.pair)):Ok P w K mg base CX0 5 "_law_form_by" ["_law_cells","_law_target","_law_lengths"] (spFm c K):=by
 obtain ⟨g,fd,m,F,b⟩:=d;refine ⟨g,fd,m,F.kp,b,F.ok sc_l_form_by (by rintro vs H Q E ⟨_,_,_,_,_,e,_⟩;rw [e];rfl) λcdv A outer s H vs Q E hr h=>?_⟩;obtain ⟨ca,le,ns,tg,lens,rfl,hS,nl,hl,ll,k⟩:=h;have nd:=sc_l_form_by.nd;have hr4:=hr;have hr2:Room 2 _:=hr.mono (by decide);refine ⟨_,(zc (zA (i:=3) nd rfl (Or.inl rfl) (zQ ze))
   (zc (ZK PassesOwn.never rfl (Zl (pv 0)) (xD (i:=4) nd rfl (Or.inl rfl)) (zf (zA (i:=3) nd rfl (Or.inl rfl) (zG GR hr4 (by rfl) zJ (zb (pv 3) (zb (pv 4) (zb (pv 1) (zb (pv 2) ze))))))))
   (zc (zu (zi zx (zw zH (by rfl) hlen PySem.boot_len (zb (pv 3) ze)) zd (zo _)) (zf (zj (XI MH (by rfl) G.here))) zk)
   (zc (zA (i:=5) nd rfl (Or.inl rfl) (zP zY (pv 3) (zr yM (zw zH (by rfl) hlen PySem.boot_len (zb (pv 3) ze)) zd) (λ_ _=>rfl)))
   (zc (ZK PassesOwn.never rfl (YQ rfl hrg (zb (zr yM (zw zH (by rfl) hlen PySem.boot_len (zb (pv 3) ze)) zd) ze)) (xD (i:=6) nd rfl (Or.inl rfl)) (zf (zA (i:=5) nd rfl (Or.inl rfl) (zV IP G.pair hr2 (by rfl) zW (zb zh (zb (zP zY (pv 3) (zr yM (zr yM (zw zH (by rfl) hlen PySem.boot_len (zb (pv 3) ze)) zd) (pv 6)) (λ_ _=>rfl)) (zb (pv 5) ze)))))))
   (zf (zj (pv 5)))))))),?_⟩
 refine ⟨szU 0,λp0 np0=>?_⟩;have sA:=Same.refl H;generalize hX:upd _ _ _=H1;obtain ⟨sX,ep0⟩:=yi hX np0;replace sA:=sA.trans sX;clear hX sX;refine ⟨_,rfl,ca,rfl,⟨_,zD hS sA⟩,?_⟩;refine Zw (K:=K) (a:=ca) (xs:=ns.map V.int) (λi σ J=>∃ (u:Jn) (pl:Ad) (Ts:List Tr),σ=[rq ca,iq tg,rq le,rq pl,u,none,none]/\Same H J/\J pl=some (.lst (yv Ts))/\PlIn c J i Ts) ⟨none,p0,[],rfl,sA,ep0,⟨(λt m=>nomatch m),Nat.le_refl _⟩⟩ (λi σ J _ ⟨_,_,_,_,s,_⟩=>zD hS s) ?_ ?_
 ·rintro i y σ J hi ⟨u,pl,Ts,rfl,sJ,epl,hT⟩
  obtain ⟨cell,ec,rfl⟩:=ZM hi;have il:i<ns.length:=(List.getElem?_eq_some_iff.mp ec).1;refine ⟨_,rfl,_,rfl,_,rfl,_,rfl,pl,le,cell,tg,i,Ts,lens,rfl,epl,hT,by omega,zD hl sJ,ll,λJ2 l' Ts' s2 el' hT'=>?_⟩;exact ⟨_,l',Ts',rfl,sJ.trans s2,el',hT'⟩
 rintro σ J ⟨u,pl,Ts,rfl,sJ,epl,hT⟩;rw [Jh] at hT;have rl:(yv Ts).length=Ts.length:=List.length_map ..;refine ⟨_,rfl,pl,_,rfl,.inl (SqL.of epl),rfl,_,rfl,z7 (λz=>?_) (λz=>?_)⟩
 ·exact λx dx n1 n2 n3=>k _ x .here (sJ.trans ((zN (Same.refl _) n2).trans (zN (Same.refl _) (by rw [zy (Ne.symm n3)];exact n1)))) ⟨dx,zg⟩ ((Zo (F:=.here) (λ_=>trivial) rfl rfl).mono (Nat.le_add_left ..) (Nat.zero_le _))
 have tl:1<=Ts.length:=by
  rcases Nat.eq_zero_or_pos Ts.length with e | e
  ·exact absurd (show decide (V.int ((yv Ts).length:Int)=V.int 0)=true by rw [rl,e];rfl) z
  ·exact e
 have tn:=hT.len;have at':∀ (j:Nat) (hj:j<Ts.length),atI (yv Ts) (j:Int)=some (V.ref (Ts[j]'hj).y):=λj hj=>zE (by show (Ts.map _)[j]?=_;rw [List.getElem?_map,List.getElem?_eq_getElem hj];rfl);refine ⟨_,rfl,_,rfl,pl,_,rfl,.inl (SqL.of epl),_,_,rfl,rfl,pl,_,_,_,rfl,rfl,SqL.of epl,(by rw [rl,show ((Ts.length:Nat):Int)-1=((Ts.length-1:Nat):Int) by omega];exact at' (Ts.length-1) (by omega)),?_⟩;refine ⟨_,rfl,pl,_,rfl,.inl (SqL.of epl),_,_,rfl,rfl,?_⟩;rw [rl];refine ⟨_,rfl,by omega,by omega,?_⟩;have okT:∀ (j:Nat) (hj:j<Ts.length),TrOk c J (Ts[j]'hj):=λj hj=>hT.t _ (List.getElem_mem hj)
 have w0:wL Ts 0=(Ts[Ts.length-1]'(by omega)).w:=by
  unfold wL;rw [show Ts.length-1-0=Ts.length-1 by omega,List.drop_eq_getElem_cons (by omega),show Ts.length-1+1=Ts.length by omega,List.drop_length];exact Nat.add_zero _
 refine YX (n:=((Ts.length:Int)-1).toNat) (λi σ J2=>∃ (v:Jn) (x:Ad) (F:F2.Fm),σ=[some (.ref ca),some (.int tg),some (.ref le),some (.ref pl),u,some (.ref x),v]/\Same J J2/\F2.FormAt c J2 F x/\FB (8*wL Ts i+i) (wL Ts i) F) ⟨none,_,(Ts[Ts.length-1]'(by omega)).F,rfl,Same.refl _,(okT _ _).a,by rw [w0];exact (okT _ _).b⟩ ?_ ?_
 ·rintro i σ J2 hi ⟨v,x,F,rfl,s2,hx,fb⟩
  have hi':i+1<Ts.length:=by omega
  have hj:Ts.length-2-i<Ts.length:=by omega
  have ew:=wL_succ hi';have okj:=okT _ hj;refine ⟨_,rfl,_,rfl,pl,_,rfl,.inl (SqL.of (s2 _ _ epl)),_,_,rfl,rfl,_,rfl,_,_,rfl,rfl,pl,_,_,_,rfl,rfl,SqL.of (s2 _ _ epl),(by rw [rl,show ((Ts.length:Nat):Int)-2-(0+(i:Int))=((Ts.length-2-i:Nat):Int) by omega];exact at' _ hj),_,rfl,?_⟩;exact λz dz n1 n2 n3=>⟨z,dz,.str "-",.ref _,.ref x,rfl,zg,λJ3 k3 e3=>⟨rfl,_,z,.pair "-" _ F,rfl,s2.trans (zK n1 n2 k3),⟨dz,_,x,e3,okj.a.same (s2.trans (zK n1 n2 k3)),hx.same (zK n1 n2 k3)⟩,(ZS "-" okj.b fb).mono (by omega) (by omega)⟩⟩
 ·rintro σ J2 ⟨v,x,F,rfl,s2,hx,fb⟩
  have:=wL_le Ts ((Ts.length:Int)-1).toNat;have:=hT.n;exact ⟨_,rfl,k J2 x F (sJ.trans s2) hx (fb.mono (by omega) (by omega))⟩
structure LensOk (lens:Ja):Prop where
 l:lens.length=5
 v:∀ i,i<5->1<=lens.getD i 0/\lens.getD i 0<=400
structure StB (lens:Ja) (st:Stp1):Prop where
 v:FB 46 5 st.v
 t:∀ f,st.t=some f->FB 19 2 f
 p:∀ tg v p m t,st=.put tg v p m t->FB 21 2 p
 g:st.tg<5
 m:1<=st.mn_ lens/\st.mn_ lens<=400
def fds:Je:=["sum","product","least","most","both","either","odd","chain","capped"]
inductive spSt (c:F2.Cs) (q:QCs) (K:Fg) (vs:Jm) (H:Hp) (Q:VK) (_:XK):Prop
 | mk (va ta le:Ad) (more:Int) (ns ts lens:Ja) (_:vs=[.int more,.ref va,.ref ta,.ref le]) (_:SqL K H va (ns.map V.int)) (_:ns.length<=5) (_:SqL K H ta (ts.map V.int)) (_:ts.length<=2) (_:SqL K H le (lens.map V.int)) (_:LensOk lens) (_:∀ H' s st,Same H H'->StepAt c q H' s st->StB lens st->Q (.ref s) H')
def ok_stepby {c:F2.Cs} {q:QCs} (d:zC K mg "_law_step_by" xO ["_law_more","_law_value_cells","_law_test_cells","_law_lengths"]) (hlen:mg "len"=none) (G:FormG mg c) (SG:StepG mg q) (hRu:mg "Running"=some (.ref q.run)) (FO:Ok P w K mg base CX0 5 "_law_form_by" ["_law_cells","_law_target","_law_lengths"] (spFm c K)) (IN:OkI P w K mg base (CXe P w base) 1 c.num ["self","number"] (spI_Number c.num)) (IP:OkI P w K mg base (CXe P w base) 1 c.pair ["self","sign","left","right"] (spI_Pair c.pair)) (IL2:OkN P w K mg base (CXe P w base) 1 q.let_ ["self","target","value","test"] (spI_Let q.let_)) (IU2:OkN P w K mg base (CXe P w base) 1 q.put ["self","target","value","place","many","test"] (spI_Put q.put)) (IF2:OkN P w K mg base (CXe P w base) 1 q.fold ["self","target","fold","value","many","test"] (spI_Fold q.fold)) (IR2:OkN P w K mg base (CXe P w base) 1 q.run ["self","target","fold","value","test"] (spI_Running q.run)):Ok P w K mg base CX0 6 "_law_step_by" ["_law_more","_law_value_cells","_law_test_cells","_law_lengths"] (spSt c q K):=by
 obtain ⟨g,fd,m,F,b⟩:=d;refine ⟨g,fd,m,F.kp,b,F.ok sc_l_step_by (by rintro vs H Q E ⟨_,_,_,_,_,_,_,e,_⟩;rw [e];rfl) λcdv A outer s H vs Q E hr h=>?_⟩;obtain ⟨va,ta,le,more,ns,ts,lens,rfl,hv,vl,ht,tl,hl,lo,k⟩:=h;have nd:=sc_l_step_by.nd;have hr5:=hr;have hr2:Room 2 _:=hr.mono (by decide);have IL3:=IL2.all;have IU3:=IU2.all;have IF3:=IF2.all;have IR3:=IR2.all;refine ⟨_,(zc (zA (i:=4) nd rfl (Or.inl rfl) (zr yc (pv 0) zd))
   (zc (zA (i:=5) nd rfl (Or.inl rfl) (zP zY (zQ (zb (zr Zm (zr yc (zr yg (pv 0) zd) zd) zd) (zb zd (zb zd (zb (zr Zm (zr yc (zr yg (pv 0) zd) zd) zd) ze))))) (pv 4) (λ_ _=>rfl)))
   (zc (zA (i:=6) nd rfl (Or.inl rfl) (zG FO hr5 (by rfl) zJ (zb (pv 1) (zb (pv 5) (zb (pv 3) ze)))))
   (zc (zA (i:=7) nd rfl (Or.inl rfl) pe_non)
   (zc (yQ (zu (zi YS (zw zH (by rfl) hlen PySem.boot_len (zb (pv 2) ze)) zd (zo _)) (zf (zA (i:=7) nd rfl (Or.inl rfl) (zG FO hr5 (by rfl) zJ (zb (pv 2) (zb (pv 5) (zb (pv 3) ze)))))) zk))
   (zc (yQ (zA (i:=8) nd rfl (Or.inl rfl) (zP zY (zQ (pa_ks rfl)) (zr yc (zr yg (pv 0) zd) zd) (λ_ _=>rfl))))
   (zc (zu (zi zx (pv 4) zd (zo _)) (zf (zj (zV IL3 SG.let_ hr2 (by rfl) zW (zb (pv 5) (zb (pv 6) (zb (pv 7) ze)))))) zk)
   (zc (zu (zi zx (pv 4) zd (zo _)) (zc (zA (i:=9) nd rfl (Or.inl rfl) (zG FO hr5 (by rfl) zJ (zb (Ze Zy (pv 1) Yi (x8 zd)) (zb (pv 5) (zb (pv 3) ze)))))
   (zc (yQ (zu (zi YR (zr yc (zr yg (pv 0) zd) zd) zd (zo _)) (zf (zA (i:=9) nd rfl (Or.inl rfl) (zV IP G.pair hr2 (by rfl) zW (zb zh (zb (pv 9) (zb (zV IN G.num hr2 (by rfl) zW (zb (zP zY (pv 3) zd (λ_ _=>rfl)) ze)) ze)))))) zk))
   (zf (zj (zV IU3 SG.put hr2 (by rfl) zW (zb (pv 5) (zb (pv 6) (zb (pv 9) (zb (zP zY (pv 3) zd (λ_ _=>rfl)) (zb (pv 7) ze)))))))))) zk)
   (zc (zu (zi zx (pv 4) zd (zo _)) (zf (zj (zV IF3 SG.fold hr2 (by rfl) zW (zb (pv 5) (zb (pv 8) (zb (pv 6) (zb (zP zY (pv 3) zd (λ_ _=>rfl)) (zb (pv 7) ze)))))))) zk)
   (zf (zj (zV IR3 hRu hr2 (by rfl) zW (zb (pv 5) (zb (pv 8) (zb (pv 6) (zb (pv 7) ze)))))))))))))))),?_⟩
 have sA:=Same.refl H;refine ⟨_,rfl,_,_,rfl,rfl,(by show (0:Int)<4;decide),?_⟩;generalize hk:more % 4=kd;have kb:kd=0∨kd=1∨kd=2∨kd=3:=by omega
 refine ⟨_,rfl,_,_,rfl,rfl,⟨by decide,by decide⟩,_,_,rfl,rfl,(by show (0:Int)<2;decide),_,_,rfl,rfl,.inr ⟨by decide,by decide⟩,_,rfl,_,_,rfl,rfl,⟨by decide,by decide⟩,_,_,rfl,rfl,(by show (0:Int)<2;decide),_,_,rfl,rfl,.inr ⟨by decide,by decide⟩,szU 4,λl0 n0=>?_⟩;generalize hX:upd _ _ _=H1;obtain ⟨sX,e0⟩:=yi hX n0;replace sA:=sA.trans sX;clear hX sX;have t4:0<=more / 4 % 2*4/\more / 4 % 2*4<5:=by omega
 generalize more / 4 % 2*4=t4v at t4 e0
 obtain ⟨tg,etg,tg5⟩:∃ tg:Nat,atI [V.int t4v,V.int 3,V.int 2,V.int t4v] kd=some (.int tg)/\tg<5:=by
  rcases kb with e | e | e | e <;> subst e
  ·exact ⟨t4v.toNat,by rw [show ((t4v.toNat:Nat):Int)=t4v by omega];rfl,by omega⟩
  ·exact ⟨3,rfl,by decide⟩
  ·exact ⟨2,rfl,by decide⟩
  ·exact ⟨t4v.toNat,by rw [show ((t4v.toNat:Nat):Int)=t4v by omega];rfl,by omega⟩
 refine ⟨_,rfl,l0,_,_,_,rfl,rfl,SqL.of e0,etg,?_⟩;refine ⟨_,rfl,_,rfl,_,rfl,va,le,ns,tg,lens,rfl,zD hv sA,by omega,zD hl sA,lo.l,λH2 x Fv s2 hx fb=>?_⟩;replace sA:=sA.trans s2;replace fb:FB 46 5 Fv:=fb.mono (by omega) vl;clear s2 e0;refine ⟨λσ J=>∃ (tv:V) (tt:Option F2.Fm),σ=[some (.int more),some (.ref va),some (.ref ta),some (.ref le),some (.int kd),some (.int tg),some (.ref x),some tv,none,none]/\Same H J/\F2.FormAt c J Fv x/\TestAt c J tv tt/\∀ f,tt=some f->FB 19 2 f,?_,?_⟩
 ·refine ⟨_,rfl,ta,_,rfl,.inl (zD ht sA),_,_,rfl,rfl,_,rfl,z7 (λz=>?_) (λz=>?_)⟩
  ·refine ⟨_,rfl,_,rfl,_,rfl,ta,le,ts,tg,lens,rfl,zD ht sA,by omega,zD hl sA,lo.l,λH3 y Ft s3 hy fbt=>?_⟩
   exact ⟨.ref y,some Ft,rfl,sA.trans s3,hx.same s3,⟨y,rfl,hy⟩,λf e=>by cases e;exact fbt.mono (by omega) tl⟩
  ·exact ⟨.non,none,rfl,sA,hx,rfl,λf e=>by cases e⟩
 rintro σ J ⟨tv,tt,rfl,sJ,hxJ,htt,ftt⟩;clear hx sA;refine ⟨λσ J2=>∃ f:Str,σ=[some (.int more),some (.ref va),some (.ref ta),some (.ref le),some (.int kd),some (.int tg),some (.ref x),some tv,some (.str f),none]/\Same J J2,?_,?_⟩
 ·refine ⟨(by show 9<=sizeLine;decide),λlf nlf=>?_⟩
  have e9:∀ i:Int,0<=i->i<9->∃ s:Str,atI (fds.map V.str) i=some (.str s):=λi i0 i9=>by
   obtain ⟨j,rfl⟩:∃ j:Nat,i=j:=⟨i.toNat,by omega⟩;have hl:j<fds.length:=by show j<9;omega
   refine ⟨fds[j],zE ?_⟩;rw [List.getElem?_map,List.getElem?_eq_getElem hl];rfl
  obtain ⟨f,ef⟩:=e9 (more / 8 % 9) (by omega) (by omega);have slf:SqL K (upd J lf (.lst (fds.map V.str))) lf (fds.map V.str):=SqL.of zg;exact ⟨_,rfl,_,_,rfl,rfl,⟨by decide,by decide⟩,_,_,rfl,rfl,(by show (0:Int)<9;decide),lf,_,_,_,rfl,rfl,slf,ef,f,rfl,zN (Same.refl _) nlf⟩
 rintro σ J2 ⟨f,rfl,s2⟩;replace sJ:=sJ.trans s2;replace hxJ:=hxJ.same s2;replace htt:=htt.same s2;clear s2;refine ⟨_,rfl,rfl,_,rfl,z7 (λz=>?_) (λz0=>?_)⟩
 ·refine ⟨_,rfl,_,rfl,_,rfl,λo do' n1 n2 n3=>⟨o,do',.int tg,.ref x,tv,rfl,zg,λH3 k3 e3=>⟨rfl,?_⟩⟩⟩
  have s3:=zK n1 n2 k3;exact k H3 o (.let_ tg Fv tt) (sJ.trans s3) ⟨do',x,tv,e3,hxJ.same s3,htt.same s3⟩ ⟨fb,ftt,(λ_ _ _ _ _ e=>by cases e),tg5,lo.v tg tg5⟩
 refine ⟨_,rfl,rfl,_,rfl,z7 (λz=>?_) (λz1=>?_)⟩
 ·refine ⟨_,rfl,_,rfl,va,_,rfl,zD hv sJ,λls nls=>?_⟩
  have ec:cutV (ns.map V.int) none (some 2)=(ns.take 2).map V.int:=by rw [Zq (by decide),List.map_take];rfl
  rw [ec];have sA:=sJ;generalize hX:upd _ _ _=G1;obtain ⟨sX,els⟩:=yi hX nls;replace sA:=sA.trans sX;replace hxJ:=hxJ.same sX;replace htt:=htt.same sX;clear hX sX;refine ⟨_,rfl,_,rfl,ls,le,ns.take 2,tg,lens,rfl,SqL.of els,(by rw [List.length_take];omega),zD hl sA,lo.l,λG2 y Fp s3 hy fp=>?_⟩;have t2:(ns.take 2).length<=2:=by rw [List.length_take];omega
  replace fp:FB 19 2 Fp:=fp.mono (by omega) t2;replace sA:=sA.trans s3;replace hxJ:=hxJ.same s3;replace htt:=htt.same s3;refine ⟨λσ G3=>∃ (y:Ad) (Fp:F2.Fm),σ=[some (.int more),some (.ref va),some (.ref ta),some (.ref le),some (.int kd),some (.int tg),some (.ref x),some tv,some (.str f),some (.ref y)]/\Same G2 G3/\F2.FormAt c G3 Fp y/\FB 21 2 Fp,?_,?_⟩
  ·refine ⟨_,rfl,_,_,rfl,rfl,⟨by decide,by decide⟩,_,_,rfl,rfl,(by show (0:Int)<4;decide),rfl,_,rfl,z7 (λz=>?_) (λz=>?_)⟩
   ·refine ⟨_,rfl,_,rfl,le,_,_,_,rfl,rfl,zD hl sA,xJ 3 (by rw [lo.l];decide) rfl,λxn dxn a1 a2 a3=>⟨xn,dxn,.int (lens.getD 3 0),rfl,zg,λHn kn en=>⟨rfl,λxp dxp b1 b2 b3=>⟨xp,dxp,.str "rest",.ref y,.ref xn,rfl,zg,λHq kp ep=>⟨rfl,?_⟩⟩⟩⟩⟩
    have sa:=zK a1 a2 kn;have sb:=zK b1 b2 kp;exact ⟨xp,.pair "rest" Fp (.num (lens.getD 3 0)),rfl,sa.trans sb,⟨dxp,y,xn,ep,hy.same (sa.trans sb),dxn,sb _ _ en⟩,(ZS "rest" fp (Xq _)).mono (by decide) (by decide)⟩
   ·exact ⟨y,Fp,rfl,Same.refl _,hy,fp.mono (by decide) (by decide)⟩
  rintro σ G3 ⟨y,Fp,rfl,s4,hy,fp⟩;replace sA:=sA.trans s4;refine ⟨_,rfl,_,rfl,_,rfl,_,rfl,le,_,_,_,rfl,rfl,zD hl sA,xJ 0 (by rw [lo.l];decide) rfl,_,rfl,λo do' n1 n2 n3=>⟨o,do',.int tg,.ref x,.ref y,.int (lens.getD 0 0),tv,rfl,zg,λH3 k3 e3=>⟨rfl,?_⟩⟩⟩;have s5:=zK n1 n2 k3;exact k H3 o (.put tg Fv Fp (lens.getD 0 0) tt) (sA.trans s5) ⟨do',x,y,tv,e3,(hxJ.same s4).same s5,hy.same s5,(htt.same s4).same s5⟩ ⟨fb,ftt,(λ_ _ _ _ _ e=>by cases e;exact fp),tg5,lo.v 0 (by decide)⟩
 refine ⟨_,rfl,rfl,_,rfl,z7 (λz=>?_) (λz2=>?_)⟩
 ·refine ⟨_,rfl,_,rfl,_,rfl,_,rfl,le,_,_,_,rfl,rfl,zD hl sJ,xJ 0 (by rw [lo.l];decide) rfl,_,rfl,λo do' n1 n2 n3=>⟨o,do',.int tg,.str f,.ref x,.int (lens.getD 0 0),tv,rfl,zg,λH3 k3 e3=>⟨rfl,?_⟩⟩⟩
  have s3:=zK n1 n2 k3;exact k H3 o (.fold tg f Fv (lens.getD 0 0) tt) (sJ.trans s3) ⟨do',x,tv,e3,hxJ.same s3,htt.same s3⟩ ⟨fb,ftt,(λ_ _ _ _ _ e=>by cases e),tg5,lo.v 0 (by decide)⟩
 ·refine ⟨_,rfl,_,rfl,_,rfl,_,rfl,λo do' n1 n2 n3=>⟨o,do',.int tg,.str f,.ref x,tv,rfl,zg,λH3 k3 e3=>⟨rfl,?_⟩⟩⟩
  have s3:=zK n1 n2 k3;exact k H3 o (.run tg f Fv tt) (sJ.trans s3) ⟨do',x,tv,e3,hxJ.same s3,htt.same s3⟩ ⟨fb,ftt,(λ_ _ _ _ _ e=>by cases e),tg5,lo.v tg tg5⟩
mutual
def SOk (lens:Ja):Stp->Prop
 | .st s=>StB lens s
 | .till tg most ss=>(tg<5/\1<=most/\most<=2)/\SOks lens ss
def SOks (lens:Ja):Stps->Prop
 | .nil=>True
 | .cons s r=>SOk lens s/\SOks lens r
end
structure SLin (c:F2.Cs) (q:QCs) (B:Hp) (lens:Ja) (t n:Nat) (Ps:List (Stp×Ad)):Prop where
 a:∀ p∈Ps,StpAt c q B p.2 p.1/\SOk lens p.1/\dep p.1<=t
 n:(Ps.map λp=>cnt p.1).sum<=n
def SLin.same {c:F2.Cs} {q:QCs} {B B':Hp} {lens:Ja} {t n:Nat} {Ps:List (Stp×Ad)} (h:SLin c q B lens t n Ps) (s:Same B B'):SLin c q B' lens t n Ps:=⟨λp m=>⟨(h.a p m).1.same s,(h.a p m).2⟩,h.n⟩
def SLin.snoc {c:F2.Cs} {q:QCs} {B:Hp} {lens:Ja} {t t' n n':Nat} {Ps:List (Stp×Ad)} {s:Stp} {x:Ad} (h:SLin c q B lens t n Ps) (hs:StpAt c q B x s) (hb:SOk lens s) (hd:dep s<=t') (ht:t<=t') (hn:n+cnt s<=n'):SLin c q B lens t' n' (Ps++[(s,x)]):=by
 refine ⟨λp m=>?_,?_⟩
 ·rcases List.mem_append.mp m with m | m
  ·have:=h.a p m
   exact ⟨this.1,this.2.1,Nat.le_trans this.2.2 ht⟩
  ·rw [List.mem_singleton.mp m];exact ⟨hs,hb,hd⟩
 ·have:=h.n
  rw [Jj,List.sum_append];show _+(cnt s+0)<=_;omega
def SLin.mono {c:F2.Cs} {q:QCs} {B:Hp} {lens:Ja} {t t' n n':Nat} {Ps:List (Stp×Ad)} (h:SLin c q B lens t n Ps) (ht:t<=t') (hn:n<=n'):SLin c q B lens t' n' Ps:=⟨λp m=>⟨(h.a p m).1,(h.a p m).2.1,Nat.le_trans (h.a p m).2.2 ht⟩,Nat.le_trans h.n hn⟩
def XY (ns:Ja) {a b:Int} {n:Nat} (ha:0<=a) (hb:a<=b) (hn:b-a<=n):∃ zs:Ja,cutV (ns.map V.int) (some a) (some b)=zs.map V.int/\zs.length<=n:=by
 unfold cutV;rw [Xe ha,Xe (by omega),Jh,← List.map_drop,← List.map_take];refine ⟨_,rfl,?_⟩;rw [List.length_take];omega
abbrev rfs (Ps:List (Stp×Ad)):Jm:=Ps.map λp=>V.ref p.2
inductive spSs (c:F2.Cs) (q:QCs) (K:Fg) (vs:Jm) (H:Hp) (Q:VK) (_:XK):Prop
 | mk (a le:Ad) (ns lens:Ja) (hm tm:Nat) (_:vs=[.ref a,.ref le,.int hm,.int tm]) (_:SqL K H a (ns.map V.int)) (_:ns.length<=63) (_:hm<=8) (_:tm<=3) (_:SqL K H le (lens.map V.int)) (_:LensOk lens) (_:∀ H' l Ps,Same H H'->H' l=some (.lst (rfs Ps))->SLin c q H' lens 3 11 Ps->Q (.ref l) H')
def zaa {c:F2.Cs} {q:QCs} (d:zC K mg "_law_steps_by" xz ["_law_script","_law_lengths","_law_most_heads","_law_most_tills"]) (hlen:mg "len"=none) (SG:StepG mg q) (SB:Ok P w K mg base CX0 6 "_law_step_by" ["_law_more","_law_value_cells","_law_test_cells","_law_lengths"] (spSt c q K)) (IT:OkI P w K mg base (CXe P w base) 1 q.till ["self","target","most","steps"] (spI_Till K q.till)):Ok P w K mg base CX0 7 "_law_steps_by" ["_law_script","_law_lengths","_law_most_heads","_law_most_tills"] (spSs c q K):=by
 obtain ⟨g,fd,m,F,b⟩:=d;refine ⟨g,fd,m,F.kp,b,F.ok sc_l_steps_by (by rintro vs H Q E ⟨_,_,_,_,_,_,e,_⟩;rw [e];rfl) λcdv A outer s H vs Q E hr h=>?_⟩;obtain ⟨a,le,ns,lens,hm,tm,rfl,hS,nl,hm8,tm3,hl,lo,k⟩:=h;have nd:=sc_l_steps_by.nd;have hr6:=hr;have hr2:Room 2 _:=hr.mono (by decide);refine ⟨_,(zc (zA (i:=4) nd rfl (Or.inl rfl) (zQ ze))
   (zc (zA (i:=5) nd rfl (Or.inl rfl) zd)
   (zc (zA (i:=6) nd rfl (Or.inl rfl) zd)
   (zc (zA (i:=7) nd rfl (Or.inl rfl) zd)
   (zc (ps_while PassesOwn.never (Z1 (zi yd (pv 5) (zw zH (by rfl) hlen PySem.boot_len (zb (pv 0) ze)) (zo _)) (ZR (zi yd (pv 6) (pv 2) (zo _)))).pt (zc (zA (i:=8) nd rfl (Or.inl rfl) (zr yc (zr Zm (zP zY (pv 0) (pv 5) (λ_ _=>rfl)) zd) zd))
   (zc (zA (i:=9) nd rfl (Or.inl rfl) (zr zZ zd (zr yc (zr yg (pv 8) zd) zd)))
   (zc (yQ (zA (i:=10) nd rfl (Or.inl rfl) (zP zY (zQ (zb zd (zb zd (zb zd (zb zd ze))))) (zr yc (zr yg (pv 8) zd) zd) (λ_ _=>rfl))))
   (zc (zA (i:=11) nd rfl (Or.inl rfl) (Ze Zy (pv 0) (x8 (zr zZ (pv 5) zd)) (x8 (zr zZ (zr zZ (pv 5) zd) (pv 9)))))
   (zc (yQ (zA (i:=12) nd rfl (Or.inl rfl) (Ze Zy (pv 0) (x8 (zr zZ (zr zZ (pv 5) zd) (pv 9))) (x8 (zr zZ (zr zZ (zr zZ (pv 5) zd) (pv 9)) (pv 10))))))
   (zc (zA (i:=13) nd rfl (Or.inl rfl) (pe_hide (zG SB hr6 (by rfl) zJ (zb (zr yg (pv 8) zd) (zb (pv 11) (zb (pv 12) (zb (pv 1) ze)))))))
   (zc (yQ (zu (Z1 (zi YS (zr yc (pv 8) zd) zd (zo _)) (Z1 (zi YS (zw zH (by rfl) hlen PySem.boot_len (zb (pv 4) ze)) zd (zo _)) (ZR (zi yd (pv 7) (pv 3) (zo _))))).pt (zc (zA (i:=13) nd rfl (Or.inl rfl) (zV IT SG.till hr2 (by rfl) zW (zb (zP zY (zQ (zb zd (zb zd (zb zd (zb zd ze))))) (zr yc (zr yg (pv 8) zd) zd) (λ_ _=>rfl)) (zb (zr zZ zd (zr yc (zr yg (pv 8) zd) zd)) (zb (zQ (zb (pe_bm0 PySem.F.plainAttrs_list PySem.F.slot_list_pop PySem.F.type_list_pop mt_pop (pv 4)) (zb (pv 13) ze))) ze)))))
   (zf (zA (i:=7) nd rfl (Or.inl rfl) (zr zZ (pv 7) zd)))) zk))
   (zc (zX (xI PySem.F.plainAttrs_list PySem.F.slot_list_append PySem.F.type_list_append yr (pv 4) (zb (pv 13) ze)))
   (zc (zA (i:=6) nd rfl (Or.inl rfl) (zr zZ (pv 6) zd))
   (zf (zA (i:=5) nd rfl (Or.inl rfl) (zr zZ (zr zZ (zr zZ (pv 5) zd) (pv 9)) (pv 10))))))))))))))
   (zf (zj (pv 4)))))))),?_⟩
 refine ⟨szU 0,λsl nsl=>?_⟩;have h0:Hd H [(sl,.lst (rfs []))] (upd H sl (.lst [])):=Hd.base.new nsl;generalize upd H sl (.lst [])=H1 at h0 ⊢;let W:Nat->St->Hp->Prop:=λmm σ J=>∃ (at' hd td:Nat) (u8 u9 u10 u11 u12 u13:Jn) (B:Hp) (Ps:List (Stp×Ad)),mm+hd=8/\hd<=8/\td<=3/\σ=[rq a,rq le,iq hm,iq tm,rq sl,iq at',iq hd,iq td,u8,u9,u10,u11,u12,u13]/\Same H B/\Hd B [(sl,.lst (rfs Ps))] J/\SLin c q B lens td (hd+td) Ps;refine ⟨W,⟨8,6,0,0,none,none,none,none,none,none,H,[],rfl,Nat.zero_le _,Nat.zero_le _,rfl,Same.refl _,h0,⟨(λp m=>nomatch m),Nat.le_refl _⟩⟩,?_⟩;clear h0;rintro mm σ J ⟨at',hd,td,u8,u9,u10,u11,u12,u13,B,Ps,em,hd8,td3,rfl,sB,h,hP⟩;have sJ:=sB.trans h.sm;have fin:Q (.ref sl) J:=k J sl Ps sJ (h.get 0 rfl) ((hP.same h.sm).mono td3 (by omega));refine ⟨_,rfl,_,rfl,a,_,rfl,.inl (zD hS sJ),_,_,rfl,rfl,_,rfl,z7 (λz=>⟨_,rfl,_,rfl,_,_,rfl,rfl,_,rfl,z7 (λz'=>?_) (λz'=>⟨_,rfl,fin⟩)⟩) (λz=>zU ⟨_,rfl,fin⟩)⟩
 have z:at'<ns.length:=by
  have:(at':Int)<((ns.map V.int).length:Int):=of_decide_eq_true z;rw [Jh] at this;omega
 have z':hd<hm:=by have:(hd:Int)<(hm:Int):=of_decide_eq_true z';omega
 refine ⟨W (mm-1),λσ' H' y=>⟨mm-1,by omega,y⟩,?_⟩;have hSJ:=zD hS sJ;refine ⟨_,rfl,_,rfl,a,_,_,_,rfl,rfl,hSJ,xJ at' z rfl,_,_,rfl,rfl,.inr ⟨by decide,by decide⟩,_,_,rfl,rfl,(by show (0:Int)<2147483587;decide),?_⟩;have mx0:0<=ns.getD at' 0*69621 % 2147483587:=by omega
 generalize ns.getD at' 0*69621 % 2147483587=mx at mx0 ⊢;refine ⟨_,rfl,_,_,rfl,rfl,⟨by decide,by decide⟩,_,_,rfl,rfl,(by show (0:Int)<5;decide),_,_,rfl,rfl,?_⟩;obtain ⟨sz,esz,sz1,sz5⟩:∃ sz:Nat,1+mx / 7 % 5=(sz:Int)/\1<=sz/\sz<=5:=⟨(1+mx / 7 % 5).toNat,by omega,by omega,by omega⟩;rw [esz];refine ⟨λσ J2=>∃ ts:Nat,σ=[rq a,rq le,iq hm,iq tm,rq sl,iq at',iq hd,iq td,iq mx,iq sz,iq ts,u11,u12,u13]/\ts<=2/\Same J J2,?_,?_⟩
 ·refine ⟨szU 4,λl4 n4=>?_⟩
  obtain ⟨ts,ets,ts2⟩:∃ ts:Nat,atI [V.int 0,V.int 0,V.int 1,V.int 2] (mx / 35 % 4)=some (.int ts)/\ts<=2:=by
   have:mx / 35 % 4=0∨mx / 35 % 4=1∨mx / 35 % 4=2∨mx / 35 % 4=3:=by omega
   rcases this with e | e | e | e <;> rw [e]
   ·exact ⟨0,rfl,by decide⟩
   ·exact ⟨0,rfl,by decide⟩
   ·exact ⟨1,rfl,by decide⟩
   ·exact ⟨2,rfl,by decide⟩
  exact ⟨_,rfl,_,_,rfl,rfl,⟨by decide,by decide⟩,_,_,rfl,rfl,(by show (0:Int)<4;decide),l4,_,_,_,rfl,rfl,SqL.of zg,ets,ts,rfl,ts2,zN (Same.refl _) n4⟩
 rintro σ J2 ⟨ts,rfl,ts2,s2⟩;have hS2:=zD hSJ s2;refine ⟨_,rfl,_,rfl,_,_,rfl,rfl,_,rfl,_,rfl,_,_,rfl,rfl,_,rfl,_,_,rfl,rfl,_,rfl,a,_,rfl,hS2,λva nva=>?_⟩;obtain ⟨zv,ezv,lzv⟩:=XY ns (a:=(at':Int)+1) (b:=(at':Int)+1+sz) (n:=5) (by omega) (by omega) (by omega);rw [ezv];generalize hX:upd _ _ _=J3;obtain ⟨sX,eva⟩:=yi hX nva;have sX2:=s2.trans sX;have neva:va≠sl:=λe=>by rw [e,s2 _ _ (h.get 0 rfl)] at nva;cases nva
 replace hS2:=zD hS2 sX;clear hX sX;refine ⟨λσ J4=>∃ (ta:Ad) (zt:Ja),σ=[rq a,rq le,iq hm,iq tm,rq sl,iq at',iq hd,iq td,iq mx,iq sz,iq ts,rq va,rq ta,u13]/\zt.length<=2/\J3 ta=none/\Same J3 J4/\J4 ta=some (.lst (zt.map V.int)),?_,?_⟩
 ·refine ⟨_,rfl,_,rfl,_,_,rfl,rfl,_,rfl,_,_,rfl,rfl,_,rfl,_,rfl,_,_,rfl,rfl,_,rfl,_,_,rfl,rfl,_,rfl,_,_,rfl,rfl,_,rfl,a,_,rfl,hS2,λta nta=>?_⟩
  obtain ⟨zt,ezt,lzt⟩:=XY ns (a:=(at':Int)+1+sz) (b:=(at':Int)+1+sz+ts) (n:=2) (by omega) (by omega) (by omega);rw [ezt];exact ⟨ta,zt,rfl,lzt,nta,zN (Same.refl _) nta,zg⟩
 rintro σ J4 ⟨ta,zt,rfl,lzt,nta,s4,eta⟩;have neta:ta≠sl:=λe=>by rw [e,sX2 _ _ (h.get 0 rfl)] at nta;cases nta
 obtain ⟨B4,sB4,h4,new4⟩:=h.over (sX2.trans s4);replace eva:=new4 _ _ (s4 _ _ eva) (λm=>neva (List.mem_singleton.mp m));replace eta:=new4 _ _ eta (λm=>neta (List.mem_singleton.mp m));replace hP:=hP.same sB4;replace sB:=sB.trans sB4;clear h sJ hSJ sX2 s2 s4 new4 hS2 fin neva neta nva nta sB4;refine hide_at h4 λB5 s5=>?_;have sB5:=sB.trans s5;refine ⟨_,rfl,_,_,rfl,rfl,⟨by decide,by decide⟩,_,rfl,_,rfl,_,rfl,va,ta,le,mx / 140,zv,zt,lens,rfl,SqL.of (s5 _ _ eva),lzv,SqL.of (s5 _ _ eta),lzt,zD hl sB5,lo,λB6 x st s6 hx hst nsl6=>?_⟩;have sB6:=sB5.trans s6;have h6:Hd B6 [(sl,.lst (rfs Ps))] (upd B6 sl (.lst (rfs Ps))):=Hd.base.new nsl6;replace hP:=(hP.same s5).same s6;generalize upd B6 sl (.lst (rfs Ps))=J6 at h6 ⊢;clear h4 s5 sB5 s6 nsl6 sB;refine ⟨λσ J7=>∃ (td' n0:Nat) (x':Ad) (st':Stp) (B7:Hp) (Ps':List (Stp×Ad)),σ=[rq a,rq le,iq hm,iq tm,rq sl,iq at',iq hd,iq td',iq mx,iq sz,iq ts,rq va,rq ta,rq x']/\td'<=3/\Same B6 B7/\Hd B7 [(sl,.lst (rfs Ps'))] J7/\SLin c q B7 lens td' n0 Ps'/\StpAt c q B7 x' st'/\SOk lens st'/\dep st'<=td'/\n0+cnt st'<=hd+1+td'/\Ps'.length<=Ps.length,?_,?_⟩
 ·have no:∃ (td' n0:Nat) (x':Ad) (st':Stp) (B7:Hp) (Ps':List (Stp×Ad)),[rq a,rq le,iq hm,iq tm,rq sl,iq at',iq hd,iq td,iq mx,iq sz,iq ts,rq va,rq ta,rq x]=[some (.ref a),some (.ref le),some (.int hm),some (.int tm),some (.ref sl),some (.int at'),some (.int hd),some (.int td'),some (.int mx),some (.int sz),some (.int ts),some (.ref va),some (.ref ta),some (V.ref x')]/\td'<=3/\Same B6 B7/\Hd B7 [(sl,.lst (rfs Ps'))] J6/\SLin c q B7 lens td' n0 Ps'/\StpAt c q B7 x' st'/\SOk lens st'/\dep st'<=td'/\n0+cnt st'<=hd+1+td'/\Ps'.length<=Ps.length:=⟨td,hd+td,x,.st st,B6,Ps,rfl,td3,Same.refl _,h6,hP,hx,hst,Nat.zero_le _,by show hd+td+1<=_;omega,Nat.le_refl _⟩
  refine ⟨_,rfl,_,_,rfl,rfl,(by show (0:Int)<7;decide),_,_,rfl,rfl,_,rfl,z7 (λz1=>⟨_,rfl,sl,_,rfl,.inl (h6.lst 0 rfl),_,_,rfl,rfl,_,rfl,z7 (λz2=>⟨_,rfl,_,rfl,_,_,rfl,rfl,_,rfl,z7 (λz3=>?_) (λz3=>no)⟩) (λz2=>zU no)⟩) (λz1=>zU no)⟩;clear no;have z3:td<tm:=by have:(td:Int)<(tm:Int):=of_decide_eq_true z3;omega
  have z2:Ps≠[]:=λe=>by
   have:(0:Int)<((rfs Ps).length:Int):=of_decide_eq_true z2;rw [e] at this;exact absurd this (by decide)
  obtain ⟨R,p,rfl⟩:∃ R p,Ps=R++[p]:=⟨_,_,(List.dropLast_concat_getLast z2).symm⟩;have er:rfs (R++[p])=rfs R++[V.ref p.2]:=by show (R++[p]).map _=_;rw [Jj];rfl
  refine ⟨szU 4,λl4 n4=>?_⟩;generalize hX:upd _ _ _=J7;obtain ⟨B7,s7,e7,h7⟩:=hdG h6 hX n4;clear hX
  obtain ⟨tg,etg,tg5⟩:∃ tg:Nat,atI [V.int 2,V.int 0,V.int 4,V.int 3] (mx / 10080 % 4)=some (.int tg)/\tg<5:=by
   have:mx / 10080 % 4=0∨mx / 10080 % 4=1∨mx / 10080 % 4=2∨mx / 10080 % 4=3:=by omega
   rcases this with e | e | e | e <;> rw [e]
   ·exact ⟨2,rfl,by decide⟩
   ·exact ⟨0,rfl,by decide⟩
   ·exact ⟨4,rfl,by decide⟩
   ·exact ⟨3,rfl,by decide⟩
  refine ⟨_,rfl,_,_,rfl,rfl,⟨by decide,by decide⟩,_,_,rfl,rfl,(by show (0:Int)<4;decide),l4,_,_,_,rfl,rfl,SqL.of (h7.sm _ _ e7),etg,?_⟩;refine ⟨_,rfl,_,_,rfl,rfl,⟨by decide,by decide⟩,_,_,rfl,rfl,(by show (0:Int)<2;decide),_,_,rfl,rfl,?_⟩;have m12:1<=1+mx / 40320 % 2/\1+mx / 40320 % 2<=2:=by omega
  generalize 1+mx / 40320 % 2=most at m12 ⊢;rw [er] at h7;refine ⟨_,rfl,.inl ⟨rfl,_,h7.lst 0 rfl⟩,sl,_,V.ref p.2,rfl,rfl,h7.get 0 rfl,(by rw [Ji,show (rfs R).length+[V.ref p.2].length-1=(rfs R).length from rfl,List.getElem?_append_right (Nat.le_refl _),Nat.sub_self];rfl),?_⟩;rw [List.dropLast_concat];replace h7:=h7.put (o':=.lst (rfs R)) 0 rfl;generalize upd J7 sl (.lst (rfs R))=J8 at h7 ⊢;refine ⟨_,rfl,szU 2,λl5 n5=>?_⟩;generalize hX:upd _ _ _=J9;obtain ⟨B9,s9,e9,h9⟩:=hdG h7 hX n5;clear hX h7;refine λy dy n1 n2 n3=>?_;have sM:Same J9 (upd (upd J9 dy (.own y)) y (.ins q.till dy [])):=(zN (Same.refl _) n2).trans (zN (Same.refl _) (by rw [zy (Ne.symm n3)];exact n1));refine ⟨y,dy,l5,.int tg,.int most,_,rfl,zg,SqL.of (sM _ _ (h9.sm _ _ e9)),λJa l' nl' ka el' ea=>⟨rfl,?_⟩⟩;have ha:=h9.made n1 n2 n3 ka nl' ea el';obtain ⟨Ba,sa,eS,hA⟩:=Hd.settles (S:=[(l',_),(y,_),(dy,_)]) (L:=[(sl,.lst (rfs R))]) ha;have sA:=(s7.trans s9).trans sa;have hp:=hP.a p (x0x _ q9y);refine ⟨_,rfl,_,_,rfl,rfl,td+1,hd+td-cnt p.1,y,.till tg most (.cons p.1 (.cons (.st st) .nil)),Ba,R,by rw [show (td:Int)+1=((td+1:Nat):Int) by omega];rfl,by omega,sA,hA,?_,?_,?_,?_,?_,?_⟩
  ·refine ⟨λu m=>?_,?_⟩
   ·have:=hP.a u (List.mem_append_left _ m)
    exact ⟨this.1.same sA,this.2.1,Nat.le_succ_of_le this.2.2⟩
   ·have:=hP.n
    rw [Jj,List.sum_append] at this;have:_+(cnt p.1+0)<=_:=this;omega
  ·exact ⟨dy,l',[p.2,x],eS (y,_) (by simp),eS (l',_) (by simp),p.2,[x],rfl,hp.1.same sA,x,[],rfl,StepAt.same sA hx,rfl⟩
  ·exact ⟨⟨tg5,m12.1,m12.2⟩,hp.2.1,hst,trivial⟩
  ·show max (dep p.1) (max 0 0)+1<=td+1
   have:=hp.2.2;omega
  ·have:=hP.n
   rw [Jj,List.sum_append] at this;have:_+(cnt p.1+0)<=_:=this;show hd+td-cnt p.1+(1+(cnt p.1+(1+0)))<=_;omega
  ·rw [Ji];exact Nat.le_add_right ..
 rintro σ J7 ⟨td',n0,x',st',B7,Ps',rfl,td3',s7,h7,hP7,hx7,hb7,dp7,nn7,ll7⟩
 have lP:Ps.length<=11:=by
  have:∀ (l:List (Stp×Ad)),l.length<=(l.map λp=>cnt p.1).sum:=by
   intro l
   induction l with
   | nil=>exact Nat.le_refl _
   | cons p r ih =>
    have c1:1<=cnt p.1:=by
     cases p.1 with
     | st s=>exact Nat.le_refl _
     | till tg most ss=>exact Nat.le_add_right ..
    show r.length+1<=cnt p.1+(r.map λp=>cnt p.1).sum;omega
  have:=this Ps;have:=hP.n;omega
 refine ⟨_,rfl,.inl ⟨rfl,_,h7.lst 0 rfl⟩,_,rfl,sl,_,_,rfl,rfl,h7.get 0 rfl,(by show (Ps'.map _).length<_;rw [Jh];exact sz3 (by omega)),?_⟩;have h8:=h7.put (o':=.lst (rfs (Ps'++[(st',x')]))) 0 rfl;have e8:rfs Ps'++[V.ref x']=rfs (Ps'++[(st',x')]):=by show _=(Ps'++[_]).map _;rw [Jj];rfl
 rw [e8];refine ⟨_,rfl,_,_,rfl,rfl,_,rfl,_,_,rfl,rfl,_,rfl,_,_,rfl,rfl,_,rfl,_,_,rfl,rfl,?_⟩;exact ⟨at'+1+sz+ts,hd+1,td',_,_,_,_,_,_,B7,Ps'++[(st',x')],by omega,by omega,td3',by rw [show (at':Int)+1+(sz:Int)+(ts:Int)=((at'+1+sz+ts:Nat):Int) by omega,show (hd:Int)+1=((hd+1:Nat):Int) by omega];rfl,sB6.trans s7,h8,hP7.snoc hx7 hb7 dp7 (Nat.le_refl _) nn7⟩
inductive spCA (K:Fg) (vs:Jm) (H:Hp) (Q:VK) (_:XK):Prop
 | mk (a:Ad) (ns:Ja) (k:Int) (_:vs=[.ref a,.int k]) (_:SqL K H a (ns.map V.int)) (_:0<=k) (_:Q (.int (ns.getD k.toNat 0)) H)
def zae (d:zC K mg "_law_cell_at" xU ["_law_script","_law_k"]) (hlen:mg "len"=none):Ok P w K mg base CX0 1 "_law_cell_at" ["_law_script","_law_k"] (spCA K):=by
 obtain ⟨g,fd,m,F,b⟩:=d;refine ⟨g,fd,m,F.kp,b,F.ok Y8 (by rintro vs H Q E ⟨_,_,_,e,_⟩;rw [e];rfl) λcdv A outer s H vs Q E hr h=>?_⟩;obtain ⟨a,ns,i,rfl,hS,h0,k⟩:=h;refine ⟨_,(zc (zu (zi yd (pv 1) (zw zH (by rfl) hlen PySem.boot_len (zb (pv 0) ze)) (zo _)) (zf (zj (zP zY (pv 0) (pv 1) (λ_ _=>rfl)))) zk)
   (zf (zj zd))),?_⟩
 refine ⟨_,rfl,_,rfl,a,_,rfl,.inl hS,_,_,rfl,rfl,_,rfl,?_⟩;rw [Jh];refine z7 (λz=>?_) (λz=>?_)
 ·have z:i<(ns.length:Int):=by simpa using z
  exact ⟨_,rfl,_,rfl,a,_,_,_,rfl,rfl,hS,xJ i.toNat (by omega) (by omega),k⟩
 ·have z:¬ i<(ns.length:Int):=by simpa using z
  have e:ns.getD i.toNat 0=0:=by rw [q0z,List.getElem?_eq_none (by omega)];rfl
  rw [e] at k;exact k
inductive spLn (K:Fg) (vs:Jm) (H:Hp) (Q:VK) (_:XK):Prop
 | mk (a:Ad) (ns:Ja) (_:vs=[.ref a]) (_:SqL K H a (ns.map V.int)) (_:∀ H' l lens,Same H H'->H' l=some (.lst (lens.map V.int))->LensOk lens->Q (.ref l) H')
def ok_lenby (d:zC K mg "_law_lengths_by" y6 ["_law_script"]) (CA:Ok P w K mg base CX0 1 "_law_cell_at" ["_law_script","_law_k"] (spCA K)):Ok P w K mg base CX0 2 "_law_lengths_by" ["_law_script"] (spLn K):=by
 obtain ⟨g,fd,m,F,b⟩:=d;refine ⟨g,fd,m,F.kp,b,F.ok sc_l_lengths_by (by rintro vs H Q E ⟨_,_,e,_⟩;rw [e];rfl) λcdv A outer s H vs Q E hr h=>?_⟩;obtain ⟨a,ns,rfl,hS,k⟩:=h;have nd:=sc_l_lengths_by.nd;have hr1:=hr;refine ⟨_,(zc (zA (i:=1) nd rfl (Or.inl rfl) (zr zZ zd (zr yc (zG CA hr1 (by rfl) zJ (zb (pv 0) (zb zd ze))) zd)))
   (zc (yQ (zu (zi zx (zr yc (zr yg (zG CA hr1 (by rfl) zJ (zb (pv 0) (zb zd ze))) zd) zd) zd (zo _)) (zf (zA (i:=1) nd rfl (Or.inl rfl) (zr zZ zd (zr yc (zr yg (zG CA hr1 (by rfl) zJ (zb (pv 0) (zb zd ze))) zd) zd)))) zk))
   (zf (zj (zQ (zb (pv 1) (zb (pv 1) (zb zd (zb (zr zZ zd (zr yc (zG CA hr1 (by rfl) zJ (zb (pv 0) (zb zd ze))) zd)) (zb (pv 1) ze)))))))))),?_⟩
 refine ⟨_,rfl,a,ns,0,rfl,hS,Int.le_refl _,_,_,rfl,rfl,(by show (0:Int)<6;decide),_,_,rfl,rfl,?_⟩;refine ⟨λσ J=>∃ c:Int,σ=[rq a,iq c]/\1<=c/\c<=20/\J=H,?_,?_⟩
 ·refine ⟨_,rfl,a,ns,0,rfl,hS,Int.le_refl _,_,_,rfl,rfl,⟨by decide,by decide⟩,_,_,rfl,rfl,(by show (0:Int)<12;decide),rfl,_,rfl,z7 (λz=>?_) (λz=>?_)⟩
  ·refine ⟨_,rfl,a,ns,0,rfl,hS,Int.le_refl _,_,_,rfl,rfl,⟨by decide,by decide⟩,_,_,rfl,rfl,(by show (0:Int)<14;decide),_,_,rfl,rfl,?_⟩
   exact ⟨7+ns.getD (0:Int).toNat 0 / 72 % 14,rfl,by omega,by omega,rfl⟩
  ·exact ⟨1+ns.getD (0:Int).toNat 0 % 6,rfl,by omega,by omega,rfl⟩
 rintro σ J ⟨cc,rfl,c1,c2,rfl⟩;refine ⟨_,rfl,_,rfl,_,rfl,a,ns,1,rfl,hS,by decide,_,_,rfl,rfl,(by show (0:Int)<6;decide),_,_,rfl,rfl,_,rfl,szU 5,λl nl=>?_⟩;have d1:1<=1+ns.getD (1:Int).toNat 0 % 6/\1+ns.getD (1:Int).toNat 0 % 6<=6:=by omega
 refine k _ l [cc,cc,1,1+ns.getD (1:Int).toNat 0 % 6,cc] (zN (Same.refl _) nl) zg ⟨rfl,λi hi=>?_⟩
 match i,hi with
 | 0,_=>exact ⟨c1,by show cc<=400;omega⟩
 | 1,_=>exact ⟨c1,by show cc<=400;omega⟩
 | 2,_=>exact ⟨Int.le_refl _,by show (1:Int)<=400;decide⟩
 | 3,_=>exact ⟨d1.1,by have:=d1.2;show 1+ns.getD (1:Int).toNat 0 % 6<=400;omega⟩
 | 4,_=>exact ⟨c1,by show cc<=400;omega⟩
inductive spI_ProgU (K:Fg) (C:Ad) (vs:Jm) (H:Hp) (Q:VK) (_:XK):Prop
 | mk (B:Hp) (L:Jl) (x dx a b c:Ad) (xs ys zs:Jm) (_:vs=[.ref x,.ref a,.ref b,.ref c]) (_:Hd B ((x,.ins C dx [])::L) H) (_:SqL K B a xs) (_:SqL K B b ys) (_:SqL K B c zs) (_:∀ B' H' la lb lc,Same B B'->Hd B' L H'->B' la=some (.lst xs)->B' lb=some (.lst ys)->B' lc=some (.lst zs)->B' x=some (.ins C dx (prFl la lb lc))->Q .non H')
def okI_ProgU {C:Ad} (d:yt K C "Program.__init__" y9 ["self","lengths","functions","steps"]) (hlist:mg "list"=none) (pc:PrC K C):OkI P w K mg base CX0 1 C ["self","lengths","functions","steps"] (spI_ProgU K C):=by
 obtain ⟨f,fd,m,F,bd⟩:=d;refine ⟨f,fd,m,bd,F.ok Yd (by rintro vs H Q E ⟨_,_,_,_,_,_,_,_,_,_,e,_⟩;rw [e];rfl) λcdv A outer s H vs Q E hr h=>?_⟩;obtain ⟨B,L,x,dx,a,b,c,xs,ys,zs,rfl,h,ha,hb,hc,k⟩:=h;refine ⟨_,(zc (zM (pv 0) (yf yP (by rfl) hlist PyProof.Rows.boot_list (zb (pv 1) ze)) rfl)
   (zc (zM (pv 0) (yf yP (by rfl) hlist PyProof.Rows.boot_list (zb (pv 2) ze)) rfl)
   (zf (zM (pv 0) (yf yP (by rfl) hlist PyProof.Rows.boot_list (zb (pv 3) ze)) rfl)))),?_⟩
 refine ⟨_,rfl,a,_,rfl,.inl (h.sql ha),λla nla=>?_⟩;replace h:=h.fnew (o:=.lst xs) nla;refine ⟨_,rfl,x,C,dx,[],rfl,h.get 0 rfl,pc.c,pc.n0,(by show 0<1000;decide),?_⟩;replace h:=h.fput (o':=.ins C dx [("lengths",.ref la)]);refine ⟨_,rfl,b,_,rfl,.inl (h.sql hb),λlb nlb=>?_⟩;replace h:=h.fnew (o:=.lst ys) nlb;refine ⟨_,rfl,x,C,dx,[("lengths",.ref la)],rfl,h.get 0 rfl,pc.c,pc.n1,(by show 1<1000;decide),?_⟩;replace h:=h.fput (o':=.ins C dx [("lengths",.ref la),("functions",.ref lb)]);refine ⟨_,rfl,c,_,rfl,.inl (h.sql hc),λlc nlc=>?_⟩;replace h:=h.fnew (o:=.lst zs) nlc;refine ⟨_,rfl,x,C,dx,[("lengths",.ref la),("functions",.ref lb)],rfl,h.get 0 rfl,pc.c,pc.n2,(by show 2<1000;decide),?_⟩;replace h:=h.fput (o':=.ins C dx (prFl la lb lc));obtain ⟨B',sB,hB,h2⟩:=Hd.settles (S:=[(x,.ins C dx (prFl la lb lc)),(lc,.lst zs),(lb,.lst ys),(la,.lst xs)]) (L:=L) h;exact k B' _ la lb lc sB h2 (hB (la,_) (by simp)) (hB (lb,_) (by simp)) (hB (lc,_) (by simp)) (hB (x,_) (by simp))
inductive spPr (c:F2.Cs) (q:QCs) (K:Fg) (vs:Jm) (H:Hp) (Q:VK) (_:XK):Prop
 | mk (a le:Ad) (ns lens:Ja) (hm tm:Nat) (_:vs=[.ref a,.ref le,.int hm,.int tm]) (_:SqL K H a (ns.map V.int)) (_:ns.length<=63) (_:hm<=8) (_:tm<=3) (_:SqL K H le (lens.map V.int)) (_:LensOk lens) (_:∀ H' pr lc sg Ps,Same H H'->PgAt c q K H' pr lc ⟨lens,fx sg,50⟩->H' lc=some (.lst (rfs Ps))->SLin c q H' lens 3 11 Ps->Q (.ref pr) H')
def ok_progby {c:F2.Cs} {q:QCs} (d:zC K mg "_law_program_by" y4 ["_law_script","_law_lengths","_law_most_heads","_law_most_tills"]) (hlist:mg "list"=none) (hPr:mg "Program"=some (.ref q.pr)) (G:FormG mg c) (CA:Ok P w K mg base CX0 1 "_law_cell_at" ["_law_script","_law_k"] (spCA K)) (SN:Ok P w K mg base CX0 1 "_law_sign_by" ["_law_cell"] spSB) (SS:Ok P w K mg base CX0 7 "_law_steps_by" ["_law_script","_law_lengths","_law_most_heads","_law_most_tills"] (spSs c q K)) (IP:OkI P w K mg base (CXe P w base) 1 c.pair ["self","sign","left","right"] (spI_Pair c.pair)) (IL:OkI P w K mg base (CXe P w base) 1 c.loc ["self","at"] (spI_Local c.loc)) (IU:OkI P w K mg base (CXe P w base) 1 c.call ["self","at","handed"] (spI_Call K c.call)) (IPr:OkI P w K mg base CX0 1 q.pr ["self","lengths","functions","steps"] (spI_ProgU K q.pr)):Ok P w K mg base CX0 8 "_law_program_by" ["_law_script","_law_lengths","_law_most_heads","_law_most_tills"] (spPr c q K):=by
 obtain ⟨g,fd,m,F,b⟩:=d;refine ⟨g,fd,m,F.kp,b,F.ok sc_l_program_by (by rintro vs H Q E ⟨_,_,_,_,_,_,e,_⟩;rw [e];rfl) λcdv A outer s H vs Q E hr h=>?_⟩;obtain ⟨a,le,ns,lens,hm,tm,rfl,hS,nl,hm8,tm3,hl,lo,k⟩:=h;have nd:=sc_l_program_by.nd;have hr7:=hr;have hr2:Room 2 _:=hr.mono (by decide);have hr1:Room 1 _:=hr.mono (by decide);refine ⟨_,(zc (zA (i:=4) nd rfl (Or.inl rfl) (zR (zb zd (zb (zV IP G.pair hr2 (by rfl) zW (zb (zG SN hr1 (by rfl) zJ (zb (zr yg (zG CA hr1 (by rfl) zJ (zb (pv 0) (zb zd ze))) zd) ze)) (zb (zV IL G.loc hr2 (by rfl) zW (zb zd ze)) (zb (zV IL G.loc hr2 (by rfl) zW (zb zd ze)) ze)))) ze))))
   (zc (zA (i:=5) nd rfl (Or.inl rfl) (zR (zb zd (zb (zV IU G.call hr2 (by rfl) zW (zb zd (zb (zQ (zb (zV IL G.loc hr2 (by rfl) zW (zb zd ze)) (zb (zV IL G.loc hr2 (by rfl) zW (zb zd ze)) ze))) ze))) ze))))
   (zc (zA (i:=6) nd rfl (Or.inl rfl) (zG SS hr7 (by rfl) zJ (zb (pv 0) (zb (pv 1) (zb (pv 2) (zb (pv 3) ze))))))
   (zf (zj (zV IPr hPr hr2 (by rfl) zJ (zb (yf yP (by rfl) hlist PyProof.Rows.boot_list (zb (pv 1) ze)) (zb (zQ (zb (pv 4) (zb (pv 5) ze))) (zb (pv 6) ze))))))))),?_⟩
 refine ⟨_,rfl,a,ns,1,rfl,hS,by decide,_,_,rfl,rfl,⟨by decide,by decide⟩,_,rfl,λH1 sg s1 hsg=>?_⟩;refine λx0 d0 a1 a2 a3=>⟨x0,d0,.int 0,rfl,zg,λH2 k2 e0=>⟨rfl,λx1 d1 b1 b2 b3=>⟨x1,d1,.int 1,rfl,zg,λH3 k3 e1=>⟨rfl,λx2 d2 c1 c2 c3=>⟨x2,d2,.str sg,.ref x0,.ref x1,rfl,zg,λH4 k4 e2=>⟨rfl,szU 2,λt1 nt1=>?_⟩⟩⟩⟩⟩⟩;have s2:=zK a1 a2 k2;have s3:=zK b1 b2 k3;have s4:=zK c1 c2 k4;have sA:=(s1.trans s2).trans (s3.trans s4);replace e0:=(s3.trans s4) _ _ e0;replace e1:=s4 _ _ e1;generalize hX:upd _ _ _=H5;obtain ⟨sX,et1⟩:=yi hX nt1;replace sA:=sA.trans sX;replace e0:=sX _ _ e0;replace e1:=sX _ _ e1;replace e2:=sX _ _ e2;clear hX sX;refine λy1 dy1 a1 a2 a3=>⟨y1,dy1,.int 1,rfl,zg,λG1 g1 f1=>⟨rfl,λy0 dy0 b1 b2 b3=>⟨y0,dy0,.int 0,rfl,zg,λG2 g2 f0=>⟨rfl,szU 2,λlh nlh=>?_⟩⟩⟩⟩;have sg1:=zK a1 a2 g1;have sg2:=zK b1 b2 g2;have s12:=sg1.trans sg2;replace sA:=sA.trans s12;replace e0:=s12 _ _ e0;replace e1:=s12 _ _ e1;replace e2:=s12 _ _ e2;replace et1:=s12 _ _ et1;replace f1:=sg2 _ _ f1;clear sg1 sg2 s12 a1 a2 a3 b1 b2 b3 g1 g2;generalize hX:upd _ _ _=G3;obtain ⟨sX,elh⟩:=yi hX nlh;replace sA:=sA.trans sX;replace e0:=sX _ _ e0;replace e1:=sX _ _ e1;replace e2:=sX _ _ e2;replace et1:=sX _ _ et1;replace f1:=sX _ _ f1;replace f0:=sX _ _ f0;clear hX sX;refine λy2 dy2 n1 n2 n3=>?_;have sM:Same G3 (upd (upd G3 dy2 (.own y2)) y2 (.ins c.call dy2 [])):=(zN (Same.refl _) n2).trans (zN (Same.refl _) (by rw [zy (Ne.symm n3)];exact n1));refine ⟨y2,dy2,lh,.int 0,_,rfl,zg,SqL.of (sM _ _ elh),λG4 l' nl' k4 el' e4=>⟨rfl,szU 2,λt2 nt2=>?_⟩⟩;have s4:=zK n1 n2 k4;replace sA:=sA.trans s4;replace e0:=s4 _ _ e0;replace e1:=s4 _ _ e1;replace e2:=s4 _ _ e2;replace et1:=s4 _ _ et1;replace f1:=s4 _ _ f1;replace f0:=s4 _ _ f0;clear s4 sM n1 n2 n3 k4 nl' elh;generalize hX:upd _ _ _=G5;obtain ⟨sX,et2⟩:=yi hX nt2;replace sA:=sA.trans sX;replace e0:=sX _ _ e0;replace e1:=sX _ _ e1;replace e2:=sX _ _ e2;replace et1:=sX _ _ et1;replace f1:=sX _ _ f1;replace f0:=sX _ _ f0;replace e4:=sX _ _ e4;replace el':=sX _ _ el';clear hX sX;refine ⟨_,rfl,_,rfl,_,rfl,_,rfl,a,le,ns,lens,hm,tm,rfl,zD hS sA,nl,hm8,tm3,zD hl sA,lo,λG6 ls Ps s6 els hP=>?_⟩;replace sA:=sA.trans s6;replace e0:=s6 _ _ e0;replace e1:=s6 _ _ e1;replace e2:=s6 _ _ e2;replace et1:=s6 _ _ et1;replace f1:=s6 _ _ f1;replace f0:=s6 _ _ f0;replace e4:=s6 _ _ e4;replace el':=s6 _ _ el';replace et2:=s6 _ _ et2;clear s6;refine ⟨_,rfl,le,_,rfl,.inl (zD hl sA),λla nla=>?_⟩;generalize hX:upd _ _ _=G7;obtain ⟨sX,ela⟩:=yi hX nla;replace sA:=sA.trans sX;replace e0:=sX _ _ e0;replace e1:=sX _ _ e1;replace e2:=sX _ _ e2;replace et1:=sX _ _ et1;replace f1:=sX _ _ f1;replace f0:=sX _ _ f0;replace e4:=sX _ _ e4;replace el':=sX _ _ el';replace et2:=sX _ _ et2;replace els:=sX _ _ els;replace hP:=hP.same sX;clear hX sX;refine ⟨_,rfl,_,rfl,szU 2,λlf nlf=>?_⟩;generalize hX:upd _ _ _=G8;obtain ⟨sX,elf⟩:=yi hX nlf;replace sA:=sA.trans sX;replace e0:=sX _ _ e0;replace e1:=sX _ _ e1;replace e2:=sX _ _ e2;replace et1:=sX _ _ et1;replace f1:=sX _ _ f1;replace f0:=sX _ _ f0;replace e4:=sX _ _ e4;replace el':=sX _ _ el';replace et2:=sX _ _ et2;replace els:=sX _ _ els;replace hP:=hP.same sX;replace ela:=sX _ _ ela;clear hX sX;refine ⟨_,rfl,λpr dp n1 n2 n3=>?_⟩;have s0:Same G8 (upd G8 dp (.own pr)):=zN (Same.refl _) n2;have h0:Hd (upd G8 dp (.own pr)) [(pr,.ins q.pr dp [])] (upd (upd G8 dp (.own pr)) pr (.ins q.pr dp [])):=Hd.base.new (by rw [zy (Ne.symm n3)];exact n1);generalize upd G8 dp (.own pr)=B0 at s0 h0;refine ⟨B0,[],pr,dp,la,lf,ls,_,_,_,rfl,h0,SqL.of (s0 _ _ ela),SqL.of (s0 _ _ elf),SqL.of (s0 _ _ els),λB1 H9 ka kb kc s1 h1 eka ekb ekc epr=>⟨rfl,?_⟩⟩;have sF:=(s0.trans s1).trans h1.sm;replace sA:=sA.trans sF;have h1s:=h1.sm;refine k H9 pr kc sg Ps sA ⟨⟨dp,ka,kb,h1s _ _ epr,SqL.of (h1s _ _ eka),⟨[t1,t2],SqL.of (h1s _ _ ekb),rfl,λi hi=>?_⟩⟩,lo.l⟩ (h1s _ _ ekc) (hP.same sF)
 match i,hi with
 | 0,_=>exact ⟨x2,SqT.of (sF _ _ et1),d2,x0,x1,sF _ _ e2,⟨d0,sF _ _ e0⟩,d1,sF _ _ e1⟩
 | 1,_=>exact ⟨y2,SqT.of (sF _ _ et2),dy2,l',[y1,y0],sF _ _ e4,sF _ _ el',y1,[y0],rfl,⟨dy1,sF _ _ f1⟩,y0,[],rfl,⟨dy0,sF _ _ f0⟩,rfl⟩
def shapes_nn:∀ p∈ZY,p.1≠("next":Str):=by decide
def good_nn {se nr:Nat} {tv:Jm} (h:Good se nr tv):tv[0]?≠some (.str "next"):=by
 obtain ⟨w,L,r,rfl,m,_⟩:=h.ex;intro e;exact shapes_nn _ m (V.str.inj (Option.some.inj e))
inductive Step1 (gp nr:Nat) (count:Int):Nat->Nat->Jm->Nat->Nat->Prop
 | rnd {se t:Nat} {tv:Jm} (h:0<se) (g:Good se nr tv):Step1 gp nr count se t tv se t
 | nxt {se t:Nat} (h:0<se):Step1 gp nr count se t [.str "next"] 0 t
 | beg {t g:Nat} {mn_:Int} (h1:1<=mn_) (h2:mn_<=400) (hg:g=1∨g=2∨g=4) (hgr:gp=0∨g=gp):Step1 gp nr count 0 t [.str "begin",.int mn_,.int g] (8 / g) t
 | turns {t:Nat}:Step1 gp nr count 0 t [.str "turns"] 0 (t+1)
 | quiet {t:Nat}:Step1 gp nr count 0 t [.str "quiet"] 0 t
 | till {t:Nat} {most k:Int} (h1:1<=most) (h2:most<=2) (h3:0<=k) (h4:k<count):Step1 gp nr count 0 (t+1) [.str "till",.int most,.int k] 0 t
inductive Scan (gp nr:Nat) (count:Int):Nat->Nat->List (Jm)->Nat->Nat->Prop
 | nil {s t:Nat}:Scan gp nr count s t [] s t
 | cons {s t s1 t1 s2 t2:Nat} {tv:Jm} {r:List (Jm)} (h:Step1 gp nr count s t tv s1 t1) (k:Scan gp nr count s1 t1 r s2 t2):Scan gp nr count s t (tv::r) s2 t2
section
variable {gp nr:Nat} {count:Int}
def Scan.app {s t s1 t1 s2 t2:Nat} {a b:List (Jm)} (h:Scan gp nr count s t a s1 t1) (k:Scan gp nr count s1 t1 b s2 t2):Scan gp nr count s t (a++b) s2 t2:=by
 induction h with
 | nil=>exact k
 | cons h _ ih=>exact .cons h (ih k)
def Scan.one {s t s1 t1:Nat} {tv:Jm} (h:Step1 gp nr count s t tv s1 t1):Scan gp nr count s t [tv] s1 t1:=.cons h .nil
theorem ZZ {se t:Nat} (h:0<se):∀ {l:List (Jm)},(∀ tv∈l,Good se nr tv)->Scan gp nr count se t l se t
 | [],_=>.nil
 | tv::r,g=>.cons (.rnd h (g tv q9y)) (ZZ h λtv m=>g tv (q9x _ m))
end
abbrev Dg (lens:Ja) (sg:Str):Pg:=⟨lens,fx sg,50⟩
def FB.mk1 {z d:Nat} {F:F2.Fm} (h:FB z d F) (sg:Str) (hz:z<=50):Mk1 (fx sg) 0 50 F:=⟨h.o sg,Nat.le_trans h.z hz⟩
def StB.f {lens:Ja} {st:Stp1} (h:StB lens st) (lo:LensOk lens) (sg:Str):StF (Dg lens sg) st:=⟨(by show 50<=150;decide),h.v.mk1 sg (by decide),λf e=>(h.t f e).mk1 sg (by decide),λtg v p m t e=>(h.p tg v p m t e).mk1 sg (by decide),by show st.tg<lens.length;rw [lo.l];exact h.g⟩
def Zr {lens:Ja} {sg:Str} {z d:Nat} {F:F2.Fm} (h:FB z d F) (hz:z<=46) (hd:d<=7) {se p mk s:Nat} (hp:p+min 2 (sN T0 F)<=se) (hp1:p<se) (hm:mk<2) (hs:s<=1):∀ tv∈(Dg lens sg).cf se F p mk 0 s,Good se 5 tv:=by
 have:=h.z;have:=h.d;exact yN (tab_ok sg) 50 F p mk 0 s [] (by omega) (h.o sg) (λx m=>nomatch m) hp hp1 (by omega) (by omega) (by omega)
def mask_lt (t:Option F2.Fm):ZL t<2:=by
 cases t with
 | none=>show 0<2;decide
 | some f=>show 1<2;decide
def body_good {lens:Ja} {sg:Str} {st:Stp1} (h:StB lens st) {se:Nat} (hse:2<=se):∀ tv∈st.body (Dg lens sg) se,Good se 5 tv:=by
 intro tv m;rcases List.mem_append.mp m with m | m
 ·cases et:st.t with
  | none=>rw [et] at m;exact nomatch m
  | some f =>
   rw [et] at m;have ft:=h.t f et;rcases List.mem_append.mp m with m | m
   ·exact Zr ft (by decide) (by decide) (by omega) (by omega) (by decide) (by decide) tv m
   ·rw [List.mem_singleton.mp m]
    exact XV (p:=0) (k:=1) (mk:=0) (by omega) (by decide) (by decide) (by decide)
 ·have mk2:=mask_lt st.t
  cases st with
  | put tg v p mm t =>
   have fp:=h.p tg v p mm t rfl;have r1:=sN_pos (T:=T0) (λ_=>by show 1<=2;decide) p;have z1:=xE T0 v;rcases List.mem_append.mp m with m | m
   ·exact Xx (Zr h.v (by decide) (by decide) (by omega) (by omega) mk2 (by decide)) (λz=>Zr fp (by decide) (by decide) (by have:0+1+sN T0 p<=se:=z;omega) (by omega) mk2 (by decide)) (λz=>Zr fp (by decide) (by decide) (by omega) (by omega) mk2 (by decide)) (Xp (by omega) (by decide) (by omega)) (Yn (by omega) (by decide) (by omega)) tv m
   ·rw [List.mem_singleton.mp m]
    exact yp 15 rfl ⟨.w _,.s _ (by split <;> omega),.n _,.m _ (by omega),trivial⟩
  | let_ tg v t=>exact Zr h.v (by decide) (by decide) (by omega) (by omega) mk2 (by decide) tv m
  | fold tg f v mm t=>exact Zr h.v (by decide) (by decide) (by omega) (by omega) mk2 (by decide) tv m
  | run tg f v t=>exact Zr h.v (by decide) (by decide) (by omega) (by omega) mk2 (by decide) tv m
def eff_good {lens:Ja} {sg:Str} {st:Stp1} (h:StB lens st) {se mk:Nat} (hse:2<=se) (hm:mk<2):Good se 5 (st.eff (Dg lens sg) se mk):=by
 have g:=h.g
 cases st with
 | put tg v p mm t=>exact yp 4 rfl ⟨.w _,.r _ (by omega) (by show (tg:Int).toNat<5;have:tg<5:=g;omega),.s _ (by split <;> omega),.s _ (by split <;> omega),.m _ (by omega),trivial⟩
 | let_ tg v t=>exact yp 16 rfl ⟨.w _,.r _ (by omega) (by show (tg:Int).toNat<5;have:tg<5:=g;omega),.s 0 (by omega),.m _ (by omega),trivial⟩
 | fold tg f v mm t=>exact yp 9 rfl ⟨.w _,.r _ (by omega) (by show (tg:Int).toNat<5;have:tg<5:=g;omega),.x _,.s 0 (by omega),.m _ (by omega),trivial⟩
 | run tg f v t=>exact yp 10 rfl ⟨.w _,.r _ (by omega) (by show (tg:Int).toNat<5;have:tg<5:=g;omega),.x _,.s 0 (by omega),.m _ (by omega),trivial⟩
def grp_of {D:Pg} {gp:Nat} {st:Stp1} (hg:Grp gp):(st.grp D gp=1∨st.grp D gp=2∨st.grp D gp=4)/\(gp=0∨st.grp D gp=gp):=by
 unfold Stp1.grp grOf;have hg:gp=0∨gp=1∨gp=2∨gp=4:=hg
 split
 ·rename_i z
  refine ⟨?_,.inl z⟩
  split
  ·omega
  ·split <;> omega
 ·exact ⟨by omega,.inr rfl⟩
def seats2 {g:Nat} (h:g=1∨g=2∨g=4):2<=8 / g:=by rcases h with e | e | e <;> subst e <;> decide
def X8 {lens:Ja} {sg:Str} {st:Stp1} {gp t:Nat} {count k:Int} (h:StB lens st) (hg:Grp gp):Scan gp 5 count 0 t (st.code (Dg lens sg) (st.grp (Dg lens sg) gp) k) 0 t:=by
 obtain ⟨g3,gr⟩:=grp_of (D:=Dg lens sg) (st:=st) hg;have s2:=seats2 g3;generalize st.grp (Dg lens sg) gp=g at *;unfold Stp1.code Xf;have m:=h.m;refine (((Scan.one (.beg m.1 m.2 g3 gr)).app (ZZ (by omega) (body_good h s2))).app (ZZ (by omega) ?_)).app (.one (.nxt (by omega)));have ge:=eff_good (sg:=sg) h s2 (mask_lt st.t);unfold tailC
 split
 ·intro tv mm
  rcases List.mem_cons.mp mm with rfl | mm
  ·exact yp 18 rfl ⟨.w _,trivial⟩
  rcases List.mem_cons.mp mm with rfl | mm
  ·exact ge
  ·rw [List.mem_singleton.mp mm]
   exact yp 19 rfl ⟨.w _,.n _,trivial⟩
 ·intro tv mm
  rw [List.mem_singleton.mp mm];exact ge
def look_scan {lens:Ja} {sg:Str} {tg gp t:Nat} {count:Int} (lo:LensOk lens) (h:tg<5) (hg:Grp gp):Scan gp 5 count 0 t (YU (Dg lens sg) tg gp) 0 t:=by
 have hg:gp=0∨gp=1∨gp=2∨gp=4:=hg;have g3:(if gp=0 then 4 else gp)=1∨(if gp=0 then 4 else gp)=2∨(if gp=0 then 4 else gp)=4:=by split <;> omega
 have gr:gp=0∨(if gp=0 then 4 else gp)=gp:=by split <;> omega
 unfold YU;generalize (if gp=0 then 4 else gp)=g at *;have s2:=seats2 g3;have l:=lo.v tg h;refine .cons (.beg l.1 l.2 g3 gr) (.cons (.rnd (by omega) ?_) (.cons (.rnd (by omega) ?_) (.cons (.nxt (by omega)) .nil)))
 ·exact yp 6 rfl ⟨.w _,.l 0 (by omega),.r _ (by omega) (by show (tg:Int).toNat<5;omega),.m 0 (by decide),trivial⟩
 ·exact yp 17 rfl ⟨.w _,.s 0 (by omega),.m 0 (by decide),trivial⟩
mutual
theorem scanS {lens:Ja} {sg:Str} {gp:Nat} {count:Int} (lo:LensOk lens) (hg:Grp gp):∀ (s:Stp) (k:Int) (t:Nat),SOk lens s->0<=k->k+cnt s<=count->Scan gp 5 count 0 t (xx (Dg lens sg) gp s k) 0 t
 | .st s,k,t,h,_,_=>X8 h hg
 | .till tg most ss,k,t,h,k0,kc=>by
  have e:cnt (.till tg most ss)=1+cnts ss:=rfl;exact (((Scan.one .turns).app (scanL lo hg ss (k+1) (t+1) h.2 (by omega) (by omega))).app ((Scan.one .quiet).app (look_scan lo h.1.1 hg))).app (.one (.till h.1.2.1 h.1.2.2 k0 (by omega)))
theorem scanL {lens:Ja} {sg:Str} {gp:Nat} {count:Int} (lo:LensOk lens) (hg:Grp gp):∀ (ss:Stps) (k:Int) (t:Nat),SOks lens ss->0<=k->k+cnts ss<=count->Scan gp 5 count 0 t (xu (Dg lens sg) gp ss k) 0 t
 | .nil,_,_,_,_,_=>.nil
 | .cons s r,k,t,h,k0,kc=>by
  have e:cnts (.cons s r)=cnt s+cnts r:=rfl;exact (scanS lo hg s k t h.1 k0 (by omega)).app (scanL lo hg r (k+cnt s) t h.2 (by omega) (by omega))
end
mutual
theorem lenS {lens:Ja} {sg:Str} {gp:Nat} (lo:LensOk lens):∀ (s:Stp) (k:Int),SOk lens s->(xx (Dg lens sg) gp s k).length<=1000*cnt s
 | .st s,k,h=>Nat.le_trans (code_len (h.f lo sg) k) (by show 18*50+6<=1000*1;decide)
 | .till tg most ss,k,h=>by
  have e:cnt (.till tg most ss)=1+cnts ss:=rfl;have:=lenL (sg:=sg) (gp:=gp) lo ss (k+1) h.2;show ([[V.str "turns"]]++xu (Dg lens sg) gp ss (k+1)++([[V.str "quiet"]]++YU (Dg lens sg) tg gp)++[[V.str "till",V.int most,V.int k]]).length<=_;rw [Ji,Ji,Ji,Ji];show 1+_+(1+4)+1<=_;omega
theorem lenL {lens:Ja} {sg:Str} {gp:Nat} (lo:LensOk lens):∀ (ss:Stps) (k:Int),SOks lens ss->(xu (Dg lens sg) gp ss k).length<=1000*cnts ss
 | .nil,_,_=>Nat.zero_le _
 | .cons s r,k,h=>by
  have e:cnts (.cons s r)=cnt s+cnts r:=rfl;have:=lenS (sg:=sg) (gp:=gp) lo s k h.1;have:=lenL (sg:=sg) (gp:=gp) lo r (k+cnt s) h.2;show (xx (Dg lens sg) gp s k++xu (Dg lens sg) gp r (k+cnt s)).length<=_;rw [Ji];omega
end
mutual
theorem SOk.a {lens:Ja} (lo:LensOk lens) (sg:Str):∀ (s:Stp),SOk lens s->StA (Dg lens sg) s
 | .st s,h=>h.f lo sg
 | .till tg most ss,h=>⟨by show tg<lens.length;rw [lo.l];exact h.1.1,SOks.a lo sg ss h.2⟩
theorem SOks.a {lens:Ja} (lo:LensOk lens) (sg:Str):∀ (ss:Stps),SOks lens ss->StAs (Dg lens sg) ss
 | .nil,_=>trivial
 | .cons s r,h=>⟨SOk.a lo sg s h.1,SOks.a lo sg r h.2⟩
end
def Zg:List (Stp×Ad)->Stps
 | []=>.nil
 | p::r=>.cons p.1 (Zg r)
theorem to_at {c:F2.Cs} {q:QCs} {B:Hp} {lens:Ja} {t n:Nat}:∀ {Ps:List (Stp×Ad)},SLin c q B lens t n Ps->StpsAt c q B (Ps.map Prod.snd) (Zg Ps)/\SOks lens (Zg Ps)/\Zt (Zg Ps)<=t/\cnts (Zg Ps)<=n
 | [],_=>⟨rfl,trivial,Nat.zero_le _,Nat.zero_le _⟩
 | p::r,h=>by
  have hp:=h.a p q9y;have hn:cnt p.1+(r.map λp=>cnt p.1).sum<=n:=h.n;obtain ⟨a1,a2,a3,a4⟩:=to_at (Ps:=r) (n:=n-cnt p.1) ⟨λu m=>h.a u (q9x _ m),by omega⟩;refine ⟨⟨p.2,_,rfl,hp.1,a1⟩,⟨hp.2.1,a2⟩,?_,?_⟩
  ·show max (dep p.1) (Zt (Zg r))<=t
   have:=hp.2.2;omega
  ·show cnt p.1+cnts (Zg r)<=n
   omega
def shTab:List (Str×Str):=[("op","wlxssm"),("pick","wlssmm"),("shift","wlrnnm"),("gather","wlsrm"),("put","wrssm"),("number","wlnm"),("load","wlrm"),("spread","wlrm"),("bring","wlom"),("fold","wrxsm"),("running","wrxsm"),("choose","wksm"),("other","wksm"),("save","wosm"),("here","wlm"),("reach","wsnm"),("store","wrsm"),("any","wsm"),("trim","w"),("stop","wn"),("next","w")]
def shF (w:Str):Str:=((shTab.find? λp=>decide (p.1=w)).map Prod.snd).getD "w"
def sh_ok:∀ p∈(ZY++[((("next":String):Str),[119])]:List (Str×List Nat)),(p.1,shF p.1)∈shTab/\(shF p.1).cps.toList=p.2:=by decide +kernel
def pe_dg3 {X:Cx} {pos pos':Pos} {i k0 v0 k1 v1 k2 v2:Expr} {ty t0 u0 t1 u1 t2 u2:TE} (hu:X.A.units+1<cLine) (a0:PE X k0 t0) (b0:PE X v0 u0) (a1:PE X k1 t1) (b1:PE X v1 u1) (a2:PE X k2 t2) (b2:PE X v2 u2) (hi:PE X i ty) (hs:NoSl i):PE X (.Subscript (.Dict [some k0,some k1,some k2] [v0,v1,v2] pos) i pos') (Yr (Yq [(t0,u0),(t1,u1),(t2,u2)]) ty):=Xj hu (Xi (yJ a0 b0 (yJ a1 b1 (yJ a2 b2 Xg))) rfl rfl (by simp) (by simp)) hi hs
def pe_dg4 {X:Cx} {pos pos':Pos} {i k0 v0 k1 v1 k2 v2 k3 v3:Expr} {ty t0 u0 t1 u1 t2 u2 t3 u3:TE} (hu:X.A.units+1<cLine) (a0:PE X k0 t0) (b0:PE X v0 u0) (a1:PE X k1 t1) (b1:PE X v1 u1) (a2:PE X k2 t2) (b2:PE X v2 u2) (a3:PE X k3 t3) (b3:PE X v3 u3) (hi:PE X i ty) (hs:NoSl i):PE X (.Subscript (.Dict [some k0,some k1,some k2,some k3] [v0,v1,v2,v3] pos) i pos') (Yr (Yq [(t0,u0),(t1,u1),(t2,u2),(t3,u3)]) ty):=Xj hu (Xi (yJ a0 b0 (yJ a1 b1 (yJ a2 b2 (yJ a3 b3 Xg)))) rfl rfl (by simp) (by simp)) hi hs
def pe_dg5 {X:Cx} {pos pos':Pos} {i k0 v0 k1 v1 k2 v2 k3 v3 k4 v4:Expr} {ty t0 u0 t1 u1 t2 u2 t3 u3 t4 u4:TE} (hu:X.A.units+1<cLine) (a0:PE X k0 t0) (b0:PE X v0 u0) (a1:PE X k1 t1) (b1:PE X v1 u1) (a2:PE X k2 t2) (b2:PE X v2 u2) (a3:PE X k3 t3) (b3:PE X v3 u3) (a4:PE X k4 t4) (b4:PE X v4 u4) (hi:PE X i ty) (hs:NoSl i):PE X (.Subscript (.Dict [some k0,some k1,some k2,some k3,some k4] [v0,v1,v2,v3,v4] pos) i pos') (Yr (Yq [(t0,u0),(t1,u1),(t2,u2),(t3,u3),(t4,u4)]) ty):=Xj hu (Xi (yJ a0 b0 (yJ a1 b1 (yJ a2 b2 (yJ a3 b3 (yJ a4 b4 Xg))))) rfl rfl (by simp) (by simp)) hi hs
def pw_dg3 {X:Cx} {p1 p2 p3 p4:Pos} {c i k0 v0 k1 v1 k2 v2:Expr} {tc:TT} {ty t0 u0 t1 u1 t2 u2:TE} (hu:X.A.units+1<cLine) (hc:PT X c tc) (a0:PE X k0 t0) (b0:PE X v0 u0) (a1:PE X k1 t1) (b1:PE X v1 u1) (a2:PE X k2 t2) (b2:PE X v2 u2) (hi:PE X i ty) (hs:NoSl i):PW1 X (.If c [.Return (some (.Subscript (.Dict [some k0,some k1,some k2] [v0,v1,v2] p1) i p2)) p3] [] p4) (tIfS tc (tRet (Yr (Yq [(t0,u0),(t1,u1),(t2,u2)]) ty)) tNext):=⟨zu hc (zf (zj (pe_dg3 hu a0 b0 a1 b1 a2 b2 hi hs))) zk⟩
def pw_dg4 {X:Cx} {p1 p2 p3 p4:Pos} {c i k0 v0 k1 v1 k2 v2 k3 v3:Expr} {tc:TT} {ty t0 u0 t1 u1 t2 u2 t3 u3:TE} (hu:X.A.units+1<cLine) (hc:PT X c tc) (a0:PE X k0 t0) (b0:PE X v0 u0) (a1:PE X k1 t1) (b1:PE X v1 u1) (a2:PE X k2 t2) (b2:PE X v2 u2) (a3:PE X k3 t3) (b3:PE X v3 u3) (hi:PE X i ty) (hs:NoSl i):PW1 X (.If c [.Return (some (.Subscript (.Dict [some k0,some k1,some k2,some k3] [v0,v1,v2,v3] p1) i p2)) p3] [] p4) (tIfS tc (tRet (Yr (Yq [(t0,u0),(t1,u1),(t2,u2),(t3,u3)]) ty)) tNext):=⟨zu hc (zf (zj (pe_dg4 hu a0 b0 a1 b1 a2 b2 a3 b3 hi hs))) zk⟩
def pw_dg5 {X:Cx} {p1 p2 p3 p4:Pos} {c i k0 v0 k1 v1 k2 v2 k3 v3 k4 v4:Expr} {tc:TT} {ty t0 u0 t1 u1 t2 u2 t3 u3 t4 u4:TE} (hu:X.A.units+1<cLine) (hc:PT X c tc) (a0:PE X k0 t0) (b0:PE X v0 u0) (a1:PE X k1 t1) (b1:PE X v1 u1) (a2:PE X k2 t2) (b2:PE X v2 u2) (a3:PE X k3 t3) (b3:PE X v3 u3) (a4:PE X k4 t4) (b4:PE X v4 u4) (hi:PE X i ty) (hs:NoSl i):PW1 X (.If c [.Return (some (.Subscript (.Dict [some k0,some k1,some k2,some k3,some k4] [v0,v1,v2,v3,v4] p1) i p2)) p3] [] p4) (tIfS tc (tRet (Yr (Yq [(t0,u0),(t1,u1),(t2,u2),(t3,u3),(t4,u4)]) ty)) tNext):=⟨zu hc (zf (zj (pe_dg5 hu a0 b0 a1 b1 a2 b2 a3 b3 a4 b4 hi hs))) zk⟩
def Same.up {H H1:Hp} {p:Ad} {o:HO} (s:Same H H1) (n:H1 p=none):Same H (upd H1 p o):=s.trans (zN (Same.refl _) n)
inductive spSh (vs:Jm) (H:Hp) (Q:VK) (_:XK):Prop
 | mk (wd sh:Str) (_:vs=[.str wd]) (_:(wd,sh)∈shTab) (_:∀ H',Same H H'->Q (.str sh) H')
def ok_shape (d:zC K mg "_law_shape" ZB ["_law_word"]):Ok P w K mg base CX0 1 "_law_shape" ["_law_word"] spSh:=by
 obtain ⟨g,fd,m,F,b⟩:=d;refine ⟨g,fd,m,F.kp,b,F.okB sc_l_shape (by rintro vs H Q E ⟨_,_,e,_⟩;rw [e];rfl) λcdv A outer s H vs Q E hr h=>?_⟩;obtain ⟨wd,sh,rfl,hm,k⟩:=h;have nd:=sc_l_shape.nd;have hu:=Nat.lt_of_le_of_lt (Nat.add_le_add_left (show 1<=64 by decide) _) hr.units;refine ⟨_,(yU ⟨zu (zi zx (pv 0) zh (zo _)) (zf (zj zh)) zk⟩
   (yU ⟨zu (zi zx (pv 0) zh (zo _)) (zf (zj zh)) zk⟩
   (yU ⟨zu (zi zx (pv 0) zh (zo _)) (zf (zj zh)) zk⟩
   (yU ⟨zu (zi zx (pv 0) zh (zo _)) (zf (zj zh)) zk⟩
   (yU ⟨zu (zi zx (pv 0) zh (zo _)) (zf (zj zh)) zk⟩
   (yU (pw_dg5 hu (zi yX (pv 0) (zQ (zb zh (zb zh (zb zh (zb zh (zb zh ze)))))) rfl) zh zh zh zh zh zh zh zh zh zh (pv 0) (λ_ _=>rfl))
   (yU ⟨zu (zi yX (pv 0) (zQ (zb zh (zb zh ze))) rfl) (zf (zj zh)) zk⟩
   (yU ⟨zu (zi yX (pv 0) (zQ (zb zh (zb zh ze))) rfl) (zf (zj zh)) zk⟩
   (yU ⟨zu (zi zx (pv 0) zh (zo _)) (zf (zj zh)) zk⟩
   (yU (pw_dg3 hu (zi yX (pv 0) (zQ (zb zh (zb zh (zb zh ze)))) rfl) zh zh zh zh zh zh (pv 0) (λ_ _=>rfl))
   (yU (pw_dg4 hu (zi yX (pv 0) (zQ (zb zh (zb zh (zb zh (zb zh ze))))) rfl) zh zh zh zh zh zh zh zh (pv 0) (λ_ _=>rfl))
   (pb_one ⟨zj zh⟩)))))))))))),?_⟩
 simp only [shTab,List.mem_cons,Prod.mk.injEq,List.not_mem_nil,or_false] at hm;rcases hm with ⟨rfl,rfl⟩ | ⟨rfl,rfl⟩ | ⟨rfl,rfl⟩ | ⟨rfl,rfl⟩ | ⟨rfl,rfl⟩ | ⟨rfl,rfl⟩ | ⟨rfl,rfl⟩ | ⟨rfl,rfl⟩ | ⟨rfl,rfl⟩ | ⟨rfl,rfl⟩ | ⟨rfl,rfl⟩ | ⟨rfl,rfl⟩ | ⟨rfl,rfl⟩ | ⟨rfl,rfl⟩ | ⟨rfl,rfl⟩ | ⟨rfl,rfl⟩ | ⟨rfl,rfl⟩ | ⟨rfl,rfl⟩ | ⟨rfl,rfl⟩ | ⟨rfl,rfl⟩ | ⟨rfl,rfl⟩
 all_goals (repeat (first | refine ⟨_,rfl,rfl,_,rfl,zU ?_⟩ | (refine ⟨_,rfl,szU 5,λp np=>?_⟩;refine ⟨p,_,rfl,.inl (SqL.of zg),rfl,rfl,_,rfl,?_⟩;refine zU ?_) | (refine ⟨_,rfl,szU 2,λp np=>?_⟩;refine ⟨p,_,rfl,.inl (SqL.of zg),rfl,rfl,_,rfl,?_⟩;refine zU ?_) | (refine ⟨_,rfl,szU 3,λp np=>?_⟩;refine ⟨p,_,rfl,.inl (SqL.of zg),rfl,rfl,_,rfl,?_⟩;refine zU ?_)))
 all_goals (first | exact ⟨_,rfl,rfl,_,rfl,yB (k _ (by repeat (first | exact Same.refl _ | refine Same.up ?_ (by assumption))))⟩ | ((refine ⟨_,rfl,szU 2,λp np=>?_⟩;refine ⟨p,_,rfl,.inl (SqL.of zg),rfl,rfl,_,rfl,?_⟩);exact yB (k _ (by repeat (first | exact Same.refl _ | refine Same.up ?_ (by assumption))))) | skip)
 ·refine ⟨_,rfl,szU 5,λp np=>?_⟩;refine ⟨p,_,rfl,.inl (SqL.of zg),rfl,rfl,_,rfl,?_⟩
  refine yB λdp ndp=>⟨zg,[(.inr "number",.str "wlnm"),(.inr "load",.str "wlrm"),(.inr "spread",.str "wlrm"),(.inr "copy",.str "wlsm"),(.inr "bring",.str "wlom")],rfl,(by decide),_,rfl,dp,_,rfl,DGet.k (k:=.inr "number") zg,?_⟩;rw [yZ];exact k _ (by repeat (first | exact Same.refl _ | refine Same.up ?_ (by assumption)))
 ·refine ⟨_,rfl,szU 5,λp np=>?_⟩;refine ⟨p,_,rfl,.inl (SqL.of zg),rfl,rfl,_,rfl,?_⟩
  refine yB λdp ndp=>⟨zg,[(.inr "number",.str "wlnm"),(.inr "load",.str "wlrm"),(.inr "spread",.str "wlrm"),(.inr "copy",.str "wlsm"),(.inr "bring",.str "wlom")],rfl,(by decide),_,rfl,dp,_,rfl,DGet.k (k:=.inr "load") zg,?_⟩;rw [yZ];exact k _ (by repeat (first | exact Same.refl _ | refine Same.up ?_ (by assumption)))
 ·refine ⟨_,rfl,szU 5,λp np=>?_⟩;refine ⟨p,_,rfl,.inl (SqL.of zg),rfl,rfl,_,rfl,?_⟩
  refine yB λdp ndp=>⟨zg,[(.inr "number",.str "wlnm"),(.inr "load",.str "wlrm"),(.inr "spread",.str "wlrm"),(.inr "copy",.str "wlsm"),(.inr "bring",.str "wlom")],rfl,(by decide),_,rfl,dp,_,rfl,DGet.k (k:=.inr "spread") zg,?_⟩;rw [yZ];exact k _ (by repeat (first | exact Same.refl _ | refine Same.up ?_ (by assumption)))
 ·refine ⟨_,rfl,szU 5,λp np=>?_⟩;refine ⟨p,_,rfl,.inl (SqL.of zg),rfl,rfl,_,rfl,?_⟩
  refine yB λdp ndp=>⟨zg,[(.inr "number",.str "wlnm"),(.inr "load",.str "wlrm"),(.inr "spread",.str "wlrm"),(.inr "copy",.str "wlsm"),(.inr "bring",.str "wlom")],rfl,(by decide),_,rfl,dp,_,rfl,DGet.k (k:=.inr "bring") zg,?_⟩;rw [yZ];exact k _ (by repeat (first | exact Same.refl _ | refine Same.up ?_ (by assumption)))
 ·refine ⟨_,rfl,szU 3,λp np=>?_⟩;refine ⟨p,_,rfl,.inl (SqL.of zg),rfl,rfl,_,rfl,?_⟩
  refine yB λdp ndp=>⟨zg,[(.inr "here",.str "wlm"),(.inr "reach",.str "wsnm"),(.inr "store",.str "wrsm")],rfl,(by decide),_,rfl,dp,_,rfl,DGet.k (k:=.inr "here") zg,?_⟩;rw [yZ];exact k _ (by repeat (first | exact Same.refl _ | refine Same.up ?_ (by assumption)))
 ·refine ⟨_,rfl,szU 3,λp np=>?_⟩;refine ⟨p,_,rfl,.inl (SqL.of zg),rfl,rfl,_,rfl,?_⟩
  refine yB λdp ndp=>⟨zg,[(.inr "here",.str "wlm"),(.inr "reach",.str "wsnm"),(.inr "store",.str "wrsm")],rfl,(by decide),_,rfl,dp,_,rfl,DGet.k (k:=.inr "reach") zg,?_⟩;rw [yZ];exact k _ (by repeat (first | exact Same.refl _ | refine Same.up ?_ (by assumption)))
 ·refine ⟨_,rfl,szU 3,λp np=>?_⟩;refine ⟨p,_,rfl,.inl (SqL.of zg),rfl,rfl,_,rfl,?_⟩
  refine yB λdp ndp=>⟨zg,[(.inr "here",.str "wlm"),(.inr "reach",.str "wsnm"),(.inr "store",.str "wrsm")],rfl,(by decide),_,rfl,dp,_,rfl,DGet.k (k:=.inr "store") zg,?_⟩;rw [yZ];exact k _ (by repeat (first | exact Same.refl _ | refine Same.up ?_ (by assumption)))
 ·refine ⟨_,rfl,szU 4,λp np=>?_⟩;refine ⟨p,_,rfl,.inl (SqL.of zg),rfl,rfl,_,rfl,?_⟩
  refine yB λdp ndp=>⟨zg,[(.inr "any",.str "wsm"),(.inr "trim",.str "w"),(.inr "stop",.str "wn"),(.inr "next",.str "w")],rfl,(by decide),_,rfl,dp,_,rfl,DGet.k (k:=.inr "any") zg,?_⟩;rw [yZ];exact k _ (by repeat (first | exact Same.refl _ | refine Same.up ?_ (by assumption)))
 ·refine ⟨_,rfl,szU 4,λp np=>?_⟩;refine ⟨p,_,rfl,.inl (SqL.of zg),rfl,rfl,_,rfl,?_⟩
  refine yB λdp ndp=>⟨zg,[(.inr "any",.str "wsm"),(.inr "trim",.str "w"),(.inr "stop",.str "wn"),(.inr "next",.str "w")],rfl,(by decide),_,rfl,dp,_,rfl,DGet.k (k:=.inr "trim") zg,?_⟩;rw [yZ];exact k _ (by repeat (first | exact Same.refl _ | refine Same.up ?_ (by assumption)))
 ·refine ⟨_,rfl,szU 4,λp np=>?_⟩;refine ⟨p,_,rfl,.inl (SqL.of zg),rfl,rfl,_,rfl,?_⟩
  refine yB λdp ndp=>⟨zg,[(.inr "any",.str "wsm"),(.inr "trim",.str "w"),(.inr "stop",.str "wn"),(.inr "next",.str "w")],rfl,(by decide),_,rfl,dp,_,rfl,DGet.k (k:=.inr "stop") zg,?_⟩;rw [yZ];exact k _ (by repeat (first | exact Same.refl _ | refine Same.up ?_ (by assumption)))
 ·refine ⟨_,rfl,szU 4,λp np=>?_⟩;refine ⟨p,_,rfl,.inl (SqL.of zg),rfl,rfl,_,rfl,?_⟩
  refine yB λdp ndp=>⟨zg,[(.inr "any",.str "wsm"),(.inr "trim",.str "w"),(.inr "stop",.str "wn"),(.inr "next",.str "w")],rfl,(by decide),_,rfl,dp,_,rfl,DGet.k (k:=.inr "next") zg,?_⟩;rw [yZ];exact k _ (by repeat (first | exact Same.refl _ | refine Same.up ?_ (by assumption)))
def ch_w:(⟨#[119]⟩:Str)="w":=by decide +kernel
def ch_x:(⟨#[120]⟩:Str)="x":=by decide +kernel
def ch_l:(⟨#[108]⟩:Str)="l":=by decide +kernel
def ch_s:(⟨#[115]⟩:Str)="s":=by decide +kernel
def ch_m:(⟨#[109]⟩:Str)="m":=by decide +kernel
def ch_k:(⟨#[107]⟩:Str)="k":=by decide +kernel
def ch_o:(⟨#[111]⟩:Str)="o":=by decide +kernel
def ch_r:(⟨#[114]⟩:Str)="r":=by decide +kernel
def ch_n:(⟨#[110]⟩:Str)="n":=by decide +kernel
theorem fits_at {se nr:Nat}:∀ {L:List Nat} {tv:Jm},fits se nr L tv->L.length=tv.length/\∀ (i c:Nat) v,L[i]?=some c->tv[i]?=some v->ZV se nr c v
 | [],[],_=>⟨rfl,λi c v e=>by cases e⟩
 | c::L,v::tv,h=>by
  obtain ⟨n,k⟩:=fits_at h.2;refine ⟨by rw [x0z,x0z,n],λi c' v' e f=>?_⟩
  cases i with
  | zero=>cases e;cases f;exact h.1
  | succ i=>exact k i c' v' e f
structure TyS (K:Fg) (mg:J0):Prop where
 isi:mg "isinstance"=none
 int:mg "int"=none
 str:mg "str"=none
 ss:PySem.W.kitOne K (.type "str") (.type "str")=some true
inductive spPa (vs:Jm) (H:Hp) (Q:VK) (_:XK):Prop
 | mk (c:Nat) (v:V) (se nr:Nat) (_:vs=[.str ⟨#[c]⟩,v,.int se,.int nr]) (_:ZV se nr c v) (_:∀ H',Same H H'->Q (.bl true) H')
def ok_part (d:zC K mg "_law_part" ZP ["_law_kind","_law_part_here","_law_seats","_law_rows"]) (T:TyS K mg) (WH:Ok P w K mg base (CXe P w base) 1 "_law_whole" ["_law_found"] (sp1 λ_=>.bl true)):Ok P w K mg base CX0 2 "_law_part" ["_law_kind","_law_part_here","_law_seats","_law_rows"] spPa:=by
 obtain ⟨g,fd,m,F,b⟩:=d;refine ⟨g,fd,m,F.kp,b,F.ok sc_l_part (by rintro vs H Q E ⟨_,_,_,_,e,_⟩;rw [e];rfl) λcdv A outer s H vs Q E hr h=>?_⟩;obtain ⟨c,v,se,nr,rfl,hp,k⟩:=h;have nd:=sc_l_part.nd;have hr1:=hr;have hisi:=T.isi;have hint:=T.int;have hstr:=T.str;have k0:=k H (Same.refl _)
 cases hp with
 | w s=>rw [ch_w];refine ⟨_,(zc (zu (yz (zi zx (pv 0) zh (zo _)) (yh (zi zx (pv 0) zh (zo _)))).pt (zf (zj (zw zB (by rfl) hisi PyProof.Rows.boot_isinstance (zb (pv 1) (zb (xj hstr PyProof.Rows.boot_str) ze))))) zk)
   (zc (zu (xi (yb (zG WH hr1 (by rfl) zW (zb (pv 1) ze)))) (zf (zj yF)) zk)
   (zc (zu (yz (zi zx (pv 0) zh (zo _)) (yh (zi zx (pv 0) zh (zo _)))).pt (zf (zj (zI z9 yd zd (pv 1) (pv 2)))) zk)
   (zc (zu (yz (zi zx (pv 0) zh (zo _)) (yh (zi zx (pv 0) zh (zo _)))).pt (zf (zj (zI z9 yd (yf yE (by rfl) hint PyProof.Rows.boot_int (zb (yn zx (pv 0) zh (zo _)) ze)) (pv 1) zd))) zk)
   (zc (zu (zi zx (pv 0) zh (zo _)) (zf (zj (zI z9 yd zd (pv 1) zd))) zk)
   (zc (zu (zi zx (pv 0) zh (zo _)) (zf (zj (zI z9 yd zd (pv 1) (pv 3)))) zk)
   (zf (zj yF)))))))),?_⟩;exact ⟨_,rfl,rfl,_,rfl,yB ⟨_,rfl,_,_,.type "str",.type "str",true,rfl,rfl,(λu r=>r),.inl (.str s),T.ss,k0⟩⟩
 | x s=>rw [ch_x];refine ⟨_,(zc (zu (yz (zi zx (pv 0) zh (zo _)) (yh (zi zx (pv 0) zh (zo _)))).pt (zf (zj (zw zB (by rfl) hisi PyProof.Rows.boot_isinstance (zb (pv 1) (zb (xj hstr PyProof.Rows.boot_str) ze))))) zk)
   (zc (zu (xi (yb (zG WH hr1 (by rfl) zW (zb (pv 1) ze)))) (zf (zj yF)) zk)
   (zc (zu (yz (zi zx (pv 0) zh (zo _)) (yh (zi zx (pv 0) zh (zo _)))).pt (zf (zj (zI z9 yd zd (pv 1) (pv 2)))) zk)
   (zc (zu (yz (zi zx (pv 0) zh (zo _)) (yh (zi zx (pv 0) zh (zo _)))).pt (zf (zj (zI z9 yd (yf yE (by rfl) hint PyProof.Rows.boot_int (zb (yn zx (pv 0) zh (zo _)) ze)) (pv 1) zd))) zk)
   (zc (zu (zi zx (pv 0) zh (zo _)) (zf (zj (zI z9 yd zd (pv 1) zd))) zk)
   (zc (zu (zi zx (pv 0) zh (zo _)) (zf (zj (zI z9 yd zd (pv 1) (pv 3)))) zk)
   (zf (zj yF)))))))),?_⟩;exact ⟨_,rfl,rfl,_,rfl,zU ⟨_,rfl,rfl,_,rfl,yB ⟨_,rfl,_,_,.type "str",.type "str",true,rfl,rfl,(λu r=>r),.inl (.str s),T.ss,k0⟩⟩⟩
 | l n h =>
  rw [ch_l];refine ⟨_,(zc (zu (yz (zi zx (pv 0) zh (zo _)) (yh (zi zx (pv 0) zh (zo _)))).pt (zf (zj (zw zB (by rfl) hisi PyProof.Rows.boot_isinstance (zb (pv 1) (zb (xj hstr PyProof.Rows.boot_str) ze))))) zk)
   (zc (zu (xi (yb (zG WH hr1 (by rfl) zW (zb (pv 1) ze)))) (zf (zj yF)) zk)
   (zc (zu (yz (zi zx (pv 0) zh (zo _)) (yh (zi zx (pv 0) zh (zo _)))).pt (zf (zj (zI z9 yd zd (pv 1) (pv 2)))) zk)
   (zc (zu (yz (zi zx (pv 0) zh (zo _)) (yh (zi zx (pv 0) zh (zo _)))).pt (zf (zj (zI z9 yd (yf yE (by rfl) hint PyProof.Rows.boot_int (zb (yn zx (pv 0) zh (zo _)) ze)) (pv 1) zd))) zk)
   (zc (zu (zi zx (pv 0) zh (zo _)) (zf (zj (zI z9 yd zd (pv 1) zd))) zk)
   (zc (zu (zi zx (pv 0) zh (zo _)) (zf (zj (zI z9 yd zd (pv 1) (pv 3)))) zk)
   (zf (zj yF)))))))),?_⟩
  refine ⟨_,rfl,rfl,_,rfl,zU ⟨_,rfl,rfl,_,rfl,zU ?_⟩⟩;refine ⟨_,rfl,_,rfl,true,rfl,zU ?_⟩;refine ⟨_,rfl,rfl,_,rfl,yB ?_⟩;refine ⟨_,rfl,_,_,rfl,rfl,_,rfl,?_⟩;refine z7 (λ_=>?_) (λz=>absurd (decide_eq_true (show (0:Int)<=(n:Int) by omega)) z);refine ⟨_,rfl,_,_,rfl,rfl,?_⟩;rw [decide_eq_true (show (n:Int)<(se:Int) by omega)];exact k0
 | s n h =>
  rw [ch_s];refine ⟨_,(zc (zu (yz (zi zx (pv 0) zh (zo _)) (yh (zi zx (pv 0) zh (zo _)))).pt (zf (zj (zw zB (by rfl) hisi PyProof.Rows.boot_isinstance (zb (pv 1) (zb (xj hstr PyProof.Rows.boot_str) ze))))) zk)
   (zc (zu (xi (yb (zG WH hr1 (by rfl) zW (zb (pv 1) ze)))) (zf (zj yF)) zk)
   (zc (zu (yz (zi zx (pv 0) zh (zo _)) (yh (zi zx (pv 0) zh (zo _)))).pt (zf (zj (zI z9 yd zd (pv 1) (pv 2)))) zk)
   (zc (zu (yz (zi zx (pv 0) zh (zo _)) (yh (zi zx (pv 0) zh (zo _)))).pt (zf (zj (zI z9 yd (yf yE (by rfl) hint PyProof.Rows.boot_int (zb (yn zx (pv 0) zh (zo _)) ze)) (pv 1) zd))) zk)
   (zc (zu (zi zx (pv 0) zh (zo _)) (zf (zj (zI z9 yd zd (pv 1) zd))) zk)
   (zc (zu (zi zx (pv 0) zh (zo _)) (zf (zj (zI z9 yd zd (pv 1) (pv 3)))) zk)
   (zf (zj yF)))))))),?_⟩
  refine ⟨_,rfl,rfl,_,rfl,zU ⟨_,rfl,rfl,_,rfl,zU ?_⟩⟩;refine ⟨_,rfl,_,rfl,true,rfl,zU ?_⟩;refine ⟨_,rfl,rfl,_,rfl,zU ⟨_,rfl,rfl,_,rfl,yB ?_⟩⟩;refine ⟨_,rfl,_,_,rfl,rfl,_,rfl,?_⟩;refine z7 (λ_=>?_) (λz=>absurd (decide_eq_true (show (0:Int)<=(n:Int) by omega)) z);refine ⟨_,rfl,_,_,rfl,rfl,?_⟩;rw [decide_eq_true (show (n:Int)<(se:Int) by omega)];exact k0
 | m n h =>
  rw [ch_m];refine ⟨_,(zc (zu (yz (zi zx (pv 0) zh (zo _)) (yh (zi zx (pv 0) zh (zo _)))).pt (zf (zj (zw zB (by rfl) hisi PyProof.Rows.boot_isinstance (zb (pv 1) (zb (xj hstr PyProof.Rows.boot_str) ze))))) zk)
   (zc (zu (xi (yb (zG WH hr1 (by rfl) zW (zb (pv 1) ze)))) (zf (zj yF)) zk)
   (zc (zu (yz (zi zx (pv 0) zh (zo _)) (yh (zi zx (pv 0) zh (zo _)))).pt (zf (zj (zI z9 yd zd (pv 1) (pv 2)))) zk)
   (zc (zu (yz (zi zx (pv 0) zh (zo _)) (yh (zi zx (pv 0) zh (zo _)))).pt (zf (zj (zI z9 yd (yf yE (by rfl) hint PyProof.Rows.boot_int (zb (yn zx (pv 0) zh (zo _)) ze)) (pv 1) zd))) zk)
   (zc (zu (zi zx (pv 0) zh (zo _)) (zf (zj (zI z9 yd zd (pv 1) zd))) zk)
   (zc (zu (zi zx (pv 0) zh (zo _)) (zf (zj (zI z9 yd zd (pv 1) (pv 3)))) zk)
   (zf (zj yF)))))))),?_⟩
  refine ⟨_,rfl,rfl,_,rfl,zU ⟨_,rfl,rfl,_,rfl,zU ?_⟩⟩;refine ⟨_,rfl,_,rfl,true,rfl,zU ?_⟩;refine ⟨_,rfl,rfl,_,rfl,zU ⟨_,rfl,rfl,_,rfl,zU ?_⟩⟩;refine ⟨_,rfl,rfl,_,rfl,yB ?_⟩;refine ⟨_,rfl,rfl,.inr ⟨_,rfl,?_⟩⟩;refine ⟨_,rfl,_,_,rfl,rfl,_,rfl,?_⟩;refine z7 (λ_=>?_) (λz=>absurd (decide_eq_true (show (0:Int)<=(n:Int) by omega)) z);refine ⟨_,_,rfl,rfl,?_⟩;rw [decide_eq_true (show (n:Int)<16 by omega)];exact k0
 | k n h h' =>
  rw [ch_k];refine ⟨_,(zc (zu (yz (zi zx (pv 0) zh (zo _)) (yh (zi zx (pv 0) zh (zo _)))).pt (zf (zj (zw zB (by rfl) hisi PyProof.Rows.boot_isinstance (zb (pv 1) (zb (xj hstr PyProof.Rows.boot_str) ze))))) zk)
   (zc (zu (xi (yb (zG WH hr1 (by rfl) zW (zb (pv 1) ze)))) (zf (zj yF)) zk)
   (zc (zu (yz (zi zx (pv 0) zh (zo _)) (yh (zi zx (pv 0) zh (zo _)))).pt (zf (zj (zI z9 yd zd (pv 1) (pv 2)))) zk)
   (zc (zu (yz (zi zx (pv 0) zh (zo _)) (yh (zi zx (pv 0) zh (zo _)))).pt (zf (zj (zI z9 yd (yf yE (by rfl) hint PyProof.Rows.boot_int (zb (yn zx (pv 0) zh (zo _)) ze)) (pv 1) zd))) zk)
   (zc (zu (zi zx (pv 0) zh (zo _)) (zf (zj (zI z9 yd zd (pv 1) zd))) zk)
   (zc (zu (zi zx (pv 0) zh (zo _)) (zf (zj (zI z9 yd zd (pv 1) (pv 3)))) zk)
   (zf (zj yF)))))))),?_⟩
  refine ⟨_,rfl,rfl,_,rfl,zU ⟨_,rfl,rfl,_,rfl,zU ?_⟩⟩;refine ⟨_,rfl,_,rfl,true,rfl,zU ?_⟩;refine ⟨_,rfl,rfl,_,rfl,zU ⟨_,rfl,rfl,_,rfl,zU ?_⟩⟩;refine ⟨_,rfl,rfl,_,rfl,zU ⟨_,rfl,rfl,_,rfl,yB ?_⟩⟩;refine ⟨_,rfl,rfl,.inr ⟨_,rfl,?_⟩⟩;refine ⟨_,rfl,_,_,rfl,rfl,_,rfl,?_⟩;refine z7 (λ_=>?_) (λz=>absurd (decide_eq_true (show (1:Int)<=(n:Int) by omega)) z);refine ⟨_,_,rfl,rfl,?_⟩;rw [decide_eq_true (show (n:Int)<16 by omega)];exact k0
 | o n h =>
  rw [ch_o];refine ⟨_,(zc (zu (yz (zi zx (pv 0) zh (zo _)) (yh (zi zx (pv 0) zh (zo _)))).pt (zf (zj (zw zB (by rfl) hisi PyProof.Rows.boot_isinstance (zb (pv 1) (zb (xj hstr PyProof.Rows.boot_str) ze))))) zk)
   (zc (zu (xi (yb (zG WH hr1 (by rfl) zW (zb (pv 1) ze)))) (zf (zj yF)) zk)
   (zc (zu (yz (zi zx (pv 0) zh (zo _)) (yh (zi zx (pv 0) zh (zo _)))).pt (zf (zj (zI z9 yd zd (pv 1) (pv 2)))) zk)
   (zc (zu (yz (zi zx (pv 0) zh (zo _)) (yh (zi zx (pv 0) zh (zo _)))).pt (zf (zj (zI z9 yd (yf yE (by rfl) hint PyProof.Rows.boot_int (zb (yn zx (pv 0) zh (zo _)) ze)) (pv 1) zd))) zk)
   (zc (zu (zi zx (pv 0) zh (zo _)) (zf (zj (zI z9 yd zd (pv 1) zd))) zk)
   (zc (zu (zi zx (pv 0) zh (zo _)) (zf (zj (zI z9 yd zd (pv 1) (pv 3)))) zk)
   (zf (zj yF)))))))),?_⟩
  refine ⟨_,rfl,rfl,_,rfl,zU ⟨_,rfl,rfl,_,rfl,zU ?_⟩⟩;refine ⟨_,rfl,_,rfl,true,rfl,zU ?_⟩;refine ⟨_,rfl,rfl,_,rfl,zU ⟨_,rfl,rfl,_,rfl,zU ?_⟩⟩;refine ⟨_,rfl,rfl,_,rfl,zU ⟨_,rfl,rfl,_,rfl,zU ?_⟩⟩;refine ⟨_,rfl,rfl,_,rfl,yB ?_⟩;refine ⟨_,rfl,_,_,rfl,rfl,_,rfl,?_⟩;refine z7 (λ_=>?_) (λz=>absurd (decide_eq_true (show (0:Int)<=(n:Int) by omega)) z);refine ⟨_,_,rfl,rfl,?_⟩;rw [decide_eq_true (show (n:Int)<60 by omega)];exact k0
 | r i h h' =>
  rw [ch_r];refine ⟨_,(zc (zu (yz (zi zx (pv 0) zh (zo _)) (yh (zi zx (pv 0) zh (zo _)))).pt (zf (zj (zw zB (by rfl) hisi PyProof.Rows.boot_isinstance (zb (pv 1) (zb (xj hstr PyProof.Rows.boot_str) ze))))) zk)
   (zc (zu (xi (yb (zG WH hr1 (by rfl) zW (zb (pv 1) ze)))) (zf (zj yF)) zk)
   (zc (zu (yz (zi zx (pv 0) zh (zo _)) (yh (zi zx (pv 0) zh (zo _)))).pt (zf (zj (zI z9 yd zd (pv 1) (pv 2)))) zk)
   (zc (zu (yz (zi zx (pv 0) zh (zo _)) (yh (zi zx (pv 0) zh (zo _)))).pt (zf (zj (zI z9 yd (yf yE (by rfl) hint PyProof.Rows.boot_int (zb (yn zx (pv 0) zh (zo _)) ze)) (pv 1) zd))) zk)
   (zc (zu (zi zx (pv 0) zh (zo _)) (zf (zj (zI z9 yd zd (pv 1) zd))) zk)
   (zc (zu (zi zx (pv 0) zh (zo _)) (zf (zj (zI z9 yd zd (pv 1) (pv 3)))) zk)
   (zf (zj yF)))))))),?_⟩
  refine ⟨_,rfl,rfl,_,rfl,zU ⟨_,rfl,rfl,_,rfl,zU ?_⟩⟩;refine ⟨_,rfl,_,rfl,true,rfl,zU ?_⟩;refine ⟨_,rfl,rfl,_,rfl,zU ⟨_,rfl,rfl,_,rfl,zU ?_⟩⟩;refine ⟨_,rfl,rfl,_,rfl,zU ⟨_,rfl,rfl,_,rfl,zU ?_⟩⟩;refine ⟨_,rfl,rfl,_,rfl,zU ?_⟩;refine ⟨_,rfl,rfl,_,rfl,yB ?_⟩;refine ⟨_,rfl,_,_,rfl,rfl,_,rfl,?_⟩;refine z7 (λ_=>?_) (λz=>absurd (decide_eq_true (show (0:Int)<=i from h)) z);refine ⟨_,rfl,_,_,rfl,rfl,?_⟩;rw [decide_eq_true (show i<(nr:Int) by omega)];exact k0
 | n i =>
  rw [ch_n];refine ⟨_,(zc (zu (yz (zi zx (pv 0) zh (zo _)) (yh (zi zx (pv 0) zh (zo _)))).pt (zf (zj (zw zB (by rfl) hisi PyProof.Rows.boot_isinstance (zb (pv 1) (zb (xj hstr PyProof.Rows.boot_str) ze))))) zk)
   (zc (zu (xi (yb (zG WH hr1 (by rfl) zW (zb (pv 1) ze)))) (zf (zj yF)) zk)
   (zc (zu (yz (zi zx (pv 0) zh (zo _)) (yh (zi zx (pv 0) zh (zo _)))).pt (zf (zj (zI z9 yd zd (pv 1) (pv 2)))) zk)
   (zc (zu (yz (zi zx (pv 0) zh (zo _)) (yh (zi zx (pv 0) zh (zo _)))).pt (zf (zj (zI z9 yd (yf yE (by rfl) hint PyProof.Rows.boot_int (zb (yn zx (pv 0) zh (zo _)) ze)) (pv 1) zd))) zk)
   (zc (zu (zi zx (pv 0) zh (zo _)) (zf (zj (zI z9 yd zd (pv 1) zd))) zk)
   (zc (zu (zi zx (pv 0) zh (zo _)) (zf (zj (zI z9 yd zd (pv 1) (pv 3)))) zk)
   (zf (zj yF)))))))),?_⟩
  refine ⟨_,rfl,rfl,_,rfl,zU ⟨_,rfl,rfl,_,rfl,zU ?_⟩⟩;refine ⟨_,rfl,_,rfl,true,rfl,zU ?_⟩;refine ⟨_,rfl,rfl,_,rfl,zU ⟨_,rfl,rfl,_,rfl,zU ?_⟩⟩;refine ⟨_,rfl,rfl,_,rfl,zU ⟨_,rfl,rfl,_,rfl,zU ?_⟩⟩;refine ⟨_,rfl,rfl,_,rfl,zU ?_⟩;refine ⟨_,rfl,rfl,_,rfl,zU ?_⟩;exact k0
def lay_t:(PyData.tuple [.str "turns"]).canLay0=true/\(PyData.tuple [.str "quiet"]).canLay0=true:=by
 constructor <;> (simp [PyData.canLay0,PyData.canLayAll0];try decide +kernel)
def dep_t (s:Str):(PyData.tuple [.str s]).depth<=64:=by simp [PyData.depth,PyData.depthAll]
def eqv_t:(PyData.tuple [.str "turns"]).eqv (.tuple [.str "turns"])=true/\(PyData.tuple [.str "quiet"]).eqv (.tuple [.str "turns"])=false/\(PyData.tuple [.str "quiet"]).eqv (.tuple [.str "quiet"])=true:=by
 refine ⟨?_,?_,?_⟩ <;> (simp [PyData.eqv,PyData.eqvAll];try decide +kernel)
def InR (se nr:Nat) (tv:Jm):Prop:=∃ (wd:Str) (L:List Nat) (r:Jm),tv=.str wd::r/\(wd,L)∈(ZY++[((("next":String):Str),[119])]:List (Str×List Nat))/\fits se nr L tv
inductive spIR (K:Fg) (vs:Jm) (H:Hp) (Q:VK) (_:XK):Prop
 | mk (t:Ad) (tv:Jm) (se nr:Nat) (_:vs=[.ref t,.int se,.int nr]) (_:SqT K H t tv) (_:InR se nr tv) (_:∀ H',Same H H'->Q (.bl true) H')
def zad (d:zC K mg "_law_in_round" xA ["_law_step","_law_seats","_law_rows"]) (hlen:mg "len"=none) (hrg:mg "range"=none) (SH:Ok P w K mg base CX0 1 "_law_shape" ["_law_word"] spSh) (PA:Ok P w K mg base CX0 2 "_law_part" ["_law_kind","_law_part_here","_law_seats","_law_rows"] spPa):Ok P w K mg base CX0 3 "_law_in_round" ["_law_step","_law_seats","_law_rows"] (spIR K):=by
 obtain ⟨g,fd,m,F,b⟩:=d;refine ⟨g,fd,m,F.kp,b,F.ok sc_l_in_round (by rintro vs H Q E ⟨_,_,_,_,e,_⟩;rw [e];rfl) λcdv A outer s H vs Q E hr h=>?_⟩;obtain ⟨t,tv,se,nr,rfl,hT,⟨wd,L,r,rfl,hm,hf⟩,k⟩:=h;have nd:=sc_l_in_round.nd;have hr2:=hr;have hr1:Room 1 _:=hr.mono (by decide);obtain ⟨h1,h2⟩:=sh_ok _ hm;have h2:(shF wd).cps.toList=L:=h2;obtain ⟨ln,la⟩:=fits_at hf;have L6:∀ p∈(ZY++[((("next":String):Str),[119])]:List (Str×List Nat)),p.2.length<=6:=by decide
 have l6:L.length<=6:=L6 _ hm;have sl:(shF wd).length=L.length:=by rw [← h2];simp [Str.length]
 refine ⟨_,(zc (zA (i:=3) nd rfl (Or.inl rfl) (zG SH hr1 (by rfl) zJ (zb (zP yj (pv 0) zd (λ_ _=>rfl)) ze)))
   (zc (zu (zi YR (zw Xu (by rfl) hlen PySem.boot_len (zb (pv 3) ze)) (zw zH (by rfl) hlen PySem.boot_len (zb (pv 0) ze)) (zo _)) (zf (zj yF)) zk)
   (zc (ZK PassesOwn.never rfl (YQ rfl hrg (zb (zw zH (by rfl) hlen PySem.boot_len (zb (pv 0) ze)) ze)) (xD (i:=4) nd rfl (Or.inl rfl)) (zf (zu (xi (yb (zG PA hr2 (by rfl) zJ (zb (zP ix_str (pv 3) (pv 4) (λ_ _=>rfl)) (zb (zP yj (pv 0) (pv 4) (λ_ _=>rfl)) (zb (pv 1) (zb (pv 2) ze))))))) (zf (zj yF)) zk)))
   (zf (zj yF))))),?_⟩
 refine ⟨_,rfl,t,_,_,_,rfl,rfl,hT,zE (j:=0) rfl,wd,shF wd,rfl,h1,λH1 s1=>?_⟩;have hT1:=F2.sqt_same hT s1;refine ⟨_,rfl,shF wd,rfl,(by rw [sl];exact Nat.le_trans l6 (szU 6)),_,rfl,t,_,rfl,.inr hT1,rfl,_,rfl,?_⟩;have el:(!decide (V.int ((shF wd).length:Int)=V.int ((V.str wd::r).length:Int)))=false:=by rw [sl,ln,decide_eq_true rfl];rfl
 rw [el];refine zU ?_;have tl:(V.str wd::r).length<=6:=by rw [← ln];exact l6
 refine ⟨_,rfl,t,_,rfl,.inr hT1,_,rfl,by omega,by omega,?_⟩;refine YX (n:=((V.str wd::r).length:Int).toNat) (λi σ J=>∃ u:Jn,σ=[some (.ref t),some (.int se),some (.int nr),some (.str (shF wd)),u]/\Same H J) ⟨none,rfl,s1⟩ ?_ ?_
 ·rintro i σ J hi ⟨u,rfl,sJ⟩
  rw [Int.toNat_natCast] at hi;obtain ⟨v,ev⟩:∃ v,(V.str wd::r)[i]?=some v:=⟨_,List.getElem?_eq_getElem hi⟩;obtain ⟨c,ec⟩:∃ c,L[i]?=some c:=⟨_,List.getElem?_eq_getElem (by rw [ln];exact hi)⟩;have hp:=la i c v ec ev;have e0:(0:Int)+(i:Int)=((i:Nat):Int):=by omega
  rw [e0];refine ⟨_,rfl,_,rfl,shF wd,_,c,rfl,rfl,(by rw [sl];exact Nat.le_trans l6 (szU 6)),zE (by rw [h2];exact ec),_,rfl,_,rfl,t,_,_,v,rfl,rfl,F2.sqt_same hT sJ,zE ev,_,rfl,_,rfl,c,v,se,nr,rfl,hp,λJ2 s2=>?_⟩;exact ⟨true,rfl,zU ⟨_,rfl,sJ.trans s2⟩⟩
 ·rintro σ J ⟨u,rfl,sJ⟩
  exact k J sJ
inductive spOu (K:Fg) (vs:Jm) (H:Hp) (Q:VK) (_:XK):Prop
 | mk (t:Ad) (tv:Jm) (gp nr tt s1 t1:Nat) (count:Int) (_:vs=[.ref t,.int count]) (_:SqT K H t tv) (_:Step1 gp nr count 0 tt tv s1 t1) (_:∀ H',Same H H'->Q (.bl true) H')
def zab (d:zC K mg "_law_outside" xQ ["_law_step","_law_count"]) (hlen:mg "len"=none) (WH:Ok P w K mg base (CXe P w base) 1 "_law_whole" ["_law_found"] (sp1 λ_=>.bl true)):Ok P w K mg base CX0 2 "_law_outside" ["_law_step","_law_count"] (spOu K):=by
 obtain ⟨g,fd,m,F,b⟩:=d;refine ⟨g,fd,m,F.kp,b,F.ok sc_l_outside (by rintro vs H Q E ⟨_,_,_,_,_,_,_,_,e,_⟩;rw [e];rfl) λcdv A outer s H vs Q E hr h=>?_⟩;obtain ⟨t,tv,gp,nr,tt,s1,t1,count,rfl,hT,st,k⟩:=h;have nd:=sc_l_outside.nd;have hr1:=hr;have hu:=hr.units;refine ⟨_,(zc (zu (zi zx (zP yj (pv 0) zd (λ_ _=>rfl)) zh (zo _)) (zf (zj (x9 (yn zx (zw zH (by rfl) hlen PySem.boot_len (zb (pv 0) ze)) zd (zo _)) (x9 (zG WH hr1 (by rfl) zW (zb (zP yj (pv 0) zd (λ_ _=>rfl)) ze)) (x9 (zI z9 z9 zd (zP yj (pv 0) zd (λ_ _=>rfl)) zd) (Zu (yn yX (zP yj (pv 0) zd (λ_ _=>rfl)) (zQ (zb zd (zb zd (zb zd ze)))) rfl))))))) zk)
   (zc (zu (zi zx (zP yj (pv 0) zd (λ_ _=>rfl)) zh (zo _)) (zf (zj (x9 (yn zx (zw zH (by rfl) hlen PySem.boot_len (zb (pv 0) ze)) zd (zo _)) (x9 (zG WH hr1 (by rfl) zW (zb (zP yj (pv 0) zd (λ_ _=>rfl)) ze)) (x9 (zI z9 z9 zd (zP yj (pv 0) zd (λ_ _=>rfl)) zd) (Zu (zI z9 yd zd (zP yj (pv 0) zd (λ_ _=>rfl)) (pv 1)))))))) zk)
   (zf (zj (pe_or (yn (op_eqD hu) (pv 0) (zR (zb zh ze)) (zo _)) (Zu (yn (op_eqD hu) (pv 0) (zR (zb zh ze)) (zo _)))))))),?_⟩
 cases st with
 | rnd h _=>exact absurd h (Nat.lt_irrefl _)
 | nxt h=>exact absurd h (Nat.lt_irrefl _)
 | @beg _ g mn_ h1 h2 hg hgr =>
  refine ⟨_,rfl,t,_,_,_,rfl,rfl,hT,zE (j:=0) rfl,rfl,_,rfl,yB ?_⟩;refine ⟨_,rfl,t,_,rfl,.inr hT,rfl,true,rfl,yB ?_⟩;refine ⟨_,rfl,t,_,_,_,rfl,rfl,hT,zE (j:=1) rfl,mn_,rfl,true,rfl,yB ?_⟩;refine ⟨_,rfl,t,_,_,_,rfl,rfl,hT,zE (j:=1) rfl,_,_,rfl,rfl,_,rfl,z7 (λ_=>?_) (λz=>absurd (decide_eq_true h1) z)⟩;refine ⟨_,_,rfl,rfl,true,congrArg V.bl (decide_eq_true h2),yB ?_⟩;refine ⟨_,rfl,t,_,_,_,rfl,rfl,hT,zE (j:=2) rfl,szU 3,λp np=>?_⟩;refine ⟨p,_,rfl,.inl (SqL.of zg),rfl,rfl,?_⟩;have e:inV (V.int (g:Int)) [V.int 1,V.int 2,V.int 4]=true:=by rcases hg with e | e | e <;> subst e <;> rfl
  show Q (V.bl (inV (V.int (g:Int)) [V.int 1,V.int 2,V.int 4])) _;rw [e];exact k _ (zN (Same.refl _) np)
 | turns =>
  refine ⟨_,rfl,t,_,_,_,rfl,rfl,hT,zE (j:=0) rfl,rfl,_,rfl,zU ?_⟩;refine ⟨_,rfl,t,_,_,_,rfl,rfl,hT,zE (j:=0) rfl,rfl,_,rfl,zU ?_⟩;refine ⟨_,rfl,szU 1,λp np=>?_⟩;refine ⟨.tuple [.str "turns"],.tuple [.str "turns"],.tup (F2.sqt_same hT (zN (Same.refl _) np)) (.cons (.str _) .nil),.tup (SqT.of zg) (.cons (.str _) .nil),lay_t.1,lay_t.1,dep_t _,?_⟩;refine ⟨true,congrArg V.bl eqv_t.1,yB ?_⟩;exact k _ (zN (Same.refl _) np)
 | quiet =>
  refine ⟨_,rfl,t,_,_,_,rfl,rfl,hT,zE (j:=0) rfl,rfl,_,rfl,zU ?_⟩;refine ⟨_,rfl,t,_,_,_,rfl,rfl,hT,zE (j:=0) rfl,rfl,_,rfl,zU ?_⟩;refine ⟨_,rfl,szU 1,λp np=>?_⟩;refine ⟨.tuple [.str "quiet"],.tuple [.str "turns"],.tup (F2.sqt_same hT (zN (Same.refl _) np)) (.cons (.str _) .nil),.tup (SqT.of zg) (.cons (.str _) .nil),lay_t.2,lay_t.1,dep_t _,?_⟩;refine ⟨false,congrArg V.bl eqv_t.2.1,zU ?_⟩;refine ⟨_,rfl,szU 1,λp2 np2=>?_⟩;have s2:=(zN (o:=.tup [.str "turns"]) (Same.refl _) np).trans (zN (o:=.tup [.str "quiet"]) (Same.refl _) np2);refine ⟨.tuple [.str "quiet"],.tuple [.str "quiet"],.tup (F2.sqt_same hT s2) (.cons (.str _) .nil),.tup (SqT.of zg) (.cons (.str _) .nil),lay_t.2,lay_t.2,dep_t _,?_⟩;show Q (V.bl (id _)) _;rw [show id ((PyData.tuple [.str "quiet"]).eqv (.tuple [.str "quiet"]))=true from eqv_t.2.2];exact k _ s2
 | @till _ most kk h1 h2 h3 h4 =>
  refine ⟨_,rfl,t,_,_,_,rfl,rfl,hT,zE (j:=0) rfl,rfl,_,rfl,zU ?_⟩;refine ⟨_,rfl,t,_,_,_,rfl,rfl,hT,zE (j:=0) rfl,rfl,_,rfl,yB ?_⟩;refine ⟨_,rfl,t,_,rfl,.inr hT,rfl,true,rfl,yB ?_⟩;refine ⟨_,rfl,t,_,_,_,rfl,rfl,hT,zE (j:=1) rfl,most,rfl,true,rfl,yB ?_⟩;refine ⟨_,rfl,t,_,_,_,rfl,rfl,hT,zE (j:=1) rfl,_,_,rfl,rfl,_,rfl,z7 (λ_=>?_) (λz=>absurd (decide_eq_true h1) z)⟩;refine ⟨_,_,rfl,rfl,true,congrArg V.bl (decide_eq_true h2),yB ?_⟩;refine ⟨_,rfl,t,_,_,_,rfl,rfl,hT,zE (j:=2) rfl,_,_,rfl,rfl,_,rfl,z7 (λ_=>?_) (λz=>absurd (decide_eq_true h3) z)⟩;refine ⟨_,rfl,_,_,rfl,rfl,?_⟩;rw [decide_eq_true h4];exact k H (Same.refl _)
def Scan.split {gp nr:Nat} {count:Int} {s t s2 t2:Nat} {tv:Jm} {r:List (Jm)} (h:Scan gp nr count s t (tv::r) s2 t2):∃ s1 t1,Step1 gp nr count s t tv s1 t1/\Scan gp nr count s1 t1 r s2 t2:=by
 cases h with
 | cons h k=>exact ⟨_,_,h,k⟩
structure TyL (K:Fg) (mg:J0):Prop where
 isi:mg "isinstance"=none
 int:mg "int"=none
 tup:mg "tuple"=none
 lst:mg "list"=none
 tt:PySem.W.kitOne K (.type "tuple") (.type "tuple")=some true
 ll:PySem.W.kitOne K (.type "list") (.type "list")=some true
def step_cons {gp nr:Nat} {count:Int} {s t s1 t1:Nat} {tv:Jm} (h:Step1 gp nr count s t tv s1 t1):∃ (wd:Str) (r:Jm),tv=.str wd::r:=by
 cases h with
 | rnd _ g=>obtain ⟨wd,L,r,e,_⟩:=g.ex;exact ⟨wd,r,e⟩
 | nxt=>exact ⟨_,_,rfl⟩
 | beg=>exact ⟨_,_,rfl⟩
 | turns=>exact ⟨_,_,rfl⟩
 | quiet=>exact ⟨_,_,rfl⟩
 | till=>exact ⟨_,_,rfl⟩
inductive spLC (K:Fg) (vs:Jm) (H:Hp) (Q:VK) (_:XK):Prop
 | mk (l:Ad) (cs:Jf) (code:List (Jm)) (gp nr:Nat) (count:Int) (_:vs=[.ref l,.int gp,.int nr,.int count]) (_:H l=some (.lst (cs.map V.ref))) (_:CodeAt H cs code) (_:Scan gp nr count 0 0 code 0 0) (_:∀ H',Same H H'->Q (.bl true) H')
def ok_lcode (d:zC K mg "_law_code" ZQ ["_law_code_here","_law_group","_law_rows","_law_count"]) (hlen:mg "len"=none) (T:TyL K mg) (IR:Ok P w K mg base CX0 3 "_law_in_round" ["_law_step","_law_seats","_law_rows"] (spIR K)) (OU:Ok P w K mg base CX0 2 "_law_outside" ["_law_step","_law_count"] (spOu K)):Ok P w K mg base CX0 4 "_law_code" ["_law_code_here","_law_group","_law_rows","_law_count"] (spLC K):=by
 obtain ⟨g,fd,m,F,b⟩:=d;refine ⟨g,fd,m,F.kp,b,F.ok sc_l_code (by rintro vs H Q E ⟨_,_,_,_,_,_,e,_⟩;rw [e];rfl) λcdv A outer s H vs Q E hr h=>?_⟩;obtain ⟨l,cs,code,gp,nr,count,rfl,el,hc,sc,k⟩:=h;have nd:=sc_l_code.nd;have hr3:=hr;have hr2:Room 2 _:=hr.mono (by decide);have hisi:=T.isi;have hint:=T.int;have htup:=T.tup;refine ⟨_,(zc (zA (i:=4) nd rfl (Or.inl rfl) zd)
   (zc (zA (i:=5) nd rfl (Or.inl rfl) zd)
   (zc (ZK PassesOwn.never rfl (Zl (pv 0)) (xD (i:=6) nd rfl (Or.inl rfl)) (zc (yQ (zu (yz (xi (yb (zw zB (by rfl) hisi PyProof.Rows.boot_isinstance (zb (pv 6) (zb (xj htup PyProof.Rows.boot_tuple) ze))))) (yh (zi zx (zw zH (by rfl) hlen PySem.boot_len (zb (pv 6) ze)) zd (zo _)))).pt (zf (zj yF)) zk))
   (zf (zu (zi YS (pv 4) zd (zo _)) (zc (zu (xi (yb (zG IR hr3 (by rfl) zJ (zb (pv 6) (zb (pv 4) (zb (pv 2) ze)))))) (zf (zj yF)) zk)
   (zf (zu (zi zx (zP yj (pv 6) zd (λ_ _=>rfl)) zh (zo _)) (zf (zA (i:=4) nd rfl (Or.inl rfl) zd)) zk))) (zf (zu (xi (yb (zG OU hr2 (by rfl) zJ (zb (pv 6) (zb (pv 3) ze))))) (zf (zj yF)) (zf (zu (zi zx (zP yj (pv 6) zd (λ_ _=>rfl)) zh (zo _)) (zc (zA (i:=4) nd rfl (Or.inl rfl) (zr XL zd (zP yj (pv 6) zd (λ_ _=>rfl))))
   (zf (zu (Z1 (zi YR (pv 1) zd (zo _)) (ZR (zi YR (zP yj (pv 6) zd (λ_ _=>rfl)) (pv 1) (zo _)))).pt (zf (zj yF)) zk))) (zc (zA (i:=5) nd rfl (Or.inl rfl) (zr yM (zr zZ (pv 5) (yf yE (by rfl) hint PyProof.Rows.boot_int (zb (yn zx (zP yj (pv 6) zd (λ_ _=>rfl)) zh (zo _)) ze))) (yf yE (by rfl) hint PyProof.Rows.boot_int (zb (yn zx (zP yj (pv 6) zd (λ_ _=>rfl)) zh (zo _)) ze))))
   (zf (zu (zi yd (pv 5) zd (zo _)) (zf (zj yF)) zk)))))))))))
   (zf (zj (x9 (yn zx (pv 4) zd (zo _)) (Zu (yn zx (pv 5) zd (zo _))))))))),?_⟩
 refine ⟨_,rfl,l,rfl,⟨_,SqL.of el⟩,?_⟩;refine Zw (K:=K) (a:=l) (xs:=cs.map V.ref) (λi σ J=>∃ (u:Jn) (se t:Nat),σ=[rq l,iq gp,iq nr,iq count,iq se,iq t,u]/\Same H J/\Scan gp nr count se t (code.drop i) 0 0) ⟨none,0,0,rfl,Same.refl _,sc⟩ (λi σ J _ ⟨_,_,_,_,s,_⟩=>SqL.of (s _ _ el)) ?_ ?_
 ·rintro i y σ J hi ⟨u,se,t,rfl,sJ,hs⟩
  obtain ⟨x,ex,rfl⟩:=ZM hi;have il:i<code.length:=by rw [← hc.n];exact (List.getElem?_eq_some_iff.mp ex).1
  rw [List.drop_eq_getElem_cons il] at hs;have eT:=sJ _ _ (hc.t i x _ ex (List.getElem?_eq_getElem il));generalize code[i]=tv at hs eT;obtain ⟨s1,t1,st,rest⟩:=hs.split;clear hs;obtain ⟨wd,r,rfl⟩:=step_cons st;have hT:SqT K J x (.str wd::r):=SqT.of eT;refine ⟨λσ' J'=>σ'=[rq l,iq gp,iq nr,iq count,iq se,iq t,rq x]/\J'=J,?_,?_⟩
  ·refine ⟨_,rfl,_,_,.type "tuple",.type "tuple",true,rfl,rfl,(λu r=>r),.inl (.tup eT),T.tt,true,rfl,?_⟩
   refine zU ?_;refine ⟨_,rfl,x,_,rfl,.inr hT,rfl,false,congrArg V.bl (decide_eq_false (λe=>by have:=V.int.inj e;rw [x0z] at this;omega)),zU ⟨rfl,rfl⟩⟩
  rintro σ' J' ⟨rfl,rfl⟩;refine ⟨_,rfl,_,_,rfl,rfl,_,rfl,z7 (λz=>?_) (λz=>?_)⟩
  ·have z:0<se:=by have:(0:Int)<(se:Int):=of_decide_eq_true z;omega
   obtain ⟨inr,hn⟩:InR se nr (.str wd::r)/\((wd="next"/\s1=0/\t1=t)∨(wd≠"next"/\s1=se/\t1=t)):=by
    cases st with
    | rnd h g =>
     have nn:=good_nn g;obtain ⟨wd',L,r',e,mm,f⟩:=g.ex;exact ⟨⟨wd',L,r',e,List.mem_append_left _ mm,f⟩,.inr ⟨λe=>nn (by rw [e];rfl),rfl,rfl⟩⟩
    | nxt h=>exact ⟨⟨_,_,_,rfl,x0x _ (List.mem_singleton.mpr rfl),⟨.w _,trivial⟩⟩,.inl ⟨rfl,rfl,rfl⟩⟩
    | beg=>exact absurd z (Nat.lt_irrefl _)
    | turns=>exact absurd z (Nat.lt_irrefl _)
    | quiet=>exact absurd z (Nat.lt_irrefl _)
    | till=>exact absurd z (Nat.lt_irrefl _)
   refine ⟨_,rfl,_,rfl,_,rfl,x,_,se,nr,rfl,hT,inr,λJ2 s2=>⟨true,rfl,zU ?_⟩⟩;refine ⟨_,rfl,x,_,_,_,rfl,rfl,F2.sqt_same hT s2,zE (j:=0) rfl,rfl,_,rfl,?_⟩;rcases hn with ⟨e,e1,e2⟩ | ⟨e,e1,e2⟩
   ·subst e e1 e2
    exact yB ⟨_,0,_,rfl,sJ.trans s2,rest⟩
   ·subst e1 e2
    rw [decide_eq_false (λy=>e (V.str.inj y))];exact zU ⟨_,_,_,rfl,sJ.trans s2,rest⟩
  ·have z:se=0:=by have:¬ (0:Int)<(se:Int):=λy=>z (decide_eq_true y);omega
   subst z;refine ⟨_,rfl,_,rfl,x,_,gp,nr,t,s1,t1,count,rfl,hT,st,λJ2 s2=>⟨true,rfl,zU ?_⟩⟩;have hT2:=F2.sqt_same hT s2;have fin:∀ {σ:St},σ=[rq l,iq gp,iq nr,iq count,iq s1,iq t1,rq x]->∃ (u:Jn) (se t:Nat),σ=[rq l,iq gp,iq nr,iq count,iq se,iq t,u]/\Same H J2/\Scan gp nr count se t (code.drop (i+1)) 0 0:=λ{σ} e=>⟨_,s1,t1,e,sJ.trans s2,rest⟩
   cases st with
   | rnd h _=>exact absurd h (Nat.lt_irrefl _)
   | nxt h=>exact absurd h (Nat.lt_irrefl _)
   | @beg _ g mn_ h1 h2 hg hgr =>
    refine ⟨_,rfl,x,_,_,_,rfl,rfl,hT2,zE (j:=0) rfl,rfl,_,rfl,yB ?_⟩;refine ⟨_,rfl,x,_,_,_,rfl,rfl,hT2,zE (j:=2) rfl,_,_,rfl,rfl,⟨by omega,by omega,by omega⟩,?_⟩;have eg:(8:Int).fdiv (g:Int)=((8 / g:Nat):Int):=by rcases hg with e | e | e <;> subst e <;> rfl
    rw [eg];refine ⟨_,rfl,rfl,_,rfl,z7 (λz=>⟨_,rfl,x,_,_,_,rfl,rfl,hT2,zE (j:=2) rfl,_,rfl,rfl,_,rfl,z7 (λz'=>?_) (λz'=>fin rfl)⟩) (λz=>zU (fin rfl))⟩;exfalso;rcases hgr with e | e
    ·rw [e] at z;exact absurd z (by decide)
    ·rw [e,decide_eq_true rfl] at z';exact absurd z' (by decide)
   | turns =>
    refine ⟨_,rfl,x,_,_,_,rfl,rfl,hT2,zE (j:=0) rfl,rfl,_,rfl,zU ?_⟩;refine ⟨_,rfl,_,rfl,x,_,_,_,rfl,rfl,hT2,zE (j:=0) rfl,rfl,.inr ⟨_,rfl,_,_,rfl,rfl,?_⟩⟩;refine ⟨_,rfl,x,_,_,_,rfl,rfl,hT2,zE (j:=0) rfl,rfl,.inr ⟨_,rfl,_,_,rfl,rfl,?_⟩⟩;have e:(t:Int)+(if decide (V.str "turns"=V.str "turns")=true then 1 else 0)-(if decide (V.str "turns"=V.str "till")=true then 1 else 0)=((t+1:Nat):Int):=by show (t:Int)+1-0=_;omega
    rw [e];exact ⟨_,rfl,_,_,rfl,rfl,_,rfl,z7 (λz=>absurd (of_decide_eq_true z) (by omega)) (λz=>fin rfl)⟩
   | quiet =>
    refine ⟨_,rfl,x,_,_,_,rfl,rfl,hT2,zE (j:=0) rfl,rfl,_,rfl,zU ?_⟩;refine ⟨_,rfl,_,rfl,x,_,_,_,rfl,rfl,hT2,zE (j:=0) rfl,rfl,.inr ⟨_,rfl,_,_,rfl,rfl,?_⟩⟩;refine ⟨_,rfl,x,_,_,_,rfl,rfl,hT2,zE (j:=0) rfl,rfl,.inr ⟨_,rfl,_,_,rfl,rfl,?_⟩⟩;have e:(t:Int)+(if decide (V.str "quiet"=V.str "turns")=true then 1 else 0)-(if decide (V.str "quiet"=V.str "till")=true then 1 else 0)=((t:Nat):Int):=by show (t:Int)+0-0=_;omega
    rw [e];exact ⟨_,rfl,_,_,rfl,rfl,_,rfl,z7 (λz=>absurd (of_decide_eq_true z) (by omega)) (λz=>fin rfl)⟩
   | @till _ most kk h1 h2 h3 h4 =>
    refine ⟨_,rfl,x,_,_,_,rfl,rfl,hT2,zE (j:=0) rfl,rfl,_,rfl,zU ?_⟩;refine ⟨_,rfl,_,rfl,x,_,_,_,rfl,rfl,hT2,zE (j:=0) rfl,rfl,.inr ⟨_,rfl,_,_,rfl,rfl,?_⟩⟩;refine ⟨_,rfl,x,_,_,_,rfl,rfl,hT2,zE (j:=0) rfl,rfl,.inr ⟨_,rfl,_,_,rfl,rfl,?_⟩⟩;have e:((t1+1:Nat):Int)+(if decide (V.str "till"=V.str "turns")=true then 1 else 0)-(if decide (V.str "till"=V.str "till")=true then 1 else 0)=((t1:Nat):Int):=by show ((t1+1:Nat):Int)+0-1=_;omega
    rw [e];exact ⟨_,rfl,_,_,rfl,rfl,_,rfl,z7 (λz=>absurd (of_decide_eq_true z) (by omega)) (λz=>fin rfl)⟩
 ·rintro σ J ⟨u,se,t,rfl,sJ,hs⟩
  rw [Jh,hc.n,List.drop_length] at hs;cases hs;exact ⟨_,rfl,rfl,true,rfl,yB ⟨_,rfl,rfl,k J sJ⟩⟩
def spLaw (K:Fg):Sp:=λvs H Q _=>∃ (a:Ad) (ns:Ja),vs=[.ref a]/\SqL K H a (ns.map V.int)/\ns.length<=63/\∀ H',Q (.bl true) H'
def ok_law {c:F2.Cs} {q:QCs} {f:Ad} {fd:FuncData} (F:Fun K "law" "law" Yx f fd) (hlen:mg "len"=none) (T:TyL K mg) (PC:PrC K q.pr) (CA:Ok P w K mg base CX0 1 "_law_cell_at" ["_law_script","_law_k"] (spCA K)) (LN:Ok P w K mg base CX0 2 "_law_lengths_by" ["_law_script"] (spLn K)) (PR:Ok P w K mg base CX0 8 "_law_program_by" ["_law_script","_law_lengths","_law_most_heads","_law_most_tills"] (spPr c q K)) (MD:OkD P w K mg base CX0 167 "made" ["program","group"] (spMade c q K 50 4)) (CO:Ok P w K mg base CX0 5 "count_of" ["steps"] (spCnt c q K 4)) (LC:Ok P w K mg base CX0 4 "_law_code" ["_law_code_here","_law_group","_law_rows","_law_count"] (spLC K)):FnOk P w K mg base CX0 168 f fd ["_law_script"] (spLaw K):=by
 refine F.ok sc_law (by rintro vs H Q E ⟨_,_,e,_⟩;rw [e];rfl) λcdv A outer s H vs Q E hr h=>?_;obtain ⟨a,ns,rfl,hS,nl,k⟩:=h;have nd:=sc_law.nd;have MD2:=MD.all;have hrM:=hr;have hr8:Room 8 _:=hr.mono (by decide);have hr5:Room 5 _:=hr.mono (by decide);have hr4:Room 4 _:=hr.mono (by decide);have hr2:Room 2 _:=hr.mono (by decide);have hr1:Room 1 _:=hr.mono (by decide);have hisi:=T.isi;have hlist:=T.lst;refine ⟨_,(zc (zA (i:=1) nd rfl (Or.inl rfl) (zG LN hr2 (by rfl) zJ (zb (pv 0) ze)))
   (zc (zA (i:=2) nd rfl (Or.inl rfl) (zG PR hr8 (by rfl) zJ (zb (pv 0) (zb (pv 1) (zb zd (zb zd ze))))))
   (zc (zA (i:=3) nd rfl (Or.inl rfl) (zP zY (zQ (zb zd (zb zd (zb zd (zb zd ze))))) (zr yc (zG CA hr1 (by rfl) zJ (zb (pv 0) (zb zd ze))) zd) (λ_ _=>rfl)))
   (zc (zA (i:=4) nd rfl (Or.inl rfl) (pe_okD MD hrM (by rfl) zJ (zb (pv 2) ze)))
   (zc (yQ (zu (zi YR (pv 3) zd (zo _)) (zf (zA (i:=4) nd rfl (Or.inl rfl) (zG MD2 hrM (by rfl) zJ (zb (pv 2) (zb (pv 3) ze))))) zk))
   (zf (zj (x9 (zw zB (by rfl) hisi PyProof.Rows.boot_isinstance (zb (pv 4) (zb (xj hlist PyProof.Rows.boot_list) ze))) (Zu (zG LC hr4 (by rfl) zJ (zb (pv 4) (zb (pv 3) (zb (zw zH (by rfl) hlen PySem.boot_len (zb (pv 1) ze)) (zb (zG CO hr5 (by rfl) zJ (zb (zq (pv 2) rfl) ze)) ze)))))))))))))),?_⟩
 refine ⟨_,rfl,a,ns,rfl,hS,λH1 le lens s1 ele lo=>?_⟩;refine ⟨_,rfl,_,rfl,a,le,ns,lens,8,3,rfl,zD hS s1,nl,by decide,by decide,SqL.of ele,lo,λH2 pr lc sg Ps s2 hp elc hP=>?_⟩;obtain ⟨hSt,hso,hdp,hcn⟩:=to_at hP;have erf:rfs Ps=(Ps.map Prod.snd).map V.ref:=by rw [List.map_map];rfl
 rw [erf] at elc;have hSa:StAs (Dg lens sg) (Zg Ps):=SOks.a lo sg _ hso;generalize Zg Ps=ss at hSt hso hdp hcn hSa;generalize Ps.map Prod.snd=ys at hSt elc;clear erf hP;have c9:∀ gr,(xu (Dg lens sg) gr ss 0).length<=30000:=λgr=>by have:=lenL (sg:=sg) (gp:=gr) lo ss 0 hso;omega
 obtain ⟨dp,la,lb,epr,_,_⟩:=hp.ex;replace hS:=zD (zD hS s1) s2;replace ele:=s2 _ _ ele;refine ⟨szU 4,λlg nlg=>?_⟩;generalize hX:upd _ _ _=H3;obtain ⟨s3,elg⟩:=yi hX nlg;replace hS:=zD hS s3;replace ele:=s3 _ _ ele;replace epr:=s3 _ _ epr;replace elc:=s3 _ _ elc;replace hp:=hp.same s3;replace hSt:=hSt.same s3;clear hX
 obtain ⟨g,hg,hat⟩:∃ g:Nat,(g=0∨g=1∨g=2∨g=4)/\atI [V.int 0,V.int 1,V.int 2,V.int 4] (ns.getD (2:Int).toNat 0 % 4)=some (.int (g:Int)):=by
  have:ns.getD (2:Int).toNat 0 % 4=0∨ns.getD (2:Int).toNat 0 % 4=1∨ns.getD (2:Int).toNat 0 % 4=2∨ns.getD (2:Int).toNat 0 % 4=3:=by omega
  rcases this with e | e | e | e <;> rw [e]
  ·exact ⟨0,.inl rfl,rfl⟩
  ·exact ⟨1,.inr (.inl rfl),rfl⟩
  ·exact ⟨2,.inr (.inr (.inl rfl)),rfl⟩
  ·exact ⟨4,.inr (.inr (.inr rfl)),rfl⟩
 refine ⟨_,rfl,a,ns,2,rfl,hS,by decide,_,_,rfl,rfl,(by show (0:Int)<4;decide),lg,_,_,.int (g:Int),rfl,rfl,SqL.of elg,hat,?_⟩;clear elg;refine ⟨_,rfl,pr,lc,ys,ss,Dg lens sg,0,rfl,rfl,hp,SqL.of elc,hSt,hSa,by omega,.inl rfl,c9 0,λH4 cd cs s4 _ ecd cC=>?_⟩;refine ⟨λσ J=>∃ (cd:Ad) (cs:Jf),σ=[rq a,rq le,rq pr,iq g,rq cd]/\Same H3 J/\J cd=some (.lst (cs.map V.ref))/\CodeAt J cs (xu (Dg lens sg) g ss 0),?_,?_⟩
 ·refine ⟨_,rfl,rfl,_,rfl,z7 (λz=>?_) (λz=>?_)⟩
  ·refine ⟨_,rfl,_,rfl,pr,lc,ys,ss,Dg lens sg,g,rfl,rfl,hp.same s4,SqL.of (s4 _ _ elc),hSt.same s4,hSa,by omega,hg,c9 g,λH7 cd2 cs2 s7 _ ecd2 cC2=>?_⟩
   exact ⟨cd2,cs2,rfl,s4.trans s7,ecd2,cC2⟩
  ·have g0:g=0:=by
    refine Classical.byContradiction λh=>z ?_;rw [decide_eq_false (λe=>h (by have:=V.int.inj e;omega))];rfl
   subst g0;exact ⟨cd,cs,rfl,s4,ecd,cC⟩
 clear cC ecd s4;rintro σ H5 ⟨cd,cs,rfl,s5,ecd,cC⟩;refine ⟨_,rfl,_,_,.type "list",.type "list",true,rfl,rfl,(λu r=>r),.inl (.lst ecd),T.ll,true,rfl,?_⟩;refine yB ?_;refine ⟨_,rfl,_,rfl,_,rfl,le,_,rfl,.inl (SqL.of (s5 _ _ ele)),_,rfl,pr,_,dp,_,.ref lc,rfl,s5 _ _ epr,PC.c,PC.n2,rfl,lc,ys,ss,rfl,SqL.of (s5 _ _ elc),hSt.same s5,by omega,?_⟩;refine ⟨cd,cs,_,g,lens.length,(cnts ss:Int),?_,ecd,cC,?_,λH6 _=>k H6⟩
 ·rw [Jh];rfl
 ·rw [lo.l];exact scanL lo hg ss 0 0 hso (Int.le_refl _) (by omega)
theorem uc {n:Nat}:∀ {us:Jc},us.length=n+1->∃ a r,us=a::r/\r.length=n
 | a::r,h=>⟨a,r,rfl,Nat.succ.inj h⟩
def us1 {p:Jc->Prop} (h:∀ a0,p [a0]):∀ us:Jc,us.length=1->p us:=by
 intro us e;obtain ⟨a0,u0,rfl,e0⟩:=uc e;cases List.eq_nil_of_length_eq_zero e0;exact h _
def us2 {p:Jc->Prop} (h:∀ a0 a1,p [a0,a1]):∀ us:Jc,us.length=2->p us:=by
 intro us e;obtain ⟨a0,u0,rfl,e0⟩:=uc e;obtain ⟨a1,u1,rfl,e1⟩:=uc e0;cases List.eq_nil_of_length_eq_zero e1;exact h _ _
def us3 {p:Jc->Prop} (h:∀ a0 a1 a2,p [a0,a1,a2]):∀ us:Jc,us.length=3->p us:=by
 intro us e;obtain ⟨a0,u0,rfl,e0⟩:=uc e;obtain ⟨a1,u1,rfl,e1⟩:=uc e0;obtain ⟨a2,u2,rfl,e2⟩:=uc e1;cases List.eq_nil_of_length_eq_zero e2;exact h _ _ _
def us4 {p:Jc->Prop} (h:∀ a0 a1 a2 a3,p [a0,a1,a2,a3]):∀ us:Jc,us.length=4->p us:=by
 intro us e;obtain ⟨a0,u0,rfl,e0⟩:=uc e;obtain ⟨a1,u1,rfl,e1⟩:=uc e0;obtain ⟨a2,u2,rfl,e2⟩:=uc e1;obtain ⟨a3,u3,rfl,e3⟩:=uc e2;cases List.eq_nil_of_length_eq_zero e3;exact h _ _ _ _
def us5 {p:Jc->Prop} (h:∀ a0 a1 a2 a3 a4,p [a0,a1,a2,a3,a4]):∀ us:Jc,us.length=5->p us:=by
 intro us e;obtain ⟨a0,u0,rfl,e0⟩:=uc e;obtain ⟨a1,u1,rfl,e1⟩:=uc e0;obtain ⟨a2,u2,rfl,e2⟩:=uc e1;obtain ⟨a3,u3,rfl,e3⟩:=uc e2;obtain ⟨a4,u4,rfl,e4⟩:=uc e3;cases List.eq_nil_of_length_eq_zero e4;exact h _ _ _ _ _
theorem all_mk {l:PySem.W.OpenLaw} {w:World} {K:Fg} {h:Heap} {mg:J0} {fa f_count_of f_seats_for_two f_seats_for_call f_seats_for f_seats_for_step f_cell_step f_leaf_step f_make_two f_make_at f_make_pair f_make_choice f_make_call f_make_form f_may_fault f_group_for f_make_test f_make_value f_round_of f_look_at f_turns_of f_code_of f_4 f_l_whole f_l_cell_at f_l_kept_by f_l_row_by f_l_leaf_by f_l_sign_by f_l_grown f_l_form_by f_l_step_by f_l_steps_by f_l_lengths_by f_l_program_by f_l_shape f_l_part f_l_in_round f_l_outside f_l_code f_law f_1 f_2 f_0 f_3 C_Number C_Here C_Cell C_Shifted C_Local C_At C_Pair C_Choice C_Call C_Let C_Put C_Fold C_Running C_Till C_Program C_Maker C_Aim:Ad} {tB tT tFC:Tok} {od_4 an_4 od_1 an_1 od_2 an_2 od_0 an_0 od_3 an_3:Option Ad} {sl_4 sl_1 sl_2 sl_0 sl_3:Array (Jd)} {oc_4 kV_4 dc_4 pm_4 cd_4 ct_4 oc_1 kV_1 dc_1 pm_1 cd_1 ct_1 oc_2 kV_2 dc_2 pm_2 cd_2 ct_2 oc_0 kV_0 dc_0 pm_0 cd_0 ct_0 oc_3 kV_3 dc_3 pm_3 cd_3 ct_3:Vl} {T_1:Ad} {ocT_1:Vl} {odT_1:Option Ad} {slT_1:Array (Jd)} {nT_1:Nat} {T_2:Ad} {ocT_2:Vl} {odT_2:Option Ad} {slT_2:Array (Jd)} {nT_2:Nat} {T_0:Ad} {ocT_0:Vl} {odT_0:Option Ad} {slT_0:Array (Jd)} {nT_0:Nat} {T_3:Ad} {ocT_3:Vl} {odT_3:Option Ad} {slT_3:Array (Jd)} {nT_3:Nat} {T_4:Ad} {ocT_4:Vl} {odT_4:Option Ad} {slT_4:Array (Jd)} {nT_4:Nat} {tD_made:Tok} (X:K.In h) (G:h.Ns mainGlobals mg) (hfa:mg "law"=some (.ref fa))
  (h_count_of:DH K "count_of" xf f_count_of)
  (h_seats_for_two:DH K "seats_for_two" yI f_seats_for_two)
  (h_seats_for_call:DH K "seats_for_call" yC f_seats_for_call)
  (h_seats_for:DH K "seats_for" xo f_seats_for)
  (h_seats_for_step:DH K "seats_for_step" yO f_seats_for_step)
  (h_cell_step:DH K "cell_step" xW f_cell_step)
  (h_leaf_step:DH K "leaf_step" xN f_leaf_step)
  (h_make_two:DH K "make_two" xH f_make_two)
  (h_make_at:DH K "make_at" Zc f_make_at)
  (h_make_pair:DH K "make_pair" xq f_make_pair)
  (h_make_choice:DH K "make_choice" yR f_make_choice)
  (h_make_call:DH K "make_call" xt f_make_call)
  (h_make_form:DH K "make_form" xr f_make_form)
  (h_may_fault:DH K "may_fault" xL f_may_fault)
  (h_group_for:DH K "group_for" xV f_group_for)
  (h_make_test:DH K "make_test" xM f_make_test)
  (h_make_value:DH K "make_value" xy f_make_value)
  (h_round_of:DH K "round_of" Zh f_round_of)
  (h_look_at:DH K "look_at" Zz f_look_at)
  (h_turns_of:DH K "turns_of" xG f_turns_of)
  (h_code_of:DH K "code_of" Zd f_code_of)
  (a_made:PySem.W.nsIn K mainGlobals "made"=some (some (.ref f_4))) (l_4:K.lookup f_4=some ⟨oc_4,od_4,.func (PySem.W.fnOf "made" "made" (yk Z0) (z8 Z0) (zm Z0) (.ref T_4) kV_4 dc_4 pm_4 an_4 cd_4 ct_4),sl_4⟩) (c_4:PySem.W.codeIn K cd_4 "made"=true) (k_4:PySem.W.keepIn K (.ref f_4)=true) (lT_4:K.lookup T_4=some ⟨ocT_4,odT_4,.seq #[.int 0 tD_made] nT_4,slT_4⟩)
  (h_l_whole:DH K "_law_whole" ZA f_l_whole)
  (h_l_cell_at:DH K "_law_cell_at" xU f_l_cell_at)
  (h_l_kept_by:DH K "_law_kept_by" xS f_l_kept_by)
  (h_l_row_by:DH K "_law_row_by" Zi f_l_row_by)
  (h_l_leaf_by:DH K "_law_leaf_by" xR f_l_leaf_by)
  (h_l_sign_by:DH K "_law_sign_by" xP f_l_sign_by)
  (h_l_grown:DH K "_law_grown" ZC f_l_grown)
  (h_l_form_by:DH K "_law_form_by" xT f_l_form_by)
  (h_l_step_by:DH K "_law_step_by" xO f_l_step_by)
  (h_l_steps_by:DH K "_law_steps_by" xz f_l_steps_by)
  (h_l_lengths_by:DH K "_law_lengths_by" y6 f_l_lengths_by)
  (h_l_program_by:DH K "_law_program_by" y4 f_l_program_by)
  (h_l_shape:DH K "_law_shape" ZB f_l_shape)
  (h_l_part:DH K "_law_part" ZP f_l_part)
  (h_l_in_round:DH K "_law_in_round" xA f_l_in_round)
  (h_l_outside:DH K "_law_outside" xQ f_l_outside)
  (h_l_code:DH K "_law_code" ZQ f_l_code)
  (h_law:DH K "law" Yx f_law)
  (a_C_Number:PySem.W.nsIn K mainGlobals "Number"=some (some (.ref C_Number))) (h_C_Number:CH K C_Number)
  (fn_C_Number:FN K C_Number ["number"])
  (mk_C_Number:PySem.W.makesIn K C_Number=true) (kC_C_Number:PySem.W.keepIn K (.ref C_Number)=true)
  (h_Number_init:MH K C_Number "__init__" "Number.__init__" xl)
  (a_C_Here:PySem.W.nsIn K mainGlobals "Here"=some (some (.ref C_Here))) (h_C_Here:CH K C_Here)
  (mk_C_Here:PySem.W.makesIn K C_Here=true) (kC_C_Here:PySem.W.keepIn K (.ref C_Here)=true) (in_C_Here:PySem.W.findIn K (.ref C_Here) "__init__"=some (some (.builtin "object.__init__")))
  (a_C_Cell:PySem.W.nsIn K mainGlobals "Cell"=some (some (.ref C_Cell))) (h_C_Cell:CH K C_Cell)
  (fn_C_Cell:FN K C_Cell ["row"])
  (mk_C_Cell:PySem.W.makesIn K C_Cell=true) (kC_C_Cell:PySem.W.keepIn K (.ref C_Cell)=true)
  (h_Cell_init:MH K C_Cell "__init__" "Cell.__init__" xZ)
  (a_C_Shifted:PySem.W.nsIn K mainGlobals "Shifted"=some (some (.ref C_Shifted))) (h_C_Shifted:CH K C_Shifted)
  (fn_C_Shifted:FN K C_Shifted ["row","by","other"])
  (mk_C_Shifted:PySem.W.makesIn K C_Shifted=true) (kC_C_Shifted:PySem.W.keepIn K (.ref C_Shifted)=true)
  (h_Shifted_init:MH K C_Shifted "__init__" "Shifted.__init__" y8)
  (a_C_Local:PySem.W.nsIn K mainGlobals "Local"=some (some (.ref C_Local))) (h_C_Local:CH K C_Local)
  (fn_C_Local:FN K C_Local ["at"])
  (mk_C_Local:PySem.W.makesIn K C_Local=true) (kC_C_Local:PySem.W.keepIn K (.ref C_Local)=true)
  (h_Local_init:MH K C_Local "__init__" "Local.__init__" xC)
  (a_C_At:PySem.W.nsIn K mainGlobals "At"=some (some (.ref C_At))) (h_C_At:CH K C_At)
  (fn_C_At:FN K C_At ["row","place"])
  (mk_C_At:PySem.W.makesIn K C_At=true) (kC_C_At:PySem.W.keepIn K (.ref C_At)=true)
  (h_At_init:MH K C_At "__init__" "At.__init__" ZD)
  (a_C_Pair:PySem.W.nsIn K mainGlobals "Pair"=some (some (.ref C_Pair))) (h_C_Pair:CH K C_Pair)
  (fn_C_Pair:FN K C_Pair ["sign","left","right"])
  (mk_C_Pair:PySem.W.makesIn K C_Pair=true) (kC_C_Pair:PySem.W.keepIn K (.ref C_Pair)=true)
  (h_Pair_init:MH K C_Pair "__init__" "Pair.__init__" xY)
  (a_C_Choice:PySem.W.nsIn K mainGlobals "Choice"=some (some (.ref C_Choice))) (h_C_Choice:CH K C_Choice)
  (fn_C_Choice:FN K C_Choice ["test","left","right"])
  (mk_C_Choice:PySem.W.makesIn K C_Choice=true) (kC_C_Choice:PySem.W.keepIn K (.ref C_Choice)=true)
  (h_Choice_init:MH K C_Choice "__init__" "Choice.__init__" xm)
  (a_C_Call:PySem.W.nsIn K mainGlobals "Call"=some (some (.ref C_Call))) (h_C_Call:CH K C_Call)
  (fn_C_Call:FN K C_Call ["at","handed"])
  (mk_C_Call:PySem.W.makesIn K C_Call=true) (kC_C_Call:PySem.W.keepIn K (.ref C_Call)=true)
  (h_Call_init:MH K C_Call "__init__" "Call.__init__" x6)
  (a_C_Let:PySem.W.nsIn K mainGlobals "Let"=some (some (.ref C_Let))) (h_C_Let:CH K C_Let)
  (fn_C_Let:FN K C_Let ["target","value","test"])
  (mk_C_Let:PySem.W.makesIn K C_Let=true) (kC_C_Let:PySem.W.keepIn K (.ref C_Let)=true)
  (at_1:PySem.W.findIn K (.ref C_Let) "__init__"=some (some (.ref f_1))) (fn_1:PySem.W.isFn K (.ref f_1)=true) (l_1:K.lookup f_1=some ⟨oc_1,od_1,.func (PySem.W.fnOf "__init__" "Let.__init__" (yk xh) (z8 xh) (zm xh) (.ref T_1) kV_1 dc_1 pm_1 an_1 cd_1 ct_1),sl_1⟩) (c_1:PySem.W.codeIn K cd_1 "Let.__init__"=true) (k_1:PySem.W.keepIn K (.ref f_1)=true)
  (lT_1:K.lookup T_1=some ⟨ocT_1,odT_1,.seq #[.none] nT_1,slT_1⟩)
  (h_Let_many_of:MH K C_Let "many_of" "Let.many_of" yT)
  (a_C_Put:PySem.W.nsIn K mainGlobals "Put"=some (some (.ref C_Put))) (h_C_Put:CH K C_Put)
  (fn_C_Put:FN K C_Put ["target","value","place","many","test"])
  (mk_C_Put:PySem.W.makesIn K C_Put=true) (kC_C_Put:PySem.W.keepIn K (.ref C_Put)=true)
  (at_2:PySem.W.findIn K (.ref C_Put) "__init__"=some (some (.ref f_2))) (fn_2:PySem.W.isFn K (.ref f_2)=true) (l_2:K.lookup f_2=some ⟨oc_2,od_2,.func (PySem.W.fnOf "__init__" "Put.__init__" (yk xg) (z8 xg) (zm xg) (.ref T_2) kV_2 dc_2 pm_2 an_2 cd_2 ct_2),sl_2⟩) (c_2:PySem.W.codeIn K cd_2 "Put.__init__"=true) (k_2:PySem.W.keepIn K (.ref f_2)=true)
  (lT_2:K.lookup T_2=some ⟨ocT_2,odT_2,.seq #[.none] nT_2,slT_2⟩)
  (h_Put_many_of:MH K C_Put "many_of" "Put.many_of" yS)
  (a_C_Fold:PySem.W.nsIn K mainGlobals "Fold"=some (some (.ref C_Fold))) (h_C_Fold:CH K C_Fold)
  (fn_C_Fold:FN K C_Fold ["target","fold","value","many","test"])
  (mk_C_Fold:PySem.W.makesIn K C_Fold=true) (kC_C_Fold:PySem.W.keepIn K (.ref C_Fold)=true)
  (at_0:PySem.W.findIn K (.ref C_Fold) "__init__"=some (some (.ref f_0))) (fn_0:PySem.W.isFn K (.ref f_0)=true) (l_0:K.lookup f_0=some ⟨oc_0,od_0,.func (PySem.W.fnOf "__init__" "Fold.__init__" (yk yW) (z8 yW) (zm yW) (.ref T_0) kV_0 dc_0 pm_0 an_0 cd_0 ct_0),sl_0⟩) (c_0:PySem.W.codeIn K cd_0 "Fold.__init__"=true) (k_0:PySem.W.keepIn K (.ref f_0)=true)
  (lT_0:K.lookup T_0=some ⟨ocT_0,odT_0,.seq #[.none] nT_0,slT_0⟩)
  (h_Fold_many_of:MH K C_Fold "many_of" "Fold.many_of" yL)
  (a_C_Running:PySem.W.nsIn K mainGlobals "Running"=some (some (.ref C_Running))) (h_C_Running:CH K C_Running)
  (fn_C_Running:FN K C_Running ["target","fold","value","test"])
  (mk_C_Running:PySem.W.makesIn K C_Running=true) (kC_C_Running:PySem.W.keepIn K (.ref C_Running)=true)
  (at_3:PySem.W.findIn K (.ref C_Running) "__init__"=some (some (.ref f_3))) (fn_3:PySem.W.isFn K (.ref f_3)=true) (l_3:K.lookup f_3=some ⟨oc_3,od_3,.func (PySem.W.fnOf "__init__" "Running.__init__" (yk yD) (z8 yD) (zm yD) (.ref T_3) kV_3 dc_3 pm_3 an_3 cd_3 ct_3),sl_3⟩) (c_3:PySem.W.codeIn K cd_3 "Running.__init__"=true) (k_3:PySem.W.keepIn K (.ref f_3)=true)
  (lT_3:K.lookup T_3=some ⟨ocT_3,odT_3,.seq #[.none] nT_3,slT_3⟩)
  (h_Running_many_of:MH K C_Running "many_of" "Running.many_of" yx)
  (a_C_Till:PySem.W.nsIn K mainGlobals "Till"=some (some (.ref C_Till))) (h_C_Till:CH K C_Till)
  (fn_C_Till:FN K C_Till ["target","most","steps"])
  (mk_C_Till:PySem.W.makesIn K C_Till=true) (kC_C_Till:PySem.W.keepIn K (.ref C_Till)=true)
  (h_Till_init:MH K C_Till "__init__" "Till.__init__" xX)
  (a_C_Program:PySem.W.nsIn K mainGlobals "Program"=some (some (.ref C_Program))) (h_C_Program:CH K C_Program)
  (fn_C_Program:FN K C_Program ["lengths","functions","steps"])
  (mk_C_Program:PySem.W.makesIn K C_Program=true) (kC_C_Program:PySem.W.keepIn K (.ref C_Program)=true)
  (h_Program_init:MH K C_Program "__init__" "Program.__init__" y9)
  (a_C_Maker:PySem.W.nsIn K mainGlobals "Maker"=some (some (.ref C_Maker))) (h_C_Maker:CH K C_Maker)
  (fn_C_Maker:FN K C_Maker ["lengths","functions","seats","code","free_slot"])
  (mk_C_Maker:PySem.W.makesIn K C_Maker=true) (kC_C_Maker:PySem.W.keepIn K (.ref C_Maker)=true)
  (h_Maker_init:MH K C_Maker "__init__" "Maker.__init__" xB)
  (h_Maker_put_by:MH K C_Maker "put_by" "Maker.put_by" xa)
  (a_C_Aim:PySem.W.nsIn K mainGlobals "Aim"=some (some (.ref C_Aim))) (h_C_Aim:CH K C_Aim)
  (fn_C_Aim:FN K C_Aim ["seat","mask","level","own"])
  (mk_C_Aim:PySem.W.makesIn K C_Aim=true) (kC_C_Aim:PySem.W.keepIn K (.ref C_Aim)=true)
  (h_Aim_init:MH K C_Aim "__init__" "Aim.__init__" Zj)
  (k_int_int:PySem.W.kitOne K (.type "int") (.type "int")=some true)
  (k_int_bool:PySem.W.kitOne K (.type "int") (.type "bool")=some false)
  (k_tuple_tuple:PySem.W.kitOne K (.type "tuple") (.type "tuple")=some true)
  (k_list_list:PySem.W.kitOne K (.type "list") (.type "list")=some true)
  (k_str_str:PySem.W.kitOne K (.type "str") (.type "str")=some true)
  (tb1:TN K mainGlobals ["isinstance","int","bool","str","tuple","list","len","range","max","any"])
  (aB:PySem.W.nsIn K mainGlobals "MANY_BOXES"=some (some (.int 8 tB)))
  (aT:PySem.W.nsIn K mainGlobals "TEST_MASK"=some (some (.int 1 tT)))
  (aFC:PySem.W.nsIn K mainGlobals "FIRST_CHOICE_MASK"=some (some (.int 2 tFC)))
  (i1_Number:PySem.W.findIn K (.ref C_Number) "__class__"=some (some (.builtin "object.__class__")))
  (i2_Number:PySem.W.specialIn K (.builtin "object.__class__") "__get__"=some (some (.builtin "getset_descriptor.__get__")))
  (i3_Number:PySem.W.takesIn K (.builtin "object.__class__")=some true)
  (i4_Number:PySem.W.mroIn K C_Number (.type "object")=some true)
  (i1_Here:PySem.W.findIn K (.ref C_Here) "__class__"=some (some (.builtin "object.__class__")))
  (i2_Here:PySem.W.specialIn K (.builtin "object.__class__") "__get__"=some (some (.builtin "getset_descriptor.__get__")))
  (i3_Here:PySem.W.takesIn K (.builtin "object.__class__")=some true)
  (i4_Here:PySem.W.mroIn K C_Here (.type "object")=some true)
  (i1_Cell:PySem.W.findIn K (.ref C_Cell) "__class__"=some (some (.builtin "object.__class__")))
  (i2_Cell:PySem.W.specialIn K (.builtin "object.__class__") "__get__"=some (some (.builtin "getset_descriptor.__get__")))
  (i3_Cell:PySem.W.takesIn K (.builtin "object.__class__")=some true)
  (i4_Cell:PySem.W.mroIn K C_Cell (.type "object")=some true)
  (i1_Shifted:PySem.W.findIn K (.ref C_Shifted) "__class__"=some (some (.builtin "object.__class__")))
  (i2_Shifted:PySem.W.specialIn K (.builtin "object.__class__") "__get__"=some (some (.builtin "getset_descriptor.__get__")))
  (i3_Shifted:PySem.W.takesIn K (.builtin "object.__class__")=some true)
  (i4_Shifted:PySem.W.mroIn K C_Shifted (.type "object")=some true)
  (i1_Local:PySem.W.findIn K (.ref C_Local) "__class__"=some (some (.builtin "object.__class__")))
  (i2_Local:PySem.W.specialIn K (.builtin "object.__class__") "__get__"=some (some (.builtin "getset_descriptor.__get__")))
  (i3_Local:PySem.W.takesIn K (.builtin "object.__class__")=some true)
  (i4_Local:PySem.W.mroIn K C_Local (.type "object")=some true)
  (i1_At:PySem.W.findIn K (.ref C_At) "__class__"=some (some (.builtin "object.__class__")))
  (i2_At:PySem.W.specialIn K (.builtin "object.__class__") "__get__"=some (some (.builtin "getset_descriptor.__get__")))
  (i3_At:PySem.W.takesIn K (.builtin "object.__class__")=some true)
  (i4_At:PySem.W.mroIn K C_At (.type "object")=some true)
  (i1_Pair:PySem.W.findIn K (.ref C_Pair) "__class__"=some (some (.builtin "object.__class__")))
  (i2_Pair:PySem.W.specialIn K (.builtin "object.__class__") "__get__"=some (some (.builtin "getset_descriptor.__get__")))
  (i3_Pair:PySem.W.takesIn K (.builtin "object.__class__")=some true)
  (i4_Pair:PySem.W.mroIn K C_Pair (.type "object")=some true)
  (i1_Choice:PySem.W.findIn K (.ref C_Choice) "__class__"=some (some (.builtin "object.__class__")))
  (i2_Choice:PySem.W.specialIn K (.builtin "object.__class__") "__get__"=some (some (.builtin "getset_descriptor.__get__")))
  (i3_Choice:PySem.W.takesIn K (.builtin "object.__class__")=some true)
  (i4_Choice:PySem.W.mroIn K C_Choice (.type "object")=some true)
  (i1_Call:PySem.W.findIn K (.ref C_Call) "__class__"=some (some (.builtin "object.__class__")))
  (i2_Call:PySem.W.specialIn K (.builtin "object.__class__") "__get__"=some (some (.builtin "getset_descriptor.__get__")))
  (i3_Call:PySem.W.takesIn K (.builtin "object.__class__")=some true)
  (i4_Call:PySem.W.mroIn K C_Call (.type "object")=some true)
  (i1_Let:PySem.W.findIn K (.ref C_Let) "__class__"=some (some (.builtin "object.__class__")))
  (i2_Let:PySem.W.specialIn K (.builtin "object.__class__") "__get__"=some (some (.builtin "getset_descriptor.__get__")))
  (i3_Let:PySem.W.takesIn K (.builtin "object.__class__")=some true)
  (i4_Let:PySem.W.mroIn K C_Let (.type "object")=some true)
  (i1_Put:PySem.W.findIn K (.ref C_Put) "__class__"=some (some (.builtin "object.__class__")))
  (i2_Put:PySem.W.specialIn K (.builtin "object.__class__") "__get__"=some (some (.builtin "getset_descriptor.__get__")))
  (i3_Put:PySem.W.takesIn K (.builtin "object.__class__")=some true)
  (i4_Put:PySem.W.mroIn K C_Put (.type "object")=some true)
  (i1_Fold:PySem.W.findIn K (.ref C_Fold) "__class__"=some (some (.builtin "object.__class__")))
  (i2_Fold:PySem.W.specialIn K (.builtin "object.__class__") "__get__"=some (some (.builtin "getset_descriptor.__get__")))
  (i3_Fold:PySem.W.takesIn K (.builtin "object.__class__")=some true)
  (i4_Fold:PySem.W.mroIn K C_Fold (.type "object")=some true)
  (i1_Running:PySem.W.findIn K (.ref C_Running) "__class__"=some (some (.builtin "object.__class__")))
  (i2_Running:PySem.W.specialIn K (.builtin "object.__class__") "__get__"=some (some (.builtin "getset_descriptor.__get__")))
  (i3_Running:PySem.W.takesIn K (.builtin "object.__class__")=some true)
  (i4_Running:PySem.W.mroIn K C_Running (.type "object")=some true)
  (i1_Till:PySem.W.findIn K (.ref C_Till) "__class__"=some (some (.builtin "object.__class__")))
  (i2_Till:PySem.W.specialIn K (.builtin "object.__class__") "__get__"=some (some (.builtin "getset_descriptor.__get__")))
  (i3_Till:PySem.W.takesIn K (.builtin "object.__class__")=some true)
  (i4_Till:PySem.W.mroIn K C_Till (.type "object")=some true)
  (kl_Number_At:PySem.W.kitOne K (.ref C_Number) (.ref C_At)=some false)
  (kl_Number_Pair:PySem.W.kitOne K (.ref C_Number) (.ref C_Pair)=some false)
  (kl_Number_Choice:PySem.W.kitOne K (.ref C_Number) (.ref C_Choice)=some false)
  (kl_Number_Call:PySem.W.kitOne K (.ref C_Number) (.ref C_Call)=some false)
  (kl_Number_Number:PySem.W.kitOne K (.ref C_Number) (.ref C_Number)=some true)
  (kl_Number_Here:PySem.W.kitOne K (.ref C_Number) (.ref C_Here)=some false)
  (kl_Number_Cell:PySem.W.kitOne K (.ref C_Number) (.ref C_Cell)=some false)
  (kl_Number_Shifted:PySem.W.kitOne K (.ref C_Number) (.ref C_Shifted)=some false)
  (kl_Here_At:PySem.W.kitOne K (.ref C_Here) (.ref C_At)=some false)
  (kl_Here_Pair:PySem.W.kitOne K (.ref C_Here) (.ref C_Pair)=some false)
  (kl_Here_Choice:PySem.W.kitOne K (.ref C_Here) (.ref C_Choice)=some false)
  (kl_Here_Call:PySem.W.kitOne K (.ref C_Here) (.ref C_Call)=some false)
  (kl_Here_Number:PySem.W.kitOne K (.ref C_Here) (.ref C_Number)=some false)
  (kl_Here_Here:PySem.W.kitOne K (.ref C_Here) (.ref C_Here)=some true)
  (kl_Here_Cell:PySem.W.kitOne K (.ref C_Here) (.ref C_Cell)=some false)
  (kl_Here_Shifted:PySem.W.kitOne K (.ref C_Here) (.ref C_Shifted)=some false)
  (kl_Cell_At:PySem.W.kitOne K (.ref C_Cell) (.ref C_At)=some false)
  (kl_Cell_Pair:PySem.W.kitOne K (.ref C_Cell) (.ref C_Pair)=some false)
  (kl_Cell_Choice:PySem.W.kitOne K (.ref C_Cell) (.ref C_Choice)=some false)
  (kl_Cell_Call:PySem.W.kitOne K (.ref C_Cell) (.ref C_Call)=some false)
  (kl_Cell_Number:PySem.W.kitOne K (.ref C_Cell) (.ref C_Number)=some false)
  (kl_Cell_Here:PySem.W.kitOne K (.ref C_Cell) (.ref C_Here)=some false)
  (kl_Cell_Cell:PySem.W.kitOne K (.ref C_Cell) (.ref C_Cell)=some true)
  (kl_Cell_Shifted:PySem.W.kitOne K (.ref C_Cell) (.ref C_Shifted)=some false)
  (kl_Shifted_At:PySem.W.kitOne K (.ref C_Shifted) (.ref C_At)=some false)
  (kl_Shifted_Pair:PySem.W.kitOne K (.ref C_Shifted) (.ref C_Pair)=some false)
  (kl_Shifted_Choice:PySem.W.kitOne K (.ref C_Shifted) (.ref C_Choice)=some false)
  (kl_Shifted_Call:PySem.W.kitOne K (.ref C_Shifted) (.ref C_Call)=some false)
  (kl_Shifted_Number:PySem.W.kitOne K (.ref C_Shifted) (.ref C_Number)=some false)
  (kl_Shifted_Here:PySem.W.kitOne K (.ref C_Shifted) (.ref C_Here)=some false)
  (kl_Shifted_Cell:PySem.W.kitOne K (.ref C_Shifted) (.ref C_Cell)=some false)
  (kl_Shifted_Shifted:PySem.W.kitOne K (.ref C_Shifted) (.ref C_Shifted)=some true)
  (kl_Local_At:PySem.W.kitOne K (.ref C_Local) (.ref C_At)=some false)
  (kl_Local_Pair:PySem.W.kitOne K (.ref C_Local) (.ref C_Pair)=some false)
  (kl_Local_Choice:PySem.W.kitOne K (.ref C_Local) (.ref C_Choice)=some false)
  (kl_Local_Call:PySem.W.kitOne K (.ref C_Local) (.ref C_Call)=some false)
  (kl_Local_Number:PySem.W.kitOne K (.ref C_Local) (.ref C_Number)=some false)
  (kl_Local_Here:PySem.W.kitOne K (.ref C_Local) (.ref C_Here)=some false)
  (kl_Local_Cell:PySem.W.kitOne K (.ref C_Local) (.ref C_Cell)=some false)
  (kl_Local_Shifted:PySem.W.kitOne K (.ref C_Local) (.ref C_Shifted)=some false)
  (kl_At_At:PySem.W.kitOne K (.ref C_At) (.ref C_At)=some true)
  (kl_At_Pair:PySem.W.kitOne K (.ref C_At) (.ref C_Pair)=some false)
  (kl_At_Choice:PySem.W.kitOne K (.ref C_At) (.ref C_Choice)=some false)
  (kl_At_Call:PySem.W.kitOne K (.ref C_At) (.ref C_Call)=some false)
  (kl_At_Number:PySem.W.kitOne K (.ref C_At) (.ref C_Number)=some false)
  (kl_At_Here:PySem.W.kitOne K (.ref C_At) (.ref C_Here)=some false)
  (kl_At_Cell:PySem.W.kitOne K (.ref C_At) (.ref C_Cell)=some false)
  (kl_At_Shifted:PySem.W.kitOne K (.ref C_At) (.ref C_Shifted)=some false)
  (kl_Pair_At:PySem.W.kitOne K (.ref C_Pair) (.ref C_At)=some false)
  (kl_Pair_Pair:PySem.W.kitOne K (.ref C_Pair) (.ref C_Pair)=some true)
  (kl_Pair_Choice:PySem.W.kitOne K (.ref C_Pair) (.ref C_Choice)=some false)
  (kl_Pair_Call:PySem.W.kitOne K (.ref C_Pair) (.ref C_Call)=some false)
  (kl_Pair_Number:PySem.W.kitOne K (.ref C_Pair) (.ref C_Number)=some false)
  (kl_Pair_Here:PySem.W.kitOne K (.ref C_Pair) (.ref C_Here)=some false)
  (kl_Pair_Cell:PySem.W.kitOne K (.ref C_Pair) (.ref C_Cell)=some false)
  (kl_Pair_Shifted:PySem.W.kitOne K (.ref C_Pair) (.ref C_Shifted)=some false)
  (kl_Choice_At:PySem.W.kitOne K (.ref C_Choice) (.ref C_At)=some false)
  (kl_Choice_Pair:PySem.W.kitOne K (.ref C_Choice) (.ref C_Pair)=some false)
  (kl_Choice_Choice:PySem.W.kitOne K (.ref C_Choice) (.ref C_Choice)=some true)
  (kl_Choice_Call:PySem.W.kitOne K (.ref C_Choice) (.ref C_Call)=some false)
  (kl_Choice_Number:PySem.W.kitOne K (.ref C_Choice) (.ref C_Number)=some false)
  (kl_Choice_Here:PySem.W.kitOne K (.ref C_Choice) (.ref C_Here)=some false)
  (kl_Choice_Cell:PySem.W.kitOne K (.ref C_Choice) (.ref C_Cell)=some false)
  (kl_Choice_Shifted:PySem.W.kitOne K (.ref C_Choice) (.ref C_Shifted)=some false)
  (kl_Call_At:PySem.W.kitOne K (.ref C_Call) (.ref C_At)=some false)
  (kl_Call_Pair:PySem.W.kitOne K (.ref C_Call) (.ref C_Pair)=some false)
  (kl_Call_Choice:PySem.W.kitOne K (.ref C_Call) (.ref C_Choice)=some false)
  (kl_Call_Call:PySem.W.kitOne K (.ref C_Call) (.ref C_Call)=some true)
  (kl_Call_Number:PySem.W.kitOne K (.ref C_Call) (.ref C_Number)=some false)
  (kl_Call_Here:PySem.W.kitOne K (.ref C_Call) (.ref C_Here)=some false)
  (kl_Call_Cell:PySem.W.kitOne K (.ref C_Call) (.ref C_Cell)=some false)
  (kl_Call_Shifted:PySem.W.kitOne K (.ref C_Call) (.ref C_Shifted)=some false)
  (kl_Let_Put:PySem.W.kitOne K (.ref C_Let) (.ref C_Put)=some false)
  (kl_Let_Let:PySem.W.kitOne K (.ref C_Let) (.ref C_Let)=some true)
  (kl_Let_Fold:PySem.W.kitOne K (.ref C_Let) (.ref C_Fold)=some false)
  (kl_Let_Till:PySem.W.kitOne K (.ref C_Let) (.ref C_Till)=some false)
  (kl_Put_Put:PySem.W.kitOne K (.ref C_Put) (.ref C_Put)=some true)
  (kl_Put_Let:PySem.W.kitOne K (.ref C_Put) (.ref C_Let)=some false)
  (kl_Put_Fold:PySem.W.kitOne K (.ref C_Put) (.ref C_Fold)=some false)
  (kl_Put_Till:PySem.W.kitOne K (.ref C_Put) (.ref C_Till)=some false)
  (kl_Fold_Put:PySem.W.kitOne K (.ref C_Fold) (.ref C_Put)=some false)
  (kl_Fold_Let:PySem.W.kitOne K (.ref C_Fold) (.ref C_Let)=some false)
  (kl_Fold_Fold:PySem.W.kitOne K (.ref C_Fold) (.ref C_Fold)=some true)
  (kl_Fold_Till:PySem.W.kitOne K (.ref C_Fold) (.ref C_Till)=some false)
  (kl_Running_Put:PySem.W.kitOne K (.ref C_Running) (.ref C_Put)=some false)
  (kl_Running_Let:PySem.W.kitOne K (.ref C_Running) (.ref C_Let)=some false)
  (kl_Running_Fold:PySem.W.kitOne K (.ref C_Running) (.ref C_Fold)=some false)
  (kl_Running_Till:PySem.W.kitOne K (.ref C_Running) (.ref C_Till)=some false)
  (kl_Till_Till:PySem.W.kitOne K (.ref C_Till) (.ref C_Till)=some true)
  : ∃ fd:FuncData,(∀ (s:Sh) (v:Vl),BindsTo s fd ⟨[v],[]⟩ [("_law_script",v)])/\∀ base:Heap,K.In base->base.Ns mainGlobals mg->FnOk l.prog w K mg base CX0 168 fa fd ["_law_script"] (spLaw K):=by
 obtain ⟨a_law,oc_law,od_law,kV_law,dc_law,pm_law,an_law,cd_law,ct_law,sl_law,l_law,c_law,k_law⟩:=h_law;have e:=hfa.symm.trans (PySem.W.mg_of X G a_law);cases e;have d_count_of:zC K mg "count_of" xf ["steps"]:=h_count_of.d X G λ_ _ _ _ _ _=>us1 λ_=>rfl;have d_seats_for_two:zC K mg "seats_for_two" yI ["first","second","functions"]:=h_seats_for_two.d X G λ_ _ _ _ _ _=>us3 λ_ _ _=>rfl;have d_seats_for_call:zC K mg "seats_for_call" yC ["form","functions"]:=h_seats_for_call.d X G λ_ _ _ _ _ _=>us2 λ_ _=>rfl;have d_seats_for:zC K mg "seats_for" xo ["form","functions"]:=h_seats_for.d X G λ_ _ _ _ _ _=>us2 λ_ _=>rfl;have d_seats_for_step:zC K mg "seats_for_step" yO ["step","functions"]:=h_seats_for_step.d X G λ_ _ _ _ _ _=>us2 λ_ _=>rfl;have d_cell_step:zC K mg "cell_step" xW ["maker","form","aim"]:=h_cell_step.d X G λ_ _ _ _ _ _=>us3 λ_ _ _=>rfl;have d_leaf_step:zC K mg "leaf_step" xN ["maker","form","aim"]:=h_leaf_step.d X G λ_ _ _ _ _ _=>us3 λ_ _ _=>rfl;have d_make_two:zC K mg "make_two" xH ["maker","first","first_aim","second","second_aim"]:=h_make_two.d X G λ_ _ _ _ _ _=>us5 λ_ _ _ _ _=>rfl;have d_make_at:zC K mg "make_at" Zc ["maker","form","aim"]:=h_make_at.d X G λ_ _ _ _ _ _=>us3 λ_ _ _=>rfl;have d_make_pair:zC K mg "make_pair" xq ["maker","form","aim"]:=h_make_pair.d X G λ_ _ _ _ _ _=>us3 λ_ _ _=>rfl;have d_make_choice:zC K mg "make_choice" yR ["maker","form","aim"]:=h_make_choice.d X G λ_ _ _ _ _ _=>us3 λ_ _ _=>rfl;have d_make_call:zC K mg "make_call" xt ["maker","form","aim"]:=h_make_call.d X G λ_ _ _ _ _ _=>us3 λ_ _ _=>rfl;have d_make_form:zC K mg "make_form" xr ["maker","form","aim"]:=h_make_form.d X G λ_ _ _ _ _ _=>us3 λ_ _ _=>rfl;have d_may_fault:zC K mg "may_fault" xL ["step"]:=h_may_fault.d X G λ_ _ _ _ _ _=>us1 λ_=>rfl;have d_group_for:zC K mg "group_for" xV ["seats"]:=h_group_for.d X G λ_ _ _ _ _ _=>us1 λ_=>rfl;have d_make_test:zC K mg "make_test" xM ["maker","step"]:=h_make_test.d X G λ_ _ _ _ _ _=>us2 λ_ _=>rfl;have d_make_value:zC K mg "make_value" xy ["maker","step","mask"]:=h_make_value.d X G λ_ _ _ _ _ _=>us3 λ_ _ _=>rfl;have d_round_of:zC K mg "round_of" Zh ["program","step","number","group"]:=h_round_of.d X G λ_ _ _ _ _ _=>us4 λ_ _ _ _=>rfl;have d_look_at:zC K mg "look_at" Zz ["program","row","group"]:=h_look_at.d X G λ_ _ _ _ _ _=>us3 λ_ _ _=>rfl;have d_turns_of:zC K mg "turns_of" xG ["program","till","number","group"]:=h_turns_of.d X G λ_ _ _ _ _ _=>us4 λ_ _ _ _=>rfl;have d_code_of:zC K mg "code_of" Zd ["program","steps","first","group"]:=h_code_of.d X G λ_ _ _ _ _ _=>us4 λ_ _ _ _=>rfl
 have d_made:DefD K mg "made" Z0 ["program","group"]:=⟨f_4,_,tD_made,PySem.W.mg_of X G a_made,(yH l_4 c_4 k_4 lT_4),(yH l_4 c_4 k_4 lT_4).binds (λ_ _ _ _ _ _ _ us hl=>by
  obtain ⟨a0,u0,rfl,e0⟩:=ucV (n:=1) (by simpa using hl);obtain ⟨a1,u1,rfl,e1⟩:=ucV e0;cases List.eq_nil_of_length_eq_zero e1
  exact ⟨_,rfl,rfl⟩),(yH l_4 c_4 k_4 lT_4).binds (λ_ _ _ _ _ _ _ us hl=>by
  obtain ⟨a0,u0,rfl,e0⟩:=ucV (n:=0) (by simpa using hl);cases List.eq_nil_of_length_eq_zero e0;exact ⟨_,rfl,rfl⟩)⟩
 have d_l_whole:zC K mg "_law_whole" ZA ["_law_found"]:=h_l_whole.d X G λ_ _ _ _ _ _=>us1 λ_=>rfl;have d_l_cell_at:zC K mg "_law_cell_at" xU ["_law_script","_law_k"]:=h_l_cell_at.d X G λ_ _ _ _ _ _=>us2 λ_ _=>rfl;have d_l_kept_by:zC K mg "_law_kept_by" xS ["_law_cell"]:=h_l_kept_by.d X G λ_ _ _ _ _ _=>us1 λ_=>rfl;have d_l_row_by:zC K mg "_law_row_by" Zi ["_law_cell","_law_target"]:=h_l_row_by.d X G λ_ _ _ _ _ _=>us2 λ_ _=>rfl;have d_l_leaf_by:zC K mg "_law_leaf_by" xR ["_law_cell","_law_target"]:=h_l_leaf_by.d X G λ_ _ _ _ _ _=>us2 λ_ _=>rfl;have d_l_sign_by:zC K mg "_law_sign_by" xP ["_law_cell"]:=h_l_sign_by.d X G λ_ _ _ _ _ _=>us1 λ_=>rfl;have d_l_grown:zC K mg "_law_grown" ZC ["_law_pile","_law_cell","_law_target","_law_lengths"]:=h_l_grown.d X G λ_ _ _ _ _ _=>us4 λ_ _ _ _=>rfl;have d_l_form_by:zC K mg "_law_form_by" xT ["_law_cells","_law_target","_law_lengths"]:=h_l_form_by.d X G λ_ _ _ _ _ _=>us3 λ_ _ _=>rfl;have d_l_step_by:zC K mg "_law_step_by" xO ["_law_more","_law_value_cells","_law_test_cells","_law_lengths"]:=h_l_step_by.d X G λ_ _ _ _ _ _=>us4 λ_ _ _ _=>rfl;have d_l_steps_by:zC K mg "_law_steps_by" xz ["_law_script","_law_lengths","_law_most_heads","_law_most_tills"]:=h_l_steps_by.d X G λ_ _ _ _ _ _=>us4 λ_ _ _ _=>rfl;have d_l_lengths_by:zC K mg "_law_lengths_by" y6 ["_law_script"]:=h_l_lengths_by.d X G λ_ _ _ _ _ _=>us1 λ_=>rfl;have d_l_program_by:zC K mg "_law_program_by" y4 ["_law_script","_law_lengths","_law_most_heads","_law_most_tills"]:=h_l_program_by.d X G λ_ _ _ _ _ _=>us4 λ_ _ _ _=>rfl;have d_l_shape:zC K mg "_law_shape" ZB ["_law_word"]:=h_l_shape.d X G λ_ _ _ _ _ _=>us1 λ_=>rfl;have d_l_part:zC K mg "_law_part" ZP ["_law_kind","_law_part_here","_law_seats","_law_rows"]:=h_l_part.d X G λ_ _ _ _ _ _=>us4 λ_ _ _ _=>rfl;have d_l_in_round:zC K mg "_law_in_round" xA ["_law_step","_law_seats","_law_rows"]:=h_l_in_round.d X G λ_ _ _ _ _ _=>us3 λ_ _ _=>rfl;have d_l_outside:zC K mg "_law_outside" xQ ["_law_step","_law_count"]:=h_l_outside.d X G λ_ _ _ _ _ _=>us2 λ_ _=>rfl;have d_l_code:zC K mg "_law_code" ZQ ["_law_code_here","_law_group","_law_rows","_law_count"]:=h_l_code.d X G λ_ _ _ _ _ _=>us4 λ_ _ _ _=>rfl;have d_Number_init:yt K C_Number "Number.__init__" xl ["self","number"]:=h_Number_init.i mk_C_Number kC_C_Number λ_ _ _ _ _ _=>us2 λ_ _=>rfl;have d_Cell_init:yt K C_Cell "Cell.__init__" xZ ["self","row"]:=h_Cell_init.i mk_C_Cell kC_C_Cell λ_ _ _ _ _ _=>us2 λ_ _=>rfl;have d_Shifted_init:yt K C_Shifted "Shifted.__init__" y8 ["self","row","by","other"]:=h_Shifted_init.i mk_C_Shifted kC_C_Shifted λ_ _ _ _ _ _=>us4 λ_ _ _ _=>rfl;have d_Local_init:yt K C_Local "Local.__init__" xC ["self","at"]:=h_Local_init.i mk_C_Local kC_C_Local λ_ _ _ _ _ _=>us2 λ_ _=>rfl;have d_At_init:yt K C_At "At.__init__" ZD ["self","row","place"]:=h_At_init.i mk_C_At kC_C_At λ_ _ _ _ _ _=>us3 λ_ _ _=>rfl;have d_Pair_init:yt K C_Pair "Pair.__init__" xY ["self","sign","left","right"]:=h_Pair_init.i mk_C_Pair kC_C_Pair λ_ _ _ _ _ _=>us4 λ_ _ _ _=>rfl;have d_Choice_init:yt K C_Choice "Choice.__init__" xm ["self","test","left","right"]:=h_Choice_init.i mk_C_Choice kC_C_Choice λ_ _ _ _ _ _=>us4 λ_ _ _ _=>rfl;have d_Call_init:yt K C_Call "Call.__init__" x6 ["self","at","handed"]:=h_Call_init.i mk_C_Call kC_C_Call λ_ _ _ _ _ _=>us3 λ_ _ _=>rfl
 have d_Let_init:Ya K C_Let "Let.__init__" xh ["self","target","value","test"]:=⟨f_1,_,⟨mk_C_Let,at_1,fn_1,kC_C_Let⟩,(yH l_1 c_1 k_1 lT_1),(yH l_1 c_1 k_1 lT_1).binds (λ_ _ _ _ _ _ _ us hl=>by
  obtain ⟨a0,u0,rfl,e0⟩:=ucV (n:=3) (by simpa using hl);obtain ⟨a1,u1,rfl,e1⟩:=ucV e0;obtain ⟨a2,u2,rfl,e2⟩:=ucV e1;obtain ⟨a3,u3,rfl,e3⟩:=ucV e2;cases List.eq_nil_of_length_eq_zero e3
  exact ⟨_,rfl,rfl⟩),(yH l_1 c_1 k_1 lT_1).binds (λ_ _ _ _ _ _ _ us hl=>by
  obtain ⟨a0,u0,rfl,e0⟩:=ucV (n:=2) (by simpa using hl);obtain ⟨a1,u1,rfl,e1⟩:=ucV e0;obtain ⟨a2,u2,rfl,e2⟩:=ucV e1;cases List.eq_nil_of_length_eq_zero e2;exact ⟨_,rfl,rfl⟩)⟩
 have d_Let_many_of:yV K C_Let "many_of" "Let.many_of" yT ["self","lengths"]:=h_Let_many_of.m λ_ _ _ _ _ _=>us2 λ_ _=>rfl
 have d_Put_init:Ya K C_Put "Put.__init__" xg ["self","target","value","place","many","test"]:=⟨f_2,_,⟨mk_C_Put,at_2,fn_2,kC_C_Put⟩,(yH l_2 c_2 k_2 lT_2),(yH l_2 c_2 k_2 lT_2).binds (λ_ _ _ _ _ _ _ us hl=>by
  obtain ⟨a0,u0,rfl,e0⟩:=ucV (n:=5) (by simpa using hl);obtain ⟨a1,u1,rfl,e1⟩:=ucV e0;obtain ⟨a2,u2,rfl,e2⟩:=ucV e1;obtain ⟨a3,u3,rfl,e3⟩:=ucV e2;obtain ⟨a4,u4,rfl,e4⟩:=ucV e3;obtain ⟨a5,u5,rfl,e5⟩:=ucV e4;cases List.eq_nil_of_length_eq_zero e5
  exact ⟨_,rfl,rfl⟩),(yH l_2 c_2 k_2 lT_2).binds (λ_ _ _ _ _ _ _ us hl=>by
  obtain ⟨a0,u0,rfl,e0⟩:=ucV (n:=4) (by simpa using hl);obtain ⟨a1,u1,rfl,e1⟩:=ucV e0;obtain ⟨a2,u2,rfl,e2⟩:=ucV e1;obtain ⟨a3,u3,rfl,e3⟩:=ucV e2;obtain ⟨a4,u4,rfl,e4⟩:=ucV e3;cases List.eq_nil_of_length_eq_zero e4;exact ⟨_,rfl,rfl⟩)⟩
 have d_Put_many_of:yV K C_Put "many_of" "Put.many_of" yS ["self","lengths"]:=h_Put_many_of.m λ_ _ _ _ _ _=>us2 λ_ _=>rfl
 have d_Fold_init:Ya K C_Fold "Fold.__init__" yW ["self","target","fold","value","many","test"]:=⟨f_0,_,⟨mk_C_Fold,at_0,fn_0,kC_C_Fold⟩,(yH l_0 c_0 k_0 lT_0),(yH l_0 c_0 k_0 lT_0).binds (λ_ _ _ _ _ _ _ us hl=>by
  obtain ⟨a0,u0,rfl,e0⟩:=ucV (n:=5) (by simpa using hl);obtain ⟨a1,u1,rfl,e1⟩:=ucV e0;obtain ⟨a2,u2,rfl,e2⟩:=ucV e1;obtain ⟨a3,u3,rfl,e3⟩:=ucV e2;obtain ⟨a4,u4,rfl,e4⟩:=ucV e3;obtain ⟨a5,u5,rfl,e5⟩:=ucV e4;cases List.eq_nil_of_length_eq_zero e5
  exact ⟨_,rfl,rfl⟩),(yH l_0 c_0 k_0 lT_0).binds (λ_ _ _ _ _ _ _ us hl=>by
  obtain ⟨a0,u0,rfl,e0⟩:=ucV (n:=4) (by simpa using hl);obtain ⟨a1,u1,rfl,e1⟩:=ucV e0;obtain ⟨a2,u2,rfl,e2⟩:=ucV e1;obtain ⟨a3,u3,rfl,e3⟩:=ucV e2;obtain ⟨a4,u4,rfl,e4⟩:=ucV e3;cases List.eq_nil_of_length_eq_zero e4;exact ⟨_,rfl,rfl⟩)⟩
 have d_Fold_many_of:yV K C_Fold "many_of" "Fold.many_of" yL ["self","lengths"]:=h_Fold_many_of.m λ_ _ _ _ _ _=>us2 λ_ _=>rfl
 have d_Running_init:Ya K C_Running "Running.__init__" yD ["self","target","fold","value","test"]:=⟨f_3,_,⟨mk_C_Running,at_3,fn_3,kC_C_Running⟩,(yH l_3 c_3 k_3 lT_3),(yH l_3 c_3 k_3 lT_3).binds (λ_ _ _ _ _ _ _ us hl=>by
  obtain ⟨a0,u0,rfl,e0⟩:=ucV (n:=4) (by simpa using hl);obtain ⟨a1,u1,rfl,e1⟩:=ucV e0;obtain ⟨a2,u2,rfl,e2⟩:=ucV e1;obtain ⟨a3,u3,rfl,e3⟩:=ucV e2;obtain ⟨a4,u4,rfl,e4⟩:=ucV e3;cases List.eq_nil_of_length_eq_zero e4
  exact ⟨_,rfl,rfl⟩),(yH l_3 c_3 k_3 lT_3).binds (λ_ _ _ _ _ _ _ us hl=>by
  obtain ⟨a0,u0,rfl,e0⟩:=ucV (n:=3) (by simpa using hl);obtain ⟨a1,u1,rfl,e1⟩:=ucV e0;obtain ⟨a2,u2,rfl,e2⟩:=ucV e1;obtain ⟨a3,u3,rfl,e3⟩:=ucV e2;cases List.eq_nil_of_length_eq_zero e3;exact ⟨_,rfl,rfl⟩)⟩
 have d_Running_many_of:yV K C_Running "many_of" "Running.many_of" yx ["self","lengths"]:=h_Running_many_of.m λ_ _ _ _ _ _=>us2 λ_ _=>rfl;have d_Till_init:yt K C_Till "Till.__init__" xX ["self","target","most","steps"]:=h_Till_init.i mk_C_Till kC_C_Till λ_ _ _ _ _ _=>us4 λ_ _ _ _=>rfl;have d_Program_init:yt K C_Program "Program.__init__" y9 ["self","lengths","functions","steps"]:=h_Program_init.i mk_C_Program kC_C_Program λ_ _ _ _ _ _=>us4 λ_ _ _ _=>rfl;have d_Maker_init:yt K C_Maker "Maker.__init__" xB ["self","lengths","functions","group"]:=h_Maker_init.i mk_C_Maker kC_C_Maker λ_ _ _ _ _ _=>us4 λ_ _ _ _=>rfl;have d_Maker_put_by:yV K C_Maker "put_by" "Maker.put_by" xa ["self","seat","mask"]:=h_Maker_put_by.m λ_ _ _ _ _ _=>us3 λ_ _ _=>rfl;have d_Aim_init:yt K C_Aim "Aim.__init__" Zj ["self","seat","mask","level","own"]:=h_Aim_init.i mk_C_Aim kC_C_Aim λ_ _ _ _ _ _=>us5 λ_ _ _ _ _=>rfl;have cl_Number:Cls K C_Number:=h_C_Number.c;have cl_Here:Cls K C_Here:=h_C_Here.c;have cl_Cell:Cls K C_Cell:=h_C_Cell.c;have cl_Shifted:Cls K C_Shifted:=h_C_Shifted.c;have cl_Local:Cls K C_Local:=h_C_Local.c;have cl_At:Cls K C_At:=h_C_At.c;have cl_Pair:Cls K C_Pair:=h_C_Pair.c;have cl_Choice:Cls K C_Choice:=h_C_Choice.c;have cl_Call:Cls K C_Call:=h_C_Call.c;have cl_Let:Cls K C_Let:=h_C_Let.c;have cl_Put:Cls K C_Put:=h_C_Put.c;have cl_Fold:Cls K C_Fold:=h_C_Fold.c;have cl_Running:Cls K C_Running:=h_C_Running.c;have cl_Till:Cls K C_Till:=h_C_Till.c;have cl_Program:Cls K C_Program:=h_C_Program.c;have cl_Maker:Cls K C_Maker:=h_C_Maker.c;have cl_Aim:Cls K C_Aim:=h_C_Aim.c;have mm:=λ{x:Str} {v:Vl} (q:PySem.W.nsIn K mainGlobals x=some (some v))=>PySem.W.mg_of X G q;have mz:=λ{x:Str} (q:PySem.W.nsIn K mainGlobals x=some none)=>PySem.W.mg_none_of X G q;refine ⟨PySem.W.fnOf "law" "law" (yk Yx) (z8 Yx) (zm Yx) .none kV_law dc_law pm_law an_law cd_law ct_law,λs v=>.of_eq rfl,λbase kb nb=>?_⟩;let c:F2.Cs:=⟨⟨C_Number,C_Here,C_Cell,C_Shifted,C_Local,C_At,C_Pair,C_Choice,0⟩,C_Call⟩;let q:QCs:=⟨C_Maker,C_Aim,C_Let,C_Put,C_Fold,C_Running,C_Till,C_Program⟩;have G:FormG mg c:=⟨mm a_C_At,mm a_C_Pair,mm a_C_Choice,mm a_C_Call,mm a_C_Number,mm a_C_Here,mm a_C_Cell,mm a_C_Shifted,mm a_C_Local⟩;have SG:StepG mg q:=⟨mm a_C_Let,mm a_C_Put,mm a_C_Fold,mm a_C_Till⟩;have AG:AimG mg q:=⟨mm a_C_Maker,mm a_C_Aim⟩;have LK:FormK K c:=⟨⟨⟨cl_Number,i1_Number,i2_Number,i3_Number,i4_Number⟩,kl_Number_At,kl_Number_Pair,kl_Number_Choice,kl_Number_Call,kl_Number_Number,kl_Number_Here,kl_Number_Cell,kl_Number_Shifted⟩,(fn_C_Number.g 0 rfl),⟨⟨cl_Cell,i1_Cell,i2_Cell,i3_Cell,i4_Cell⟩,kl_Cell_At,kl_Cell_Pair,kl_Cell_Choice,kl_Cell_Call,kl_Cell_Number,kl_Cell_Here,kl_Cell_Cell,kl_Cell_Shifted⟩,(fn_C_Cell.g 0 rfl),⟨⟨cl_Here,i1_Here,i2_Here,i3_Here,i4_Here⟩,kl_Here_At,kl_Here_Pair,kl_Here_Choice,kl_Here_Call,kl_Here_Number,kl_Here_Here,kl_Here_Cell,kl_Here_Shifted⟩,⟨⟨cl_Pair,i1_Pair,i2_Pair,i3_Pair,i4_Pair⟩,kl_Pair_At,kl_Pair_Pair,kl_Pair_Choice,kl_Pair_Call,kl_Pair_Number,kl_Pair_Here,kl_Pair_Cell,kl_Pair_Shifted⟩,(fn_C_Pair.g 0 rfl),(fn_C_Pair.g 1 rfl),(fn_C_Pair.g 2 rfl),⟨⟨cl_Choice,i1_Choice,i2_Choice,i3_Choice,i4_Choice⟩,kl_Choice_At,kl_Choice_Pair,kl_Choice_Choice,kl_Choice_Call,kl_Choice_Number,kl_Choice_Here,kl_Choice_Cell,kl_Choice_Shifted⟩,(fn_C_Choice.g 0 rfl),(fn_C_Choice.g 1 rfl),(fn_C_Choice.g 2 rfl),⟨⟨cl_At,i1_At,i2_At,i3_At,i4_At⟩,kl_At_At,kl_At_Pair,kl_At_Choice,kl_At_Call,kl_At_Number,kl_At_Here,kl_At_Cell,kl_At_Shifted⟩,(fn_C_At.g 0 rfl),(fn_C_At.g 1 rfl),⟨⟨cl_Shifted,i1_Shifted,i2_Shifted,i3_Shifted,i4_Shifted⟩,kl_Shifted_At,kl_Shifted_Pair,kl_Shifted_Choice,kl_Shifted_Call,kl_Shifted_Number,kl_Shifted_Here,kl_Shifted_Cell,kl_Shifted_Shifted⟩,(fn_C_Shifted.g 0 rfl),(fn_C_Shifted.g 1 rfl),(fn_C_Shifted.g 2 rfl),⟨⟨cl_Local,i1_Local,i2_Local,i3_Local,i4_Local⟩,kl_Local_At,kl_Local_Pair,kl_Local_Choice,kl_Local_Call,kl_Local_Number,kl_Local_Here,kl_Local_Cell,kl_Local_Shifted⟩,(fn_C_Local.g 0 rfl),⟨⟨cl_Call,i1_Call,i2_Call,i3_Call,i4_Call⟩,kl_Call_At,kl_Call_Pair,kl_Call_Choice,kl_Call_Call,kl_Call_Number,kl_Call_Here,kl_Call_Cell,kl_Call_Shifted⟩,(fn_C_Call.g 0 rfl),(fn_C_Call.g 1 rfl)⟩;have SK:StepK K q:=⟨⟨⟨cl_Let,i1_Let,i2_Let,i3_Let,i4_Let⟩,kl_Let_Put,kl_Let_Let,kl_Let_Fold,kl_Let_Till,(fn_C_Let.g 0 rfl),(fn_C_Let.g 1 rfl),(fn_C_Let.g 2 rfl)⟩,⟨⟨cl_Put,i1_Put,i2_Put,i3_Put,i4_Put⟩,kl_Put_Put,kl_Put_Let,kl_Put_Fold,kl_Put_Till,(fn_C_Put.g 0 rfl),(fn_C_Put.g 1 rfl),(fn_C_Put.g 4 rfl)⟩,(fn_C_Put.g 2 rfl),(fn_C_Put.g 3 rfl),⟨⟨cl_Fold,i1_Fold,i2_Fold,i3_Fold,i4_Fold⟩,kl_Fold_Put,kl_Fold_Let,kl_Fold_Fold,kl_Fold_Till,(fn_C_Fold.g 0 rfl),(fn_C_Fold.g 2 rfl),(fn_C_Fold.g 4 rfl)⟩,(fn_C_Fold.g 1 rfl),(fn_C_Fold.g 3 rfl),⟨⟨cl_Running,i1_Running,i2_Running,i3_Running,i4_Running⟩,kl_Running_Put,kl_Running_Let,kl_Running_Fold,kl_Running_Till,(fn_C_Running.g 0 rfl),(fn_C_Running.g 2 rfl),(fn_C_Running.g 3 rfl)⟩,(fn_C_Running.g 1 rfl)⟩;have TC:TillC K q:=⟨⟨cl_Till,i1_Till,i2_Till,i3_Till,i4_Till⟩,kl_Till_Till,(fn_C_Till.g 0 rfl),(fn_C_Till.g 1 rfl),(fn_C_Till.g 2 rfl)⟩;have MC:MakerC K q.ma:=⟨cl_Maker,(fn_C_Maker.g 0 rfl),(fn_C_Maker.g 1 rfl),(fn_C_Maker.g 2 rfl),(fn_C_Maker.g 3 rfl),(fn_C_Maker.g 4 rfl)⟩;have AC:AimC K q.ai:=⟨cl_Aim,(fn_C_Aim.g 0 rfl),(fn_C_Aim.g 1 rfl),(fn_C_Aim.g 2 rfl),(fn_C_Aim.g 3 rfl)⟩;have PC:PrC K q.pr:=⟨cl_Program,(fn_C_Program.g 0 rfl),(fn_C_Program.g 1 rfl),(fn_C_Program.g 2 rfl)⟩;have N':Ints K mg:=⟨mz (tb1.g 0 rfl),mz (tb1.g 1 rfl),mz (tb1.g 2 rfl),k_int_int,k_int_bool⟩;have TS:TyS K mg:=⟨mz (tb1.g 0 rfl),mz (tb1.g 1 rfl),mz (tb1.g 3 rfl),k_str_str⟩;have TL:TyL K mg:=⟨mz (tb1.g 0 rfl),mz (tb1.g 1 rfl),mz (tb1.g 4 rfl),mz (tb1.g 5 rfl),k_tuple_tuple,k_list_list⟩;have WH:=ok_whole (P:=l.prog) (w:=w) (base:=base) d_l_whole N'
 have KB:=zac (P:=l.prog) (w:=w) (base:=base) d_l_kept_by
 have MHe:MkN K C_Here:=⟨mk_C_Here,in_C_Here,kC_C_Here⟩;have I_Number:=zaf (P:=l.prog) (w:=w) (mg:=mg) (base:=base) d_Number_init cl_Number (fn_C_Number.g 0 rfl);have I_Cell:=okI_Cell (P:=l.prog) (w:=w) (mg:=mg) (base:=base) d_Cell_init cl_Cell (fn_C_Cell.g 0 rfl);have I_Shifted:=XQ (P:=l.prog) (w:=w) (mg:=mg) (base:=base) d_Shifted_init cl_Shifted (fn_C_Shifted.g 0 rfl) (fn_C_Shifted.g 1 rfl) (fn_C_Shifted.g 2 rfl);have I_Local:=okI_Local (P:=l.prog) (w:=w) (mg:=mg) (base:=base) d_Local_init cl_Local (fn_C_Local.g 0 rfl);have I_At:=okI_At (P:=l.prog) (w:=w) (mg:=mg) (base:=base) d_At_init cl_At (fn_C_At.g 0 rfl) (fn_C_At.g 1 rfl);have I_Pair:=okI_Pair (P:=l.prog) (w:=w) (mg:=mg) (base:=base) d_Pair_init cl_Pair (fn_C_Pair.g 0 rfl) (fn_C_Pair.g 1 rfl) (fn_C_Pair.g 2 rfl);have I_Choice:=zag (P:=l.prog) (w:=w) (mg:=mg) (base:=base) d_Choice_init cl_Choice (fn_C_Choice.g 0 rfl) (fn_C_Choice.g 1 rfl) (fn_C_Choice.g 2 rfl);have I_Call:=okI_Call (P:=l.prog) (w:=w) (mg:=mg) (base:=base) d_Call_init (mz (tb1.g 5 rfl)) cl_Call (fn_C_Call.g 0 rfl) (fn_C_Call.g 1 rfl);have I_Let:=okN_Let (P:=l.prog) (w:=w) (mg:=mg) (base:=base) d_Let_init cl_Let (fn_C_Let.g 0 rfl) (fn_C_Let.g 1 rfl) (fn_C_Let.g 2 rfl);have I_Put:=okN_Put (P:=l.prog) (w:=w) (mg:=mg) (base:=base) d_Put_init cl_Put (fn_C_Put.g 0 rfl) (fn_C_Put.g 1 rfl) (fn_C_Put.g 2 rfl) (fn_C_Put.g 3 rfl) (fn_C_Put.g 4 rfl);have I_Fold:=okN_Fold (P:=l.prog) (w:=w) (mg:=mg) (base:=base) d_Fold_init cl_Fold (fn_C_Fold.g 0 rfl) (fn_C_Fold.g 1 rfl) (fn_C_Fold.g 2 rfl) (fn_C_Fold.g 3 rfl) (fn_C_Fold.g 4 rfl);have I_Running:=XO (P:=l.prog) (w:=w) (mg:=mg) (base:=base) d_Running_init cl_Running (fn_C_Running.g 0 rfl) (fn_C_Running.g 1 rfl) (fn_C_Running.g 2 rfl) (fn_C_Running.g 3 rfl);have I_Till:=okI_Till (P:=l.prog) (w:=w) (mg:=mg) (base:=base) d_Till_init (mz (tb1.g 5 rfl)) cl_Till (fn_C_Till.g 0 rfl) (fn_C_Till.g 1 rfl) (fn_C_Till.g 2 rfl);have IA:=okI_Aim (P:=l.prog) (w:=w) (mg:=mg) (base:=base) d_Aim_init cl_Aim (fn_C_Aim.g 0 rfl) (fn_C_Aim.g 1 rfl) (fn_C_Aim.g 2 rfl) (fn_C_Aim.g 3 rfl);have IM:=okI_Mk (P:=l.prog) (w:=w) (base:=base) (q:=q) d_Maker_init (mm aB) MC;have IPr:=okI_ProgU (P:=l.prog) (w:=w) (mg:=mg) (base:=base) d_Program_init (mz (tb1.g 5 rfl)) PC;have SFn:=ok_sf (P:=l.prog) (w:=w) (base:=base) (c:=c) d_seats_for d_seats_for_two d_seats_for_call (mz (tb1.g 0 rfl)) (mz (tb1.g 8 rfl)) G LK;have SF:=SFn 50 (by decide);have SSn:=ok_ss (c:=c) (q:=q) (n:=50) d_seats_for_step (mz (tb1.g 0 rfl)) (mz (tb1.g 8 rfl)) SG SK SF (ok_s2 d_seats_for_two (mz (tb1.g 8 rfl)) SF);have CSt:=XN (P:=l.prog) (w:=w) (mg:=mg) (base:=base) (c:=c) (q:=q) d_cell_step LK MC AC;have LSt:=XM (c:=c) (q:=q) d_leaf_step (mz (tb1.g 0 rfl)) G LK MC AC CSt;have PBy:=ok_putby (P:=l.prog) (w:=w) (mg:=mg) (base:=base) (q:=q) d_Maker_put_by MC;have MF:=ok_mk (P:=l.prog) (w:=w) (base:=base) (c:=c) (q:=q) ⟨d_make_form,d_make_at,d_make_pair,d_make_choice,d_make_call,d_make_two⟩ (mz (tb1.g 0 rfl)) (mm aFC) G LK MC AC AG IA PBy LSt SFn 50 (by decide);have MTe:=ok_mt (c:=c) (q:=q) (n:=50) d_make_test (mm aT) SK MC AG IA MF;have MTw:=ok_two (c:=c) (q:=q) (n:=50) d_make_two MC AC AG IA PBy SF MF;have MVa:=ok_mv (c:=c) (q:=q) (n:=50) d_make_value (mz (tb1.g 0 rfl)) SG SK MC AG IA MF MTw;have MOf:=ok_many (P:=l.prog) (w:=w) (mg:=mg) (base:=base) (c:=c) (q:=q) d_Let_many_of d_Put_many_of d_Fold_many_of d_Running_many_of SK;have GF:=ok_groupF (P:=l.prog) (w:=w) (base:=base) d_group_for;have ROn:=ok_rnd (c:=c) (q:=q) (n:=50) d_round_of (mz (tb1.g 9 rfl)) SK PC MC AG SSn GF IM MOf MTe MVa (ok_may d_may_fault);have COn:=ok_cnt (P:=l.prog) (w:=w) (base:=base) (c:=c) (q:=q) d_count_of (mz (tb1.g 0 rfl)) SG SK TC;have LA:=ok_look (c:=c) (q:=q) d_look_at PC GF;have CDe:=ok_code (c:=c) (q:=q) (n:=50) d_code_of d_turns_of d_count_of (mz (tb1.g 0 rfl)) SG SK TC LA ROn 4;have MDe:=ok_made (c:=c) (q:=q) (n:=50) (m:=4) d_made PC CDe
 have RB:=ok_rowby (P:=l.prog) (w:=w) (base:=base) d_l_row_by
 have LB:=ok_leafby (c:=c) d_l_leaf_by G RB KB MHe I_Number I_Cell I_Shifted
 have SB:=ok_signby (P:=l.prog) (w:=w) (base:=base) d_l_sign_by
 have GR:=ok_grown (c:=c) d_l_grown (mz (tb1.g 6 rfl)) G RB LB SB I_Number I_At I_Pair I_Choice I_Call;have FO:=ok_formby (c:=c) d_l_form_by (mz (tb1.g 6 rfl)) (mz (tb1.g 7 rfl)) G GR MHe I_Pair;have STb:=ok_stepby (c:=c) (q:=q) d_l_step_by (mz (tb1.g 6 rfl)) G SG (mm a_C_Running) FO I_Number I_Pair I_Let I_Put I_Fold I_Running;have SSb:=zaa (c:=c) (q:=q) d_l_steps_by (mz (tb1.g 6 rfl)) SG STb I_Till;have CA:=zae (P:=l.prog) (w:=w) (base:=base) d_l_cell_at (mz (tb1.g 6 rfl));have LN:=ok_lenby d_l_lengths_by CA;have PR:=ok_progby (c:=c) (q:=q) d_l_program_by (mz (tb1.g 5 rfl)) (mm a_C_Program) G CA SB SSb I_Pair I_Local I_Call IPr;have SH:=ok_shape (P:=l.prog) (w:=w) (base:=base) d_l_shape;have PA:=ok_part d_l_part TS WH;have IR:=zad d_l_in_round (mz (tb1.g 6 rfl)) (mz (tb1.g 7 rfl)) SH PA;have OU:=zab d_l_outside (mz (tb1.g 6 rfl)) WH;have LC:=ok_lcode d_l_code (mz (tb1.g 6 rfl)) TL IR OU;exact ok_law (c:=c) (q:=q) (ZN (st:=Yx) l_law c_law k_law) (mz (tb1.g 6 rfl)) TL PC CA LN PR MDe (COn 4) LC
def walk {l:PySem.W.OpenLaw} {q:Program} {loose:Je} {XP:(J0)->Heap->Prop} {YP:World->Heap->Prop} {d:DefRec} {K:Params->Fg} (hn:l.most=some 63) (hdf:d.params.defaults=[])
  (hY:∀ (w:World) (h:Heap),YP w h->(K w.params).In h)
  (F:∀ (w:World) (mg:J0) (fa:Ad) (h:Heap),(K w.params).In h->h.Ns mainGlobals mg->mg d.name=some (.ref fa) ->
   ∃ fd:FuncData,(∀ (s:Sh) (u:Vl),BindsTo s fd ⟨[u],[]⟩ [("_law_script",u)])/\∀ base:Heap,(K w.params).In base->base.Ns mainGlobals mg->FnOk l.prog w (K w.params) mg base CX0 168 fa fd ["_law_script"] (spLaw (K w.params))) :
  PySem.W.WalkO q loose XP YP l.row.toRowW d [] (λf vs=>PySem.call f vs) :=
 L2.walk_of (n:=63) (k:=168) (x:="_law_script") (CX:=λ_=>CX0) (sp:=λw=>spLaw (K w.params)) hn (by decide) hdf ⟨rfl,by decide,by decide⟩ hY F (λ_ _ a ns hl _ hS=>⟨a,ns,rfl,hS,hl,λ_=>rfl⟩) λ_ _ _ _ _ z=>z
end K48
open PySem PySem.W PyProof.Rows
set_option maxRecDepth 100000 in
set_option maxHeartbeats 0 in
theorem PySem.Challenge.cw_rowbreadth_k48_names_in_bounds_holds : PySem.Challenge.rw_rowbreadth_k48_names_in_bounds.Holds := by
 refine K48hd ?_
 k_fill
 refine K48.walk (l:=PySem.Challenge.rw_rowbreadth_k48_names_in_bounds) rfl rfl (λw h Y=>Y) ?F
 case F =>
  intro w mg fa h KX G hmg
  refine' K48.all_mk KX G hmg ?q0 ?q1 ?q2 ?q3 ?q4 ?q5 ?q6 ?q7 ?q8 ?q9 ?qa ?qb ?qc ?qd ?qe ?qf ?qg ?qh ?qi ?qj ?qk ?ql ?qm ?qn ?qo ?qp ?qq ?qr ?qs ?qt ?qu ?qv ?qw ?qx ?qy ?qz ?q10 ?q11 ?q12 ?q13 ?q14 ?q15 ?q16 ?q17 ?q18 ?q19 ?q1a ?q1b ?q1c ?q1d ?q1e ?q1f ?q1g ?q1h ?q1i ?q1j ?q1k ?q1l ?q1m ?q1n ?q1o ?q1p ?q1q ?q1r ?q1s ?q1t ?q1u ?q1v ?q1w ?q1x ?q1y ?q1z ?q20 ?q21 ?q22 ?q23 ?q24 ?q25 ?q26 ?q27 ?q28 ?q29 ?q2a ?q2b ?q2c ?q2d ?q2e ?q2f ?q2g ?q2h ?q2i ?q2j ?q2k ?q2l ?q2m ?q2n ?q2o ?q2p ?q2q ?q2r ?q2s ?q2t ?q2u ?q2v ?q2w ?q2x ?q2y ?q2z ?q30 ?q31 ?q32 ?q33 ?q34 ?q35 ?q36 ?q37 ?q38 ?q39 ?q3a ?q3b ?q3c ?q3d ?q3e ?q3f ?q3g ?q3h ?q3i ?q3j ?q3k ?q3l ?q3m ?q3n ?q3o ?q3p ?q3q ?q3r ?q3s ?q3t ?q3u ?q3v ?q3w ?q3x ?q3y ?q3z ?q40 ?q41 ?q42 ?q43 ?q44 ?q45 ?q46 ?q47 ?q48 ?q49 ?q4a ?q4b ?q4c ?q4d ?q4e ?q4f ?q4g ?q4h ?q4i ?q4j ?q4k ?q4l ?q4m ?q4n ?q4o ?q4p ?q4q ?q4r ?q4s ?q4t ?q4u ?q4v ?q4w ?q4x ?q4y ?q4z ?q50 ?q51 ?q52 ?q53 ?q54 ?q55 ?q56 ?q57 ?q58 ?q59 ?q5a ?q5b ?q5c ?q5d ?q5e ?q5f ?q5g ?q5h ?q5i ?q5j ?q5k ?q5l ?q5m ?q5n ?q5o ?q5p ?q5q ?q5r ?q5s ?q5t ?q5u ?q5v ?q5w ?q5x ?q5y ?q5z ?q60 ?q61 ?q62 ?q63 ?q64 ?q65 ?q66 ?q67 ?q68 ?q69 ?q6a ?q6b ?q6c ?q6d ?q6e ?q6f ?q6g ?q6h ?q6i ?q6j ?q6k ?q6l ?q6m ?q6n ?q6o ?q6p ?q6q ?q6r ?q6s ?q6t ?q6u ?q6v ?q6w ?q6x ?q6y ?q6z ?q70 ?q71 ?q72 ?q73 ?q74 ?q75 ?q76 ?q77 ?q78 ?q79 ?q7a ?q7b ?q7c ?q7d ?q7e ?q7f ?q7g ?q7h ?q7i ?q7j ?q7k ?q7l ?q7m ?q7n ?q7o ?q7p ?q7q ?q7r ?q7s ?q7t ?q7u ?q7v ?q7w ?q7x ?q7y ?q7z ?q80 ?q81 ?q82 ?q83 ?q84 ?q85 ?q86 ?q87 ?q88 ?q89 ?q8a ?q8b ?q8c ?q8d ?q8e ?q8f ?q8g ?q8h ?q8i ?q8j ?q8k ?q8l ?q8m ?q8n ?q8o ?q8p ?q8q ?q8r ?q8s ?q8t ?q8u ?q8v ?q8w ?q8x ?q8y ?q8z
  (case q0 | q1 | q2 | q3 | q4 | q5 | q6 | q7 | q8 | q9 | qa | qb | qc | qd | qe | qf | qg | qh | qi | qj | qk | qq | qr | qs | qt | qu | qv | qw | qx | qy | qz | q10 | q11 | q12 | q13 | q14 | q15 | q16 | q17=>(refine' L2.DH.mk ?a ?b ?c ?d;(case a=>k_is);(case b=>k_is);(case c=>k_is);(case d=>k_is)))
  (case ql | qm | qn | qo | qp | q18=>k_is)
  (case q19=>(refine ⟨?_,?_,?_,?_⟩ <;> k_is))
  (case q1a=>(repeat' first | exact trivial | refine And.intro ?_ ?_ | k_is))
  (case q1b | q1c=>k_is)
  (case q1d=>(refine' L2.MH.mk ?a ?b ?c ?d ?e;(case a=>k_is);(case b=>k_is);(case c=>k_is);(case d=>k_is);(case e=>k_is)))
  (case q1e=>k_is)
  (case q1f=>(refine ⟨?_,?_,?_,?_⟩ <;> k_is))
  (case q1g | q1h | q1i | q1j=>k_is)
  (case q1k=>(refine ⟨?_,?_,?_,?_⟩ <;> k_is))
  (case q1l=>(repeat' first | exact trivial | refine And.intro ?_ ?_ | k_is))
  (case q1m | q1n=>k_is)
  (case q1o=>(refine' L2.MH.mk ?a ?b ?c ?d ?e;(case a=>k_is);(case b=>k_is);(case c=>k_is);(case d=>k_is);(case e=>k_is)))
  (case q1p=>k_is)
  (case q1q=>(refine ⟨?_,?_,?_,?_⟩ <;> k_is))
  (case q1r=>(repeat' first | exact trivial | refine And.intro ?_ ?_ | k_is))
  (case q1s | q1t=>k_is)
  (case q1u=>(refine' L2.MH.mk ?a ?b ?c ?d ?e;(case a=>k_is);(case b=>k_is);(case c=>k_is);(case d=>k_is);(case e=>k_is)))
  (case q1v=>k_is)
  (case q1w=>(refine ⟨?_,?_,?_,?_⟩ <;> k_is))
  (case q1x=>(repeat' first | exact trivial | refine And.intro ?_ ?_ | k_is))
  (case q1y | q1z=>k_is)
  (case q20=>(refine' L2.MH.mk ?a ?b ?c ?d ?e;(case a=>k_is);(case b=>k_is);(case c=>k_is);(case d=>k_is);(case e=>k_is)))
  (case q21=>k_is)
  (case q22=>(refine ⟨?_,?_,?_,?_⟩ <;> k_is))
  (case q23=>(repeat' first | exact trivial | refine And.intro ?_ ?_ | k_is))
  (case q24 | q25=>k_is)
  (case q26=>(refine' L2.MH.mk ?a ?b ?c ?d ?e;(case a=>k_is);(case b=>k_is);(case c=>k_is);(case d=>k_is);(case e=>k_is)))
  (case q27=>k_is)
  (case q28=>(refine ⟨?_,?_,?_,?_⟩ <;> k_is))
  (case q29=>(repeat' first | exact trivial | refine And.intro ?_ ?_ | k_is))
  (case q2a | q2b=>k_is)
  (case q2c=>(refine' L2.MH.mk ?a ?b ?c ?d ?e;(case a=>k_is);(case b=>k_is);(case c=>k_is);(case d=>k_is);(case e=>k_is)))
  (case q2d=>k_is)
  (case q2e=>(refine ⟨?_,?_,?_,?_⟩ <;> k_is))
  (case q2f=>(repeat' first | exact trivial | refine And.intro ?_ ?_ | k_is))
  (case q2g | q2h=>k_is)
  (case q2i=>(refine' L2.MH.mk ?a ?b ?c ?d ?e;(case a=>k_is);(case b=>k_is);(case c=>k_is);(case d=>k_is);(case e=>k_is)))
  (case q2j=>k_is)
  (case q2k=>(refine ⟨?_,?_,?_,?_⟩ <;> k_is))
  (case q2l=>(repeat' first | exact trivial | refine And.intro ?_ ?_ | k_is))
  (case q2m | q2n=>k_is)
  (case q2o=>(refine' L2.MH.mk ?a ?b ?c ?d ?e;(case a=>k_is);(case b=>k_is);(case c=>k_is);(case d=>k_is);(case e=>k_is)))
  (case q2p=>k_is)
  (case q2q=>(refine ⟨?_,?_,?_,?_⟩ <;> k_is))
  (case q2r=>(repeat' first | exact trivial | refine And.intro ?_ ?_ | k_is))
  (case q2s | q2t | q2u | q2v | q2w | q2x | q2y | q2z=>k_is)
  (case q30=>(refine' L2.MH.mk ?a ?b ?c ?d ?e;(case a=>k_is);(case b=>k_is);(case c=>k_is);(case d=>k_is);(case e=>k_is)))
  (case q31=>k_is)
  (case q32=>(refine ⟨?_,?_,?_,?_⟩ <;> k_is))
  (case q33=>(repeat' first | exact trivial | refine And.intro ?_ ?_ | k_is))
  (case q34 | q35 | q36 | q37 | q38 | q39 | q3a | q3b=>k_is)
  (case q3c=>(refine' L2.MH.mk ?a ?b ?c ?d ?e;(case a=>k_is);(case b=>k_is);(case c=>k_is);(case d=>k_is);(case e=>k_is)))
  (case q3d=>k_is)
  (case q3e=>(refine ⟨?_,?_,?_,?_⟩ <;> k_is))
  (case q3f=>(repeat' first | exact trivial | refine And.intro ?_ ?_ | k_is))
  (case q3g | q3h | q3i | q3j | q3k | q3l | q3m | q3n=>k_is)
  (case q3o=>(refine' L2.MH.mk ?a ?b ?c ?d ?e;(case a=>k_is);(case b=>k_is);(case c=>k_is);(case d=>k_is);(case e=>k_is)))
  (case q3p=>k_is)
  (case q3q=>(refine ⟨?_,?_,?_,?_⟩ <;> k_is))
  (case q3r=>(repeat' first | exact trivial | refine And.intro ?_ ?_ | k_is))
  (case q3s | q3t | q3u | q3v | q3w | q3x | q3y | q3z=>k_is)
  (case q40=>(refine' L2.MH.mk ?a ?b ?c ?d ?e;(case a=>k_is);(case b=>k_is);(case c=>k_is);(case d=>k_is);(case e=>k_is)))
  (case q41=>k_is)
  (case q42=>(refine ⟨?_,?_,?_,?_⟩ <;> k_is))
  (case q43=>(repeat' first | exact trivial | refine And.intro ?_ ?_ | k_is))
  (case q44 | q45=>k_is)
  (case q46=>(refine' L2.MH.mk ?a ?b ?c ?d ?e;(case a=>k_is);(case b=>k_is);(case c=>k_is);(case d=>k_is);(case e=>k_is)))
  (case q47=>k_is)
  (case q48=>(refine ⟨?_,?_,?_,?_⟩ <;> k_is))
  (case q49=>(repeat' first | exact trivial | refine And.intro ?_ ?_ | k_is))
  (case q4a | q4b=>k_is)
  (case q4c=>(refine' L2.MH.mk ?a ?b ?c ?d ?e;(case a=>k_is);(case b=>k_is);(case c=>k_is);(case d=>k_is);(case e=>k_is)))
  (case q4d=>k_is)
  (case q4e=>(refine ⟨?_,?_,?_,?_⟩ <;> k_is))
  (case q4f=>(repeat' first | exact trivial | refine And.intro ?_ ?_ | k_is))
  (case q4g | q4h=>k_is)
  (case q4i | q4j=>(refine' L2.MH.mk ?a ?b ?c ?d ?e;(case a=>k_is);(case b=>k_is);(case c=>k_is);(case d=>k_is);(case e=>k_is)))
  (case q4k=>k_is)
  (case q4l=>(refine ⟨?_,?_,?_,?_⟩ <;> k_is))
  (case q4m=>(repeat' first | exact trivial | refine And.intro ?_ ?_ | k_is))
  (case q4n | q4o=>k_is)
  (case q4p=>(refine' L2.MH.mk ?a ?b ?c ?d ?e;(case a=>k_is);(case b=>k_is);(case c=>k_is);(case d=>k_is);(case e=>k_is)))
  (case q4q | q4r | q4s | q4t | q4u=>kit_is)
  (case q4v=>(repeat' first | exact trivial | refine And.intro ?_ ?_ | k_is))
  (case q4w | q4x | q4y | q4z | q50 | q51 | q52 | q53 | q54 | q55 | q56 | q57 | q58 | q59 | q5a | q5b | q5c | q5d | q5e | q5f | q5g | q5h | q5i | q5j | q5k | q5l | q5m | q5n | q5o | q5p | q5q | q5r | q5s | q5t | q5u | q5v | q5w | q5x | q5y | q5z=>k_is)
  (case q60 | q61 | q62 | q63 | q64 | q65 | q66 | q67 | q68 | q69 | q6a | q6b | q6c | q6d | q6e | q6f | q6g | q6h | q6i=>k_is)
  (case q6j | q6k | q6l | q6m | q6n | q6o | q6p | q6q | q6r | q6s | q6t | q6u | q6v | q6w | q6x | q6y | q6z | q70 | q71 | q72 | q73 | q74 | q75 | q76 | q77 | q78 | q79 | q7a | q7b | q7c | q7d | q7e | q7f | q7g | q7h | q7i | q7j | q7k | q7l | q7m=>kit_is)
  (case q7n | q7o | q7p | q7q | q7r | q7s | q7t | q7u | q7v | q7w | q7x | q7y | q7z | q80 | q81 | q82 | q83 | q84 | q85 | q86 | q87 | q88 | q89 | q8a | q8b | q8c | q8d | q8e | q8f | q8g | q8h | q8i | q8j | q8k | q8l | q8m | q8n | q8o | q8p | q8q=>kit_is)
  (case q8r | q8s | q8t | q8u | q8v | q8w | q8x | q8y | q8z=>kit_is)
