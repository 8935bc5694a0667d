import PyProof.Rows.All
import Wide.All
import Wide.FinOn
import OpenK.KLine
import KE.RegKIsAll
import KE.KDictOf
import KE.KItem
import KE.LcSums
import KE.KBits
import PyProof.EqAt
import PyProof.EqKinds
import PyProof.TupleCall
import KE.KDictList
import KE.KDictSum
import KE.KRevIter
import PyProof.Rows.SortWalk
import PyProof.Rows.FactsT3
import KE.RegKTryMore
import KE.KTryMore
import PySem.Challenge.RW_rowbreadth_k52_nothing_laid_for_nothing
set_option Elab.async false
set_option linter.all false
set_option maxRecDepth 100000
set_option maxHeartbeats 4000000
abbrev Fg:=PySem.W.Frag
abbrev Vl:=PySem.Value
abbrev Ad:=PySem.Addr
abbrev Sh:=PySem.Shared
abbrev J0:=PySem.Str->Option Vl
abbrev Jg:=Vl->Sh->Prop
abbrev Jh:=List Int
abbrev Ji:=List (Ad×PySem.Obj)
abbrev Jj:=List Vl
abbrev Jk:=Option Vl
abbrev Jl:=List PySem.Str
abbrev Jm:=List Ad
abbrev Jn:=List PySem.Expr
theorem Jo {α:Type _} {β:Type _} {as:List α} {f:α->β}:(as.map f).length=as.length:=List.length_map ..
theorem Jp {α:Type _} {as bs:List α}:(as++bs).length=as.length+bs.length:=List.length_append ..
theorem Jq {α:Type _} {β:Type _} {f:α->β} {as bs:List α}:(as++bs).map f=as.map f++bs.map f:=List.map_append ..
namespace PySem.W.Fast
def tw10421927812517002866:=0
def tw18356604613603664693:=0
def tw11888906779918051034:=0
def tw7069546598309024311:=0
def tw13370362668980032404:=0
def tw11059702722291272448:=0
def tw5823118385065789071:=0
def tw8979446073743039891:=0
def tw1142627371273860991:=0
def tw10424970553196559204:=0
def tw16746976320614979272:=0
def tw13871759229730046813:=0
def tw6650947581791710137:=0
def tw14831348873230784384:=0
def tw3644744742241051714:=0
def tw1401632127802630510:=0
def tw9476891436511816772:=0
def tw8504315218534933751:=0
def tw12815748416018518290:=0
def tw6478575312172220773:=0
def tw11637806309095676894:=0
def tw11730860464655734985:=0
def tw5243078704656877967:=0
def tw373626808122385892:=0
def tw7591232490263358779:=0
def tw15209967573867826523:=0
def tw10112659091933370336:=0
def tw17809049449625288266:=0
def tw11361532772996743107:=0
def tw2575268678825344291:=0
def tw3336476115344026959:=0
def tw15451933870351852035:=0
def tw3961571009336579147:=0
def tw1588129908424367730:=0
def tw3581360984950952764:=0
def tw3742068625976804102:=0
def tw1342517163707643922:=0
def tw5673726315735369913:=0
def tw17035400050553398750:=0
def tw17490599441180820389:=0
def tw8597700633337404834:=0
def tw3495567664159284422:=0
def tw3271305915127410969:=0
def tw15733030681648502491:=0
def tw14567663177431247608:=0
def tw10090773258529456574:=0
def tw16889764665298335124:=0
def tw15166357324114195395:=0
def tw1842928542429247881:=0
def tw4382837917322914708:=0
def tw10203742552100446284:=0
def tw2349859093897931737:=0
def tw3745810650016252443:=0
def tw14719262936576019151:=0
def tw9570057211030190046:=0
def tw783304715888036339:=0
def tw6127610711663675648:=0
def tw10146970229933744452:=0
def tw14606735392572387877:=0
def tw2341586733247315050:=0
def tw7156527062491998699:=0
def tw13809519356953204897:=0
def tw10901021883976152714:=0
def tw12528837153028568889:=0
def tw1344389855230494273:=0
def tw6244426990612700011:=0
def tw14784062492300210313:=0
def tw4569941672676687124:=0
def tw10952580579635188413:=0
def tw10829059430815488851:=0
def tw11818459479812046893:=0
def tw18050241411819952567:=0
def tw12203197822684222827:=0
def tw15520888987270017005:=0
def tw7230831451758413753:=0
def tw16825907723433617894:=0
def tw9037676353162462384:=0
def tw7454992794955344023:=0
def tw13273888261063141084:=0
def tw16091250872581251759:=0
def tw16503947627628746602:=0
def tw15184534215582891428:=0
def tw18170199568078544033:=0
def tw2932785200421506857:=0
def tw9655458701885174782:=0
def tw1568115007859968838:=0
def tw7240528376869112424:=0
def tw2771549053358691629:=0
def tw8314358938510630054:=0
def tw6199556910005471614:=0
def tw18233608631655917451:=0
def tw6992522877743680498:=0
def tw12368284022465682095:=0
def tw12878787341461099785:=0
def tw1560437094052280304:=0
def tw13701149661220214661:=0
def tw3786107095038222968:=0
def tw5152368109679128997:=0
def tw3626049971806306913:=0
def tw11179186610115625808:=0
def tw12458762034599987424:=0
def tw6914719617618487244:=0
def tw15362228174397527794:=0
def tw16450589793980678585:=0
def tw7338100805594720032:=0
def tw5276837110173531915:=0
def tw16075220635991986068:=0
def tw15958683894407203358:=0
def tw14205680111178026520:=0
def tw12171363108916613514:=0
def tw2841503547338601379:=0
def tw9799911751497337162:=0
def tw14110490425581497276:=0
def tw5282480252836724439:=0
def tw4934664681541285519:=0
def tw13721883856834335670:=0
def tw4323626097879702284:=0
def tw9787154227975054609:=0
def tw2735428062395873893:=0
def tw8804972783112936347:=0
def tw17727823406534146772:=0
def tw9876616211771276623:=0
def tw17681963168662080972:=0
def tw5977719552086479859:=0
def tw220341010615494488:=0
def tw10437334522478404899:=0
def tw5404657839629358862:=0
def tw684349125644299381:=0
def tw17790706448391831731:=0
def tw1682151355452960781:=0
def tw397558182392393929:=0
def tw6789683856259782427:=0
def tw17077773009244059074:=0
def tw13021404450015165537:=0
def tw5689958635948785967:=0
def tw13147358411386497236:=0
def tw8568773355518046818:=0
def tw16613904979033392944:=0
def tw6963693182677776051:=0
def tw3572538378408083349:=0
def tw1639545656367869258:=0
def tw12086527333398475521:=0
def tw3326904710946047675:=0
def tw11070504721431603836:=0
def tw4888259273149027710:=0
def tw12700906396436619649:=0
def tw18071633545854545763:=0
def tw16633389902615216635:=0
def tw8452241350597875834:=0
def tw12661833866438717065:=0
def tw13722833854389035753:=0
def tw5220853374485914698:=0
def tw12015835150431816486:=0
def tw5763467323858302931:=0
def tw8918509674462628731:=0
def tw7920018369303678704:=0
def tw15504055816298837154:=0
def tw4468959480956793722:=0
def tw11412990838577514568:=0
def tw75902327078636174:=0
def tw4408363758528539117:=0
def tw6560831501826389074:=0
def tw149355048954800914:=0
def tw14383741169824985360:=0
def tw9609065381418624910:=0
def tw17824048646041465830:=0
def tw17295605040735820836:=0
def tw1733525977252731540:=0
def tw17245489467719330092:=0
def tw14479561226108719058:=0
def tw1206381464885613135:=0
def tw15729852396177814113:=0
def tw4155920603987956521:=0
def tw9360850289581792477:=0
def tw10106191513084782675:=0
def tw524015993012967385:=0
def tw17378873248489082018:=0
def tw18289373809955240395:=0
def tw8888703443789846330:=0
def tw7989369440988712371:=0
def tw16204374450343577535:=0
def tw13854235935202615630:=0
def tw3548856589606164660:=0
def tw12404469713514035256:=0
def tw12034824897382377061:=0
def tw6420066771941794546:=0
def tw5275365471131345075:=0
def tw4663491542084020695:=0
def tw14960301785500846056:=0
def tw14357459360093098838:=0
def tw1152301233234922692:=0
def tw15473148116747199294:=0
def tw15476800261147590307:=0
def tw6090825963667675266:=0
def tw15879765992632735949:=0
def tw1202862950027988184:=0
def tw9505730867651122333:=0
def tw9185381657472557833:=0
def tw8712373490645530978:=0
def tw3574543739028113927:=0
def tw1982353073879859634:=0
def tw2335537990739940083:=0
def tw13563435196495329020:=0
def tw8461162085394138480:=0
def tw12616578587797550429:=0
def tw1757801343327106919:=0
def tw9499107775257114083:=0
def tw1080483545628860395:=0
def tw9173438756925786046:=0
def tw9310295287866978716:=0
def tw6550080296813117922:=0
def tw4962630299103120233:=0
def tw3834713452334818409:=0
def tw3645161001840471979:=0
def tw3303886519881375041:=0
def tw13405278246312996182:=0
end PySem.W.Fast
open PySem renaming wpAny_bind→q0x
open PySem renaming wpAny_pure→q0y
open List renaming getD_eq_getElem?_getD→q0z
open List renaming mem_cons_of_mem→q1x
open List renaming mem_cons_self→q1y
open Bool renaming false_ne_true→q1z
open List renaming mem_append_right→q2x
open Nat renaming lt_of_lt_of_le→q2y
open List renaming length_cons→q2z
open List renaming append_nil→q3x
section
open PySem PySem.W
def ckx {α : Type} (a : List α) (i : Nat) : List α := (a.drop i).take 64
def ckv (p : Addr × Obj) : Option Obj := some p.2
theorem ck2 {α β γ : Type} {f : α → γ} {g : β → γ} {a : List α} {b : List β} {i : Nat} (x : (ckx a i).map f = (ckx b i).map g) (y : (a.drop (i + 64)).map f = (b.drop (i + 64)).map g) : (a.drop i).map f = (b.drop i).map g := by
  have h1 : ((a.drop i).take 64 ++ (a.drop i).drop 64).map f = ((b.drop i).take 64 ++ (b.drop i).drop 64).map g := by
    rw [List.map_append, List.map_append, List.drop_drop, List.drop_drop, y]
    exact congrArg (· ++ _) x
  rw [List.take_append_drop, List.take_append_drop] at h1
  exact h1
theorem ck_of {K : Params → Frag} {a : List Addr} (e : ∀ P, a = (K P).map (·.1)) (w : World) (s : Shared) (x : (((((ckx a 0).map s.heap.get?, (ckx a 64).map s.heap.get?), ((ckx a 128).map s.heap.get?, (ckx a 192).map s.heap.get?)), (((ckx a 256).map s.heap.get?, (ckx a 320).map s.heap.get?), ((ckx a 384).map s.heap.get?, (ckx a 448).map s.heap.get?))), ((((ckx a 512).map s.heap.get?, (ckx a 576).map s.heap.get?), ((ckx a 640).map s.heap.get?, (ckx a 704).map s.heap.get?)), (((ckx a 768).map s.heap.get?, (ckx a 832).map s.heap.get?), ((ckx a 896).map s.heap.get?, ((a).drop 960).map s.heap.get?)))) = (((((ckx (K w.params) 0).map ckv, (ckx (K w.params) 64).map ckv), ((ckx (K w.params) 128).map ckv, (ckx (K w.params) 192).map ckv)), (((ckx (K w.params) 256).map ckv, (ckx (K w.params) 320).map ckv), ((ckx (K w.params) 384).map ckv, (ckx (K w.params) 448).map ckv))), ((((ckx (K w.params) 512).map ckv, (ckx (K w.params) 576).map ckv), ((ckx (K w.params) 640).map ckv, (ckx (K w.params) 704).map ckv)), (((ckx (K w.params) 768).map ckv, (ckx (K w.params) 832).map ckv), ((ckx (K w.params) 896).map ckv, (((K w.params)).drop 960).map ckv))))) : InK K w s.heap :=
  InK.of e w s (ck2 (congrArg (·.1.1.1.1) x) (ck2 (congrArg (·.1.1.1.2) x) (ck2 (congrArg (·.1.1.2.1) x) (ck2 (congrArg (·.1.1.2.2) x) (ck2 (congrArg (·.1.2.1.1) x) (ck2 (congrArg (·.1.2.1.2) x) (ck2 (congrArg (·.1.2.2.1) x) (ck2 (congrArg (·.1.2.2.2) x) (ck2 (congrArg (·.2.1.1.1) x) (ck2 (congrArg (·.2.1.1.2) x) (ck2 (congrArg (·.2.1.2.1) x) (ck2 (congrArg (·.2.1.2.2) x) (ck2 (congrArg (·.2.2.1.1) x) (ck2 (congrArg (·.2.2.1.2) x) (ck2 (congrArg (·.2.2.2.1) x) (congrArg (·.2.2.2.2) x))))))))))))))))
local macro_rules
  | `(tactic| refine $h:ident (q := $q) (loose := $l) (Xt := $x) (XP := $xp) (Yf := $_:ident ($_:ident $k $a $e)) (Ya := $_) (YP := $_) (N := $n) $hl $_ $_ $rest*) => `(tactic| refine $h (q := $q) (loose := $l) (Xt := $x) (XP := $xp) (Yf := fun s => (((((ckx $a 0).map s.heap.get?, (ckx $a 64).map s.heap.get?), ((ckx $a 128).map s.heap.get?, (ckx $a 192).map s.heap.get?)), (((ckx $a 256).map s.heap.get?, (ckx $a 320).map s.heap.get?), ((ckx $a 384).map s.heap.get?, (ckx $a 448).map s.heap.get?))), ((((ckx $a 512).map s.heap.get?, (ckx $a 576).map s.heap.get?), ((ckx $a 640).map s.heap.get?, (ckx $a 704).map s.heap.get?)), (((ckx $a 768).map s.heap.get?, (ckx $a 832).map s.heap.get?), ((ckx $a 896).map s.heap.get?, (($a).drop 960).map s.heap.get?))))) (Ya := fun w => (((((ckx ($k w.params) 0).map ckv, (ckx ($k w.params) 64).map ckv), ((ckx ($k w.params) 128).map ckv, (ckx ($k w.params) 192).map ckv)), (((ckx ($k w.params) 256).map ckv, (ckx ($k w.params) 320).map ckv), ((ckx ($k w.params) 384).map ckv, (ckx ($k w.params) 448).map ckv))), ((((ckx ($k w.params) 512).map ckv, (ckx ($k w.params) 576).map ckv), ((ckx ($k w.params) 640).map ckv, (ckx ($k w.params) 704).map ckv)), (((ckx ($k w.params) 768).map ckv, (ckx ($k w.params) 832).map ckv), ((ckx ($k w.params) 896).map ckv, ((($k w.params)).drop 960).map ckv))))) (YP := InK $k) (N := $n) $hl (ck_of $e) InK.keeps $rest*)
open PyProof.Rows
set_option maxRecDepth 100000 in
set_option maxHeartbeats 0 in
open_top K52hd for PySem.Challenge.rw_rowbreadth_k52_nothing_laid_for_nothing
end
namespace L2
open PySem PySem.Spec PyProof.Rows
abbrev Key:=Sum Int Str
def Xy:Key->Vl->Bool
 | .inl k,v=>Value.isInt k v
 | .inr x,v=>Value.isStrOf x v
def keyH (w:World):Key->Int
 | .inl k=>hashInt k
 | .inr x=>hashStr w x
theorem z6:∀ {k:Key} {v:Vl},Xy k v=true->(∃ i t,k=Sum.inl i/\v=Value.int i t)∨(∃ x t,k=Sum.inr x/\v=Value.str x t)
 | .inl i,v,h=>by
  obtain ⟨t,e⟩:=Value.isInt_shape (k:=i) (v:=v) h;exact .inl ⟨i,t,rfl,e⟩
 | .inr x,v,h=>by
  obtain ⟨t,e⟩:=Value.isStrOf_shape (x:=x) (v:=v) h;exact .inr ⟨x,t,rfl,e⟩
def keyIs_int (i:Int) (t:Tok):Xy (.inl i) (.int i t)=true:=by simp [Xy,Value.isInt]
def keyIs_str (x:Str) (t:Tok):Xy (.inr x) (.str x t)=true:=by simp [Xy,Value.isStrOf]
def key_ll (a b:Int):decide ((Sum.inl a:Key)=Sum.inl b)=(a == b):=by
 by_cases e:a=b
 ·subst e;simp
 ·have h:¬ (Sum.inl a:Key)=Sum.inl b:=λq=>e (Sum.inl.inj q)
  rw [decide_eq_false h];exact (beq_eq_false_iff_ne.mpr e).symm
def key_rr (a b:Str):decide ((Sum.inr a:Key)=Sum.inr b)=decide (a=b):=by
 by_cases e:a=b
 ·subst e;simp
 ·have h:¬ (Sum.inr a:Key)=Sum.inr b:=λq=>e (Sum.inr.inj q)
  rw [decide_eq_false h,decide_eq_false e]
def key_lr (a:Int) (b:Str):decide ((Sum.inl a:Key)=Sum.inr b)=false:=decide_eq_false (λq=>nomatch q)
def key_rl (a:Str) (b:Int):decide ((Sum.inr a:Key)=Sum.inl b)=false:=decide_eq_false (λq=>nomatch q)
def zJ (prog:Program) (w:World):PySem.KeyKind prog w Key where
 is:=Xy
 hash:=keyH w
 inj:=λv a b ha hb=>by
  rcases z6 ha with ⟨i,t,rfl,rfl⟩ | ⟨x,t,rfl,rfl⟩
  ·rcases z6 hb with ⟨j,u,rfl,e⟩ | ⟨y,u,rfl,e⟩
   ·injection e with e1 _;rw [e1]
   ·exact nomatch e
  ·rcases z6 hb with ⟨j,u,rfl,e⟩ | ⟨y,u,rfl,e⟩
   ·exact nomatch e
   ·injection e with e1 _;rw [e1]
 byValue:=λk v h=>by
  rcases z6 h with ⟨i,t,rfl,rfl⟩ | ⟨x,t,rfl,rfl⟩ <;> rfl
 pyHash:=λhv h=>by
  rcases z6 hv with ⟨i,t,rfl,rfl⟩ | ⟨x,t,rfl,rfl⟩
  ·exact wpAny_pyHash_int h
  ·exact wpAny_pyHash_str h
 eqBool:=λhu hv h=>by
  rcases z6 hu with ⟨i,t,rfl,rfl⟩ | ⟨x,t,rfl,rfl⟩
  ·rcases z6 hv with ⟨j,u,rfl,rfl⟩ | ⟨y,u,rfl,rfl⟩
   ·rw [key_ll] at h;exact wpAny_eqBool_int h
   ·rw [key_lr] at h;exact SeqAt.EqAt.int_str i t y u _ _ _ _ h
  ·rcases z6 hv with ⟨j,u,rfl,rfl⟩ | ⟨y,u,rfl,rfl⟩
   ·rw [key_rl] at h;exact SeqAt.EqAt.str_int x t j u _ _ _ _ h
   ·rw [key_rr] at h;exact wpAny_eqBool_str h
 «strs»:=λk x t v h=>by
  rcases z6 h with ⟨i,u,rfl,e⟩ | ⟨y,u,rfl,e⟩
  ·exact nomatch e
  ·injection e with e1 _
   subst e1;cases v <;> rfl
def za5 (prog:Program) (w:World) (i:Int) (t:Tok):(zJ prog w).is (.inl i) (.int i t)=true:=keyIs_int i t
def za4 (prog:Program) (w:World) (x:Str) (t:Tok):(zJ prog w).is (.inr x) (.str x t)=true:=keyIs_str x t
inductive V where
 | non | bl (b:Bool) | int (i:Int) | str (x:Str) | byt (b:Array UInt8) | flt (b:UInt64) | ref (a:Ad) | ty (n:String)
 deriving DecidableEq
def RelV:V->Vl->Prop
 | .non,u=>u=Value.none
 | .bl b,u=>u=Value.bool b
 | .int i,u=>∃ t,u=Value.int i t
 | .str x,u=>∃ t,u=Value.str x t
 | .byt b,u=>∃ t,u=Value.bytes b t
 | .flt b,u=>∃ t,u=Value.float b t
 | .ref a,u=>u=Value.ref a
 | .ty n,u=>u=Value.type n
abbrev Vals:List V->Jj->Prop:=Paired RelV
def Vals.length {xs:List V} {us:Jj} (r:Vals xs us):xs.length=us.length:=Paired.length r
theorem Vals.get:∀ {xs:List V} {us:Jj} {i:Nat} {x:V},Vals xs us->xs[i]?=some x->∃ u,us[i]?=some u/\RelV x u
 | _,_,_,_,.nil,e=>by simp at e
 | _,_,0,_,.cons r _,e=>by simp at e;subst e;exact ⟨_,rfl,r⟩
 | _,_,i+1,x,.cons _ t,e=>by
  obtain ⟨u,h1,h2⟩:=Vals.get (i:=i) (x:=x) t (by simpa using e);exact ⟨u,by simpa using h1,h2⟩
theorem Vals.set {x:V} {u:Vl} (r:RelV x u):∀ {xs:List V} {us:Jj} (i:Nat),Vals xs us->Vals (xs.set i x) (us.set i u)
 | _,_,_,.nil=>.nil
 | _,_,0,.cons _ t=>.cons r t
 | _,_,i+1,.cons q t=>.cons q (Vals.set r i t)
theorem Vals.append:∀ {xs ys:List V} {us ws:Jj},Vals xs us->Vals ys ws->Vals (xs++ys) (us++ws)
 | _,_,_,_,.nil,s=>s
 | _,_,_,_,.cons r t,s=>.cons r (Vals.append t s)
theorem Vals.take:∀ {xs:List V} {us:Jj} (n:Nat),Vals xs us->Vals (xs.take n) (us.take n)
 | _,_,0,_=>.nil
 | _,_,_+1,.nil=>.nil
 | _,_,n+1,.cons r t=>.cons r (Vals.take n t)
theorem Vals.drop:∀ {xs:List V} {us:Jj} (n:Nat),Vals xs us->Vals (xs.drop n) (us.drop n)
 | _,_,0,r=>r
 | _,_,_+1,.nil=>.nil
 | _,_,n+1,.cons _ t=>Vals.drop n t
def RelO:Option V->Jk->Prop
 | some v,some u=>RelV v u
 | none,none=>True
 | _,_=>False
def KV {κ:Type}:List (κ×V)->List (κ×Vl)->Prop:=Paired λ(p:κ×V) (q:κ×Vl)=>p.1=q.1/\RelV p.2 q.2
def kV:Key->V
 | .inl i=>.int i
 | .inr x=>.str x
inductive HO where
  | lst (xs:List V)
  | tup (xs:List V)
  | dK (kvs:List (Key×V)) | dT (kvs:List (List Key×V))
  | set (S:Int->Bool) (n:Nat)
  | ins (C dx:Ad) (fs:List (Str×V))
  | own (x:Ad)
  | xd (fs:List (Str×V))
  | met (f x:Ad)
  | rng (lo hi:Int)
  | frz (o:Obj) (u:HO)
  | tbl (ps:Array Vl)
  | ext (φ:Heap->Prop)
abbrev Hp:=Ad->Option HO
theorem Jv (l:List PySem.Str) (h:decide l.Nodup=true:=by decide +kernel):l.Nodup:=of_decide_eq_true h
abbrev Jr:=List (Key×V)
abbrev Js:=List (Ad×HO)
abbrev Jt:=List V
abbrev Ju:=Option V
def upd (H:Hp) (a:Ad) (o:HO):Hp:=λb=>if b=a then some o else H b
def zu {H:Hp} {a:Ad} {o:HO}:upd H a o a=some o:=by unfold upd;rw [if_pos rfl]
def zI {H:Hp} {a b:Ad} {o:HO} (h:b≠a):upd H a o b=H b:=by unfold upd;rw [if_neg h]
def ne_of {H:Hp} {a b:Ad} {o u:HO} (h:H a=some o) (h':H b=some u) (d:o≠u):a≠b:=by
 intro e;subst e;rw [h] at h';exact d (Option.some.inj h')
def zT {H:Hp} {a b:Ad} {o:HO} (h:H a=some o) (h':H b=none):a≠b:=by
 intro e;subst e;rw [h] at h';cases h'
section
variable (P:Program) (w:World)
def ObjOk (H:Hp) (h:Heap) (a:Ad):HO->Prop
 | .lst xs=>xs.length<=sizeLine/\∃ (its:Jj) (n:Nat),Vals xs its/\h.get? a=some { cls:=.type "list",data:=.seq its.toArray n }
 | .tup xs=>xs.length<=sizeLine/\∃ its:Jj,Vals xs its/\IsTup h a its.toArray
 | .dK kvs=>kvs.length<=sizeLine/\(a == sysModules)=false/\∃ vs,KV kvs vs/\h.DictOf (zJ P w) a vs
 | .dT kvs=>kvs.length<=sizeLine/\(a == sysModules)=false/\∃ xs:List (List Key×Ad×Vl),
   Paired (λ(p:List Key×V) (q:List Key×Ad×Vl)=>p.1=q.1/\H q.2.1=some (.tup (p.1.map kV))/\RelV p.2 q.2.2) kvs xs /\
   ∃ o es ep,h.get? a=some o/\o.ExactDict/\o.data=.dict es ep/\es.toList=xs.map (entryOfKey (tupleKind (zJ P w)))/\(xs.map (·.1)).Nodup
 | .set S n=>h.SetOf (intKind P w) a S n
 | .ins C dx fs=>H dx=some (.own a)/\fs.length<=1000/\dx≠a/\h.get? a=some (PySem.W.instObj C dx) /\
   ∃ mA,h.Ns1 dx mA/\(∀ f,RelO (fs.lookup f) (mA f))/\PySem.Within mA (fs.map (·.1))
 | .own _=>∃ o,h.get? a=some o
 | .xd fs=>∃ mA,h.Ns1 a mA/\∀ f,RelO (fs.lookup f) (mA f)
 | .rng lo hi=>∃ t u v,h.get? a=some { cls:=.type "range",data:=.fields #[.int lo t,.int hi u,.int 1 v] }
 | .frz o u=>h.get? a=some o/\ObjOk H h a u
 | .tbl ps=>h.get? a=some { cls:=.none,data:=.fields ps }
 | .met f x=>h.get? a=some (PySem.W.methodObj (.ref f) (.ref x))
 | .ext φ=>φ h/\(∃ o,h.get? a=some o)/\∀ h1 h2:Heap,φ h1->(∀ o,h1.get? a=some o->h2.get? a=some o)->φ h2
def HOk (H:Hp) (h:Heap):Prop:=∀ a o,H a=some o->ObjOk P w H h a o
end
section
variable {P:Program} {w:World} {H H':Hp} {h h':Heap} {a:Ad} {o:HO}
def ObjOk.lt (x:ObjOk P w H h a o):a<h.objs.size:=by
 cases o with
 | lst xs=>obtain ⟨_,_,_,_,e⟩:=x;exact Heap.lt_size e
 | tup xs=>obtain ⟨_,_,_,p⟩:=x;exact p.lt
 | dK kvs=>obtain ⟨_,_,_,_,o,_,_,e,_⟩:=x;exact Heap.lt_size e
 | dT kvs=>obtain ⟨_,_,_,_,o,_,_,e,_⟩:=x;exact Heap.lt_size e
 | set S n=>obtain ⟨o,_,_,_,e,_⟩:=x;exact Heap.lt_size e
 | ins C dx fs=>obtain ⟨_,_,_,e,_⟩:=x;exact Heap.lt_size e
 | own y=>obtain ⟨_,e⟩:=x;exact Heap.lt_size e
 | xd fs=>obtain ⟨_,⟨_,_,_,e,_⟩,_⟩:=x;exact Heap.lt_size e
 | rng lo hi=>obtain ⟨_,_,_,e⟩:=x;exact Heap.lt_size e
 | frz ob u=>obtain ⟨e,_⟩:=x;exact Heap.lt_size e
 | tbl ps=>exact Heap.lt_size (show h.get? a=some _ from x)
 | met f y=>exact Heap.lt_size (show h.get? a=some _ from x)
 | ext φ=>obtain ⟨_,⟨_,e⟩,_⟩:=x;exact Heap.lt_size e
theorem Paired.mapP {α β:Type} {F G:α->β->Prop}:∀ {l₁:List α} {l₂:List β},Paired F l₁ l₂->(∀ a b,F a b->G a b)->Paired G l₁ l₂
 | _,_,.nil,_=>.nil
 | _,_,.cons r t,f=>.cons (f _ _ r) (Paired.mapP t f)
def ObjOk.stay (x:ObjOk P w H h a o) (k:∀ b u,(b=a∨H b=some (.own a))->h.get? b=some u->h'.get? b=some u)
  (ho:∀ b,H b=some (.own a)->H' b=some (.own a)) (ht:∀ b xs,H b=some (.tup xs)->H' b=some (.tup xs)):ObjOk P w H' h' a o:=by
 induction o with
 | lst xs=>obtain ⟨z,its,n,r,e⟩:=x;exact ⟨z,its,n,r,k _ _ (.inl rfl) e⟩
 | tup xs=>obtain ⟨z,its,r,ob,e,c⟩:=x;exact ⟨z,its,r,ob,k _ _ (.inl rfl) e,c⟩
 | dK kvs=>obtain ⟨z,y,vs,r,ob,es,ep,e,c⟩:=x;exact ⟨z,y,vs,r,ob,es,ep,k _ _ (.inl rfl) e,c⟩
 | dT kvs =>
  obtain ⟨z,y,xs,r,ob,es,ep,e,c⟩:=x;exact ⟨z,y,xs,Paired.mapP r λp q z=>⟨z.1,ht _ _ z.2.1,z.2.2⟩,ob,es,ep,k _ _ (.inl rfl) e,c⟩
 | set S n=>obtain ⟨ob,es,ep,t,e,c⟩:=x;exact ⟨ob,es,ep,t,k _ _ (.inl rfl) e,c⟩
 | ins C dx fs =>
  obtain ⟨d,z,ne,e,mA,⟨od,es,ep,e2,c⟩,r⟩:=x;exact ⟨ho _ d,z,ne,k _ _ (.inl rfl) e,mA,⟨od,es,ep,k _ _ (.inr d) e2,c⟩,r⟩
 | own y=>obtain ⟨ob,e⟩:=x;exact ⟨ob,k _ _ (.inl rfl) e⟩
 | xd fs=>obtain ⟨mA,⟨od,es,ep,e,c⟩,r⟩:=x;exact ⟨mA,⟨od,es,ep,k _ _ (.inl rfl) e,c⟩,r⟩
 | rng lo hi=>obtain ⟨t,u,v,e⟩:=x;exact ⟨t,u,v,k _ _ (.inl rfl) e⟩
 | frz ob u ih=>obtain ⟨e,q⟩:=x;exact ⟨k _ _ (.inl rfl) e,ih q⟩
 | tbl ps =>
  have e:h.get? a=some { cls:=.none,data:=.fields ps }:=x;show h'.get? a=some { cls:=.none,data:=.fields ps };exact k a _ (.inl rfl) e
 | met f y =>
  have e:h.get? a=some (PySem.W.methodObj (.ref f) (.ref y)):=x;show h'.get? a=some (PySem.W.methodObj (.ref f) (.ref y));exact k a _ (.inl rfl) e
 | ext φ=>obtain ⟨p,⟨o,e⟩,st⟩:=x;exact ⟨st _ _ p λo q=>k _ _ (.inl rfl) q,⟨o,k _ _ (.inl rfl) e⟩,st⟩
def HOk.lt (x:HOk P w H h) (e:H a=some o):a<h.objs.size:=(x a o e).lt
def HOk.fresh (x:HOk P w H h) (e:h.objs.size<=a):H a=none:=by
 cases q:H a with
 | none=>rfl
 | some u=>exact absurd (q2y (x.lt q) e) (Nat.lt_irrefl _)
def HOk.kept (x:HOk P w H h) (k:∀ b u,h.get? b=some u->h'.get? b=some u):HOk P w H h':=λa o e =>
 (x a o e).stay (λb u _ q=>k b u q) (λ_ q=>q) λ_ _ q=>q
def HOk.laid (x:HOk P w H h) (k:∀ b u,h.get? b=some u->h'.get? b=some u) (hp:h.objs.size<=a) (new:ObjOk P w (upd H a o) h' a o):HOk P w (upd H a o) h':=λb u e=>by
 have hn:=x.fresh hp;by_cases hb:b=a
 ·subst hb;rw [zu] at e;cases e;exact new
 ·rw [zI hb] at e
  exact (x b u e).stay (λc v _ q=>k c v q) (λc q=>by rw [zI (zT q hn)];exact q) λc xs q=>by rw [zI (zT q hn)];exact q
end
def Rd (H:Hp) (a:Ad) (u:HO):Prop:=H a=some u∨∃ o,H a=some (.frz o u)
def Rd.ok {P:Program} {w:World} {H:Hp} {h:Heap} {a:Ad} {u:HO} (r:Rd H a u) (x:HOk P w H h):ObjOk P w H h a u:=by
 rcases r with r | ⟨o,r⟩
 ·exact x a u r
 ·obtain ⟨_,q⟩:=x a _ r
  exact q
def Mut:Option HO->Prop
 | some (.lst _)=>True
 | some (.dK _)=>True
 | some (.dT _)=>True
 | some (.set _ _)=>True
 | some (.ins _ _ _)=>True
 | some (.ext _)=>True
 | _=>False
section
variable {P:Program} {w:World} {H:Hp} {h h':Heap} {x e:Ad} {o':HO}
def HOk.write (ok:HOk P w H h) (mu:Mut (H x)) (he:e=x∨H e=some (.own x)) (k:∀ b u,b≠e->h.get? b=some u->h'.get? b=some u) (heo:∃ u,h'.get? e=some u)
  (new:ObjOk P w (upd H x o') h' x o'):HOk P w (upd H x o') h':=λb u q=>by
 have nown:∀ c y,H c=some (.own y)->c≠x:=λc y r z=>by subst z;rw [r] at mu;exact mu
 have ntup:∀ c xs,H c=some (.tup xs)->c≠x:=λc xs r z=>by subst z;rw [r] at mu;exact mu
 by_cases hb:b=x
 ·subst hb;rw [zu] at q;cases q;exact new
 ·rw [zI hb] at q
  by_cases hbe:b=e
  ·have q':H b=some (.own x):=by
    rcases he with z | z
    ·exact absurd (hbe.trans z) hb
    ·rw [hbe];exact z
   rw [q] at q';cases q';obtain ⟨v,hv⟩:=heo;exact ⟨v,by rw [hbe];exact hv⟩
  ·refine (ok b u q).stay (λc v hc r=>k c v ?_ r) (λc r=>by rw [zI (nown c b r)];exact r) λc xs r=>by rw [zI (ntup c xs r)];exact r
   rcases hc with rfl | hc
   ·exact hbe
   ·rintro rfl
    rcases he with z | z
    ·exact nown c b hc z
    ·rw [hc] at z;cases z;exact hb rfl
end
structure Un (fs ex:Jm) (H H':Hp) (h h':Heap):Prop where
 keep:∀ b o,h.get? b=some o->H b=none->b ∉ fs->b ∉ ex->h'.get? b=some o
 slot:∀ b o,h.get? b=some o->H b=none->b∈fs->b ∉ ex->∃ sl,h'.get? b=some { o with slots:=sl }
 free:∀ b o,h.get? b=some o->H b=none->b ∉ ex->H' b=none
 there:∀ b o,h.get? b=some o->b ∉ ex->∃ o',h'.get? b=some o'
 tups:∀ b xs,H b=some (.tup xs)->H' b=some (.tup xs)
 frzs:∀ b o u,H b=some (.frz o u)->H' b=some (.frz o u)
 tbls:∀ b ps,H b=some (.tbl ps)->∃ more,H' b=some (.tbl (ps++more))
section
variable {fs fs' ex ex':Jm} {H H1 H2:Hp} {h h1 h2 h':Heap} {a x e:Ad} {o:HO}
def Un.any (u:Un fs ex H H1 h h1) {b:Ad} {ob:Obj} (q:h.get? b=some ob) (n:H b=none) (hx:b ∉ ex):∃ sl,h1.get? b=some { ob with slots:=sl }:=by
 by_cases hb:b∈fs
 ·exact u.slot b ob q n hb hx
 ·exact ⟨ob.slots,u.keep b ob q n hb hx⟩
def Un.trans (a:Un fs ex H H1 h h1) (b:Un fs ex H1 H2 h1 h2):Un fs ex H H2 h h2 where
 keep:=λc ob q n hc hx=>b.keep c ob (a.keep c ob q n hc hx) (a.free c ob q n hx) hc hx
 slot:=λc ob q n hc hx=>by
  obtain ⟨sl,e1⟩:=a.slot c ob q n hc hx;obtain ⟨sl',e2⟩:=b.slot c _ e1 (a.free c ob q n hx) hc hx;exact ⟨sl',e2⟩
 free:=λc ob q n hx=>by
  obtain ⟨o',e1⟩:=a.there c ob q hx;exact b.free c o' e1 (a.free c ob q n hx) hx
 there:=λc ob q hx=>by
  obtain ⟨o',e1⟩:=a.there c ob q hx;exact b.there c o' e1 hx
 tups:=λc xs q=>b.tups c xs (a.tups c xs q)
 frzs:=λc ob xs q=>b.frzs c ob xs (a.frzs c ob xs q)
 tbls:=λc ps q=>by
  obtain ⟨m1,e1⟩:=a.tbls c ps q;obtain ⟨m2,e2⟩:=b.tbls c _ e1;exact ⟨m1++m2,by rw [e2,Array.append_assoc]⟩
def Un.kept (k:∀ b u,h.get? b=some u->h'.get? b=some u):Un fs ex H H h h' :=
 ⟨λb ob q _ _ _=>k b ob q,λb ob q _ _ _=>⟨ob.slots,k b ob q⟩,λ_ _ _ n _=>n,λb ob q _=>⟨ob,k b ob q⟩,λ_ _ q=>q,λ_ _ _ q=>q,λ_ ps q=>⟨#[],by rw [q];simp⟩⟩
def Un.refl:Un fs ex H H h h:=Un.kept λ_ _ q=>q
def Un.laid (k:∀ b u,h.get? b=some u->h'.get? b=some u) (hp:h.objs.size<=a) (hn:H a=none):Un fs ex H (upd H a o) h h' where
 keep:=λb u q _ _ _=>k b u q
 slot:=λb u q _ _ _=>⟨u.slots,k b u q⟩
 free:=λb u q n _=>by rw [zI (Nat.ne_of_lt (q2y (Heap.lt_size q) hp))];exact n
 there:=λb u q _=>⟨u,k b u q⟩
 tups:=λb xs q=>by rw [zI (zT q hn)];exact q
 frzs:=λb u xs q=>by rw [zI (zT q hn)];exact q
 tbls:=λb ps q=>⟨#[],by rw [zI (zT q hn),q];simp⟩
def Un.write (mu:Mut (H x)) (he:e=x∨H e=some (.own x)) (k:∀ b u,b≠e->h.get? b=some u->h'.get? b=some u) (heo:∃ u,h'.get? e=some u):Un fs ex H (upd H x o) h h':=by
 have hx:∀ b,H b=none->b≠x:=λb n z=>by subst z;rw [n] at mu;exact mu
 have hb:∀ b,H b=none->b≠e:=λb n z=>by
  subst z;rcases he with r | r
  ·exact hx b n r
  ·rw [n] at r;cases r
 have hm:∀ b u,H b=some u->¬ Mut (some u)->b≠x:=λb u q nm z=>by subst z;rw [q] at mu;exact nm mu
 refine ⟨λb u q n _ _=>k b u (hb b n) q,λb u q n _ _=>⟨u.slots,k b u (hb b n) q⟩,λb u q n _=>by rw [zI (hx b n)];exact n,λb u q _=>?_,
  λb xs q=>by rw [zI (hm b _ q λz=>z)];exact q,λb u xs q=>by rw [zI (hm b _ q λz=>z)];exact q,λb ps q=>⟨#[],by rw [zI (hm b _ q λz=>z),q];simp⟩⟩
 by_cases hbe:b=e
 ·subst hbe;exact heo
 ·exact ⟨u,k b u hbe q⟩
end
def trk (h:Heap) (H:Hp):Jm:=(List.range h.objs.size).filter λa=>(H a).isSome
def hidT (h:Heap) (H:Hp):Heap:=PySem.W.hideAll h (trk h H)
def hidT_size (h:Heap) (H:Hp):(hidT h H).objs.size=h.objs.size:=PySem.W.hideAll_size _ _
def hidT_get {h:Heap} {H:Hp} {b:Ad} {o:Obj} (e:h.get? b=some o) (n:H b=none):(hidT h H).get? b=some o :=
 PySem.W.hideAll_get _ e λhm=>by
  have q:(H b).isSome=true:=(List.mem_filter.mp hm).2;rw [n] at q;simp at q
def of_hidT {h:Heap} {H:Hp} {b:Ad} {o:Obj} (e:(hidT h H).get? b=some o):h.get? b=some o/\H b=none:=by
 have e':h.get? b=some o:=PySem.W.of_hideAll (trk h H) e;refine ⟨e',?_⟩
 cases q:H b with
 | none=>rfl
 | some x =>
  have hm:b∈trk h H:=List.mem_filter.mpr ⟨List.mem_range.mpr (Heap.lt_size e'),by simp [q]⟩;have z:(hidT h H).get? b=none:=PySem.W.hideAll_none (trk h H) hm;rw [z] at e;cases e
def allNews (g h:Heap) (L:Ad):Ji:=(List.range h.objs.size).filterMap λa=>if a=L∨(g.get? a).isSome=true then none else (h.get? a).map λo=>(a,o)
def rest (g h:Heap) (L d:Ad):Ji:=(allNews g h L).filter λp=>decide (p.1≠d)
structure Mod (K:Fg) (mg:J0) (base:Heap):Prop where
 kin:K.In base
 glob:base.Ns mainGlobals mg
 blt:∃ mb,base.Ns builtinsNs mb/\∀ x:Str,x≠"__name__"->mb x=bootBuiltins x
 nolimit:base.NoLimit
structure Cx where
 prog:Program
 w:World
 K:Fg
 mg:J0
 base:Heap
 A:Around
 N:Jl
 s₀:Sh
 H₀:Hp
 env:Env
 outer:List Env
 stack:List Env
 ex:Jm
 fn:Str->Bool
 calm:Bool
 pn:Ji
 xe:Jg
def frs (l:List Env):Jm:=l.filterMap (·.frame)
abbrev Cx.fs (X:Cx):Jm:=frs X.outer
def Vis (sc:Scope) (x:Str):Prop:=sc.names.lookup x=some .local∨sc.names.lookup x=some .cell∨sc.names.lookup x=some .free
def Loc (sc:Scope) (x:Str):Prop:=sc.names.lookup x=some .local∨sc.names.lookup x=some .cell
def Look (env:Env) (h:Heap) (m:J0) (x:Str) (u:Vl):Prop :=
 (env.kindOf x=some .local/\m x=some u)∨((env.kindOf x=some .cell∨env.kindOf x=some .free)/\∃ c,env.cells.lookup x=some c/\h.IsCell c (some u))
structure Cx.Ok (X:Cx):Prop where
 mod:Mod X.K X.mg X.base
 kind:X.env.scope.kind=.function
 glob:X.env.globals=mainGlobals
 blt:X.env.builtins=builtinsNs
 above:X.s₀.heap.objs.size<=X.env.locals
 inj:∀ x y c,X.env.cells.lookup x=some c->X.env.cells.lookup y=some c->x=y
 has:∀ x,(X.env.kindOf x=some .cell∨X.env.kindOf x=some .free)->∃ c,X.env.cells.lookup x=some c
 cab:∀ x c,X.fn x=true->X.env.cells.lookup x=some c->X.s₀.heap.objs.size<=c
 hd:X.calm=true->X.A.handled=none
 frames:X.A.frames=some X.stack
 stk:X.stack=X.outer∨(X.stack=X.env::X.outer/\X.env.frame=some X.env.locals)
 exf:∀ b∈X.ex,b≠X.env.locals/\∀ x c,X.env.cells.lookup x=some c->c≠b
 bs:∀ b o,X.base.get? b=some o->X.s₀.heap.get? b=some o/\X.H₀ b=none
 bsz:X.base.objs.size<=X.s₀.heap.objs.size
 noex:∀ b o,X.base.get? b=some o->b ∉ X.ex
 exfs:∀ b∈X.ex,b ∉ X.fs
 funs:X.s₀.heap.FunFrames X.base X.outer
 frf:∀ b∈X.fs,X.H₀ b=none
structure Inv (X:Cx) (pins:Ji) (σ:List (Ju)) (H:Hp) (s:Sh):Prop where
 ok:X.Ok
 os:s.os=X.s₀.os
 bare:AllBare s.gens
 base:Un X.fs X.ex X.H₀ H X.s₀.heap s.heap
 loc:∃ m,s.heap.Ns X.env.locals m/\∀ (i:Nat) (x:Str) (v:V),X.N[i]?=some x->σ[i]?=some (some v)->Vis X.env.scope x->∃ u,RelV v u/\Look X.env s.heap m x u
 cell:∀ x c,X.env.cells.lookup x=some c->∃ v,s.heap.IsCell c v
 free:H X.env.locals=none
 freeC:∀ x c,X.env.cells.lookup x=some c->H c=none
 pin:∀ p∈X.pn++pins,s.heap.get? p.1=some p.2/\H p.1=none/\p.1≠X.env.locals/\p.1 ∉ X.fs/\∀ v,p.2.data≠.cell v
 hok:HOk X.prog X.w H s.heap
 len:σ.length=X.N.length
section
variable {X:Cx} {pins:Ji} {σ:List (Ju)} {H H':Hp} {s:Sh} {h':Heap}
def Cx.Ok.nofr (ok:X.Ok) {b:Ad} {o:Obj} (e:X.base.get? b=some o):b ∉ X.fs:=λhb=>by
 have:=(ok.funs.mem hb).1;rw [e] at this;cases this
def Inv.bs (I:Inv X pins σ H s):∀ b o,X.base.get? b=some o->s.heap.get? b=some o/\H b=none:=λb o e =>
 ⟨I.base.keep b o (I.ok.bs b o e).1 (I.ok.bs b o e).2 (I.ok.nofr e) (I.ok.noex b o e),I.base.free b o (I.ok.bs b o e).1 (I.ok.bs b o e).2 (I.ok.noex b o e)⟩
def Inv.bk (I:Inv X pins σ H s):∀ b o,X.base.get? b=some o->s.heap.get? b=some o:=λb o e=>(I.bs b o e).1
def Inv.mod (I:Inv X pins σ H s):Mod X.K X.mg X.base:=I.ok.mod
def Inv.kIn (I:Inv X pins σ H s):X.K.In s.heap:=I.ok.mod.kin.keeps I.bk
def Inv.lt (I:Inv X pins σ H s):X.env.locals<s.heap.objs.size:=let ⟨_,hn,_⟩:=I.loc;hn.lt
def Inv.sz (I:Inv X pins σ H s):X.s₀.heap.objs.size<=s.heap.objs.size:=Nat.le_trans I.ok.above (Nat.le_of_lt I.lt)
def Inv.nofs (I:Inv X pins σ H s) {a:Ad} (h:s.heap.objs.size<=a):a ∉ X.fs:=λhb=>by
 obtain ⟨_,o,ho,_⟩:=I.ok.funs.mem hb;exact absurd (q2y (Heap.lt_size ho) (Nat.le_trans I.sz h)) (Nat.lt_irrefl _)
def Inv.cne (I:Inv X pins σ H s):∀ x c,X.env.cells.lookup x=some c->c≠X.env.locals:=λx c e z=>by
 obtain ⟨v,o,ho,hd⟩:=I.cell x c e;obtain ⟨m,⟨o',es,ep,ho',hd',_⟩,_⟩:=I.loc;rw [z,ho'] at ho;cases ho;rw [hd'] at hd;cases hd
def Inv.funs (I:Inv X pins σ H s):s.heap.FunFrames X.base X.outer:=by
 have all:∀ (l:List Env),(∀ b∈frs l,b∈X.fs)->X.s₀.heap.FunFrames X.base l->s.heap.FunFrames X.base l:=by
  intro l
  induction l with
  | nil=>intro _ _;trivial
  | cons env r ih =>
   intro hs hl;obtain ⟨hk,⟨L,o,hf,hn,ho,hd⟩,hr⟩:=hl;have hL:L∈X.fs:=hs L (by unfold frs;rw [List.filterMap_cons,hf];exact q1y);obtain ⟨sl,e⟩:=I.base.slot L o ho (I.ok.frf L hL) hL λz=>I.ok.exfs L z hL;exact ⟨hk,⟨L,_,hf,hn,e,hd⟩,ih (λb hb=>hs b (by unfold frs;rw [List.filterMap_cons,hf];exact q1x _ hb)) hr⟩
 exact all X.outer (λ_ hb=>hb) I.ok.funs
def Inv.stack (I:Inv X pins σ H s):s.heap.FunFrames X.base X.stack:=by
 rcases I.ok.stk with e | ⟨e,hf⟩
 ·rw [e];exact I.funs
 ·rw [e]
  obtain ⟨m,hn,_⟩:=I.loc;refine .cons (by rw [I.ok.kind];decide) hf hn ?_ I.funs;exact Heap.get?_none_of_le (Nat.le_trans I.ok.bsz I.ok.above)
def Inv.stkSub (I:Inv X pins σ H s):∀ b∈frs X.stack,b∈X.env.locals::X.fs:=λb hb=>by
 rcases I.ok.stk with e | ⟨e,hf⟩
 ·rw [e] at hb;exact q1x _ hb
 ·rw [e] at hb
  unfold frs at hb;rw [List.filterMap_cons,hf] at hb;exact hb
def Inv.stkFree (I:Inv X pins σ H s):∀ b∈frs X.stack,H b=none:=λb hb=>by
 rcases List.mem_cons.mp (I.stkSub b hb) with e | hb
 ·rw [e];exact I.free
 ·obtain ⟨_,o,ho,_⟩:=I.ok.funs.mem hb
  exact I.base.free b o ho (I.ok.frf b hb) λz=>I.ok.exfs b z hb
def Inv.step {g':Array GenState} {t':Nat} {d':Drawn} {ch:Jm} (I:Inv X pins σ H s)
  (hch:∀ b∈ch,(b∈X.ex∨X.s₀.heap.objs.size<=b)/\b≠X.env.locals/\(∀ x c,X.env.cells.lookup x=some c->c≠b)/\∀ p∈X.pn++pins,p.1≠b)
  (keep:∀ b o,b≠X.env.locals->b ∉ X.fs->b ∉ ch->s.heap.get? b=some o->H b=none->h'.get? b=some o)
  (slot:∀ b o,b≠X.env.locals->b∈X.fs->b ∉ ch->s.heap.get? b=some o->H b=none->∃ sl,h'.get? b=some { o with slots:=sl }) (free:∀ b o,b ∉ ch->s.heap.get? b=some o->H b=none->H' b=none)
  (there:∀ b o,b ∉ ch->s.heap.get? b=some o->∃ o',h'.get? b=some o')
  (tups:∀ b xs,H b=some (.tup xs)->H' b=some (.tup xs)) (frzs:∀ b o u,H b=some (.frz o u)->H' b=some (.frz o u)) (tbls:∀ b ps,H b=some (.tbl ps)->∃ more,H' b=some (.tbl (ps++more)))
  (ns:∀ m,s.heap.Ns X.env.locals m->h'.Ns X.env.locals m) (hok:HOk X.prog X.w H' h') (hg:AllBare g') :
  Inv X pins σ H' { s with heap:=h',gens:=g',drawn:=d',toks:=t' }:=by
 have neL:∀ b o,X.s₀.heap.get? b=some o->b≠X.env.locals:=λb o e=>Nat.ne_of_lt (q2y (Heap.lt_size e) I.ok.above)
 have neC:∀ b o,X.s₀.heap.get? b=some o->b ∉ X.ex->b ∉ ch:=λb o e hx hb=>by
  rcases (hch b hb).1 with z | z
  ·exact hx z
  ·exact absurd (q2y (Heap.lt_size e) z) (Nat.lt_irrefl _)
 have cellK:∀ x c,X.env.cells.lookup x=some c->∀ v,s.heap.IsCell c v->h'.IsCell c v:=λx c e v ⟨o,ho,hd⟩=>by
  have nch:c ∉ ch:=λz=>(hch c z).2.2.1 x c e rfl;by_cases hc:c∈X.fs
  ·obtain ⟨sl,q⟩:=slot c o (I.cne x c e) hc nch ho (I.freeC x c e)
   exact ⟨_,q,hd⟩
  ·exact ⟨o,keep c o (I.cne x c e) hc nch ho (I.freeC x c e),hd⟩
 refine ⟨I.ok,I.os,hg,⟨λb o e n hb hx=>?_,λb o e n hb hx=>?_,λb o e n hx=>?_,λb o e hx=>?_,λb xs e=>tups b xs (I.base.tups b xs e),λb o xs e=>frzs b o xs (I.base.frzs b o xs e),λb ps e=>?_⟩,?_,λx c e=>?_,?_,λx c e=>?_,λp hp=>?_,hok,I.len⟩
 ·exact keep b o (neL b o e) hb (neC b o e hx) (I.base.keep b o e n hb hx) (I.base.free b o e n hx)
 ·obtain ⟨sl,e1⟩:=I.base.slot b o e n hb hx
  obtain ⟨sl',e2⟩:=slot b _ (neL b o e) hb (neC b o e hx) e1 (I.base.free b o e n hx);exact ⟨sl',e2⟩
 ·obtain ⟨o',e1⟩:=I.base.there b o e hx
  exact free b o' (neC b o e hx) e1 (I.base.free b o e n hx)
 ·obtain ⟨o',e1⟩:=I.base.there b o e hx
  exact there b o' (neC b o e hx) e1
 ·obtain ⟨m1,e1⟩:=I.base.tbls b ps e
  obtain ⟨m2,e2⟩:=tbls b _ e1;exact ⟨m1++m2,by rw [e2,Array.append_assoc]⟩
 ·obtain ⟨m,hn,hl⟩:=I.loc
  refine ⟨m,ns m hn,λi x v e1 e2 e3=>?_⟩;obtain ⟨u,r,l⟩:=hl i x v e1 e2 e3;refine ⟨u,r,?_⟩;rcases l with l | ⟨k,c,e,z⟩
  ·exact .inl l
  ·exact .inr ⟨k,c,e,cellK x c e _ z⟩
 ·obtain ⟨v,z⟩:=I.cell x c e
  exact ⟨v,cellK x c e v z⟩
 ·obtain ⟨m,⟨o,_,_,ho,_⟩,_⟩:=I.loc
  exact free _ o (λz=>(hch _ z).2.1 rfl) ho I.free
 ·obtain ⟨v,o,ho,hd⟩:=I.cell x c e
  exact free c o (λz=>(hch c z).2.2.1 x c e rfl) ho (I.freeC x c e)
 ·obtain ⟨e,n,ne,nf,d⟩:=I.pin p hp
  have nch:p.1 ∉ ch:=λz=>(hch p.1 z).2.2.2 p hp rfl;exact ⟨keep p.1 p.2 ne nf nch e n,free p.1 p.2 nch e n,ne,nf,d⟩
def Inv.un {t':Nat} (I:Inv X pins σ H s) (u:Un X.fs [] H H' s.heap h') (hok:HOk X.prog X.w H' h'):Inv X pins σ H' { s with heap:=h',toks:=t' }:=by
 obtain ⟨m,⟨o,es,ep,ho,r⟩,_⟩:=id I.loc;obtain ⟨sl,hL⟩:=u.any ho I.free (by simp)
 exact I.step (g':=s.gens) (d':=s.drawn) (ch:=[]) (λ_ z=>nomatch z) (λb o _ hb _ e n=>u.keep b o e n hb (by simp)) (λb o _ hb _ e n=>u.slot b o e n hb (by simp)) (λb o _ e n=>u.free b o e n (by simp)) (λb o _ e=>u.there b o e (by simp)) u.tups u.frzs u.tbls (λm' hm=>by
  obtain ⟨o',es',ep',ho',r'⟩:=hm;rw [ho] at ho';cases ho';exact ⟨_,es',ep',hL,r'⟩) hok I.bare
def Inv.call {g':Array GenState} {t':Nat} {d':Drawn} {ch:Jm} (I:Inv X pins σ H s) (u:Un (frs X.stack) ch H H' s.heap h') (hok:HOk X.prog X.w H' h') (hg:AllBare g')
  (hch:∀ b∈ch,(b∈X.ex∨X.s₀.heap.objs.size<=b)/\b≠X.env.locals/\(∀ x c,X.env.cells.lookup x=some c->c≠b)/\∀ p∈X.pn++pins,p.1≠b) :
  Inv X pins σ H' { s with heap:=h',gens:=g',drawn:=d',toks:=t' }:=by
 obtain ⟨m,⟨o,es,ep,ho,r⟩,_⟩:=id I.loc;obtain ⟨sl,hL⟩:=u.any ho I.free λz=>(hch _ z).2.1 rfl
 exact I.step (ch:=ch) hch (λb o hL hb hc e n=>u.keep b o e n (λz=>(List.mem_cons.mp (I.stkSub b z)).elim hL hb) hc) (λb o _ _ hc e n=>u.any e n hc) (λb o hc e n=>u.free b o e n hc) (λb o hc e=>u.there b o e hc) u.tups u.frzs u.tbls (λm' hm=>by
  obtain ⟨o',es',ep',ho',r'⟩:=hm;rw [ho] at ho';cases ho';exact ⟨_,es',ep',hL,r'⟩) hok hg
def Inv.turned {t':Nat} {it:Ad} (I:Inv X pins σ H s) (k:∀ b o,b≠it->s.heap.get? b=some o->h'.get? b=some o) (hn:H it=none) (hL:it≠X.env.locals)
  (h1:it∈X.ex∨X.s₀.heap.objs.size<=it) (h2:∀ x c,X.env.cells.lookup x=some c->c≠it) (h3:∀ p∈X.pn++pins,p.1≠it):Inv X pins σ H { s with heap:=h',toks:=t' }:=by
 have nit:∀ b u,H b=some u->b≠it:=λb u e z=>by rw [z,hn] at e;cases e
 refine I.step (g':=s.gens) (d':=s.drawn) (ch:=[it]) (λb hb=>?_) (λb o _ _ hc e _=>k b o (λz=>hc (by simp [z])) e) (λb o _ _ hc e _=>⟨o.slots,k b o (λz=>hc (by simp [z])) e⟩) (λ_ _ _ _ n=>n)
  (λb o hc e=>⟨o,k b o (λz=>hc (by simp [z])) e⟩) (λ_ _ e=>e) (λ_ _ _ e=>e) (λb ps e=>⟨#[],by rw [e];simp⟩) (λm hm=>?_) (λb u e=>?_) I.bare
 ·have e:b=it:=by simpa using hb
  subst e;exact ⟨h1,hL,h2,h3⟩
 ·obtain ⟨o,es,ep,ho,r⟩:=hm
  exact ⟨o,es,ep,k _ o (Ne.symm hL) ho,r⟩
 ·refine (I.hok b u e).stay (λc v hc q=>k c v ?_ q) (λ_ q=>q) λ_ _ q=>q
  rcases hc with z | z
  ·rw [z];exact nit b u e
  ·exact nit c _ z
def Inv.tok (I:Inv X pins σ H s) (t:Nat):Inv X pins σ H { s with toks:=t }:=I.un (h':=s.heap) (t':=t) Un.refl I.hok
def Inv.kept {t':Nat} (I:Inv X pins σ H s) (k:∀ b u,s.heap.get? b=some u->h'.get? b=some u):Inv X pins σ H { s with heap:=h',toks:=t' }:=I.un (Un.kept k) (I.hok.kept k)
def Inv.laid {a:Ad} {o:HO} {t':Nat} (I:Inv X pins σ H s) (k:∀ b u,s.heap.get? b=some u->h'.get? b=some u) (hp:s.heap.objs.size<=a) (new:ObjOk X.prog X.w (upd H a o) h' a o) :
  Inv X pins σ (upd H a o) { s with heap:=h',toks:=t' }:=I.un (Un.laid k hp (I.hok.fresh hp)) (I.hok.laid k hp new)
def Inv.write {x e:Ad} {o:HO} {t':Nat} (I:Inv X pins σ H s) (mu:Mut (H x)) (he:e=x∨H e=some (.own x)) (k:∀ b u,b≠e->s.heap.get? b=some u->h'.get? b=some u) (heo:∃ u,h'.get? e=some u)
  (new:ObjOk X.prog X.w (upd H x o) h' x o):Inv X pins σ (upd H x o) { s with heap:=h',toks:=t' }:=I.un (Un.write mu he k heo) (I.hok.write mu he k heo new)
def Inv.pins_of {pins':Ji} (I:Inv X pins σ H s) (h:∀ p∈pins',s.heap.get? p.1=some p.2/\H p.1=none/\p.1≠X.env.locals/\p.1 ∉ X.fs/\∀ v,p.2.data≠.cell v):Inv X pins' σ H s :=
 ⟨I.ok,I.os,I.bare,I.base,I.loc,I.cell,I.free,I.freeC,λp hp=>(List.mem_append.mp hp).elim (λz=>I.pin p (List.mem_append_left _ z)) (h p),I.hok,I.len⟩
def za3 {N:Jl} (hN:N.Nodup) {i j:Nat} {x:Str} (a:N[i]?=some x) (b:N[j]?=some x):i=j:=by
 obtain ⟨h1,e1⟩:=List.getElem?_eq_some_iff.mp a;obtain ⟨h2,e2⟩:=List.getElem?_eq_some_iff.mp b;exact (List.getElem_inj hN).mp (e1.trans e2.symm)
def Z0 {M:Model} {A:Around} {E:Jg} {i:Nat} {x:Str} {v:V} {u:Vl} {Q:Unit->Sh->Prop} (I:Inv X pins σ H s) (hN:X.N.Nodup) (hi:X.N[i]?=some x) (hx:Loc X.env.scope x) (r:RelV v u)
  (h:∀ s',Inv X pins (σ.set i (some v)) H s'->(∃ a,Heap.SameBut a s.heap s'.heap/\(a=X.env.locals∨X.env.cells.lookup x=some a))->Q () s') (hf:X.fn x=true∨X.env.scope.names.lookup x=some .local:=by first | exact .inl rfl | exact .inr rfl | assumption):wpAny M A (storeName X.env x u) Q E s:=by
 obtain ⟨m,hn,hl⟩:=id I.loc;have hcls:(X.env.scope.kind == .class || (X.env.scope.kind == .module && X.env.locals != X.env.globals))=false:=by rw [I.ok.kind];rfl
 have hiσ:i<σ.length:=by rw [I.len];exact (List.getElem?_eq_some_iff.mp hi).1
 have cne:=I.cne
 have tracked:∀ {a:Ad} {h':Heap},(∃ o,s.heap.get? a=some o/\H a=none)->Heap.SameBut a s.heap h'->HOk X.prog X.w H h':=λ{a h'} ha hs b ob e=>by
  obtain ⟨_,_,hfree⟩:=ha;refine (I.hok b ob e).stay (λc w' hc q=>(hs.2 c ?_).trans q) (λ_ q=>q) λ_ _ q=>q;rintro rfl;rcases hc with rfl | hc
  ·rw [hfree] at e;cases e
  ·rw [hfree] at hc;cases hc
 rcases hx with hk | hk
 ·refine wpAny_storeName_local hk hn (λh' hn' hs=>?_) hcls
  obtain ⟨oL,_,_,hoL,_⟩:=id hn;refine h _ ⟨I.ok,I.os,I.bare,⟨λb o e n hb hx=>?_,λb o e n hb hx=>?_,I.base.free,λb o e hx=>?_,I.base.tups,I.base.frzs,I.base.tbls⟩,⟨_,hn',λj y v' e1 e2 e3=>?_⟩,λy c e=>?_,I.free,I.freeC,λp hp=>?_,tracked ⟨oL,hoL,I.free⟩ hs,by simpa using I.len⟩ ⟨_,hs,.inl rfl⟩
  ·exact (hs.2 b (Nat.ne_of_lt (q2y (Heap.lt_size e) I.ok.above))).trans (I.base.keep b o e n hb hx)
  ·obtain ⟨sl,e1⟩:=I.base.slot b o e n hb hx
   exact ⟨sl,(hs.2 b (Nat.ne_of_lt (q2y (Heap.lt_size e) I.ok.above))).trans e1⟩
  ·obtain ⟨o',e1⟩:=I.base.there b o e hx
   exact ⟨o',(hs.2 b (Nat.ne_of_lt (q2y (Heap.lt_size e) I.ok.above))).trans e1⟩
  ·by_cases hj:j=i
   ·subst hj
    rw [hi] at e1;cases e1;rw [List.getElem?_set_self hiσ] at e2;cases e2;exact ⟨u,r,.inl ⟨hk,by simp⟩⟩
   ·rw [List.getElem?_set_ne (Ne.symm hj)] at e2
    obtain ⟨u',r',q⟩:=hl j y v' e1 e2 e3;refine ⟨u',r',?_⟩;rcases q with ⟨k,e⟩ | ⟨k,c,e,z⟩
    ·refine .inl ⟨k,?_⟩
     have:y≠x:=λe=>hj (za3 hN e1 (e ▸ hi));simp [this,e]
    ·exact .inr ⟨k,c,e,z.sameBut hs (cne y c e)⟩
  ·obtain ⟨w',z⟩:=I.cell y c e
   exact ⟨w',z.sameBut hs (cne y c e)⟩
  ·obtain ⟨e,n,ne,nf,d⟩:=I.pin p hp
   exact ⟨(hs.2 p.1 ne).trans e,n,ne,nf,d⟩
 ·have hfn:X.fn x=true:=by
   rcases hf with z | z
   ·exact z
   ·rw [z] at hk;cases hk
  obtain ⟨c,hc⟩:=I.ok.has x (.inl hk);obtain ⟨w',z⟩:=I.cell x c hc;refine wpAny_storeName_cell I.ok.kind hk hc z (λh' hc' hs=>?_);obtain ⟨oc,hoc,hocd⟩:=id z;refine h { s with heap:=h' } ⟨I.ok,I.os,I.bare,⟨λb o e n hb hx=>?_,λb o e n hb hx=>?_,I.base.free,λb o e hx=>?_,I.base.tups,I.base.frzs,I.base.tbls⟩,⟨m,hn.sameBut hs (Ne.symm (cne x c hc)),λj y v' e1 e2 e3=>?_⟩,λy c' e=>?_,I.free,I.freeC,λp hp=>?_,tracked ⟨oc,hoc,I.freeC x c hc⟩ hs,by simpa using I.len⟩ ⟨c,hs,.inr hc⟩
  ·exact (hs.2 b (Nat.ne_of_lt (q2y (Heap.lt_size e) (I.ok.cab x c hfn hc)))).trans (I.base.keep b o e n hb hx)
  ·obtain ⟨sl,e1⟩:=I.base.slot b o e n hb hx
   exact ⟨sl,(hs.2 b (Nat.ne_of_lt (q2y (Heap.lt_size e) (I.ok.cab x c hfn hc)))).trans e1⟩
  ·obtain ⟨o',e1⟩:=I.base.there b o e hx
   exact ⟨o',(hs.2 b (Nat.ne_of_lt (q2y (Heap.lt_size e) (I.ok.cab x c hfn hc)))).trans e1⟩
  ·by_cases hj:j=i
   ·subst hj
    rw [hi] at e1;cases e1;rw [List.getElem?_set_self hiσ] at e2;cases e2;exact ⟨u,r,.inr ⟨.inl hk,c,hc,hc'⟩⟩
   ·rw [List.getElem?_set_ne (Ne.symm hj)] at e2
    obtain ⟨u',r',q⟩:=hl j y v' e1 e2 e3;refine ⟨u',r',?_⟩;rcases q with q | ⟨k,c',e,z'⟩
    ·exact .inl q
    ·refine .inr ⟨k,c',e,z'.sameBut hs ?_⟩
     rintro rfl;exact hj (za3 hN e1 (I.ok.inj _ _ _ e hc ▸ hi))
  ·by_cases hcc:c'=c
   ·subst hcc;exact ⟨_,hc'⟩
   ·obtain ⟨w2,z2⟩:=I.cell y c' e
    exact ⟨w2,z2.sameBut hs hcc⟩
  ·obtain ⟨e,n,ne,nf,d⟩:=I.pin p hp
   refine ⟨(hs.2 p.1 ?_).trans e,n,ne,nf,d⟩;intro q;rw [q,hoc] at e;have q':oc=p.2:=Option.some.inj e;exact d w' (by rw [← q'];exact hocd)
def zam {M:Model} {A:Around} {E:Jg} {i:Nat} {x:Str} {v:V} {u:Vl} {Q:Unit->Sh->Prop} (I:Inv X pins σ H s) (hN:X.N.Nodup) (hi:X.N[i]?=some x) (hx:Loc X.env.scope x) (r:RelV v u)
  (h:∀ s',Inv X pins (σ.set i (some v)) H s'->Q () s') (hf:X.fn x=true∨X.env.scope.names.lookup x=some .local:=by first | exact .inl rfl | exact .inr rfl | assumption):wpAny M A (storeName X.env x u) Q E s :=
 Z0 I hN hi hx r (λs' I' _=>h s' I') hf
def Inv.call' {s':Sh} {ch:Jm} (I:Inv X pins σ H s) (ho:s'.os=s.os) (u:Un (frs X.stack) ch H H' s.heap s'.heap) (hok:HOk X.prog X.w H' s'.heap) (hg:AllBare s'.gens)
  (hch:∀ b∈ch,(b∈X.ex∨X.s₀.heap.objs.size<=b)/\b≠X.env.locals/\(∀ x c,X.env.cells.lookup x=some c->c≠b)/\∀ p∈X.pn++pins,p.1≠b):Inv X pins σ H' s':=by
 obtain ⟨h',g',d',t',o'⟩:=s';have e:o'=s.os:=ho;subst e;exact I.call (g':=g') (t':=t') (d':=d') u hok hg hch
end
abbrev XK:=Vl->Option Ad->Hp->Prop
abbrev St:=List (Ju)
abbrev VK:=V->Hp->Prop
abbrev TE:=St->Hp->VK->Prop
abbrev TT:=St->Hp->(Bool->Hp->Prop)->Prop
abbrev TA:=St->Hp->(Jt->Hp->Prop)->Prop
structure Ends where
 nx:St->Hp->Prop
 rt:VK
 bk:St->Hp->Prop:=λ_ _=>False
 ct:St->Hp->Prop:=λ_ _=>False
abbrev TS:=Ends->St->Hp->Prop
def EP (X:Cx) (pins:Ji) (σ:St) (Q:VK) (u:Vl) (s':Sh):Prop:=∃ v H',Inv X pins σ H' s'/\RelV v u/\Q v H'
def TP (X:Cx) (pins:Ji) (σ:St) (Q:Bool->Hp->Prop) (b:Bool) (s':Sh):Prop:=∃ H',Inv X pins σ H' s'/\Q b H'
def AP (X:Cx) (pins:Ji) (σ:St) (Q:Jt->Hp->Prop) (us:Jj) (s':Sh):Prop:=∃ vs H',Inv X pins σ H' s'/\Vals vs us/\Q vs H'
def SP (X:Cx) (pins:Ji) (D:Ends) (f:Flow) (s':Sh):Prop :=
 match f with
 | .next=>∃ σ' H',Inv X pins σ' H' s'/\D.nx σ' H'
 | .brk=>∃ σ' H',Inv X pins σ' H' s'/\D.bk σ' H'
 | .cont=>∃ σ' H',Inv X pins σ' H' s'/\D.ct σ' H'
 | .ret u=>∃ v σ' H',Inv X pins σ' H' s'/\RelV v u/\D.rt v H'
def PE (X:Cx) (e:Expr) (t:TE):Prop :=
 ∀ (pins:Ji) (s:Sh) (σ:St) (H:Hp) (Q:VK),Inv X pins σ H s->t σ H Q->wpAny (model X.prog X.w) X.A (eval e X.env) (EP X pins σ Q) X.xe s
def PT (X:Cx) (e:Expr) (t:TT):Prop :=
 ∀ (pins:Ji) (s:Sh) (σ:St) (H:Hp) (Q:Bool->Hp->Prop),Inv X pins σ H s->t σ H Q->wpAny (model X.prog X.w) X.A (isTrue e X.env (eval e X.env)) (TP X pins σ Q) X.xe s
def PW (X:Cx) (e:Expr) (t:TT):Prop :=
 ∀ (whole:Sem Vl) (pins:Ji) (s:Sh) (σ:St) (H:Hp) (Q:Bool->Hp->Prop),Inv X pins σ H s->t σ H Q->wpAny (model X.prog X.w) X.A (isTrue e X.env whole) (TP X pins σ Q) X.xe s
def PW.pt {X:Cx} {e:Expr} {t:TT} (h:PW X e t):PT X e t:=h _
def PA (X:Cx) (es:Jn) (t:TA):Prop :=
 ∀ (pos:Pos) (pins:Ji) (s:Sh) (σ:St) (H:Hp) (Q:Jt->Hp->Prop),Inv X pins σ H s->t σ H Q->wpAny (model X.prog X.w) X.A (spliced (backTo pos (starEach es X.env))) (AP X pins σ Q) X.xe s
def PS (X:Cx) (st:Stmt) (t:TS):Prop :=
 ∀ (pins:Ji) (s:Sh) (σ:St) (H:Hp) (D:Ends),Inv X pins σ H s->t D σ H->wpAny (model X.prog X.w) X.A (exec st X.env) (SP X pins D) X.xe s
def PSs (X:Cx) (st:List Stmt) (t:TS):Prop :=
 ∀ (pins:Ji) (s:Sh) (σ:St) (H:Hp) (D:Ends),Inv X pins σ H s->t D σ H->wpAny (model X.prog X.w) X.A (execs st X.env) (SP X pins D) X.xe s
def thn {α:Type} {t:Sem α} {Q Q':α->Sh->Prop} {M:Model} {A:Around} {E:Jg} {s:Sh} (h:wpAny M A t Q E s) (hQ:∀ a s,Q a s->Q' a s):wpAny M A t Q' E s:=wpAny_mono h hQ λ_ _ x=>x
section
variable {X:Cx}
inductive tVar (i:Nat) (σ:St) (H:Hp) (Q:VK):Prop
 | mk (v:_) (_:σ[i]?=some (some v)) (_:Q v H)
def tC (v:V):TE:=λ_ H Q=>Q v H
def pe_var {i:Nat} {x:Str} {pos:Pos} (hN:X.N[i]?=some x) (hv:Vis X.env.scope x) (hd:(x == ("__debug__":Str))=false:=by decide) (hcd:(x == ("__classdict__":Str))=false:=by decide):PE X (.Name x pos) (tVar i):=by
 intro pins s σ H Q I h;obtain ⟨v,e,h⟩:=h;obtain ⟨m,hn,hl⟩:=I.loc;obtain ⟨u,r,l⟩:=hl i x v hN e hv;have fin:EP X pins σ Q u s:=⟨v,H,I,r,h⟩;rcases l with ⟨hk,hm⟩ | ⟨hk,c,hc,hcell⟩
 ·exact wpAny_Name (wpAny_loadName_local I.ok.kind hk hn hm fin) hd
 ·rcases hk with hk | hk
  ·exact wpAny_Name (wpAny_loadName_cell I.ok.kind hk hc hcell fin) hd
  ·exact wpAny_Name (wpAny_loadName_free I.ok.kind hk hc hcell fin hcd) hd
def zb {i j pos}:PE X (.Constant (.int i) j pos) (tC (.int i)):=λ_ _ _ H _ I h=>wpAny_Constant_int ⟨.int i,H,I.tok _,⟨_,rfl⟩,h⟩
def yA {b j pos}:PE X (.Constant (.bool b) j pos) (tC (.bl b)):=λ_ _ _ H _ I h=>Constant_bool ⟨.bl b,H,I,rfl,h⟩
def xh {j pos}:PE X (.Constant .none j pos) (tC .non):=λ_ _ _ H _ I h=>Constant_none ⟨.non,H,I,rfl,h⟩
def zf {x j pos}:PE X (.Constant (.str x) j pos) (tC (.str x)):=λ_ _ _ H _ I h=>Calls.Constant_str ⟨.str x,H,I.tok _,⟨_,rfl⟩,h⟩
def Gl (X:Cx) (x:Str):Prop:=X.env.kindOf x=some .globalImplicit
def Zo {E:Jg} {pins:Ji} {s:Sh} {σ:St} {H:Hp} {x:Str} {u:Vl} {pos:Pos} {Q:Jg} (I:Inv X pins σ H s) (hg:Gl X x) (hm:X.mg x=some u) (h:Q u s)
  (hd:(x == ("__debug__":Str))=false:=by decide):wpAny (model X.prog X.w) X.A (eval (.Name x pos) X.env) Q E s :=
 Calls.Name_function_global I.ok.kind hg (Calls.loadGlobal_global (by rw [I.ok.glob];exact I.mod.glob.keeps I.bk) hm h) hd
def ZC {E:Jg} {pins:Ji} {s:Sh} {σ:St} {H:Hp} {x:Str} {u:Vl} {pos:Pos} {Q:Jg} (I:Inv X pins σ H s) (hg:Gl X x) (hm:X.mg x=none) (hv:bootBuiltins x=some u) (h:Q u s)
  (hn:x≠"__name__":=by decide) (hd:(x == ("__debug__":Str))=false:=by decide):wpAny (model X.prog X.w) X.A (eval (.Name x pos) X.env) Q E s:=by
 obtain ⟨mb,h1,h2⟩:=I.mod.blt;exact Calls.Name_function_global I.ok.kind hg (Calls.loadGlobal_builtin (by rw [I.ok.glob];exact I.mod.glob.keeps I.bk) hm (by rw [I.ok.blt];exact h1.keeps I.bk) ((h2 x hn).trans hv) h) hd
def pe_glob {x:Str} {v:V} {u:Vl} {pos:Pos} (hg:Gl X x) (hm:X.mg x=some u) (r:RelV v u) (hd:(x == ("__debug__":Str))=false:=by decide):PE X (.Name x pos) (tC v) :=
 λ_ _ _ H _ I h=>Zo I hg hm ⟨v,H,I,r,h⟩ hd
def pe_bltn {x:Str} {v:V} {u:Vl} {pos:Pos} (hg:Gl X x) (hm:X.mg x=none) (hv:bootBuiltins x=some u) (r:RelV v u) (hn:x≠"__name__":=by decide) (hd:(x == ("__debug__":Str))=false:=by decide):PE X (.Name x pos) (tC v) :=
 λ_ _ _ H _ I h=>ZC I hg hm hv ⟨v,H,I,r,h⟩ hn hd
variable {a b:Expr} {ta tb:TE} {pos:Pos}
inductive tB_S (Q:(Bool->Hp->Prop)) (x:V) (H1:Hp):Prop
 | mk (c:_) (_:x=.bl c) (_:Q c H1)
def tB (t:TE):TT:=λσ H Q=>t σ H λx H1=>tB_S Q x H1
def yi {e:Expr} {t:TE} (h:PE X e t) (he:∀ whole,isTrue e X.env whole=(do let v ← whole;standAt e.pos;holding [v] (truthy v)):=by intro _;rfl):PT X e (tB t):=by
 intro pins s σ H Q I hw;refine isTrue_plain (thn (h pins s σ H _ I hw) λv s1 ⟨x,H1,I1,r1,q1⟩=>?_) (he _);obtain ⟨d,rfl,q⟩:=q1;cases r1;exact wpAny_truthy_bool ⟨H1,I1,q⟩
variable {tA tB':TT} {rest:Jn}
def tAnd (t u:TT):TT:=λσ H Q=>t σ H λc H1=>if c=true then u σ H1 Q else Q false H1
def tOr (t u:TT):TT:=λσ H Q=>t σ H λc H1=>if c=true then Q true H1 else u σ H1 Q
def tNot (t:TT):TT:=λσ H Q=>t σ H λc H1=>Q (!c) H1
def Zm (ha:PT X a tA):PW X (.BoolOp .And [a] pos) tA:=by
 intro wh pins s σ H Q I h;refine isTrue_and (thn (ha pins s σ H Q I h) λc s1 e=>?_)
 cases c with
 | true=>exact isTrue_and_nil e
 | false=>exact e
def xJ (ha:PT X a tA):PW X (.BoolOp .Or [a] pos) tA:=by
 intro wh pins s σ H Q I h;refine isTrue_or (thn (ha pins s σ H Q I h) λc s1 e=>?_)
 cases c with
 | false=>exact isTrue_or_nil e
 | true=>exact e
def xV (ha:PT X a tA) (hb:PW X (.BoolOp .And (b::rest) pos) tB'):PW X (.BoolOp .And (a::b::rest) pos) (tAnd tA tB'):=by
 intro wh pins s σ H Q I h;refine isTrue_and (thn (ha pins s σ H _ I h) λc s1 ⟨H1,I1,q1⟩=>?_)
 cases c with
 | true=>exact hb wh pins s1 σ H1 Q I1 q1
 | false=>exact ⟨H1,I1,q1⟩
def xU (ha:PT X a tA) (hb:PW X (.BoolOp .Or (b::rest) pos) tB'):PW X (.BoolOp .Or (a::b::rest) pos) (tOr tA tB'):=by
 intro wh pins s σ H Q I h;refine isTrue_or (thn (ha pins s σ H _ I h) λc s1 ⟨H1,I1,q1⟩=>?_)
 cases c with
 | true=>exact ⟨H1,I1,q1⟩
 | false=>exact hb wh pins s1 σ H1 Q I1 q1
def YV (ha:PT X a tA):PT X (.UnaryOp .Not a pos) (tNot tA):=by
 intro pins s σ H Q I h;exact isTrue_not (ha pins s σ H (λc H1=>Q (!c) H1) I h)
inductive tAndV_S (tb:TE) (σ:St) (Q:VK) (x:V) (H1:Hp):Prop
 | mk (c:_) (_:x=.bl c) (_:if c=true then tb σ H1 Q else Q (.bl false) H1)
def tAndV (ta tb:TE):TE:=λσ H Q=>ta σ H λx H1=>tAndV_S tb σ Q x H1
inductive tOrV_S (tb:TE) (σ:St) (Q:VK) (x:V) (H1:Hp):Prop
 | mk (c:_) (_:x=.bl c) (_:if c=true then Q (.bl true) H1 else tb σ H1 Q)
def tOrV (ta tb:TE):TE:=λσ H Q=>ta σ H λx H1=>tOrV_S tb σ Q x H1
def xL {op} {t:TE} (h:PE X a t):PE X (.BoolOp op [a] pos) t:=λpins s σ H Q I hw=>BoolOp_one (h pins s σ H Q I hw)
def Z3 (ha:PE X a ta) (hb:PE X (.BoolOp .And (b::rest) pos) tb):PE X (.BoolOp .And (a::b::rest) pos) (tAndV ta tb):=by
 intro pins s σ H Q I h;refine BoolOp_and (thn (ha pins s σ H _ I h) λv s1 ⟨x,H1,I1,r1,q1⟩=>?_);obtain ⟨c,rfl,q1⟩:=q1;cases r1;refine wpAny_truthy_bool ?_
 cases c with
 | true=>exact hb pins s1 σ H1 Q I1 q1
 | false=>exact ⟨.bl false,H1,I1,rfl,q1⟩
def pe_or (ha:PE X a ta) (hb:PE X (.BoolOp .Or (b::rest) pos) tb):PE X (.BoolOp .Or (a::b::rest) pos) (tOrV ta tb):=by
 intro pins s σ H Q I h;refine BoolOp_or (thn (ha pins s σ H _ I h) λv s1 ⟨x,H1,I1,r1,q1⟩=>?_);obtain ⟨c,rfl,q1⟩:=q1;cases r1;refine wpAny_truthy_bool ?_
 cases c with
 | false=>exact hb pins s1 σ H1 Q I1 q1
 | true=>exact ⟨.bl true,H1,I1,rfl,q1⟩
def tIf (t:TT) (ta tb:TE):TE:=λσ H Q=>t σ H λc H1=>if c=true then ta σ H1 Q else tb σ H1 Q
def xX {c:Expr} (hc:PT X c tA) (ha:PE X a ta) (hb:PE X b tb):PE X (.IfExp c a b pos) (tIf tA ta tb):=by
 intro pins s σ H Q I h;refine wpAny_IfExp (thn (hc pins s σ H _ I h) λd s1 ⟨H1,I1,q1⟩=>?_)
 cases d with
 | true=>exact ha pins s1 σ H1 Q I1 q1
 | false=>exact hb pins s1 σ H1 Q I1 q1
end
def SqL (K:Fg) (H:Hp) (a:Ad) (xs:Jt):Prop :=
 Rd H a (.lst xs) ∨
  ∃ (o:Obj) (its:Array Vl) (n:Nat),K.lookup a=some o/\o.cls=.type "list"/\o.dict=none/\o.data=.seq its n/\its.size<=sizeLine/\Vals xs its.toList
def SqT (K:Fg) (H:Hp) (a:Ad) (xs:Jt):Prop :=
 Rd H a (.tup xs) ∨
  ∃ (o:Obj) (its:Array Vl) (n:Nat),K.lookup a=some o/\o.cls=.type "tuple"/\o.data=.seq its n/\its.size<=sizeLine/\Vals xs its.toList
def absV:Vl->Ju
 | .none=>some .non
 | .bool b=>some (.bl b)
 | .int i _=>some (.int i)
 | .str x _=>some (.str x)
 | .bytes b _=>some (.byt b)
 | .float b _=>some (.flt b)
 | .ref a=>some (.ref a)
 | .type n=>some (.ty n)
 | _=>none
def RelV.abs {x:V} {u:Vl} (r:RelV x u):absV u=some x:=by
 cases x with
 | non=>cases r;rfl
 | bl _=>cases r;rfl
 | int _=>obtain ⟨t,rfl⟩:=r;rfl
 | str _=>obtain ⟨t,rfl⟩:=r;rfl
 | byt _=>obtain ⟨t,rfl⟩:=r;rfl
 | flt _=>obtain ⟨t,rfl⟩:=r;rfl
 | ref _=>cases r;rfl
 | ty _=>cases r;rfl
def RelV.inj {x y:V} {u:Vl} (r:RelV x u) (q:RelV y u):x=y:=Option.some.inj (r.abs.symm.trans q.abs)
theorem Vals.inj:∀ {xs ys:Jt} {us:Jj},Vals xs us->Vals ys us->xs=ys
 | _,_,_,.nil,.nil=>rfl
 | _,_,_,.cons r t,.cons r' t'=>by rw [r.inj r',Vals.inj t t']
section
variable {X:Cx} {pins:Ji} {σ:St} {H:Hp} {s:Sh} {a:Ad} {xs ys:Jt}
def SqL.of {K:Fg} (h:H a=some (.lst xs)):SqL K H a xs:=.inl (.inl h)
def SqT.of {K:Fg} (h:H a=some (.tup xs)):SqT K H a xs:=.inl (.inl h)
def Inv.list (I:Inv X pins σ H s) (h:SqL X.K H a xs):∃ its:Jj,Vals xs its/\PlainL s.heap a its.toArray/\xs.length<=sizeLine:=by
 rcases h with h | ⟨o,its,n,hk,hc,hd,hs,hz,r⟩
 ·obtain ⟨z,its,n,r,e⟩:=h.ok I.hok
  exact ⟨its,r,⟨_,n,e,rfl,rfl,rfl⟩,z⟩
 ·refine ⟨its.toList,r,⟨o,n,I.kIn a o hk,hc,hd,by simpa using hs⟩,?_⟩
  have e:=r.length;simp only [Array.length_toList] at e;omega
def Inv.tuple (I:Inv X pins σ H s) (h:SqT X.K H a xs):∃ its:Jj,Vals xs its/\IsTup s.heap a its.toArray/\xs.length<=sizeLine:=by
 rcases h with h | ⟨o,its,n,hk,hc,hs,hz,r⟩
 ·obtain ⟨z,its,r,p⟩:=h.ok I.hok
  exact ⟨its,r,p,z⟩
 ·refine ⟨its.toList,r,⟨o,I.kIn a o hk,hc,n,by simpa using hs⟩,?_⟩
  have e:=r.length;simp only [Array.length_toList] at e;omega
def Inv.list_inj (I:Inv X pins σ H s) (h:SqL X.K H a xs) (h':SqL X.K H a ys):xs=ys:=by
 obtain ⟨its,r,⟨o,n,e,_,_,d⟩,_⟩:=I.list h;obtain ⟨its',r',⟨o',n',e',_,_,d'⟩,_⟩:=I.list h';rw [e] at e';cases e';rw [d] at d';injection d' with d1 _
 have:its=its':=by simpa using congrArg Array.toList d1
 subst this;exact r.inj r'
def Inv.tuple_inj (I:Inv X pins σ H s) (h:SqT X.K H a xs) (h':SqT X.K H a ys):xs=ys:=by
 obtain ⟨its,r,⟨o,e,_,n,d⟩,_⟩:=I.tuple h;obtain ⟨its',r',⟨o',e',_,n',d'⟩,_⟩:=I.tuple h';rw [e] at e';cases e';rw [d] at d';injection d' with d1 _
 have:its=its':=by simpa using congrArg Array.toList d1
 subst this;exact r.inj r'
end
abbrev Cx.wish (X:Cx) (E:Jg):Cx:={ X with xe:=E }
abbrev Cx.nox (X:Cx):Cx:=X.wish λ_ _=>False
def Cx.Ok.wish {X:Cx} (ok:X.Ok) (E:Jg):(X.wish E).Ok :=
 ⟨ok.mod,ok.kind,ok.glob,ok.blt,ok.above,ok.inj,ok.has,ok.cab,ok.hd,ok.frames,ok.stk,ok.exf,ok.bs,ok.bsz,ok.noex,ok.exfs,ok.funs,ok.frf⟩
def Cx.Ok.unwish {X:Cx} {E:Jg} (ok:(X.wish E).Ok):X.Ok :=
 ⟨ok.mod,ok.kind,ok.glob,ok.blt,ok.above,ok.inj,ok.has,ok.cab,ok.hd,ok.frames,ok.stk,ok.exf,ok.bs,ok.bsz,ok.noex,ok.exfs,ok.funs,ok.frf⟩
section
variable {X:Cx} {pins:Ji} {σ:St} {H:Hp} {s:Sh} {E:Jg}
def Inv.wish (I:Inv X pins σ H s) (E:Jg):Inv (X.wish E) pins σ H s:=⟨I.ok.wish E,I.os,I.bare,I.base,I.loc,I.cell,I.free,I.freeC,I.pin,I.hok,I.len⟩
def Inv.unwish (I:Inv (X.wish E) pins σ H s):Inv X pins σ H s:=⟨I.ok.unwish,I.os,I.bare,I.base,I.loc,I.cell,I.free,I.freeC,I.pin,I.hok,I.len⟩
def SP.unwish {D:Ends} {f:Flow} {s':Sh} (h:SP (X.wish E) pins D f s'):SP X pins D f s':=by
 cases f with
 | next=>obtain ⟨σ',H',I,q⟩:=h;exact ⟨σ',H',I.unwish,q⟩
 | brk=>obtain ⟨σ',H',I,q⟩:=h;exact ⟨σ',H',I.unwish,q⟩
 | cont=>obtain ⟨σ',H',I,q⟩:=h;exact ⟨σ',H',I.unwish,q⟩
 | ret u=>obtain ⟨v,σ',H',I,r,q⟩:=h;exact ⟨v,σ',H',I.unwish,r,q⟩
def PSs.nox {st:List Stmt} {t:TS} (h:PSs X.nox st t):PSs X st t:=λpins s σ H D I hw =>
 wpAny_mono (h pins s σ H D (I.wish _) hw) (λ_ _ q=>q.unwish) λ_ _ z=>False.elim z
end
section
variable {X:Cx} {st:Stmt} {rest:List Stmt} {t u:TS} {e:Expr} {te:TE} {pos:Pos}
def tNext:TS:=λD σ H=>D.nx σ H
def tSeq (t u:TS):TS:=λD σ H=>t { D with nx:=u D } σ H
def zj:PSs X [] tNext:=λ_ _ σ H _ I h=>wpAny_execs_nil ⟨σ,H,I,h⟩
def zd (h1:PS X st t) (h2:PSs X rest u):PSs X (st::rest) (tSeq t u):=by
 intro pins s σ H D I h;refine wpAny_execs_cons (thn (h1 pins s σ H { D with nx:=u D } I h) λf s1 q=>?_)
 cases f with
 | next =>
  obtain ⟨σ',H',I',q⟩:=q;exact h2 pins s1 σ' H' D I' q
 | ret v=>exact q
 | brk=>exact q
 | cont=>exact q
def ze (h1:PS X st t):PSs X [st] t:=by
 intro pins s σ H D I h;refine wpAny_execs_cons (thn (h1 pins s σ H D I h) λf s1 q=>?_)
 cases f with
 | next=>exact wpAny_execs_nil q
 | ret v=>exact q
 | brk=>exact q
 | cont=>exact q
def Inv.quiet {pins:Ji} {σ:St} {H:Hp} {s:Sh} (I:Inv X pins σ H s):interactive X.env=false:=by simp [interactive,I.ok.kind]
def tDrop (te:TE):TS:=λD σ H=>te σ H λ_ H1=>D.nx σ H1
def zG (he:PE X e te) (hs:swapsWith e none pos.line X.env=pure false:=by rfl):PS X (.Expr e pos) (tDrop te):=by
 intro pins s σ H D I h;exact wpAny_Expr_any (thn (he pins s σ H _ I h) λv s1 ⟨x,H1,I1,r1,q1⟩=>⟨σ,H1,I1,q1⟩) I.quiet hs
def tRet (te:TE):TS:=λD σ H=>te σ H D.rt
def zk (he:PE X e te):PS X (.Return (some e) pos) (tRet te):=by
 intro pins s σ H D I h;exact wpAny_Return_some (thn (he pins s σ H _ I h) λv s1 ⟨x,H1,I1,r1,q1⟩=>⟨x,σ,H1,I1,r1,q1⟩)
def tRetN:TS:=λD _ H=>D.rt .non H
def XZ:PS X (.Return none pos) tRetN:=λ_ _ σ H _ I h=>wpAny_Return_none ⟨.non,σ,H,I,rfl,h⟩
def tIfS (c:TT) (t u:TS):TS:=λD σ H=>c σ H λb H1=>if b=true then t D σ H1 else u D σ H1
def zv {c:Expr} {a b:List Stmt} {tc:TT} (hc:PT X c tc) (ha:PSs X a t) (hb:PSs X b u):PS X (.If c a b pos) (tIfS tc t u):=by
 intro pins s σ H D I h;refine wpAny_If (thn (hc pins s σ H _ I h) λd s1 ⟨H1,I1,q1⟩=>?_)
 cases d with
 | true=>exact ha pins s1 σ H1 D I1 q1
 | false=>exact hb pins s1 σ H1 D I1 q1
end
abbrev TG:=V->St->Hp->(St->Hp->Prop)->Prop
abbrev TGs:=Jt->St->Hp->(St->Hp->Prop)->Prop
def PG (X:Cx) (target:Expr) (t:TG):Prop :=
 ∀ (pins:Ji) (s:Sh) (σ:St) (H:Hp) (v:V) (u:Vl) (Q:St->Hp->Prop),Inv X pins σ H s->RelV v u->t v σ H Q ->
  wpAny (model X.prog X.w) X.A (assign target X.env u) (λ_ s'=>∃ σ' H',Inv X pins σ' H' s'/\Q σ' H') X.xe s
abbrev TSet:=V->V->V->Hp->(Hp->Prop)->Prop
def PSet (X:Cx) (t:TSet):Prop :=
 ∀ (pins:Ji) (s:Sh) (σ:St) (H:Hp) (o i v:V) (ov iv u:Vl) (Q:Hp->Prop),Inv X pins σ H s->RelV o ov->RelV i iv->RelV v u->t o i v H Q ->
  wpAny (model X.prog X.w) X.A (setItem ov iv u) (λ_ s'=>∃ H',Inv X pins σ H' s'/\Q H') X.xe s
abbrev TIp:=V->V->Hp->VK->Prop
section
variable {X:Cx} {pos:Pos}
def Yn (i:Nat):TG:=λv σ H Q=>Q (σ.set i (some v)) H
def zV {i:Nat} {x:Str} (hN:X.N.Nodup) (hi:X.N[i]?=some x) (hx:Loc X.env.scope x) (hf:X.fn x=true∨X.env.scope.names.lookup x=some .local:=by first | exact .inl rfl | exact .inr rfl | assumption):PG X (.Name x pos) (Yn i):=by
 intro pins s σ H v u Q I r h;exact wpAny_assign_Name (zam I hN hi hx r (λs' I'=>⟨_,H,I',h⟩) hf)
def gSub (to ti:TE) (t:TSet):TG:=λv σ H Q=>to σ H λo H1=>ti σ H1 λi H2=>t o i v H2 λH3=>Q σ H3
def pg_sub {o i:Expr} {to ti:TE} {t:TSet} (ho:PE X o to) (hi:PE X i ti) (hs:PSet X t)
  (ha:∀ v,assign (.Subscript o i pos) X.env v=(do
   let ov ← holding [v] (eval o X.env);let iv ← holding [v,ov] (eval i X.env)
   standAt pos
   holding [v,ov,iv] (setItem ov iv v)
   release [v,ov,iv] []):=by intro _;rfl):PG X (.Subscript o i pos) (gSub to ti t):=by
 intro pins s σ H v u Q I r h;rw [ha];refine q0x (wpAny_holding (thn (ho pins s σ H _ I h) λov s1 ⟨x,H1,I1,r1,q1⟩=>?_));refine q0x (wpAny_holding (thn (hi pins s1 σ H1 _ I1 q1) λiv s2 ⟨y,H2,I2,r2,q2⟩=>?_));refine q0x (wpAny_standAt (q0x (wpAny_holding (thn (hs pins s2 σ H2 x y v ov iv u _ I2 r1 r2 r q2) λ_ s3 ⟨H3,I3,q3⟩=>?_))));exact wpAny_release ⟨σ,H3,I3,q3⟩
def tAsg (te:TE) (g:TG):TS:=λD σ H=>te σ H λx H1=>g x σ H1 D.nx
def ps_asg {tg e:Expr} {te:TE} {g:TG} (he:PE X e te) (hg:PG X tg g) (hs:swapsWithSole [tg] e pos.line X.env=pure false:=by rfl) (hw:swappedStores [tg] e X.env=pure none:=by rfl)
  (h1:(assignEach [tg] X.env).map (·.2)=[assign tg X.env]:=by rfl):PS X (.Assign [tg] e pos) (tAsg te g):=by
 intro pins s σ H D I h;refine wpAny_Assign_stores (thn (he pins s σ H _ I h) λv s1 ⟨x,H1,I1,r1,q1⟩=>?_) hs hw;rw [h1];exact thn (hg pins s1 σ H1 x v _ I1 r1 q1) λ_ s2 q=>q
def zq {i:Nat} {x:Str} {e:Expr} {te:TE} {pos':Pos} (hN:X.N.Nodup) (hi:X.N[i]?=some x) (hx:Loc X.env.scope x) (he:PE X e te) (hs:swapsWith e (some (.Name x pos')) pos.line X.env=pure false:=by rfl) (hf:X.fn x=true∨X.env.scope.names.lookup x=some .local:=by first | exact .inl rfl | exact .inr rfl | assumption) :
  PS X (.Assign [.Name x pos'] e pos) (tAsg te (Yn i)):=by
 intro pins s σ H D I h;refine wpAny_Assign_Name (thn (he pins s σ H _ I h) λv s1 ⟨y,H1,I1,r1,q1⟩=>?_) hs;exact zam I1 hN hi hx r1 (λs2 I2=>⟨_,H1,I2,q1⟩) hf
inductive tWhile (c:TT) (tb:TS) (D:Ends) (σ:St) (H:Hp):Prop
 | mk (W:Nat->St->Hp->Prop) (_:(∃ m,W m σ H)) (_:∀ m σ H,W m σ H->c σ H λb H1=>if b=true then ∃ N:St->Hp->Prop,(∀ σ' H',N σ' H'->∃ m',m'<m/\W m' σ' H')/\tb { D with nx:=N,ct:=N,bk:=D.nx } σ H1 else D.nx σ H1)
def zav {c:Expr} {body:List Stmt} {tc:TT} {tb:TS} (hp:PassesOwn (model X.prog X.w) X.A X.env X.xe) (hc:PT X c tc) (hb:PSs X body tb):PS X (.While c body [] pos) (tWhile tc tb):=by
 intro pins s σ H D I h;obtain ⟨W,⟨m0,w0⟩,turn⟩:=h;refine wpAny_While (codeAny_whileLoop (λn s'=>∃ σ' H',Inv X pins σ' H' s'/\W n σ' H') ?_ m0 ⟨σ,H,I,w0⟩);rintro n s1 ⟨σ1,H1,I1,w1⟩;refine wpAny_passesOwn hp (thn (hc pins s1 σ1 H1 _ I1 (turn n σ1 H1 w1)) λb s2 ⟨H2,I2,q2⟩=>?_)
 cases b with
 | true =>
  obtain ⟨N,hN,q2⟩:=q2;rw [if_pos rfl];refine wpAny_passesOwn hp (thn (hb pins s2 σ1 H2 _ I2 q2) λf s3 q3=>?_)
  cases f with
  | next =>
   obtain ⟨σ3,H3,I3,n3⟩:=q3;obtain ⟨m',hm,w3⟩:=hN σ3 H3 n3;exact ⟨m',hm,σ3,H3,I3,w3⟩
  | cont =>
   obtain ⟨σ3,H3,I3,n3⟩:=q3;obtain ⟨m',hm,w3⟩:=hN σ3 H3 n3;exact ⟨m',hm,σ3,H3,I3,w3⟩
  | brk=>exact q3
  | ret v=>exact q3
 | false =>
  rw [if_neg q1z];exact wpAny_execs_nil ⟨σ1,H2,I2,q2⟩
end
structure It where
 go:Nat->Hp->Prop
 yld:Nat->Hp->V->Hp->Prop
 stop:Nat->Hp->Prop
def Yc (X:Cx) (pins:Ji) (H:Hp) (b:Ad):Prop :=
 H b=none/\b≠X.env.locals/\b ∉ X.fs/\(b∈X.ex∨X.s₀.heap.objs.size<=b)/\(∀ x c,X.env.cells.lookup x=some c->c≠b)/\∀ p∈X.pn++pins,p.1≠b
def Inv.fpOk {X:Cx} {pins:Ji} {σ:St} {H H':Hp} {s:Sh} {b:Ad} (I:Inv X pins σ H s) (hb:s.heap.objs.size<=b) (hn:H' b=none):Yc X pins H' b:=by
 refine ⟨hn,Nat.ne_of_gt (q2y I.lt hb),I.nofs hb,.inr (Nat.le_trans I.sz hb),λx c e z=>?_,λp hp z=>?_⟩
 ·obtain ⟨v,q⟩:=I.cell x c e
  exact absurd (q2y q.lt (by rw [z];exact hb)) (Nat.lt_irrefl _)
 ·exact absurd (q2y (Heap.lt_size (I.pin p hp).1) (by rw [z];exact hb)) (Nat.lt_irrefl _)
structure Turn (P:Program) (w:World) (K:Fg) (tg:Expr) (J:It) (fp:Jm) (it:Ad) (tn:Nat->Heap->Prop):Prop where
 mem:it∈fp
 obj:∀ i h,tn i h->∀ b∈fp,∃ o,h.get? b=some o/\∀ v,o.data≠.cell v
 keep:∀ i h h',tn i h->(∀ b∈fp,∀ o,h.get? b=some o->h'.get? b=some o)->tn i h'
 item:∀ (X:Cx),X.prog=P->X.w=w->X.K=K->X.calm=true->∀ (i:Nat) (pins:Ji) (s:Sh) (σ:St) (H:Hp) (E:Jg),Inv X pins σ H s->(∀ b∈fp,Yc X pins H b)->tn i s.heap->J.go i H ->
  wpAny (model P w) X.A (pyNext (.ref it)) (λr s1=>∃ u,r=some u /\
   wpAny (model P w) X.A (letOwnedTupleGo tg (.ref it) u) (λ_ s2=>∃ x H',Inv X pins σ H' s2/\RelV x u/\J.yld i H x H'/\tn (i+1) s2.heap/\∀ b∈fp,H' b=none) E s1) E s
 done:∀ (X:Cx),X.prog=P->X.w=w->X.K=K->X.calm=true->∀ (i:Nat) (pins:Ji) (s:Sh) (σ:St) (H:Hp) (E:Jg),Inv X pins σ H s->(∀ b∈fp,Yc X pins H b)->tn i s.heap->J.stop i H ->
  wpAny (model P w) X.A (pyNext (.ref it)) (λr s1=>r=none/\Inv X pins σ H s1) E s
 self:∀ (A:Around) (i:Nat) (s:Sh) (Q:Jg) (E:Jg),tn i s.heap->Q (.ref it) s->wpAny (model P w) A (pyIter (.ref it)) Q E s
abbrev TI:=St->Hp->(It->Hp->Prop)->Prop
def PIE (X:Cx) (pins:Ji) (σ:St) (tg:Expr) (R:It->Hp->Prop) (itv:Vl) (s2:Sh):Prop :=
 ∃ (it:Ad) (fp:Jm) (tn:Nat->Heap->Prop) (J:It) (H':Hp),itv=.ref it/\Inv X pins σ H' s2/\Turn X.prog X.w X.K tg J fp it tn/\tn 0 s2.heap/\(∀ b∈fp,Yc X pins H' b)/\R J H'
def PI (X:Cx) (tg iter:Expr) (wi:TI):Prop :=
 ∀ (pins:Ji) (s:Sh) (σ:St) (H:Hp) (R:It->Hp->Prop),Inv X pins σ H s->wi σ H R ->
  wpAny (model X.prog X.w) X.A (eval iter X.env) (λv s1=>wpAny (model X.prog X.w) X.A (pyIter v) (PIE X pins σ tg R) X.xe s1) X.xe s
def go_of {M:Model} {A:Around} {E:Jg} {s:Sh} {tg:Expr} {it:Ad} {u:Vl} {o:Obj} {n:String} {vs:Array Vl} {Q:Unit->Sh->Prop} (ho:s.heap.get? it=some o) (hc:o.cls=.type n) (hd:o.data=.fields vs)
    (hn:["enumerate","zip","dict_itemiterator","dict_reverseitemiterator","odict_iterator","itertools.zip_longest","itertools.pairwise"].contains n=false) (hQ:Q () s):wpAny M A (letOwnedTupleGo tg (.ref it) u) Q E s:=by
  unfold letOwnedTupleGo;cases tg <;> first
    | exact q0y hQ
    | (cases u <;> first
        | exact q0y hQ
        | (refine q0x (wpAny_load ho ?_)
           rw [hc,hd];show wpAny M A (if (["enumerate","zip","dict_itemiterator","dict_reverseitemiterator","odict_iterator","itertools.zip_longest","itertools.pairwise"].contains n && vs[0]? == some (rawInt _))=true then _ else _) Q E s;rw [if_neg (by intro h;rw [hn,Bool.false_and] at h;cases h)];exact q0y hQ))
def Itl (K:Fg) (a:Ad):It :=
 ⟨λi H=>∃ xs x,SqL K H a xs/\xs[i]?=some x,λi H x H'=>H'=H/\∀ xs,SqL K H a xs->xs[i]?=some x,λi H=>∃ xs,SqL K H a xs/\xs.length<=i⟩
def Itt (K:Fg) (a:Ad):It :=
 ⟨λi H=>∃ xs x,SqT K H a xs/\xs[i]?=some x,λi H x H'=>H'=H/\∀ xs,SqT K H a xs->xs[i]?=some x,λi H=>∃ xs,SqT K H a xs/\xs.length<=i⟩
def Itr (lo:Int) (n:Nat):It:=⟨λi _=>i<n,λi H x H'=>H'=H/\x=.int (lo+i),λi _=>n<=i⟩
def turn_list {P:Program} {w:World} {K:Fg} {tg:Expr} (a it:Ad):Turn P w K tg (Itl K a) [it] it (λi h=>h.IsListIter it a i) where
 mem:=by simp
 obj:=λi h st b hb=>by
  have e:b=it:=by simpa using hb
  subst e;obtain ⟨o,e,c,d⟩:=st;exact ⟨o,e,λv z=>by rw [d] at z;cases z⟩
 keep:=λi h h' st k=>st.at λo e=>k it (by simp) o e
 item:=by
  intro X hP hw hK hc i pins s σ H E I hf st hg;subst hP hw hK;obtain ⟨xs,x,hq,hx⟩:=hg;obtain ⟨its,rv,p,hz⟩:=I.list hq;obtain ⟨u,hu,ru⟩:=rv.get hx;obtain ⟨f0,f1,f2,f3,f4,f5⟩:=hf it (by simp);refine wpAny_pyNext_list_item st p.isList (x:=u) (by simpa using hu) λh' st' sb=>?_;have I1:Inv X pins σ H { s with heap:=h' }:=I.turned (t':=s.toks) (λb o hb e=>(sb.2 b hb).trans e) f0 f1 f3 f4 f5;obtain ⟨o,e,c,d⟩:=id st';exact ⟨u,rfl,go_of (s:={ s with heap:=h' }) e c d (by decide) ⟨x,H,I1,ru,⟨rfl,λys hy=>by rw [I.list_inj hy hq];exact hx⟩,st',λb hb=>(hf b hb).1⟩⟩
 done:=by
  intro X hP hw hK hc i pins s σ H E I hf st hg;subst hP hw hK;obtain ⟨xs,hq,hx⟩:=hg;obtain ⟨its,rv,p,hz⟩:=I.list hq;obtain ⟨f0,f1,f2,f3,f4,f5⟩:=hf it (by simp);have hl:=rv.length;exact wpAny_pyNext_list_end (I.ok.hd hc) st p.isList (by simp;omega) λh' eb=>⟨rfl,I.turned (t':=s.toks) (λb o hb e=>eb b o hb e) f0 f1 f3 f4 f5⟩
 self:=λ_ _ _ _ _ st h=>wpAny_pyIter_listiter st h
def zbh {P:Program} {w:World} {K:Fg} {tg:Expr} (a it:Ad):Turn P w K tg (Itt K a) [it] it (λi h=>h.IsTupleIter it a i) where
 mem:=by simp
 obj:=λi h st b hb=>by
  have e:b=it:=by simpa using hb
  subst e;obtain ⟨o,e,c,d⟩:=st;exact ⟨o,e,λv z=>by rw [d] at z;cases z⟩
 keep:=λi h h' st k=>st.at λo e=>k it (by simp) o e
 item:=by
  intro X hP hw hK hc i pins s σ H E I hf st hg;subst hP hw hK;obtain ⟨xs,x,hq,hx⟩:=hg;obtain ⟨its,rv,p,hz⟩:=I.tuple hq;obtain ⟨u,hu,ru⟩:=rv.get hx;obtain ⟨f0,f1,f2,f3,f4,f5⟩:=hf it (by simp);refine wpAny_pyNext_tuple_item st (show s.heap.IsTuple a its.toArray from p) (x:=u) (by simpa using hu) λh' st' sb=>?_;have I1:Inv X pins σ H { s with heap:=h' }:=I.turned (t':=s.toks) (λb o hb e=>(sb.2 b hb).trans e) f0 f1 f3 f4 f5;obtain ⟨o,e,c,d⟩:=id st';exact ⟨u,rfl,go_of (s:={ s with heap:=h' }) e c d (by decide) ⟨x,H,I1,ru,⟨rfl,λys hy=>by rw [I.tuple_inj hy hq];exact hx⟩,st',λb hb=>(hf b hb).1⟩⟩
 done:=by
  intro X hP hw hK hc i pins s σ H E I hf st hg;subst hP hw hK;obtain ⟨xs,hq,hx⟩:=hg;obtain ⟨its,rv,p,hz⟩:=I.tuple hq;obtain ⟨f0,f1,f2,f3,f4,f5⟩:=hf it (by simp);have hl:=rv.length;exact wpAny_pyNext_tuple_end (I.ok.hd hc) st (show s.heap.IsTuple a its.toArray from p) (by simp;omega) λh' eb=>⟨rfl,I.turned (t':=s.toks) (λb o hb e=>eb b o hb e) f0 f1 f3 f4 f5⟩
 self:=λ_ _ _ _ _ st h=>wpAny_pyIter_tupleiter st h
def zbi {P:Program} {w:World} {K:Fg} {tg:Expr} (it:Ad) (lo:Int) (n:Nat):Turn P w K tg (Itr lo n) [it] it (λi h=>IsRangeIter h it (lo+(i:Nat)*1) ((n:Int)-(i:Nat)) 1) where
 mem:=by simp
 obj:=λi h st b hb=>by
  have e:b=it:=by simpa using hb
  subst e
  exact ⟨_,st,λv z=>by
   have z':Data.fields _=Data.cell v:=z;cases z'⟩
 keep:=λi h h' st k=>k it (by simp) _ st
 item:=by
  intro X hP hw hK hc i pins s σ H E I hf st hg;subst hP hw hK;obtain ⟨f0,f1,f2,f3,f4,f5⟩:=hf it (by simp);have W:=Walks.range (prog:=X.prog) (w:=X.w) (I.ok.hd hc) it lo 1 n;refine W.item i s _ _ hg st λv h' tk hv st' kk=>?_;obtain ⟨t,rfl⟩:=hv;have I1:Inv X pins σ H { s with heap:=h',toks:=tk }:=I.turned (λb o hb e=>kk b o (by simpa using hb) e) f0 f1 f3 f4 f5;refine ⟨_,rfl,go_of (s:={ s with heap:=h',toks:=tk }) (n:="range_iterator") st' rfl rfl (by decide) ⟨.int (lo+i),H,I1,⟨t,?_⟩,⟨rfl,rfl⟩,st',λb hb=>(hf b hb).1⟩⟩;rw [Int.mul_one]
 done:=by
  intro X hP hw hK hc i pins s σ H E I hf st hg;subst hP hw hK;obtain ⟨f0,f1,f2,f3,f4,f5⟩:=hf it (by simp);exact wpAny_pyNext_range_end (I.ok.hd hc) st (by have:n<=i:=hg;omega) λh' eb=>⟨rfl,I.turned (t':=s.toks) (λb o hb e=>eb b o hb e) f0 f1 f3 f4 f5⟩
 self:=λ_ _ _ _ _ st h=>wpAny_pyIter_rangeiter st h
section
variable {X:Cx} {tg:Expr}
inductive iList_S (K:Fg) (R:(It->Hp->Prop)) (x:V) (H1:Hp):Prop
 | mk (a:_) (_:x=.ref a) (_:(∃ xs,SqL K H1 a xs)) (_:R (Itl K a) H1)
def iList (K:Fg) (tl:TE):TI:=λσ H R=>tl σ H λx H1=>iList_S K R x H1
inductive iTup_S (K:Fg) (R:(It->Hp->Prop)) (x:V) (H1:Hp):Prop
 | mk (a:_) (_:x=.ref a) (_:(∃ xs,SqT K H1 a xs)) (_:R (Itt K a) H1)
def iTup (K:Fg) (tl:TE):TI:=λσ H R=>tl σ H λx H1=>iTup_S K R x H1
def yj {l:Expr} {tl:TE} (hl:PE X l tl):PI X tg l (iList X.K tl):=by
 intro pins s σ H R I h;refine thn (hl pins s σ H _ I h) λv s1 ⟨x,H1,I1,r1,q1⟩=>?_;obtain ⟨a,e,⟨xs,hq⟩,q⟩:=q1;subst e;cases r1;obtain ⟨its,rv,p,hz⟩:=I1.list hq;refine wpAny_pyIter_list p.isList ?_;refine ⟨s1.heap.objs.size,[s1.heap.objs.size],_,_,H1,rfl,I1.kept (t':=s1.toks) λb o e=>Heap.get?_push_of_some _ e,turn_list a _,⟨_,Heap.get?_push_size _ rfl,rfl,rfl⟩,λb hb=>?_,q⟩;have e:b=s1.heap.objs.size:=by simpa using hb
 subst e;exact I1.fpOk (Nat.le_refl _) (I1.hok.fresh (Nat.le_refl _))
def pi_tup {l:Expr} {tl:TE} (hl:PE X l tl):PI X tg l (iTup X.K tl):=by
 intro pins s σ H R I h;refine thn (hl pins s σ H _ I h) λv s1 ⟨x,H1,I1,r1,q1⟩=>?_;obtain ⟨a,e,⟨xs,hq⟩,q⟩:=q1;subst e;cases r1;obtain ⟨its,rv,p,hz⟩:=I1.tuple hq;refine wpAny_pyIter_tuple (show s1.heap.IsTuple a its.toArray from p) ?_;refine ⟨s1.heap.objs.size,[s1.heap.objs.size],_,_,H1,rfl,I1.kept (t':=s1.toks) λb o e=>Heap.get?_push_of_some _ e,zbh a _,⟨_,Heap.get?_push_size _ rfl,rfl,rfl⟩,λb hb=>?_,q⟩;have e:b=s1.heap.objs.size:=by simpa using hb
 subst e;exact I1.fpOk (Nat.le_refl _) (I1.hok.fresh (Nat.le_refl _))
def range_it {pins:Ji} {σ:St} {H:Hp} {s:Sh} {R:It->Hp->Prop} {E:Jg} {lo hi:Int} {t u v:Tok} {tk:Nat} (I:Inv X pins σ H s) (h1:-(2 ^ 62)<=lo) (h2:lo<2 ^ 62) (h3:-(2 ^ 62)<=hi) (h4:hi<2 ^ 62)
  (q:R (Itr lo (hi-lo).toNat) H):wpAny (model X.prog X.w) X.A (pyIter (.ref s.heap.objs.size)) (PIE X pins σ tg R) E { s with heap:=s.heap.push { cls:=.type "range",data:=.fields #[.int lo t,.int hi u,.int 1 v] },toks:=tk }:=by
 refine wpAny_pyIter_range (IsRange.new ..) (small_one h1 h2 h3 h4) ?_;have I1:Inv X pins σ H { s with heap:=s.heap.push { cls:=.type "range",data:=.fields #[.int lo t,.int hi u,.int 1 v] },toks:=tk }:=I.kept λb o e=>Heap.get?_push_of_some _ e
 refine ⟨(s.heap.push { cls:=.type "range",data:=.fields #[.int lo t,.int hi u,.int 1 v] }).objs.size,[(s.heap.push { cls:=.type "range",data:=.fields #[.int lo t,.int hi u,.int 1 v] }).objs.size],_,_,H,rfl,
  I1.kept (t':=tk) λb o e=>Heap.get?_push_of_some _ e,zbi _ lo (hi-lo).toNat,?_,λb hb=>?_,q⟩
 ·have e1:lo+((0:Nat):Int)*1=lo:=by simp
  have e2:(((hi-lo).toNat:Nat):Int)-((0:Nat):Int)=Builtin.Range.rangeSize lo hi 1:=by rw [rangeSize_one];split <;> omega
  show IsRangeIter _ _ (lo+((0:Nat):Int)*1) ((((hi-lo).toNat:Nat):Int)-((0:Nat):Int)) 1;rw [e1,e2];exact Heap.get?_push_size _ rfl
 ·have e:b=(s.heap.push { cls:=.type "range",data:=.fields #[.int lo t,.int hi u,.int 1 v] }).objs.size:=by simpa using hb
  subst e;exact I1.fpOk (Nat.le_refl _) (I1.hok.fresh (Nat.le_refl _))
inductive iRng1_S (R:(It->Hp->Prop)) (vs:Jt) (H1:Hp):Prop
 | mk (j:Int) (_:vs=[.int j]) (_:-(2 ^ 62)<=j) (_:j<2 ^ 62) (_:R (Itr 0 j.toNat) H1)
def iRng1 (ta:TA):TI:=λσ H R=>ta σ H λvs H1=>iRng1_S R vs H1
def xc {a:Expr} {ta:TA} {p pos:Pos} (hg:Gl X "range") (hm:X.mg "range"=none) (ha:PA X [a] ta) (hs:starEach [a] X.env=[(false,eval a X.env)]:=by rfl):PI X tg (.Call (.Name "range" p) [a] [] pos) (iRng1 ta):=by
 intro pins s σ H R I h;refine Call_ (ZC I hg hm boot_range (PyProof.Rows.callWith_type1 (thn (ha pos pins s σ H _ I h) λus s1 ⟨vs,H1,I1,r1,q1⟩=>?_) hs rfl));obtain ⟨j,e,q1,q2,q⟩:=q1;subst e
 cases r1 with
 | cons r rr =>
  cases rr;obtain ⟨t,rfl⟩:=r;exact call_range_1 (range_it I1 (by omega) (by omega) q1 q2 (by simpa using q))
inductive tFor_S (g:TG) (tb:TS) (D:Ends) (σ:St) (J:It) (H1:Hp):Prop
 | mk (W:Nat->Nat->St->Hp->Prop) (_:(∃ m,W 0 m σ H1)) (_:∀ i m σ H,W i m σ H->(J.stop i H/\D.nx σ H)∨(J.go i H/\∃ N:St->Hp->Prop,(∀ σ' H',N σ' H'->∃ m',m'<m/\W (i+1) m' σ' H')/\∀ x H',J.yld i H x H'->g x σ H' λσ2 H2=>tb { D with nx:=N,ct:=N,bk:=D.nx } σ2 H2))
def tFor (wi:TI) (g:TG) (tb:TS):TS:=λD σ H=>wi σ H λJ H1=>tFor_S g tb D σ J H1
def YW (fp:Jm) (h:Heap):Ji:=fp.filterMap λb=>(h.get? b).map λo=>(b,o)
def yM {fp:Jm} {h:Heap} {b:Ad} {o:Obj} (hb:b∈fp) (e:h.get? b=some o):(b,o)∈YW fp h:=List.mem_filterMap.mpr ⟨b,hb,by rw [e];rfl⟩
def of_pinsAt {fp:Jm} {h:Heap} {p:Ad×Obj} (hp:p∈YW fp h):p.1∈fp/\h.get? p.1=some p.2:=by
 obtain ⟨b,hb,e⟩:=List.mem_filterMap.mp hp
 cases q:h.get? b with
 | none=>rw [q] at e;cases e
 | some o =>
  rw [q] at e;have e':(b,o)=p:=Option.some.inj e;subst e';exact ⟨hb,q⟩
def Inv.pinned {pins:Ji} {σ:St} {H:Hp} {s:Sh} {fp:Jm} (I:Inv X pins σ H s) (hf:∀ b∈fp,Yc X pins H b) (ho:∀ b∈fp,∃ o,s.heap.get? b=some o/\∀ v,o.data≠.cell v):Inv X (pins++YW fp s.heap) σ H s :=
 I.pins_of λp hp=>(List.mem_append.mp hp).elim (λz=>I.pin p (q2x _ z)) λz=>by
  obtain ⟨hb,e⟩:=of_pinsAt z;obtain ⟨f0,f1,f2,_⟩:=hf p.1 hb;obtain ⟨o,e',d⟩:=ho p.1 hb;rw [e] at e';cases e';exact ⟨e,f0,f1,f2,d⟩
def Inv.unpinned {pins pl:Ji} {σ:St} {H:Hp} {s:Sh} (I:Inv X (pins++pl) σ H s):Inv X pins σ H s:=I.pins_of λp hp=>I.pin p (q2x _ (List.mem_append_left _ hp))
def ym {iter:Expr} {body:List Stmt} {wi:TI} {g:TG} {tb:TS} {pos:Pos} (hp:PassesOwn (model X.prog X.w) X.A X.env X.xe) (hc:X.calm=true) (hi:PI X tg iter wi) (hg:PG X tg g) (hb:PSs X body tb)
  (hs:∀ x,foldedSetIterable iter X.env x=pure x:=by intro _;rfl):PS X (.For tg iter body [] pos) (tFor wi g tb):=by
 intro pins s σ H D I h;refine wpAny_For (thn (hi pins s σ H _ I h) λv s1 h1=>thn h1 λitv s2 h2=>?_) hs;obtain ⟨it,fp,tn,J,H2,e,I2,T,st2,f2,W,⟨m0,w0⟩,turn⟩:=h2;subst e;have stat:∀ {H':Hp},(∀ b∈fp,H' b=none)->∀ b∈fp,Yc X pins H' b:=λhn b hb=>⟨hn b hb,(f2 b hb).2⟩;refine codeAny_forLoop_any (λn s'=>∃ i σ' H',Inv X pins σ' H' s'/\tn i s'.heap/\(∀ b∈fp,H' b=none)/\W i n σ' H') ?_ m0 ⟨0,σ,H2,I2,st2,λb hb=>(f2 b hb).1,w0⟩;rintro n s3 ⟨i,σ3,H3,I3,st3,fr3,w3⟩;rcases turn i n σ3 H3 w3 with ⟨stop,qn⟩ | ⟨go,N,hN,step⟩
 ·refine wpAny_passesOwn hp (thn (T.done X rfl rfl rfl hc i pins s3 σ3 H3 X.xe I3 (stat fr3) st3 stop) λr s4 ⟨hr,I4⟩=>?_)
  subst hr;exact wpAny_execs_nil ⟨σ3,H3,I4,qn⟩
 ·refine wpAny_passesOwn hp (thn (T.item X rfl rfl rfl hc i pins s3 σ3 H3 X.xe I3 (stat fr3) st3 go) λr s4 ⟨u,hr,h4⟩=>?_)
  subst hr;refine wpAny_passesOwn hp (thn h4 λ_ s5 ⟨x,H5,I5,r5,y5,st5,fr5⟩=>?_);have I5':=I5.pinned (stat fr5) (T.obj _ _ st5);refine wpAny_passesOwn hp (thn (hg _ s5 σ3 H5 x u _ I5' r5 (step x H5 y5)) λ_ s6 ⟨σ6,H6,I6,q6⟩=>?_);refine wpAny_passesOwn hp (thn (hb _ s6 σ6 H6 _ I6 q6) λf s7 q7=>?_)
  have again:∀ {σ7:St} {H7:Hp},Inv X (pins++YW fp s5.heap) σ7 H7 s7->N σ7 H7->∃ m,m<n/\∃ i σ' H',Inv X pins σ' H' s7/\tn i s7.heap/\(∀ b∈fp,H' b=none)/\W i m σ' H':=λ{σ7 H7} I7 n7=>by
   obtain ⟨m',hm,w7⟩:=hN σ7 H7 n7;refine ⟨m',hm,i+1,σ7,H7,I7.unpinned,T.keep _ _ _ st5 λb hb o e=>(I7.pin (b,o) (q2x _ (q2x _ (yM hb e)))).1,λb hb=>?_,w7⟩;obtain ⟨o,e,d⟩:=T.obj _ _ st5 b hb;exact (I7.pin (b,o) (q2x _ (q2x _ (yM hb e)))).2.1
  cases f with
  | next=>obtain ⟨σ7,H7,I7,n7⟩:=q7;exact again I7 n7
  | cont=>obtain ⟨σ7,H7,I7,n7⟩:=q7;exact again I7 n7
  | brk=>obtain ⟨σ7,H7,I7,q7⟩:=q7;exact ⟨σ7,H7,I7.unpinned,q7⟩
  | ret v=>obtain ⟨x7,σ7,H7,I7,r7,q7⟩:=q7;exact ⟨x7,σ7,H7,I7.unpinned,r7,q7⟩
end
def ye {K:Fg} {a:Ad} {xs:Jt} {g:TG} {tb:TS} {D:Ends} {σ:St} {H:Hp} (Pv:Nat->St->Hp->Prop) (h0:Pv 0 σ H) (hl:∀ i σ H,i<=xs.length->Pv i σ H->SqL K H a xs)
  (hs:∀ i x σ H,xs[i]?=some x->Pv i σ H->g x σ H λσ2 H2=>tb { D with nx:=Pv (i+1),ct:=Pv (i+1),bk:=D.nx } σ2 H2) (hd:∀ σ H,Pv xs.length σ H->D.nx σ H) :
  tFor_S g tb D σ (Itl K a) H:=by
 refine ⟨λi m σ H=>m=xs.length-i/\i<=xs.length/\Pv i σ H,⟨xs.length,by simp,Nat.zero_le _,h0⟩,?_⟩;rintro i m σ H ⟨rfl,hi,p⟩;have q:=hl i σ H hi p;by_cases hlt:i<xs.length
 ·refine .inr ⟨⟨xs,xs[i],q,by simp [hlt]⟩,Pv (i+1),λσ' H' p'=>⟨xs.length-(i+1),by omega,rfl,hlt,p'⟩,λx H' y=>?_⟩
  obtain ⟨e,y⟩:=y;subst e;exact hs i x σ _ (y xs q) p
 ·have e:i=xs.length:=by omega
  subst e;exact .inl ⟨⟨xs,q,Nat.le_refl _⟩,hd σ H p⟩
def XA {lo:Int} {n:Nat} {g:TG} {tb:TS} {D:Ends} {σ:St} {H:Hp} (Pv:Nat->St->Hp->Prop) (h0:Pv 0 σ H)
  (hs:∀ i σ H,i<n->Pv i σ H->g (.int (lo+i)) σ H λσ2 H2=>tb { D with nx:=Pv (i+1),ct:=Pv (i+1),bk:=D.nx } σ2 H2) (hd:∀ σ H,Pv n σ H->D.nx σ H) :
  tFor_S g tb D σ (Itr lo n) H:=by
 refine ⟨λi m σ H=>m=n-i/\i<=n/\Pv i σ H,⟨n,by simp,Nat.zero_le _,h0⟩,?_⟩;rintro i m σ H ⟨rfl,hi,p⟩;by_cases hlt:i<n
 ·refine .inr ⟨hlt,Pv (i+1),λσ' H' p'=>⟨n-(i+1),by omega,rfl,hlt,p'⟩,λx H' y=>?_⟩
  obtain ⟨e,y⟩:=y;subst e y;exact hs i σ _ hlt p
 ·have e:i=n:=by omega
  subst e;exact .inl ⟨Nat.le_refl _,hd σ H p⟩
abbrev R2:=V->V->Hp->VK->Prop
def OpR (X:Cx) (f:Vl->Vl->Sem Vl) (r:R2):Prop :=
 ∀ (pins:Ji) (s:Sh) (σ:St) (H:Hp) (x y:V) (v u:Vl) (Q:VK),Inv X pins σ H s->RelV x v->RelV y u->r x y H Q ->
  wpAny (model X.prog X.w) X.A (f v u) (EP X pins σ Q) X.xe s
def UnR (X:Cx) (f:Vl->Sem Vl) (r:V->Hp->VK->Prop):Prop :=
 ∀ (pins:Ji) (s:Sh) (σ:St) (H:Hp) (x:V) (v:Vl) (Q:VK),Inv X pins σ H s->RelV x v->r x H Q ->
  wpAny (model X.prog X.w) X.A (f v) (EP X pins σ Q) X.xe s
def ZY (X:Cx) (f:Vl) (r:Jt->Hp->VK->Prop):Prop :=
 ∀ (pins:Ji) (s:Sh) (σ:St) (H:Hp) (xs:Jt) (us:Jj) (Q:VK),Inv X pins σ H s->Vals xs us->r xs H Q ->
  wpAny (model X.prog X.w) X.A (call f us) (EP X pins σ Q) X.xe s
def tOp (r:R2) (ta tb:TE):TE:=λσ H Q=>ta σ H λx H1=>tb σ H1 λy H2=>r x y H2 Q
def tUn (r:V->Hp->VK->Prop) (ta:TE):TE:=λσ H Q=>ta σ H λx H1=>r x H1 Q
inductive rI (C:Int->Int->Prop) (g:Int->Int->V) (x y:V) (H:Hp) (Q:VK):Prop
 | mk (i j:_) (_:x=.int i) (_:y=.int j) (_:C i j) (_:Q (g i j) H)
inductive rI0 (g:Int->Int->V) (x y:V) (H:Hp) (Q:VK):Prop
 | mk (i j:_) (_:x=.int i) (_:y=.int j) (_:Q (g i j) H)
inductive rU (g:Int->V) (x:V) (H:Hp) (Q:VK):Prop
 | mk (i:_) (_:x=.int i) (_:Q (g i) H)
section
variable {X:Cx} {a b c:Expr} {ta tb tc:TE} {pos:Pos}
def binT (ha:PE X a ta) (hb:PE X b tb) {pins:Ji} {s:Sh} {σ:St} {H:Hp} {R:V->V->Hp->Prop} (I:Inv X pins σ H s)
  (h:ta σ H λx H1=>tb σ H1 λy H2=>R x y H2) {Q:Jg} {f:Vl->Vl->Sem Vl}
  (hf:∀ v u s2 x y H2,Inv X pins σ H2 s2->RelV x v->RelV y u->R x y H2->wpAny (model X.prog X.w) X.A (f v u) Q X.xe s2) :
  wpAny (model X.prog X.w) X.A (eval a X.env) (λv s₁=>wpAny (model X.prog X.w) X.A (eval b X.env) (λu s₂=>wpAny (model X.prog X.w) X.A (f v u) Q X.xe s₂) X.xe s₁) X.xe s:=by
 refine thn (ha pins s σ H _ I h) λv s1 ⟨x,H1,I1,r1,q1⟩=>?_;refine thn (hb pins s1 σ H1 _ I1 q1) λu s2 ⟨y,H2,I2,r2,q2⟩=>?_;exact hf v u s2 x y H2 I2 r1 r2 q2
def zo {op:Operator} {r:R2} (ho:OpR X (binaryOp op) r) (ha:PE X a ta) (hb:PE X b tb):PE X (.BinOp a op b pos) (tOp r ta tb):=by
 intro pins s σ H Q I h;exact wpAny_BinOp (binT ha hb I h λv u s2 x y H2 I2 rx ry q=>ho pins s2 σ H2 x y v u Q I2 rx ry q)
def yo {op:UnaryOp} {r:V->Hp->VK->Prop} (ho:UnR X (unaryOp op) r) (ha:PE X a ta):PE X (.UnaryOp op a pos) (tUn r ta):=by
 intro pins s σ H Q I h;exact UnaryOp_ (thn (ha pins s σ H _ I h) λv s1 ⟨x,H1,I1,r1,q1⟩=>ho pins s1 σ H1 x v Q I1 r1 q1)
def opI {f:Vl->Vl->Sem Vl} {C:Int->Int->Prop} {g:Int->Int->Int}
  (rule:∀ (i j:Int) (t u:Tok) (s:Sh) (Q:Jg) (E:Jg),C i j->Q (.int (g i j) s.toks) { s with toks:=s.toks+1 }->wpAny (model X.prog X.w) X.A (f (.int i t) (.int j u)) Q E s) :
  OpR X f (rI C λi j=>.int (g i j)):=by
 intro pins s σ H x y v u Q I rx ry h;obtain ⟨i,j,rfl,rfl,hc,q⟩:=h;obtain ⟨t,rfl⟩:=rx;obtain ⟨t',rfl⟩:=ry;exact rule i j t t' s _ _ hc ⟨.int (g i j),H,I.tok _,⟨_,rfl⟩,q⟩
def opI0 {f:Vl->Vl->Sem Vl} {g:Int->Int->Int}
  (rule:∀ (i j:Int) (t u:Tok) (s:Sh) (Q:Jg) (E:Jg),Q (.int (g i j) s.toks) { s with toks:=s.toks+1 }->wpAny (model X.prog X.w) X.A (f (.int i t) (.int j u)) Q E s) :
  OpR X f (rI0 λi j=>.int (g i j)):=by
 intro pins s σ H x y v u Q I rx ry h;obtain ⟨i,j,rfl,rfl,q⟩:=h;obtain ⟨t,rfl⟩:=rx;obtain ⟨t',rfl⟩:=ry;exact rule i j t t' s _ _ ⟨.int (g i j),H,I.tok _,⟨_,rfl⟩,q⟩
def opB0 {f:Vl->Vl->Sem Vl} {g:Int->Int->Bool}
  (rule:∀ (i j:Int) (t u:Tok) (s:Sh) (Q:Jg) (E:Jg),Q (.bool (g i j)) s->wpAny (model X.prog X.w) X.A (f (.int i t) (.int j u)) Q E s) :
  OpR X f (rI0 λi j=>.bl (g i j)):=by
 intro pins s σ H x y v u Q I rx ry h;obtain ⟨i,j,rfl,rfl,q⟩:=h;obtain ⟨t,rfl⟩:=rx;obtain ⟨t',rfl⟩:=ry;exact rule i j t t' s _ _ ⟨.bl (g i j),H,I,rfl,q⟩
def CDiv (i j:Int):Prop:=0<j/\j<1073741824
def CMul (i j:Int):Prop:=(-(2 ^ 64)<i/\i<2 ^ 64)∨(-(2 ^ 64)<j/\j<2 ^ 64)
def CMul.ok {i j:Int} (h:CMul i j):IntMulOk i j:=by
 rcases h with ⟨h1,h2⟩ | ⟨h1,h2⟩
 ·exact .of_left (intBits_le_64 h1 h2)
 ·exact .of_right (intBits_le_64 h1 h2)
def yJ:OpR X (binaryOp .Add) (rI0 λi j=>.int (i+j)):=opI0 λ_ _ _ _ _ _ _ q=>add_int q
def xY:OpR X (binaryOp .Sub) (rI0 λi j=>.int (i-j)):=opI0 λ_ _ _ _ _ _ _ q=>sub_int q
def Z5:OpR X (binaryOp .Mult) (rI CMul λi j=>.int (i*j)):=opI λ_ _ _ _ _ _ _ hc q=>mul_int q hc.ok
def yd:OpR X (binaryOp .FloorDiv) (rI CDiv λi j=>.int (i / j)):=opI λi j _ _ _ _ _ hc q=>by
 have h1:(0:Int)<j:=hc.1;have h2:j<1073741824:=hc.2;exact floordiv_int (by omega) (by rw [Int.fdiv_eq_ediv_of_nonneg i (by omega)];exact q) (.inl (PyProof.noPylong_small (by omega)))
def zD:OpR X (binaryOp .Mod) (rI (λ_ j=>0<j) λi j=>.int (i % j)):=opI λi j _ _ _ _ _ hc q=>by
 have h1:(0:Int)<j:=hc;exact mod_int' (by omega) (by rw [Int.fmod_eq_emod_of_nonneg i (by omega)];exact q)
def op_modN:OpR X (binaryOp .Mod) (rI (λ_ j=>j≠0) λi j=>.int (i.fmod j)):=opI λ_ _ _ _ _ _ _ hc q=>mod_int' hc q
def op_and:OpR X (binaryOp .BitAnd) (rI0 λi j=>.int (Builtin.bitAnd i j)):=opI0 λ_ _ _ _ _ _ _ q=>and_int q
def op_or:OpR X (binaryOp .BitOr) (rI0 λi j=>.int (Builtin.bitOr i j)):=opI0 λ_ _ _ _ _ _ _ q=>or_int q
def op_xor:OpR X (binaryOp .BitXor) (rI0 λi j=>.int (Builtin.bitXor i j)):=opI0 λ_ _ _ _ _ _ _ q=>xor_int q
def unI {f:Vl->Sem Vl} {g:Int->Int}
  (rule:∀ (i:Int) (t:Tok) (s:Sh) (Q:Jg) (E:Jg),Q (.int (g i) s.toks) { s with toks:=s.toks+1 }->wpAny (model X.prog X.w) X.A (f (.int i t)) Q E s) :
  UnR X f (rU λi=>.int (g i)):=by
 intro pins s σ H x v Q I rx h;obtain ⟨i,rfl,q⟩:=h;obtain ⟨t,rfl⟩:=rx;exact rule i t s _ _ ⟨.int (g i),H,I.tok _,⟨_,rfl⟩,q⟩
def z4:UnR X (unaryOp .USub) (rU λi=>.int (-i)):=unI λ_ _ _ _ _ q=>neg_int q
end
def scal:V->V->Bool
 | .non,.non=>true | .non,.int _=>true | .int _,.non=>true | .non,.bl _=>true | .bl _,.non=>true | .non,.str _=>true | .str _,.non=>true
 | .int _,.int _=>true | .bl _,.bl _=>true | .str _,.str _=>true | .byt _,.byt _=>true
 | .int _,.str _=>true | .str _,.int _=>true | .bl _,.str _=>true | .str _,.bl _=>true
 | _,_=>false
def rEq:R2:=λx y H Q=>scal x y=true/\Q (.bl (decide (x=y))) H
def rNe:R2:=λx y H Q=>scal x y=true/\Q (.bl (!decide (x=y))) H
def dec_int {i j:Int}:decide (V.int i=V.int j)=(i == j):=by
 rw [Bool.eq_iff_iff];simp
def dec_bl {i j:Bool}:decide (V.bl i=V.bl j)=(i == j):=by
 rw [Bool.eq_iff_iff];simp
def dec_str {i j:Str}:decide (V.str i=V.str j)=(i == j):=by
 rw [Bool.eq_iff_iff];simp
def dec_byt {i j:Array UInt8}:decide (V.byt i=V.byt j)=(i.toList == j.toList):=by
 rw [Bool.eq_iff_iff];cases i;cases j;simp
section
variable {X:Cx} {a b c:Expr} {ta tb tc:TE} {pos:Pos}
def zR {pins:Ji} {σ:St} {H:Hp} {s:Sh} {Q:VK} {k k':Bool} (I:Inv X pins σ H s) (q:Q (.bl k) H) (e:k=k'):EP X pins σ Q (.bool k') s:=by
 subst e;exact ⟨.bl k,H,I,rfl,q⟩
def zO:OpR X (compareOp .Eq) rEq:=by
 intro pins s σ H x y v u Q I rx ry h;obtain ⟨hs,q⟩:=h
 cases x with
 | non =>
  cases rx
  cases y with
  | non=>cases ry;exact PySem.EqNone.eq_none_none (zR I q (by simp))
  | bl j=>cases ry;exact PySem.EqNone.eq_none_bool (zR I q (by simp))
  | int j=>obtain ⟨t',rfl⟩:=ry;exact PySem.EqNone.eq_none_int (zR I q (by simp))
  | str j=>obtain ⟨t',rfl⟩:=ry;exact PySem.EqNone.eq_none_str (zR I q (by simp))
  | _=>exact absurd (show false=true from hs) q1z
 | bl i =>
  cases rx
  cases y with
  | non=>cases ry;exact PySem.EqNone.eq_bool_none (zR I q (by simp))
  | bl j=>cases ry;exact eq_bool (zR I q dec_bl)
  | str j=>obtain ⟨t',rfl⟩:=ry;exact PySem.EqMixed.eq_bool_str (zR I q (by simp))
  | _=>exact absurd (show false=true from hs) q1z
 | int i =>
  obtain ⟨t,rfl⟩:=rx
  cases y with
  | non=>cases ry;exact PySem.EqNone.eq_int_none (zR I q (by simp))
  | int j=>obtain ⟨t',rfl⟩:=ry;exact eq_int (zR I q dec_int)
  | str j=>obtain ⟨t',rfl⟩:=ry;exact PySem.EqMixed.eq_int_str (zR I q (by simp))
  | _=>exact absurd (show false=true from hs) q1z
 | str i =>
  obtain ⟨t,rfl⟩:=rx
  cases y with
  | non=>cases ry;exact PySem.EqNone.eq_str_none (zR I q (by simp))
  | bl j=>cases ry;exact PySem.EqMixed.eq_str_bool (zR I q (by simp))
  | int j=>obtain ⟨t',rfl⟩:=ry;exact PySem.EqMixed.eq_str_int (zR I q (by simp))
  | str j=>obtain ⟨t',rfl⟩:=ry;exact eq_str (zR I q dec_str)
  | _=>exact absurd (show false=true from hs) q1z
 | byt i =>
  obtain ⟨t,rfl⟩:=rx
  cases y with
  | byt j=>obtain ⟨t',rfl⟩:=ry;exact PySem.W.eq_bytes (zR I q dec_byt)
  | _=>exact absurd (show false=true from hs) q1z
 | _=>cases y <;> exact absurd (show false=true from hs) q1z
def op_ne:OpR X (compareOp .NotEq) rNe:=by
 intro pins s σ H x y v u Q I rx ry h;obtain ⟨hs,q⟩:=h
 cases x with
 | non =>
  cases rx
  cases y with
  | non=>cases ry;exact PySem.EqNone.ne_none_none (zR I q (by simp))
  | bl j=>cases ry;exact PySem.EqNone.ne_none_bool (zR I q (by simp))
  | int j=>obtain ⟨t',rfl⟩:=ry;exact PySem.EqNone.ne_none_int (zR I q (by simp))
  | str j=>obtain ⟨t',rfl⟩:=ry;exact PySem.EqNone.ne_none_str (zR I q (by simp))
  | _=>exact absurd (show false=true from hs) q1z
 | bl i =>
  cases rx
  cases y with
  | non=>cases ry;exact PySem.EqNone.ne_bool_none (zR I q (by simp))
  | bl j=>cases ry;exact ne_bool (zR I q (congrArg not dec_bl))
  | str j=>obtain ⟨t',rfl⟩:=ry;exact PySem.EqMixed.ne_bool_str (zR I q (by simp))
  | _=>exact absurd (show false=true from hs) q1z
 | int i =>
  obtain ⟨t,rfl⟩:=rx
  cases y with
  | non=>cases ry;exact PySem.EqNone.ne_int_none (zR I q (by simp))
  | int j=>obtain ⟨t',rfl⟩:=ry;exact ne_int (zR I q (congrArg not dec_int))
  | str j=>obtain ⟨t',rfl⟩:=ry;exact PySem.EqMixed.ne_int_str (zR I q (by simp))
  | _=>exact absurd (show false=true from hs) q1z
 | str i =>
  obtain ⟨t,rfl⟩:=rx
  cases y with
  | non=>cases ry;exact PySem.EqNone.ne_str_none (zR I q (by simp))
  | bl j=>cases ry;exact PySem.EqMixed.ne_str_bool (zR I q (by simp))
  | int j=>obtain ⟨t',rfl⟩:=ry;exact PySem.EqMixed.ne_str_int (zR I q (by simp))
  | str j=>obtain ⟨t',rfl⟩:=ry;exact ne_str (zR I q (congrArg not dec_str))
  | _=>exact absurd (show false=true from hs) q1z
 | byt i =>
  obtain ⟨t,rfl⟩:=rx
  cases y with
  | byt j=>obtain ⟨t',rfl⟩:=ry;exact PySem.W.ne_bytes (zR I q (congrArg not dec_byt))
  | _=>exact absurd (show false=true from hs) q1z
 | _=>cases y <;> exact absurd (show false=true from hs) q1z
def Yf:OpR X (compareOp .Lt) (rI0 λi j=>.bl (decide (i<j))):=opB0 λ_ _ _ _ _ _ _ q=>lt_int q
def op_gt:OpR X (compareOp .Gt) (rI0 λi j=>.bl (decide (j<i))):=opB0 λ_ _ _ _ _ _ _ q=>gt_int q
def op_ge:OpR X (compareOp .GtE) (rI0 λi j=>.bl (decide (j<=i))):=opB0 λ_ _ _ _ _ _ _ q=>ge_int q
def Y0:OpR X (compareOp .Is) (λx y H Q=>y=.non/\Q (.bl (decide (x=.non))) H):=by
 intro pins s σ H x y v u Q I rx ry h;obtain ⟨rfl,q⟩:=h;cases ry;refine is_none_gen (zR I q ?_);cases x <;> first
  | (cases rx;rfl)
  | (obtain ⟨t,rfl⟩:=rx;rfl)
def op_notN:OpR X (compareOp .IsNot) (λx y H Q=>y=.non/\Q (.bl (!decide (x=.non))) H):=by
 intro pins s σ H x y v u Q I rx ry h;obtain ⟨rfl,q⟩:=h;cases ry;refine isnot_none_gen (zR I q ?_);cases x <;> first
  | (cases rx;rfl)
  | (obtain ⟨t,rfl⟩:=rx;rfl)
def zm (b:Expr) {op:CmpOp} (h:op≠.In:=by decide) (h2:op≠.NotIn:=by decide):behindInMarks op b=false:=by
 have e1:(op == CmpOp.In)=false:=by cases op <;> first | rfl | exact absurd rfl h
 have e2:(op == CmpOp.NotIn)=false:=by cases op <;> first | rfl | exact absurd rfl h2
 cases b <;> simp [behindInMarks,e1,e2]
def z9 {op:CmpOp} {r:R2} (ho:OpR X (compareOp op) r) (ha:PE X a ta) (hb:PE X b tb) (hm:behindInMarks op b=false):PE X (.Compare a [op] [b] pos) (tOp r ta tb):=by
 intro pins s σ H Q I h;exact wpAny_Compare1 (binT ha hb I h λv u s2 x y H2 I2 rx ry q=>ho pins s2 σ H2 x y v u Q I2 rx ry q) hm
inductive tTest_S (Q:(Bool->Hp->Prop)) (x:V) (H':Hp):Prop
 | mk (k:_) (_:x=.bl k) (_:Q k H')
def tTest (t:TE):TT:=λσ H Q=>t σ H λx H'=>tTest_S Q x H'
def zg {op:CmpOp} {r:R2} (ho:OpR X (compareOp op) r) (ha:PE X a ta) (hb:PE X b tb) (hm:behindInMarks op b=false):PT X (.Compare a [op] [b] pos) (tTest (tOp r ta tb)):=by
 intro pins s σ H Q I h
 refine wpAny_isTrue_Compare1 (thn (ha pins s σ H _ I h) λv s1 ⟨x,H1,I1,r1,q1⟩=>thn (hb pins s1 σ H1 _ I1 q1) λu s2 ⟨y,H2,I2,r2,q2⟩ =>
  thn (ho pins s2 σ H2 x y v u _ I2 r1 r2 q2) λc s3 ⟨z,H3,I3,r3,k,e,q3⟩=>?_) hm
 subst e;cases r3;exact wpAny_truthy_bool ⟨H3,I3,q3⟩
def zae:(sizeLine:Nat)<2 ^ 63:=by rw [sizeLine_eq];decide
def vals1 {x:V} {us:Jj} (r:Vals [x] us):∃ u,us=[u]/\RelV x u:=by
 cases r with
 | cons r1 r2=>cases r2;exact ⟨_,rfl,r1⟩
def vals2 {x y:V} {us:Jj} (r:Vals [x,y] us):∃ u w',us=[u,w']/\RelV x u/\RelV y w':=by
 cases r with
 | cons r1 r2 =>
  cases r2 with
  | cons r3 r4=>cases r4;exact ⟨_,_,rfl,r1,r3⟩
def call_max2 (hc:X.calm=true):ZY X (.builtin "max") (λxs H Q=>∃ i j,xs=[.int i,.int j]/\Q (.int (if j > i then j else i)) H):=by
 intro pins s σ H xs us Q I r h;obtain ⟨i,j,rfl,q⟩:=h;obtain ⟨u,w',rfl,⟨t,rfl⟩,⟨t',rfl⟩⟩:=vals2 r;refine max_two_ints (I.ok.hd hc) λh' tk k=>⟨_,H,I.kept k,?_,q⟩;by_cases hj:j > i
 ·rw [if_pos hj,if_pos hj];exact ⟨_,rfl⟩
 ·rw [if_neg hj,if_neg hj];exact ⟨_,rfl⟩
def call_min2 (hc:X.calm=true):ZY X (.builtin "min") (λxs H Q=>∃ i j,xs=[.int i,.int j]/\Q (.int (if j<i then j else i)) H):=by
 intro pins s σ H xs us Q I r h;obtain ⟨i,j,rfl,q⟩:=h;obtain ⟨u,w',rfl,⟨t,rfl⟩,⟨t',rfl⟩⟩:=vals2 r;refine min_two_ints (I.ok.hd hc) λh' tk k=>⟨_,H,I.kept k,?_,q⟩;by_cases hj:j<i
 ·rw [if_pos hj,if_pos hj];exact ⟨_,rfl⟩
 ·rw [if_neg hj,if_neg hj];exact ⟨_,rfl⟩
end
structure ObjM (h:Heap) (x dx C:Ad) (mA:J0):Prop where
 obj:h.get? x=some (PySem.W.instObj C dx)
 ns:h.Ns1 dx mA
 ne:dx≠x
def lookIn_ns {h:Heap} {dx:Ad} {mA:J0} (n:h.Ns1 dx mA):∃ od,h.get? dx=some od/\∀ name,PySem.W.lookIn name od=some (mA name):=by
 obtain ⟨o,es,ep,ho,hd,hk,_,hm⟩:=n;refine ⟨o,ho,λname=>?_⟩;have e:=hm name;unfold nsFind findBy at e;rw [← Array.find?_toList] at e;unfold PySem.W.lookIn;rw [hd];dsimp only
 split
 ·rename_i y q
  rw [q] at e;exact congrArg some e
 ·rename_i q
  rw [q] at e
  have a:es.toList.any (·.refKey)=false:=by
   rw [List.any_eq_false];intro y hy;obtain ⟨z,t,hkey⟩:=hk y (Array.mem_toList_iff.mp hy);simp [DictEntry.refKey,hkey]
  have a':¬ es.toList.any (·.refKey)=true:=by rw [a];exact q1z
  rw [if_neg a'];exact congrArg some e
def ObjM.look {h:Heap} {x dx C:Ad} {mA:J0} (I:ObjM h x dx C mA):∃ od,PySem.W.InstAt h x (PySem.W.instObj C dx) C (some od)/\∀ name,PySem.W.lookIn name od=some (mA name) :=
 let ⟨od,ho,hl⟩:=lookIn_ns I.ns
 ⟨od,⟨I.obj,rfl,rfl,ho⟩,hl⟩
section
variable {prog:Program} {w:World} {A:Around} {E:Jg} {s:Sh} {K:Fg} {x dx C f:Ad} {mA:J0} {name:Str} {v:Vl}
def get_map {expr:Bool} {Q:Jg} (X:K.In s.heap) (I:ObjM s.heap x dx C mA) (hg:PySem.W.plainGet K C name=true) (hh:PySem.W.hasDictIn K C=true)
  (ha:PySem.W.findIn K (.ref C) name=some none) (hv:mA name=some v) (hv':PySem.W.handedIn v=true) (h:Q v { s with toks:=s.toks+1 }) :
  wpAny (model prog w) A (getAttr (.ref x) name expr) Q E s:=by
 obtain ⟨od,J,hl⟩:=I.look;exact PySem.W.get_value X J (PySem.W.plainGet_of hg).1 (PySem.W.findObj_own hh ha rfl (by rw [hl,hv])) hv' h
def set_map {ns:Jl} {Q:Unit->Sh->Prop} (X:K.In s.heap) (I:ObjM s.heap x dx C mA)
  (hs:PySem.W.findIn K (.ref C) "__setattr__"=some (some (.builtin "object.__setattr__"))) (hp:PySem.W.plainOver K C=true) (ht:PySem.W.takerIn K C name=some none) (hh:PySem.W.hasDictIn K C=true)
  (hw:PySem.Within mA ns) (hsz:ns.length<=sizeLine)
  (h:∀ h',ObjM h' x dx C (λy=>if y=name then some v else mA y)->Heap.SameBut dx s.heap h'->Q () { s with heap:=h',toks:=s.toks+2 }) :
  wpAny (model prog w) A (setAttr (.ref x) name v) Q E s:=by
 obtain ⟨od,J,hl⟩:=I.look;refine PySem.W.set_plain X J hs (PySem.W.osa_open (s:={ s with toks:=s.toks+1 }) (r:=none) X J hp ht λb=>?_);obtain ⟨cd,hc,hd'⟩:=PySem.W.any_some hh;have hx:s.heap.get? x=some ⟨.ref C,some dx,.plain,#[]⟩:=I.obj;refine q0x (q0y (q0x (q0x (wpAny_loadPart hx (q0x (PySem.W.Looks.here (s:={ s with toks:=s.toks+1 }) (PySem.W.looks_clsIn X hc) ?_))))));rw [hd'];refine q0y (a:=some dx) (q0x (q0y (q0x ?_)));refine wpAny_nsSet1 (s:={ s with toks:=s.toks+1 }) I.ns λh' hn2 hs2=>?_;obtain ⟨oD,esD,epD,hoD,hdD,hcD⟩:=hn2.count (PySem.Within.cons name v hw);refine q0x (wpAny_lookBehind hoD (by rw [hdD];exact pastItsLine_dict (Nat.le_trans hcD (by rw [q2z];omega))) ?_);exact q0y (h _ ⟨(hs2.2 _ (Ne.symm I.ne)).trans I.obj,hn2,I.ne⟩ hs2)
def make_map {R:Result->Sh->Prop} {vs:Jj} {kw:List (Str×Vl)} (X:K.In s.heap) (hm:PySem.W.makesIn K C=true)
  (hi:PySem.W.findIn K (.ref C) "__init__"=some (some (.ref f))) (hf:PySem.W.typeIn K (.ref f)=some (.type "function"))
  (h:codeAny (model prog w) (A.under (.builtin "type.__call__" ⟨.ref C::vs,kw⟩)) (.call (.ref f) ⟨.ref (s.heap.objs.size+1)::vs,kw⟩) (PySem.W.InitBack (s.heap.objs.size+1) R)
   { s with heap:=(s.heap.push PySem.W.emptyDict).push (PySem.W.instObj C s.heap.objs.size) }) :
  codeAny (model prog w) A (.call (.ref C) ⟨vs,kw⟩) R s:=by
 obtain ⟨hh,g,d,t,os⟩:=s;exact PySem.W.make_core (PySem.W.makes_of X hm) (PySem.W.looks_findIn X hi) (λself=>PySem.W.bind_fn X self hf) (.inl rfl) h
end
def xW (f:Str) (v:V):List (Str×V)->List (Str×V)
 | []=>[(f,v)]
 | (g,x)::r=>if g=f then (g,v)::r else (g,x)::xW f v r
theorem Yi (f g:Str) (v:V):∀ fs:List (Str×V),(xW f v fs).lookup g=if g=f then some v else fs.lookup g
 | []=>by
  show List.lookup g [(f,v)]=_;by_cases h:g=f
  ·have hb:(g == f)=true:=beq_iff_eq.mpr h
   simp only [List.lookup,hb,if_pos h]
  ·have hb:(g == f)=false:=beq_eq_false_iff_ne.mpr h
   simp only [List.lookup,hb,if_neg h]
 | (k,x)::r=>by
  have ih:=Yi f g v r;rw [show xW f v ((k,x)::r)=(if k=f then (k,v)::r else (k,x)::xW f v r) from rfl];by_cases hk:k=f
  ·rw [if_pos hk]
   by_cases h:g=k
   ·have hb:(g == k)=true:=beq_iff_eq.mpr h
    simp only [List.lookup,hb,if_pos (h.trans hk)]
   ·have hb:(g == k)=false:=beq_eq_false_iff_ne.mpr h
    simp only [List.lookup,hb,if_neg (λe:g=f=>h (e.trans hk.symm))]
  ·rw [if_neg hk]
   by_cases h:g=k
   ·have hb:(g == k)=true:=beq_iff_eq.mpr h
    simp only [List.lookup,hb,if_neg (λe:g=f=>hk (h.symm.trans e))]
   ·have hb:(g == k)=false:=beq_eq_false_iff_ne.mpr h
    simp only [List.lookup,hb];exact ih
theorem Z6 (f:Str) (v:V):∀ fs:List (Str×V),f∈(xW f v fs).map (·.1)/\∀ g,g∈fs.map (·.1)->g∈(xW f v fs).map (·.1)
 | []=>⟨by simp [xW],λg h=>by simp at h⟩
 | (k,x)::r=>by
  obtain ⟨i1,i2⟩:=Z6 f v r;rw [show xW f v ((k,x)::r)=(if k=f then (k,v)::r else (k,x)::xW f v r) from rfl];by_cases hk:k=f
  ·rw [if_pos hk]
   subst hk;exact ⟨by simp,λg h=>by simpa using h⟩
  ·rw [if_neg hk]
   refine ⟨?_,λg h=>?_⟩
   ·rw [List.map_cons]
    exact q1x _ i1
   ·rw [List.map_cons] at h ⊢
    rcases List.mem_cons.mp h with e | e
    ·exact List.mem_cons.mpr (.inl e)
    ·exact q1x _ (i2 g e)
theorem Yj (f:Str) (v:V):∀ fs:List (Str×V),(xW f v fs).length<=fs.length+1
 | []=>by simp [xW]
 | (k,x)::r=>by
  have ih:=Yj f v r;rw [show xW f v ((k,x)::r)=(if k=f then (k,v)::r else (k,x)::xW f v r) from rfl];by_cases hk:k=f
  ·rw [if_pos hk,q2z,q2z];omega
  ·rw [if_neg hk,q2z,q2z];omega
def RelO.some_of {v:V} {o:Jk} (r:RelO (some v) o):∃ u,o=some u/\RelV v u:=by
 cases o with
 | none=>exact (show False from r).elim
 | some u=>exact ⟨u,rfl,r⟩
def handed_of {v:V} {u:Vl} (r:RelV v u):PySem.W.handedIn u=true:=by
 cases v with
 | non=>cases (show u=Value.none from r);rfl
 | bl b=>cases (show u=Value.bool b from r);rfl
 | int i=>obtain ⟨t,e⟩:=(show ∃ t,u=Value.int i t from r);cases e;rfl
 | str x=>obtain ⟨t,e⟩:=(show ∃ t,u=Value.str x t from r);cases e;rfl
 | byt b=>obtain ⟨t,e⟩:=(show ∃ t,u=Value.bytes b t from r);cases e;rfl
 | flt b=>obtain ⟨t,e⟩:=(show ∃ t,u=Value.float b t from r);cases e;rfl
 | ref a=>cases (show u=Value.ref a from r);rfl
 | ty n=>cases (show u=Value.type n from r);rfl
section
variable {P:Program} {w:World} {H H':Hp} {h h':Heap} {a C dx:Ad} {fs fs':List (Str×V)}
def zag (hok:HOk P w H h) (e:H a=some (.ins C dx fs)):∃ mA,ObjM h a dx C mA/\(∀ f,RelO (fs.lookup f) (mA f))/\PySem.Within mA (fs.map (·.1))/\fs.length<=1000/\H dx=some (.own a):=by
 obtain ⟨d,z,ne,ob,mA,n,r,q⟩:=(show ObjOk P w H h a (.ins C dx fs) from hok a _ e);exact ⟨mA,⟨ob,n,ne⟩,r,q,z,d⟩
end
structure Cls (K:Fg) (C:Ad):Prop where
 pg:PySem.W.plainGet K C Str.empty=true
 hd:PySem.W.hasDictIn K C=true
 po:PySem.W.plainOver K C=true
 sa:PySem.W.findIn K (.ref C) "__setattr__"=some (some (.builtin "object.__setattr__"))
def Cls.get {K:Fg} {C:Ad} (c:Cls K C) (f:Str):PySem.W.plainGet K C f=true:=c.pg
def NoAttr (K:Fg) (C:Ad) (f:Str):Prop:=PySem.W.findIn K (.ref C) f=some none
def NoAttr.taker {K:Fg} {C:Ad} {f:Str} (n:NoAttr K C f):PySem.W.takerIn K C f=some none:=by
 unfold PySem.W.takerIn;rw [show PySem.W.findIn K (.ref C) f=some none from n];rfl
structure Con (K:Fg) (C:Ad) (f:Str) (v:V) (u:Vl):Prop where
 at_:PySem.W.findIn K (.ref C) f=some (some u)
 rel:RelV v u
 get:PySem.W.specialIn K u "__get__"=some none
 cp:PySem.W.copiedNames.contains f=false
structure Meth (K:Fg) (C:Ad) (m:Str) (f:Ad):Prop where
 at_:PySem.W.findIn K (.ref C) m=some (some (.ref f))
 fn:PySem.W.isFn K (.ref f)=true
 kp:PySem.W.keepIn K (.ref f)=true
section
variable {X:Cx} {pins:Ji} {σ:St} {H:Hp} {s:Sh} {a C dx:Ad} {fs:List (Str×V)} {f:Str} {v:V} {A:Around} {E:Jg}
def zcc {b:Bool} {Q:Jg} (I:Inv X pins σ H s) (e:H a=some (.ins C dx fs)) (c:Cls X.K C) (n:NoAttr X.K C f) (l:fs.lookup f=some v)
  (h:∀ u s',Inv X pins σ H s'->RelV v u->Q u s'):wpAny (model X.prog X.w) A (getAttr (.ref a) f b) Q E s:=by
 obtain ⟨mA,O,r,_,_,_⟩:=zag I.hok e;obtain ⟨u,hu,ru⟩:=RelO.some_of (v:=v) (o:=mA f) (by rw [← l];exact r f);exact get_map I.kIn O (c.get f) c.hd n hu (handed_of ru) (h u _ (I.tok _) ru)
def zbn {y:V} {u:Vl} {Q:Unit->Sh->Prop} (I:Inv X pins σ H s) (e:H a=some (.ins C dx fs)) (c:Cls X.K C) (n:NoAttr X.K C f) (hl:fs.length<1000) (ry:RelV y u)
  (h:∀ s',Inv X pins σ (upd H a (.ins C dx (xW f y fs))) s'->Q () s'):wpAny (model X.prog X.w) A (setAttr (.ref a) f u) Q E s:=by
 obtain ⟨mA,O,r,wi,_,ho⟩:=zag I.hok e;have hz:(fs.map (·.1)).length<=sizeLine:=by rw [Jo,sizeLine_eq];omega
 refine set_map I.kIn O c.sa c.po n.taker c.hd wi hz λh' O' sb=>h _ ?_;have hd:∃ o,h'.get? dx=some o:=let ⟨o,_,_,e',_⟩:=O'.ns;⟨o,e'⟩;refine I.write (x:=a) (e:=dx) (by rw [e];exact True.intro) (.inr ho) (λb q hb z=>(sb.2 b hb).trans z) hd ?_;refine ⟨by rw [zI O.ne];exact ho,?_,O.ne,O'.obj,_,O'.ns,λg=>?_,λg hg=>?_⟩
 ·have:=Yj f y fs;omega
 ·show RelO ((xW f y fs).lookup g) (if g=f then some u else mA g)
  rw [Yi];by_cases q:g=f
  ·rw [if_pos q,if_pos q];exact ry
  ·rw [if_neg q,if_neg q];exact r g
 ·by_cases q:g=f
  ·rw [q];exact (Z6 f y fs).1
  ·refine (Z6 f y fs).2 g (wi g λz=>hg ?_)
   show (if g=f then some u else mA g)=none;rw [if_neg q];exact z
def Inv.made (I:Inv X pins σ H s):Inv X pins σ (upd (upd H s.heap.objs.size (.own (s.heap.objs.size+1))) (s.heap.objs.size+1) (.ins C s.heap.objs.size []))
  { s with heap:=(s.heap.push PySem.W.emptyDict).push (PySem.W.instObj C s.heap.objs.size) }:=by
 have e1:(s.heap.push PySem.W.emptyDict).get? s.heap.objs.size=some PySem.W.emptyDict:=Heap.get?_push_size s.heap rfl
 have e2:((s.heap.push PySem.W.emptyDict).push (PySem.W.instObj C s.heap.objs.size)).get? (s.heap.objs.size+1)=some (PySem.W.instObj C s.heap.objs.size):=by
  have:=Heap.get?_push_size (s.heap.push PySem.W.emptyDict) (o:=PySem.W.instObj C s.heap.objs.size) rfl
  rwa [Heap.size_push] at this
 have e3:(s.heap.push PySem.W.emptyDict).Ns s.heap.objs.size (λ_=>none):=⟨PySem.W.emptyDict,#[],_,e1,rfl,(λe he=>absurd he (by simp)),λ_=>rfl⟩;have I1:=I.laid (a:=s.heap.objs.size) (o:=.own (s.heap.objs.size+1)) (h':=s.heap.push PySem.W.emptyDict) (t':=s.toks) (λb u q=>Heap.get?_push_of_some _ q) (Nat.le_refl _) ⟨_,e1⟩;refine I1.laid (a:=s.heap.objs.size+1) (o:=.ins C s.heap.objs.size []) (t':=s.toks) (λb u q=>Heap.get?_push_of_some _ q) (Nat.le_of_eq (Heap.size_push _ _)) ?_;have ne:s.heap.objs.size≠s.heap.objs.size+1:=Nat.ne_of_lt (Nat.lt_succ_self _);refine ⟨by rw [zI ne,zu],Nat.zero_le _,ne,e2,λ_=>none,(Heap.Ns1.of_empty e3).at λo q=>Heap.get?_push_of_some _ q,λ_=>True.intro,λy hy=>absurd rfl hy⟩
def attr_of {prog:Program} {w:World} {env:Env} {e:Expr} {f:Str} {pos:Pos} {s:Sh} {Q:Jg} (hb:attributeBase e f env (eval e env)=eval e env)
  (h:wpAny (model prog w) A (eval e env) (λo s₁=>wpAny (model prog w) A (getAttr o f true) Q E s₁) E s):wpAny (model prog w) A (eval (.Attribute e f pos) env) Q E s :=
 Attribute_any_ h (by rw [arm_eval_Attribute,hb])
end
inductive tFld_S (K:Fg) (f:Str) (Q:VK) (x:V) (H1:Hp):Prop
 | mk (a C:_) (dx fs v:_) (_:x=.ref a) (_:H1 a=some (.ins C dx fs)) (_:Cls K C) (_:NoAttr K C f) (_:fs.lookup f=some v) (_:Q v H1)
def tFld (K:Fg) (ta:TE) (f:Str):TE:=λσ H Q=>ta σ H λx H1=>tFld_S K f Q x H1
inductive sFld_S (K:Fg) (f:Str) (D:Ends) (σ:St) (y x:V) (H2:Hp):Prop
 | mk (a C:_) (dx fs:_) (_:x=.ref a) (_:H2 a=some (.ins C dx fs)) (_:Cls K C) (_:NoAttr K C f) (_:fs.length<1000) (_:D.nx σ (upd H2 a (.ins C dx (xW f y fs))))
def sFld (K:Fg) (ta tv:TE) (f:Str):TS:=λD σ H=>tv σ H λy H1=>ta σ H1 λx H2=>sFld_S K f D σ y x H2
section
variable {X:Cx} {o e value:Expr} {f:Str} {pos pos' tpos:Pos} {ta tv:TE}
def xC (he:PE X e ta) (hb:attributeBase e f X.env (eval e X.env)=eval e X.env):PE X (.Attribute e f pos) (tFld X.K ta f):=by
 intro pins s σ H Q I h;refine attr_of hb (thn (he pins s σ H _ I h) λu s1 ⟨x,H1,I1,rx,a,C,dx,fs,v,ex,ea,c,n,l,q⟩=>?_);subst ex;obtain rfl:u=Value.ref a:=rx;exact zcc I1 ea c n l λu' s2 I2 ru=>⟨v,H1,I2,ru,q⟩
def ps_fld (ha:PE X o ta) (hv:PE X value tv) (hs:swapsWith value (some (.Attribute o f pos')) pos.line X.env=pure false):PS X (.Assign [.Attribute o f pos'] value pos) (sFld X.K ta tv f):=by
 intro pins s σ H D I h;refine plainObj_wpAny_Assign_Attribute (thn (hv pins s σ H _ I h) λu s1 ⟨y,H1,I1,ry,q⟩=>thn (ha pins s1 σ H1 _ I1 q) λov s2 ⟨x,H2,I2,rx,a,C,dx,fs,ex,ea,c,n,l,q2⟩=>?_) hs;subst ex;obtain rfl:ov=Value.ref a:=rx;exact zbn I2 ea c n l ry λs3 I3=>⟨σ,_,I3,q2⟩
end
section
variable {X:Cx} {pins:Ji} {σ:St} {H:Hp} {s:Sh} {A:Around} {E:Jg} {Q:Jg} {c:Vl} {b:Bool}
inductive TyOf (K:Fg) (H:Hp):V->Vl->Prop where
 | non:TyOf K H .non (.type "NoneType")
 | bl (x:Bool):TyOf K H (.bl x) (.type "bool")
 | int (i:Int):TyOf K H (.int i) (.type "int")
 | str (x:Str):TyOf K H (.str x) (.type "str")
 | flt (x:UInt64):TyOf K H (.flt x) (.type "float")
 | lst {a:Ad} {xs:Jt} (e:H a=some (.lst xs)):TyOf K H (.ref a) (.type "list")
 | frz {a:Ad} {o:Obj} {xs:Jt} (e:H a=some (.frz o (.lst xs))):TyOf K H (.ref a) (.type "list")
 | tup {a:Ad} {xs:Jt} (e:H a=some (.tup xs)):TyOf K H (.ref a) (.type "tuple")
 | dK {a:Ad} {kvs:Jr} (e:H a=some (.dK kvs)):TyOf K H (.ref a) (.type "dict")
 | dT {a:Ad} {kvs:List (List Key×V)} (e:H a=some (.dT kvs)):TyOf K H (.ref a) (.type "dict")
 | ins {a C dx:Ad} {fs:List (Str×V)} (e:H a=some (.ins C dx fs)) (cl:Cls K C) (ha:PySem.W.findIn K (.ref C) "__class__"=some (some (.builtin "object.__class__")))
   (hn:PySem.W.specialIn K (.builtin "object.__class__") "__get__"=some (some (.builtin "getset_descriptor.__get__"))) (htk:PySem.W.takesIn K (.builtin "object.__class__")=some true)
   (hm:PySem.W.mroIn K C (.type "object")=some true):TyOf K H (.ref a) (.ref C)
def isinst_ok {x:V} {u t:Vl} (I:Inv X pins σ H s) (rx:RelV x u) (ty:TyOf X.K H x t) (e:PySem.W.kitOne X.K t c=some b) (h:∀ tk,Q (.bool b) { s with toks:=tk }) :
  wpAny (model X.prog X.w) A (call (.builtin "isinstance") [u,c]) Q E s:=by
 cases ty with
 | non=>cases (show u=Value.none from rx);exact PySem.W.kia_one PySem.W.kitx_none I.kIn True.intro e (λz=>nomatch z) h
 | bl y=>cases (show u=Value.bool y from rx);exact PySem.W.kia_one PySem.W.kitx_bool I.kIn True.intro e (λz=>nomatch z) h
 | int i=>obtain ⟨t,q⟩:=(show ∃ t,u=Value.int i t from rx);cases q;exact PySem.W.kia_one PySem.W.kitx_int I.kIn True.intro e (λz=>nomatch z) h
 | str y=>obtain ⟨t,q⟩:=(show ∃ t,u=Value.str y t from rx);cases q;exact PySem.W.kia_one PySem.W.kitx_str I.kIn True.intro e (λz=>nomatch z) h
 | flt y=>obtain ⟨t,q⟩:=(show ∃ t,u=Value.float y t from rx);cases q;exact PySem.W.kia_one PySem.W.kitx_float I.kIn True.intro e (λz=>nomatch z) h
 | @lst a xs ea =>
  cases (show u=Value.ref a from rx);obtain ⟨_,_,n,_,h1⟩:=(show ObjOk X.prog X.w H s.heap a (.lst xs) from I.hok a _ ea);exact PySem.W.kia_one PySem.W.kitx_list I.kIn ⟨_,h1,rfl⟩ e (λz=>nomatch z) h
 | @frz a ob xs ea =>
  cases (show u=Value.ref a from rx);obtain ⟨_,_,_,n,_,h1⟩:=(show ObjOk X.prog X.w H s.heap a (.frz ob (.lst xs)) from I.hok a _ ea);exact PySem.W.kia_one PySem.W.kitx_list I.kIn ⟨_,h1,rfl⟩ e (λz=>nomatch z) h
 | @tup a xs ea =>
  cases (show u=Value.ref a from rx);obtain ⟨_,_,_,p⟩:=(show ObjOk X.prog X.w H s.heap a (.tup xs) from I.hok a _ ea);obtain ⟨o,h1,h2,_⟩:=p;exact PySem.W.kia_one PySem.W.kitx_tuple I.kIn ⟨o,h1,h2⟩ e (λz=>nomatch z) h
 | @dK a kvs ea =>
  cases (show u=Value.ref a from rx);obtain ⟨_,_,vs,_,p⟩:=(show ObjOk X.prog X.w H s.heap a (.dK kvs) from I.hok a _ ea);obtain ⟨o,es,ep,h1,h2,_⟩:=p;exact PySem.W.kia_one PySem.W.kitx_dict I.kIn ⟨o,h1,h2.1⟩ e (λz=>nomatch z) h
 | @dT a kvs ea =>
  cases (show u=Value.ref a from rx);obtain ⟨_,_,xs,_,o,es,ep,h1,h2,_⟩:=(show ObjOk X.prog X.w H s.heap a (.dT kvs) from I.hok a _ ea);exact PySem.W.kia_one PySem.W.kitx_dict I.kIn ⟨o,h1,h2.1⟩ e (λz=>nomatch z) h
 | @ins a C dx fs ea cl ha hn htk hm =>
  cases (show u=Value.ref a from rx);obtain ⟨mA,O,_⟩:=zag I.hok ea;obtain ⟨od,J,_⟩:=O.look;exact PySem.W.kia_one (PySem.W.kitx_own (cl.get _) cl.hd ha hn htk hm) I.kIn J e (λz=>nomatch z) h
end
structure Room (k:Nat) (A:Around):Prop where
 hd:A.handled=none
 dp:A.depth+3*k+5<recursionLimit
 un:A.units+16*k+200<cLine
def Room.mono {j k:Nat} {A:Around} (r:Room k A) (h:j<=k):Room j A:=⟨r.hd,by have:=r.dp;omega,by have:=r.un;omega⟩
def Room.deeper {k:Nat} {A:Around} (r:Room (k+1) A) (env:Env):Room k (A.deeper env) :=
 ⟨r.hd,by have:=r.dp;show A.depth+1+3*k+5<_;omega,by have:=r.un;show A.units+3+16*k+200<_;omega⟩
def zb8 {A:Around} {C:Ad} {us:Jj} {kw:List (Str×Vl)}:(A.under (.builtin "type.__call__" ⟨.ref C::us,kw⟩)).depth=A.depth+1:=by
 first | rfl | simp [Around.under,Code.weight,Code.isCreation,Code.isGuard,Code.isCaller,Code.frames,Code.isFrame,guardIds]
def zb7 {A:Around} {C:Ad} {us:Jj} {kw:List (Str×Vl)}:(A.under (.builtin "type.__call__" ⟨.ref C::us,kw⟩)).units=A.units+1:=by
 first | rfl | simp [Around.under,Code.cUnits,Code.frames,Code.isFrame]
def Room.make {k:Nat} {A:Around} (r:Room (k+1) A) (C:Ad) (us:Jj) (kw:List (Str×Vl)):Room k (A.under (.builtin "type.__call__" ⟨.ref C::us,kw⟩)) :=
 ⟨r.hd,by have:=r.dp;rw [zb8];omega,by have:=r.un;rw [zb7];omega⟩
def Room.depth {k:Nat} {A:Around} (r:Room k A):A.depth<recursionLimit:=by have:=r.dp;omega
def Room.units {k:Nat} {A:Around} (r:Room k A):A.units+64<cLine:=by have:=r.un;omega
def tNil:TA:=λ_ H Q=>Q [] H
def tCons (ta:TE) (tr:TA):TA:=λσ H Q=>ta σ H λx H1=>tr σ H1 λxs H2=>Q (x::xs) H2
section
variable {X:Cx} {e:Expr} {es:Jn} {te:TE} {t:TA} {pos:Pos}
def zc:PA X [] tNil:=λ_ _ _ _ H Q I h=>Calls.spliced_nil ⟨[],H,I,.nil,h⟩
def za (ha:PE X e te) (hr:PA X es t) (hs:starEach (e::es) X.env=(false,eval e X.env)::starEach es X.env:=by rfl):PA X (e::es) (tCons te t):=by
 intro pos pins s σ H Q I h;rw [hs];show wpAny _ _ (spliced ((false,eval e X.env)::backTo pos (starEach es X.env))) _ _ s;refine Calls.spliced_cons (thn (ha pins s σ H _ I h) λu s1 ⟨x,H1,I1,r1,q1⟩=>?_);exact thn (hr pos pins s1 σ H1 _ I1 q1) λus s2 ⟨xs,H2,I2,r2,q2⟩=>⟨x::xs,H2,I2,.cons r1 r2,q2⟩
def tTup (t:TA):TE:=λσ H Q=>t σ H λxs H1=>xs.length<=sizeLine/\∀ p,H1 p=none->Q (.ref p) (upd H1 p (.tup xs))
def tLst (t:TA):TE:=λσ H Q=>t σ H λxs H1=>xs.length<=sizeLine/\∀ p,H1 p=none->Q (.ref p) (upd H1 p (.lst xs))
def zt {x1} (h:PA X es t):PE X (.Tuple es x1 pos) (tTup t):=by
 intro pins s σ H Q I hq;refine wpAny_Tuple_spliced (thn (h pos pins s σ H _ I hq) λus s1 ⟨xs,H1,I1,r,z,q⟩=>⟨by rw [← r.length];exact z,?_⟩);have hf:H1 s1.heap.objs.size=none:=I1.hok.fresh (Nat.le_refl _);refine ⟨.ref s1.heap.objs.size,upd H1 s1.heap.objs.size (.tup xs),I1.laid (t':=s1.toks) (λb u e=>Heap.get?_push_of_some _ e) (Nat.le_refl _) ?_,rfl,q _ hf⟩;exact ⟨z,us,r,⟨_,Heap.get?_push_size _ rfl,rfl,_,rfl⟩⟩
def zH (h:PA X es t):PE X (.List es pos) (tLst t):=by
 intro pins s σ H Q I hq;refine wpAny_List_spliced (thn (h pos pins s σ H _ I hq) λus s1 ⟨xs,H1,I1,r,z,q⟩=>⟨by rw [← r.length];exact z,?_⟩);have hf:H1 s1.heap.objs.size=none:=I1.hok.fresh (Nat.le_refl _);refine ⟨.ref s1.heap.objs.size,upd H1 s1.heap.objs.size (.lst xs),I1.laid (t':=s1.toks) (λb u e=>Heap.get?_push_of_some _ e) (Nat.le_refl _) ?_,rfl,q _ hf⟩;exact ⟨z,us,0,r,Heap.get?_push_size _ rfl⟩
end
abbrev Sp:=Jt->Hp->VK->XK->Prop
abbrev CXT:=List Env->Hp->Sh->XK->Jg
structure Env0 (P:Program) (w:World) (K:Fg) (mg:J0) (base:Heap) (A:Around) (outer:List Env) (s:Sh) (H:Hp):Prop where
 frames:A.frames=some outer
 mod:Mod K mg base
 bs:∀ b o,base.get? b=some o->s.heap.get? b=some o/\H b=none
 bsz:base.objs.size<=s.heap.objs.size
 funs:s.heap.FunFrames base outer
 frf:∀ b∈frs outer,H b=none
 hok:HOk P w H s.heap
 bare:AllBare s.gens
def CE (outer:List Env) (P:Program) (w:World) (H:Hp) (s:Sh) (Q:VK) (u:Vl) (s':Sh):Prop :=
 ∃ v H',s'.os=s.os/\AllBare s'.gens/\Un (frs outer) [] H H' s.heap s'.heap/\HOk P w H' s'.heap/\RelV v u/\Q v H'
def CR (CX:CXT) (outer:List Env) (P:Program) (w:World) (H:Hp) (s:Sh) (Q:VK) (E:XK) (r:Result) (s':Sh):Prop :=
 match r with
 | .ok (.ret u)=>CE outer P w H s Q u s'
 | .ok _=>False
 | .error e=>CX outer H s E e s'
structure FnOk (P:Program) (w:World) (K:Fg) (mg:J0) (base:Heap) (CX:CXT) (k:Nat) (f:Ad) (fd:FuncData) (ps:Jl) (sp:Sp):Prop where
 len:∀ vs H Q E,sp vs H Q E->vs.length=ps.length
 run:∀ (A:Around) (outer:List Env) (s:Sh) (H:Hp) (args:Args) (us:Jj) (vs:Jt) (Q:VK) (E:XK),Room k A->Env0 P w K mg base A outer s H->BindsTo s fd args (ps.zip us)->Vals vs us->sp vs H Q E ->
  codeAny (model P w) A (.call (.ref f) args) (CR CX outer P w H s Q E) s
def Env0.make {P:Program} {w:World} {K:Fg} {mg:J0} {base:Heap} {A:Around} {outer:List Env} {s:Sh} {H:Hp} (e:Env0 P w K mg base A outer s H) (C:Ad) (us:Jj) (kw:List (Str×Vl)) :
  Env0 P w K mg base (A.under (.builtin "type.__call__" ⟨.ref C::us,kw⟩)) outer s H:=⟨by first | exact e.frames | (simpa [Around.under,Code.envs,Code.isFrame,pushEnvs] using e.frames),e.mod,e.bs,e.bsz,e.funs,e.frf,e.hok,e.bare⟩
section
variable {X:Cx} {pins:Ji} {σ:St} {H:Hp} {s s':Sh}
def Inv.env0 (I:Inv X pins σ H s):Env0 X.prog X.w X.K X.mg X.base X.A X.stack s H :=
 ⟨I.ok.frames,I.ok.mod,I.bs,Nat.le_trans I.ok.bsz I.sz,I.stack,I.stkFree,I.hok,I.bare⟩
def Inv.after {Q:VK} {u:Vl} (I:Inv X pins σ H s) (h:CE X.stack X.prog X.w H s Q u s'):EP X pins σ Q u s':=by
 obtain ⟨v,H',os,bare,un,hok,r,q⟩:=h;obtain ⟨hh,g,d,t,os'⟩:=s';obtain rfl:os'=s.os:=os;exact ⟨v,H',I.call (h':=hh) (g':=g) (d':=d) (t':=t) (ch:=[]) un hok bare (λb z=>absurd z (by simp)),r,q⟩
end
def tCall (sp:Sp) (dvs:Jt) (E:XK) (t:TA):TE:=λσ H Q=>t σ H λvs H1=>sp (vs++dvs) H1 Q E
def tMake (C:Ad) (sp:Sp) (dvs:Jt) (E:XK) (t:TA):TE:=λσ H Q=>t σ H λvs H1=>∀ x dx,H1 x=none->H1 dx=none->dx≠x ->
 sp (.ref x::(vs++dvs)) (upd (upd H1 dx (.own x)) x (.ins C dx [])) (λv H2=>v=.non/\Q (.ref x) H2) E
def Binds (K:Fg) (fd:FuncData) (ps:Jl) (ds:Jj):Prop :=
 ∀ (s:Sh) (us:Jj),K.In s.heap->(us++ds).length=ps.length->BindsTo s fd ⟨us,[]⟩ (ps.zip (us++ds))
def Binds.all {K:Fg} {fd:FuncData} {ps:Jl} (h:∀ us:Jj,us.length=ps.length->bindArgs fd ⟨us,[]⟩=pure (ps.zip us)):Binds K fd ps []:=λs us _ hl=>by
 rw [q3x] at hl ⊢;exact .of_eq (h us hl)
def xD (CX:CXT) (X:Cx) (E:XK):Prop:=∀ (pins:Ji) (σ:St) (H:Hp) (s:Sh) (e:Vl) (s':Sh),Inv X pins σ H s->CX X.stack H s E e s'->X.xe e s'
section
variable {X:Cx} {CX:CXT} {k:Nat} {f C:Ad} {fd:FuncData} {ps:Jl} {sp:Sp} {dvs:Jt} {ds:Jj} {E:XK} {x m:Str} {p pos apos:Pos} {e o:Expr} {es:Jn} {ta:TE} {t:TA}
def run_fn {pins:Ji} {σ:St} {H:Hp} {s:Sh} {Q:VK} {us:Jj} {vs:Jt} (F:FnOk X.prog X.w X.K X.mg X.base CX k f fd ps sp) (hr:Room k X.A) (hb:Binds X.K fd ps ds) (hd:Vals dvs ds) (hx:xD CX X E)
  (I:Inv X pins σ H s) (r:Vals vs us) (h:sp (vs++dvs) H Q E):wpAny (model X.prog X.w) X.A (call (.ref f) us) (EP X pins σ Q) X.xe s:=by
 have r2:Vals (vs++dvs) (us++ds):=r.append hd;have hl:(us++ds).length=ps.length:=by rw [← r2.length];exact F.len _ _ _ _ h
 refine wpAny_call (codeAny_mono (F.run X.A X.stack s H ⟨us,[]⟩ (us++ds) (vs++dvs) Q E hr I.env0 (hb s us I.kIn hl) r2 h) λr s' hq=>?_)
 cases r with
 | error e=>exact hx pins σ H s e s' I hq
 | ok fl =>
  cases fl with
  | ret u=>exact I.after hq
  | next=>exact False.elim hq
  | brk=>exact False.elim hq
  | cont=>exact False.elim hq
def pe_call (F:FnOk X.prog X.w X.K X.mg X.base CX k f fd ps sp) (hr:Room k X.A) (hg:Gl X x) (hm:X.mg x=some (.ref f)) (hk:PySem.W.keepIn X.K (.ref f)=true) (hb:Binds X.K fd ps ds) (hd:Vals dvs ds) (hx:xD CX X E)
  (ha:PA X (e::es) t) (hdb:(x == ("__debug__":Str))=false:=by decide) (he:starEach (e::es) X.env=(false,eval e X.env)::starEach es X.env:=by rfl) (hpl:(backTo pos (starEach es X.env)).any (·.1)=false:=by rfl) :
  PE X (.Call (.Name x p) (e::es) [] pos) (tCall sp dvs E t):=by
 intro pins s σ H Q I h;refine wpAny_Call_Name_kw (Zo I hg hm ?_ hdb);refine PySem.W.callWith_K (h₀:=X.base) I.ok.mod.kin hk (thn (ha pos pins s σ H _ I h) λus s1 ⟨vs,H1,I1,r,q⟩=>⟨I1.kIn,?_⟩) he hpl;exact run_fn F hr hb hd hx I1 r q
structure Mk (K:Fg) (C f:Ad):Prop where
 makes:PySem.W.makesIn K C=true
 init:PySem.W.findIn K (.ref C) "__init__"=some (some (.ref f))
 fn:PySem.W.isFn K (.ref f)=true
 kp:PySem.W.keepIn K (.ref C)=true
def run_make {pins:Ji} {σ:St} {H:Hp} {s:Sh} {Q:VK} {us:Jj} {vs:Jt} (M:Mk X.K C f) (F:FnOk X.prog X.w X.K X.mg X.base CX k f fd ps sp) (hr:Room (k+1) X.A) (hb:Binds X.K fd ps ds) (hd:Vals dvs ds)
  (hx:xD CX X E) (I:Inv X pins σ H s) (r:Vals vs us)
  (h:∀ x dx,H x=none->H dx=none->dx≠x->sp (.ref x::(vs++dvs)) (upd (upd H dx (.own x)) x (.ins C dx [])) (λv H2=>v=.non/\Q (.ref x) H2) E) :
  wpAny (model X.prog X.w) X.A (call (.ref C) us) (EP X pins σ Q) X.xe s:=by
 have hq:=h (s.heap.objs.size+1) s.heap.objs.size (I.hok.fresh (Nat.le_succ _)) (I.hok.fresh (Nat.le_refl _)) (Nat.ne_of_lt (Nat.lt_succ_self _));have I2:=Inv.made (C:=C) I;have r2:Vals (V.ref (s.heap.objs.size+1)::(vs++dvs)) (Value.ref (s.heap.objs.size+1)::(us++ds)):=.cons rfl (r.append hd)
 have hl:(Value.ref (s.heap.objs.size+1)::us++ds).length=ps.length:=by
  have e:=r2.length;rw [F.len _ _ _ _ hq] at e;exact e.symm
 refine wpAny_call (make_map (f:=f) I.kIn M.makes M.init (beq_iff_eq.mp M.fn) (codeAny_mono (F.run _ X.stack _ _ ⟨Value.ref (s.heap.objs.size+1)::us,[]⟩ (Value.ref (s.heap.objs.size+1)::(us++ds)) _ _ E (hr.make C us [])
  (I2.env0.make C us []) (hb _ (Value.ref (s.heap.objs.size+1)::us) I2.kIn hl) r2 hq) λr s' hq'=>?_))
 cases r with
 | error e=>exact hx pins σ _ _ e s' I2 hq'
 | ok fl =>
  cases fl with
  | ret u =>
   obtain ⟨v,H',I3,rv,ev,q3⟩:=I2.after hq';subst ev;exact ⟨rv,⟨V.ref (s.heap.objs.size+1),H',I3,rfl,q3⟩⟩
  | next=>exact False.elim hq'
  | brk=>exact False.elim hq'
  | cont=>exact False.elim hq'
def pe_make0 (M:Mk X.K C f) (F:FnOk X.prog X.w X.K X.mg X.base CX k f fd ps sp) (hr:Room (k+1) X.A) (hg:Gl X x) (hm:X.mg x=some (.ref C)) (hb:Binds X.K fd ps ds) (hd:Vals dvs ds) (hx:xD CX X E)
  (hdb:(x == ("__debug__":Str))=false:=by decide):PE X (.Call (.Name x p) [] [] pos) (tMake C sp dvs E tNil):=by
 intro pins s σ H Q I h;refine wpAny_Call_Name_kw (Zo I hg hm ?_ hdb);exact PySem.W.callWith_K0 I.kIn M.kp (run_make (us:=[]) M F hr hb hd hx I .nil h)
end
section
variable {X:Cx} {CX:CXT} {k:Nat} {f C:Ad} {fd:FuncData} {ps ks:Jl} {sp:Sp} {E:XK} {x m:Str} {p pos apos kpos:Pos} {e o:Expr} {es:Jn} {kws:List Keyword} {te ta:TE} {t tk:TA} {nm:Option Str}
structure KBinds (K:Fg) (fd:FuncData) (ps ks:Jl) (g:Jj->Jj->Jj) (gV:Jt->Jt->Jt):Prop where
 to:∀ (s:Sh) (us ws:Jj),K.In s.heap->(g us ws).length=ps.length->BindsTo s fd ⟨us,ks.zip ws⟩ (ps.zip (g us ws))
 rel:∀ {vs:Jt} {us:Jj} {zs:Jt} {ws:Jj},Vals vs us->Vals zs ws->Vals (gV vs zs) (g us ws)
variable {g:Jj->Jj->Jj} {gV:Jt->Jt->Jt}
end
structure FnScope (N P:Jl) (sc:Scope):Prop where
 kind:sc.kind=.function
 co:sc.isCoroutine=false
 gen:sc.isGenerator=false
 nd:N.Nodup
 pre:N.take P.length=P
 par:∀ x∈P,sc.names.lookup x=some .local∨sc.names.lookup x=some .cell
 nofree:∀ y∈sc.names,y.2≠.free
theorem XG {kindOf:Str->Option NameKind} {x:Str}:∀ {binds:List (Str×Vl)} {m:J0},(∀ v,(x,v) ∉ binds)->bindL kindOf binds m x=m x
 | [],_,_=>rfl
 | (n,v)::r,m,h=>by
  unfold bindL;rw [XG λw hw=>h w (q1x _ hw)]
  split
  ·have:x≠n:=by rintro rfl;exact h v q1y
   simp [this]
  ·rfl
theorem XI {kindOf:Str->Option NameKind} {x:Str}:∀ {binds:List (Str×Vl)} {m:J0},(∀ v,(x,v) ∉ binds)->bindC kindOf binds m x=m x
 | [],_,_=>rfl
 | (n,v)::r,m,h=>by
  unfold bindC;rw [XI λw hw=>h w (q1x _ hw)]
  split
  ·rfl
  ·have:x≠n:=by rintro rfl;exact h v q1y
   simp [this]
theorem XH {kindOf:Str->Option NameKind} {x:Str} {v:Vl}:∀ {P:Jl} {vs:Jj} {i:Nat} {m:J0},P.Nodup->P[i]?=some x->vs[i]?=some v->kindOf x=some .local ->
  bindL kindOf (P.zip vs) m x=some v
 | [],_,_,_,_,h,_,_=>by simp at h
 | _::_,[],_,_,_,_,h,_=>by simp at h
 | p::P,w::vs,0,m,nd,h1,h2,hk=>by
  simp at h1 h2;subst h1;subst h2;show bindL kindOf ((p,w)::P.zip vs) m p=_;unfold bindL;rw [XG λv hv=>(List.nodup_cons.mp nd).1 (List.of_mem_zip hv).1,if_pos hk];simp
 | p::P,w::vs,i+1,m,nd,h1,h2,hk=>by
  show bindL kindOf ((p,w)::P.zip vs) m x=_;unfold bindL;exact XH (i:=i) (List.nodup_cons.mp nd).2 (by simpa using h1) (by simpa using h2) hk
theorem XJ {kindOf:Str->Option NameKind} {x:Str} {v:Vl}:∀ {P:Jl} {vs:Jj} {i:Nat} {m:J0},P.Nodup->P[i]?=some x->vs[i]?=some v->kindOf x≠some .local ->
  bindC kindOf (P.zip vs) m x=some v
 | [],_,_,_,_,h,_,_=>by simp at h
 | _::_,[],_,_,_,_,h,_=>by simp at h
 | p::P,w::vs,0,m,nd,h1,h2,hk=>by
  simp at h1 h2;subst h1;subst h2;show bindC kindOf ((p,w)::P.zip vs) m p=_;unfold bindC;rw [XI λv hv=>(List.nodup_cons.mp nd).1 (List.of_mem_zip hv).1,if_neg hk];simp
 | p::P,w::vs,i+1,m,nd,h1,h2,hk=>by
  show bindC kindOf ((p,w)::P.zip vs) m x=_;unfold bindC;exact XJ (i:=i) (List.nodup_cons.mp nd).2 (by simpa using h1) (by simpa using h2) hk
def Zr (N:Jl) (vs:Jt):St:=vs.map some++List.replicate (N.length-vs.length) none
def yh (CX:CXT) (P:Program) (w:World) (K:Fg) (mg:J0) (base:Heap) (N:Jl) (qual:Str) (scope:Scope) (f:Ad) (cd:Vl) (A:Around) (outer:List Env) (s:Sh) (H:Hp) (E:XK):Cx where
 prog:=P
 w:=w
 K:=K
 mg:=mg
 base:=base
 A:=A.deeper (envOfC qual scope s.heap.objs.size f cd)
 N:=N
 s₀:=s
 H₀:=H
 env:=envOfC qual scope s.heap.objs.size f cd
 outer:=outer
 stack:=envOfC qual scope s.heap.objs.size f cd::outer
 ex:=[]
 calm:=true
 fn:=λ_=>true
 pn:=[]
 xe:=λe s'=>wpAny (model P w) (A.deeper (envOfC qual scope s.heap.objs.size f cd)) (leaving (envOfC qual scope s.heap.objs.size f cd) e) (λ_ s''=>CX outer H s E e s'') (λe' s''=>CX outer H s E e' s'') s'
def zbf {sc:Scope} {n:Nat} {x:Str} (h:sc.names.lookup x=some .cell):∃ c,(cellsFrom n sc.names []).lookup x=some c:=by
 have q:=PySem.W.cellsFrom_some sc.names n [] (.inl h);exact Option.isSome_iff_exists.mp q
def inv_start {CX:CXT} {P:Program} {w:World} {K:Fg} {mg:J0} {base:Heap} {N ps:Jl} {qual:Str} {scope:Scope} {f:Ad} {cd:Vl} {A:Around} {outer:List Env} {s s1:Sh} {H:Hp} {E:XK} {us:Jj} {vs:Jt}
  (S:FnScope N ps scope) (hd:A.handled=none) (e0:Env0 P w K mg base A outer s H) (hl:vs.length=ps.length) (r:Vals vs us)
  (x:InCallC s s.heap.objs.size (bindL (envOfC qual scope s.heap.objs.size f cd).kindOf (ps.zip us) λ_=>none) (cellsFrom (s.heap.objs.size+1) scope.names []) (bindC (envOfC qual scope s.heap.objs.size f cd).kindOf (ps.zip us) λ_=>none) s1) :
  Inv (yh CX P w K mg base N qual scope f cd A outer s H E) [] (Zr N vs) H s1:=by
 have hpl:ps.length<=N.length:=by have:=congrArg List.length S.pre;rw [List.length_take] at this;omega
 obtain ⟨h1,tk,rfl,hk⟩:=x.done;have noA:∀ b:Ad,b ∉ (yh CX P w K mg base N qual scope f cd A outer s H E).ex:=λb z=>absurd (show b∈([]:Jm) from z) (by simp)
 refine ⟨⟨e0.mod,S.kind,rfl,rfl,Nat.le_refl _,λy z c h1 h2=>?_,λy hy=>?_,λy c _ h=>?_,λ_=>hd,Around.frames_deeper e0.frames,.inr ⟨rfl,rfl⟩,λb z=>absurd z (noA b),e0.bs,e0.bsz,λb _ _=>noA b,λb z=>absurd z (noA b),e0.funs,e0.frf⟩,
  rfl,e0.bare,Un.kept hk,⟨_,x.toInCall.ns,λi y v h1 h2 h3=>?_⟩,λy c h=>⟨_,x.cell y c h⟩,e0.hok.fresh (Nat.le_refl _),λy c h=>?_,λp hp=>absurd (show p∈([]:Ji) from hp) (by simp),e0.hok.kept hk,?_⟩
 ·exact name_of_addr x.apart (PySem.mem_of_lookup h1) (PySem.mem_of_lookup h2)
 ·have hy:scope.names.lookup y=some .cell∨scope.names.lookup y=some .free:=hy
  rcases hy with hy | hy
  ·exact zbf hy
  ·exact absurd rfl (S.nofree _ (PySem.mem_of_lookup hy))
 ·exact Nat.le_of_lt (x.above y c (PySem.mem_of_lookup h))
 ·have hi:i<vs.length:=by
   unfold Zr at h2;by_cases hi:i<vs.length
   ·exact hi
   ·rw [List.getElem?_append_right (by simpa using hi)] at h2
    rw [List.getElem?_replicate] at h2
    split at h2 <;> cases h2
  have ha:vs[i]?=some v:=by
   unfold Zr at h2;rw [List.getElem?_append_left (by simpa using hi),List.getElem?_map] at h2
   cases e:vs[i]? with
   | none=>rw [e] at h2;cases h2
   | some a=>rw [e] at h2;cases h2;rfl
  obtain ⟨u,hu,rv⟩:=r.get ha
  have hp:ps[i]?=some y:=by
   rw [← S.pre,List.getElem?_take_of_lt (by omega)];exact h1
  have ndP:ps.Nodup:=by rw [← S.pre];exact S.nd.sublist (List.take_sublist _ _)
  refine ⟨u,rv,?_⟩;rcases S.par y (List.mem_of_getElem? hp) with k | k
  ·exact .inl ⟨k,XH ndP hp hu k⟩
  ·obtain ⟨c,e⟩:=zbf (n:=s.heap.objs.size+1) k
   refine .inr ⟨.inl k,c,e,?_⟩;have q:=x.cell y c e;rw [XJ ndP hp hu (by show scope.names.lookup y≠_;rw [k];decide)] at q;exact q
 ·exact e0.hok.fresh (Nat.le_of_lt (x.above y c (PySem.mem_of_lookup h)))
 ·unfold Zr
  show _=N.length;rw [Jp,Jo,List.length_replicate];omega
def fn_of {CX:CXT} {P:Program} {w:World} {K:Fg} {mg:J0} {base:Heap} {k:Nat} {f:Ad} {name qual:Str} {params:Arguments} {body:List Stmt} {scope:Scope} {dV kV doc pm cdv ct oc:Vl} {an od:Option Ad}
  {osl:Array (Jk)} {N ps:Jl} {sp:Sp} (lk:K.lookup f=some ⟨oc,od,.func (PySem.W.fnOf name qual params body scope dV kV doc pm an cdv ct),osl⟩) (hcd:PySem.W.codeIn K cdv qual=true) (S:FnScope N ps scope)
  (len:∀ vs H Q E,sp vs H Q E->vs.length=ps.length)
  (hbody:∀ (A:Around) (outer:List Env) (s:Sh) (H:Hp) (vs:Jt) (Q:VK) (E:XK),Room k (A.deeper (envOfC qual scope s.heap.objs.size f cdv))->sp vs H Q E ->
   ∃ t,PSs (yh CX P w K mg base N qual scope f cdv A outer s H E) body t/\t { nx:=λ_ H'=>Q .non H',rt:=Q } (Zr N vs) H) :
  FnOk P w K mg base CX (k+1) f (PySem.W.fnOf name qual params body scope dV kV doc pm an cdv ct) ps sp:=by
 refine ⟨len,λA outer s H args us vs Q E hr e0 hb r hsp=>?_⟩;have hl:=len _ _ _ _ hsp;have KX:K.In s.heap:=e0.mod.kin.keeps λb o e=>(e0.bs b o e).1;have lim:s.heap.NoLimit:=e0.mod.nolimit.keeps λb o e=>(e0.bs b o e).1
 have hkind:∀ y∈ps.zip us,scope.names.lookup y.1=some .local∨(scope.names.lookup y.1=some .cell/\((cellsFrom (s.heap.objs.size+1) scope.names []).lookup y.1).isSome=true):=λ⟨n,v⟩ hy=>by
  rcases S.par n (List.of_mem_zip hy).1 with q | q
  ·exact .inl q
  ·exact .inr ⟨q,PySem.W.cellsFrom_some _ _ _ (.inl q)⟩
 refine codeAny_call_function hr.depth (KX _ _ lk) rfl S.co S.gen rfl (PySem.W.codeRec_of KX hcd) (hb _ _ _ _ ?_);refine wpAny_newFunctionEnv_cells S.kind hkind λenv he s1 x=>?_;subst he;refine ⟨lim.keeps x.toInCall.keep,codeAny_func ?_⟩;obtain ⟨t,ht,hq⟩:=hbody A outer s H vs Q E (hr.deeper _) hsp;have I:Inv (yh CX P w K mg base N qual scope f cdv A outer s H E) [] (Zr N vs) H s1:=inv_start S hr.hd e0 hl r x;refine wpAny_mono (ht [] s1 (Zr N vs) H _ I hq) (λfl s' hs=>?_) λe s' hs=>hs
 have fin:∀ {σ':St} {H':Hp} {v:V} {u:Vl},Inv (yh CX P w K mg base N qual scope f cdv A outer s H E) [] σ' H' s'->RelV v u->Q v H'->CE outer P w H s Q u s' :=
  λ{σ' H' v u} J rv q=>⟨v,H',J.os,J.bare,J.base,J.hok,rv,q⟩
 cases fl with
 | ret u =>
  obtain ⟨v,σ',H',J,rv,q⟩:=hs;exact fin J rv q
 | next =>
  obtain ⟨σ',H',J,q⟩:=hs;exact fin (v:=V.non) (u:=Value.none) J rfl q
 | brk =>
  obtain ⟨_,_,_,q⟩:=hs;exact False.elim q
 | cont =>
  obtain ⟨_,_,_,q⟩:=hs;exact False.elim q
section
variable {X:Cx} {x:Str} {p pos:Pos} {e:Expr} {es:Jn} {t:TA} {id T:String} {r:Jt->Hp->VK->Prop}
def tCB (r:Jt->Hp->VK->Prop) (t:TA):TE:=λσ H Q=>t σ H λvs H1=>r vs H1 Q
def zE (hc:ZY X (.builtin id) r) (hg:Gl X x) (hm:X.mg x=none) (hv:bootBuiltins x=some (.builtin id)) (ha:PA X (e::es) t) (hn:x≠"__name__":=by decide) (hdb:(x == ("__debug__":Str))=false:=by decide)
  (he:starEach (e::es) X.env=(false,eval e X.env)::starEach es X.env:=by rfl) (hpl:(backTo pos (starEach es X.env)).any (·.1)=false:=by rfl):PE X (.Call (.Name x p) (e::es) [] pos) (tCB r t):=by
 intro pins s σ H Q I h;refine wpAny_Call_Name_kw (ZC I hg hm hv ?_ hn hdb);exact PyProof.Rows.callWith_builtin1 (thn (ha pos pins s σ H _ I h) λus s1 ⟨vs,H1,I1,r1,q1⟩=>hc pins s1 σ H1 vs us Q I1 r1 q1) he hpl
def Zn (hc:ZY X (.type T) r) (hg:Gl X x) (hm:X.mg x=none) (hv:bootBuiltins x=some (.type T)) (ha:PA X (e::es) t) (hn:x≠"__name__":=by decide) (hdb:(x == ("__debug__":Str))=false:=by decide)
  (he:starEach (e::es) X.env=(false,eval e X.env)::starEach es X.env:=by rfl) (hpl:(backTo pos (starEach es X.env)).any (·.1)=false:=by rfl):PE X (.Call (.Name x p) (e::es) [] pos) (tCB r t):=by
 intro pins s σ H Q I h;refine wpAny_Call_Name_kw (ZC I hg hm hv ?_ hn hdb);exact PyProof.Rows.callWith_type1 (thn (ha pos pins s σ H _ I h) λus s1 ⟨vs,H1,I1,r1,q1⟩=>hc pins s1 σ H1 vs us Q I1 r1 q1) he hpl
end
end L2
namespace HT
open PySem PyProof.Rows
def lexLt:Jh->Jh->Bool
 | [],[]=>false
 | [],_::_=>true
 | _::_,[]=>false
 | x::xs,y::ys=>if x=y then lexLt xs ys else decide (x<y)
section
open PySem.SeqAt
open PySem.AutoSeq1 (wpAny_loadPart')
open PySem.MeetsSeq PySem.MeetsSeq2 PySem.MeetsSeq3
end
section
variable {prog:Program} {w:World} {A:Around} {E:Jg} {s:Sh}
def sIx (n d:Nat):Option Int->Nat
 | none=>d
 | some v=>if v<0 then (v+(n:Int)).toNat else min v.toNat n
def sIx_none (n d:Nat):sIx n d none=d:=rfl
end
end HT
namespace L2
open PySem PySem.Spec PyProof.Rows
abbrev TO:=St->Hp->(Option Int->Hp->Prop)->Prop
def PO (X:Cx) (e:Option Expr) (t:TO):Prop :=
 ∀ (pins:Ji) (s:Sh) (σ:St) (H:Hp) (Q:Option Int->Hp->Prop),Inv X pins σ H s->t σ H Q ->
  wpAny (model X.prog X.w) X.A (evalPart e X.env) (λu s'=>∃ o H',Inv X pins σ H' s'/\IsPart u o/\Q o H') X.xe s
def tNoPart:TO:=λ_ H Q=>Q none H
inductive tPart_S (Q:(Option Int->Hp->Prop)) (x:V) (H1:Hp):Prop
 | mk (i:_) (_:x=.int i) (_:Q (some i) H1)
def tPart (t:TE):TO:=λσ H Q=>t σ H λx H1=>tPart_S Q x H1
section
variable {X:Cx} {e:Expr} {te:TE} {lo hi:Option Expr} {tl th:TO} {pos p2:Pos}
def X0:PO X none tNoPart:=by
 intro pins s σ H Q I h;rw [evalPart_none];exact q0y ⟨none,H,I,.none,h⟩
def ZP (h:PE X e te):PO X (some e) (tPart te):=by
 intro pins s σ H Q I hw;rw [evalPart_some];refine thn (h pins s σ H _ I hw) λu s1 ⟨x,H1,I1,r1,q1⟩=>?_;obtain ⟨i,rfl,q⟩:=q1;obtain ⟨t,rfl⟩:=r1;exact ⟨some i,H1,I1,.int i t,q⟩
def SlR (X:Cx) (r:V->Option Int->Option Int->Hp->VK->Prop):Prop :=
 ∀ (pins:Ji) (s:Sh) (σ:St) (H:Hp) (x:V) (v vl vu:Vl) (lo hi:Option Int) (sl:Ad) (Q:VK),Inv X pins σ H s->RelV x v->s.heap.IsSliceOf sl vl vu .none->IsPart vl lo->IsPart vu hi->r x lo hi H Q ->
  ∃ T id,typeLookup (.type T) "__getitem__"=pure (some (.builtin id))/\s.TypeIs v T/\wpAny (model X.prog X.w) X.A (getItem v (.ref sl)) (EP X pins σ Q) X.xe s
def tSl (r:V->Option Int->Option Int->Hp->VK->Prop) (te:TE) (tl th:TO):TE:=λσ H Q=>te σ H λx H1=>tl σ H1 λl H2=>th σ H2 λu H3=>r x l u H3 Q
def ZQ {r:V->Option Int->Option Int->Hp->VK->Prop} (hr:SlR X r) (he:PE X e te) (hl:PO X lo tl) (hu:PO X hi th):PE X (.Subscript e (.Slice lo hi none p2) pos) (tSl r te tl th):=by
 intro pins s σ H Q I h;refine Subscript_ (thn (he pins s σ H _ I h) λv s1 ⟨x,H1,I1,r1,q1⟩=>?_);refine wpAny_Slice (thn (hl pins s1 σ H1 _ I1 q1) λvl s2 ⟨l,H2,I2,pl,q2⟩=>thn (hu pins s2 σ H2 _ I2 q2) λvu s3 ⟨u,H3,I3,pu,q3⟩=>?_);rw [evalPart_none];refine q0y ?_;have I4:Inv X pins σ H3 { s3 with heap:=s3.heap.push { cls:=.type "slice",data:=.fields #[vl,vu,.none] } }:=I3.kept (t':=s3.toks) λb ob q=>Heap.get?_push_of_some _ q;obtain ⟨T,id,hT,ht,hg⟩:=hr pins { s3 with heap:=s3.heap.push { cls:=.type "slice",data:=.fields #[vl,vu,.none] } } σ H3 x v vl vu l u s3.heap.objs.size Q I4 r1 (Heap.IsSliceOf.new ..) pl pu q3;show wpAny (model X.prog X.w) X.A (subscriptTail e (.Slice lo hi none p2) v (.ref s3.heap.objs.size)) (EP X pins σ Q) X.xe { s3 with heap:=s3.heap.push { cls:=.type "slice",data:=.fields #[vl,vu,.none] } };exact tail_any (ops:=[.ref s3.heap.objs.size,v]) ht hT hg (by with_unfolding_all rfl)
def Ya (xs:Jt) (lo hi:Option Int):Jt:=(xs.drop (HT.sIx xs.length 0 lo)).take (HT.sIx xs.length xs.length hi-HT.sIx xs.length 0 lo)
def zbc (xs:Jt) (lo hi:Option Int):(Ya xs lo hi).length<=xs.length:=by
 unfold Ya;rw [List.length_take,List.length_drop];omega
end
def ixN (n:Nat) (i:Int):Option Nat:=if 0<=i then (if i<n then some i.toNat else none) else if -(n:Int)<=i then some (i+n).toNat else none
def atI {α:Type} (xs:List α) (i:Int):Option α:=(ixN xs.length i).bind λj=>xs[j]?
def ixN_seq {n:Nat} {i:Int} {j:Nat} (h:ixN n i=some j):seqIndex? i n=some j/\j<n/\-(n:Int)<=i/\i<n:=by
 unfold ixN at h;by_cases h0:0<=i
 ·rw [if_pos h0] at h
  by_cases h1:i<n
  ·rw [if_pos h1] at h
   have e:i.toNat=j:=Option.some.inj h;exact ⟨by rw [seqIndex_of h0 h1,e],by omega,by omega,h1⟩
  ·rw [if_neg h1] at h;cases h
 ·rw [if_neg h0] at h
  by_cases h1:-(n:Int)<=i
  ·rw [if_pos h1] at h
   have e:(i+n).toNat=j:=Option.some.inj h;exact ⟨by rw [seqIndex_neg (by omega) h1,e],by omega,h1,by omega⟩
  ·rw [if_neg h1] at h;cases h
def atI_get {α:Type} {xs:List α} {i:Int} {v:α} (h:atI xs i=some v):∃ j,seqIndex? i xs.length=some j/\xs[j]?=some v/\j<xs.length/\-(xs.length:Int)<=i/\i<xs.length:=by
 unfold atI at h
 cases e:ixN xs.length i with
 | none=>rw [e] at h;cases h
 | some j =>
  rw [e] at h;obtain ⟨h1,h2,h3,h4⟩:=ixN_seq e;exact ⟨j,h1,h,h2,h3,h4⟩
def zM {α:Type} {xs:List α} {j:Nat} {v:α} (h:xs[j]?=some v):atI xs (j:Int)=some v:=by
 have hj:j<xs.length:=(List.getElem?_eq_some_iff.mp h).1
 have e:ixN xs.length (j:Int)=some j:=by
  unfold ixN;rw [if_pos (by omega),if_pos (by omega)];simp
 unfold atI;rw [e];exact h
def Xh {α:Type} (xs:List α) (v:α):atI (xs++[v]) (-1)=some v:=by
 have hl:(xs++[v]).length=xs.length+1:=by simp
 have e:ixN (xs++[v]).length (-1)=some xs.length:=by
  unfold ixN;rw [hl,if_neg (by decide),if_pos (by omega)];congr 1;omega
 unfold atI;rw [e];show (xs++[v])[xs.length]?=some v;simp
def PlainIx (b:Expr):Prop:=∀ o i,subscripted b false o i=operate [o,i] (getItem o i)
def IxR (X:Cx) (r:R2):Prop :=
 ∀ (value slice:Expr) (pins:Ji) (s:Sh) (σ:St) (H:Hp) (x y:V) (v u:Vl) (Q:VK),Inv X pins σ H s->RelV x v->RelV y u->r x y H Q ->
  subscripted slice false v u=operate [v,u] (getItem v u)->wpAny (model X.prog X.w) X.A (subscriptTail value slice v u) (EP X pins σ Q) X.xe s
def MtR (X:Cx) (id:String) (r:V->Jt->Hp->VK->Prop):Prop :=
 ∀ (pins:Ji) (s:Sh) (σ:St) (H:Hp) (x:V) (xs:Jt) (v:Vl) (us:Jj) (Q:VK),Inv X pins σ H s->RelV x v->Vals xs us->r x xs H Q ->
  wpAny (model X.prog X.w) X.A (call (.builtin id) (v::us)) (EP X pins σ Q) X.xe s
section
variable {X:Cx} {a b:Expr} {ta tb:TE} {pos:Pos}
def zi {r:R2} (hr:IxR X r) (ha:PE X a ta) (hb:PE X b tb) (hs:PlainIx b):PE X (.Subscript a b pos) (tOp r ta tb):=by
 intro pins s σ H Q I h;exact Subscript_ (binT ha hb I h λv u s2 x y H2 I2 rx ry q=>hr a b pins s2 σ H2 x y v u Q I2 rx ry q (hs _ _))
inductive rIxL (K:Fg) (x y:V) (H:Hp) (Q:VK):Prop
 | mk (p xs:_) (i v:_) (_:x=.ref p) (_:y=.int i) (_:SqL K H p xs) (_:atI xs i=some v) (_:Q v H)
inductive rIxT (K:Fg) (x y:V) (H:Hp) (Q:VK):Prop
 | mk (p xs:_) (i v:_) (_:x=.ref p) (_:y=.int i) (_:SqT K H p xs) (_:atI xs i=some v) (_:Q v H)
def zx:IxR X (rIxL X.K):=by
 intro value slice pins s σ H x y v u Q I rx ry h hs;obtain ⟨p,xs,i,z,rfl,rfl,hq,he,q⟩:=h;cases rx;obtain ⟨t,rfl⟩:=ry;obtain ⟨its,r,pl,hz⟩:=I.list hq;obtain ⟨j,h1,h2,h3,h4,h5⟩:=atI_get he;obtain ⟨w,ew,rw'⟩:=r.get h2;have hl:=r.length;have hn:=zae;have fin:EP X pins σ Q w s:=⟨z,H,I,rw',q⟩;by_cases h0:0<=i
 ·have hj:i.toNat=j:=by
   rw [seqIndex_of h0 h5] at h1;exact Option.some.inj h1
  exact item_listR pl.isList h0 (by omega) (by rw [hj];simpa using ew) fin hs
 ·have hj:(i+(its.toArray.size:Int)).toNat=j:=by
   rw [seqIndex_neg (by omega) h4] at h1;rw [List.size_toArray,← hl];exact Option.some.inj h1
  exact subscriptTail_builtinR (x:=w) pl.isList.typeIs slot_list_getitem.lookup
   (wpAny_getItem_list_neg (Q:=λr s'=>r=w/\EP X pins σ Q r s') pl.isList (by omega) (by rw [List.size_toArray] <;> omega) (by omega) (by rw [hj];simpa using ew) ⟨rfl,fin⟩) hs
def zn:IxR X (rIxT X.K):=by
 intro value slice pins s σ H x y v u Q I rx ry h hs;obtain ⟨p,xs,i,z,rfl,rfl,hq,he,q⟩:=h;cases rx;obtain ⟨t,rfl⟩:=ry;obtain ⟨its,r,pl,hz⟩:=I.tuple hq;obtain ⟨j,h1,h2,h3,h4,h5⟩:=atI_get he;obtain ⟨w,ew,rw'⟩:=r.get h2;have hl:=r.length;have hn:=zae;have fin:EP X pins σ Q w s:=⟨z,H,I,rw',q⟩;exact subscriptTail_builtinR (x:=w) pl.typeIs slot_tuple_getitem.lookup
  (getItem_tuple (j:=j) (Q:=λr s'=>r=w/\EP X pins σ Q r s') pl (by omega) (by omega) (by rw [List.size_toArray,← hl];exact h1) (by simpa using ew) ⟨rfl,fin⟩) hs
def zb6 (its:Jj) (n j:Nat) (u:Vl):Obj.mapSeq (·.setIfInBounds j u) { cls:=.type "list",data:=.seq its.toArray n }={ cls:=.type "list",data:=.seq (its.set j u).toArray n }:=by
 simp [Obj.mapSeq]
def Inv.lst {pins:Ji} {σ:St} {H:Hp} {s:Sh} {p:Ad} {xs:Jt} (I:Inv X pins σ H s) (h:H p=some (.lst xs)) :
  ∃ (its:Jj) (n:Nat),Vals xs its/\s.heap.get? p=some { cls:=.type "list",data:=.seq its.toArray n }/\xs.length<=sizeLine:=by
 obtain ⟨z,its,n,r,e⟩:=I.hok p _ h;exact ⟨its,n,r,e,z⟩
def Inv.lstUpd {pins:Ji} {σ:St} {H:Hp} {s:Sh} {p:Ad} {xs ys:Jt} {its its':Jj} {n n':Nat} {f:Obj->Obj} (I:Inv X pins σ H s) (h:H p=some (.lst xs))
  (ho:s.heap.get? p=some { cls:=.type "list",data:=.seq its.toArray n }) (hf:f { cls:=.type "list",data:=.seq its.toArray n }={ cls:=.type "list",data:=.seq its'.toArray n' }) (r:Vals ys its') (hz:ys.length<=sizeLine) (t:Nat) :
  Inv X pins σ (upd H p (.lst ys)) { s with heap:=s.heap.update p f,toks:=t }:=by
 have e:(s.heap.update p f).get? p=some { cls:=.type "list",data:=.seq its'.toArray n' }:=by
  rw [Heap.get?_update_self f ho (by rw [hf] <;> rfl),hf]
 refine I.write (x:=p) (e:=p) (by rw [h];trivial) (.inl rfl) (λb u hb q=>(Heap.get?_update_other _ _ (Ne.symm hb)).trans q) ⟨_,e⟩ ?_;exact ⟨hz,its',n',r,e⟩
inductive rSetL (o i v:V) (H:Hp) (Q:(Hp->Prop)):Prop
 | mk (p xs:_) (k j:_) (_:o=.ref p) (_:i=.int k) (_:H p=some (.lst xs)) (_:ixN xs.length k=some j) (_:Q (upd H p (.lst (xs.set j v))))
def zap:PSet X rSetL:=by
 intro pins s σ H o i v ov iv u Q I ro ri rv h;obtain ⟨p,xs,k,j,rfl,rfl,hp,hj,q⟩:=h;cases ro;obtain ⟨t,rfl⟩:=ri;obtain ⟨its,n,r,ho,hz⟩:=I.lst hp;obtain ⟨h1,h2,h3,h4⟩:=ixN_seq hj;have hl:=r.length;have hn:=zae
 have I':Inv X pins σ (upd H p (.lst (xs.set j v))) { s with heap:=s.heap.update p (Obj.mapSeq (·.setIfInBounds j u)) } :=
  I.lstUpd hp ho (zb6 its n j u) (r.set rv j) (by rw [List.length_set];exact hz) s.toks
 by_cases h0:0<=k
 ·have hk:k.toNat=j:=by
   rw [seqIndex_of h0 h4] at h1;exact Option.some.inj h1
  exact PySem.W.ki_setAt ho h0 (by omega) (by rw [List.size_toArray,← hl];exact h4) (by rw [hk];exact ⟨_,I',q⟩)
 ·have hk:(k+(its.toArray.size:Int)).toNat=j:=by
   rw [seqIndex_neg (by omega) h3] at h1;rw [List.size_toArray,← hl];exact Option.some.inj h1
  exact PySem.W.ki_setBack ho (by omega) (by rw [List.size_toArray,← hl];exact h3) (by omega) (by rw [hk];exact ⟨_,I',q⟩)
def XS (lo hi:Option Int) (n:Nat):(sliceBounds lo hi none n).1=((HT.sIx n 0 lo:Nat):Int)/\(sliceBounds lo hi none n).2.1=((HT.sIx n n hi:Nat):Int)/\(sliceBounds lo hi none n).2.2=1:=by
 refine ⟨?_,?_,rfl⟩
 ·cases lo with
  | none=>simp [sliceBounds,HT.sIx]
  | some i =>
   simp only [sliceBounds,HT.sIx,Option.getD_none,show (1:Int) > 0 by decide,if_true];by_cases h:i<0
   ·simp only [h,if_true] <;> omega
   ·simp only [h,if_false] <;> omega
 ·cases hi with
  | none=>simp [sliceBounds,HT.sIx]
  | some i =>
   simp only [sliceBounds,HT.sIx,Option.getD_none,show (1:Int) > 0 by decide,if_true];by_cases h:i<0
   ·simp only [h,if_true] <;> omega
   ·simp only [h,if_false] <;> omega
def Xj (its:Jj) (lo hi:Option Int):slicePick its.toArray lo hi none=((its.drop (HT.sIx its.length 0 lo)).take (HT.sIx its.length its.length hi-HT.sIx its.length 0 lo)).toArray:=by
 obtain ⟨h1,h2,h3⟩:=XS lo hi its.toArray.size;unfold slicePick;rw [h1,h2,h3];simp only [sliceRange_one,pick_run,List.size_toArray] <;> rfl
inductive rSlL (K:Fg) (x:V) (lo hi:Option Int) (H:Hp) (Q:VK):Prop
 | mk (a xs:_) (_:x=.ref a) (_:SqL K H a xs) (_:∀ p,H p=none->Q (.ref p) (upd H p (.lst (Ya xs lo hi))))
def Yv:SlR X (rSlL X.K):=by
 intro pins s σ H x v vl vu lo hi sl Q I rx hs pl pu h;obtain ⟨a,xs,rfl,hx,q⟩:=h;cases rx;obtain ⟨its,r,ht,hz⟩:=I.list hx;have hlen:=r.length;refine ⟨"list",_,slot_list_getitem.lookup,ht.isList.typeIs,?_⟩;refine wpAny_getItem_list_slice ht.isList hs pl pu .none (by simp) ?_ (by rw [List.size_toArray] <;> omega);rw [Xj,← hlen];refine ⟨.ref s.heap.objs.size,_,I.laid (t':=s.toks) (o:=.lst (Ya xs lo hi)) (λb ob q=>Heap.get?_push_of_some _ q) (Nat.le_refl _) ?_,rfl,q _ (I.hok.fresh (Nat.le_refl _))⟩;exact ⟨Nat.le_trans (zbc xs lo hi) hz,_,0,(r.drop (HT.sIx xs.length 0 lo)).take (HT.sIx xs.length xs.length hi-HT.sIx xs.length 0 lo),Heap.get?_push_size _ rfl⟩
def xQ:V->Bool
 | .non=>true
 | .bl _=>true
 | .int _=>true
 | .str _=>true
 | _=>false
def eqV:V->V->Bool
 | .non,.non=>true
 | .bl a,.bl b=>a == b
 | .bl a,.int b=>(if a then 1 else 0) == b
 | .int a,.bl b=>a == (if b then 1 else 0)
 | .int a,.int b=>a == b
 | .str a,.str b=>a == b
 | _,_=>false
def eqAt_V {A:Around} {s:Sh} {y x:V} {u v:Vl} (ry:RelV y u) (rx:RelV x v) (fy:xQ y=true) (fx:xQ x=true):SeqAt.EqAt A s u v (eqV y x):=by
 cases y with
 | non =>
  cases ry
  cases x with
  | non=>cases rx;exact SeqAt.EqAt.same _
  | bl b=>cases rx;exact SeqAt.EqAt.none_bool b
  | int b=>obtain ⟨t,rfl⟩:=rx;exact SeqAt.EqAt.none_int b t
  | str b=>obtain ⟨t,rfl⟩:=rx;exact SeqAt.EqAt.none_str b t
  | _=>exact absurd (show false=true from fx) q1z
 | bl a =>
  cases ry
  cases x with
  | non=>cases rx;exact SeqAt.EqAt.bool_none a
  | bl b=>cases rx;exact SeqAt.EqAt.bool_bool a b
  | int b=>obtain ⟨t,rfl⟩:=rx;exact SeqAt.EqAt.bool_int a b t
  | str b=>obtain ⟨t,rfl⟩:=rx;exact SeqAt.EqAt.bool_str a b t
  | _=>exact absurd (show false=true from fx) q1z
 | int a =>
  obtain ⟨t',rfl⟩:=ry
  cases x with
  | non=>cases rx;exact SeqAt.EqAt.int_none a t'
  | bl b=>cases rx;exact SeqAt.EqAt.int_bool a t' b
  | int b=>obtain ⟨t,rfl⟩:=rx;exact SeqAt.EqAt.int_int a t' b t
  | str b=>obtain ⟨t,rfl⟩:=rx;exact SeqAt.EqAt.int_str a t' b t
  | _=>exact absurd (show false=true from fx) q1z
 | str a =>
  obtain ⟨t',rfl⟩:=ry
  cases x with
  | non=>cases rx;exact SeqAt.EqAt.str_none a t'
  | bl b=>cases rx;exact SeqAt.EqAt.str_bool a t' b
  | int b=>obtain ⟨t,rfl⟩:=rx;exact SeqAt.EqAt.str_int a t' b t
  | str b=>obtain ⟨t,rfl⟩:=rx;exact SeqAt.EqAt.str_str a t' b t
  | _=>exact absurd (show false=true from fx) q1z
 | _=>exact absurd (show false=true from fy) q1z
def eqU (x:V) (u:Vl):Bool:=match u with
 | .none=>eqV .non x
 | .bool b=>eqV (.bl b) x
 | .int i _=>eqV (.int i) x
 | .str z _=>eqV (.str z) x
 | _=>false
def eqU_of {x y:V} {u:Vl} (r:RelV y u) (f:xQ y=true):eqU x u=eqV y x:=by
 cases y with
 | non=>cases r;rfl
 | bl b=>cases r;rfl
 | int i=>obtain ⟨t,rfl⟩:=r;rfl
 | str z=>obtain ⟨t,rfl⟩:=r;rfl
 | _=>exact absurd (show false=true from f) q1z
theorem zaj {x:V}:∀ {xs:Jt} {us:Jj},Vals xs us->xs.all xQ=true->us.any (eqU x)=xs.any λy=>eqV y x
 | _,_,.nil,_=>rfl
 | y::xs,u::us,.cons r t,f=>by
  rw [List.all_cons,Bool.and_eq_true] at f;rw [List.any_cons,List.any_cons,eqU_of r f.1,zaj t f.2]
theorem Y5 {A:Around} {s:Sh} {x:V} {v:Vl} (rx:RelV x v) (fx:xQ x=true):∀ {xs:Jt} {us:Jj},Vals xs us->xs.all xQ=true->∀ u∈us,SeqAt.EqAt A s u v (eqU x u)
 | _,_,.nil,_=>λu hu=>by cases hu
 | y::xs,u::us,.cons r t,f=>λu' hu=>by
  rw [List.all_cons,Bool.and_eq_true] at f;rcases List.mem_cons.mp hu with rfl | hu
  ·rw [eqU_of r f.1];exact eqAt_V r rx f.1 fx
  ·exact Y5 rx fx t f.2 u' hu
def inV (x:V) (xs:Jt):Bool:=xs.any λy=>eqV y x
inductive rIn (K:Fg) (neg:Bool) (x y:V) (H:Hp) (Q:VK):Prop
 | mk (p xs:_) (_:y=.ref p) (_:(SqL K H p xs∨SqT K H p xs)) (_:xQ x=true) (_:xs.all xQ=true) (_:Q (.bl (if neg then !inV x xs else inV x xs)) H)
def zN:OpR X (compareOp .In) (rIn X.K false):=by
 intro pins s σ H x y v u Q I rx ry h;obtain ⟨p,xs,rfl,hq,fx,fs,q⟩:=h;cases ry;rcases hq with hq | hq
 ·obtain ⟨its,r,pl,hz⟩:=I.list hq
  refine SeqAt.in_listAt (eqU x) pl.isList (λw hw=>Y5 rx fx r fs w (by simpa using hw)) ⟨.bl _,H,I,rfl,?_⟩;rw [show its.toArray.any (eqU x)=its.any (eqU x) by simp,zaj r fs];exact q
 ·obtain ⟨its,r,pl,hz⟩:=I.tuple hq
  refine SeqAt.in_tupleAt (eqU x) pl (λw hw=>Y5 rx fx r fs w (by simpa using hw)) ⟨.bl _,H,I,rfl,?_⟩;rw [show its.toArray.any (eqU x)=its.any (eqU x) by simp,zaj r fs];exact q
def zr:ZY X (.builtin "len") (λxs H Q=>∃ p ys,xs=[.ref p]/\(SqL X.K H p ys∨SqT X.K H p ys)/\Q (.int ys.length) H):=by
 intro pins s σ H xs us Q I r h;obtain ⟨p,ys,rfl,hq,q⟩:=h;obtain ⟨u,rfl,rx⟩:=vals1 r;cases rx;have hn:=zae;rcases hq with hq | hq
 ·obtain ⟨its,r',pl,hz⟩:=I.list hq
  have hlen:=r'.length;exact Calls.call_len_list pl.isList (by simp only [List.size_toArray] <;> omega) ⟨.int ys.length,H,I.tok _,⟨s.toks+1,by rw [List.size_toArray,hlen]⟩,q⟩
 ·obtain ⟨its,r',pl,hz⟩:=I.tuple hq
  have hlen:=r'.length;exact len_tuple pl (by simp only [List.size_toArray] <;> omega) ⟨.int ys.length,H,I.tok _,⟨s.toks+1,by rw [List.size_toArray,hlen]⟩,q⟩
def ZX:ZY X (.type "list") (λxs H Q=>∃ p ys,xs=[.ref p]/\(SqL X.K H p ys∨SqT X.K H p ys)/\∀ l,H l=none->Q (.ref l) (upd H l (.lst ys))):=by
 intro pins s σ H xs us Q I r h;obtain ⟨p,ys,rfl,hq,q⟩:=h;obtain ⟨u,rfl,rx⟩:=vals1 r;cases rx
 have fin:∀ (its:Jj),Vals ys its->ys.length<=sizeLine->∀ (h':Heap) (c':Nat),(∀ b o',s.heap.get? b=some o'->h'.get? b=some o') ->
   h'.get? s.heap.objs.size=some { cls:=.type "list",dict:=none,data:=.seq its.toArray c',slots:=#[] }->EP X pins σ Q (.ref s.heap.objs.size) { s with heap:=h' }:=λits r' hz h' c' kp e =>
  ⟨.ref s.heap.objs.size,_,I.laid (t':=s.toks) kp (Nat.le_refl _) (show ObjOk X.prog X.w _ h' _ (.lst ys) from ⟨hz,its,c',r',e⟩),rfl,q _ (I.hok.fresh (Nat.le_refl _))⟩
 rcases hq with hq | hq
 ·obtain ⟨its,r',pl,hz⟩:=I.list hq
  have hlen:=r'.length;obtain ⟨o,ho,hc,n,hd⟩:=pl.isList;exact call_list_seq p (.inl rfl) ho hc hd (λh' c' kp e=>fin its r' hz h' c' kp e) (by simp only [List.size_toArray] <;> omega)
 ·obtain ⟨its,r',pl,hz⟩:=I.tuple hq
  have hlen:=r'.length;obtain ⟨o,ho,hc,n,hd⟩:=pl;exact call_list_seq p (.inr rfl) ho hc hd (λh' c' kp e=>fin its r' hz h' c' kp e) (by simp only [List.size_toArray] <;> omega)
def Xn:ZY X (.type "tuple") (λxs H Q=>∃ p ys,xs=[.ref p]/\((SqL X.K H p ys/\∀ l,H l=none->Q (.ref l) (upd H l (.tup ys)))∨(SqT X.K H p ys/\Q (.ref p) H))):=by
 intro pins s σ H xs us Q I r h;obtain ⟨p,ys,rfl,h⟩:=h;obtain ⟨u,rfl,rx⟩:=vals1 r;cases rx;rcases h with ⟨hq,q⟩ | ⟨hq,q⟩
 ·obtain ⟨its,r',pl,hz⟩:=I.list hq
  have hlen:=r'.length;refine call_tuple_list pl.isList (λh' kp=>?_) (by simp only [List.size_toArray] <;> omega);have I1:Inv X pins σ H { s with heap:=h' }:=I.kept (t':=s.toks) kp
  have I2:Inv X pins σ (upd H h'.objs.size (.tup ys)) { s with heap:=h'.push { cls:=.type "tuple",data:=.seq its.toArray } } :=
   I1.laid (t':=s.toks) (λb o e=>Heap.get?_push_of_some _ e) (Nat.le_refl _) (show ObjOk X.prog X.w _ _ _ (.tup ys) from ⟨hz,its,r',IsTup.new _ _⟩)
  exact ⟨.ref h'.objs.size,_,I2,rfl,q _ (I1.hok.fresh (Nat.le_refl _))⟩
 ·obtain ⟨its,r',pl,hz⟩:=I.tuple hq
  exact call_tuple_same pl ⟨.ref p,H,I,rfl,q⟩
def tyV (K:Fg) (T:String) (x:V) (H:Hp):Prop:=match x with
 | .str _=>T="str"
 | .int _=>T="int"
 | .ref p=>(T="list"/\∃ xs,SqL K H p xs)∨(T="tuple"/\∃ o,K.lookup p=some o/\o.cls=.type "tuple"/\o.dict=none) ∨
   (T="dict"/\((∃ kvs,H p=some (.dK kvs))∨∃ kvs,H p=some (.dT kvs)))∨(T="set"/\∃ S n,H p=some (.set S n))
 | _=>False
def tyV_is {pins:Ji} {σ:St} {H:Hp} {s:Sh} {T:String} {x:V} {v:Vl} (I:Inv X pins σ H s) (r:RelV x v) (ty:tyV X.K T x H) :
  s.TypeIs v T/\∀ a,v=.ref a->∃ ob,s.heap.get? a=some ob/\ob.dict=none:=by
 cases x with
 | str z =>
  obtain ⟨t,rfl⟩:=r;cases (show T="str" from ty);exact ⟨typeIs_str s z t,λ_ e=>nomatch e⟩
 | int i =>
  obtain ⟨t,rfl⟩:=r;cases (show T="int" from ty);exact ⟨typeIs_int s i t,λ_ e=>nomatch e⟩
 | ref p =>
  cases r;rcases ty with ⟨rfl,xs,hq⟩ | ⟨rfl,o,hk,hc,hd⟩ | ⟨rfl,hk⟩ | ⟨rfl,S,n,hk⟩
  ·obtain ⟨its,_,pl,_⟩:=I.list hq
   refine ⟨pl.isList.typeIs,λa e=>?_⟩;cases e;obtain ⟨o,n,e,c,hd,_⟩:=pl;exact ⟨o,e,hd⟩
  ·refine ⟨⟨o,I.kIn p o hk,hc⟩,λa e=>?_⟩
   cases e;exact ⟨o,I.kIn _ o hk,hd⟩
  ·have z:∃ o,s.heap.get? p=some o/\o.ExactDict:=by
    rcases hk with ⟨kvs,hk⟩ | ⟨kvs,hk⟩
    ·obtain ⟨_,_,_,_,o,_,_,e,ex,_⟩:=I.hok p _ hk
     exact ⟨o,e,ex⟩
    ·obtain ⟨_,_,_,_,o,_,_,e,ex,_⟩:=I.hok p _ hk
     exact ⟨o,e,ex⟩
   obtain ⟨o,e,ex⟩:=z;refine ⟨⟨o,e,ex.1⟩,λa e2=>?_⟩;cases e2;exact ⟨o,e,ex.2.1⟩
  ·obtain ⟨o,_,_,_,e,ex,_⟩:=I.hok p _ hk
   refine ⟨⟨o,e,ex.1⟩,λa e2=>?_⟩;cases e2;exact ⟨o,e,ex.2.1⟩
 | _=>exact False.elim ty
def tBM0 (K:Fg) (T:String) (r:V->Jt->Hp->VK->Prop) (to:TE):TE:=λσ H Q=>to σ H λx H1=>tyV K T x H1/\r x [] H1 Q
def tBM (K:Fg) (T:String) (r:V->Jt->Hp->VK->Prop) (to:TE) (t:TA):TE:=λσ H Q=>to σ H λx H1=>tyV K T x H1/\t σ H1 λxs H2=>r x xs H2 Q
variable {o e:Expr} {es:Jn} {to:TE} {t:TA} {name:Str} {apos cpos:Pos} {T id:String} {r:V->Jt->Hp->VK->Prop}
def pe_bm0 (pa:PlainAttrs T) (slot:Slot T name id) (hty:typeOf (.builtin id)=pure (.type "method_descriptor")) (hm:MtR X id r) (ho:PE X o to)
  (hbase:attributeBase o name X.env (eval o X.env)=eval o X.env:=by rfl) (hline:(apos.endLine == cpos.line)=true:=by rfl):PE X (.Call (.Attribute o name apos) [] [] cpos) (tBM0 X.K T r to):=by
 intro pins s σ H Q I h;refine wpAny_Call_method0_late hbase hline (thn (ho pins s σ H _ I h) λv s1 ⟨x,H1,I1,r1,ty,q1⟩=>?_);obtain ⟨h1,h2⟩:=tyV_is I1 r1 ty;exact ⟨T,id,pa,slot,hty,h1,h2,Calls.callWith_builtin rfl (PySem.evalArgs_none (hm pins s1 σ H1 x [] v [] Q I1 r1 .nil q1))⟩
def yZ (pa:PlainAttrs T) (slot:Slot T name id) (hty:typeOf (.builtin id)=pure (.type "method_descriptor")) (hm:MtR X id r) (ho:PE X o to) (ha:PA X (e::es) t)
  (hbase:attributeBase o name X.env (eval o X.env)=eval o X.env:=by rfl)
  (hfew:((backTo cpos (starEach (e::es) X.env)).all (λx=>!x.1) && (backToKw cpos (keywordEach [] X.env)).all (λx=>x.1.isSome)
   && decide ((e::es).length+([]:List Keyword).length+(if ([]:List Keyword).isEmpty then 0 else 1)<30))=true:=by rfl)
  (hline:(apos.endLine == cpos.line)=true:=by rfl) (hs:starEach (e::es) X.env=(false,eval e X.env)::starEach es X.env:=by rfl) (hplain:(backTo cpos (starEach es X.env)).any (·.1)=false:=by rfl) :
  PE X (.Call (.Attribute o name apos) (e::es) [] cpos) (tBM X.K T r to t):=by
 intro pins s σ H Q I h;refine wpAny_Call_method_late hbase hfew hline rfl (thn (ho pins s σ H _ I h) λv s1 ⟨x,H1,I1,r1,ty,q1⟩=>?_);obtain ⟨h1,h2⟩:=tyV_is I1 r1 ty;refine ⟨T,id,pa,slot,hty,h1,h2,?_⟩;have hA:=ha cpos pins s1 σ H1 _ I1 q1;rw [hs] at hA ⊢;refine Calls.callWith_builtin (by show (false || (backTo cpos (starEach es X.env)).any (·.1))=false;rw [hplain] <;> rfl) (Calls.evalArgs_plain ?_);exact thn hA λus s2 ⟨vs,H2,I2,r2,q2⟩=>hm pins s2 σ H2 x vs v us Q I2 r1 r2 q2
/- xs.append(e),list.index on a module's tuple .. are MtR facts of 06m -/
end
def MtM (X:Cx) (id:String) (r:V->Jt->Hp->VK->Prop):Prop :=
 ∀ (pins:Ji) (s:Sh) (σ:St) (H:Hp) (x:V) (xs:Jt) (v:Vl) (us:Jj) (Q:VK),Inv X pins σ H s->RelV x v->Vals xs us->r x xs H Q ->
  wpAny (model X.prog X.w) X.A (call (.builtin id) (v::us)) (EP X pins σ Q) X.xe s
theorem Vals.one:∀ {x:V} {us:Jj},Vals [x] us->∃ u,us=[u]/\RelV x u
 | _,_,.cons r .nil=>⟨_,rfl,r⟩
theorem Vals.zero:∀ {us:Jj},Vals [] us->us=[]
 | _,.nil=>rfl
def Vals.reverse {xs:Jt} {us:Jj} (h:Vals xs us):Vals xs.reverse us.reverse:=by
 induction h with
 | nil=>exact .nil
 | cons r t ih=>rw [List.reverse_cons,List.reverse_cons];exact Vals.append ih (.cons r .nil)
section
variable {X:Cx} {pins:Ji} {σ:St} {H:Hp} {s:Sh} {l b:Ad} {xs ys zs:Jt}
def Inv.lset {its its':Jj} {n:Nat} {f:Array Vl->Array Vl} {t':Nat} (I:Inv X pins σ H s) (hH:H l=some (.lst xs))
  (e:s.heap.get? l=some { cls:=.type "list",data:=.seq its.toArray n }) (hf:f its.toArray=its'.toArray) (hv:Vals ys its') (hz:ys.length<=sizeLine) :
  Inv X pins σ (upd H l (.lst ys)) { s with heap:=s.heap.update l (Obj.mapSeq f),toks:=t' }:=by
 have q:=PySem.IsL.update e f;rw [hf] at q;refine I.write (x:=l) (e:=l) (by rw [hH];exact trivial) (.inl rfl) (λb' u hb hu=>(Heap.get?_update_other s.heap (Obj.mapSeq f) (Ne.symm hb)).trans hu) ⟨_,q⟩ ?_;exact ⟨hz,its',_,hv,q⟩
def Inv.lnew {its:Jj} {t':Nat} (I:Inv X pins σ H s) (hv:Vals ys its) (hz:ys.length<=sizeLine) :
  Inv X pins σ (upd H s.heap.objs.size (.lst ys)) { s with heap:=s.heap.push { cls:=.type "list",data:=.seq its.toArray },toks:=t' } :=
 I.laid (λ_ _ q=>Heap.get?_push_of_some _ q) (Nat.le_refl _) ⟨hz,its,0,hv,Heap.get?_push_size _ rfl⟩
def Inv.fresh (I:Inv X pins σ H s):H s.heap.objs.size=none:=I.hok.fresh (Nat.le_refl _)
def Inv.lstM (I:Inv X pins σ H s) (hH:H l=some (.lst xs)):xs.length<=sizeLine/\∃ (its:Jj) (n:Nat),Vals xs its/\xs.length=its.length/\s.heap.get? l=some { cls:=.type "list",data:=.seq its.toArray n }:=by
 obtain ⟨z,its,n,r,e⟩:=I.hok l _ hH;exact ⟨z,its,n,r,r.length,e⟩
def notLongL {n:Nat} (h:n<=sizeLine):Builtin.List.listTooLong n=false:=by
 unfold Builtin.List.listTooLong;exact decide_eq_false (by omega)
end
section
variable {X:Cx}
inductive rAppend (x:V) (vs:Jt) (H:Hp) (Q:VK):Prop
 | mk (l xs y:_) (_:x=.ref l) (_:vs=[y]) (_:H l=some (.lst xs)) (_:xs.length<sizeLine) (_:Q .non (upd H l (.lst (xs++[y]))))
def zW:MtM X "list.append" rAppend:=by
 intro pins s σ H x vs v us Q I rx rv h;obtain ⟨l,xs,y,rfl,rfl,hH,hz,q⟩:=h;cases rx;obtain ⟨u,rfl,ru⟩:=rv.one;obtain ⟨z,its,n,r,hl,e⟩:=I.lstM hH;refine call_meets F.slot_list_append ⟨_,e,rfl⟩ F.entry_list_append (F.args_list_append_2 _ _) (PySem.list_append l its.toArray n u (by rw [List.size_toArray];omega)) ⟨e,?_⟩;refine ⟨.non,_,I.lset (its':=its++[u]) hH e (by simp) (r.append (.cons ru .nil)) ?_,rfl,q⟩;rw [Jp,List.length_singleton];omega
inductive rExtend (x:V) (vs:Jt) (H:Hp) (Q:VK):Prop
 | mk (l b:_) (xs zs:_) (_:x=.ref l) (_:vs=[.ref b]) (_:H l=some (.lst xs)) (_:H b=some (.lst zs)) (_:xs.length+zs.length<=sizeLine) (_:Q .non (upd H l (.lst (xs++zs))))
def Xu:MtM X "list.extend" rExtend:=by
 intro pins s σ H x vs v us Q I rx rv h;obtain ⟨l,b,xs,zs,rfl,rfl,hH,hB,hz,q⟩:=h;cases rx;obtain ⟨u,rfl,ru⟩:=rv.one;cases ru;obtain ⟨z,its,n,r,hl,e⟩:=I.lstM hH;obtain ⟨z2,its2,n2,r2,hl2,e2⟩:=I.lstM hB;have hsz:its.toArray.size+its2.toArray.size<=sizeLine:=by rw [List.size_toArray,List.size_toArray];omega
 have hlong:¬ (!its.toArray.isEmpty && Builtin.List.listTooLong (its.toArray.size+its2.toArray.size))=true:=by
  rw [notLongL hsz,Bool.and_false];exact q1z
 refine call_meets F.slot_list_extend ⟨_,e,rfl⟩ F.entry_list_extend (F.args_list_extend_2 _ _)
  (AutoSeq1.list_extend_list_list_0 l its.toArray n b its2.toArray n2 hlong (by rw [List.size_toArray];omega) (by omega)) ⟨e,e2,?_⟩
 refine ⟨.non,_,I.lset (its':=its++its2) hH e (by simp) (r.append r2) ?_,rfl,q⟩;rw [Jp];omega
inductive rReverse (x:V) (vs:Jt) (H:Hp) (Q:VK):Prop
 | mk (l xs:_) (_:x=.ref l) (_:vs=[]) (_:H l=some (.lst xs)) (_:Q .non (upd H l (.lst xs.reverse)))
def zb3:MtM X "list.reverse" rReverse:=by
 intro pins s σ H x vs v us Q I rx rv h;obtain ⟨l,xs,rfl,rfl,hH,q⟩:=h;cases rx;have hus:=rv.zero;subst hus;obtain ⟨z,its,n,r,hl,e⟩:=I.lstM hH;refine call_meets F.slot_list_reverse ⟨_,e,rfl⟩ F.entry_list_reverse (F.args_list_reverse_1 _) (AutoSeq1.list_reverse_list_0 l its.toArray n (by rw [List.size_toArray];omega)) ⟨e,?_⟩;refine ⟨.non,_,I.lset (its':=its.reverse) hH e (by simp) r.reverse ?_,rfl,q⟩;rw [List.length_reverse];omega
inductive rCat (x y:V) (H:Hp) (Q:VK):Prop
 | mk (l b:_) (xs zs:_) (_:x=.ref l) (_:y=.ref b) (_:H l=some (.lst xs)) (_:H b=some (.lst zs)) (_:xs.length+zs.length<=sizeLine) (_:∀ p,H p=none->Q (.ref p) (upd H p (.lst (xs++zs))))
def Zy:OpR X (binaryOp .Add) rCat:=by
 intro pins s σ H x y v u Q I rx ry h;obtain ⟨l,b,xs,zs,rfl,rfl,hH,hB,hz,q⟩:=h;cases rx;cases ry;obtain ⟨z,its,n,r,hl,e⟩:=I.lstM hH;obtain ⟨z2,its2,n2,r2,hl2,e2⟩:=I.lstM hB;refine PySem.P.add_list e e2 ?_ (by rw [List.size_toArray,List.size_toArray];omega);have ea:its.toArray++its2.toArray=(its++its2).toArray:=by simp
 rw [ea];exact ⟨.ref _,_,I.lnew (t':=s.toks) (r.append r2) (by rw [Jp];omega),rfl,q _ I.fresh⟩
end
section
variable {prog:Program} {w:World} {A:Around} {E:Jg} {s:Sh}
set_option maxRecDepth 100000 in
end
section
variable {X:Cx}
end
end L2
namespace Att
open PySem PySem.W PySem.Calls PyProof.Rows
def Yt {P:Params} {h:Heap}:∀ (ns:Jh) (vs:Jj),WellAll P h vs (ns.map WData.int)->IntsAre vs ns:=by
 intro ns
 induction ns with
 | nil =>
  intro vs w;rw [List.map_nil] at w;cases w;exact .nil
 | cons n ns ih =>
  intro vs w;rw [List.map_cons] at w
  cases w with
  | cons a b =>
   cases a;exact .cons _ _ (ih _ b)
def script_of {l:OpenLaw} {n:Nat} (hn:l.most=some n) {P:Params} {h:Heap} {args:List WData} {vals:Jj}
  (hpre:l.row.toRowW.claim.pre args=true) (hwl:WellAll P h vals args) :
  ∃ a vs ns,vals=[Value.ref a]/\args=[WData.list (ns.map WData.int)]/\h.get? a=some { cls:=.type "list",data:=.seq vs.toArray }/\IntsAre vs ns/\ns.length<=n:=by
 have hsh:WShape.hasAll [] args [.list .int]=true:=(pre_splitW hpre).1;have hc:l.pre.holds [] { args:=args }=true:=(pre_splitW hpre).2;obtain ⟨d,r,rfl,h1,h2⟩:=hasAllW_cons hsh;obtain rfl:=hasAllW_nil h2;obtain ⟨xs,rfl,h3⟩:=hasW_list h1;obtain ⟨ns,rfl⟩:=items_int h3
 have hlen:ns.length<=n:=by
  unfold OpenLaw.pre at hc
  have h4:(WTm.not (.lt (.lit (.int (n:Int))) (.len (.arg 0)))).holds [] { args:=[.list (ns.map .int)] }=true:=by
   have h4:=(holds_andW hc).1;rw [hn] at h4;exact h4
  have h5:=condW_of h4 (w_not (w_lt w_lit (w_len_list (w_arg rfl))));rw [Jo] at h5;refine Nat.le_of_not_lt λq=>?_;have q':(n:Int)<((ns.length:Nat):Int):=by omega
  first
   | (rw [decide_eq_true q'] at h5;exact absurd h5 (by decide))
   | (simp at h5;omega)
 cases hwl with
 | cons w1 w2 =>
  cases w2
  cases w1 with
  | list ho hall=>exact ⟨_,_,ns,rfl,rfl,ho,Yt ns _ hall,hlen⟩
def post_true (l:OpenLaw) (args:List WData):l.row.toRowW.claim.post args (.bool true) args=true :=
 postW_of (r:=l.row.toRowW) (X:=(true == true))
  (show WShape.has [] (.bool true) .bool=true by first | rfl | decide | simp [WShape.has,WShape.arms,WShape.armsAll])
  (show (WTm.eq .res (.lit (.bool true))).value [] { args:=args,res:=some (.bool true),after:=args }=some (.bool (true == true)) from w_eq_bool (w_res rfl) w_lit) rfl
def attach_call {l:OpenLaw} {n:Nat} {q:Program} {loose:Jl} {XP:(J0)->Heap->Prop} {YP:World->Heap->Prop} {d:DefRec}
  (hn:l.most=some n) (hdf:d.params.defaults=[])
  (call:∀ (w:World) (s₀ s₁:Sh) (mg mb:J0) (fa:Ad) (o:Obj) (pm cd doc:Vl) (a:Ad) (vs:Jj) (ns:Jh),
   Ground q loose [] XP w s₀ mg mb s₁.heap->YP w s₁.heap ->
   s₁.heap.get? fa=some o->o.data=.func (docDef d.name d.params d.body d.scope pm cd doc)->s₁.heap.CodeRec cd d.name->mg d.name=some (.ref fa) ->
   s₁.heap.get? a=some { cls:=.type "list",data:=.seq vs.toArray }->IntsAre vs ns->ns.length<=n->s₁.gens=#[] ->
   codeAny (model l.prog w) callerA (.call (.ref fa) ⟨[.ref a],[]⟩) (λr s'=>r=.ok (.ret (.bool true))/\OldK s₁.heap s'.heap/\s'.os=s₁.os/\AllBare s'.gens) s₁) :
  WalkO q loose XP YP l.row.toRowW d [] (λf vs=>PySem.call f vs):=by
 intro w s₀ s₁ mg mb G Y fa o pm cd doc dV kV ho hd hcd hD hmg hg args vals as hpre hlay hrd hwl hlo;obtain rfl:dV=.none:=Dflts.none hD hdf;obtain rfl:kV=.none:=Dflts.noKw hD;obtain ⟨a,vs,ns,rfl,rfl,hobj,hints,hlen⟩:=script_of hn hpre hwl;refine enter_call (codeAny_mono (call w s₀ s₁ mg mb fa o pm cd doc a vs ns G Y ho (fd_plain hd) hcd hmg hobj hints hlen hg) λr s' hq=>?_);obtain ⟨rfl,h2,h3,h4⟩:=hq;exact ⟨.inl ⟨.bool true,.bool true,[],rfl,λ_=>rfl,.bool true,post_true l _,λ_=>⟨List.Pairwise.nil,λ_ hm=>(nomatch hm)⟩⟩,h2,h3,h4⟩
section
variable {prog:Program} {w:World} {A:Around} {E:Jg} {s:Sh} {K:Frag}
def ledger (h:Heap) (L d:Ad):Ji:=(List.range h.objs.size).filterMap λa=>if a=L∨a=d then none else (h.get? a).map λo=>(a,o)
end
end Att
namespace L2
open PySem PySem.Spec PyProof.Rows
theorem Xo:∀ {vs:Jj} {ns:Jh},IntsAre vs ns->Vals (ns.map V.int) vs
 | _,_,.nil=>.nil
 | _,_,.cons n t h=>.cons ⟨t,rfl⟩ (Xo h)
def Only (H:Hp):Prop:=∀ b,H b=none∨∃ o xs,H b=some (.frz o (.lst xs))
def law_call {P:Program} {w:World} {K:Fg} {mg mb:J0} {CX:CXT} {k:Nat} {fa a:Ad} {fd:FuncData} {x:Str} {sp:Sp} {s₁:Sh} {vs:Jj} {ns:Jh}
  (KX:K.In s₁.heap) (hns:s₁.heap.Ns mainGlobals mg) (hb:s₁.heap.Ns builtinsNs mb) (hbb:∀ x:Str,x≠"__name__"->mb x=bootBuiltins x) (hlim:s₁.heap.NoLimit) (hg:s₁.gens=#[])
  (ha:s₁.heap.get? a=some { cls:=.type "list",data:=.seq vs.toArray }) (hi:IntsAre vs ns) (hl:ns.length<=sizeLine) (hr:Room k callerA)
  (F:∀ base:Heap,K.In base->base.Ns mainGlobals mg->FnOk P w K mg base CX k fa fd [x] sp) (hbind:∀ (s:Sh) (u:Vl),BindsTo s fd ⟨[u],[]⟩ [(x,u)])
  (hsp:∀ H:Hp,Only H->SqL K H a (ns.map V.int)->sp [.ref a] H (λv _=>v=.bl true) λ_ _ _=>False)
  (hCX:∀ H e s',CX [] H s₁ (λ_ _ _=>False) e s'->False) :
  codeAny (model P w) callerA (.call (.ref fa) ⟨[.ref a],[]⟩) (λr s'=>r=.ok (.ret (.bool true))/\OldK s₁.heap s'.heap/\s'.os=s₁.os/\AllBare s'.gens) s₁:=by
 have rv:=Xo hi;have lenV:=hi.length
 have core:∀ H:Hp,Only H->SqL K H a (ns.map V.int)->HOk P w H s₁.heap->(∀ b,H b≠none->b=a)->(H a≠none->K.lookup a=none) ->
   codeAny (model P w) callerA (.call (.ref fa) ⟨[.ref a],[]⟩) (λr s'=>r=.ok (.ret (.bool true))/\OldK s₁.heap s'.heap/\s'.os=s₁.os/\AllBare s'.gens) s₁:=by
  intro H hO hS hok hA hK;have base_of:∀ {b:Ad} {o:Obj},s₁.heap.get? b=some o->H b=none->(hidT s₁.heap H).get? b=some o:=λe n=>hidT_get e n
  have noA:∀ {b:Ad} {o:Obj} {es:Array DictEntry} {ep:Nat},s₁.heap.get? b=some o->o.data=.dict es ep->H b=none:=λ{b o es ep} e d=>by
   cases q:H b with
   | none=>rfl
   | some u =>
    have e':b=a:=hA b (by rw [q];simp);subst e';rw [ha] at e;cases e;have d':Data.seq vs.toArray _=Data.dict es ep:=d;cases d'
  have nsK:∀ {b:Ad} {m:J0},s₁.heap.Ns b m->(hidT s₁.heap H).Ns b m:=λ{b m} ⟨o,es,ep,e,d,r⟩=>⟨o,es,ep,base_of e (noA e d),d,r⟩
  have hKb:K.In (hidT s₁.heap H):=λb o e=>base_of (KX b o e) (by
   cases q:H b with
   | none=>rfl
   | some u =>
    have e':b=a:=hA b (by rw [q];simp);subst e';rw [hK (by rw [q];simp)] at e;cases e)
  have hM:Mod K mg (hidT s₁.heap H):=⟨hKb,nsK hns,⟨mb,nsK hb,hbb⟩,let ⟨mc,h1,h2⟩:=hlim;⟨mc,nsK h1,h2⟩⟩;have e0:Env0 P w K mg (hidT s₁.heap H) callerA [] s₁ H:=⟨rfl,hM,λb o e=>of_hidT e,Nat.le_of_eq (hidT_size _ _),trivial,λb hb=>absurd (show b∈([]:Jm) from hb) (by simp),hok,.of_eq hg⟩;refine codeAny_mono ((F _ hKb (nsK hns)).run callerA [] s₁ H ⟨[.ref a],[]⟩ [.ref a] [.ref a] _ _ hr e0 (hbind s₁ (.ref a)) (.cons rfl .nil) (hsp H hO hS)) λr s' h=>?_
  cases r with
  | error e=>exact (hCX H e s' h).elim
  | ok fl =>
   cases fl with
   | next=>exact False.elim h
   | brk=>exact False.elim h
   | cont=>exact False.elim h
   | ret u =>
    obtain ⟨v,H',os,bare,un,hok',r',q⟩:=h;have q':v=.bl true:=q;subst q';obtain rfl:u=Value.bool true:=r';refine ⟨rfl,OldK.of_keep λb o e=>?_,os,bare⟩
    cases q:H b with
    | none=>exact un.keep b o e q (by intro z;exact absurd (show b∈([]:Jm) from z) (by simp)) (by simp)
    | some u =>
     rcases hO b with z | ⟨ob,xs,z⟩
     ·rw [q] at z;cases z
     ·have z2:=un.frzs b ob _ z
      obtain ⟨e1,_⟩:=hok b _ z;obtain ⟨e2,_⟩:=hok' b _ z2;rw [e] at e1;cases e1;exact e2
 cases hk:K.lookup a with
 | some o =>
  have e:=KX a o hk;rw [ha] at e;cases e;refine core (λ_=>none) (λ_=>.inl rfl) (.inr ⟨_,vs.toArray,_,hk,rfl,rfl,rfl,by rw [List.size_toArray,lenV];exact hl,by simpa using rv⟩) (λb u z=>by have z':(none:Option HO)=some u:=z;cases z') (λb z=>absurd rfl z) λz=>absurd rfl z
 | none =>
  refine core (λb=>if b=a then some (.frz { cls:=.type "list",data:=.seq vs.toArray } (.lst (ns.map V.int))) else none) (λb=>?_) (.inl (.inr ⟨{ cls:=.type "list",data:=.seq vs.toArray },if_pos rfl⟩)) (λb u z=>?_) (λb z=>?_) λ_=>hk
  ·by_cases hb:b=a
   ·exact .inr ⟨_,_,if_pos hb⟩
   ·exact .inl (if_neg hb)
  ·by_cases hb:b=a
   ·have z':=(if_pos hb).symm.trans z
    cases z';subst hb;exact ⟨ha,by rw [Jo];exact hl,vs,_,rv,ha⟩
   ·have z':=(if_neg hb).symm.trans z
    cases z'
  ·by_cases hb:b=a
   ·exact hb
   ·exact absurd (if_neg hb) z
def walk_of {l:PySem.W.OpenLaw} {n k:Nat} {q:Program} {loose:Jl} {XP:(J0)->Heap->Prop} {YP:World->Heap->Prop} {d:DefRec} {K:Params->Fg} {CX:World->CXT} {sp:World->Sp} {x:Str}
  (hn:l.most=some n) (hn2:n<=sizeLine) (hdf:d.params.defaults=[]) (hr:Room k callerA)
  (hY:∀ (w:World) (h:Heap),YP w h->(K w.params).In h)
  (F:∀ (w:World) (mg:J0) (fa:Ad) (h:Heap),(K w.params).In h->h.Ns mainGlobals mg->mg d.name=some (.ref fa) ->
   ∃ fd:FuncData,(∀ (s:Sh) (u:Vl),BindsTo s fd ⟨[u],[]⟩ [(x,u)]) /\
    ∀ base:Heap,(K w.params).In base->base.Ns mainGlobals mg->FnOk l.prog w (K w.params) mg base (CX w) k fa fd [x] (sp w))
  (hsp:∀ (w:World) (H:Hp) (a:Ad) (ns:Jh),ns.length<=n->Only H->SqL (K w.params) H a (ns.map V.int)->sp w [.ref a] H (λv _=>v=.bl true) λ_ _ _=>False)
  (hCX:∀ (w:World) (H:Hp) (s:Sh) (e:Vl) (s':Sh),CX w [] H s (λ_ _ _=>False) e s'->False) :
  PySem.W.WalkO q loose XP YP l.row.toRowW d [] (λf vs=>PySem.call f vs):=by
 refine Att.attach_call hn hdf λw s₀ s₁ mg mb fa o pm cd doc a vs ns G Y ho hd hcd hmg hobj hints hlen hg=>?_;have KX:=hY w _ Y;obtain ⟨fd,hb,hF⟩:=F w mg fa _ KX G.T.g hmg;exact law_call KX G.T.g G.T.b G.T.builtins G.T.nolimit hg hobj hints (Nat.le_trans hlen hn2) hr hF hb (λH hO hS=>hsp w H a ns hlen hO hS) λH e s'=>hCX w H s₁ e s'
end L2
/- THE LAST THEOREM (shape;LID,My.* are yours):
   My.Adr: a structure of the addresses that your layer names (classes,functions);My.Txt K t: a structure (Prop) of the equations over K;
   My.txt_mk:{K} {implicit addresses ..} (e1:nsIn K mainGlobals "law"=some (some (.ref f))) (e2:K.lookup f=some ⟨oc,od,.func (fnOf "law" "law" params body scope dV kV doc pm an cdv ct),sl⟩) (e3:codeIn K cdv "law"=true) ..:∃ t,My.Txt K t
set_option maxRecDepth 100000 in
set_option maxHeartbeats 0 in
(the tactic k_is has no namespace: write k_is) -/
namespace L2
open PySem PySem.Spec PyProof.Rows
def inClass (s:Stmt) (j:Nat):Stmt:=match s with
 | .ClassDef _ _ _ body _ _ _ _ _ _ _=>body.getD j (.Pass ⟨0,0,0,0⟩)
 | _=>.Pass ⟨0,0,0,0⟩
def yy (s:Stmt):Arguments:=match s with
 | .FunctionDef _ a _ _ _ _ _ _ _ _=>a
 | _=>{ posonlyargs:=[],args:=[],vararg:=none,kwonlyargs:=[],kw_defaults:=[],kwarg:=none,defaults:=[] }
def yf (s:Stmt):List Stmt:=match s with
 | .FunctionDef _ _ b _ _ _ _ _ _ _=>b
 | _=>[]
def zh (s:Stmt):Scope:=match s with
 | .FunctionDef _ _ _ _ _ _ sc _ _ _=>sc
 | _=>{ kind:=.function,names:=[],isGenerator:=false,isCoroutine:=false }
abbrev CX0:CXT:=λ_ _ _ _ _ _=>False
abbrev E0:XK:=λ_ _ _=>False
def zz {X:Cx}:xD CX0 X E0:=λ_ _ _ _ _ _ _ h=>h.elim
structure Fun (K:Fg) (x qual:Str) (st:Stmt) (f:Ad) (fd:FuncData):Prop where
 ex:∃ (oc:Vl) (od:Option Ad) (kV doc pm:Vl) (an:Option Ad) (cdv ct:Vl) (osl:Array (Jk)),
  fd=PySem.W.fnOf x qual (yy st) (yf st) (zh st) .none kV doc pm an cdv ct/\K.lookup f=some ⟨oc,od,.func fd,osl⟩/\PySem.W.codeIn K cdv qual=true
 kp:PySem.W.keepIn K (.ref f)=true
section
variable {P:Program} {w:World} {K:Fg} {mg:J0} {base:Heap}
def Fun.ok {x qual:Str} {st:Stmt} {f:Ad} {fd:FuncData} {N ps:Jl} {k:Nat} {sp:Sp} (F:Fun K x qual st f fd) (S:FnScope N ps (zh st)) (len:∀ vs H Q E,sp vs H Q E->vs.length=ps.length)
  (hbody:∀ (cdv:Vl) (A:Around) (outer:List Env) (s:Sh) (H:Hp) (vs:Jt) (Q:VK) (E:XK),Room k (A.deeper (envOfC qual (zh st) s.heap.objs.size f cdv))->sp vs H Q E ->
   ∃ t,PSs (yh CX0 P w K mg base N qual (zh st) f cdv A outer s H E).nox (yf st) t/\t { nx:=λ_ H'=>Q .non H',rt:=Q } (Zr N vs) H):FnOk P w K mg base CX0 (k+1) f fd ps sp:=by
 obtain ⟨oc,od,kV,doc,pm,an,cdv,ct,osl,rfl,lk,hcd⟩:=F.ex;refine fn_of lk hcd S len λA outer s H vs Q E hr hsp=>?_;obtain ⟨t,h,q⟩:=hbody cdv A outer s H vs Q E hr hsp;exact ⟨t,h.nox,q⟩
def Fun.binds {x qual:Str} {st:Stmt} {f:Ad} {fd:FuncData} {ps:Jl} (F:Fun K x qual st f fd)
  (h:∀ (kV doc pm:Vl) (an:Option Ad) (cdv ct:Vl) (us:Jj),us.length=ps.length->bindArgs (PySem.W.fnOf x qual (yy st) (yf st) (zh st) .none kV doc pm an cdv ct) ⟨us,[]⟩=pure (ps.zip us)):Binds K fd ps []:=by
 obtain ⟨oc,od,kV,doc,pm,an,cdv,ct,osl,rfl,lk,hcd⟩:=F.ex;exact .all (h kV doc pm an cdv ct)
def Xa {x qual:Str} {st:Stmt} {f:Ad} {oc:Vl} {od an:Option Ad} {osl:Array (Jk)} {kV doc pm cdv ct:Vl} (l:K.lookup f=some ⟨oc,od,.func (PySem.W.fnOf x qual (yy st) (yf st) (zh st) .none kV doc pm an cdv ct),osl⟩)
  (c:PySem.W.codeIn K cdv qual=true) (k:PySem.W.keepIn K (.ref f)=true):Fun K x qual st f (PySem.W.fnOf x qual (yy st) (yf st) (zh st) .none kV doc pm an cdv ct):=⟨⟨oc,od,kV,doc,pm,an,cdv,ct,osl,rfl,l,c⟩,k⟩
end
section
variable {X:Cx}
def pv (i:Nat) {x:Str} {pos:Pos} (hN:X.N[i]?=some x:=by rfl) (hv:Vis X.env.scope x:=by first | exact Or.inl rfl | exact Or.inr (Or.inl rfl) | exact Or.inr (Or.inr rfl)) (hd:(x == ("__debug__":Str))=false:=by decide)
  (hcd:(x == ("__classdict__":Str))=false:=by decide):PE X (.Name x pos) (tVar i):=pe_var hN hv hd hcd
end
def zy {A B:Prop} (h:B):if false=true then A else B:=by
 rw [if_neg q1z];exact h
def zC {A B:Prop} (h:A):if true=true then A else B:=by
 rw [if_pos rfl];exact h
def xN {c A B:Prop} [Decidable c] (h1:c->A) (h2:¬ c->B):if c then A else B:=by
 by_cases h:c
 ·rw [if_pos h]
  exact h1 h
 ·rw [if_neg h]
  exact h2 h
def Same (H H':Hp):Prop:=∀ b o,H b=some o->H' b=some o
def Same.refl (H:Hp):Same H H:=λ_ _ h=>h
def Same.trans {H H1 H2:Hp} (a:Same H H1) (b:Same H1 H2):Same H H2:=λc o h=>b c o (a c o h)
def Same.free {H H':Hp} (e:Same H H') {l:Ad} (h:H' l=Option.none):H l=Option.none:=by
 cases q:H l with
 | none=>rfl
 | some o =>
  rw [e l o q] at h;cases h
def ObjOk.here {P:Program} {w:World} {H:Hp} {h:Heap} {a:Ad} {o:HO} (x:ObjOk P w H h a o):∃ ob,h.get? a=some ob:=by
 cases o with
 | lst xs=>obtain ⟨_,_,_,_,e⟩:=x;exact ⟨_,e⟩
 | tup xs=>obtain ⟨_,_,_,ob,e,_⟩:=x;exact ⟨_,e⟩
 | dK kvs=>obtain ⟨_,_,_,_,ob,_,_,e,_⟩:=x;exact ⟨_,e⟩
 | dT kvs=>obtain ⟨_,_,_,_,ob,_,_,e,_⟩:=x;exact ⟨_,e⟩
 | set S n=>obtain ⟨ob,_,_,_,e,_⟩:=x;exact ⟨_,e⟩
 | ins C dx fs=>obtain ⟨_,_,_,e,_⟩:=x;exact ⟨_,e⟩
 | own y=>exact x
 | xd fs=>obtain ⟨_,⟨_,_,_,e,_⟩,_⟩:=x;exact ⟨_,e⟩
 | rng lo hi=>obtain ⟨_,_,_,e⟩:=x;exact ⟨_,e⟩
 | frz ob u=>obtain ⟨e,_⟩:=x;exact ⟨_,e⟩
 | tbl ps=>exact ⟨_,x⟩
 | met f y=>exact ⟨_,x⟩
 | ext φ=>obtain ⟨_,e,_⟩:=x;exact e
def mem_frs {env:Env} {l:List Env} {L:Ad} (hf:env.frame=some L):L∈frs (env::l):=by
 unfold frs;rw [List.filterMap_cons,hf];exact q1y
def xb {env:Env} {l:List Env} {L b:Ad} (hf:env.frame=some L) (hb:b∈frs l):b∈frs (env::l):=by
 unfold frs at *;rw [List.filterMap_cons,hf];exact q1x _ hb
theorem yE {h base base':Heap}:∀ {l:List Env},h.FunFrames base l->(∀ b∈frs l,base'.get? b=none)->h.FunFrames base' l
 | [],_,_=>trivial
 | _::_,⟨hk,⟨L,o,hf,_,ho,hd⟩,hr⟩,k=>⟨hk,⟨L,o,hf,k L (mem_frs hf),ho,hd⟩,yE hr λb hb=>k b (xb hf hb)⟩
structure Fly (base:Heap) (outer:List Env) (H:Hp) (s h:Heap) (e:Ad) (cls:Vl):Prop where
 stays:base.StaysIn h
 frames:h.FunFrames base outer
 baseE:base.get? e=none
 newE:s.get? e=none
 freeE:H e=none
 tr:∃ oe vs T oT ts,h.get? e=some oe/\oe.cls=cls/\oe.data=.fields vs/\vs[1]?=some (.ref T)/\T≠e/\h.get? T=some oT/\oT.data=.fields ts/\ts[3]?=some .none/\base.get? T=none/\s.get? T=none/\H T=none
def CXe (P:Program) (w:World) (base:Heap):CXT:=λouter H s E e s' =>
 ∃ (ea C:Ad) (H':Hp),e=.ref ea/\s'.os=s.os/\AllBare s'.gens/\Un (frs outer) [] H H' s.heap s'.heap/\HOk P w H' s'.heap/\Fly base outer H' s.heap s'.heap ea (.ref C)/\E (.ref C) none H'
section
variable {X:Cx} {pins:Ji} {σ:St} {H:Hp} {s:Sh} {e:Ad} {cls:Vl}
def lv_new {h1:Heap} {vs:Jj} {Q:Unit->Sh->Prop} {E:Jg} (I:Inv X pins σ H s) (hst:X.stack=X.env::X.outer) (hf:X.env.frame=some X.env.locals) (hex:X.ex=[])
  (hx:Heap.MadeExcOf s.heap h1 e cls vs)
  (hQ:∀ h',Un X.fs [] X.H₀ H X.s₀.heap h'->HOk X.prog X.w H h'->Fly X.base X.outer H X.s₀.heap h' e cls->Q () { s with heap:=h' }) :
  wpAny (model X.prog X.w) X.A (leaving X.env (.ref e)) Q E { s with heap:=h1 }:=by
 have hfs:=I.stack;rw [hst] at hfs;have hfr:X.A.frames=some (X.env::X.outer):=by rw [← hst];exact I.ok.frames
 have fmem:∀ b∈frs (X.env::X.outer),X.base.get? b=none/\∃ o,s.heap.get? b=some o/\∀ vs,o.data≠.fields vs:=λb hb=>hfs.mem hb;have funt:∀ b∈frs (X.env::X.outer),H b=none:=λb hb=>I.stkFree b (by rw [hst];exact hb);have bget:∀ b o,b ∉ frs (X.env::X.outer)->s.heap.get? b=some o->(PySem.W.hideAll s.heap (frs (X.env::X.outer))).get? b=some o:=λb o n q=>PySem.W.hideAll_get _ q n;have bof:∀ b o,(PySem.W.hideAll s.heap (frs (X.env::X.outer))).get? b=some o->s.heap.get? b=some o:=λb o q=>PySem.W.of_hideAll _ q;have bno:∀ b∈frs (X.env::X.outer),(PySem.W.hideAll s.heap (frs (X.env::X.outer))).get? b=none:=λb hb=>PySem.W.hideAll_none _ hb
 have none_of:∀ b,s.heap.get? b=none->(PySem.W.hideAll s.heap (frs (X.env::X.outer))).get? b=none:=λb q=>by
  cases r:(PySem.W.hideAll s.heap (frs (X.env::X.outer))).get? b with
  | none=>rfl
  | some o=>rw [bof b o r] at q;cases q
 obtain ⟨t,he,_,_⟩:=hx.there;refine wpAny_leaving_first (base:=PySem.W.hideAll s.heap (frs (X.env::X.outer))) hfr (yE (hfs.of_keeps λb o hb _=>⟨o,hx.keeps b o hb,rfl⟩) bno) hf he (λb o q=>hx.keeps b o (bof b o q)) (none_of e hx.new) rfl rfl λh' hL=>?_;obtain ⟨k1,k2,k3,k4⟩:=hL;have neL:∀ b o,X.s₀.heap.get? b=some o->b≠X.env.locals:=λb o q=>Nat.ne_of_lt (q2y (Heap.lt_size q) I.ok.above)
 have inS:∀ b,b∈frs (X.env::X.outer)->b=X.env.locals∨b∈X.fs:=λb hb=>by
  rcases List.mem_cons.mp (I.stkSub b (by rw [hst];exact hb)) with z | z
  ·exact .inl z
  ·exact .inr z
 have keep:∀ b o,b ∉ frs (X.env::X.outer)->s.heap.get? b=some o->h'.get? b=some o:=λb o n q=>k1 b o (bget b o n q)
 have slot:∀ b o,b∈frs (X.env::X.outer)->s.heap.get? b=some o->∃ sl,h'.get? b=some { o with slots:=sl }:=λb o hb q=>by
  obtain ⟨_,o',q',nf⟩:=fmem b hb;rw [q] at q';cases q';exact k4 b o (hx.keeps b o q) nf
 have there0:∀ b,s.heap.get? b=none->X.s₀.heap.get? b=none:=λb q=>by
  cases r:X.s₀.heap.get? b with
  | none=>rfl
  | some o =>
   obtain ⟨o',z⟩:=I.base.there b o r (by rw [hex];simp);rw [z] at q;cases q
 have trk:∀ b o,H b=some o->b ∉ frs (X.env::X.outer):=λb o q hb=>by rw [funt b hb] at q;cases q
 refine hQ h' ⟨λb o q n hb _=>?_,λb o q n hb _=>?_,λb o q n _=>I.base.free b o q n (by rw [hex];simp),λb o q _=>?_,I.base.tups,I.base.frzs,I.base.tbls⟩ (λb o q=>?_) ⟨λb o q=>?_,?_,?_,there0 e hx.new,?_,?_⟩
 ·refine keep b o (λz=>?_) (I.base.keep b o q n hb (by rw [hex];simp))
  rcases inS b z with z | z
  ·exact neL b o q z
  ·exact hb z
 ·obtain ⟨sl,q1⟩:=I.base.slot b o q n hb (by rw [hex];simp)
  obtain ⟨sl',q2⟩:=slot b _ (xb hf hb) q1;exact ⟨sl',q2⟩
 ·obtain ⟨o',q1⟩:=I.base.there b o q (by rw [hex];simp)
  by_cases hb:b∈frs (X.env::X.outer)
  ·obtain ⟨sl,q2⟩:=slot b o' hb q1
   exact ⟨_,q2⟩
  ·exact ⟨_,keep b o' hb q1⟩
 ·exact (I.hok b o q).stay (λc u hc r=>keep c u (by
   rcases hc with rfl | hc
   ·exact trk _ _ q
   ·exact trk _ _ hc) r) (λ_ z=>z) λ_ _ z=>z
 ·refine keep b o (λz=>?_) (I.bk b o q)
  rw [(fmem b z).1] at q;cases q
 ·obtain ⟨_,_,k2⟩:=yE k2 (base':=X.base) λb hb=>(fmem b hb).1
  exact k2
 ·cases r:X.base.get? e with
  | none=>rfl
  | some o=>have:=I.bk e o r;rw [hx.new] at this;cases this
 ·cases r:H e with
  | none=>rfl
  | some o=>obtain ⟨ob,z⟩:=(I.hok e o r).here;rw [hx.new] at z;cases z
 ·obtain ⟨oe,ws,T,oT,ts,t1,t2,t3,t4,t5,t6,t7,t8,t9⟩:=k3
  have tf:T ∉ frs (X.env::X.outer):=λz=>by
   obtain ⟨_,o',q',nf⟩:=k2.mem z;rw [t7] at q';cases q';exact nf ts t8
  have tn:s.heap.get? T=none:=by
   cases r:s.heap.get? T with
   | none=>rfl
   | some o=>rw [bget T o tf r] at t5;cases t5
  refine ⟨oe,ws,T,oT,ts,t1,t2,t3,t4,t6,t7,t8,t9,?_,there0 T tn,?_⟩
  ·cases r:X.base.get? T with
   | none=>rfl
   | some o=>have:=I.bk T o r;rw [tn] at this;cases this
  ·cases r:H T with
   | none=>rfl
   | some o=>obtain ⟨ob,z⟩:=(I.hok T o r).here;rw [tn] at z;cases z
end
section
variable {X:Cx} {pins:Ji} {σ:St} {H H':Hp} {s s':Sh} {e:Ad} {cls:Vl}
def lv_on {Q:Unit->Sh->Prop} {E:Jg} (I:Inv X pins σ H s) (hst:X.stack=X.env::X.outer) (hf:X.env.frame=some X.env.locals) (hex:X.ex=[])
  (u:Un (frs X.stack) [] H H' s.heap s'.heap) (hok:HOk X.prog X.w H' s'.heap) (fl:Fly X.base X.stack H' s.heap s'.heap e cls)
  (hQ:∀ h',Un X.fs [] X.H₀ H' X.s₀.heap h'->HOk X.prog X.w H' h'->Fly X.base X.outer H' X.s₀.heap h' e cls->Q () { s' with heap:=h' }) :
  wpAny (model X.prog X.w) X.A (leaving X.env (.ref e)) Q E s':=by
 obtain ⟨y1,y2,y3,y4,y5,oe,ws,T,oT,ts,t1,t2,t3,t4,t6,t7,t8,t9,t10,t11,t12⟩:=fl;rw [hst] at y2 u;have hfs:=I.stack;rw [hst] at hfs;have hfr:X.A.frames=some (X.env::X.outer):=by rw [← hst];exact I.ok.frames
 have fbase:∀ b∈frs (X.env::X.outer),X.base.get? b=none:=λb hb=>(hfs.mem hb).1;have fdat:∀ b∈frs (X.env::X.outer),∃ o,s'.heap.get? b=some o/\∀ vs,o.data≠.fields vs:=λb hb=>(y2.mem hb).2
 have funt:∀ b∈frs (X.env::X.outer),H' b=none:=λb hb=>by
  obtain ⟨_,o,ho,_⟩:=hfs.mem hb;exact u.free b o ho (I.stkFree b (by rw [hst];exact hb)) (by simp)
 have bget:∀ b o,b ∉ e::T::frs (X.env::X.outer)->s'.heap.get? b=some o->(PySem.W.hideAll s'.heap (e::T::frs (X.env::X.outer))).get? b=some o:=λb o n q=>PySem.W.hideAll_get _ q n;have bof:∀ b o,(PySem.W.hideAll s'.heap (e::T::frs (X.env::X.outer))).get? b=some o->s'.heap.get? b=some o:=λb o q=>PySem.W.of_hideAll _ q;have bno:∀ b∈e::T::frs (X.env::X.outer),(PySem.W.hideAll s'.heap (e::T::frs (X.env::X.outer))).get? b=none:=λb hb=>PySem.W.hideAll_none _ hb;refine wpAny_leaving_next (base:=PySem.W.hideAll s'.heap (e::T::frs (X.env::X.outer))) (cls:=cls) hfr (yE y2 λb hb=>bno b (by simp [hb])) hf
  ⟨oe,ws,T,oT,ts,t1,t2,t3,t4,bno T (by simp),t6,t7,t8,t9⟩ (λb o q=>bof b o q) (bno e (by simp)) λh' hL=>?_
 obtain ⟨k1,k2,k3,k4⟩:=hL;have neL:∀ b o,X.s₀.heap.get? b=some o->b≠X.env.locals:=λb o q=>Nat.ne_of_lt (q2y (Heap.lt_size q) I.ok.above)
 have inS:∀ b,b∈frs (X.env::X.outer)->b=X.env.locals∨b∈X.fs:=λb hb=>by
  rcases List.mem_cons.mp (I.stkSub b (by rw [hst];exact hb)) with z | z
  ·exact .inl z
  ·exact .inr z
 have keep:∀ b o,b ∉ frs (X.env::X.outer)->b≠e->b≠T->s'.heap.get? b=some o->h'.get? b=some o:=λb o n n1 n2 q=>k1 b o (bget b o (by simp [n,n1,n2]) q)
 have slot:∀ b o,b∈frs (X.env::X.outer)->s'.heap.get? b=some o->∃ sl,h'.get? b=some { o with slots:=sl }:=λb o hb q=>by
  obtain ⟨o',q',nf⟩:=fdat b hb;rw [q] at q';cases q';exact k4 b o q nf
 have old:∀ b o,s.heap.get? b=some o->b≠e/\b≠T:=λb o q=>⟨λz=>(by rw [z,y4] at q;cases q),λz=>(by rw [z,t11] at q;cases q)⟩
 have there0:∀ b,s.heap.get? b=none->X.s₀.heap.get? b=none:=λb q=>by
  cases r:X.s₀.heap.get? b with
  | none=>rfl
  | some o =>
   obtain ⟨o',z⟩:=I.base.there b o r (by rw [hex];simp);rw [z] at q;cases q
 have trk:∀ b o,H' b=some o->b ∉ frs (X.env::X.outer)/\b≠e/\b≠T:=λb o q=>⟨λhb=>(by rw [funt b hb] at q;cases q),λz=>(by rw [z,y5] at q;cases q),λz=>(by rw [z,t12] at q;cases q)⟩;refine hQ h' ⟨λb o q n hb _=>?_,λb o q n hb _=>?_,λb o q n _=>?_,λb o q _=>?_,λb xs q=>u.tups b xs (I.base.tups b xs q),λb o x q=>u.frzs b o x (I.base.frzs b o x q),λb ps q=>?_⟩ (λb o q=>?_) ⟨λb o q=>?_,?_,y3,there0 e y4,y5,?_⟩
 ·have q1:=I.base.keep b o q n hb (by rw [hex];simp)
  have n1:=I.base.free b o q n (by rw [hex];simp)
  have nf:b ∉ frs (X.env::X.outer):=λz=>by
   rcases inS b z with z | z
   ·exact neL b o q z
   ·exact hb z
  exact keep b o nf (old b o q1).1 (old b o q1).2 (u.keep b o q1 n1 nf (by simp))
 ·obtain ⟨sl,q1⟩:=I.base.slot b o q n hb (by rw [hex];simp)
  have n1:=I.base.free b o q n (by rw [hex];simp);obtain ⟨sl2,q2⟩:=u.slot b _ q1 n1 (xb hf hb) (by simp);obtain ⟨sl',q3⟩:=slot b _ (xb hf hb) q2;exact ⟨sl',q3⟩
 ·obtain ⟨o',q1⟩:=I.base.there b o q (by rw [hex];simp)
  exact u.free b o' q1 (I.base.free b o q n (by rw [hex];simp)) (by simp)
 ·obtain ⟨o',q1⟩:=I.base.there b o q (by rw [hex];simp)
  obtain ⟨o2,q2⟩:=u.there b o' q1 (by simp);by_cases hb:b∈frs (X.env::X.outer)
  ·obtain ⟨sl,q3⟩:=slot b o2 hb q2
   exact ⟨_,q3⟩
  ·exact ⟨_,keep b o2 hb (old b o' q1).1 (old b o' q1).2 q2⟩
 ·obtain ⟨m1,e1⟩:=I.base.tbls b ps q
  obtain ⟨m2,e2⟩:=u.tbls b _ e1;exact ⟨m1++m2,by rw [e2,Array.append_assoc]⟩
 ·exact (hok b o q).stay (λc v hc r=>by
   have z:c ∉ frs (X.env::X.outer)/\c≠e/\c≠T:=by
    rcases hc with rfl | hc
    ·exact trk _ _ q
    ·exact trk _ _ hc
   exact keep c v z.1 z.2.1 z.2.2 r) (λ_ z=>z) λ_ _ z=>z
 ·refine keep b o (λz=>by rw [fbase b z] at q;cases q) (λz=>by rw [z,y3] at q;cases q) (λz=>by rw [z,t10] at q;cases q) (y1 b o q)
 ·obtain ⟨_,_,k2⟩:=yE k2 (base':=X.base) λb hb=>fbase b hb
  exact k2
 ·obtain ⟨oe',ws',T',oT',ts',r1,r2,r3,r4,r5,r6,r7,r8,r9⟩:=k3
  by_cases hT:T'=T
  ·subst hT
   exact ⟨oe',ws',T',oT',ts',r1,r2,r3,r4,r6,r7,r8,r9,t10,there0 T' t11,t12⟩
  ·have tf:T' ∉ frs (X.env::X.outer):=λz=>by
    obtain ⟨_,o',q',nf⟩:=k2.mem z;rw [r7] at q';cases q';exact nf ts' r8
   have tn:s'.heap.get? T'=none:=by
    cases r:s'.heap.get? T' with
    | none=>rfl
    | some o=>rw [bget T' o (by simp [tf,r6,hT]) r] at r5;cases r5
   have tn0:s.heap.get? T'=none:=by
    cases r:s.heap.get? T' with
    | none=>rfl
    | some o =>
     obtain ⟨o',z⟩:=u.there T' o r (by simp);rw [tn] at z;cases z
   refine ⟨oe',ws',T',oT',ts',r1,r2,r3,r4,r6,r7,r8,r9,?_,there0 T' tn0,?_⟩
   ·cases r:X.base.get? T' with
    | none=>rfl
    | some o=>have:=y1 T' o r;rw [tn] at this;cases this
   ·cases r:H' T' with
    | none=>rfl
    | some o=>obtain ⟨ob,z⟩:=(hok T' o r).here;rw [tn] at z;cases z
end
section
variable {P:Program} {w:World} {K:Fg} {mg:J0} {base:Heap} {N:Jl} {qual:Str} {scope:Scope} {f:Ad} {cd:Vl} {A:Around} {outer:List Env} {s:Sh} {H:Hp} {E:XK}
def YZ:xD (CXe P w base) (yh (CXe P w base) P w K mg base N qual scope f cd A outer s H E) E:=by
 intro pins σ H1 s1 e s' I h;obtain ⟨ea,C,H',rfl,os,bare,un,hok,fl,q⟩:=h;exact lv_on I rfl rfl rfl un hok fl λh' u' hok' fl'=>⟨ea,C,H',rfl,os.trans I.os,bare,u',hok',fl',q⟩
def Throws (X:Cx) (E:XK):Prop:=∀ (pins:Ji) (σ:St) (H:Hp) (s:Sh) (h':Heap) (e C:Ad) (vs:Jj),Inv X pins σ H s->Heap.MadeExcOf s.heap h' e (.ref C) vs->E (.ref C) none H->X.xe (.ref e) { s with heap:=h' }
def throwE:Throws (yh (CXe P w base) P w K mg base N qual scope f cd A outer s H E) E:=by
 intro pins σ H1 s1 h1 e C vs I hx q;exact lv_new I rfl rfl rfl hx λh' u' hok' fl'=>⟨e,C,H1,rfl,I.os,I.bare,u',hok',fl',q⟩
end
end L2
namespace My
open PySem PySem.Spec PySem.Calls PySem.W PyProof.Rows PySem.Builtin PySem.Builtin.ObjectAttr PySem.Builtin.Getset_descriptor
def ClsAt (x D:Ad) (h:Heap):Prop:=∃ o,h.get? x=some o/\o.cls=.ref D
def clsAt_ty {x D:Ad} (M:Model) (h:Heap) (p:ClsAt x D h):Looks M h (typeOf (.ref x)) (.ref D):=by
 obtain ⟨o,a,b⟩:=p;exact b ▸ (Looks.ld a).andThen .now
def find_data {K:Frag} {M:Model} {h:Heap} (X:K.In h) {x D:Ad} {name:Str} {g a:Vl} (ha:findIn K (.ref D) name=some (some a)) (hn:specialIn K a "__get__"=some (some g)) (htk:takesIn K a=some true) :
  Looks M h (find (.ref x) (.ref D) name) (.bind g a) :=
 (looks_findIn X ha).andThen ((show Looks M h (getOf (some a)) (some g) from looks_specialIn X hn).andThen ((show Looks M h (dataDescriptor? (some a) (some g)) (some (g,a)) from (looks_takesIn X htk).andThen .now).andThen (Looks.tag .now)))
section
variable {prog:Program} {w:World} {A:Around} {E:Jg} {s:Sh} {K:Frag} {x D:Ad} {R:Result->Sh->Prop}
def class_of {tp:Vl} (X:K.In s.heap) (p:ClsAt x D s.heap) (hm:mroIn K D (.type "object")=some true) (h:R (.ok (.ret (.ref D))) s) :
  codeAny (model prog w) A (.call (.builtin "getset_descriptor.__get__") ⟨[.builtin "object.__class__",.ref x,tp],[]⟩) R s:=by
 obtain ⟨h0,g0,d0,t0,o0⟩:=s;have T0:=clsAt_ty (model prog w) h0 p;have T1:=looks_mroIn (M:=model prog w) X hm;refine codeAny_call_builtin KF.slot_gs.plain KF.entry_gs (KF.slot_gs.check _ _ _ _ _ _ _ _ KF.type_class (KF.args_gs _ _ _) ?_);unfold Builtin.«getset_descriptor.__get__» descrGet;rw [dga_obj];refine q0x (q0y ?_);unfold descrGetter descrCheckInstance descrNameAndClass isInstance;simp only [KF.owner_class]
 repeat lk
 refine ⟨Code.quiet_builtin _ (by decide +kernel),codeAny_builtin KF.entry_class ?_⟩;unfold Builtin.«object.__class__» shownTypeOf
 repeat lk
 exact h
def ga_check {M:Model} {Q:Unit->Sh->Prop} {nameV:Vl} {h0:Heap} {g0:Array GenState} {d0:Drawn} {t0:Nat} {o0:OsState} (T0:Looks M h0 (typeOf (.ref x)) (.ref D)) (TS:Looks M h0 (isSubtype (.ref D) (.type "BaseException")) true) (hq:Q () ⟨h0,g0,d0,t0,o0⟩) :
  wpAny M A (checkBuiltinCall "BaseException.__getattribute__" ⟨[.ref x,nameV],[]⟩) Q E ⟨h0,g0,d0,t0,o0⟩:=by
 have e1:builtinKind "BaseException.__getattribute__"=some .slot:=by decide +kernel
 have e2:splitId "BaseException.__getattribute__"=some ("BaseException","__getattribute__"):=by decide +kernel
 have e3:=F.args_bexc_ga (.ref x) nameV;simp only [checkBuiltinCall,e1,e2];refine q0x ?_;unfold isInstance
 repeat (first | lk | wp_step)
 exact hq
def ga_entry {Q:Fin->Sh->Prop} {tk:Tok} {h0:Heap} {g0:Array GenState} {d0:Drawn} {t0:Nat} {o0:OsState} (X:K.In h0) (p:ClsAt x D h0) (ha:findIn K (.ref D) "__class__"=some (some (.builtin "object.__class__")))
  (hn:specialIn K (.builtin "object.__class__") "__get__"=some (some (.builtin "getset_descriptor.__get__"))) (htk:takesIn K (.builtin "object.__class__")=some true) (hm:mroIn K D (.type "object")=some true) (hq:Q (.done (.ret (.ref D))) ⟨h0,g0,d0,t0,o0⟩) :
  wpAny (model prog w) A (Builtin.«object.__getattribute__» ⟨[.ref x,.str "__class__" tk],[]⟩) Q E ⟨h0,g0,d0,t0,o0⟩:=by
 have T0:=clsAt_ty (model prog w) h0 p;have T2:=find_data (M:=model prog w) X (x:=x) ha hn htk;unfold Builtin.«object.__getattribute__»;refine q0x (q0y ?_)
 repeat (first | (with_reducible refine q0x (T0.at ?_)) | (with_reducible refine q0x (T2.at ?_)) | wp_step)
 refine class_of (s:=⟨h0,g0,d0,t0,o0⟩) X p hm ?_
 repeat (any_goals (first | assumption | wp_step))
def zch {Q:Jk->Sh->Prop} (hg:findIn K (.ref D) "__getattribute__"=some (some (.builtin "BaseException.__getattribute__"))) (hgg:findIn K (.ref D) "__getattr__"=some none) (hsb:subIn K (.ref D) (.type "BaseException")=some true) (ha:findIn K (.ref D) "__class__"=some (some (.builtin "object.__class__")))
  (hn:specialIn K (.builtin "object.__class__") "__get__"=some (some (.builtin "getset_descriptor.__get__"))) (htk:takesIn K (.builtin "object.__class__")=some true) (hm:mroIn K D (.type "object")=some true)
  (X:K.In s.heap) (p:ClsAt x D s.heap) (h:Q (some (.ref D)) { s with toks:=s.toks+1 }):wpAny (model prog w) A (getAttr? (.ref x) "__class__") Q E s:=by
 obtain ⟨h0,g0,d0,t0,o0⟩:=s;have T0:=clsAt_ty (model prog w) h0 p;have T1:=looks_findIn (M:=model prog w) X hg;have T3:=looks_findIn (M:=model prog w) X hgg;have TS:=looks_subIn (M:=model prog w) X hsb;have f3:=F.excAttr_ValueError.ga.bind (.ref x);have hx2:(Value.builtin "BaseException.__getattribute__" == Value.builtin "object.__getattribute__")=false:=by decide +kernel
 have hx1:(onTheHeap (Value.ref D) && Value.builtin "BaseException.__getattribute__" == Value.builtin "object.__getattribute__")=false:=by rw [hx2];rfl
 unfold getAttr? getAttrBy? getAttrBy;refine q0x (wpAny_mkText (q0x (wpAny_attempt (wpAny_holding (q0x (T0.at (q0x (T1.at ?_))))))));dsimp only;rw [if_neg (by rw [hx1];exact q1z)];unfold getAttrByItsOwn hookBefore;rw [if_pos (show onTheHeap (Value.ref D)=true from rfl)];refine q0x (T3.at ?_)
 repeat (any_goals (first | assumption | wp_step | lk))
 refine codeAny_call_builtin F.excAttr_ValueError.ga.plain F.entry_bexc_ga (ga_check T0 TS (ga_entry (K:=K) X p ha hn htk hm ?_))
 repeat (any_goals (first | assumption | wp_step))
def kitx_exc (hg:findIn K (.ref D) "__getattribute__"=some (some (.builtin "BaseException.__getattribute__"))) (hgg:findIn K (.ref D) "__getattr__"=some none) (hsb:subIn K (.ref D) (.type "BaseException")=some true) (hd:hasDictIn K D=true) (ha:findIn K (.ref D) "__class__"=some (some (.builtin "object.__class__")))
  (hn:specialIn K (.builtin "object.__class__") "__get__"=some (some (.builtin "getset_descriptor.__get__"))) (htk:takesIn K (.builtin "object.__class__")=some true) (hm:mroIn K D (.type "object")=some true) :
  KitX K (.ref x) (.ref D) (ClsAt x D) where
 ty:=λM h _ p=>clsAt_ty M h p
 it:=λM h X _=>by
  obtain ⟨c,hc,_⟩:=any_some hd;unfold clsIn at hc
  split at hc
  ·rename_i u1 u2 u3 u4 ho
   intro A' Q' E' s' k q;unfold isType loadHead;exact q0x (wpAny_loadPart (k _ _ (X _ _ ho)) (q0y q))
  ·cases hc
 ne:=λh tp dd its n sl X e=>by
  obtain ⟨c,hc,_⟩:=any_some hd;refine Bool.eq_false_iff.mpr λq=>?_;obtain rfl:D=tp:=Value.ref.inj (beq_iff_eq.mp q);unfold clsIn at hc
  split at hc
  ·rename_i u1 u2 u3 u4 ho
   have z:=(X _ _ ho).symm.trans e;cases z
  ·cases hc
 ca:=λX p k=>zch hg hgg hsb ha hn htk hm X p k
end
end My
namespace L2
open PySem PySem.Spec PyProof.Rows
section
variable {X:Cx} {pins:Ji} {σ:St} {H H':Hp} {s s':Sh} {e C:Ad}
structure Mid (X:Cx) (H':Hp) (s:Heap) (s':Heap) (e C:Ad) (B:Heap) (a0:Vl) (T:Ad) (h:Heap):Prop where
 fly:Heap.FlyingW B (X.env::X.outer) e (.ref C) a0 h
 slots:s'.UpToSlots h
def mid_inv {B h:Heap} {a0:Vl} {T:Ad} (I:Inv X pins σ H s) (hst:X.stack=X.env::X.outer)
  (u:Un (frs X.stack) [] H H' s.heap s'.heap) (hok:HOk X.prog X.w H' s'.heap) (bare:AllBare s'.gens) (os:s'.os=s.os) (fl:Fly X.base X.stack H' s.heap s'.heap e (.ref C))
  (nT:s.heap.get? T=none) (fT:H' T=none) (hB:∀ b o,b ∉ e::T::frs X.stack->s'.heap.get? b=some o->B.get? b=some o) (hfl:B.StaysIn h) (hsl:s'.heap.UpToSlots h) :
  Inv X pins σ H' { s' with heap:=h }:=by
 obtain ⟨y1,y2,y3,y4,y5,_⟩:=fl;have fdat:∀ b∈frs X.stack,∃ o,s'.heap.get? b=some o/\∀ vs,o.data≠.fields vs:=λb hb=>(y2.mem hb).2;have keep:∀ b o,b ∉ frs X.stack->b≠e->b≠T->s'.heap.get? b=some o->h.get? b=some o:=λb o n n1 n2 q=>hfl b o (hB b o (by simp [n,n1,n2]) q)
 have slot:∀ b o,b∈frs X.stack->s'.heap.get? b=some o->∃ sl,h.get? b=some { o with slots:=sl }:=λb o hb q=>by
  obtain ⟨o',q',nf⟩:=fdat b hb;rw [q] at q';cases q';exact hsl b o q nf
 have old:∀ b o,s.heap.get? b=some o->b≠e/\b≠T:=λb o q=>⟨λz=>(by rw [z,y4] at q;cases q),λz=>(by rw [z,nT] at q;cases q)⟩
 have funt:∀ b∈frs X.stack,H' b=none:=λb hb=>by
  obtain ⟨_,o,ho,_⟩:=I.stack.mem hb;exact u.free b o ho (I.stkFree b hb) (by simp)
 have trk:∀ b o,H' b=some o->b ∉ frs X.stack/\b≠e/\b≠T:=λb o q=>⟨λhb=>(by rw [funt b hb] at q;cases q),λz=>(by rw [z,y5] at q;cases q),λz=>(by rw [z,fT] at q;cases q)⟩;refine I.call' (s':={ s' with heap:=h }) (ch:=[]) os ⟨λb o q n hb _=>?_,λb o q n hb _=>?_,u.free,λb o q _=>?_,u.tups,u.frzs,u.tbls⟩ (λb o q=>?_) bare (λb z=>absurd z (by simp))
 ·exact keep b o hb (old b o q).1 (old b o q).2 (u.keep b o q n hb (by simp))
 ·obtain ⟨sl,q1⟩:=u.slot b o q n hb (by simp)
  obtain ⟨sl',q2⟩:=slot b _ hb q1;exact ⟨sl',q2⟩
 ·obtain ⟨o',q1⟩:=u.there b o q (by simp)
  by_cases hb:b∈frs X.stack
  ·obtain ⟨sl,q2⟩:=slot b o' hb q1
   exact ⟨_,q2⟩
  ·exact ⟨_,keep b o' hb (old b o q).1 (old b o q).2 q1⟩
 ·exact (hok b o q).stay (λc v hc r=>by
   have z:c ∉ frs X.stack/\c≠e/\c≠T:=by
    rcases hc with rfl | hc
    ·exact trk _ _ q
    ·exact trk _ _ hc
   exact keep c v z.1 z.2.1 z.2.2 r) (λ_ z=>z) λ_ _ z=>z
def Landed (X:Cx) (pins:Ji) (σ:St) (H':Hp) (e C:Ad) (s1:Sh):Prop :=
 ∃ (H:Hp) (s s':Sh) (B:Heap) (a0:Vl) (T:Ad),Inv X pins σ H s/\Un (frs X.stack) [] H H' s.heap s'.heap/\HOk X.prog X.w H' s'.heap/\AllBare s'.gens/\s'.os=s.os/\Fly X.base X.stack H' s.heap s'.heap e (.ref C) /\
  s.heap.get? T=none/\H' T=none/\(∀ b o,b ∉ e::T::frs X.stack->s'.heap.get? b=some o->B.get? b=some o)/\Heap.FlyingW B (X.env::X.outer) e (.ref C) a0 s1.heap/\s'.heap.UpToSlots s1.heap/\s1={ s' with heap:=s1.heap }
def Landed.inv {s1:Sh} (l:Landed X pins σ H' e C s1) (hst:X.stack=X.env::X.outer):Inv X pins σ H' s1:=by
 obtain ⟨H,s,s',B,a0,T,I,u,hok,bare,os,fl,nT,fT,hB,hfl,hsl,es⟩:=l;rw [es];exact mid_inv (a0:=a0) I hst u hok bare os fl nT fT hB hfl.1 hsl
def Landed.cls {s1:Sh} (l:Landed X pins σ H' e C s1):My.ClsAt e C s1.heap:=by
 obtain ⟨H,s,s',B,a0,T,I,u,hok,bare,os,fl,nT,fT,hB,hfl,hsl,es⟩:=l;exact hfl.there
def Landed.free {s1:Sh} (l:Landed X pins σ H' e C s1):H' e=none:=by
 obtain ⟨H,s,s',B,a0,T,I,u,hok,bare,os,fl,_⟩:=l;exact fl.freeE
def Landed.again {s1:Sh} {M:Model} {A:Around} {E:Jg} {Q:Unit->Sh->Prop} (l:Landed X pins σ H' e C s1) (h:∀ s2,Landed X pins σ H' e C s2->Q () s2):wpAny M A (setFlight (.ref e) none) Q E s1:=by
 obtain ⟨H,s,s',B,a0,T,I,u,hok,bare,os,fl,nT,fT,hB,hfl,hsl,es⟩:=l;refine lands_againW hfl λh' f2 u2=>h _ ⟨H,s,s',B,a0,T,I,u,hok,bare,os,fl,nT,fT,hB,f2,hsl.trans u2,?_⟩;show ({ s1 with heap:=h' }:Sh)={ s' with heap:=h' };rw [es]
def land {E:XK} {ev:Vl} {E':Jg} {F:Sh->Prop} (I:Inv X pins σ H s) (hst:X.stack=X.env::X.outer) (hf:X.env.frame=some X.env.locals) (h:CXe X.prog X.w X.base X.stack H s E ev s')
  (k:∀ e C H' s1,ev=.ref e->E (.ref C) none H'->Landed X pins σ H' e C s1->F s1) :
  wpAny (model X.prog X.w) X.A (noteFrame ev X.env) (λ_ s2=>wpAny (model X.prog X.w) X.A (setFlight ev none) (λ_ s3=>F s3) E' s2) E' s':=by
 obtain ⟨e,C,H',rfl,os,bare,u,hok,fl,q⟩:=h;obtain ⟨y1,y2,y3,y4,y5,oe,ws,T,oT,ts,t1,t2,t3,t4,t6,t7,t8,t9,t10,t11,t12⟩:=id fl;have hfr:X.A.frames=some (X.env::X.outer):=by rw [← hst];exact I.ok.frames
 have bno:∀ b∈e::T::frs (X.env::X.outer),(PySem.W.hideAll s'.heap (e::T::frs (X.env::X.outer))).get? b=none:=λb hb=>PySem.W.hideAll_none _ hb;have bof:∀ b o,(PySem.W.hideAll s'.heap (e::T::frs (X.env::X.outer))).get? b=some o->s'.heap.get? b=some o:=λb o q=>PySem.W.of_hideAll _ q;have sz:1<ws.size:=(Array.getElem?_eq_some_iff.mp t4).1
 have fw:Heap.FlyingW (PySem.W.hideAll s'.heap (e::T::frs (X.env::X.outer))) (X.env::X.outer) e (.ref C) ws[0] s'.heap :=
  ⟨λb o q=>bof b o q,bno e (by simp),yE (hst ▸ y2) (λb hb=>bno b (by simp [hb])),oe,ws,T,oT,ts,t1,⟨t2,by simp⟩,t3,t4,bno T (by simp),t6,t7,t8,t9⟩
 refine wpAny_looks_onW hfr hf fw λh1 k1 u1=>?_;refine wpAny_landsW k1 λh2 k2 u2=>?_;refine k e C H' _ rfl q ⟨H,s,s',_,_,T,I,u,hok,bare,os,fl,t11,t12,λb o hb r=>?_,k2,u1.trans u2,rfl⟩;rw [hst] at hb;exact PySem.W.hideAll_get _ r hb
end
abbrev Cx.exc (X:Cx) (e:Ad):Cx:={ X with A:=X.A.mark (some (.ref e)),calm:=false,xe:=λ_ _=>False }
def Cx.Ok.exc {X:Cx} (ok:X.Ok) (e:Ad):(X.exc e).Ok :=
 ⟨ok.mod,ok.kind,ok.glob,ok.blt,ok.above,ok.inj,ok.has,ok.cab,(λz=>nomatch z),ok.frames,ok.stk,ok.exf,ok.bs,ok.bsz,ok.noex,ok.exfs,ok.funs,ok.frf⟩
section
variable {X:Cx} {pins:Ji} {σ:St} {H H':Hp} {s s':Sh} {e C:Ad}
def Inv.exc (I:Inv X pins σ H s) (e:Ad):Inv (X.exc e) pins σ H s:=⟨I.ok.exc e,I.os,I.bare,I.base,I.loc,I.cell,I.free,I.freeC,I.pin,I.hok,I.len⟩
def Inv.unexc (I:Inv (X.exc e) pins σ H s) (ok:X.Ok):Inv X pins σ H s:=⟨ok,I.os,I.bare,I.base,I.loc,I.cell,I.free,I.freeC,I.pin,I.hok,I.len⟩
def excO (e C:Ad):HO:=.ext (My.ClsAt e C)
def Landed.held {s1:Sh} (l:Landed X pins σ H' e C s1) (hst:X.stack=X.env::X.outer):Inv X pins σ (upd H' e (excO e C)) s1:=by
 have J:=l.inv hst;have fe:=l.free;obtain ⟨oe,he,hc⟩:=l.cls;obtain ⟨H,s,s',B,a0,T,I,u,hok,bare,os,fl,_⟩:=l;have ne:∀ b o,s.heap.get? b=some o->b≠e:=λb o q z=>by rw [z,fl.newE] at q;cases q
 have ne0:∀ b o,X.s₀.heap.get? b=some o->b ∉ X.ex->b≠e:=λb o q hx=>by
  obtain ⟨o',q1⟩:=I.base.there b o q hx;exact ne b o' q1
 have neH:∀ b o,H' b=some o->b≠e:=λb o q z=>by rw [z,fe] at q;cases q
 refine ⟨J.ok,J.os,J.bare,⟨J.base.keep,J.base.slot,λb o q n hx=>?_,J.base.there,λb xs q=>?_,λb o x q=>?_,λb ps q=>?_⟩,J.loc,J.cell,?_,λx c q=>?_,λp hp=>?_,λb o q=>?_,J.len⟩
 ·rw [zI (ne0 b o q hx)];exact J.base.free b o q n hx
 ·have z:=J.base.tups b xs q
  rw [zI (neH _ _ z)];exact z
 ·have z:=J.base.frzs b o x q
  rw [zI (neH _ _ z)];exact z
 ·obtain ⟨m,z⟩:=J.base.tbls b ps q
  exact ⟨m,by rw [zI (neH _ _ z)];exact z⟩
 ·obtain ⟨m,⟨o,_,_,ho,_⟩,_⟩:=I.loc
  rw [zI (ne _ o ho)];exact J.free
 ·obtain ⟨v,o,ho,_⟩:=I.cell x c q
  rw [zI (ne _ o ho)];exact J.freeC x c q
 ·obtain ⟨q1,q2,q3,q4,q5⟩:=J.pin p hp
  obtain ⟨r1,_⟩:=I.pin p hp;exact ⟨q1,by rw [zI (ne _ _ r1)];exact q2,q3,q4,q5⟩
 ·by_cases hb:b=e
  ·subst hb
   rw [zu] at q;cases q;refine ⟨⟨oe,he,hc⟩,⟨oe,he⟩,λh1 h2 p k=>?_⟩;obtain ⟨o1,p1,p2⟩:=p;exact ⟨o1,k o1 p1,p2⟩
  ·rw [zI hb] at q
   exact (J.hok b o q).stay (λc v _ r=>r) (λc r=>by rw [zI (neH _ _ r)];exact r) λc xs r=>by rw [zI (neH _ _ r)];exact r
def PH (X:Cx) (hs:List ExceptHandler) (th:Ad->Ad->TS):Prop :=
 ∀ (pins:Ji) (s1:Sh) (σ:St) (H':Hp) (e C:Ad) (D:Ends),Landed X pins σ H' e C s1->th e C D σ H'->wpAny (model X.prog X.w) X.A (handleBy (.ref e) X.env hs) (SP X pins D) X.xe s1
def ph_nil:PH X [] (λ_ _ _ _ _=>False):=λ_ _ _ _ _ _ _ _ h=>h.elim
def hNo (K:Fg) (B:Ad) (t:Ad->TS) (tr:Ad->Ad->TS):Ad->Ad->TS:=λe C D σ H'=>∃ b,PySem.W.exmOne K (.ref C) (.ref B)=some b /\
 if b=true then t e D σ (upd H' e (excO e C)) else tr e C D σ H'
def ph_no {x:Str} {B:Ad} {np pos:Pos} {b₀:Stmt} {suite:List Stmt} {rest:List ExceptHandler} {t:Ad->TS} {tr:Ad->Ad->TS} (hst:X.stack=X.env::X.outer) (hg:Gl X x) (hm:X.mg x=some (.ref B))
  (hs:∀ e,PSs (X.exc e) (b₀::suite) (t e)) (hr:PH X rest tr) (hd:(x == ("__debug__":Str))=false:=by decide) :
  PH X (.ExceptHandler (some (.Name x np)) none (b₀::suite) pos::rest) (hNo X.K B t tr):=by
 intro pins s1 σ H' e C D l h;obtain ⟨b,hx,h⟩:=h;have J:=l.inv hst;refine wpAny_handleBy_cons (codeAny_handlers_test (Zo (J.exc e) hg hm ?_ hd)) (λz=>nomatch z);refine PySem.W.exm_one J.kIn (My.clsAt_ty _ _ l.cls) hx _ _ _ _ (λ_ _ z=>z) ?_
 cases b with
 | false=>exact hr pins s1 σ H' e C D l (by simpa using h)
 | true =>
  rw [if_pos rfl] at h;refine codeAny_handlers_suite (l.again λs2 l2=>?_);have I2:=(l2.held hst).exc e;refine wpAny_mono (hs e pins s2 _ _ _ I2 h) (λf s4 q=>?_) λ_ _ z=>z.elim
  cases f with
  | next=>obtain ⟨σ',H2,I4,q⟩:=q;exact ⟨_,_,I4.unexc J.ok,q⟩
  | brk=>obtain ⟨σ',H2,I4,q⟩:=q;exact ⟨_,_,I4.unexc J.ok,q⟩
  | cont=>obtain ⟨σ',H2,I4,q⟩:=q;exact ⟨_,_,I4.unexc J.ok,q⟩
  | ret u=>obtain ⟨v,σ',H2,I4,r,q⟩:=q;exact ⟨v,_,_,I4.unexc J.ok,r,q⟩
end
def trX (X:Cx) (pins:Ji) (σ₀:St) (R:Ad->Hp->Prop):Jg:=λev s' =>
 ∃ (H:Hp) (s:Sh) (E:XK),Inv X pins σ₀ H s/\CXe X.prog X.w X.base X.stack H s E ev s'/\∀ C H',E (.ref C) none H'->R C H'
abbrev Cx.tr (X:Cx) (pins:Ji) (σ₀:St) (R:Ad->Hp->Prop):Cx:={ X with pn:=X.pn++pins,xe:=trX X pins σ₀ R }
def XE (R:Ad->Hp->Prop):XK:=λc _ H'=>∃ C,c=.ref C/\R C H'
section
variable {X:Cx} {pins:Ji} {σ σ₀:St} {H H':Hp} {s s':Sh} {R:Ad->Hp->Prop}
def Cx.Ok.tr (ok:X.Ok):(X.tr pins σ₀ R).Ok :=
 ⟨ok.mod,ok.kind,ok.glob,ok.blt,ok.above,ok.inj,ok.has,ok.cab,ok.hd,ok.frames,ok.stk,ok.exf,ok.bs,ok.bsz,ok.noex,ok.exfs,ok.funs,ok.frf⟩
def Inv.tr (I:Inv X pins σ H s):Inv (X.tr pins σ₀ R) [] σ H s :=
 ⟨I.ok.tr,I.os,I.bare,I.base,I.loc,I.cell,I.free,I.freeC,λp hp=>I.pin p (by simpa using hp),I.hok,I.len⟩
def Inv.untr {ps:Ji} (I:Inv (X.tr pins σ₀ R) ps σ H s) (ok:X.Ok):Inv X pins σ H s :=
 ⟨ok,I.os,I.bare,I.base,I.loc,I.cell,I.free,I.freeC,λp hp=>I.pin p (List.mem_append_left _ hp),I.hok,I.len⟩
def PS1 (X:Cx) (σ₀:St) (st:Stmt) (t:TS):Prop :=
 ∀ (pins:Ji) (s:Sh) (H:Hp) (D:Ends),Inv X pins σ₀ H s->t D σ₀ H->wpAny (model X.prog X.w) X.A (exec st X.env) (SP X pins D) X.xe s
def PE1 (X:Cx) (σ₀:St) (e:Expr) (t:TE):Prop :=
 ∀ (pins:Ji) (s:Sh) (H:Hp) (Q:VK),Inv X pins σ₀ H s->t σ₀ H Q->wpAny (model X.prog X.w) X.A (eval e X.env) (EP X pins σ₀ Q) X.xe s
def YD (CX:CXT) (X:Cx) (σ₀:St) (E:XK):Prop:=∀ (pins:Ji) (H:Hp) (s:Sh) (e:Vl) (s':Sh),Inv X pins σ₀ H s->CX X.stack H s E e s'->X.xe e s'
def pass_tr (ok:X.Ok):YD (CXe X.prog X.w X.base) (X.tr pins σ₀ R) σ₀ (XE R):=λps H s e s' I q=>⟨H,s,XE R,I.untr ok,q,λC H' ⟨C',z,r⟩=>by cases z;exact r⟩
def run_fn1 {CX:CXT} {k:Nat} {f:Ad} {fd:FuncData} {ps:Jl} {sp:Sp} {dvs:Jt} {ds:Jj} {E:XK} {Q:VK} {us:Jj} {vs:Jt} (F:FnOk X.prog X.w X.K X.mg X.base CX k f fd ps sp) (hr:Room k X.A) (hb:Binds X.K fd ps ds) (hd:Vals dvs ds) (hx:YD CX X σ₀ E)
  (I:Inv X pins σ₀ H s) (r:Vals vs us) (h:sp (vs++dvs) H Q E):wpAny (model X.prog X.w) X.A (call (.ref f) us) (EP X pins σ₀ Q) X.xe s:=by
 have r2:Vals (vs++dvs) (us++ds):=r.append hd;have hl:(us++ds).length=ps.length:=by rw [← r2.length];exact F.len _ _ _ _ h
 refine wpAny_call (codeAny_mono (F.run X.A X.stack s H ⟨us,[]⟩ (us++ds) (vs++dvs) Q E hr I.env0 (hb s us I.kIn hl) r2 h) λr s' hq=>?_)
 cases r with
 | error e=>exact hx pins H s e s' I hq
 | ok fl =>
  cases fl with
  | ret u=>exact I.after hq
  | next=>exact False.elim hq
  | brk=>exact False.elim hq
  | cont=>exact False.elim hq
def pe1_call {CX:CXT} {k:Nat} {f:Ad} {fd:FuncData} {ps:Jl} {sp:Sp} {E:XK} {x:Str} {p pos:Pos} {e:Expr} {es:Jn} {t:TA} (F:FnOk X.prog X.w X.K X.mg X.base CX k f fd ps sp) (hr:Room k X.A) (hg:Gl X x) (hm:X.mg x=some (.ref f)) (hk:PySem.W.keepIn X.K (.ref f)=true) (hb:Binds X.K fd ps []) (hx:YD CX X σ₀ E)
  (ha:PA X (e::es) t) (hdb:(x == ("__debug__":Str))=false:=by decide) (he:starEach (e::es) X.env=(false,eval e X.env)::starEach es X.env:=by rfl) (hpl:(backTo pos (starEach es X.env)).any (·.1)=false:=by rfl) :
  PE1 X σ₀ (.Call (.Name x p) (e::es) [] pos) (tCall sp [] E t):=by
 intro pins s H Q I h;refine wpAny_Call_Name_kw (Zo I hg hm ?_ hdb);refine PySem.W.callWith_K (h₀:=X.base) I.ok.mod.kin hk (thn (ha pos pins s σ₀ H _ I h) λus s1 ⟨vs,H1,I1,r,q⟩=>⟨I1.kIn,?_⟩) he hpl;exact run_fn1 F hr hb .nil hx I1 r q
structure Disp (P:Program) (w:World) (K:Fg) (mg:J0) (base:Heap) (CX:CXT) (k:Nat) (m:Str) (ps:Jl) (sp:Sp) (C:Ad):Prop where
 cl:Cls K C
 to:∃ (f:Ad) (fd:FuncData),Meth K C m f/\FnOk P w K mg base CX k f fd ps sp/\Binds K fd ps []
inductive tTry (t:(Ad->Hp->Prop)->TS) (th:Ad->Ad->TS) (D:Ends) (σ:St) (H:Hp):Prop
 | mk (R:Ad->Hp->Prop) (_:t R D σ H) (_:∀ e C H',H' e=none->R C H'->th e C D σ H')
def ps_try {st:Stmt} {h₀:ExceptHandler} {hs:List ExceptHandler} {pos:Pos} {t:(Ad->Hp->Prop)->TS} {th:Ad->Ad->TS} (hst:X.stack=X.env::X.outer) (hf:X.env.frame=some X.env.locals)
  (hb:∀ pins σ₀ R,X.Ok->PS1 (X.tr pins σ₀ R) σ₀ st (t R)) (hh:PH X (h₀::hs) th):PS X (.Try [st] (h₀::hs) [] [] pos) (tTry t th):=by
 intro pins s σ H D I h;obtain ⟨R,h,k⟩:=h;refine wpAny_Try_except (wpAny_execs_cons (wpAny_mono (hb pins σ R I.ok [] s H D I.tr h) (λf s1 q=>?_) λev s1 q=>?_))
 ·cases f with
  | next =>
   obtain ⟨σ',H2,I4,q⟩:=q;exact wpAny_execs_nil (wpAny_execs_nil ⟨_,_,I4.untr I.ok,q⟩)
  | brk=>obtain ⟨σ',H2,I4,q⟩:=q;exact ⟨_,_,I4.untr I.ok,q⟩
  | cont=>obtain ⟨σ',H2,I4,q⟩:=q;exact ⟨_,_,I4.untr I.ok,q⟩
  | ret u=>obtain ⟨v,σ',H2,I4,r,q⟩:=q;exact ⟨v,_,_,I4.untr I.ok,r,q⟩
 ·obtain ⟨H1,s0,E,I1,c,z⟩:=q
  exact land I1 hst hf c λe C H' s2 ee q l=>(by subst ee;exact hh pins s2 σ H' e C D l (k e C H' l.free (z C H' q)))
def ps_raise {x:Str} {C:Ad} {bm:Jj} {B newId initId:String} {np cpos pos:Pos} {e₀:Expr} {rest:Jn} {ta:TA} {E:XK} (O:OwnCls x C bm newId X.mg X.base) (FB:ExcBaseFacts B newId initId bm) (hc:X.calm=true) (hg:Gl X x) (ht:Throws X E) (ha:PA X (e₀::rest) ta)
  (he:starEach (e₀::rest) X.env=(false,eval e₀ X.env)::starEach rest X.env:=by rfl) (hplain:(backTo cpos (starEach rest X.env)).any (·.1)=false:=by rfl) (hd:(x == ("__debug__":Str))=false:=by decide) :
  PS X (.Raise (some (.Call (.Name x np) (e₀::rest) [] cpos)) none pos) (λ_ σ H=>ta σ H λvs H1=>vs.length<=sizeLine/\E (.ref C) none H1):=by
 intro pins s σ H D I h;obtain ⟨tl,N,nm,q,bs,hdct,sn,sub,ab,col,dd,k0,k1,k2,k3,k5,mN,hC,hN,hni,T⟩:=O.obj;refine wpAny_Raise_call_subT (C:=C) (nm:=nm) (q:=q) (N:=N) (bs:=bs) (bm:=tl) (hdct:=hdct) (sn:=sn) (sub:=sub) (ab:=ab) (col:=col) (dd:=dd) (k0:=k0) (k1:=k1) (k2:=k2) (k3:=k3) (k5:=k5)
  FB (mN:=mN) (T.hasType FB.hasBase) (I.ok.hd hc) (by rw [he];show (false || (backTo cpos (starEach rest X.env)).any (·.1))=false;rw [hplain];rfl) hni (Zo I hg O.bound ⟨rfl,?_⟩ hd)
 have h1:=ha cpos pins s σ H _ I h;rw [he] at h1 ⊢;refine Calls.evalArgs_plain (wpAny_mono h1 (λvs s2 hq=>?_) λ_ _ z=>z);obtain ⟨us,H1,I1,r,hl,q⟩:=hq;exact ⟨rfl,by rw [← r.length];exact hl,I1.bk _ _ hC,hN.keeps I1.bk,T.keeps I1.bk,λh' e m=>ht pins σ H1 s2 h' e C _ I1 m q⟩
end
def yU (w:World) (K:Fg) (a:Ad):Prop:=∃ es n,K.lookup a=some ⟨.type "dict",none,.dict es n,#[]⟩/\PySem.W.KeysLit w.params es.toList
section
variable {X:Cx} {a:Ad} {ke:Expr} {tk:TE} {p pos:Pos} {D:Str}
def top_item {pins:Ji} {σ:St} {H:Hp} {s:Sh} {x:Str} {t:Tok} {u:Vl} {A:Around} {E:Jg} {Q:Jg} (I:Inv X pins σ H s) (T:yU X.w X.K a) (e:PySem.W.nsIn X.K a x=some (some u)) (h:Q u { s with toks:=s.toks+1 }) :
  wpAny (model X.prog X.w) A (getItem (.ref a) (.str x t)) Q E s:=by
 obtain ⟨es,n,hl,hk⟩:=T;exact wpAny_getItem_of (strKind_is X.prog X.w x t) (PySem.W.mapOf_K (prog:=X.prog) I.kIn hl hk) (PySem.W.find_K hl e) h
def top_in {pins:Ji} {σ:St} {H:Hp} {s:Sh} {x:Str} {t:Tok} {r:Jk} {A:Around} {E:Jg} {Q:Jg} (I:Inv X pins σ H s) (T:yU X.w X.K a) (e:PySem.W.nsIn X.K a x=some r) (lo:(a == sysModules)=false) (h:Q (.bool r.isSome) { s with toks:=s.toks+1 }) :
  wpAny (model X.prog X.w) A (compareOp .In (.str x t) (.ref a)) Q E s:=by
 obtain ⟨es,n,hl,hk⟩:=T;exact wpAny_in_of (strKind_is X.prog X.w x t) lo (PySem.W.mapOf_K (prog:=X.prog) I.kIn hl hk) (by rw [PySem.W.find_K hl e];exact h)
inductive rTopIn (w:World) (K:Fg) (x y:V) (H:Hp) (Q:VK):Prop
 | mk (k:Str) (a:Ad) (r:Jk) (_:x=.str k) (_:y=.ref a) (_:yU w K a) (_:(a == sysModules)=false) (_:PySem.W.nsIn K a k=some r) (_:Q (.bl r.isSome) H)
def Xs:OpR X (compareOp .In) (rTopIn X.w X.K):=by
 intro pins s σ H x y v u Q I rx ry h;obtain ⟨k,a,r,rfl,rfl,T,lo,e,q⟩:=h;obtain ⟨t,rfl⟩:=(show ∃ t,v=Value.str k t from rx);cases (show u=Value.ref a from ry);exact top_in I T e lo ⟨.bl r.isSome,H,I.tok _,rfl,q⟩
inductive tCallV_S (P:Program) (w:World) (K:Fg) (mg:J0) (base:Heap) (CX:CXT) (k:Nat) (E:XK) (t:TA) (σ:St) (Q:VK) (x:V) (H1:Hp):Prop
 | mk (f:Ad) (fd:FuncData) (ps:Jl) (sp:Sp) (_:x=.ref f) (_:FnOk P w K mg base CX k f fd ps sp) (_:PySem.W.keepIn K (.ref f)=true) (_:Binds K fd ps []) (_:t σ H1 λvs H2=>sp vs H2 Q E)
def tCallV (P:Program) (w:World) (K:Fg) (mg:J0) (base:Heap) (CX:CXT) (k:Nat) (E:XK) (tf:TE) (t:TA):TE:=λσ H Q=>tf σ H λx H1=>tCallV_S P w K mg base CX k E t σ Q x H1
def pe_callV {CX:CXT} {k:Nat} {E:XK} {func e:Expr} {es:Jn} {tf:TE} {t:TA} (hf:PE X func tf) (hr:Room k X.A) (hx:xD CX X E) (ha:PA X (e::es) t)
  (he:starEach (e::es) X.env=(false,eval e X.env)::starEach es X.env:=by rfl) (hpl:(backTo pos (starEach es X.env)).any (·.1)=false:=by rfl)
  (hc:eval (.Call func (e::es) [] pos) X.env=(do callWith pos (← eval func X.env) [] (backTo pos (starEach (e::es) X.env)) (backToKw pos (keywordEach [] X.env))):=by rfl) :
  PE X (.Call func (e::es) [] pos) (tCallV X.prog X.w X.K X.mg X.base CX k E tf t):=by
 intro pins s σ H Q I h;refine Call_ (thn (hf pins s σ H _ I h) λu s1 ⟨x,H1,I1,rx,f,fd,ps,sp,ex,F,hk,hb,q⟩=>?_) hc;subst ex;obtain rfl:u=Value.ref f:=rx;refine PySem.W.callWith_K (h₀:=X.base) I.ok.mod.kin hk (thn (ha pos pins s1 σ H1 _ I1 q) λus s2 ⟨vs,H2,I2,r,q2⟩=>⟨I2.kIn,?_⟩) he hpl;exact run_fn (dvs:=[]) (ds:=[]) F hr hb .nil hx I2 r (by simpa using q2)
end
section
variable {X:Cx}
inductive rIxTop (w:World) (K:Fg) (x y:V) (H:Hp) (Q:VK):Prop
 | mk (a:Ad) (k:Str) (u:Vl) (v:V) (_:x=.ref a) (_:y=.str k) (_:yU w K a) (_:PySem.W.nsIn K a k=some (some u)) (_:RelV v u) (_:Q v H)
def ix_top:IxR X (rIxTop X.w X.K):=by
 intro value slice pins s σ H x y v u Q I rx ry h hs;obtain ⟨a,k,u',z,rfl,rfl,T,e,r,q⟩:=h;cases (show v=Value.ref a from rx);obtain ⟨t,rfl⟩:=(show ∃ t,u=Value.str k t from ry);have T':=T;obtain ⟨es,n,hl,hk⟩:=T';exact tail_any (PySem.W.mapOf_K (prog:=X.prog) I.kIn hl hk).typeIs slot_dict_getitem.lookup (top_item I T e ⟨z,H,I.tok _,r,q⟩) hs
structure ExcCls (K:Fg) (C:Ad):Prop where
 hg:PySem.W.findIn K (.ref C) "__getattribute__"=some (some (.builtin "BaseException.__getattribute__"))
 hgg:PySem.W.findIn K (.ref C) "__getattr__"=some none
 hsb:PySem.W.subIn K (.ref C) (.type "BaseException")=some true
 hd:PySem.W.hasDictIn K C=true
 ha:PySem.W.findIn K (.ref C) "__class__"=some (some (.builtin "object.__class__"))
 hn:PySem.W.specialIn K (.builtin "object.__class__") "__get__"=some (some (.builtin "getset_descriptor.__get__"))
 ht:PySem.W.takesIn K (.builtin "object.__class__")=some true
 hm:PySem.W.mroIn K C (.type "object")=some true
def TyX (K:Fg) (H:Hp) (x:V) (t:Vl):Prop:=TyOf K H x t∨∃ e C,x=.ref e/\H e=some (excO e C)/\t=.ref C/\ExcCls K C
inductive rIsi (K:Fg) (vs:Jt) (H:Hp) (Q:VK):Prop
 | mk (x c:V) (cv t:Vl) (b:Bool) (_:vs=[x,c]) (_:RelV c cv) (_:(∀ u,RelV c u->u=cv)) (_:TyX K H x t) (_:PySem.W.kitOne K t cv=some b) (_:Q (.bl b) H)
def Yr:ZY X (.builtin "isinstance") (rIsi X.K):=by
 intro pins s σ H xs us Q I r h;obtain ⟨x,c,cv,t,b,rfl,rc,ic,ty,e,q⟩:=h;obtain ⟨u,w',rfl,ru,rw'⟩:=vals2 r;cases ic w' rw';rcases ty with ty | ⟨ea,C,rfl,he,rfl,ec⟩
 ·exact isinst_ok I ru ty e λtk=>⟨.bl b,H,I.tok _,rfl,q⟩
 ·cases (show u=Value.ref ea from ru)
  obtain ⟨p,_⟩:=(show ObjOk X.prog X.w H s.heap ea (excO ea C) from I.hok ea _ he);exact PySem.W.kia_one (My.kitx_exc ec.hg ec.hgg ec.hsb ec.hd ec.ha ec.hn ec.ht ec.hm) I.kIn p e (λz=>nomatch z) λtk=>⟨.bl b,H,I.tok _,rfl,q⟩
end
def passF {P:Program} {w:World} {base:Heap} {X:Cx}:xD (CXe P w base) X E0:=λ_ _ _ _ _ _ _ h=>by
 obtain ⟨_,_,_,_,_,_,_,_,_,q⟩:=h;exact q.elim
section
variable {P:Program} {w:World} {K:Fg} {mg:J0} {base:Heap}
def Fun.okE {x qual:Str} {st:Stmt} {f:Ad} {fd:FuncData} {N ps:Jl} {k:Nat} {sp:Sp} (F:Fun K x qual st f fd) (S:FnScope N ps (zh st)) (len:∀ vs H Q E,sp vs H Q E->vs.length=ps.length)
  (hbody:∀ (cdv:Vl) (A:Around) (outer:List Env) (s:Sh) (H:Hp) (vs:Jt) (Q:VK) (E:XK),Room k (A.deeper (envOfC qual (zh st) s.heap.objs.size f cdv))->sp vs H Q E ->
   ∃ t,PSs (yh (CXe P w base) P w K mg base N qual (zh st) f cdv A outer s H E) (yf st) t/\t { nx:=λ_ H'=>Q .non H',rt:=Q } (Zr N vs) H):FnOk P w K mg base (CXe P w base) (k+1) f fd ps sp:=by
 obtain ⟨oc,od,kV,doc,pm,an,cdv,ct,osl,rfl,lk,hcd⟩:=F.ex;exact fn_of lk hcd S len λA outer s H vs Q E hr hsp=>hbody cdv A outer s H vs Q E hr hsp
def zp (K:Fg) (mg:J0) (x:Str) (st:Stmt) (ps:Jl):Prop:=∃ (f:Ad) (fd:FuncData),mg x=some (.ref f)/\Fun K x x st f fd/\Binds K fd ps []
def defIn_mk {h:Heap} {x:Str} {st:Stmt} {ps:Jl} {f:Ad} {oc:Vl} {od an:Option Ad} {osl:Array (Jk)} {kV doc pm cdv ct:Vl} (X:K.In h) (G:h.Ns mainGlobals mg)
  (a:PySem.W.nsIn K mainGlobals x=some (some (.ref f))) (l:K.lookup f=some ⟨oc,od,.func (PySem.W.fnOf x x (yy st) (yf st) (zh st) .none kV doc pm an cdv ct),osl⟩)
  (c:PySem.W.codeIn K cdv x=true) (k:PySem.W.keepIn K (.ref f)=true)
  (b:∀ (kV doc pm:Vl) (an:Option Ad) (cdv ct:Vl) (us:Jj),us.length=ps.length->bindArgs (PySem.W.fnOf x x (yy st) (yf st) (zh st) .none kV doc pm an cdv ct) ⟨us,[]⟩=pure (ps.zip us)):zp K mg x st ps :=
 ⟨f,_,PySem.W.mg_of X G a,Xa l c k,(Xa l c k).binds b⟩
def Ok (P:Program) (w:World) (K:Fg) (mg:J0) (base:Heap) (CX:CXT) (k:Nat) (x:Str) (ps:Jl) (sp:Sp):Prop :=
 ∃ (f:Ad) (fd:FuncData),mg x=some (.ref f)/\PySem.W.keepIn K (.ref f)=true/\Binds K fd ps []/\FnOk P w K mg base CX k f fd ps sp
end
def zw {X:Cx} {CX:CXT} {k:Nat} {x:Str} {ps:Jl} {sp:Sp} {E:XK} {p pos:Pos} {e:Expr} {es:Jn} {t:TA} (o:Ok X.prog X.w X.K X.mg X.base CX k x ps sp) (hr:Room k X.A) (hg:Gl X x) (hx:xD CX X E) (ha:PA X (e::es) t)
  (hdb:(x == ("__debug__":Str))=false:=by decide) (he:starEach (e::es) X.env=(false,eval e X.env)::starEach es X.env:=by rfl) (hpl:(backTo pos (starEach es X.env)).any (·.1)=false:=by rfl) :
  PE X (.Call (.Name x p) (e::es) [] pos) (tCall sp [] E t):=by
 obtain ⟨f,fd,a,b,c,d⟩:=o;exact pe_call d hr hg a b c .nil hx ha hdb he hpl
def pe1_ok {X:Cx} {σ₀:St} {CX:CXT} {k:Nat} {x:Str} {ps:Jl} {sp:Sp} {E:XK} {p pos:Pos} {e:Expr} {es:Jn} {t:TA} (o:Ok X.prog X.w X.K X.mg X.base CX k x ps sp) (hr:Room k X.A) (hg:Gl X x) (hx:YD CX X σ₀ E) (ha:PA X (e::es) t)
  (hdb:(x == ("__debug__":Str))=false:=by decide) (he:starEach (e::es) X.env=(false,eval e X.env)::starEach es X.env:=by rfl) (hpl:(backTo pos (starEach es X.env)).any (·.1)=false:=by rfl) :
  PE1 X σ₀ (.Call (.Name x p) (e::es) [] pos) (tCall sp [] E t):=by
 obtain ⟨f,fd,a,b,c,d⟩:=o;exact pe1_call d hr hg a b c hx ha hdb he hpl
section
variable {X:Cx}
def zay:OpR X (binaryOp .FloorDiv) (rI (λ_ j=>j≠0/\-18446744073709551616<j/\j<18446744073709551616) λi j=>.int (i.fdiv j)):=opI λi j _ _ _ _ _ hc q=>floordiv_int hc.1 q (.inl (PyProof.noPylong_of_log2 (by
 have h64:j.natAbs<2 ^ 65:=by omega
 have:=(Nat.log2_lt (by omega:j.natAbs≠0)).mpr h64;omega)))
end
inductive sp1 (g:Int->V) (vs:Jt) (H:Hp) (Q:VK) (_:XK):Prop
 | mk (n:_) (_:vs=[.int n]) (_:Q (g n) H)
inductive sp2 (C:Int->Int->Prop) (g:Int->Int->Int) (vs:Jt) (H:Hp) (Q:VK) (_:XK):Prop
 | mk (a b:_) (_:vs=[.int a,.int b]) (_:C a b) (_:Q (.int (g a b)) H)
def len1 {g:Int->V}:∀ vs H Q E,sp1 g vs H Q E->vs.length=1:=by rintro vs H Q E ⟨n,e,_⟩;rw [e];rfl
def len2 {C:Int->Int->Prop} {g:Int->Int->Int}:∀ vs H Q E,sp2 C g vs H Q E->vs.length=2:=by rintro vs H Q E ⟨a,b,e,_⟩;rw [e];rfl
def X1 {X:Cx} {x:Str} {i:Int} {t:Tok} {pos:Pos} (hm:X.mg x=some (.int i t)) (hg:Gl X x:=by rfl) (hd:(x == ("__debug__":Str))=false:=by decide):PE X (.Name x pos) (tC (.int i)):=pe_glob hg hm (v:=.int i) ⟨_,rfl⟩ hd
def ZR {X:Cx} {x:Str} {a:Ad} {pos:Pos} (hm:X.mg x=some (.ref a)) (hg:Gl X x:=by rfl) (hd:(x == ("__debug__":Str))=false:=by decide):PE X (.Name x pos) (tC (.ref a)):=pe_glob hg hm (v:=.ref a) rfl hd
def pe_bty {X:Cx} {x:Str} {n:String} {pos:Pos} (hm:X.mg x=none) (hv:bootBuiltins x=some (.type n)) (hg:Gl X x:=by rfl) (hn:x≠"__name__":=by decide) (hd:(x == ("__debug__":Str))=false:=by decide):PE X (.Name x pos) (tC (.ty n)):=pe_bltn hg hm hv (v:=.ty n) rfl hn hd
abbrev Cx.comp (X:Cx) (scope:Scope) (cl:List (Str×Ad)) (NY:Jl) (s3:Sh) (H3:Hp) (fp:Jm):Cx :=
 { X with N:=NY,s₀:=s3,H₀:=H3,env:=compEnvC scope cl s3.heap.objs.size X.env,outer:=X.stack,ex:=fp,fn:=λ_=>false,pn:=[],xe:=λ_ _=>False }
abbrev Lz:Obj:={ cls:=.type "list",data:=.seq ([]:Jj).toArray }
abbrev pz (s:Sh):Sh:={ s with heap:=s.heap.push Lz }
abbrev Xz (X:Cx) (scope:Scope) (cl:List (Str×Ad)) (NY:Jl) (s2:Sh) (H2:Hp) (fp:Jm):Cx:=X.comp scope cl NY (pz s2) (upd H2 s2.heap.objs.size (.lst [])) fp
structure Sees (X:Cx) (scope:Scope) (cl:List (Str×Ad)):Prop where
 kind:scope.kind=.function
 clos:closureFor scope X.env=pure cl
 nocell:∀ y∈scope.names,y.2≠.cell
 names:∀ y∈scope.names,y.2=.local->scope.names.lookup y.1=some .local
 sub:∀ x c,cl.lookup x=some c->X.env.cells.lookup x=some c
 has:∀ x,((compEnvC scope cl 0 X.env).kindOf x=some .cell∨(compEnvC scope cl 0 X.env).kindOf x=some .free)->∃ c,cl.lookup x=some c
section
variable {X:Cx} {pins:Ji} {σ:St} {H3:Hp} {s3:Sh} {scope:Scope} {cl:List (Str×Ad)} {NY:Jl} {fp:Jm}
def comp_ok (I:Inv X pins σ H3 s3) (S:Sees X scope cl) (hfp:∀ b∈fp,Yc X pins H3 b) (hob:∀ b∈fp,∃ o,s3.heap.get? b=some o):(X.comp scope cl NY s3 H3 fp).Ok where
 mod:=I.ok.mod
 kind:=S.kind
 glob:=I.ok.glob
 blt:=I.ok.blt
 above:=Nat.le_refl _
 inj:=λx y c a b=>I.ok.inj x y c (S.sub _ _ a) (S.sub _ _ b)
 has:=λx h=>S.has x h
 cab:=λ_ _ h=>nomatch h
 hd:=I.ok.hd
 frames:=I.ok.frames
 stk:=.inl rfl
 exf:=λb hb=>⟨λz=>by
  obtain ⟨o,q⟩:=hob b hb;exact absurd (Heap.lt_size q) (by rw [z];exact Nat.lt_irrefl _),λx c q=>(hfp b hb).2.2.2.2.1 x c (S.sub _ _ q)⟩
 bs:=I.bs
 bsz:=Nat.le_trans I.ok.bsz I.sz
 noex:=λb o q hb=>by
  rcases (hfp b hb).2.2.2.1 with z | z
  ·exact I.ok.noex b o q z
  ·exact absurd (q2y (Heap.lt_size q) (Nat.le_trans I.ok.bsz z)) (Nat.lt_irrefl _)
 exfs:=λb hb z=>by
  rcases List.mem_cons.mp (I.stkSub b z) with y | y
  ·exact (hfp b hb).2.1 y
  ·exact (hfp b hb).2.2.1 y
 funs:=I.stack
 frf:=I.stkFree
def zbd {h1:Heap} {t:Nat} {σY:St} (I:Inv X pins σ H3 s3) (S:Sees X scope cl) (hfp:∀ b∈fp,Yc X pins H3 b) (hob:∀ b∈fp,∃ o,s3.heap.get? b=some o)
  (hn:h1.Ns s3.heap.objs.size λ_=>none) (hk:∀ b o,s3.heap.get? b=some o->h1.get? b=some o) (hl:σY.length=NY.length)
  (hσ:∀ (i:Nat) (x:Str) (v:V),NY[i]?=some x->σY[i]?=some (some v)->∃ c u,(((compEnvC scope cl 0 X.env).kindOf x=some .cell∨(compEnvC scope cl 0 X.env).kindOf x=some .free))/\cl.lookup x=some c/\RelV v u/\s3.heap.IsCell c (some u)) :
  Inv (X.comp scope cl NY s3 H3 fp) [] σY H3 { s3 with heap:=h1,toks:=t } where
 ok:=comp_ok I S hfp hob
 os:=rfl
 bare:=I.bare
 base:=Un.kept hk
 loc:=⟨_,hn,λi x v e1 e2 _=>by
  obtain ⟨c,u,k,q,r,z⟩:=hσ i x v e1 e2;obtain ⟨o,z1,z2⟩:=z;exact ⟨u,r,.inr ⟨k,c,q,o,hk _ _ z1,z2⟩⟩⟩
 cell:=λx c q=>by
  obtain ⟨v,o,z1,z2⟩:=I.cell x c (S.sub _ _ q);exact ⟨v,o,hk _ _ z1,z2⟩
 free:=I.hok.fresh (Nat.le_refl _)
 freeC:=λx c q=>I.freeC x c (S.sub _ _ q)
 pin:=λp hp=>absurd hp (by simp)
 hok:=I.hok.kept hk
 len:=hl
def XC {Y:Ji} {σY:St} {H':Hp} {s':Sh} {h':Heap} (I:Inv X pins σ H3 s3) (hfp:∀ b∈fp,Yc X pins H3 b) (J:Inv (X.comp scope cl NY s3 H3 fp) Y σY H' s') (hs:Heap.SameBut s3.heap.objs.size s'.heap h') :
  Inv X pins σ H' { s' with heap:=h' }:=by
 have ne:∀ b o,s3.heap.get? b=some o->b≠s3.heap.objs.size:=λb o q=>Nat.ne_of_lt (Heap.lt_size q);have B:=J.base;refine I.call' (s':={ s' with heap:=h' }) (ch:=fp) J.os ⟨λb o q n hb hx=>?_,λb o q n hb hx=>?_,B.free,λb o q hx=>?_,B.tups,B.frzs,B.tbls⟩ (λb o q=>?_) J.bare λb hb=>?_
 ·exact (hs.2 b (ne b o q)).trans (B.keep b o q n hb hx)
 ·obtain ⟨sl,z⟩:=B.slot b o q n hb hx
  exact ⟨sl,(hs.2 b (ne b o q)).trans z⟩
 ·obtain ⟨o',z⟩:=B.there b o q hx
  exact ⟨o',(hs.2 b (ne b o q)).trans z⟩
 ·have hf:H' s3.heap.objs.size=none:=J.free
  refine (J.hok b o q).stay (λc v hc r=>(hs.2 c ?_).trans r) (λ_ z=>z) λ_ _ z=>z;rintro rfl;rcases hc with z | z
  ·rw [← z,hf] at q;cases q
  ·rw [hf] at z;cases z
 ·obtain ⟨_,f2,_,f4,f5,f6⟩:=hfp b hb
  exact ⟨f4,f2,f5,f6⟩
end
section
variable {prog:Program} {w:World} {A:Around} {R:Result->Sh->Prop} {s:Sh}
theorem comp_loop {elt target iter:Expr} {scope:Scope} {pos:Pos} {it acc:Vl} {env:Env} (I:Nat->Sh->Prop)
  (turn:∀ n s,I n s->wpAny (model prog w) A (pyNext it) (λr s₁=>match r with
   | none=>R (.ok .next) s₁
   | some v=>wpAny (model prog w) A (letOwnedTupleGo target it v) (λ_ s₂=>wpAny (model prog w) A (assign target env v) (λ_ s₃=>wpAny (model prog w) A (eval elt env) (λx s₄ =>
     wpAny (model prog w) A (call (.builtin "list.append") [acc,x]) (λ_ s₅=>∃ m,m<n/\I m s₅) (λ_ _=>False) s₄) (λ_ _=>False) s₃) (λ_ _=>False) s₂) (λ_ _=>False) s₁) (λ_ _=>False) s)
  (n:Nat) (h:I n s):codeAny (model prog w) A (.compLoop (.ListComp elt [⟨target,iter,[],0⟩] scope pos) 0 it acc env) R s:=by
 refine codeAny_loop rfl I (λn s hI=>?_) n h;show wpAny _ _ ((compTurn (.ListComp elt [⟨target,iter,[],0⟩] scope pos) 0 it acc env).onRaise (λx=>do noteFrame x env;theTreesLotGoes x)) _ _ s;refine wpAny_noted ?_;rw [compTurn_list1];refine q0x (wpAny_standAt (q0x (wpAny_mono (turn n s hI) (λr s₁ h₁=>?_) λ_ _ z=>z.elim)))
 cases r with
 | none=>exact q0y h₁
 | some v =>
  refine q0x (wpAny_mono h₁ (λ_ s₂ h₂=>?_) λ_ _ z=>z.elim);refine q0x (wpAny_mono h₂ (λ_ s₃ h₃=>?_) λ_ _ z=>z.elim);refine q0x (q0x (wpAny_mono h₃ (λx s₄ h₄=>?_) λ_ _ z=>z.elim));exact q0x (wpAny_mono h₄ (λ_ s₅ h₅=>q0y (q0y ⟨rfl,h₅⟩)) λ_ _ z=>z.elim)
end
inductive CompW (J:It) (g:TG) (te:TE) (σY:St) (H1:Hp) (D:Ad) (Q:VK):Prop
 | mk (W:Nat->Nat->St->Hp->Prop) (_:(∃ m,W 0 m σY H1)) (_:∀ i m σ' H',W i m σ' H'->(J.stop i H'/\Q (.ref D) H')∨(J.go i H'/\∃ N:St->Hp->Prop,(∀ σ2 H2,N σ2 H2->∃ m',m'<m/\W (i+1) m' σ2 H2)/\∀ x H2,J.yld i H' x H2->g x σ' H2 λσ3 H3=>te σ3 H3 λv H4=>∃ xs,H4 D=some (.lst xs)/\xs.length<sizeLine/\N σ3 (upd H4 D (.lst (xs++[v]))))):CompW J g te σY H1 D Q
inductive tComp_S (g:TG) (te:TE) (σ0:St->Hp->St->Prop) (σ:St) (Q:VK) (J:It) (H1:Hp):Prop
 | mk (σY:_) (_:σ0 σ H1 σY) (_:∀ D,H1 D=none->CompW J g te σY (upd H1 D (.lst [])) D Q)
def tComp (wi:TI) (g:TG) (te:TE) (σ0:St->Hp->St->Prop):TE:=λσ H Q=>wi σ H λJ H1=>tComp_S g te σ0 σ Q J H1
section
variable {X:Cx} {tg:Expr}
structure CompEnd (X:Cx) (pins:Ji) (σ:St) (H5:Hp) (s6:Sh) (C:Ad):Prop where
 ns:∃ m,s6.heap.Ns C m
 hn:H5 C=none
 hL:C≠X.env.locals
 h1:X.s₀.heap.objs.size<=C
 h2:∀ x c,X.env.cells.lookup x=some c->c≠C
 h3:∀ p∈X.pn++pins,p.1≠C
 inv:∀ h',Heap.SameBut C s6.heap h'->Inv X pins σ H5 { s6 with heap:=h' }
def XB {iter elt:Expr} {scope:Scope} {pos pos':Pos} {cl:List (Str×Ad)} {NY:Jl} {wi:TI} {g:TG} {te:TE} {σ0:St->Hp->St->Prop} (hc:X.calm=true) (S:Sees X scope cl) (hi:PI X tg iter wi)
  (hY:∀ (s3:Sh) (H3:Hp) (fp:Jm),PG (X.comp scope cl NY s3 H3 fp) tg g/\PE (X.comp scope cl NY s3 H3 fp) elt te)
  (h0:∀ (pins:Ji) (σ:St) (H:Hp) (s3:Sh) (σY:St),Inv X pins σ H s3->σ0 σ H σY->σY.length=NY.length/\∀ (i:Nat) (x:Str) (v:V),NY[i]?=some x->σY[i]?=some (some v) ->
   ∃ c u,(((compEnvC scope cl 0 X.env).kindOf x=some .cell∨(compEnvC scope cl 0 X.env).kindOf x=some .free))/\cl.lookup x=some c/\RelV v u/\s3.heap.IsCell c (some u))
  (hs:∀ x,foldedSetIterable iter X.env x=pure x) {use:Option (Vl->Sem Unit)} {R:Jg} {pins:Ji} {s:Sh} {σ:St} {H:Hp} {Q:VK} (I:Inv X pins σ H s) (h:tComp wi g te σ0 σ H Q)
  (fin:∀ (C D:Ad) (H5:Hp) (s6:Sh),CompEnd X pins σ H5 s6 C->Q (.ref D) H5->compPost (model X.prog X.w) X.A X.xe use R (.ref D) C (.ok .next) s6) :
  wpAny (model X.prog X.w) X.A (comprehension (.ListComp elt [⟨tg,iter,[],0⟩] scope pos) scope X.env pos' (newList []) (firstAsync [⟨tg,iter,[],0⟩]) (firstIter [⟨tg,iter,[],0⟩] X.env) use) R X.xe s:=by
 refine wpAny_comprehension_free rfl hs S.clos S.kind S.names (thn (hi pins s σ H _ I h) λv s1 h1=>thn h1 λitv s2 h2=>?_);obtain ⟨it,fp,tn,J,H2,e,I2,T,st2,f2,σY,hσ,hW⟩:=h2;subst e;refine wpAny_newObj_type ?_;have I3:Inv X pins σ (upd H2 s2.heap.objs.size (.lst [])) (pz s2):=I2.lnew (t':=s2.toks) (its:=[]) .nil (Nat.zero_le _);obtain ⟨W,⟨m0,w0⟩,turn⟩:=hW s2.heap.objs.size (I2.hok.fresh (Nat.le_refl _));have ob2:=T.obj _ _ st2
 have hfp:∀ b∈fp,Yc X pins (upd H2 s2.heap.objs.size (.lst [])) b:=λb hb=>by
  obtain ⟨o,q,_⟩:=ob2 b hb;exact ⟨by rw [zI (Nat.ne_of_lt (Heap.lt_size q))];exact (f2 b hb).1,(f2 b hb).2⟩
 have hob:∀ b∈fp,∃ o,(s2.heap.push Lz).get? b=some o:=λb hb=>by
  obtain ⟨o,q,_⟩:=ob2 b hb;exact ⟨o,Heap.get?_push_of_some _ q⟩
 refine wpAny_newFunctionEnv S.nocell (λy hy=>absurd hy (by simp)) (λh1 hn1 hs1=>?_) S.kind;obtain ⟨hl,hY0⟩:=h0 pins σ H2 s2 σY I2 hσ;have k23:∀ b o,s2.heap.get? b=some o->(s2.heap.push Lz).get? b=some o:=λb o q=>Heap.get?_push_of_some _ q;have k34:∀ b o,(s2.heap.push Lz).get? b=some o->h1.get? b=some o:=λb o q=>(hs1.2 b (Nat.ne_of_lt (Heap.lt_size q))).trans (Heap.get?_push_of_some _ q)
 have I4:=zbd (scope:=scope) (cl:=cl) (NY:=NY) (fp:=fp) (h1:=h1) (t:=s2.toks) (σY:=σY) I3 S hfp hob hn1 k34 hl λi x v e1 e2=>by
  obtain ⟨c,u,k,q,r,o,z1,z2⟩:=hY0 i x v e1 e2;exact ⟨c,u,k,q,r,o,k23 _ _ z1,z2⟩
 have st4:tn 0 h1:=T.keep _ _ _ st2 λb hb o q=>k34 _ _ (k23 _ _ q);have fr4:∀ b∈fp,(upd H2 s2.heap.objs.size (.lst [])) b=none:=λb hb=>(hfp b hb).1;obtain ⟨hg,he⟩:=hY (pz s2) (upd H2 s2.heap.objs.size (.lst [])) fp;have okY:=I4.ok
 have statY:∀ {H':Hp},(∀ b∈fp,H' b=none)->∀ b∈fp,Yc (Xz X scope cl NY s2 H2 fp) [] H' b :=
  λhn b hb=>⟨hn b hb,(okY.exf b hb).1,okY.exfs b hb,.inl hb,(okY.exf b hb).2,λp hp=>absurd hp (by simp)⟩
 have loop:codeAny (model X.prog X.w) X.A (.compLoop (.ListComp elt [⟨tg,iter,[],0⟩] scope pos) 0 (.ref it) (.ref s2.heap.objs.size) (compEnvC scope cl (s2.heap.push Lz).objs.size X.env))
   (compPost (model X.prog X.w) X.A X.xe use R (.ref s2.heap.objs.size) (s2.heap.push Lz).objs.size) { s2 with heap:=h1,toks:=s2.toks }:=by
  refine comp_loop (λn s'=>∃ i σ' H',Inv (Xz X scope cl NY s2 H2 fp) [] σ' H' s'/\tn i s'.heap/\(∀ b∈fp,H' b=none)/\W i n σ' H') ?_ m0 ⟨0,σY,_,I4,st4,fr4,w0⟩;rintro n s5 ⟨i,σ5,H5,I5,st5,fr5,w5⟩;rcases turn i n σ5 H5 w5 with ⟨stop,q⟩ | ⟨go,N,hN,step⟩
  ·refine thn (T.done (Xz X scope cl NY s2 H2 fp) rfl rfl rfl hc i [] s5 σ5 H5 _ I5 (statY fr5) st5 stop) λr s6 ⟨hr,I6⟩=>?_
   subst hr;obtain ⟨m,hm,_⟩:=I6.loc;refine fin _ _ H5 s6 ⟨⟨m,hm⟩,I6.free,Ne.symm (Nat.ne_of_lt I3.lt),I3.sz,λx c z=>?_,λp hp=>?_,λh' hs'=>XC I3 hfp I6 hs'⟩ q
   ·obtain ⟨_,o,z1,_⟩:=I3.cell x c z
    exact Nat.ne_of_lt (Heap.lt_size z1)
   ·exact Nat.ne_of_lt (Heap.lt_size (I3.pin p hp).1)
  ·refine thn (T.item (Xz X scope cl NY s2 H2 fp) rfl rfl rfl hc i [] s5 σ5 H5 _ I5 (statY fr5) st5 go) λr s6 ⟨u,hr,h6⟩=>?_
   subst hr;refine thn h6 λ_ s7 ⟨x,H7,I7,r7,y7,st7,fr7⟩=>?_;have I7':=I7.pinned (statY fr7) (T.obj _ _ st7);refine thn (hg _ s7 σ5 H7 x u _ I7' r7 (step x H7 y7)) λ_ s8 ⟨σ8,H8,I8,q8⟩=>?_;refine thn (he _ s8 σ8 H8 _ I8 q8) λz s9 ⟨v9,H9,I9,r9,xs,hx9,hz9,n9⟩=>?_;refine thn (zW _ s9 σ8 H9 (.ref s2.heap.objs.size) [v9] (.ref s2.heap.objs.size) [z] (λ_ H'=>H'=upd H9 s2.heap.objs.size (.lst (xs++[v9]))) I9 rfl (.cons r9 .nil) ⟨s2.heap.objs.size,xs,v9,rfl,rfl,hx9,hz9,rfl⟩) λy s10 ⟨v10,H10,I10,_,e10⟩=>?_;subst e10;obtain ⟨m',hm,w10⟩:=hN _ _ n9;refine ⟨m',hm,i+1,σ8,_,I10.unpinned,T.keep _ _ _ st7 λb hb o q=>(I10.pin (b,o) (q2x _ (q2x _ (yM hb q)))).1,λb hb=>?_,w10⟩;obtain ⟨o,q,d⟩:=T.obj _ _ st7 b hb;exact (I10.pin (b,o) (q2x _ (q2x _ (yM hb q)))).2.1
 exact codeAny_compStart_list loop (T.self _ 0 _ _ _ st4 loop)
def pe_comp {iter elt:Expr} {scope:Scope} {pos:Pos} {cl:List (Str×Ad)} {NY:Jl} {wi:TI} {g:TG} {te:TE} {σ0:St->Hp->St->Prop} (hc:X.calm=true) (S:Sees X scope cl) (hi:PI X tg iter wi)
  (hY:∀ (s3:Sh) (H3:Hp) (fp:Jm),PG (X.comp scope cl NY s3 H3 fp) tg g/\PE (X.comp scope cl NY s3 H3 fp) elt te)
  (h0:∀ (pins:Ji) (σ:St) (H:Hp) (s3:Sh) (σY:St),Inv X pins σ H s3->σ0 σ H σY->σY.length=NY.length/\∀ (i:Nat) (x:Str) (v:V),NY[i]?=some x->σY[i]?=some (some v) ->
   ∃ c u,(((compEnvC scope cl 0 X.env).kindOf x=some .cell∨(compEnvC scope cl 0 X.env).kindOf x=some .free))/\cl.lookup x=some c/\RelV v u/\s3.heap.IsCell c (some u))
  (hs:∀ x,foldedSetIterable iter X.env x=pure x:=by intro _;rfl) :
  PE X (.ListComp elt [⟨tg,iter,[],0⟩] scope pos) (tComp wi g te σ0):=by
 intro pins s σ H Q I h;rw [eval_ListComp];refine XB (use:=none) hc S hi hY h0 hs I h λC D H5 s6 e q=>?_;obtain ⟨m,hm⟩:=e.ns;exact ⟨m,hm,λh' hs'=>⟨.ref D,H5,e.inv h' hs',rfl,q⟩⟩
def ps_comp {iter elt:Expr} {scope:Scope} {pos pos' spos:Pos} {cl:List (Str×Ad)} {NY:Jl} {wi:TI} {g:TG} {te:TE} {σ0:St->Hp->St->Prop} {i:Nat} {y:Str} (hc:X.calm=true) (S:∀ {pins σ H s},Inv X pins σ H s->Sees X scope cl) (hi:PI X tg iter wi)
  (hY:∀ (s3:Sh) (H3:Hp) (fp:Jm),PG (X.comp scope cl NY s3 H3 fp) tg g/\PE (X.comp scope cl NY s3 H3 fp) elt te)
  (h0:∀ (pins:Ji) (σ:St) (H:Hp) (s3:Sh) (σY:St),Inv X pins σ H s3->σ0 σ H σY->σY.length=NY.length/\∀ (i:Nat) (x:Str) (v:V),NY[i]?=some x->σY[i]?=some (some v) ->
   ∃ c u,(((compEnvC scope cl 0 X.env).kindOf x=some .cell∨(compEnvC scope cl 0 X.env).kindOf x=some .free))/\cl.lookup x=some c/\RelV v u/\s3.heap.IsCell c (some u))
  (hs:∀ x,foldedSetIterable iter X.env x=pure x) (hN:X.N.Nodup) (hi':X.N[i]?=some y) (hx:Loc X.env.scope y) (hf:X.fn y=true∨X.env.scope.names.lookup y=some .local)
  (hw:swapsWith (.ListComp elt [⟨tg,iter,[],0⟩] scope pos) (some (.Name y pos')) spos.line X.env=pure true):PS X (.Assign [.Name y pos'] (.ListComp elt [⟨tg,iter,[],0⟩] scope pos) spos) (tAsg (tComp wi g te σ0) (Yn i)):=by
 intro pins s σ H D I h;rw [exec_Assign_Name_used _ _ _ _ hw,arm_evalThenUse_ListComp];refine q0x (wpAny_standAt (q0x (q0x (wpAny_mono (XB (use:=some (assign (.Name y pos') X.env)) (R:=λ_ s'=>SP X pins D .next s') hc (S I) hi hY h0 hs I h λC L H5 s6 e q=>?_) (λ_ s' z=>q0y (q0y z)) λ_ _ z=>z))));obtain ⟨m,hm⟩:=e.ns;have I6:Inv X pins σ H5 s6:=e.inv s6.heap ⟨rfl,λ_ _=>rfl⟩;refine wpAny_assign_Name (Z0 I6 hN hi' hx (v:=.ref L) rfl (λs' I' ⟨a,sb,ha⟩=>?_) hf)
 have ne:C≠a:=by
  rintro rfl;rcases ha with z | z
  ·exact e.hL z
  ·exact e.h2 _ _ z rfl
 refine ⟨m,?_,λh' hs'=>?_⟩
 ·obtain ⟨o,es,ep,z,r⟩:=hm
  exact ⟨o,es,ep,(sb.2 _ ne).trans z,r⟩
 ·exact ⟨_,H5,I'.turned (t':=s'.toks) (it:=C) (λb o nb z=>(hs'.2 b nb).trans z) e.hn e.hL (.inr e.h1) e.h2 e.h3,q⟩
end
def comp_list {K:Fg} {a D:Ad} {xs:Jt} {g:TG} {te:TE} {σY:St} {H1:Hp} {Q:VK} (Pv:Nat->St->Hp->Prop) (h0:Pv 0 σY H1) (hl:∀ i σ H,i<=xs.length->Pv i σ H->SqL K H a xs)
  (hs:∀ i x σ H,xs[i]?=some x->Pv i σ H->g x σ H λσ3 H3=>te σ3 H3 λv H4=>∃ ys,H4 D=some (.lst ys)/\ys.length<sizeLine/\Pv (i+1) σ3 (upd H4 D (.lst (ys++[v])))) (hd:∀ σ H,Pv xs.length σ H->Q (.ref D) H) :
  CompW (Itl K a) g te σY H1 D Q:=by
 refine ⟨λi m σ H=>m=xs.length-i/\i<=xs.length/\Pv i σ H,⟨xs.length,by simp,Nat.zero_le _,h0⟩,?_⟩;rintro i m σ H ⟨rfl,hi,p⟩;have q:=hl i σ H hi p;by_cases hlt:i<xs.length
 ·refine .inr ⟨⟨xs,xs[i],q,by simp [hlt]⟩,Pv (i+1),λσ' H' p'=>⟨xs.length-(i+1),by omega,rfl,hlt,p'⟩,λx H' y=>?_⟩
  obtain ⟨e,y⟩:=y;subst e;exact hs i x σ _ (y xs q) p
 ·have e:i=xs.length:=by omega
  subst e;exact .inl ⟨⟨xs,q,Nat.le_refl _⟩,hd σ H p⟩
def clGo (env:Env):List (Str×NameKind)->List (Str×Ad)->List (Str×Ad)
 | [],cs=>cs
 | y::r,cs=>clGo env r (if y.2 == .free then (y.1,(env.cells.lookup y.1).getD 0)::cs else cs)
abbrev Za (env:Env) (scope:Scope):List (Str×Ad):=clGo env scope.names []
def zcg {scope:Scope} {env:Env} (h:∀ y∈scope.names,y.2=.free->∃ c,env.cells.lookup y.1=some c):closureFor scope env=pure (Za env scope):=by
 rw [closureFor.eq_1]
 suffices q:∀ (names:List (Str×NameKind)) (cs:List (Str×Ad)),(∀ y∈names,y.2=.free->∃ c,env.cells.lookup y.1=some c) ->
   (do
    let s ← forIn names cs λx __s =>
     have cs:=__s
     match x with
     | (name,kind) =>
      if (kind == NameKind.free)=true then do
       let l ← cellOf env name;have cs:List (Str×Ad):=(name,l)::cs
       pure (ForInStep.yield cs)
      else pure (ForInStep.yield cs)
    pure s:Sem (List (Str×Ad)))=pure (clGo env names cs) from (congrArg (λ(m:Sem (List (Str×Ad)))=>m >>= λs=>(pure s:Sem (List (Str×Ad)))) (q scope.names [] h)).trans rfl
 intro names
 induction names with
 | nil=>intro cs _;rfl
 | cons y r ih =>
  intro cs h;obtain ⟨n,k⟩:=y;have hr:=λy hy=>h y (q1x _ hy);rw [List.forIn_cons];show _=pure (clGo env r (if k == .free then (n,(env.cells.lookup n).getD 0)::cs else cs));by_cases e:k=.free
  ·subst e
   obtain ⟨c,hc⟩:=h (n,.free) q1y rfl;have e1:cellOf env n=pure c:=by unfold cellOf;rw [show env.cells.lookup n=some c from hc]
   simp only [e1,show env.cells.lookup n=some c from hc,Option.getD_some,beq_self_eq_true,if_true];exact ih _ hr
  ·have e0:(k == NameKind.free)=false:=by simp [e]
   simp only [e0,Bool.false_eq_true,if_false];exact ih _ hr
theorem zbe {env:Env} {x:Str} {c:Ad}:∀ {names:List (Str×NameKind)} {cs:List (Str×Ad)},(∀ y∈names,y.2=.free->∃ c,env.cells.lookup y.1=some c)->(∀ x c,cs.lookup x=some c->env.cells.lookup x=some c)->(clGo env names cs).lookup x=some c->env.cells.lookup x=some c
 | [],cs,_,hc,h=>hc _ _ h
 | (n,k)::r,cs,hn,hc,h=>by
  refine zbe (λy hy=>hn y (q1x _ hy)) (λx c q=>?_) h;by_cases e:k=.free
  ·subst e
   obtain ⟨c',hc'⟩:=hn (n,.free) q1y rfl;simp only [beq_self_eq_true,if_true,show env.cells.lookup n=some c' from hc',Option.getD_some,List.lookup_cons] at q;by_cases z:x=n
   ·subst z;simp at q;rw [← q];exact hc'
   ·have z':(x == n)=false:=by simp [z]
    rw [z'] at q;exact hc _ _ q
  ·have e0:(k == NameKind.free)=false:=by simp [e]
   rw [e0] at q;exact hc _ _ q
theorem XD {env:Env} {x:Str}:∀ {names:List (Str×NameKind)} {cs:List (Str×Ad)},(∃ c,cs.lookup x=some c)->∃ c,(clGo env names cs).lookup x=some c
 | [],_,h=>h
 | (n,k)::r,cs,h=>by
  refine XD (names:=r) ?_;by_cases e:(k == NameKind.free)=true
  ·simp only [e,if_true,List.lookup_cons]
   cases hx:x == n with
   | true=>exact ⟨_,rfl⟩
   | false=>exact h
  ·simp only [e,if_false];exact h
theorem Xd {env:Env} {x:Str}:∀ {names:List (Str×NameKind)} {cs:List (Str×Ad)},(x,NameKind.free)∈names->∃ c,(clGo env names cs).lookup x=some c
 | (n,k)::r,cs,h=>by
  rcases List.mem_cons.mp h with e | e
  ·cases e
   refine XD (names:=r) ⟨(env.cells.lookup x).getD 0,?_⟩;simp
  ·show ∃ c,(clGo env r _).lookup x=some c
   exact Xd e
def YR (X:Cx) (scope:Scope):Bool :=
 (match scope.kind with | .function=>true | _=>false) && scope.names.all λy=>match y.2 with
  | .cell=>false
  | .free=>(match X.env.kindOf y.1 with | some .cell=>true | some .free=>true | _=>false)
  | .local=>(match scope.names.lookup y.1 with | some .local=>true | _=>false)
  | _=>true
def ZF {X:Cx} {scope:Scope} (ok:X.Ok) (h:YR X scope=true):Sees X scope (Za X.env scope):=by
 unfold YR at h;rw [Bool.and_eq_true,List.all_eq_true] at h;obtain ⟨hk,hn⟩:=h
 have fr:∀ y∈scope.names,y.2=.free->∃ c,X.env.cells.lookup y.1=some c:=λy hy e=>by
  have q:=hn y hy;rw [e] at q;refine ok.has y.1 ?_;revert q;dsimp only
  split
  ·rename_i z;intro _;exact .inl z
  ·rename_i z;intro _;exact .inr z
  ·intro q;cases q
 refine ⟨?_,zcg fr,λy hy e=>?_,λy hy e=>?_,λx c q=>zbe fr (λ_ _ z=>by cases z) q,λx q=>?_⟩
 ·revert hk
  cases scope.kind <;> simp
 ·have q:=hn y hy
  rw [e] at q;exact q1z q
 ·have q:=hn y hy
  rw [e] at q;revert q;dsimp only
  split
  ·rename_i z;intro _;exact z
  ·intro q;cases q
 ·have key:∀ k,(compEnvC scope (Za X.env scope) 0 X.env).kindOf x=some k->(k=.cell∨k=.free)->(x,NameKind.free)∈scope.names:=by
   intro k hk' hkk;have q:((scope.names.map λy=>match y with | (n,k)=>if (k == NameKind.free && X.env.scope.kind == ScopeKind.function && X.env.kindOf n == some NameKind.cell)=true then (n,NameKind.cell) else (n,k))).lookup x=some k:=hk'
   obtain ⟨n,k',e1,e2⟩:∃ n k',(n,k')∈scope.names/\(match (n,k') with | (n,k)=>if (k == NameKind.free && X.env.scope.kind == ScopeKind.function && X.env.kindOf n == some NameKind.cell)=true then (n,NameKind.cell) else (n,k))=(x,k):=by
    have m:(x,k)∈(scope.names.map λy=>match y with | (n,k)=>if (k == NameKind.free && X.env.scope.kind == ScopeKind.function && X.env.kindOf n == some NameKind.cell)=true then (n,NameKind.cell) else (n,k)):=by
     revert q;generalize (scope.names.map λy=>match y with | (n,k)=>if (k == NameKind.free && X.env.scope.kind == ScopeKind.function && X.env.kindOf n == some NameKind.cell)=true then (n,NameKind.cell) else (n,k))=l
     induction l with
     | nil=>intro q;cases q
     | cons a l ih =>
      intro q;obtain ⟨a1,a2⟩:=a;rw [List.lookup_cons] at q
      cases hx:x == a1 with
      | true=>rw [hx] at q;cases q;have:=beq_iff_eq.mp hx;subst this;exact q1y
      | false=>rw [hx] at q;exact q1x _ (ih q)
    obtain ⟨⟨n,k'⟩,h1,h2⟩:=List.mem_map.mp m;exact ⟨n,k',h1,h2⟩
   dsimp only at e2
   split at e2
   ·rename_i z
    cases e2;simp only [Bool.and_eq_true,beq_iff_eq] at z;rw [z.1.1] at e1;exact e1
   ·cases e2
    rcases hkk with rfl | rfl
    ·have z:=hn _ e1
     exact absurd z q1z
    ·exact e1
  rcases q with q | q
  ·exact Xd (key _ q (.inl rfl))
  ·exact Xd (key _ q (.inr rfl))
def Xf (X:Cx) (scope:Scope):Jl->List (Option Nat)->Bool
 | [],[]=>true
 | _::r,none::c=>Xf X scope r c
 | x::r,some j::c=>(match X.N[j]? with | some y=>x == y | none=>false) && (match (compEnvC scope (Za X.env scope) 0 X.env).kindOf x with | some .cell=>true | some .free=>true | _=>false)
   && (match X.env.kindOf x with | some .cell=>true | some .free=>true | _=>false) && Xf X scope r c
 | _,_=>false
def capt (cap:List (Option Nat)) (σ:St):St:=cap.map λo=>o.bind λj=>(σ[j]?).join
theorem ZW {X:Cx} {scope:Scope} {pins:Ji} {σ:St} {H:Hp} {s:Sh} (I:Inv X pins σ H s) (S:Sees X scope (Za X.env scope)):∀ {NY:Jl} {cap:List (Option Nat)},Xf X scope NY cap=true->(capt cap σ).length=NY.length/\∀ (i:Nat) (x:Str) (v:V),NY[i]?=some x->(capt cap σ)[i]?=some (some v) ->
   ∃ c u,(((compEnvC scope (Za X.env scope) 0 X.env).kindOf x=some .cell∨(compEnvC scope (Za X.env scope) 0 X.env).kindOf x=some .free))/\(Za X.env scope).lookup x=some c/\RelV v u/\s.heap.IsCell c (some u)
 | [],[],_=>⟨rfl,λi x v e _=>by cases e⟩
 | [],_::_,h=>by cases h
 | y::r,[],h=>by cases h
 | y::r,none::c,h=>by
  obtain ⟨l,q⟩:=ZW I S (NY:=r) (cap:=c) h;refine ⟨by rw [q2z,← l];rfl,λi x v e1 e2=>?_⟩
  cases i with
  | zero=>cases e2
  | succ i=>exact q i x v e1 e2
 | y::r,some j::c,h=>by
  unfold Xf at h;rw [Bool.and_eq_true,Bool.and_eq_true,Bool.and_eq_true] at h;obtain ⟨⟨⟨h1,h2⟩,h3⟩,h4⟩:=h;obtain ⟨l,q⟩:=ZW I S (NY:=r) (cap:=c) h4;refine ⟨by rw [q2z,← l];rfl,λi x v e1 e2=>?_⟩
  cases i with
  | succ i=>exact q i x v e1 e2
  | zero =>
   have ey:y=x:=Option.some.inj e1;subst ey;have ev:(σ[j]?).join=some v:=Option.some.inj e2
   have hσ:σ[j]?=some (some v):=by
    cases z:σ[j]? with
    | none=>rw [z] at ev;cases ev
    | some o=>rw [z] at ev;rw [show o=some v from ev]
   have hN:X.N[j]?=some y:=by
    cases z:X.N[j]? with
    | none=>rw [z] at h1;cases h1
    | some y'=>rw [z] at h1;rw [beq_iff_eq.mp h1]
   have hK:(compEnvC scope (Za X.env scope) 0 X.env).kindOf y=some .cell∨(compEnvC scope (Za X.env scope) 0 X.env).kindOf y=some .free:=by
    revert h2
    split
    ·rename_i z;intro _;exact .inl z
    ·rename_i z;intro _;exact .inr z
    ·intro q;cases q
   have hV:X.env.kindOf y=some .cell∨X.env.kindOf y=some .free:=by
    revert h3
    split
    ·rename_i z;intro _;exact .inl z
    ·rename_i z;intro _;exact .inr z
    ·intro q;cases q
   obtain ⟨c',hc'⟩:=S.has y hK;obtain ⟨m,_,hl⟩:=I.loc;obtain ⟨u,ru,lk⟩:=hl j y v hN hσ (.inr hV);refine ⟨c',u,hK,hc',ru,?_⟩;rcases lk with ⟨k,_⟩ | ⟨_,c2,e3,e4⟩
   ·have k':X.env.kindOf y=some .local:=k
    rcases hV with z | z <;> rw [z] at k' <;> cases k'
   ·have e5:=S.sub _ _ hc'
    rw [e3] at e5;cases e5;exact e4
abbrev tCompC (wi:TI) (g:TG) (te:TE) (cap:List (Option Nat)):TE:=tComp wi g te λσ _ σY=>σY=capt cap σ
section
variable {X:Cx} {tg:Expr}
def pe_compC {iter elt:Expr} {scope:Scope} {pos:Pos} {wi:TI} {g:TG} {te:TE} (NY:Jl) (cap:List (Option Nat)) (hc:X.calm=true) (hk:YR X scope=true) (hcap:Xf X scope NY cap=true) (hi:PI X tg iter wi)
  (hY:∀ (s3:Sh) (H3:Hp) (fp:Jm),PG (X.comp scope (Za X.env scope) NY s3 H3 fp) tg g/\PE (X.comp scope (Za X.env scope) NY s3 H3 fp) elt te)
  (hs:∀ x,foldedSetIterable iter X.env x=pure x:=by intro _;rfl):PE X (.ListComp elt [⟨tg,iter,[],0⟩] scope pos) (tCompC wi g te cap):=by
 intro pins s σ H Q I h;have S:=ZF I.ok hk;refine pe_comp (NY:=NY) hc S hi hY (λpins σ H s3 σY I3 e=>?_) hs pins s σ H Q I h;subst e;exact ZW I3 S hcap
def ps_compC {iter elt:Expr} {scope:Scope} {pos pos' spos:Pos} {wi:TI} {g:TG} {te:TE} {i:Nat} {y:Str} (NY:Jl) (cap:List (Option Nat)) (hc:X.calm=true) (hk:YR X scope=true) (hcap:Xf X scope NY cap=true) (hi:PI X tg iter wi)
  (hY:∀ (s3:Sh) (H3:Hp) (fp:Jm),PG (X.comp scope (Za X.env scope) NY s3 H3 fp) tg g/\PE (X.comp scope (Za X.env scope) NY s3 H3 fp) elt te) (hN:X.N.Nodup) (hi':X.N[i]?=some y) (hx:Loc X.env.scope y)
  (hf:X.fn y=true∨X.env.scope.names.lookup y=some .local:=by first | exact .inl rfl | exact .inr rfl) (hw:swapsWith (.ListComp elt [⟨tg,iter,[],0⟩] scope pos) (some (.Name y pos')) spos.line X.env=pure true:=by rfl)
  (hs:∀ x,foldedSetIterable iter X.env x=pure x:=by intro _;rfl):PS X (.Assign [.Name y pos'] (.ListComp elt [⟨tg,iter,[],0⟩] scope pos) spos) (tAsg (tCompC wi g te cap) (Yn i)):=by
 refine ps_comp (NY:=NY) hc (λI=>ZF I.ok hk) hi hY (λpins σ H s3 σY I3 e=>?_) hs hN hi' hx hf hw;subst e;exact ZW I3 (ZF I3.ok hk) hcap
end
section
variable {X:Cx}
def Y8 {K:Fg} (e:X.K=K):IxR X (rIxL K):=by subst e;exact zx
end
section
variable {X:Cx} {pins:Ji} {σ:St} {H:Hp} {s:Sh}
end
section
variable {X:Cx}
end
mutual
inductive DV (K:Fg) (H:Hp):V->PyData->Prop
 | non:DV K H .non .none
 | bl (b:Bool):DV K H (.bl b) (.bool b)
 | int (i:Int):DV K H (.int i) (.int i)
 | str (x:Str):DV K H (.str x) (.str x)
 | lst {a:Ad} {xs:Jt} {ds:List PyData}:SqL K H a xs->DVs K H xs ds->DV K H (.ref a) (.list ds)
 | tup {a:Ad} {xs:Jt} {ds:List PyData}:SqT K H a xs->DVs K H xs ds->DV K H (.ref a) (.tuple ds)
inductive DVs (K:Fg) (H:Hp):Jt->List PyData->Prop
 | nil:DVs K H [] []
 | cons {v:V} {vs:Jt} {d:PyData} {ds:List PyData}:DV K H v d->DVs K H vs ds->DVs K H (v::vs) (d::ds)
end
section
variable {X:Cx} {pins:Ji} {σ:St} {H:Hp} {s:Sh}
mutual
theorem x8 (I:Inv X pins σ H s):∀ {v:V} {d:PyData} {u:Vl},DV X.K H v d->RelV v u->∃ as,Reads s.heap u d as
 | _,_,u,.non,r=>by cases (show u=Value.none from r);exact ⟨_,.none⟩
 | _,_,u,.bl b,r=>by cases (show u=Value.bool b from r);exact ⟨_,.bool b⟩
 | _,_,u,.int i,r=>by obtain ⟨t,rfl⟩:=(show ∃ t,u=Value.int i t from r);exact ⟨_,.int i t⟩
 | _,_,u,.str x,r=>by obtain ⟨t,rfl⟩:=(show ∃ t,u=Value.str x t from r);exact ⟨_,.str x t⟩
 | _,_,u,.lst (a:=a) h q,r=>by
  cases (show u=Value.ref a from r);obtain ⟨its,rv,⟨o,n,e,c,d,f⟩,_⟩:=I.list h;obtain ⟨as,ra⟩:=Z8 I q rv;exact ⟨_,.list e c f ra⟩
 | _,_,u,.tup (a:=a) h q,r=>by
  cases (show u=Value.ref a from r);obtain ⟨its,rv,⟨o,e,c,n,f⟩,_⟩:=I.tuple h;obtain ⟨as,ra⟩:=Z8 I q rv;exact ⟨_,.tuple e c f ra⟩
theorem Z8 (I:Inv X pins σ H s):∀ {vs:Jt} {ds:List PyData} {us:Jj},DVs X.K H vs ds->Vals vs us->∃ as,ReadsAll s.heap us ds as
 | _,_,_,.nil,.nil=>⟨_,.nil⟩
 | _,_,_,.cons h q,.cons r rr=>by
  obtain ⟨as,ra⟩:=x8 I h r;obtain ⟨bs,rb⟩:=Z8 I q rr;exact ⟨_,.cons ra rb⟩
end
end
section
variable {X:Cx}
inductive rEqD (K:Fg) (f:Bool->Bool) (x y:V) (H:Hp) (Q:VK):Prop
 | mk (d e:_) (_:DV K H x d) (_:DV K H y e) (_:d.canLay0=true) (_:e.canLay0=true) (_:d.depth<=64) (_:Q (.bl (f (d.eqv e))) H)
def xZ (hu:X.A.units+64<cLine):OpR X (compareOp .Eq) (rEqD X.K id):=by
 intro pins s σ H x y v u Q I rx ry h;obtain ⟨d,e,hd,he,c1,c2,dp,q⟩:=h;obtain ⟨as,ra⟩:=x8 I hd rx;obtain ⟨bs,rb⟩:=x8 I he ry;exact SeqAt.compareEq_reads ra rb c1 c2 (by omega) ⟨.bl _,H,I,rfl,q⟩
def op_neD (hu:X.A.units+64<cLine):OpR X (compareOp .NotEq) (rEqD X.K not):=by
 intro pins s σ H x y v u Q I rx ry h;obtain ⟨d,e,hd,he,c1,c2,dp,q⟩:=h;obtain ⟨as,ra⟩:=x8 I hd rx;obtain ⟨bs,rb⟩:=x8 I he ry;exact SeqAt.compareNe_reads ra rb c1 c2 (by omega) ⟨.bl _,H,I,rfl,q⟩
end
def dI (ns:Jh):PyData:=.list (ns.map PyData.int)
theorem za7 {K:Fg} {H:Hp}:∀ {ns:Jh},DVs K H (ns.map V.int) (ns.map PyData.int)
 | []=>.nil
 | n::ns=>.cons (.int n) za7
def dv_ints {K:Fg} {H:Hp} {a:Ad} {ns:Jh} (h:SqL K H a (ns.map V.int)):DV K H (.ref a) (dI ns):=.lst h za7
theorem Yl:∀ {ns:Jh},PyData.canLayAll0 (ns.map PyData.int)=true
 | []=>rfl
 | n::ns=>by
  rw [List.map_cons];show (PyData.canLay0 (.int n) && PyData.canLayAll0 (ns.map PyData.int))=true;rw [Yl];rfl
theorem Zv:∀ {ns:Jh},PyData.depthAll (ns.map PyData.int)<=1
 | []=>by decide
 | n::ns=>by
  have:=Zv (ns:=ns);rw [List.map_cons];show max (PyData.depth (.int n)) (PyData.depthAll (ns.map PyData.int))<=1;have e:PyData.depth (.int n)<=1:=by show _<=_;simp [PyData.depth]
  omega
end L2
namespace L2
open PySem
def dep_list {xs:List PyData} {n:Nat} (h:PyData.depthAll xs<=n):(PyData.list xs).depth<=n+1:=by
 have e:(PyData.list xs).depth=PyData.depthAll xs+1:=by first | rfl | (simp [PyData.depth];done) | (simp [PyData.depth];omega)
 omega
end L2
namespace L2
open PySem PySem.Spec PyProof.Rows
def zF {K:Fg} {H H':Hp} {a:Ad} {xs:Jt} (h:SqL K H a xs) (s:Same H H'):SqL K H' a xs:=by
 rcases h with h | h
 ·exact .inl (h.imp (λz=>s _ _ z) λ⟨o,z⟩=>⟨o,s _ _ z⟩)
 ·exact .inr h
def zU {H H':Hp} {a:Ad} {o:HO} (s:Same H H') (h:H a=none):Same H (upd H' a o):=λc x z=>by rw [zI (zT z h)];exact s _ _ z
def cutI (cs:Jh) (a b:Int):Jh:=(cs.drop (min a.toNat cs.length)).take (min b.toNat cs.length-min a.toNat cs.length)
def ZM {n d:Nat} {a:Int} (h:0<=a):HT.sIx n d (some a)=min a.toNat n:=by
 show (if a<0 then (a+(n:Int)).toNat else min a.toNat n)=min a.toNat n;rw [if_neg (by omega)]
def cutV_int {cs:Jh} {a b:Int} (ha:0<=a) (hb:0<=b):Ya (cs.map V.int) (some a) (some b)=(cutI cs a b).map V.int:=by
 unfold Ya cutI;rw [ZM ha,ZM hb,Jo,← List.map_drop,← List.map_take]
def cutV_take {cs:Jh} {b:Int} (hb:0<=b):Ya (cs.map V.int) none (some b)=(cs.take b.toNat).map V.int:=by
 unfold Ya;rw [HT.sIx_none,ZM hb,Jo,List.drop_zero,Nat.sub_zero,← List.map_take];congr 1;rw [List.take_eq_take_iff];omega
def cutV_from {cs:Jh} {a:Int} (ha:0<=a):Ya (cs.map V.int) (some a) none=(cs.drop a.toNat).map V.int:=by
 unfold Ya;rw [HT.sIx_none,ZM ha,Jo,← List.map_drop,← List.map_take];congr 1;by_cases h:a.toNat<=cs.length
 ·rw [Nat.min_eq_left h]
  exact List.take_of_length_le (by rw [List.length_drop];omega)
 ·have e1:cs.drop cs.length=[]:=List.drop_length
  have e2:cs.drop a.toNat=[]:=List.drop_eq_nil_of_le (by omega);rw [Nat.min_eq_right (by omega),e1,e2];simp
section
variable {P:Program} {w:World} {K:Fg} {mg:J0} {base:Heap}
def InitIn (K:Fg) (C:Ad) (qual:Str) (st:Stmt) (ps:Jl):Prop:=∃ (f:Ad) (fd:FuncData),Mk K C f/\Fun K "__init__" qual st f fd/\Binds K fd ps []
def OkI (P:Program) (w:World) (K:Fg) (mg:J0) (base:Heap) (CX:CXT) (k:Nat) (C:Ad) (ps:Jl) (sp:Sp):Prop :=
 ∃ (f:Ad) (fd:FuncData),Mk K C f/\Binds K fd ps []/\FnOk P w K mg base CX k f fd ps sp
end
section
variable {X:Cx} {CX:CXT} {k:Nat} {C:Ad} {ps:Jl} {sp:Sp} {E:XK} {x m:Str} {p pos apos:Pos} {e o:Expr} {es:Jn} {ta:TE} {t:TA}
end
def ixN_nat {n:Nat} {i:Int} (h0:0<=i) (h1:i<n):ixN n i=some i.toNat:=by
 unfold ixN;rw [if_pos h0,if_pos h1]
def FH (K:Fg) (x qual:Str) (st:Stmt) (f:Ad):Prop:=∃ (oc:Vl) (od:Option Ad) (kV dc pm:Vl) (an:Option Ad) (cd ct:Vl) (sl:Array (Jk)),K.lookup f=some ⟨oc,od,.func (PySem.W.fnOf x qual (yy st) (yf st) (zh st) .none kV dc pm an cd ct),sl⟩/\PySem.W.codeIn K cd qual=true/\PySem.W.keepIn K (.ref f)=true
def DH (K:Fg) (x:Str) (st:Stmt) (f:Ad):Prop:=PySem.W.nsIn K mainGlobals x=some (some (.ref f))/\FH K x x st f
def MH (K:Fg) (C:Ad) (x qual:Str) (st:Stmt):Prop:=∃ f:Ad,(PySem.W.findIn K (.ref C) x=some (some (.ref f))/\PySem.W.isFn K (.ref f)=true)/\FH K x qual st f
def CH (K:Fg) (C:Ad):Prop:=PySem.W.plainGet K C Str.empty=true/\PySem.W.hasDictIn K C=true/\PySem.W.plainOver K C=true/\PySem.W.findIn K (.ref C) "__setattr__"=some (some (.builtin "object.__setattr__"))
def FN (K:Fg) (C:Ad):Jl->Prop
 | []=>True
 | f::r=>PySem.W.findIn K (.ref C) f=some none/\FN K C r
section
variable {K:Fg} {mg:J0} {x qual:Str} {st:Stmt} {f C:Ad} {h:Heap} {ps:Jl}
def DH.d (d:DH K x st f) (X:K.In h) (G:h.Ns mainGlobals mg)
  (b:∀ (kV doc pm:Vl) (an:Option Ad) (cdv ct:Vl) (us:Jj),us.length=ps.length->bindArgs (PySem.W.fnOf x x (yy st) (yf st) (zh st) .none kV doc pm an cdv ct) ⟨us,[]⟩=pure (ps.zip us)):zp K mg x st ps :=
 by obtain ⟨a,_,_,_,_,_,_,_,_,_,l,c,k⟩:=d;exact defIn_mk X G a l c k b
def MH.i (d:MH K C "__init__" qual st) (mk:PySem.W.makesIn K C=true) (kC:PySem.W.keepIn K (.ref C)=true)
  (b:∀ (kV doc pm:Vl) (an:Option Ad) (cdv ct:Vl) (us:Jj),us.length=ps.length->bindArgs (PySem.W.fnOf "__init__" qual (yy st) (yf st) (zh st) .none kV doc pm an cdv ct) ⟨us,[]⟩=pure (ps.zip us)):InitIn K C qual st ps :=
 by obtain ⟨f,⟨a,n⟩,_,_,_,_,_,_,_,_,_,l,c,k⟩:=d;exact ⟨f,_,⟨mk,a,n,kC⟩,Xa l c k,(Xa l c k).binds b⟩
def CH.c (d:CH K C):Cls K C:=⟨d.1,d.2.1,d.2.2.1,d.2.2.2⟩
end
end L2
namespace L2
open PySem
def DH.mk {K:Fg} {x:Str} {st:Stmt} {f:Ad} {oc:Vl} {od an:Option Ad} {kV dc pm cd ct:Vl} {sl:Array (Jk)} (a:PySem.W.nsIn K mainGlobals x=some (some (.ref f))) (l:K.lookup f=some ⟨oc,od,.func (PySem.W.fnOf x x (yy st) (yf st) (zh st) .none kV dc pm an cd ct),sl⟩) (c:PySem.W.codeIn K cd x=true) (k:PySem.W.keepIn K (.ref f)=true):DH K x st f:=⟨a,_,_,_,_,_,_,_,_,_,l,c,k⟩
def MH.mk {K:Fg} {C:Ad} {x qual:Str} {st:Stmt} {f:Ad} {oc:Vl} {od an:Option Ad} {kV dc pm cd ct:Vl} {sl:Array (Jk)} (a:PySem.W.findIn K (.ref C) x=some (some (.ref f))) (n:PySem.W.isFn K (.ref f)=true) (l:K.lookup f=some ⟨oc,od,.func (PySem.W.fnOf x qual (yy st) (yf st) (zh st) .none kV dc pm an cd ct),sl⟩) (c:PySem.W.codeIn K cd qual=true) (k:PySem.W.keepIn K (.ref f)=true):MH K C x qual st:=⟨f,⟨a,n⟩,_,_,_,_,_,_,_,_,_,l,c,k⟩
def scK {N P:Jl} {sc:Scope} (h:(decide (sc.kind=.function) && (!sc.isCoroutine && (!sc.isGenerator && (decide N.Nodup && (decide (N.take P.length=P) && ((P.all λx=>decide (sc.names.lookup x=some .local∨sc.names.lookup x=some .cell)) && sc.names.all λy=>decide (y.2≠.free)))))))=true:=by decide +kernel):FnScope N P sc:=by
 simp only [Bool.and_eq_true,decide_eq_true_eq,Bool.not_eq_true',List.all_eq_true] at h;obtain ⟨h1,h2,h3,h4,h5,h6,h7⟩:=h;exact ⟨h1,h2,h3,h4,h5,h6,h7⟩
def TB (K:Fg) (T:Ad):List (Str×Ad)->Prop
 | []=>True
 | p::r=>PySem.W.nsIn K T p.1=some (some (.ref p.2))/\TB K T r
def TN (K:Fg) (T:Ad):Jl->Prop
 | []=>True
 | x::r=>PySem.W.nsIn K T x=some none/\TN K T r
theorem TB.g {K:Fg} {T:Ad} {x:Str} {f:Ad}:∀ {L:List (Str×Ad)} (_:TB K T L) (i:Nat),L[i]?=some (x,f)->PySem.W.nsIn K T x=some (some (.ref f))
 | _::_,h,0,e=>by cases e;exact h.1
 | _::_,h,i+1,e=>TB.g h.2 i e
theorem TN.g {K:Fg} {T:Ad} {x:Str}:∀ {L:Jl} (_:TN K T L) (i:Nat),L[i]?=some x->PySem.W.nsIn K T x=some none
 | _::_,h,0,e=>by cases e;exact h.1
 | _::_,h,i+1,e=>TN.g h.2 i e
theorem FN.g {K:Fg} {C:Ad} {x:Str}:∀ {L:Jl} (_:FN K C L) (i:Nat),L[i]?=some x->PySem.W.findIn K (.ref C) x=some none
 | _::_,h,0,e=>by cases e;exact h.1
 | _::_,h,i+1,e=>FN.g h.2 i e
end L2
namespace L2
open PySem PySem.Spec PyProof.Rows
section
variable (P:Program) (w:World)
end
section
variable {P:Program} {w:World} {H H':Hp} {h h':Heap} {a:Ad} {o:HO}
end
section
variable {P:Program} {w:World} {H:Hp} {h h':Heap} {x e:Ad} {o':HO}
end
section
variable {fs fs' ex ex':Jm} {H H1 H2:Hp} {h h1 h2 h':Heap} {a x e:Ad} {o:HO}
end
section
variable {X:Cx} {pins:Ji} {σ:List (Ju)} {H H':Hp} {s:Sh} {h':Heap}
end
section
variable {X:Cx}
variable {a b:Expr} {ta tb:TE} {pos:Pos}
variable {tA tB':TT} {rest:Jn}
end
section
variable {X:Cx} {pins:Ji} {σ:St} {H:Hp} {s:Sh} {a:Ad} {xs ys:Jt}
end
section
variable {X:Cx} {pins:Ji} {σ:St} {H:Hp} {s:Sh} {E:Jg}
end
section
variable {X:Cx} {st:Stmt} {rest:List Stmt} {t u:TS} {e:Expr} {te:TE} {pos:Pos}
end
section
variable {X:Cx} {pos:Pos}
end
section
variable {X:Cx} {tg:Expr}
end
section
variable {X:Cx} {a b c:Expr} {ta tb tc:TE} {pos:Pos}
end
section
variable {prog:Program} {w:World} {A:Around} {E:Jg} {s:Sh} {K:Fg} {x dx C f:Ad} {mA:J0} {name:Str} {v:Vl}
end
section
variable {P:Program} {w:World} {H H':Hp} {h h':Heap} {a C dx:Ad} {fs fs':List (Str×V)}
end
section
variable {X:Cx} {pins:Ji} {σ:St} {H:Hp} {s:Sh} {a C dx:Ad} {fs:List (Str×V)} {f:Str} {v:V} {A:Around} {E:Jg}
end
section
variable {X:Cx} {o e value:Expr} {f:Str} {pos pos' tpos:Pos} {ta tv:TE}
end
section
variable {X:Cx} {pins:Ji} {σ:St} {H:Hp} {s:Sh} {A:Around} {E:Jg} {Q:Jg} {c:Vl} {b:Bool}
end
section
variable {X:Cx} {e:Expr} {es:Jn} {te:TE} {t:TA} {pos:Pos}
end
section
variable {X:Cx} {pins:Ji} {σ:St} {H:Hp} {s s':Sh}
end
section
variable {X:Cx} {CX:CXT} {k:Nat} {f C:Ad} {fd:FuncData} {ps:Jl} {sp:Sp} {dvs:Jt} {ds:Jj} {E:XK} {x m:Str} {p pos apos:Pos} {e o:Expr} {es:Jn} {ta:TE} {t:TA}
end
section
variable {X:Cx} {CX:CXT} {k:Nat} {f C:Ad} {fd:FuncData} {ps ks:Jl} {sp:Sp} {E:XK} {x m:Str} {p pos apos kpos:Pos} {e o:Expr} {es:Jn} {kws:List Keyword} {te ta:TE} {t tk:TA} {nm:Option Str}
variable {g:Jj->Jj->Jj} {gV:Jt->Jt->Jt}
end
section
variable {X:Cx} {x:Str} {p pos:Pos} {e:Expr} {es:Jn} {t:TA} {id T:String} {r:Jt->Hp->VK->Prop}
end
section
variable {κ:Type} [DecidableEq κ]
def zK (kvs:List (κ×V)) (k:κ):Ju:=(kvs.find? λkv=>decide (kv.1=k)).map (·.2)
def zP (kvs:List (κ×V)) (k:κ) (v:V):List (κ×V) :=
 if (kvs.any λkv=>decide (kv.1=k))=true then kvs.map (λkv=>if kv.1=k then (kv.1,v) else kv) else kvs++[(k,v)]
def dropK (kvs:List (κ×V)) (k:κ):List (κ×V):=kvs.filter λkv=>decide (kv.1≠k)
def yp {p:κ×V} {r:List (κ×V)} {k:κ} (e:p.1=k):zK (p::r) k=some p.2:=by simp [zK,List.find?_cons,e]
def yq {p:κ×V} {r:List (κ×V)} {k:κ} (e:¬ p.1=k):zK (p::r) k=zK r k:=by simp [zK,List.find?_cons,e]
theorem xf (k:κ):∀ kvs:List (κ×V),(kvs.any λkv=>decide (kv.1=k))=(zK kvs k).isSome
 | []=>rfl
 | p::r=>by
  rw [List.any_cons];by_cases e:p.1=k
  ·simp only [yp e,decide_eq_true e,Bool.true_or,Option.isSome_some]
  ·rw [yq e,decide_eq_false e,Bool.false_or];exact xf k r
theorem zak (k j:κ) (y:V):∀ kvs:List (κ×V),zK (kvs.map λkv=>if kv.1=k then (kv.1,y) else kv) j=(zK kvs j).map λx=>if j=k then y else x
 | []=>rfl
 | p::r=>by
  have ih:=zak k j y r;rw [List.map_cons];by_cases h:p.1=k
  ·rw [if_pos h]
   by_cases e:p.1=j
   ·rw [yp (p:=(p.1,y)) e,yp e,Option.map_some,if_pos (e.symm.trans h)]
   ·rw [yq (p:=(p.1,y)) e,yq e,ih]
  ·rw [if_neg h]
   by_cases e:p.1=j
   ·rw [yp (p:=p) e,yp e,Option.map_some,if_neg (λz=>h (e.trans z))]
   ·rw [yq (p:=p) e,yq e,ih]
theorem Xp (k j:κ) (y:V):∀ kvs:List (κ×V),zK kvs k=none->zK (kvs++[(k,y)]) j=if j=k then some y else zK kvs j
 | [],_=>by
  by_cases e:k=j
  ·rw [if_pos e.symm];exact yp (p:=(k,y)) e
  ·rw [if_neg (λz=>e z.symm)];exact yq (p:=(k,y)) e
 | p::r,hn=>by
  rw [List.cons_append];have hk:¬ p.1=k:=λz=>by rw [yp z] at hn;cases hn
  rw [yq hk] at hn;have ih:=Xp k j y r hn;by_cases e:p.1=j
  ·rw [yp e,yp e,if_neg (λz=>hk (e.trans z))]
  ·rw [yq e,yq e,ih]
def YI (kvs:List (κ×V)) (k j:κ) (y:V):zK (zP kvs k y) j=if j=k then some y else zK kvs j:=by
 unfold zP;by_cases a:(kvs.any λkv=>decide (kv.1=k))=true
 ·rw [if_pos a,zak]
  rw [xf] at a;by_cases e:j=k
  ·obtain ⟨x,hx⟩:=Option.isSome_iff_exists.mp a
   rw [if_pos e,e,hx,Option.map_some,if_pos rfl]
  ·rw [if_neg e]
   cases zK kvs j with
   | none=>rfl
   | some x=>rw [Option.map_some,if_neg e]
 ·rw [if_neg a]
  refine Xp k j y kvs ?_;rw [xf] at a
  cases q:zK kvs k with
  | none=>rfl
  | some x=>rw [q] at a;exact (a rfl).elim
def z3 (kvs:List (κ×V)) (k:κ) (v:V):(zP kvs k v).length<=kvs.length+1:=by
 unfold zP
 split
 ·rw [Jo];omega
 ·rw [Jp,q2z,List.length_nil];omega
def putK_new {kvs:List (κ×V)} {k:κ} (v:V) (h:zK kvs k=none):zP kvs k v=kvs++[(k,v)]:=by
 unfold zP;rw [xf,h];exact if_neg (by decide)
def RelO.isSome_eq {o:Ju} {u:Jk} (r:RelO o u):o.isSome=u.isSome:=by
 cases o with
 | none=>cases u with
  | none=>rfl
  | some _=>exact (show False from r).elim
 | some _=>cases u with
  | none=>exact (show False from r).elim
  | some _=>rfl
def RelO.getD {o:Ju} {u:Jk} {d:V} {d':Vl} (r:RelO o u) (rd:RelV d d'):RelV (o.getD d) (u.getD d'):=by
 cases o with
 | none=>cases u with
  | none=>exact rd
  | some _=>exact (show False from r).elim
 | some _=>cases u with
  | none=>exact (show False from r).elim
  | some _=>exact r
def KV.val {kvs:List (κ×V)} {vs:List (κ×Vl)} (r:KV kvs vs) (k:κ):RelO (zK kvs k) (valueAt vs k):=by
 unfold KV at r
 induction r with
 | nil=>exact True.intro
 | @cons p q ps qs h t ih =>
  obtain ⟨h1,h2⟩:=h;by_cases e:p.1=k
  ·have e':q.1=k:=h1.symm.trans e
   have b:valueAt (q::qs) k=some q.2:=by simp [valueAt,List.find?_cons,e']
   rw [yp e,b];exact h2
  ·have e':¬ q.1=k:=λz=>e (h1.trans z)
   have b:valueAt (q::qs) k=valueAt qs k:=by simp [valueAt,List.find?_cons,e']
   rw [yq e,b];exact ih
def KV.any {kvs:List (κ×V)} {vs:List (κ×Vl)} (r:KV kvs vs) (k:κ):(kvs.any λkv=>decide (kv.1=k))=vs.any λkv=>decide (kv.1=k):=by
 unfold KV at r
 induction r with
 | nil=>rfl
 | cons h t ih=>rw [List.any_cons,List.any_cons,ih,h.1]
def KV.repl {kvs:List (κ×V)} {vs:List (κ×Vl)} (r:KV kvs vs) (k:κ) {y:V} {u:Vl} (ry:RelV y u) :
  KV (kvs.map λkv=>if kv.1=k then (kv.1,y) else kv) (vs.map λkv=>if kv.1=k then (kv.1,u) else kv):=by
 unfold KV at r ⊢
 induction r with
 | nil=>exact .nil
 | @cons p q ps qs h t ih =>
  rw [List.map_cons,List.map_cons];refine .cons ?_ ih;obtain ⟨h1,h2⟩:=h;by_cases e:p.1=k
  ·rw [if_pos e,if_pos (h1.symm.trans e)];exact ⟨h1,ry⟩
  ·rw [if_neg e,if_neg (λz=>e (h1.trans z))];exact ⟨h1,h2⟩
def KV.put {kvs:List (κ×V)} {vs:List (κ×Vl)} (r:KV kvs vs) (k:κ) {y:V} {u:Vl} (ry:RelV y u):KV (zP kvs k y) (stored vs k u):=by
 unfold zP stored;rw [r.any k];by_cases e:(vs.any λkv=>decide (kv.1=k))=true
 ·rw [if_pos e,if_pos e];exact r.repl k ry
 ·rw [if_neg e,if_neg e];exact Paired.snoc r ⟨rfl,ry⟩
def KV.drop {kvs:List (κ×V)} {vs:List (κ×Vl)} (r:KV kvs vs) (k:κ):KV (dropK kvs k) (without vs k):=by
 unfold KV at r ⊢;unfold dropK without
 induction r with
 | nil=>exact .nil
 | @cons p q ps qs h t ih =>
  obtain ⟨h1,h2⟩:=h;rw [List.filter_cons,List.filter_cons];by_cases e:p.1=k
  ·have a:¬ decide (p.1≠k)=true:=by simp [e]
   have b:¬ decide (q.1≠k)=true:=by simp [h1.symm.trans e]
   rw [if_neg a,if_neg b];exact ih
  ·have e':¬ q.1=k:=λz=>e (h1.trans z)
   have a:decide (p.1≠k)=true:=by simp [e]
   have b:decide (q.1≠k)=true:=by simp [e']
   rw [if_pos a,if_pos b];exact .cons ⟨h1,h2⟩ ih
def KV.keys {kvs:List (κ×V)} {vs:List (κ×Vl)} (r:KV kvs vs):kvs.map (·.1)=vs.map (·.1):=by
 unfold KV at r
 induction r with
 | nil=>rfl
 | cons h t ih=>rw [List.map_cons,List.map_cons,ih,h.1]
def KV.length {kvs:List (κ×V)} {vs:List (κ×Vl)} (r:KV kvs vs):kvs.length=vs.length:=Paired.length r
end
def Ym {P:Program} {w:World} {k:Key} {u:Vl} (r:RelV (kV k) u):(zJ P w).is k u=true:=by
 cases k with
 | inl i=>obtain ⟨t,e⟩:=(show ∃ t,u=Value.int i t from r);subst e;exact za5 P w i t
 | inr x=>obtain ⟨t,e⟩:=(show ∃ t,u=Value.str x t from r);subst e;exact za4 P w x t
def kV_inj {a b:Key} (e:kV a=kV b):a=b:=by
 cases a with
 | inl i=>cases b with
  | inl j=>have e':V.int i=V.int j:=e;injection e' with e';rw [e']
  | inr y=>exact nomatch (show V.int i=V.str y from e)
 | inr x=>cases b with
  | inl j=>exact nomatch (show V.str x=V.int j from e)
  | inr y=>have e':V.str x=V.str y:=e;injection e' with e';rw [e']
theorem zaf:∀ {a b:List Key},a.map kV=b.map kV->a=b
 | [],[],_=>rfl
 | [],_::_,e=>by simp at e
 | _::_,[],e=>by simp at e
 | x::xs,y::ys,e=>by
  rw [List.map_cons,List.map_cons] at e;injection e with e1 e2
  rw [kV_inj e1,zaf e2]
theorem Z7 {P:Program} {w:World}:∀ {ks:List Key} {us:Jj},Vals (ks.map kV) us->ItemsAre (zJ P w) ks us
 | [],_,r=>by rw [List.map_nil] at r;cases r;exact .nil
 | k::ks,_,r=>by
  rw [List.map_cons] at r
  cases r with
  | cons h t=>exact .cons (Ym h) (Z7 t)
abbrev KT (H:Hp):List (List Key×V)->List (List Key×Ad×Vl)->Prop:=Paired λp q=>p.1=q.1/\H q.2.1=some (.tup (p.1.map kV))/\RelV p.2 q.2.2
def KT.val {H:Hp} {kvs:List (List Key×V)} {xs:List (List Key×Ad×Vl)} (r:KT H kvs xs) (k:List Key):RelO (zK kvs k) ((atKey xs k).map (·.2)):=by
 induction r with
 | nil=>exact True.intro
 | @cons p q ps qs h t ih =>
  obtain ⟨h1,_,h2⟩:=h;by_cases e:p.1=k
  ·have e':q.1=k:=h1.symm.trans e
   have b:atKey (q::qs) k=some q.2:=by simp [atKey,List.find?_cons,e']
   rw [yp e,b];exact h2
  ·have e':¬ q.1=k:=λz=>e (h1.trans z)
   have b:atKey (q::qs) k=atKey qs k:=by simp [atKey,List.find?_cons,e']
   rw [yq e,b];exact ih
def KT.repl {H:Hp} {kvs:List (List Key×V)} {xs:List (List Key×Ad×Vl)} (r:KT H kvs xs) (k:List Key) {y:V} {u:Vl} (ry:RelV y u) :
  KT H (kvs.map λkv=>if kv.1=k then (kv.1,y) else kv) (xs.map (putAt k u)):=by
 induction r with
 | nil=>exact .nil
 | @cons p q ps qs h t ih =>
  rw [List.map_cons,List.map_cons];refine .cons ?_ ih;obtain ⟨h1,h2,h3⟩:=h;unfold putAt;by_cases e:p.1=k
  ·rw [if_pos e,if_pos (h1.symm.trans e)];exact ⟨h1,h2,ry⟩
  ·rw [if_neg e,if_neg (λz=>e (h1.trans z))];exact ⟨h1,h2,h3⟩
def KT.put {H:Hp} {kvs:List (List Key×V)} {xs:List (List Key×Ad×Vl)} (r:KT H kvs xs) (k:List Key) {b:Ad} {y:V} {u:Vl} (hb:H b=some (.tup (k.map kV))) (ry:RelV y u) :
  KT H (zP kvs k y) (storedH xs k b u):=by
 have e:(kvs.any λkv=>decide (kv.1=k))=(atKey xs k).isSome:=by
  rw [xf,(r.val k).isSome_eq,Option.isSome_map]
 unfold zP storedH;rw [e];by_cases q:(atKey xs k).isSome=true
 ·rw [if_pos q,if_pos q];exact r.repl k ry
 ·rw [if_neg q,if_neg q];exact Paired.snoc r ⟨rfl,hb,ry⟩
def KT.keeps {H H':Hp} {kvs:List (List Key×V)} {xs:List (List Key×Ad×Vl)} (r:KT H kvs xs) (ht:∀ b ys,H b=some (.tup ys)->H' b=some (.tup ys)):KT H' kvs xs :=
 Paired.mapP r λ_ _ z=>⟨z.1,ht _ _ z.2.1,z.2.2⟩
section
variable {P:Program} {w:World} {H:Hp} {h:Heap} {a:Ad}
def rd_of {u:HO} (ok:HOk P w H h) (e:Rd H a u):ObjOk P w H h a u:=e.ok ok
def Yq {kvs:Jr} (ok:HOk P w H h) (e:Rd H a (.dK kvs)):kvs.length<=sizeLine/\(a == sysModules)=false/\∃ vs,KV kvs vs/\h.DictOf (zJ P w) a vs :=
 show ObjOk P w H h a (.dK kvs) from rd_of ok e
def dk_of {kvs:Jr} (ok:HOk P w H h) (e:H a=some (.dK kvs)):kvs.length<=sizeLine/\(a == sysModules)=false/\∃ vs,KV kvs vs/\h.DictOf (zJ P w) a vs:=Yq ok (.inl e)
def x5 {ks:List Key} (ok:HOk P w H h) (e:H a=some (.tup (ks.map kV))):(tupleKind (zJ P w)).is h ks a:=by
 obtain ⟨_,its,r,o,h1,h2,n,h3⟩:=(show ObjOk P w H h a (.tup (ks.map kV)) from ok a _ e);exact ⟨o,its.toArray,n,h1,h2,h3,by simpa using Z7 r⟩
def Yo {kvs:List (List Key×V)} (ok:HOk P w H h) (e:Rd H a (.dT kvs)):kvs.length<=sizeLine/\(a == sysModules)=false /\
  ∃ xs,KT H kvs xs/\h.DictOfH (tupleKind (zJ P w)) a xs:=by
 obtain ⟨z,y,xs,r,o,es,ep,h1,h2,h3,h4,h5⟩:=(show ObjOk P w H h a (.dT kvs) from rd_of ok e);refine ⟨z,y,xs,r,o,es,ep,h1,h2,h3,h4,λx hx=>?_,h5⟩
 have all:∀ {l:List (List Key×V)} {m:List (List Key×Ad×Vl)},KT H l m->∀ x∈m,(tupleKind (zJ P w)).is h x.1 x.2.1:=by
  intro l m q
  induction q with
  | nil=>intro x hx;exact nomatch hx
  | @cons p q ps qs hq t ih =>
   intro x hx;rcases List.mem_cons.mp hx with e | hx
   ·subst e
    exact x5 ok (by rw [← hq.1];exact hq.2.1)
   ·exact ih x hx
 exact all r x hx
def dt_of {kvs:List (List Key×V)} (ok:HOk P w H h) (e:H a=some (.dT kvs)):kvs.length<=sizeLine/\(a == sysModules)=false /\
  ∃ xs,KT H kvs xs/\h.DictOfH (tupleKind (zJ P w)) a xs:=Yo ok (.inl e)
end
def DGet (H:Hp) (a:Ad) (y:V) (r:Ju):Prop :=
 (∃ kvs k,Rd H a (.dK kvs)/\y=kV k/\r=zK kvs k)∨∃ kvs k b,Rd H a (.dT kvs)/\y=.ref b/\H b=some (.tup (k.map kV))/\r=zK kvs k
def DPut (H:Hp) (a:Ad) (y v:V) (H':Hp):Prop :=
 (∃ kvs k,H a=some (.dK kvs)/\y=kV k/\kvs.length<sizeLine/\H'=upd H a (.dK (zP kvs k v))) ∨
 ∃ kvs k b,H a=some (.dT kvs)/\y=.ref b/\H b=some (.tup (k.map kV))/\kvs.length<sizeLine/\H'=upd H a (.dT (zP kvs k v))
def DGet.k {H:Hp} {a:Ad} {kvs:Jr} {k:Key} (e:H a=some (.dK kvs)):DGet H a (kV k) (zK kvs k):=.inl ⟨kvs,k,.inl e,rfl,rfl⟩
def DGet.t {H:Hp} {a b:Ad} {kvs:List (List Key×V)} {k:List Key} (e:H a=some (.dT kvs)) (eb:H b=some (.tup (k.map kV))):DGet H a (.ref b) (zK kvs k):=.inr ⟨kvs,k,b,.inl e,rfl,eb,rfl⟩
def DPut.k {H:Hp} {a:Ad} {kvs:Jr} {k:Key} {v:V} (e:H a=some (.dK kvs)) (hl:kvs.length<sizeLine):DPut H a (kV k) v (upd H a (.dK (zP kvs k v))):=.inl ⟨kvs,k,e,rfl,hl,rfl⟩
def DPut.t {H:Hp} {a b:Ad} {kvs:List (List Key×V)} {k:List Key} {v:V} (e:H a=some (.dT kvs)) (eb:H b=some (.tup (k.map kV))) (hl:kvs.length<sizeLine) :
  DPut H a (.ref b) v (upd H a (.dT (zP kvs k v))):=.inr ⟨kvs,k,b,e,rfl,eb,hl,rfl⟩
section
variable {X:Cx} {pins:Ji} {σ:St} {H:Hp} {s:Sh} {a:Ad} {y v:V} {u r:Vl} {o:Ju} {A:Around} {E:Jg}
def Inv.big (I:Inv X pins σ H s):sysModules<s.heap.objs.size:=by
 have h:mainGlobals<s.heap.objs.size:=(I.mod.glob.keeps I.bk).lt;exact Nat.lt_trans (by decide) h
def d_getItem {Q:Jg} (hu:A.units+1<cLine) (I:Inv X pins σ H s) (g:DGet H a y (some v)) (ry:RelV y u) (h:∀ w' s',Inv X pins σ H s'->RelV v w'->Q w' s') :
  wpAny (model X.prog X.w) A (getItem (.ref a) u) Q E s:=by
 rcases g with ⟨kvs,k,e,ey,l⟩ | ⟨kvs,k,b,e,ey,eb,l⟩
 ·subst ey
  obtain ⟨z,hd,vs,rel,dd⟩:=Yq I.hok e;obtain ⟨w',hw,rw'⟩:=RelO.some_of (v:=v) (o:=valueAt vs k) (by rw [l];exact rel.val k);exact wpAny_getItem_of (Ym ry) dd.mapOf hw (h w' _ (I.tok _) rw')
 ·subst ey
  cases (show u=Value.ref b from ry);obtain ⟨z,hd,xs,rel,dd⟩:=Yo I.hok e;obtain ⟨w',hw,rw'⟩:=RelO.some_of (v:=v) (o:=(atKey xs k).map (·.2)) (by rw [l];exact rel.val k);obtain ⟨p,hp,hp2⟩:=Option.map_eq_some_iff.mp hw;refine wpAny_getItem_heap (tupleKind_room_in1 hu) (x5 I.hok eb) dd hp ?_;rw [hp2];exact h w' _ (I.tok _) rw'
def d_in {Q:Jg} (hu:A.units+1<cLine) (I:Inv X pins σ H s) (g:DGet H a y o) (ry:RelV y u) (h:∀ s',Inv X pins σ H s'->Q (.bool o.isSome) s') :
  wpAny (model X.prog X.w) A (compareOp .In u (.ref a)) Q E s:=by
 rcases g with ⟨kvs,k,e,ey,l⟩ | ⟨kvs,k,b,e,ey,eb,l⟩
 ·subst ey
  obtain ⟨z,hd,vs,rel,dd⟩:=Yq I.hok e;refine wpAny_in_of (Ym ry) hd dd.mapOf ?_;rw [← (rel.val k).isSome_eq,← l];exact h _ (I.tok _)
 ·subst ey
  cases (show u=Value.ref b from ry);obtain ⟨z,hd,xs,rel,dd⟩:=Yo I.hok e;refine wpAny_in_heap (tupleKind_room_in1 hu) (x5 I.hok eb) hd dd ?_;have q:=(rel.val k).isSome_eq;rw [Option.isSome_map] at q;rw [← q,← l];exact h _ (I.tok _)
def d_notIn {Q:Jg} (hu:A.units+1<cLine) (I:Inv X pins σ H s) (g:DGet H a y o) (ry:RelV y u) (h:∀ s',Inv X pins σ H s'->Q (.bool (!o.isSome)) s') :
  wpAny (model X.prog X.w) A (compareOp .NotIn u (.ref a)) Q E s:=by
 rcases g with ⟨kvs,k,e,ey,l⟩ | ⟨kvs,k,b,e,ey,eb,l⟩
 ·subst ey
  obtain ⟨z,hd,vs,rel,dd⟩:=Yq I.hok e;refine wpAny_notIn_of (Ym ry) hd dd.mapOf ?_;rw [← (rel.val k).isSome_eq,← l];exact h _ (I.tok _)
 ·subst ey
  cases (show u=Value.ref b from ry);obtain ⟨z,hd,xs,rel,dd⟩:=Yo I.hok e;refine wpAny_notIn_heap (tupleKind_room_in1 hu) (x5 I.hok eb) hd dd ?_;have q:=(rel.val k).isSome_eq;rw [Option.isSome_map] at q;rw [← q,← l];exact h _ (I.tok _)
def YB {h':Heap} {t':Nat} {ob:HO} (I:Inv X pins σ H s) (mu:Mut (H a)) (hs:Heap.SameBut a s.heap h') (he:∃ q,h'.get? a=some q) (new:ObjOk X.prog X.w (upd H a ob) h' a ob) :
  Inv X pins σ (upd H a ob) { s with heap:=h',toks:=t' } :=
 I.write (x:=a) (e:=a) mu (.inl rfl) (λb q hb z=>(hs.2 b hb).trans z) he new
def dk_new {P:Program} {w:World} {H':Hp} {h':Heap} {kvs:Jr} {vs:List (Key×Vl)} (z:kvs.length<=sizeLine) (hd:(a == sysModules)=false) (rel:KV kvs vs) (dd:h'.DictOf (zJ P w) a vs) :
  ObjOk P w H' h' a (.dK kvs):=⟨z,hd,vs,rel,dd⟩
def d_setItem {H':Hp} {Q:Unit->Sh->Prop} (hu:A.units+1<cLine) (I:Inv X pins σ H s) (g:DPut H a y v H') (ry:RelV y u) (rv:RelV v r) (h:∀ s',Inv X pins σ H' s'->Q () s') :
  wpAny (model X.prog X.w) A (setItem (.ref a) u r) Q E s:=by
 rcases g with ⟨kvs,k,e,ey,l,eH⟩ | ⟨kvs,k,b,e,ey,eb,l,eH⟩
 ·subst ey eH
  obtain ⟨z,hd,vs,rel,dd⟩:=dk_of I.hok e;have hz:vs.length<=sizeLine:=by rw [← rel.length];exact z
  have hl:(zP kvs k v).length<=sizeLine:=by have:=z3 kvs k v;omega
  refine wpAny_setItem_pairs (hsz:=hz) (Ym ry) dd λh' dd' hs=>h _ ?_;have he:∃ q,h'.get? a=some q:=let ⟨q,_,_,hq,_⟩:=dd';⟨q,hq⟩;exact YB I (by rw [e];exact True.intro) hs he (dk_new hl hd (rel.put k rv) dd')
 ·subst ey eH
  cases (show u=Value.ref b from ry);obtain ⟨z,hd,xs,rel,dd⟩:=dt_of I.hok e;have hz:xs.length<=sizeLine:=by rw [← Paired.length rel];exact z
  have hl:(zP kvs k v).length<=sizeLine:=by have:=z3 kvs k v;omega
  refine wpAny_setItem_heap (hsz:=hz) (tupleKind_room_in1 hu) (x5 I.hok eb) dd λh' dd' hs=>h _ ?_;obtain ⟨q,es,ep,hq,h2,h3,h4,_,h5⟩:=dd';refine YB I (by rw [e];exact True.intro) hs ⟨q,hq⟩ ⟨hl,hd,_,(rel.put k eb rv).keeps λc ys ec=>?_,q,es,ep,hq,h2,h3,h4,h5⟩;rw [zI (ne_of ec e (λz=>nomatch z))];exact ec
end
section
variable {X:Cx} {pins:Ji} {σ:St} {H:Hp} {s:Sh} {a:Ad} {kvs:Jr} {k:Key} {u:Vl} {A:Around} {E:Jg}
end
def NoSl (i:Expr):Prop:=∀ ov iv,subscripted i false ov iv=operate [ov,iv] (getItem ov iv)
def subD_of {prog:Program} {w:World} {A:Around} {E:Jg} {s:Sh} {env:Env} {value slice:Expr} {pos:Pos} {T id:String} {Q:Jg}
  (hl:typeLookup (.type T) "__getitem__"=pure (some (.builtin id))) (hs:NoSl slice)
  (h:wpAny (model prog w) A (eval value env) (λo s₁=>wpAny (model prog w) A (eval slice env) (λi s₂=>s₂.TypeIs o T/\wpAny (model prog w) A (getItem o i) Q E s₂) E s₁) E s) :
  wpAny (model prog w) A (eval (.Subscript value slice pos) env) Q E s:=by
 refine Subscript_ (wpAny_mono h (λo s₁ h₁=>wpAny_mono h₁ (λi s₂ h₂=>?_) λ_ _ x=>x) λ_ _ x=>x);obtain ⟨hT,h₂⟩:=h₂;unfold subscriptTail;refine q0x ?_;rw [getitemInPython_of_ne hT.not_modules];refine q0x (wpAny_specialOf hT hl ?_)
 have fin:wpAny (model prog w) A (subscripted slice false o i) (λr s₃=>wpAny (model prog w) A (letTemporaryGo value o r >>= λ_=>pure r) Q E s₃) E s₂:=by
  rw [hs o i];exact wpAny_operating (wpAny_mono h₂ (λr s₃ h₃=>q0x (wpAny_letTemporaryGo (q0y h₃))) λ_ _ x=>x)
 first
  | exact q0y (q0x fin)
  | exact q0x (q0y (q0x fin))
  | exact q0x fin
def zba {X:Cx} {pins:Ji} {σ:St} {H:Hp} {s:Sh} {a:Ad} {y:V} {o:Ju} (I:Inv X pins σ H s) (g:DGet H a y o):s.TypeIs (.ref a) "dict":=by
 rcases g with ⟨kvs,k,e,_,_⟩ | ⟨kvs,k,b,e,_,_,_⟩
 ·obtain ⟨_,_,vs,_,dd⟩:=Yq I.hok e
  exact dd.typeIs
 ·obtain ⟨_,_,xs,_,dd⟩:=Yo I.hok e
  exact dd.typeIs
inductive tDGet_S (Q:VK) (x y:V) (H2:Hp):Prop
 | mk (a v:_) (_:x=.ref a) (_:DGet H2 a y (some v)) (_:Q v H2)
def tDGet (td ty:TE):TE:=λσ H Q=>td σ H λx H1=>ty σ H1 λy H2=>tDGet_S Q x y H2
inductive sDPut_S (D:Ends) (σ:St) (v x y:V) (H3:Hp):Prop
 | mk (a H4:_) (_:x=.ref a) (_:DPut H3 a y v H4) (_:D.nx σ H4)
def sDPut (td ty tv:TE):TS:=λD σ H=>tv σ H λv H1=>td σ H1 λx H2=>ty σ H2 λy H3=>sDPut_S D σ v x y H3
section
variable {X:Cx} {o i e value:Expr} {pos pos' tpos:Pos} {td ty tv:TE}
def zL (hu:X.A.units+1<cLine) (ho:PE X o td) (hi:PE X i ty) (hs:NoSl i):PE X (.Subscript o i pos) (tDGet td ty):=by
 intro pins s σ H Q I h;refine subD_of PySem.F.slot_dict_getitem.lookup hs (thn (ho pins s σ H _ I h) λu s1 ⟨x,H1,I1,rx,q1⟩=>thn (hi pins s1 σ H1 _ I1 q1) λiv s2 ⟨y,H2,I2,ry,a,v,ex,g,q2⟩=>?_);subst ex;obtain rfl:u=Value.ref a:=rx;exact ⟨zba I2 g,d_getItem hu I2 g ry λw' s3 I3 rw'=>⟨v,H2,I3,rw',q2⟩⟩
def xa (hu:X.A.units+1<cLine) (ho:PE X o td) (hi:PE X i ty) (hv:PE X value tv) (hs:swapsWith value (some (.Subscript o i pos')) pos.line X.env=pure false) :
  PS X (.Assign [.Subscript o i pos'] value pos) (sDPut td ty tv):=by
 intro pins s σ H D I h;refine wpAny_Assign_Subscript (thn (hv pins s σ H _ I h) λr s1 ⟨v,H1,I1,rv,q1⟩=>thn (ho pins s1 σ H1 _ I1 q1) λu s2 ⟨x,H2,I2,rx,q2⟩=>thn (hi pins s2 σ H2 _ I2 q2) λiv s3 ⟨y,H3,I3,ry,a,H4,ex,g,q3⟩=>?_) hs;subst ex;obtain rfl:u=Value.ref a:=rx;exact d_setItem hu I3 g ry rv λs4 I4=>⟨σ,H4,I4,q3⟩
end
def za9 {P:Program} {w:World} {H:Hp} (h:Heap) (hb:sysModules<h.objs.size):ObjOk P w H (h.push { cls:=.type "dict",data:=.dict #[] }) h.objs.size (.dK []) :=
 ⟨Nat.zero_le _,beq_eq_false_iff_ne.mpr (Ne.symm (Nat.ne_of_lt hb)),[],.nil,Heap.DictOf.new h⟩
def dt_empty {P:Program} {w:World} {H:Hp} (h:Heap) (hb:sysModules<h.objs.size):ObjOk P w H (h.push { cls:=.type "dict",data:=.dict #[] }) h.objs.size (.dT []) :=
 ⟨Nat.zero_le _,beq_eq_false_iff_ne.mpr (Ne.symm (Nat.ne_of_lt hb)),[],.nil,_,#[],0,Heap.get?_push_size _ rfl,⟨rfl,rfl,rfl⟩,rfl,rfl,List.nodup_nil⟩
def tDNewK:TE:=λ_ H Q=>∀ p,H p=none->Q (.ref p) (upd H p (.dK []))
def tDNewT:TE:=λ_ H Q=>∀ p,H p=none->Q (.ref p) (upd H p (.dT []))
section
variable {X:Cx} {pos:Pos}
def YY:PE X (.Dict [] [] pos) tDNewK:=λpins s σ H Q I h =>
 wpAny_Dict_empty ⟨.ref s.heap.objs.size,_,I.laid (a:=s.heap.objs.size) (o:=.dK []) (t':=s.toks) (λ_ _ q=>Heap.get?_push_of_some _ q) (Nat.le_refl _) (za9 s.heap I.big),rfl,h _ (I.hok.fresh (Nat.le_refl _))⟩
def YX:PE X (.Dict [] [] pos) tDNewT:=λpins s σ H Q I h =>
 wpAny_Dict_empty ⟨.ref s.heap.objs.size,_,I.laid (a:=s.heap.objs.size) (o:=.dT []) (t':=s.toks) (λ_ _ q=>Heap.get?_push_of_some _ q) (Nat.le_refl _) (dt_empty s.heap I.big),rfl,h _ (I.hok.fresh (Nat.le_refl _))⟩
end
def tPairs:List (TE×TE)->St->Hp->(List (V×V)->Hp->Prop)->Prop
 | [],_,H,Q=>Q [] H
 | (tk,tv)::r,σ,H,Q=>tk σ H λx H1=>tv σ H1 λy H2=>tPairs r σ H2 λps H3=>Q ((x,y)::ps) H3
abbrev VV:List (V×V)->List (Vl×Vl)->Prop:=Paired λp q=>RelV p.1 q.1/\RelV p.2 q.2
def PPs (X:Cx) (pos:Pos) (keys:List (Option Expr)) (values:Jn) (trs:List (TE×TE)):Prop :=
 ∀ (pins:Ji) (s:Sh) (σ:St) (H:Hp) (Q:List (V×V)->Hp->Prop),Inv X pins σ H s->tPairs trs σ H Q ->
  wpAny (model X.prog X.w) X.A (evalPairs (pairTrees keys values X.env pos)) (λvs s'=>∃ ps H',Inv X pins σ H' s'/\VV ps vs/\Q ps H') X.xe s
def pps_nil {X:Cx} {pos:Pos}:PPs X pos [] [] []:=λpins s σ H Q I h=>pairTrees_nil_walk ⟨[],H,I,.nil,h⟩
def xg {X:Cx} {pos:Pos} {k v:Expr} {ks:List (Option Expr)} {vs:Jn} {tk tv:TE} {trs:List (TE×TE)} (hk:PE X k tk) (hv:PE X v tv) (hr:PPs X pos ks vs trs) :
  PPs X pos (some k::ks) (v::vs) ((tk,tv)::trs):=λpins s σ H Q I h =>
 pairTrees_cons_walk (thn (hk pins s σ H _ I h) λu s1 ⟨x,H1,I1,rx,q1⟩=>thn (hv pins s1 σ H1 _ I1 q1) λw2 s2 ⟨y,H2,I2,ry,q2⟩ =>
  thn (hr pins s2 σ H2 _ I2 q2) λws s3 ⟨ps,H3,I3,rel,q3⟩=>⟨(x,y)::ps,H3,I3,.cons ⟨rx,ry⟩ rel,q3⟩)
def Y4 (kvs more:Jr):Jr:=more.foldl (λacc kv=>zP acc kv.1 kv.2) kvs
def KV.merge:∀ {more:Jr} {rs:List (Key×Vl)} {kvs:Jr} {vs:List (Key×Vl)},KV more rs->KV kvs vs->KV (Y4 kvs more) (merged vs rs):=by
 intro more rs kvs vs r;unfold KV at r
 induction r generalizing kvs vs with
 | nil=>intro q;exact q
 | @cons p q ps qs h t ih =>
  intro r0
  have e:KV (zP kvs p.1 p.2) (stored vs q.1 q.2):=by
   have:=r0.put p.1 h.2;rw [← h.1];exact this
  exact ih e
theorem Zu:∀ (more kvs:Jr),(Y4 kvs more).length<=kvs.length+more.length
 | [],kvs=>by show kvs.length<=kvs.length+0;omega
 | p::r,kvs=>by
  have h1:=Zu r (zP kvs p.1 p.2);have h2:=z3 kvs p.1 p.2;show (Y4 (zP kvs p.1 p.2) r).length<=_;rw [q2z];omega
theorem Xe {P:Program} {w:World}:∀ {kvs:Jr} {ws:List (Vl×Vl)},VV (kvs.map λkv=>(kV kv.1,kv.2)) ws->∃ rs,Carries (zJ P w) ws rs/\KV kvs rs
 | [],_,r=>by rw [List.map_nil] at r;cases r;exact ⟨[],True.intro,.nil⟩
 | p::kvs,_,r=>by
  rw [List.map_cons] at r
  cases r with
  | @cons a b as bs h t =>
   obtain ⟨rs,c,q⟩:=Xe (P:=P) (w:=w) t;obtain ⟨b1,b2⟩:=b;exact ⟨(p.1,b2)::rs,⟨Ym h.1,rfl,c⟩,.cons ⟨rfl,h.2⟩ q⟩
def tDisp (trs:List (TE×TE)):TE:=λσ H Q=>∀ p,H p=none->tPairs trs σ (upd H p (.dK [])) λps H2=>H2 p=some (.dK [])/\∃ kvs:Jr,ps=kvs.map (λkv=>(kV kv.1,kv.2))/\kvs.length<=15/\Q (.ref p) (upd H2 p (.dK (Y4 [] kvs)))
def pe_disp {X:Cx} {pos:Pos} {keys:List (Option Expr)} {values:Jn} {trs:List (TE×TE)} (h:PPs X pos keys values trs) (hall:keys.all (·.isSome)=true) (hl:keys.length=values.length) (h0:keys≠[])
  (h15:keys.length<=15):PE X (.Dict keys values pos) (tDisp trs):=by
 intro pins s σ H Q I q;have hn:=I.hok.fresh (Nat.le_refl s.heap.objs.size);have I1:=I.laid (a:=s.heap.objs.size) (o:=.dK []) (h':=s.heap.push { cls:=.type "dict",data:=.dict #[] }) (t':=s.toks) (λ_ _ q=>Heap.get?_push_of_some _ q) (Nat.le_refl _) (za9 s.heap I.big);refine wpAny_Dict_walk (knd:=zJ X.prog X.w) hall hl h0 h15 (thn (h pins _ σ _ _ I1 (q _ hn)) λws s2 ⟨ps,H2,I2,rel,e,kvs,ep,lk,q2⟩=>?_);subst ep;obtain ⟨rs,c,rk⟩:=Xe (P:=X.prog) (w:=X.w) rel;obtain ⟨z,hd,vs0,r0,dd⟩:=dk_of I2.hok e;cases r0;refine ⟨rs,c,dd,λh' dd' hs=>⟨.ref s.heap.objs.size,_,?_,rfl,q2⟩⟩
 have hz:(Y4 [] kvs).length<=sizeLine:=by
  have h1:=Zu kvs [];rw [List.length_nil] at h1;rw [sizeLine_eq];omega
 have he:∃ q,h'.get? s.heap.objs.size=some q:=let ⟨q,_,_,hq,_⟩:=dd';⟨q,hq⟩;exact YB I2 (by rw [e];exact True.intro) hs he (dk_new hz hd (rk.merge .nil) dd')
structure M1 (X:Cx) (o:Expr) (m:Str) (apos:Pos) (e:Expr) (cpos:Pos):Prop where
 base:attributeBase o m X.env (eval o X.env)=eval o X.env
 few:((backTo cpos (starEach [e] X.env)).all (λx=>!x.1) && (backToKw cpos (keywordEach [] X.env)).all (λx=>x.1.isSome)
  && decide (([e]:Jn).length+([]:List Keyword).length+(if ([]:List Keyword).isEmpty then 0 else 1)<30))=true
 line:(apos.endLine == cpos.line)=true
 trees:backTo cpos (starEach [e] X.env)=[(false,eval e X.env)]
structure M2 (X:Cx) (o:Expr) (m:Str) (apos:Pos) (e f:Expr) (cpos:Pos):Prop where
 base:attributeBase o m X.env (eval o X.env)=eval o X.env
 few:((backTo cpos (starEach [e,f] X.env)).all (λx=>!x.1) && (backToKw cpos (keywordEach [] X.env)).all (λx=>x.1.isSome)
  && decide (([e,f]:Jn).length+([]:List Keyword).length+(if ([]:List Keyword).isEmpty then 0 else 1)<30))=true
 line:(apos.endLine == cpos.line)=true
 trees:backTo cpos (starEach [e,f] X.env)=[(false,eval e X.env),(false,eval f X.env)]
def IsD (H:Hp) (a:Ad):Prop:=(∃ kvs,Rd H a (.dK kvs))∨∃ kvs,Rd H a (.dT kvs)
def Y9 {X:Cx} {pins:Ji} {σ:St} {H:Hp} {s:Sh} {a:Ad} (I:Inv X pins σ H s) (d:IsD H a) :
  s.TypeIs (.ref a) "dict"/\(∀ b,Value.ref a=.ref b->∃ ob,s.heap.get? b=some ob/\ob.dict=none)/\(a == sysModules)=false:=by
 rcases d with ⟨kvs,e⟩ | ⟨kvs,e⟩
 ·obtain ⟨_,hd,vs,_,dd⟩:=Yq I.hok e
  refine ⟨dd.typeIs,λb q=>?_,hd⟩;cases q;obtain ⟨ob,_,_,h1,h2,_⟩:=dd;exact ⟨ob,h1,h2.2.1⟩
 ·obtain ⟨_,hd,xs,_,dd⟩:=Yo I.hok e
  refine ⟨dd.typeIs,λb q=>?_,hd⟩;cases q;obtain ⟨ob,_,_,h1,h2,_⟩:=dd;exact ⟨ob,h1,h2.2.1⟩
section
variable {X:Cx} {pins:Ji} {σ:St} {H:Hp} {s:Sh} {a:Ad} {y d:V} {u r:Vl} {o:Ju} {A:Around} {E:Jg}
def d_get1 {Q:Jg} (hu:A.units+1<cLine) (I:Inv X pins σ H s) (g:DGet H a y o) (ry:RelV y u) (h:∀ w' s',Inv X pins σ H s'->RelV (o.getD .non) w'->Q w' s') :
  wpAny (model X.prog X.w) A (call (.builtin "dict.get") [.ref a,u]) Q E s:=by
 rcases g with ⟨kvs,k,e,ey,l⟩ | ⟨kvs,k,b,e,ey,eb,l⟩
 ·subst ey
  obtain ⟨z,hd,vs,rel,dd⟩:=Yq I.hok e;refine call_meetsIn PySem.F.slot_dict_get dd.typeIs PySem.F.entry_dict_get (PySem.F.args_dict_get_2 _ _) (meets_dict_get (zJ X.prog X.w) a (Ym ry) hd) ⟨_,dd.mapOf,h _ _ (I.tok _) ?_⟩;rw [l];exact (rel.val k).getD rfl
 ·subst ey
  cases (show u=Value.ref b from ry);obtain ⟨z,hd,xs,rel,dd⟩:=Yo I.hok e;refine call_meetsIn PySem.F.slot_dict_get dd.typeIs PySem.F.entry_dict_get (PySem.F.args_dict_get_2 _ _) (meetsH_dict_get (tupleKind (zJ X.prog X.w)) a b hd) ⟨tupleKind_room_in1 hu,k,xs,x5 I.hok eb,dd,h _ _ (I.tok _) ?_⟩;rw [l];exact (rel.val k).getD rfl
def d_get2 {Q:Jg} (hu:A.units+1<cLine) (I:Inv X pins σ H s) (g:DGet H a y o) (ry:RelV y u) (rd:RelV d r) (h:∀ w' s',Inv X pins σ H s'->RelV (o.getD d) w'->Q w' s') :
  wpAny (model X.prog X.w) A (call (.builtin "dict.get") [.ref a,u,r]) Q E s:=by
 rcases g with ⟨kvs,k,e,ey,l⟩ | ⟨kvs,k,b,e,ey,eb,l⟩
 ·subst ey
  obtain ⟨z,hd,vs,rel,dd⟩:=Yq I.hok e;refine call_meetsIn PySem.F.slot_dict_get dd.typeIs PySem.F.entry_dict_get (PySem.F.args_dict_get_3 _ _ _) (meets_dict_get_default (zJ X.prog X.w) a (Ym ry) hd r) ⟨_,dd.mapOf,h _ _ (I.tok _) ?_⟩;rw [l];exact (rel.val k).getD rd
 ·subst ey
  cases (show u=Value.ref b from ry);obtain ⟨z,hd,xs,rel,dd⟩:=Yo I.hok e;refine call_meetsIn PySem.F.slot_dict_get dd.typeIs PySem.F.entry_dict_get (PySem.F.args_dict_get_3 _ _ _) (meetsH_dict_get_default (tupleKind (zJ X.prog X.w)) a b hd r) ⟨tupleKind_room_in1 hu,k,xs,x5 I.hok eb,dd,h _ _ (I.tok _) ?_⟩;rw [l];exact (rel.val k).getD rd
end
inductive tDGet1_S (ty:TE) (σ:St) (Q:VK) (x:V) (H1:Hp):Prop
 | mk (a:_) (_:x=.ref a) (_:IsD H1 a) (_:ty σ H1 λy H2=>∃ o,DGet H2 a y o/\Q (o.getD .non) H2)
def tDGet1 (td ty:TE):TE:=λσ H Q=>td σ H λx H1=>tDGet1_S ty σ Q x H1
inductive tDGet2_S (ty tx:TE) (σ:St) (Q:VK) (x:V) (H1:Hp):Prop
 | mk (a:_) (_:x=.ref a) (_:IsD H1 a) (_:ty σ H1 λy H2=>tx σ H2 λz H3=>∃ o,DGet H3 a y o/\Q (o.getD z) H3)
def tDGet2 (td ty tx:TE):TE:=λσ H Q=>td σ H λx H1=>tDGet2_S ty tx σ Q x H1
section
variable {X:Cx} {o e f:Expr} {apos cpos:Pos} {td ty tx:TE}
def zax (hu:X.A.units+1<cLine) (ho:PE X o td) (he:PE X e ty) (m:M1 X o "get" apos e cpos):PE X (.Call (.Attribute o "get" apos) [e] [] cpos) (tDGet1 td ty):=by
 intro pins s σ H Q I h;refine wpAny_Call_method m.base m.few m.line PySem.F.plainAttrs_dict PySem.F.slot_dict_get PySem.F.type_dict_get (thn (ho pins s σ H _ I h) λu s1 ⟨x,H1,I1,rx,a,ex,d,q1⟩=>?_);subst ex;obtain rfl:u=Value.ref a:=rx;obtain ⟨t1,t2,_⟩:=Y9 I1 d;refine ⟨t1,t2,?_⟩;rw [m.trees];refine Calls.callWith_builtin rfl (Calls.evalArgs_plain (Calls.spliced_cons (thn (he pins s1 σ H1 _ I1 q1) λiv s2 ⟨y,H2,I2,ry,ov,g,q2⟩=>Calls.spliced_nil ?_)));exact d_get1 hu I2 g ry λw' s3 I3 rw'=>⟨_,H2,I3,rw',q2⟩
def yI (hu:X.A.units+1<cLine) (ho:PE X o td) (he:PE X e ty) (hf:PE X f tx) (m:M2 X o "get" apos e f cpos):PE X (.Call (.Attribute o "get" apos) [e,f] [] cpos) (tDGet2 td ty tx):=by
 intro pins s σ H Q I h;refine wpAny_Call_method m.base m.few m.line PySem.F.plainAttrs_dict PySem.F.slot_dict_get PySem.F.type_dict_get (thn (ho pins s σ H _ I h) λu s1 ⟨x,H1,I1,rx,a,ex,d,q1⟩=>?_);subst ex;obtain rfl:u=Value.ref a:=rx;obtain ⟨t1,t2,_⟩:=Y9 I1 d;refine ⟨t1,t2,?_⟩;rw [m.trees]
 refine Calls.callWith_builtin rfl (Calls.evalArgs_plain (Calls.spliced_cons (thn (he pins s1 σ H1 _ I1 q1) λiv s2 ⟨y,H2,I2,ry,q2⟩ =>
  Calls.spliced_cons (thn (hf pins s2 σ H2 _ I2 q2) λfv s3 ⟨z,H3,I3,rz,ov,g,q3⟩=>Calls.spliced_nil ?_))))
 exact d_get2 hu I3 g ry rz λw' s4 I4 rw'=>⟨_,H3,I4,rw',q3⟩
end
section
variable {X:Cx} {pins:Ji} {σ:St} {H:Hp} {s:Sh} {a:Ad} {kvs:Jr} {A:Around} {E:Jg}
end
section
variable {X:Cx} {pins:Ji} {σ:St} {H:Hp} {s:Sh} {a:Ad} {y:V} {u:Vl} {A:Around} {E:Jg}
end
end L2
namespace Att
open PySem PySem.W PySem.Calls PyProof.Rows
section
variable {prog:Program} {w:World} {A:Around} {E:Jg} {s:Sh} {K:Frag}
end
end Att
namespace L2
open PySem PySem.Spec PyProof.Rows
section
variable {P:Program} {w:World} {K:Fg} {mg:J0} {base:Heap}
end
section
variable {X:Cx}
end
section
variable {κ:Type} [DecidableEq κ]
def YJ {kvs:List (κ×V)} {k:κ} (h:zK kvs k=none):¬ k∈kvs.map (·.1):=by
 intro m;obtain ⟨p,hp,e⟩:=List.mem_map.mp m;have q:(kvs.any λkv=>decide (kv.1=k))=true:=List.any_eq_true.mpr ⟨p,hp,decide_eq_true e⟩;rw [xf,h] at q;exact absurd q (by simp)
theorem nd_snoc:∀ {l:List κ} {k:κ},l.Nodup->¬ k∈l->(l++[k]).Nodup
 | [],k,_,_=>by simp
 | a::r,k,h,hk=>by
  obtain ⟨h1,h2⟩:=List.nodup_cons.mp h;show (a::(r++[k])).Nodup;refine List.nodup_cons.mpr ⟨λm=>?_,nd_snoc h2 λm=>hk (List.mem_cons.mpr (Or.inr m))⟩;rcases List.mem_append.mp m with q | q
  ·exact h1 q
  ·exact hk (List.mem_cons.mpr (Or.inl (List.mem_singleton.mp q).symm))
def nd_putK {kvs:List (κ×V)} {k:κ} (v:V) (hn:(kvs.map (·.1)).Nodup) (h:zK kvs k=none):((zP kvs k v).map (·.1)).Nodup:=by
 rw [putK_new v h,Jq];exact nd_snoc hn (YJ h)
end
section
variable {X:Cx}
end
structure Hd (B:Hp) (L:Js) (H:Hp):Prop where
 nd:(L.map Prod.fst).Nodup
 nw:∀ p∈L,B p.1=none
 st:∀ p∈L,H p.1=some p.2
 sm:Same B H
namespace Hd
variable {B:Hp} {L:Js} {H H':Hp} {a b:Ad} {o o':HO}
def base:Hd B [] B:=⟨List.nodup_nil,(λ_ h=>nomatch h),(λ_ h=>nomatch h),Same.refl B⟩
def get (h:Hd B L H) (i:Nat) (e:L[i]?=some (a,o)):H a=some o:=h.st _ (List.mem_of_getElem? e)
def same (h:Hd B L H) (s:Same H H'):Hd B L H':=⟨h.nd,h.nw,λp m=>s _ _ (h.st p m),h.sm.trans s⟩
def new (h:Hd B L H) (n:H a=none):Hd B ((a,o)::L) (upd H a o):=by
 have ne:∀ p∈L,p.1≠a:=λp m=>zT (h.st p m) n;refine ⟨List.nodup_cons.mpr ⟨λm=>?_,h.nd⟩,λp m=>?_,λp m=>?_,zU h.sm (h.sm.free n)⟩
 ·obtain ⟨p,mp,e⟩:=List.mem_map.mp m
  exact ne p mp e
 ·rcases List.mem_cons.mp m with rfl | m
  ·exact h.sm.free n
  ·exact h.nw p m
 ·rcases List.mem_cons.mp m with rfl | m
  ·exact zu
  ·rw [zI (ne p m)];exact h.st p m
def fst_set (i:Nat) (e:L[i]?=some (a,o)):(L.set i (a,o')).map Prod.fst=L.map Prod.fst:=by
 rw [List.map_set];apply List.ext_getElem?;intro j;rw [List.getElem?_set]
 split
 ·rename_i q
  subst q
  split
  ·rw [List.getElem?_map,e];rfl
  ·rename_i q
   rw [List.getElem?_eq_none (by omega)]
 ·rfl
def ne (h:Hd B L H) (i j:Nat) (ei:L[i]?=some (a,o)) (ej:L[j]?=some (b,o')) (hij:i≠j):a≠b:=λe=>by
 subst e;have h1:(L.map Prod.fst)[i]?=some a:=by rw [List.getElem?_map,ei];rfl
 have h2:(L.map Prod.fst)[j]?=some a:=by rw [List.getElem?_map,ej];rfl
 obtain ⟨b1,e1⟩:=List.getElem?_eq_some_iff.mp h1;obtain ⟨b2,e2⟩:=List.getElem?_eq_some_iff.mp h2
 have key:∀ (l:Jm),l.Nodup->∀ (i j:Nat) (b1:i<l.length) (b2:j<l.length),l[i]=l[j]->i=j:=by
  intro l hl
  induction l with
  | nil=>intro i j b1;cases b1
  | cons x r ih =>
   intro i j b1 b2 q;have nr:=List.nodup_cons.mp hl
   cases i with
   | zero =>
    cases j with
    | zero=>rfl
    | succ j=>exact absurd (by rw [List.getElem_cons_zero,List.getElem_cons_succ] at q;rw [q];exact List.getElem_mem _) nr.1
   | succ i =>
    cases j with
    | zero=>exact absurd (by rw [List.getElem_cons_zero,List.getElem_cons_succ] at q;rw [← q];exact List.getElem_mem _) nr.1
    | succ j=>rw [List.getElem_cons_succ,List.getElem_cons_succ] at q;rw [ih nr.2 i j _ _ q]
 exact hij (key _ h.nd i j b1 b2 (e1.trans e2.symm))
def chg (h:Hd B L H) (i:Nat) (e:L[i]?=some (a,o)) (k:∀ c u,c≠a->H c=some u->H' c=some u) (q:H' a=some o'):Hd B (L.set i (a,o')) H':=by
 have nb:B a=none:=h.nw _ (List.mem_of_getElem? e);refine ⟨by rw [fst_set i e];exact h.nd,λp m=>?_,λp m=>?_,λc u z=>k c u (zT z nb) (h.sm c u z)⟩
 ·rcases List.mem_or_eq_of_mem_set m with m | rfl
  ·exact h.nw p m
  ·exact nb
 ·obtain ⟨j,lt,ej⟩:=List.getElem_of_mem m
  have ej:(L.set i (a,o'))[j]?=some p:=by rw [List.getElem?_eq_getElem lt,ej]
  rw [List.getElem?_set] at ej
  split at ej
  ·split at ej
   ·cases ej;exact q
   ·cases ej
  ·rename_i hij
   obtain ⟨c,u⟩:=p;exact k c u (Ne.symm (h.ne i j e ej hij)) (h.get j ej)
def put (h:Hd B L H) (i:Nat) (e:L[i]?=some (a,o)):Hd B (L.set i (a,o')) (upd H a o'):=h.chg i e (λc u n z=>by rw [zI n];exact z) zu
def sql (h:Hd B L H) {K:Fg} {xs:Jt} (q:SqL K B a xs):SqL K H a xs:=zF q h.sm
def lst (h:Hd B L H) {K:Fg} {xs:Jt} (i:Nat) (e:L[i]?=some (a,.lst xs)):SqL K H a xs:=SqL.of (h.get i e)
def tup (h:Hd B L H) {K:Fg} {xs:Jt} (i:Nat) (e:L[i]?=some (a,.tup xs)):SqT K H a xs:=SqT.of (h.get i e)
def sub {L':Js} (h:Hd B L H) (s:List.Sublist L' L):Hd B L' H:=⟨h.nd.sublist (s.map _),λp m=>h.nw p (s.subset m),λp m=>h.st p (s.subset m),h.sm⟩
def tl {p:Ad×HO} (h:Hd B (p::L) H):Hd B L H:=h.sub (List.sublist_cons_self _ _)
def free (h:Hd B L H) (n:H a=none):B a=none:=h.sm.free n
def add (h:Hd B L H) (n:∀ p∈L,p.1≠a) (nb:B a=none) (e:H a=some o):Hd B ((a,o)::L) H:=by
 refine ⟨List.nodup_cons.mpr ⟨λm=>?_,h.nd⟩,λp m=>?_,λp m=>?_,h.sm⟩
 ·obtain ⟨p,mp,e⟩:=List.mem_map.mp m
  exact n p mp e
 ·rcases List.mem_cons.mp m with rfl | m
  ·exact nb
  ·exact h.nw p m
 ·rcases List.mem_cons.mp m with rfl | m
  ·exact e
  ·exact h.st p m
def made {C x dx l:Ad} {ox ol:HO} (h:Hd B L H) (nx:H x=none) (ndx:H dx=none) (ne:dx≠x) (k:∀ b u,b≠x->upd (upd H dx (.own x)) x (.ins C dx []) b=some u->H' b=some u)
  (nl:upd (upd H dx (.own x)) x (.ins C dx []) l=none) (ex:H' x=some ox) (el:H' l=some ol):Hd B ((l,ol)::(x,ox)::(dx,.own x)::L) H':=by
 have h1:Hd B ((dx,.own x)::L) (upd H dx (.own x)):=h.new ndx;have h2:Hd B ((x,.ins C dx [])::(dx,.own x)::L) (upd (upd H dx (.own x)) x (.ins C dx [])):=h1.new (by rw [zI (Ne.symm ne)];exact nx);have h3:Hd B ((x,ox)::(dx,.own x)::L) H':=h2.chg 0 rfl k ex;refine h3.add (λp m=>?_) (h2.free nl) el;rcases List.mem_cons.mp m with rfl | m
 ·exact zT (h2.get 0 rfl) nl
 ·exact zT (h2.st p (q1x _ m)) nl
def perm {B:Hp} {L L':Js} {H:Hp} (h:Hd B L H) (p:L.Perm L'):Hd B L' H:=⟨(p.map Prod.fst).nodup h.nd,λq m=>h.nw q (p.mem_iff.mpr m),λq m=>h.st q (p.mem_iff.mpr m),h.sm⟩
end Hd
section
variable {X:Cx} {st:Stmt} {t:TS} {e:Expr} {te:TE}
inductive tMid (t:TS) (D:Ends) (σ:St) (H:Hp):Prop
 | mk (M:St->Hp->Prop) (_:t { D with nx:=M } σ H) (_:∀ σ' H',M σ' H'->D.nx σ' H')
def yg (h:PS X st t):PS X st (tMid t):=by
 intro pins s σ H D I q;obtain ⟨M,q,k⟩:=q;refine thn (h pins s σ H _ I q) λf s1 z=>?_
 cases f with
 | next=>exact let ⟨σ',H',I',z⟩:=z;⟨σ',H',I',k _ _ z⟩
 | ret v=>exact z
 | brk=>exact z
 | cont=>exact z
end
def but (H:Hp) (ls:Jm):Hp:=λb=>if b∈ls then none else H b
def Xg {H:Hp} {ls:Jm} {b:Ad} (h:b∈ls):but H ls b=none:=by unfold but;rw [if_pos h]
def Zb {H:Hp} {ls:Jm} {b:Ad} {o:HO} (h:H b=some o) (n:b ∉ ls):but H ls b=some o:=by unfold but;rw [if_neg n];exact h
def but_sub {H:Hp} {ls:Jm}:Same (but H ls) H:=λb o z=>by
 unfold but at z
 split at z
 ·cases z
 ·exact z
namespace Hd
variable {B B':Hp} {L:Js} {H H':Hp} {a:Ad} {o:HO}
def but1 (h:H a=some o):Hd (but H [a]) [(a,o)] H:=⟨by simp,λp m=>by rw [List.mem_singleton.mp m];exact Xg (by simp),λp m=>by rw [List.mem_singleton.mp m];exact h,but_sub⟩
def into (h:Hd B [(a,o)] H):Same B (but H [a]):=λb u z=>Zb (h.sm _ _ z) (by
 intro q;have q:=List.mem_singleton.mp q;subst q;rw [h.nw _ (List.mem_singleton.mpr rfl)] at z;cases z)
end Hd
def but_inv {H:Hp} {a b:Ad} {o:HO} (h:but H [a] b=some o):b≠a/\H b=some o:=by
 unfold but at h
 split at h
 ·cases h
 ·rename_i z;exact ⟨λe=>z (by rw [e];exact List.mem_singleton_self a),h⟩
section
variable {X:Cx} {pins:Ji} {σ σ':St} {H H':Hp} {s s':Sh} {a:Ad} {xs:Jt}
end
namespace Hd
variable {B:Hp} {L L':Js} {H:Hp}
def split (h:Hd B L H) (s:List.Sublist L' L):Same B (but H (L'.map Prod.fst))/\Hd (but H (L'.map Prod.fst)) L' H:=by
 refine ⟨λb o z=>Zb (h.sm _ _ z) λm=>?_,(h.sub s).nd,λp m=>Xg (List.mem_map_of_mem m),(h.sub s).st,but_sub⟩;obtain ⟨p,mp,e⟩:=List.mem_map.mp m;have:=h.nw p (s.subset mp);rw [e] at this;rw [this] at z;cases z
end Hd
section
variable {X:Cx}
end
def zcd {xs:Jt} {a:Int} (ha:0<=a):Ya xs (some a) none=xs.drop a.toNat:=by
 unfold Ya;rw [HT.sIx_none,ZM ha];by_cases h:a.toNat<=xs.length
 ·rw [Nat.min_eq_left h]
  exact List.take_of_length_le (by rw [List.length_drop];omega)
 ·have e1:xs.drop xs.length=[]:=List.drop_length
  have e2:xs.drop a.toNat=[]:=List.drop_eq_nil_of_le (by omega);rw [Nat.min_eq_right (by omega),e1,e2];simp
section
variable {prog:Program} {w:World} {A:Around} {R:Result->Sh->Prop} {s:Sh}
theorem zce {elt target iter tst:Expr} {scope:Scope} {pos:Pos} {it acc:Vl} {env:Env} (I:Nat->Sh->Prop)
  (turn:∀ n s,I n s->wpAny (model prog w) A (pyNext it) (λr s₁=>match r with
   | none=>R (.ok .next) s₁
   | some v=>wpAny (model prog w) A (letOwnedTupleGo target it v) (λ_ s₂=>wpAny (model prog w) A (assign target env v) (λ_ s₃=>wpAny (model prog w) A (isTrue tst env (eval tst env)) (λok t₃=>match ok with
     | true=>wpAny (model prog w) A (eval elt env) (λx s₄=>wpAny (model prog w) A (call (.builtin "list.append") [acc,x]) (λ_ s₅=>∃ m,m<n/\I m s₅) (λ_ _=>False) s₄) (λ_ _=>False) t₃
     | false=>∃ m,m<n/\I m t₃) (λ_ _=>False) s₃) (λ_ _=>False) s₂) (λ_ _=>False) s₁) (λ_ _=>False) s)
  (n:Nat) (h:I n s):codeAny (model prog w) A (.compLoop (.ListComp elt [⟨target,iter,[tst],0⟩] scope pos) 0 it acc env) R s:=by
 refine codeAny_loop rfl I (λn s hI=>?_) n h;show wpAny _ _ ((compTurn (.ListComp elt [⟨target,iter,[tst],0⟩] scope pos) 0 it acc env).onRaise (λx=>do noteFrame x env;theTreesLotGoes x)) _ _ s;refine wpAny_noted ?_;rw [compTurn_list];refine q0x (wpAny_standAt (q0x (wpAny_mono (turn n s hI) (λr s₁ h₁=>?_) λ_ _ z=>z.elim)))
 cases r with
 | none=>exact q0y h₁
 | some v =>
  refine q0x (wpAny_mono h₁ (λ_ s₂ h₂=>?_) λ_ _ z=>z.elim);refine q0x (wpAny_mono h₂ (λ_ s₃ h₃=>?_) λ_ _ z=>z.elim);refine q0x (wpAny_tests_one (wpAny_mono h₃ (λok t₃ h₃=>?_) λ_ _ z=>z.elim))
  cases ok with
  | false=>exact q0y ⟨rfl,h₃⟩
  | true =>
   refine q0x (q0x (wpAny_mono h₃ (λx s₄ h₄=>?_) λ_ _ z=>z.elim));exact q0x (wpAny_mono h₄ (λ_ s₅ h₅=>q0y (q0y ⟨rfl,h₅⟩)) λ_ _ z=>z.elim)
end
inductive CompWF (J:It) (g:TG) (tt:TT) (te:TE) (σY:St) (H1:Hp) (D:Ad) (Q:VK):Prop
 | mk (W:Nat->Nat->St->Hp->Prop) (_:(∃ m,W 0 m σY H1)) (_:∀ i m σ' H',W i m σ' H'->(J.stop i H'/\Q (.ref D) H')∨(J.go i H'/\∃ N:St->Hp->Prop,(∀ σ2 H2,N σ2 H2->∃ m',m'<m/\W (i+1) m' σ2 H2)/\∀ x H2,J.yld i H' x H2->g x σ' H2 λσ3 H3=>tt σ3 H3 λb H4=>if b=true then te σ3 H4 λv H5=>∃ xs,H5 D=some (.lst xs)/\xs.length<sizeLine/\N σ3 (upd H5 D (.lst (xs++[v]))) else N σ3 H4)):CompWF J g tt te σY H1 D Q
inductive tCompF_S (g:TG) (tt:TT) (te:TE) (σ0:St->Hp->St->Prop) (σ:St) (Q:VK) (J:It) (H1:Hp):Prop
 | mk (σY:_) (_:σ0 σ H1 σY) (_:∀ D,H1 D=none->CompWF J g tt te σY (upd H1 D (.lst [])) D Q)
def tCompF (wi:TI) (g:TG) (tt:TT) (te:TE) (σ0:St->Hp->St->Prop):TE:=λσ H Q=>wi σ H λJ H1=>tCompF_S g tt te σ0 σ Q J H1
section
variable {X:Cx} {tg:Expr}
def zcf {iter elt tst:Expr} {scope:Scope} {pos pos':Pos} {cl:List (Str×Ad)} {NY:Jl} {wi:TI} {g:TG} {tt:TT} {te:TE} {σ0:St->Hp->St->Prop} (hc:X.calm=true) (S:Sees X scope cl) (hi:PI X tg iter wi)
  (hY:∀ (s3:Sh) (H3:Hp) (fp:Jm),PG (X.comp scope cl NY s3 H3 fp) tg g/\PT (X.comp scope cl NY s3 H3 fp) tst tt/\PE (X.comp scope cl NY s3 H3 fp) elt te)
  (h0:∀ (pins:Ji) (σ:St) (H:Hp) (s3:Sh) (σY:St),Inv X pins σ H s3->σ0 σ H σY->σY.length=NY.length/\∀ (i:Nat) (x:Str) (v:V),NY[i]?=some x->σY[i]?=some (some v) ->
   ∃ c u,(((compEnvC scope cl 0 X.env).kindOf x=some .cell∨(compEnvC scope cl 0 X.env).kindOf x=some .free))/\cl.lookup x=some c/\RelV v u/\s3.heap.IsCell c (some u))
  (hs:∀ x,foldedSetIterable iter X.env x=pure x) {use:Option (Vl->Sem Unit)} {R:Jg} {pins:Ji} {s:Sh} {σ:St} {H:Hp} {Q:VK} (I:Inv X pins σ H s) (h:tCompF wi g tt te σ0 σ H Q)
  (fin:∀ (C D:Ad) (H5:Hp) (s6:Sh),CompEnd X pins σ H5 s6 C->Q (.ref D) H5->compPost (model X.prog X.w) X.A X.xe use R (.ref D) C (.ok .next) s6) :
  wpAny (model X.prog X.w) X.A (comprehension (.ListComp elt [⟨tg,iter,[tst],0⟩] scope pos) scope X.env pos' (newList []) (firstAsync [⟨tg,iter,[tst],0⟩]) (firstIter [⟨tg,iter,[tst],0⟩] X.env) use) R X.xe s:=by
 refine wpAny_comprehension_free rfl hs S.clos S.kind S.names (thn (hi pins s σ H _ I h) λv s1 h1=>thn h1 λitv s2 h2=>?_);obtain ⟨it,fp,tn,J,H2,e,I2,T,st2,f2,σY,hσ,hW⟩:=h2;subst e;refine wpAny_newObj_type ?_;have I3:Inv X pins σ (upd H2 s2.heap.objs.size (.lst [])) (pz s2):=I2.lnew (t':=s2.toks) (its:=[]) .nil (Nat.zero_le _);obtain ⟨W,⟨m0,w0⟩,turn⟩:=hW s2.heap.objs.size (I2.hok.fresh (Nat.le_refl _));have ob2:=T.obj _ _ st2
 have hfp:∀ b∈fp,Yc X pins (upd H2 s2.heap.objs.size (.lst [])) b:=λb hb=>by
  obtain ⟨o,q,_⟩:=ob2 b hb;exact ⟨by rw [zI (Nat.ne_of_lt (Heap.lt_size q))];exact (f2 b hb).1,(f2 b hb).2⟩
 have hob:∀ b∈fp,∃ o,(s2.heap.push Lz).get? b=some o:=λb hb=>by
  obtain ⟨o,q,_⟩:=ob2 b hb;exact ⟨o,Heap.get?_push_of_some _ q⟩
 refine wpAny_newFunctionEnv S.nocell (λy hy=>absurd hy (by simp)) (λh1 hn1 hs1=>?_) S.kind;obtain ⟨hl,hY0⟩:=h0 pins σ H2 s2 σY I2 hσ;have k23:∀ b o,s2.heap.get? b=some o->(s2.heap.push Lz).get? b=some o:=λb o q=>Heap.get?_push_of_some _ q;have k34:∀ b o,(s2.heap.push Lz).get? b=some o->h1.get? b=some o:=λb o q=>(hs1.2 b (Nat.ne_of_lt (Heap.lt_size q))).trans (Heap.get?_push_of_some _ q)
 have I4:=zbd (scope:=scope) (cl:=cl) (NY:=NY) (fp:=fp) (h1:=h1) (t:=s2.toks) (σY:=σY) I3 S hfp hob hn1 k34 hl λi x v e1 e2=>by
  obtain ⟨c,u,k,q,r,o,z1,z2⟩:=hY0 i x v e1 e2;exact ⟨c,u,k,q,r,o,k23 _ _ z1,z2⟩
 have st4:tn 0 h1:=T.keep _ _ _ st2 λb hb o q=>k34 _ _ (k23 _ _ q);have fr4:∀ b∈fp,(upd H2 s2.heap.objs.size (.lst [])) b=none:=λb hb=>(hfp b hb).1;obtain ⟨hg,ht,he⟩:=hY (pz s2) (upd H2 s2.heap.objs.size (.lst [])) fp;have okY:=I4.ok
 have statY:∀ {H':Hp},(∀ b∈fp,H' b=none)->∀ b∈fp,Yc (Xz X scope cl NY s2 H2 fp) [] H' b :=
  λhn b hb=>⟨hn b hb,(okY.exf b hb).1,okY.exfs b hb,.inl hb,(okY.exf b hb).2,λp hp=>absurd hp (by simp)⟩
 have loop:codeAny (model X.prog X.w) X.A (.compLoop (.ListComp elt [⟨tg,iter,[tst],0⟩] scope pos) 0 (.ref it) (.ref s2.heap.objs.size) (compEnvC scope cl (s2.heap.push Lz).objs.size X.env))
   (compPost (model X.prog X.w) X.A X.xe use R (.ref s2.heap.objs.size) (s2.heap.push Lz).objs.size) { s2 with heap:=h1,toks:=s2.toks }:=by
  refine zce (λn s'=>∃ i σ' H',Inv (Xz X scope cl NY s2 H2 fp) [] σ' H' s'/\tn i s'.heap/\(∀ b∈fp,H' b=none)/\W i n σ' H') ?_ m0 ⟨0,σY,_,I4,st4,fr4,w0⟩;rintro n s5 ⟨i,σ5,H5,I5,st5,fr5,w5⟩;rcases turn i n σ5 H5 w5 with ⟨stop,q⟩ | ⟨go,N,hN,step⟩
  ·refine thn (T.done (Xz X scope cl NY s2 H2 fp) rfl rfl rfl hc i [] s5 σ5 H5 _ I5 (statY fr5) st5 stop) λr s6 ⟨hr,I6⟩=>?_
   subst hr;obtain ⟨m,hm,_⟩:=I6.loc;refine fin _ _ H5 s6 ⟨⟨m,hm⟩,I6.free,Ne.symm (Nat.ne_of_lt I3.lt),I3.sz,λx c z=>?_,λp hp=>?_,λh' hs'=>XC I3 hfp I6 hs'⟩ q
   ·obtain ⟨_,o,z1,_⟩:=I3.cell x c z
    exact Nat.ne_of_lt (Heap.lt_size z1)
   ·exact Nat.ne_of_lt (Heap.lt_size (I3.pin p hp).1)
  ·refine thn (T.item (Xz X scope cl NY s2 H2 fp) rfl rfl rfl hc i [] s5 σ5 H5 _ I5 (statY fr5) st5 go) λr s6 ⟨u,hr,h6⟩=>?_
   subst hr;refine thn h6 λ_ s7 ⟨x,H7,I7,r7,y7,st7,fr7⟩=>?_;have I7':=I7.pinned (statY fr7) (T.obj _ _ st7);refine thn (hg _ s7 σ5 H7 x u _ I7' r7 (step x H7 y7)) λ_ s8 ⟨σ8,H8,I8,q8⟩=>?_
   have pk:∀ {H':Hp} {s':Sh} {σ':St},Inv (Xz X scope cl NY s2 H2 fp) ([]++YW fp s7.heap) σ' H' s'->tn (i+1) s'.heap/\∀ b∈fp,H' b=none:=λI'=>by
    refine ⟨T.keep _ _ _ st7 λb hb o q=>(I'.pin (b,o) (q2x _ (q2x _ (yM hb q)))).1,λb hb=>?_⟩;obtain ⟨o,q,d⟩:=T.obj _ _ st7 b hb;exact (I'.pin (b,o) (q2x _ (q2x _ (yM hb q)))).2.1
   refine thn (ht _ s8 σ8 H8 _ I8 q8) λbb s8' ⟨H8',I8',q8'⟩=>?_
   cases bb with
   | false =>
    have q8':=(show N σ8 H8' by simpa using q8');obtain ⟨m',hm,w10⟩:=hN _ _ q8';exact ⟨m',hm,i+1,σ8,_,I8'.unpinned,(pk I8').1,(pk I8').2,w10⟩
   | true =>
    have q8':=(show te σ8 H8' _ by simpa using q8');refine thn (he _ s8' σ8 H8' _ I8' q8') λz s9 ⟨v9,H9,I9,r9,xs,hx9,hz9,n9⟩=>?_;refine thn (zW _ s9 σ8 H9 (.ref s2.heap.objs.size) [v9] (.ref s2.heap.objs.size) [z] (λ_ H'=>H'=upd H9 s2.heap.objs.size (.lst (xs++[v9]))) I9 rfl (.cons r9 .nil) ⟨s2.heap.objs.size,xs,v9,rfl,rfl,hx9,hz9,rfl⟩) λy s10 ⟨v10,H10,I10,_,e10⟩=>?_;subst e10;obtain ⟨m',hm,w10⟩:=hN _ _ n9;exact ⟨m',hm,i+1,σ8,_,I10.unpinned,(pk I10).1,(pk I10).2,w10⟩
 exact codeAny_compStart_list loop (T.self _ 0 _ _ _ st4 loop)
def ps_compF0 {iter elt tst:Expr} {scope:Scope} {pos pos' spos:Pos} {cl:List (Str×Ad)} {NY:Jl} {wi:TI} {g:TG} {tt:TT} {te:TE} {σ0:St->Hp->St->Prop} {i:Nat} {y:Str} (hc:X.calm=true) (S:∀ {pins σ H s},Inv X pins σ H s->Sees X scope cl) (hi:PI X tg iter wi)
  (hY:∀ (s3:Sh) (H3:Hp) (fp:Jm),PG (X.comp scope cl NY s3 H3 fp) tg g/\PT (X.comp scope cl NY s3 H3 fp) tst tt/\PE (X.comp scope cl NY s3 H3 fp) elt te)
  (h0:∀ (pins:Ji) (σ:St) (H:Hp) (s3:Sh) (σY:St),Inv X pins σ H s3->σ0 σ H σY->σY.length=NY.length/\∀ (i:Nat) (x:Str) (v:V),NY[i]?=some x->σY[i]?=some (some v) ->
   ∃ c u,(((compEnvC scope cl 0 X.env).kindOf x=some .cell∨(compEnvC scope cl 0 X.env).kindOf x=some .free))/\cl.lookup x=some c/\RelV v u/\s3.heap.IsCell c (some u))
  (hs:∀ x,foldedSetIterable iter X.env x=pure x) (hN:X.N.Nodup) (hi':X.N[i]?=some y) (hx:Loc X.env.scope y) (hf:X.fn y=true∨X.env.scope.names.lookup y=some .local)
  (hw:swapsWith (.ListComp elt [⟨tg,iter,[tst],0⟩] scope pos) (some (.Name y pos')) spos.line X.env=pure true):PS X (.Assign [.Name y pos'] (.ListComp elt [⟨tg,iter,[tst],0⟩] scope pos) spos) (tAsg (tCompF wi g tt te σ0) (Yn i)):=by
 intro pins s σ H D I h;rw [exec_Assign_Name_used _ _ _ _ hw,arm_evalThenUse_ListComp];refine q0x (wpAny_standAt (q0x (q0x (wpAny_mono (zcf (use:=some (assign (.Name y pos') X.env)) (R:=λ_ s'=>SP X pins D .next s') hc (S I) hi hY h0 hs I h λC L H5 s6 e q=>?_) (λ_ s' z=>q0y (q0y z)) λ_ _ z=>z))));obtain ⟨m,hm⟩:=e.ns;have I6:Inv X pins σ H5 s6:=e.inv s6.heap ⟨rfl,λ_ _=>rfl⟩;refine wpAny_assign_Name (Z0 I6 hN hi' hx (v:=.ref L) rfl (λs' I' ⟨a,sb,ha⟩=>?_) hf)
 have ne:C≠a:=by
  rintro rfl;rcases ha with z | z
  ·exact e.hL z
  ·exact e.h2 _ _ z rfl
 refine ⟨m,?_,λh' hs'=>?_⟩
 ·obtain ⟨o,es,ep,z,r⟩:=hm
  exact ⟨o,es,ep,(sb.2 _ ne).trans z,r⟩
 ·exact ⟨_,H5,I'.turned (t':=s'.toks) (it:=C) (λb o nb z=>(hs'.2 b nb).trans z) e.hn e.hL (.inr e.h1) e.h2 e.h3,q⟩
end
abbrev tCompFC (wi:TI) (g:TG) (tt:TT) (te:TE) (cap:List (Option Nat)):TE:=tCompF wi g tt te λσ _ σY=>σY=capt cap σ
section
variable {X:Cx} {tg:Expr}
def ZO {iter elt tst:Expr} {scope:Scope} {pos pos' spos:Pos} {wi:TI} {g:TG} {tt:TT} {te:TE} {i:Nat} {y:Str} (NY:Jl) (cap:List (Option Nat)) (hc:X.calm=true) (hk:YR X scope=true) (hcap:Xf X scope NY cap=true) (hi:PI X tg iter wi)
  (hY:∀ (s3:Sh) (H3:Hp) (fp:Jm),PG (X.comp scope (Za X.env scope) NY s3 H3 fp) tg g/\PT (X.comp scope (Za X.env scope) NY s3 H3 fp) tst tt/\PE (X.comp scope (Za X.env scope) NY s3 H3 fp) elt te) (hN:X.N.Nodup) (hi':X.N[i]?=some y) (hx:Loc X.env.scope y)
  (hf:X.fn y=true∨X.env.scope.names.lookup y=some .local:=by first | exact .inl rfl | exact .inr rfl) (hw:swapsWith (.ListComp elt [⟨tg,iter,[tst],0⟩] scope pos) (some (.Name y pos')) spos.line X.env=pure true:=by rfl)
  (hs:∀ x,foldedSetIterable iter X.env x=pure x:=by intro _;rfl):PS X (.Assign [.Name y pos'] (.ListComp elt [⟨tg,iter,[tst],0⟩] scope pos) spos) (tAsg (tCompFC wi g tt te cap) (Yn i)):=by
 refine ps_compF0 (NY:=NY) hc (λI=>ZF I.ok hk) hi hY (λpins σ H s3 σY I3 e=>?_) hs hN hi' hx hf hw;subst e;exact ZW I3 (ZF I3.ok hk) hcap
end
def xA {lo:Int} {n:Nat} {D:Ad} {g:TG} {tt:TT} {te:TE} {σY:St} {H1:Hp} {Q:VK} (Pv:Nat->St->Hp->Prop) (h0:Pv 0 σY H1)
  (hs:∀ i σ H,i<n->Pv i σ H->g (.int (lo+i)) σ H λσ3 H3=>tt σ3 H3 λb H4=>if b=true then te σ3 H4 λv H5=>∃ ys,H5 D=some (.lst ys)/\ys.length<sizeLine/\Pv (i+1) σ3 (upd H5 D (.lst (ys++[v]))) else Pv (i+1) σ3 H4) (hd:∀ σ H,Pv n σ H->Q (.ref D) H) :
  CompWF (Itr lo n) g tt te σY H1 D Q:=by
 refine ⟨λi m σ H=>m=n-i/\i<=n/\Pv i σ H,⟨n,by simp,Nat.zero_le _,h0⟩,?_⟩;rintro i m σ H ⟨rfl,hi,p⟩;by_cases hlt:i<n
 ·refine .inr ⟨hlt,Pv (i+1),λσ' H' p'=>⟨n-(i+1),by omega,rfl,hlt,p'⟩,λx H' y=>?_⟩
  obtain ⟨e,y⟩:=y;subst e y;exact hs i σ _ hlt p
 ·have e:i=n:=by omega
  subst e;exact .inl ⟨Nat.le_refl _,hd σ H p⟩
section
variable {X:Cx} {pins:Ji} {σ σ':St} {H H':Hp} {s s':Sh} {a:Ad} {kvs:Jr}
def Inv.hideD (I:Inv X pins σ H s) (e:H a=some (.dK kvs)):∃ (ob:Obj) (es:Array DictEntry) (ep:Nat) (vs:List (Key×Vl)),KV kvs vs/\(ob.ExactDict/\ob.data=.dict es ep/\PySem.KeysOf (zJ X.prog X.w) es/\PySem.Pairs (zJ X.prog X.w) es.toList vs/\(vs.map (λx=>x.fst)).Nodup)/\s.heap.get? a=some ob/\(a == sysModules)=false/\kvs.length<=sizeLine/\Inv X ((a,ob)::pins) σ (but H [a]) s:=by
 obtain ⟨hz,hS,vs,r,ob,es,ep,ea,c1,c2,c3⟩:=I.hok a _ e
 have ne:∀ {b:Ad} {o:HO},H b=some o->o≠.dK kvs->b ∉ [a]:=λ{b o} z y m=>by
  cases List.mem_singleton.mp m;rw [e] at z;injection z with z;exact y z.symm
 have nn:∀ {b:Ad},H b=none->but H [a] b=none:=λ{b} z=>by
  unfold but;split
  ·rfl
  ·exact z
 refine ⟨ob,es,ep,vs,r,⟨c1,c2,c3⟩,ea,hS,hz,I.ok,I.os,I.bare,⟨I.base.keep,I.base.slot,λb o q m x=>nn (I.base.free b o q m x),I.base.there,λb ys q=>Zb (I.base.tups b ys q) (ne (I.base.tups b ys q) (λz=>by cases z)),λb o u q=>Zb (I.base.frzs b o u q) (ne (I.base.frzs b o u q) (λz=>by cases z)),λb ps q=>let ⟨more,z⟩:=I.base.tbls b ps q;⟨more,Zb z (ne z (λz=>by cases z))⟩⟩,I.loc,I.cell,nn I.free,λx c q=>nn (I.freeC x c q),λp m=>?_,λb u q=>?_,I.len⟩
 ·rcases List.mem_append.mp m with m | m
  ·have q:=I.pin p (List.mem_append_left _ m)
   exact ⟨q.1,nn q.2.1,q.2.2⟩
  ·rcases List.mem_cons.mp m with rfl | m
   ·refine ⟨ea,Xg (List.mem_singleton_self a),λz=>?_,λz=>?_,λv z=>by rw [c2] at z;cases z⟩
    ·have:=I.free
     rw [← z] at this;have e':H a=some (.dK kvs):=e;rw [e'] at this;cases this
    ·obtain ⟨_,o,q,_⟩:=I.ok.funs.mem z
     have:=I.base.free a o q (I.ok.frf a z) (λy=>I.ok.exfs a y z);rw [e] at this;cases this
   ·have q:=I.pin p (q2x _ m)
    exact ⟨q.1,nn q.2.1,q.2.2⟩
 ·obtain ⟨nb,q⟩:=but_inv q
  exact (I.hok b u q).stay (λ_ _ _ z=>z) (λc z=>Zb z (ne z (λy=>by cases y))) (λc ys z=>Zb z (ne z (λy=>by cases y)))
end
def kV_rel {P:Program} {w:World} {k:Key} {u:Vl} (h:(zJ P w).is k u=true):RelV (kV k) u:=by
 rcases z6 h with ⟨i,t,rfl,rfl⟩ | ⟨x,t,rfl,rfl⟩
 ·exact ⟨t,rfl⟩
 ·exact ⟨t,rfl⟩
def Itk (kvs:Jr):It:=⟨λi _=>i<kvs.length,λi H x H'=>H'=H/\∃ p,kvs[i]?=some p/\x=kV p.1,λi _=>kvs.length<=i⟩
section
variable {X:Cx} {tg:Expr}
end
section
variable {X:Cx}
end
section
variable {X:Cx} {tg:Expr}
end
section
variable {X:Cx}
theorem YH:∀ {xs:Jt} {us:Jj},xs.length=us.length->(∀ (i:Nat) x v,xs[i]?=some x->us[i]?=some v->RelV x v)->Vals xs us
 | [],[],_,_=>.nil
 | x::xs,u::us,hl,h=>.cons (h 0 x u rfl rfl) (YH (Nat.succ.inj hl) λi a b ea eb=>h (i+1) a b ea eb)
def keyI:Key->Int
 | .inl j=>j
 | .inr _=>0
end
section
variable {prog:Program} {w:World} {A:Around} {s:Sh}
end
section
variable {prog:Program} {w:World} {A:Around} {E:Jg} {s:Sh}
end
section
variable {X:Cx} {e:Expr} {te:TE} {p p' pos pos':Pos}
end
end L2
namespace L2
open PySem PySem.Spec PyProof.Rows
open Sem (wp)
section
variable {prog:Program} {w:World} {K:Type} [DecidableEq K] {knd:HeapKind prog w K} {A:Around} {E:Jg} {s:Sh}
def wipeH (xs:List (K×Ad×Vl)) (k:K):List (K×Ad×Vl):=xs.filter λx=>decide (x.1≠k)
theorem Xw {α β:Type} (f:α->β):∀ (l:List α) (j:Nat),(l.map f).eraseIdx j=(l.eraseIdx j).map f
 | [],_=>rfl
 | _::_,0=>rfl
 | x::l,j+1=>by show f x::(l.map f).eraseIdx j=f x::(l.eraseIdx j).map f;rw [Xw f l j]
theorem YE {k:K}:∀ {xs:List (K×Ad×Vl)} {j:Nat} {p:Ad×Vl},(xs.map (·.1)).Nodup->xs[j]?=some (k,p)->xs.eraseIdx j=wipeH xs k
 | [],_,_,_,h=>by simp at h
 | x::xs,j,p,hn,h=>by
  rw [List.map_cons,List.nodup_cons] at hn
  cases j with
  | zero =>
   simp only [List.getElem?_cons_zero,Option.some.injEq] at h;subst h;show xs=List.filter _ _;rw [List.filter_cons_of_neg (by simp)];refine (List.filter_eq_self.mpr λy hy=>?_).symm;exact decide_eq_true λe=>hn.1 (e ▸ List.mem_map.mpr ⟨y,hy,rfl⟩)
  | succ j =>
   simp only [List.getElem?_cons_succ] at h;have m:k∈xs.map (·.1):=List.mem_map.mpr ⟨(k,p),List.mem_of_getElem? h,rfl⟩;show x::xs.eraseIdx j=List.filter _ _;rw [List.filter_cons_of_pos (by simp;exact λe=>hn.1 (e ▸ m)),YE hn.2 h];rfl
def takeOut_h {d a:Ad} {xs:List (K×Ad×Vl)} {k:K} {p:Ad×Vl} {Q:Option DictEntry->Sh->Prop} (hu:knd.room A) (hkey:knd.is s.heap k a) (hm:s.heap.DictOfH knd d xs) (hp:atKey xs k=some p)
  (hQ:∀ e h',e.val=p.2->h'.DictOfH knd d (wipeH xs k)->Heap.SameBut d s.heap h'->Q (some e) { s with heap:=h',toks:=s.toks+knd.draws k }) (hsz:xs.length<=sizeLine) :
  wpAny (model prog w) A (Builtin.Dict.takeOut d (.ref a)) Q E s:=by
 obtain ⟨o,es,ep,ho,hc,hd,he,his,hn⟩:=hm;unfold Builtin.Dict.takeOut
 try with_reducible refine wpAny_holding ?_
 refine q0x (knd.pyHash hu hkey ?_);refine q0x (wpAny_dictFind_heap (s:={ s with toks:=s.toks+knd.draws k }) hu hkey ho hd he his hn ?_ ?_)
 ·intro hno
  rw [atKey_none_of_get hno] at hp;cases hp
 ·intro j q hj
  have e0:q=p:=by rw [atKey_of_get hn hj] at hp;exact Option.some.inj hp
  subst e0;refine q0x (wpAny_dictEntries (s:={ s with toks:=s.toks+knd.draws k }) ho hd ?_);have e1:es[j]?=some (entryOfKey knd (k,q)):=by rw [entry_at he j,hj];rfl
  rw [e1]
  refine q0x (wpAny_updateDictKeys (hz:=by rw [size_of_entries he];exact hsz) (s:={ s with toks:=s.toks+knd.draws k }) ho hd (q0y (hQ _ _ rfl ⟨_,_,ep+1,Heap.get?_update_self _ ho (Obj.isFreed_of_dict (Obj.data_mapDictKeys hd _)),
   hc.mapDictKeys _,Obj.data_mapDictKeys hd _,?_,?_,?_⟩ (Heap.SameBut.update ..))))
  ·rw [← YE hn hj]
   obtain ⟨l⟩:=es;have he:l=xs.map (entryOfKey knd):=he;subst he;simp [Xw]
  ·intro x hx
   exact knd.keeps (his x (List.mem_filter.mp hx).1) ho hd (Heap.SameBut.update ..)
  ·exact hn.sublist (List.filter_sublist.map _)
def zb4 (knd:HeapKind prog w K) (d a:Ad) :
  MeetsIn prog w (Builtin.«dict.pop» ⟨[.ref d,.ref a],[]⟩) (λA R s=>knd.room A.in1/\∃ k xs p,knd.is s.heap k a/\s.heap.DictOfH knd d xs/\xs.length<=sizeLine/\atKey xs k=some p /\
   ∀ h',h'.DictOfH knd d (wipeH xs k)->Heap.SameBut d s.heap h'->R (.ok (.ret p.2)) { s with heap:=h',toks:=s.toks+knd.draws k }) :=
 .of_wp λA R s ⟨hu,k,xs,p,hkey,hm,hz,hp,h⟩=>by
  obtain ⟨o,es,ep,ho,hc,hd,he,his,hn⟩:=id hm;unfold Builtin.«dict.pop»;refine q0x ?_;unfold Builtin.Dict.keyAndDefault;refine q0x (wpAny_notOrdered_dict hm.typeIs ?_);show wpAny _ _ (pure (d,Value.ref a,none)) _ _ s;refine q0y ?_;simp only [keyPart,Option.isSome_none,Bool.false_eq_true,if_false]
  have ne:es.isEmpty=false:=by
   cases hx:xs with
   | nil=>rw [hx] at hp;cases hp
   | cons x r =>
    have:=size_of_entries he;rw [hx,q2z] at this
    cases h:es.isEmpty with
    | false=>rfl
    | true=>rw [Array.isEmpty_iff_size_eq_zero] at h;omega
  refine q0x (m:=dictEntries d) (wpAny_dictEntries ho hd (q0x (q0y ?_)));simp only [ne,Bool.false_eq_true,if_false];refine q0x (takeOut_h hu hkey hm hp (λe h' ev hm' hs'=>?_) hz);simp only [Option.isNone_some,Bool.false_eq_true,if_false];exact q0x (wpAny_letGo (q0y ⟨e.val,rfl,by rw [ev];exact h h' hm' hs'⟩))
def zad (knd:HeapKind prog w K) (d:Ad) :
  MeetsIn prog w (Builtin.«dict.clear» ⟨[.ref d],[]⟩) (λ_ R s=>∃ xs,s.heap.DictOfH knd d xs/\xs.length<=sizeLine /\
   ∀ h',h'.DictOfH knd d []->Heap.SameBut d s.heap h'->R (.ok (.ret .none)) { s with heap:=h' }) :=
 .of_wp λA R s ⟨xs,hm,hsz,h⟩=>by
  obtain ⟨o,es,ep,ho,hc,hdat,he,his,hn⟩:=id hm;have hes:es.size<=sizeLine:=by rw [size_of_entries he];exact hsz
  unfold Builtin.«dict.clear»;refine q0x ?_;unfold Builtin.Dict.noArgs;refine q0x (wpAny_notOrdered_dict hm.typeIs ?_);show wpAny _ _ (pure d) _ _ s;refine q0y ?_;refine q0x (wpAny_dictEntries ho hdat ?_);refine q0x ?_;unfold bearsInstanceDictMark;refine q0x (wpAny_load ho (q0y ?_));refine q0x (wpAny_updateDictKeys (hz:=hes) ho hdat ?_)
  have hnew:(s.heap.update d (Obj.mapDictKeys λ_=>#[])).DictOfH knd d [] :=
   ⟨_,_,ep+1,Heap.get?_update_self _ ho (Obj.isFreed_of_dict (Obj.data_mapDictKeys hdat _)),hc.mapDictKeys _,Obj.data_mapDictKeys hdat _,rfl,λ_ he=>by simp at he,List.nodup_nil⟩
  split
  ·exact q0x (wpAny_letGo (q0y ⟨.none,rfl,h _ hnew (Heap.SameBut.update ..)⟩))
  ·exact q0x (q0y (q0y ⟨.none,rfl,h _ hnew (Heap.SameBut.update ..)⟩))
end
section
variable {prog:Program} {w:World} {A:Around} {E:Jg} {s:Sh}
def hash_none {Q:Int->Sh->Prop} (h:Q 0xFCA86420 { s with toks:=s.toks+1 }):wpAny (model prog w) A (pyHash .none) Q E s:=by
 have ty:s.TypeIs .none "NoneType":=typeIs_none s;show wpAny _ _ (pyHashByItsType .none) Q E s;unfold pyHashByItsType;refine q0x ?_;rw [cRoomFor,if_neg (by decide)];refine q0y ?_;refine q0x (wpAny_specialOf ty F.slot_NoneType_hash.lookup ?_);show wpAny _ _ (if (some (Value.builtin "NoneType.__hash__") == some Value.none)=true then _ else _) Q E s;rw [if_neg (by rw [beq_builtin_none];exact q1z)];refine q0x (wpAny_specialOf ty F.slot_NoneType_hash.lookup ?_);show wpAny _ _ (callSpecialIfBoundUnlessNone? .none "__hash__" _ >>= _) Q E s;refine q0x (wpAny_callSpecialIfBoundUnlessNone?_slot ty F.slot_NoneType_hash
  (wpAny_call_entry F.slot_NoneType_hash ty F.entry_NoneType_hash
   (show wpAny _ _ (do ret (← mkInt 0xFCA86420)) _ _ s from wpAny_ret_mkInt ?_) (F.args_NoneType_hash_1 _)))
 show wpAny _ _ (if (decide (-(2:Int) ^ 63<=0xFCA86420) && decide ((0xFCA86420:Int)<2 ^ 63))=true then _ else _) Q E _;rw [if_pos (by decide)];exact q0y h
variable {K:Type} [DecidableEq K] {knd:HeapKind prog w K}
def find_none {d:Ad} {o:Obj} {es ep} {xs:List (K×Ad×Vl)} {n:Int} {Q:Option Nat->Sh->Prop} (tu:∀ (A:Around) x,x∈xs->A.units<cLine->SeqAt.EqAt A s (.ref x.2.1) .none false) (hu:A.units<cLine)
  (ho:s.heap.get? d=some o) (hd:o.data=.dict es ep) (he:es.toList=xs.map (entryOfKey knd)) (his:∀ x∈xs,knd.is s.heap x.1 x.2.1) (h:Q none s) :
  wpAny (model prog w) A (dictFind d .none n) Q E s:=by
 have hmem:∀ e∈es,∃ x∈xs,e=entryOfKey knd x:=by
  intro e hin;have:e∈xs.map (entryOfKey knd):=he ▸ Array.mem_toList_iff.mpr hin;obtain ⟨x,hx,rfl⟩:=List.mem_map.mp this;exact ⟨x,hx,rfl⟩
 unfold dictFind
 try with_reducible refine wpAny_holding ?_
 refine q0x (wpAny_dictEntries ho hd ?_);dsimp only;generalize hP:placesWithHash es.size (λi=>es[i]?.map (·.hash)) n=places
 have hst:∀ v∈places.filterMap (λi=>es[i]?.map (·.key)),∃ k' b,v=.ref b/\knd.is s.heap k' b:=by
  intro v hv;obtain ⟨i,_,hi⟩:=List.mem_filterMap.mp hv
  cases hei:es[i]? with
  | none=>rw [hei] at hi;cases hi
  | some e =>
   rw [hei] at hi;obtain rfl:e.key=v:=by simpa using hi
   obtain ⟨x,hx,rfl⟩:=hmem e (Array.mem_of_getElem? hei);exact ⟨x.1,x.2.1,rfl,his x hx⟩
 have hpl:∀ i∈places,∃ x∈xs,es[i]?=some (entryOfKey knd x):=by
  intro i hi;rw [← hP,placesWithHash] at hi;obtain ⟨h1,_⟩:=List.mem_filter.mp hi;have lt:i<es.size:=List.mem_range.mp h1;obtain ⟨x,hx,e⟩:=hmem es[i] (Array.getElem_mem lt);exact ⟨x,hx,by rw [Array.getElem?_eq_getElem lt,e]⟩
 by_cases hall:((Value.none::places.filterMap (λi=>es[i]?.map (·.key))).all carriedByValue)=true
 ·rw [if_pos hall]
  have:places=[]:=by
   cases places with
   | nil=>rfl
   | cons i r =>
    obtain ⟨x,hx,e⟩:=hpl i q1y;rw [List.filterMap_cons,e] at hall;simp [entryOfKey,carriedByValue] at hall
  subst this;unfold dictWalkPlain;exact q0x (q0y (q0y h))
 ·rw [if_neg hall]
  have tell:∀ R:Bool->Sh->Prop,R false s->wpAny (model prog w) A (tableMayTell .none (places.filterMap λi=>es[i]?.map (·.key))) R E s:=by
   intro R hR;unfold tableMayTell
   split
   ·exact q0y hR
   ·refine q0x (q0y ?_)
    simp only [Bool.not_true,Bool.false_eq_true,if_false];refine q0x ?_;refine wpAny_forIn_list _ (λrest r s'=>s'=s/\r=(none,())/\∀ v∈rest,∃ k' b,v=.ref b/\knd.is s.heap k' b) _ ?_ ?_ _ _ ⟨rfl,rfl,hst⟩
    ·rintro x rest r s' ⟨rfl,rfl,hr⟩
     obtain ⟨k',b,rfl,hb⟩:=hr x q1y;refine q0x (knd.quiet hb ?_);simp only [Bool.not_true,Bool.false_eq_true,if_false];exact q0y ⟨rfl,rfl,λv hv=>hr v (q1x _ hv)⟩
    ·rintro r s' ⟨rfl,rfl,_⟩
     exact q0y hR
  have one:((places.filterMap λi=>es[i]?.map (·.key)) == [Value.none])=false:=by
   cases hb:(places.filterMap λi=>es[i]?.map (·.key)) == [Value.none] with
   | false=>rfl
   | true =>
    have e:=eq_of_beq hb;obtain ⟨_,b,e2,_⟩:=hst .none (by rw [e];exact List.mem_singleton_self _);cases e2
  rw [one];simp only [Bool.false_eq_true,if_false];refine q0x (tell _ ?_);simp only [Bool.false_and,Bool.false_eq_true,if_false];refine q0x ?_;refine wpAny_forIn_list _ (λrest b s'=>s'=s/\b=(none,none)/\∀ i∈rest,∃ x∈xs,es[i]?=some (entryOfKey knd x)) _ ?_ ?_ _ _ ⟨rfl,rfl,hpl⟩
  ·rintro i rest b s' ⟨rfl,rfl,hr⟩
   obtain ⟨x,hx,e⟩:=hr i q1y;have nx:∀ i∈rest,∃ x∈xs,es[i]?=some (entryOfKey knd x):=λj hj=>hr j (q1x _ hj);rw [e];dsimp only;by_cases hh:((entryOfKey knd x).hash == n)=true
   ·rw [if_pos hh]
    refine q0x (wpAny_dictEpoch ho hd (q0x (tu A x hx hu prog w E _ (q0x (wpAny_dictEpoch ho hd ?_)))));show wpAny _ _ (if (ep != ep)=true then _ else _) _ E _;rw [if_neg (by simp)];simp only [Bool.false_eq_true,if_false];refine q0x (wpAny_rule ?_)
    first
     | exact q0y ⟨rfl,rfl,nx⟩
     | exact q0x (q0y (q0y ⟨rfl,rfl,nx⟩))
   ·rw [if_neg hh]
    exact q0y ⟨rfl,rfl,nx⟩
  ·rintro b s' ⟨rfl,rfl,_⟩
   exact q0y h
end
section
variable {prog:Program} {w:World} {K:Type} [DecidableEq K] {knd:HeapKind prog w K} {A:Around} {E:Jg} {s:Sh}
def DAtH (knd:HeapKind prog w K) (h:Heap) (d:Ad) (xs:List (K×Ad×Vl)) (ep:Nat):Prop:=∃ o es,h.get? d=some o/\o.ExactDict/\o.data=.dict es ep/\es.toList=xs.map (entryOfKey knd)
def DAtH.at {h h':Heap} {d:Ad} {xs:List (K×Ad×Vl)} {ep:Nat} (x:DAtH knd h d xs ep) (e:∀ o,h.get? d=some o->h'.get? d=some o):DAtH knd h' d xs ep:=let ⟨o,es,ho,r⟩:=x;⟨o,es,e _ ho,r⟩
def DAtH.ty {d:Ad} {xs:List (K×Ad×Vl)} {ep:Nat} (x:DAtH knd s.heap d xs ep):s.TypeIs (.ref d) "dict":=let ⟨o,_,ho,hc,_⟩:=x;⟨o,ho,hc.1⟩
def DAtH.lt {h:Heap} {d:Ad} {xs:List (K×Ad×Vl)} {ep:Nat} (x:DAtH knd h d xs ep):d<h.objs.size:=let ⟨_,_,ho,_⟩:=x;Heap.lt_size ho
def iter_h {d:Ad} {xs:List (K×Ad×Vl)} {ep:Nat} {Q:Jg} (hd:(d == sysModules)=false) (hm:DAtH knd s.heap d xs ep)
  (hQ:Q (.ref s.heap.objs.size) { s with heap:=s.heap.push { cls:=.type "dict_keyiterator",data:=.fields #[.ref d,.int 0 0,.int xs.length 0,.int ep 0] } }) :
  wpAny (model prog w) A (pyIter (.ref d)) Q E s:=by
 obtain ⟨o,es,ho,hc,hdat,he⟩:=id hm;have hT:s.TypeIs (.ref d) "dict":=hm.ty;refine wpAny_pyIter_slot hT F.slot_dict_iter (wpAny_call_entry F.slot_dict_iter hT F.entry_dict_iter ?_ (F.args_dict_iter_1 _));unfold Builtin.«dict.__iter__»;refine q0x ?_;unfold Builtin.Dict.dictSlotNone;refine q0x (wpAny_notOrdered_dict hT ?_);show wpAny _ _ (pure (Value.ref d)) _ _ s;refine q0y ?_;show wpAny _ _ (Builtin.Dict.showsAll d >>= _) _ _ s;unfold Builtin.Dict.showsAll;rw [if_neg (by rw [hd];exact q1z)];refine q0x (q0y ?_);refine q0x (wpAny_dictEntries ho hdat ?_);refine q0x (wpAny_dictEpoch ho hdat ?_);have hsz:es.size=xs.length:=size_of_entries he;refine q0x (wpAny_newObj_type (q0y ⟨_,rfl,"dict_keyiterator",_,⟨_,Heap.get?_push_size _ rfl,rfl⟩,F.slot_dict_keyiterator_next.lookup,?_⟩));simpa [rawInt,hsz] using hQ
def next_h {it d:Ad} {i ep:Nat} {xs:List (K×Ad×Vl)} {x:K×Ad×Vl} {Q:Jk->Sh->Prop} (hit:s.heap.IsKeyIter it d i xs.length ep)
  (hm:DAtH knd s.heap d xs ep) (hx:xs[i]?=some x)
  (hQ:∀ h',h'.IsKeyIter it d (i+1) xs.length ep->Heap.SameBut it s.heap h'->Q (some (.ref x.2.1)) { s with heap:=h' }) :
  wpAny (model prog w) A (pyNext (.ref it)) Q E s:=by
 obtain ⟨o,ho,hc,hd⟩:=id hit;obtain ⟨od,es,hod,hcd,hdd,he⟩:=id hm;unfold pyNext;refine q0x (wpAny_attempt (wpAny_callSpecial?_slot (name:=Str.ofString "__next__") hit.typeIs F.slot_dict_keyiterator_next
  (wpAny_call_entry F.slot_dict_keyiterator_next hit.typeIs F.entry_dict_keyiterator_next ?_ (F.args_dict_keyiterator_next_1 _))))
 refine q0x (q0y ?_);refine q0x ?_;refine q0x ?_
 first | refine q0x (wpAny_typeNameOfWhole_keyiter hit.typeIs (q0y ?_)) | refine q0x (wpAny_typeNameOf_keyiter hit.typeIs (q0y ?_))
 refine q0x (wpAny_fieldsOf ho hd ?_);have hown:Builtin.Dict_items.ownsTuple "dict_keyiterator"=false:=by decide
 simp only [hown,Bool.false_eq_true,if_false];show wpAny _ _ (if (Value.ref d == Value.none)=true then _ else _) _ _ s;rw [if_neg (show ¬ ((Value.ref d == Value.none)=true) from q1z)];refine q0x (q0y ?_);refine q0x (wpAny_dictEntries hod hdd ?_);have hsz:es.size=xs.length:=size_of_entries he;rw [if_neg (by rw [hsz];simp)];refine q0x (q0y ?_);refine q0x (wpAny_dictEpoch hod hdd ?_);rw [if_neg (by simp)];refine q0y ?_;have hlt:i<xs.length:=(List.getElem?_eq_some_iff.mp hx).1;have hlt':i<es.size:=by rw [hsz];exact hlt
 have hkey:es[i].key=.ref x.2.1:=by
  have:=entry_at he i;rw [hx,Array.getElem?_eq_getElem hlt'] at this;rw [Option.some.inj this];rfl
 simp only [show ¬ ((i:Int)<0) from by omega,if_false,Int.toNat_natCast,Array.getElem?_eq_getElem hlt'];refine q0x ?_
 first | refine q0x (wpAny_typeNameOfWhole_keyiter hit.typeIs (q0y ?_)) | refine q0x (wpAny_typeNameOf_keyiter hit.typeIs (q0y ?_))
 refine q0x (wpAny_isOneOf_keyiter hit.typeIs ?_);show wpAny _ _ (setField (.ref it) 1 (rawInt ((i:Int)+1)) >>= _) _ _ s;refine q0x (wpAny_setField ho hd (by simp) ?_)
 have hit':(s.heap.update it (Obj.mapFields (·.setIfInBounds 1 (rawInt ((i:Int)+1))))).IsKeyIter it d (i+1) xs.length ep :=
  ⟨_,Heap.get?_update_self _ ho (Obj.isFreed_of_fields (Obj.data_mapFields hd _)),(Obj.cls_mapFields ..).trans hc,by rw [Obj.data_mapFields hd];simp [rawInt]⟩
 refine q0x (wpAny_holding ?_);refine q0x (wpAny_isOneOf_keyiter (s:={ s with heap:=s.heap.update it (Obj.mapFields (·.setIfInBounds 1 (rawInt ((i:Int)+1)))) }) hit'.typeIs ?_);show wpAny _ _ (pure es[i].key) _ _ _;rw [hkey];exact q0y (q0y ⟨_,rfl,q0y (hQ _ hit' (Heap.SameBut.update ..))⟩)
def end_h {it d:Ad} {i ep:Nat} {xs:List (K×Ad×Vl)} {Q:Jk->Sh->Prop} (hh:A.handled=none) (hit:s.heap.IsKeyIter it d i xs.length ep)
  (hm:DAtH knd s.heap d xs ep) (hx:xs.length<=i)
  (hQ:∀ h',Heap.ExtBut it s.heap h'->Q none { s with heap:=h' }):wpAny (model prog w) A (pyNext (.ref it)) Q E s:=by
 obtain ⟨o,ho,hc,hd⟩:=id hit;obtain ⟨od,es,hod,hcd,hdd,he⟩:=id hm;unfold pyNext;refine q0x (wpAny_attempt (wpAny_callSpecial?_slot (name:=Str.ofString "__next__") hit.typeIs F.slot_dict_keyiterator_next
  (wpAny_call_entry F.slot_dict_keyiterator_next hit.typeIs F.entry_dict_keyiterator_next ?_ (F.args_dict_keyiterator_next_1 _))))
 refine q0x (q0y ?_);refine q0x ?_;refine q0x ?_
 first | refine q0x (wpAny_typeNameOfWhole_keyiter hit.typeIs (q0y ?_)) | refine q0x (wpAny_typeNameOf_keyiter hit.typeIs (q0y ?_))
 refine q0x (wpAny_fieldsOf ho hd ?_);have hown:Builtin.Dict_items.ownsTuple "dict_keyiterator"=false:=by decide
 simp only [hown,Bool.false_eq_true,if_false];show wpAny _ _ (if (Value.ref d == Value.none)=true then _ else _) _ _ s;rw [if_neg (show ¬ ((Value.ref d == Value.none)=true) from q1z)];refine q0x (q0y ?_);refine q0x (wpAny_dictEntries hod hdd ?_);have hsz:es.size=xs.length:=size_of_entries he;rw [if_neg (by rw [hsz];simp)];refine q0x (q0y ?_);refine q0x (wpAny_dictEpoch hod hdd ?_);rw [if_neg (by simp)];refine q0y ?_;have hge:es.size<=i:=by rw [hsz];exact hx
 simp only [show ¬ ((i:Int)<0) from by omega,if_false,Int.toNat_natCast,Array.getElem?_eq_none hge];refine q0x ?_
 first | refine q0x (wpAny_typeNameOfWhole_keyiter hit.typeIs (q0y ?_)) | refine q0x (wpAny_typeNameOf_keyiter hit.typeIs (q0y ?_))
 show wpAny _ _ (setField (.ref it) 0 .none >>= _) _ _ s;refine q0x (wpAny_setField ho hd (by simp) ?_);show wpAny _ _ (newExc (.type "StopIteration") [] >>= _) _ _ _;refine q0x ?_;simp only [newExc,newTuple];refine q0x (wpAny_newObj_type ?_ (by size_fits));refine q0x (m:=firstArgMember _ _) (wpAny_of_eq (a:=Value.none) (by first | rfl | (simp only [firstArgMember];rfl)) ?_);refine wpAny_newObj_type ?_ (by size_fits);simp only [raiseNew];refine q0x (wpAny_handled ?_);rw [show A.in1.handled=none from hh];refine q0x (q0y (wpAny_throw ?_));refine q0x (wpAny_isInstance (T:="StopIteration") (b:=true) ⟨_,Heap.get?_push_size _ rfl,rfl⟩ isSubtype_stop ?_);exact q0y (hQ _ (((Heap.SameBut.update ..).extBut.push _).push _))
def walks_h (hh:A.handled=none) (I d:Ad) (hne:d≠I) (xs:List (K×Ad×Vl)) (ep:Nat) :
  Walks prog w A I [I,d] [I] xs.length (λi v=>∃ x,xs[i]?=some x/\v=.ref x.2.1) (λi h=>h.IsKeyIter I d i xs.length ep/\DAtH knd h d xs ep) where
 sub:=λb hb=>by simp at hb;simp [hb]
 frame:=λ_ _ _ st hk=>⟨st.1.at λo e=>hk I (by simp) o e,st.2.at λo e=>hk d (by simp) o e⟩
 item:=λi s Q E hi st hQ=>by
  obtain ⟨x,hx⟩:∃ p,xs[i]?=some p:=⟨xs[i],by simp [hi]⟩;refine next_h st.1 st.2 hx λh' hit' hs'=>?_;exact hQ _ h' s.toks ⟨x,hx,rfl⟩ ⟨hit',st.2.at λo e=>hs'.extBut _ _ hne e⟩ λb o hb e=>hs'.extBut b o (λh=>hb (by simp [h])) e
 done:=λs Q E st hQ=>end_h hh st.1 st.2 (Nat.le_refl _) λh' he'=>hQ h' s.toks λb o hb e=>he' b o (λh=>hb (by simp [h])) e
 self:=λ_ _ _ _ st hQ=>wpAny_pyIter_keyiter st.1 hQ
def src_h {d:Ad} {xs:List (K×Ad×Vl)} {ep:Nat} (lo:(d == sysModules)=false):PySem.W.KdlSrc prog w "dict" d d xs.length (λi v=>∃ x,xs[i]?=some x/\v=.ref x.2.1) (λh=>DAtH knd h d xs ep) where
 type:=λ_ hm=>hm.ty
 there:=λ_ hm=>⟨hm.lt,hm.lt⟩
 keep:=λ_ _ hm hk=>hm.at λo e=>hk d (.inl rfl) o e
 notList:=by decide
 notTuple:=by decide
 hint:=λ_ _ _ _ hm hq=>PySem.W.kdl_hint_dict hm.ty hq
 iter:=λ_ _ hh hm=>⟨_,_,(λ_ _ hq=>iter_h lo hm hq),walks_h hh _ d (Nat.ne_of_lt hm.lt) xs ep,⟨⟨_,Heap.get?_push_size _ rfl,rfl,rfl⟩,hm.at λo e=>Heap.get?_push_of_some _ e⟩⟩
end
def TupK (H:Hp) (v:V) (k:List Key):Prop:=∃ b,v=.ref b/\H b=some (.tup (k.map kV))
def Tk (H:Hp) (v:V):Option (List Key)->Prop
 | none=>v=.non
 | some k=>TupK H v k
def TupK.same {H H':Hp} {v:V} {k:List Key} (h:TupK H v k) (s:Same H H'):TupK H' v k:=let ⟨b,e,q⟩:=h;⟨b,e,s _ _ q⟩
def Tk.same {H H':Hp} {v:V} {o:Option (List Key)} (h:Tk H v o) (s:Same H H'):Tk H' v o:=by
 cases o with
 | none=>exact h
 | some k=>exact TupK.same h s
abbrev TupL (H:Hp):Jt->List (List Key)->Prop:=Paired (TupK H)
def TupL.same {H H':Hp} {xs:Jt} {ks:List (List Key)} (h:TupL H xs ks) (s:Same H H'):TupL H' xs ks:=Paired.mapP h λ_ _ z=>z.same s
section
variable {X:Cx} {pins:Ji} {σ:St} {H:Hp} {s:Sh}
def tup_key {P:Program} {w:World} {a:Ad} {ks:List Key} (I:Inv X pins σ H s) (e:H a=some (.tup (ks.map kV))):(tupleKind (zJ P w)).is s.heap ks a:=by
 obtain ⟨_,its,r,o,h1,h2,n,h3⟩:=(show ObjOk X.prog X.w H s.heap a (.tup (ks.map kV)) from I.hok a _ e);exact ⟨o,its.toArray,n,h1,h2,h3,by simpa using Z7 r⟩
def tup_is {a:Ad} {ks:Jt} (I:Inv X pins σ H s) (e:H a=some (.tup ks)):∃ its,s.heap.IsTuple a its:=by
 obtain ⟨_,its,r,o,h1,h2,n,h3⟩:=(show ObjOk X.prog X.w H s.heap a (.tup ks) from I.hok a _ e);exact ⟨its.toArray,o,h1,h2,n,h3⟩
def TupK.eqAt {v u:V} {k j:List Key} {x y:Vl} {A:Around} (I:Inv X pins σ H s) (hv:TupK H v k) (hj:TupK H u j) (rx:RelV v x) (ry:RelV u y) (hu:A.units<cLine):SeqAt.EqAt A s x y (decide (k=j)):=by
 obtain ⟨b,rfl,e⟩:=hv;obtain ⟨c,rfl,f⟩:=hj;cases (show x=Value.ref b from rx);cases (show y=Value.ref c from ry);exact λprog w E Q hq=>wpAny_eqBool_tuple (knd:=zJ prog w) hu (tup_key I e) (tup_key I f) hq
def TupK.eqN {v:V} {k:List Key} {x:Vl} {A:Around} (I:Inv X pins σ H s) (hv:TupK H v k) (rx:RelV v x) (hu:A.units<cLine):SeqAt.EqAt A s x .none false:=by
 obtain ⟨b,rfl,e⟩:=hv;cases (show x=Value.ref b from rx);obtain ⟨its,p⟩:=tup_is I e;exact SeqAt.EqAt.tuple_none p hu
def isT (o:Option (List Key)) (kvs:List (List Key×V)):Bool:=match o with
 | none=>false
 | some k=>(zK kvs k).isSome
inductive rInT (neg:Bool) (x y:V) (H:Hp) (Q:VK):Prop
 | mk (o:Option (List Key)) (a:Ad) (kvs:List (List Key×V)) (_:Tk H x o) (_:y=.ref a) (_:H a=some (.dT kvs)) (_:Q (.bl (neg != isT o kvs)) H)
def none_in {a:Ad} {kvs:List (List Key×V)} {A:Around} {E:Jg} {Q:Jg} (hu:A.units+1<cLine) (I:Inv X pins σ H s) (e:H a=some (.dT kvs)) (h:∀ s',Inv X pins σ H s'->Q (.bool false) s') :
  wpAny (model X.prog X.w) A (compareOp .In .none (.ref a)) Q E s:=by
 obtain ⟨z,hd,xs,rel,dd⟩:=dt_of I.hok e;show wpAny _ _ (do return .bool (← contains (.ref a) .none)) Q E s;refine q0x ?_;unfold contains
 try with_reducible refine wpAny_holding ?_
 refine q0x (wpAny_specialOf dd.typeIs slot_dict_contains.lookup ?_);show wpAny _ _ (if (some (Value.builtin "dict.__contains__") == some Value.none)=true then _ else _) _ E s;rw [if_neg (by rw [beq_builtin_none];exact q1z)];refine q0x (wpAny_callSpecialUnlessNone?_slot (name:=Str.ofString "__contains__") dd.typeIs slot_dict_contains
  (wpAny_call_entry slot_dict_contains dd.typeIs entry_dict_contains ?_ (args_dict_contains _ _)))
 show wpAny _ _ (dictGet a .none >>= _) _ _ s;obtain ⟨o,es,ep,ho,_,hda,he,his,hn⟩:=dd;have I1:=I.tok (s.toks+1);refine q0x ?_;unfold dictGet
 try with_reducible refine wpAny_holding ?_
 have tu:∀ (A:Around) x,x∈xs->A.units<cLine->SeqAt.EqAt A { s with toks:=s.toks+1 } (.ref x.2.1) .none false:=by
  intro A x hx hu
  have all:∀ {l:List (List Key×V)} {m:List (List Key×Ad×Vl)},KT H l m->∀ x∈m,∃ k:List Key,H x.2.1=some (.tup (k.map kV)):=by
   intro l m q
   induction q with
   | nil=>intro x hx;exact nomatch hx
   | @cons p q ps qs hq t ih =>
    intro x hx;rcases List.mem_cons.mp hx with e | hx
    ·subst e;exact ⟨_,hq.2.1⟩
    ·exact ih x hx
  obtain ⟨k,ek⟩:=all rel x hx;obtain ⟨its,p⟩:=tup_is I1 ek;exact SeqAt.EqAt.tuple_none p hu
 refine q0x (hash_none (q0x (find_none (s:={ s with toks:=s.toks+1 }) (knd:=tupleKind (zJ X.prog X.w)) tu (by show A.units+1<cLine;exact hu) ho hda he his ?_)));refine q0y ?_;show wpAny _ _ (Builtin.Dict.pendingKey? a .none >>= _) _ _ _;exact q0x (wpAny_pendingKey_other hd (q0y ⟨_,rfl,wpAny_truthy_bool (q0y (h _ I1))⟩))
def op_inT (hu:X.A.units+1<cLine):OpR X (compareOp .In) (rInT false):=by
 intro pins s σ H x y v u Q I rx ry h;obtain ⟨o,a,kvs,t,rfl,e,q⟩:=h;cases (show u=Value.ref a from ry)
 cases o with
 | none =>
  cases (show x=.non from t);cases (show v=Value.none from rx);exact none_in hu I e λs' I'=>⟨.bl false,H,I',rfl,q⟩
 | some k =>
  obtain ⟨b,rfl,eb⟩:=(show TupK H x k from t);exact d_in hu I (DGet.t e eb) rx λs' I'=>⟨.bl _,H,I',rfl,by simpa [isT] using q⟩
def op_notInT (hu:X.A.units+1<cLine):OpR X (compareOp .NotIn) (λx y H Q=>∃ k a kvs,TupK H x k/\y=.ref a/\H a=some (.dT kvs)/\Q (.bl (!(zK kvs k).isSome)) H):=by
 intro pins s σ H x y v u Q I rx ry h;obtain ⟨k,a,kvs,⟨b,rfl,eb⟩,rfl,e,q⟩:=h;cases (show u=Value.ref a from ry);exact d_notIn hu I (DGet.t e eb) rx λs' I'=>⟨.bl _,H,I',rfl,q⟩
open Classical in
noncomputable def inO (o:Option (List Key)) (ks:List (List Key)):Bool:=match o with
 | none=>false
 | some k=>decide (k∈ks)
open Classical in
inductive rInL (K:Fg) (neg:Bool) (x y:V) (H:Hp) (Q:VK):Prop
 | mk (o:Option (List Key)) (a:Ad) (xs:Jt) (ks:List (List Key)) (_:Tk H x o) (_:y=.ref a) (_:SqL K H a xs) (_:TupL H xs ks) (_:Q (.bl (neg != inO o ks)) H)
open Classical in
def za6 {o:Option (List Key)} {x:V} {v:Vl} {xs:Jt} {ks:List (List Key)} {its:Jj} (I:Inv X pins σ H s) (t:Tk H x o) (rx:RelV x v) (tl:TupL H xs ks) (r:Vals xs its) :
  ∃ f:Vl->Bool,(∀ A:Around,A.units<cLine->∀ w∈its,SeqAt.EqAt A s w v (f w))/\its.any f=inO o ks:=by
 have pr:∀ {xs:Jt} {us:Jj} {ks:List (List Key)},Vals xs us->TupL H xs ks->∀ u∈us,∃ x k,k∈ks/\RelV x u/\TupK H x k:=by
  intro xs us ks r
  induction r generalizing ks with
  | nil=>intro _ u hu;cases hu
  | cons h t ih =>
   intro tl u hu
   cases tl with
   | cons h2 t2 =>
    rcases List.mem_cons.mp hu with rfl | hu
    ·exact ⟨_,_,q1y,h,h2⟩
    ·obtain ⟨x,k,m,z⟩:=ih t2 u hu
     exact ⟨x,k,q1x _ m,z⟩
 cases o with
 | none =>
  cases (show x=.non from t);cases (show v=Value.none from rx);refine ⟨λ_=>false,λA hA w hw=>?_,?_⟩
  ·obtain ⟨x,k,m,rw',tk⟩:=pr r tl w hw
   exact tk.eqN I rw' hA
  ·have z:∀ l:Jj,(l.any λ_=>false)=false:=λl=>by
    induction l with
    | nil=>rfl
    | cons _ _ ih=>rw [List.any_cons,ih];rfl
   show _=false;exact z _
 | some k =>
  have t:TupK H x k:=t;refine ⟨λu=>decide (∃ x,RelV x u/\TupK H x k),λA hA w hw=>?_,?_⟩
  ·obtain ⟨x2,k2,m,rw',tk⟩:=pr r tl w hw
   have e:decide (∃ x,RelV x w/\TupK H x k)=decide (k2=k):=by
    congr 1;refine propext ⟨λ⟨x3,r3,t3⟩=>?_,λe=>⟨x2,rw',e ▸ tk⟩⟩;obtain ⟨b,rfl,eb⟩:=tk;obtain ⟨c,rfl,ec⟩:=t3;cases (show w=Value.ref b from rw');cases (show Value.ref b=Value.ref c from r3);rw [eb] at ec;injection ec with ec;injection ec with ec;exact zaf ec
   show SeqAt.EqAt A s w v (decide (∃ x,RelV x w/\TupK H x k));rw [e];exact tk.eqAt I t rw' rx hA
  ·have al:∀ {xs:Jt} {us:Jj} {ks:List (List Key)},Vals xs us->TupL H xs ks->(us.any λu=>decide (∃ x,RelV x u/\TupK H x k))=decide (k∈ks):=by
    intro xs us ks r
    induction r generalizing ks with
    | nil=>intro tl;cases tl;simp
    | cons h t ih =>
     intro tl
     cases tl with
     | @cons _ k2 _ ks2 h2 t2 =>
      rw [List.any_cons,ih t2]
      have e:(∃ x,RelV x _/\TupK H x k)↔k=k2:=⟨λ⟨x3,r3,t3⟩=>by
       obtain ⟨b,rfl,eb⟩:=h2;obtain ⟨c,rfl,ec⟩:=t3;have e1:=(show _=Value.ref b from h);have e2:=(show _=Value.ref c from r3);rw [e1] at e2;cases e2;rw [eb] at ec;injection ec with ec;injection ec with ec;exact (zaf ec).symm,λe=>⟨_,h,e ▸ h2⟩⟩
      rw [Bool.eq_iff_iff];simp only [Bool.or_eq_true,decide_eq_true_eq,List.mem_cons];exact ⟨λz=>z.imp e.mp id,λz=>z.imp e.mpr id⟩
   show _=decide (k∈ks);exact al r tl
def op_inL (hu:X.A.units+1<cLine):OpR X (compareOp .In) (rInL X.K false):=by
 intro pins s σ H x y v u Q I rx ry h;obtain ⟨o,a,xs,ks,t,rfl,sq,tl,q⟩:=h;cases (show u=Value.ref a from ry);obtain ⟨its,r,pl,hz⟩:=I.list sq;obtain ⟨f,f1,f2⟩:=za6 I t rx tl r;refine SeqAt.in_listAt f pl.isList (λw hw=>by first | exact f1 _ (by show X.A.units+1<cLine;exact hu) w (by simpa using hw) | exact f1 _ (by omega) w (by simpa using hw)) ⟨.bl _,H,I,rfl,?_⟩;rw [show its.toArray.any f=its.any f by simp,f2];simpa using q
def op_notInL (hu:X.A.units+1<cLine):OpR X (compareOp .NotIn) (rInL X.K true):=by
 intro pins s σ H x y v u Q I rx ry h;obtain ⟨o,a,xs,ks,t,rfl,sq,tl,q⟩:=h;cases (show u=Value.ref a from ry);obtain ⟨its,r,pl,hz⟩:=I.list sq;obtain ⟨f,f1,f2⟩:=za6 I t rx tl r;refine SeqAt.notIn_listAt f pl.isList (λw hw=>by first | exact f1 _ (by show X.A.units+1<cLine;exact hu) w (by simpa using hw) | exact f1 _ (by omega) w (by simpa using hw)) ⟨.bl _,H,I,rfl,?_⟩;rw [show its.toArray.any f=its.any f by simp,f2];simpa using q
end
def dK:Key->PyData
 | .inl i=>.int i
 | .inr x=>.str x
def eqv_dK (a b:Key):PyData.eqv (dK a) (dK b)=decide (a=b):=by
 cases a <;> cases b <;> simp [dK,PyData.eqv] <;> rfl
theorem eqv_ks:∀ ks js:List Key,PyData.eqvAll (ks.map dK) (js.map dK)=decide (ks=js)
 | [],[]=>rfl
 | [],_::_=>by simp [PyData.eqvAll]
 | _::_,[]=>by simp [PyData.eqvAll]
 | k::ks,j::js=>by
  rw [List.map_cons,List.map_cons,PyData.eqvAll,eqv_dK,eqv_ks ks js,Bool.eq_iff_iff];simp
def dT (k:List Key):PyData:=.tuple (k.map dK)
def eqv_dT (k j:List Key):PyData.eqv (dT k) (dT j)=decide (k=j):=eqv_ks k j
theorem eqv_ts:∀ ks js:List (List Key),PyData.eqvAll (ks.map dT) (js.map dT)=decide (ks=js)
 | [],[]=>rfl
 | [],_::_=>by simp [PyData.eqvAll]
 | _::_,[]=>by simp [PyData.eqvAll]
 | k::ks,j::js=>by
  rw [List.map_cons,List.map_cons,PyData.eqvAll,eqv_dT,eqv_ts ks js,Bool.eq_iff_iff];simp
def kOk (k:Key):Bool:=(dK k).canLay0
theorem lay_ks:∀ {ks:List Key},ks.all kOk=true->PyData.canLayAll0 (ks.map dK)=true
 | [],_=>rfl
 | k::ks,h=>by
  rw [List.all_cons,Bool.and_eq_true] at h;rw [List.map_cons];show (PyData.canLay0 (dK k) && PyData.canLayAll0 (ks.map dK))=true;rw [lay_ks h.2];exact Bool.and_eq_true _ _ ▸ ⟨h.1,rfl⟩
theorem lay_ts:∀ {ks:List (List Key)},(∀ k∈ks,k.all kOk=true)->PyData.canLayAll0 (ks.map dT)=true
 | [],_=>rfl
 | k::ks,h=>by
  rw [List.map_cons];show (PyData.canLayAll0 (k.map dK) && PyData.canLayAll0 (ks.map dT))=true;rw [lay_ts λj hj=>h j (q1x _ hj),lay_ks (h k q1y)];rfl
theorem dep_ks:∀ ks:List Key,PyData.depthAll (ks.map dK)<=1
 | []=>by simp [PyData.depthAll]
 | k::ks=>by
  have:=dep_ks ks;rw [List.map_cons];cases k <;> simp [PyData.depthAll,PyData.depth,dK] <;> omega
theorem dep_ts:∀ ks:List (List Key),PyData.depthAll (ks.map dT)<=3
 | []=>by simp [PyData.depthAll]
 | k::ks=>by
  have:=dep_ts ks;have:=dep_ks k;rw [List.map_cons];simp [PyData.depthAll,PyData.depth,dT];omega
theorem dvs_ks {K:Fg} {H:Hp}:∀ k:List Key,DVs K H (k.map kV) (k.map dK)
 | []=>.nil
 | .inl i::k=>.cons (.int i) (dvs_ks k)
 | .inr x::k=>.cons (.str x) (dvs_ks k)
def TupK.dv {K:Fg} {H:Hp} {v:V} {k:List Key} (h:TupK H v k):DV K H v (dT k):=by
 obtain ⟨b,rfl,e⟩:=h;exact .tup (SqT.of e) (dvs_ks k)
def TupL.dvs {K:Fg} {H:Hp} {xs:Jt} {ks:List (List Key)} (h:TupL H xs ks):DVs K H xs (ks.map dT):=by
 induction h with
 | nil=>exact .nil
 | cons h _ ih=>exact .cons (TupK.dv h) ih
section
variable {X:Cx} {pins:Ji} {σ:St} {H:Hp} {s:Sh}
def eqv_o (o p:Option (List Key)):PyData.eqv ((o.map dT).getD .none) ((p.map dT).getD .none)=decide (o=p):=by
 cases o with
 | none=>cases p with
  | none=>rfl
  | some k=>simp [PyData.eqv,dT]
 | some k=>cases p with
  | none=>simp [PyData.eqv,dT]
  | some j=>show PyData.eqv (dT k) (dT j)=_;rw [eqv_dT];simp
def Tk.dv {K:Fg} {v:V} {o:Option (List Key)} (h:Tk H v o):DV K H v ((o.map dT).getD .none):=by
 cases o with
 | none=>cases (show v=.non from h);exact .non
 | some k=>exact TupK.dv h
def dep_o (o:Option (List Key)):((o.map dT).getD .none).depth<=64:=by
 cases o with
 | none=>simp [PyData.depth]
 | some k=>have:=dep_ks k;simp [PyData.depth,dT];omega
def oOk:Option (List Key)->Bool
 | none=>true
 | some k=>k.all kOk
def lay_o {o:Option (List Key)} (h:oOk o=true):((o.map dT).getD .none).canLay0=true:=by
 cases o with
 | none=>rfl
 | some k=>exact lay_ks h
inductive rEqT (x y:V) (H:Hp) (Q:VK):Prop
 | mk (o p:Option (List Key)) (_:Tk H x o) (_:Tk H y p) (g0:oOk o=true) (g1:oOk p=true) (_:Q (.bl (decide (o=p))) H)
def op_eqT (hu:X.A.units+64<cLine):OpR X (compareOp .Eq) rEqT:=by
 intro pins s σ H x y v u Q I rx ry h;obtain ⟨o,p,h1,h2,g0,g1,q⟩:=h;exact xZ hu pins s σ H x y v u Q I rx ry ⟨_,_,h1.dv,h2.dv,lay_o g0,lay_o g1,dep_o o,by rw [eqv_o];exact q⟩
inductive rEqTs (K:Fg) (f:Bool->Bool) (x y:V) (H:Hp) (Q:VK):Prop
 | mk (a b:Ad) (xs ys:Jt) (ks js:List (List Key)) (_:x=.ref a) (_:y=.ref b) (_:SqL K H a xs) (_:SqL K H b ys) (_:TupL H xs ks) (_:TupL H ys js) (g0:∀ k∈ks,k.all kOk=true) (g1:∀ k∈js,k.all kOk=true) (_:Q (.bl (f (decide (ks=js)))) H)
def eqTs {f:Bool->Bool} {K:Fg} {x y:V} {Q:VK} (h:rEqTs K f x y H Q):rEqD K f x y H Q:=by
 obtain ⟨a,b,xs,ys,ks,js,rfl,rfl,h2,h3,h4,h5,g0,g1,q⟩:=h;refine ⟨.list (ks.map dT),.list (js.map dT),.lst h2 h4.dvs,.lst h3 h5.dvs,lay_ts g0,lay_ts g1,?_,?_⟩
 ·have:=dep_ts ks;simp [PyData.depth];omega
 ·rw [show PyData.eqv (.list (ks.map dT)) (.list (js.map dT))=PyData.eqvAll (ks.map dT) (js.map dT) by rw [PyData.eqv],eqv_ts];exact q
def op_eqTs (hu:X.A.units+64<cLine):OpR X (compareOp .Eq) (rEqTs X.K id):=λpins s σ H x y v u Q I rx ry h=>xZ hu pins s σ H x y v u Q I rx ry (eqTs h)
def X2 (hu:X.A.units+64<cLine):OpR X (compareOp .NotEq) (rEqTs X.K not):=λpins s σ H x y v u Q I rx ry h=>op_neD hu pins s σ H x y v u Q I rx ry (eqTs h)
def zci (hc:X.calm=true):ZY X (.type "list") (λxs H Q=>∃ (p:Ad) (kvs:List (List Key×V)),xs=[.ref p]/\H p=some (.dT kvs)/\kvs.length<=sizeLine/\∀ D ys,H D=none->TupL H ys (kvs.map (·.1))->Q (.ref D) (upd H D (.lst ys))):=by
 intro pins s σ H xs us Q I r h;obtain ⟨d,kvs,rfl,hd,hl,q⟩:=h;obtain ⟨u,rfl,ru⟩:=vals1 r;cases ru;obtain ⟨hz,lo,zs,rel,o,es,ep,ho,hc1,hda,he,his,hn⟩:=dt_of I.hok hd;have lk:kvs.length=zs.length:=Paired.length rel;refine PySem.W.kdl_call (src_h (knd:=tupleKind (zJ X.prog X.w)) (xs:=zs) (ep:=ep) lo) (I.ok.hd hc) ⟨o,es,ho,hc1,hda,he⟩ (by omega) λh' tk acc c' hk hD ha=>?_
 have tl:∀ {kvs:List (List Key×V)} {zs:List (List Key×Ad×Vl)},KT H kvs zs->TupL H (zs.map λz=>V.ref z.2.1) (kvs.map (·.1)):=by
  intro kvs zs r
  induction r with
  | nil=>exact .nil
  | cons h _ ih=>exact .cons ⟨_,rfl,h.2.1⟩ ih
 refine ⟨.ref s.heap.objs.size,_,I.laid (t':=tk) hk (Nat.le_refl _) (show ObjOk X.prog X.w _ h' _ (.lst (zs.map λz=>V.ref z.2.1)) from ⟨by rw [Jo];omega,acc.toList,c',?_,by simpa using hD⟩),rfl,q _ _ (I.hok.fresh (Nat.le_refl _)) (tl rel)⟩;refine YH (by rw [Jo];exact ha.1.symm.trans Array.length_toList.symm) λi x v hx hv=>?_;obtain ⟨z,e1,e2⟩:=ha.2 i v (by rw [← Array.getElem?_toList];exact hv);rw [List.getElem?_map,e1] at hx;cases hx;exact e2
def x9 (kvs:List (List Key×V)) (k:List Key):List (List Key×V):=kvs.filter λkv=>decide (kv.1≠k)
def KT.wipe {H:Hp} {kvs:List (List Key×V)} {xs:List (List Key×Ad×Vl)} (r:KT H kvs xs) (k:List Key):KT H (x9 kvs k) (wipeH xs k):=by
 induction r with
 | nil=>exact .nil
 | @cons p q ps qs h t ih =>
  unfold x9 wipeH;by_cases e:p.1=k
  ·rw [List.filter_cons_of_neg (by simpa using e),List.filter_cons_of_neg (by simpa using h.1.symm.trans e)];exact ih
  ·rw [List.filter_cons_of_pos (by simpa using e),List.filter_cons_of_pos (by simpa using λz=>e (h.1.trans z))];exact .cons h ih
def za8 {h':Heap} {t':Nat} {a:Ad} {kvs kvs':List (List Key×V)} {xs:List (List Key×Ad×Vl)} (I:Inv X pins σ H s) (e:H a=some (.dT kvs)) (lo:(a == sysModules)=false) (hl:kvs'.length<=sizeLine) (rel:KT H kvs' xs) (dd:h'.DictOfH (tupleKind (zJ X.prog X.w)) a xs) (hs:Heap.SameBut a s.heap h') :
  Inv X pins σ (upd H a (.dT kvs')) { s with heap:=h',toks:=t' }:=by
 obtain ⟨q,es,ep,hq,h2,h3,h4,_,h5⟩:=dd;refine YB I (by rw [e];exact True.intro) hs ⟨q,hq⟩ ⟨hl,lo,_,rel.keeps λc ys ec=>?_,q,es,ep,hq,h2,h3,h4,h5⟩;rw [zI (ne_of ec e (λz=>nomatch z))];exact ec
def d_popT {a b:Ad} {kvs:List (List Key×V)} {k:List Key} {v:V} {A:Around} {E:Jg} {Q:Jg} (hu:A.units+1<cLine) (I:Inv X pins σ H s) (e:H a=some (.dT kvs)) (eb:H b=some (.tup (k.map kV))) (l:zK kvs k=some v)
  (h:∀ w' s',Inv X pins σ (upd H a (.dT (x9 kvs k))) s'->RelV v w'->Q w' s'):wpAny (model X.prog X.w) A (call (.builtin "dict.pop") [.ref a,.ref b]) Q E s:=by
 obtain ⟨z,lo,xs,rel,dd⟩:=dt_of I.hok e;obtain ⟨w',hw,rw'⟩:=RelO.some_of (v:=v) (o:=(atKey xs k).map (·.2)) (by rw [← l];exact rel.val k);obtain ⟨p,hp,hp2⟩:=Option.map_eq_some_iff.mp hw;refine call_meetsIn PySem.F.slot_dict_pop dd.typeIs PySem.F.entry_dict_pop (PySem.F.args_dict_pop_2 _ _) (zb4 (tupleKind (zJ X.prog X.w)) a b)
  ⟨tupleKind_room_in1 hu,k,xs,p,x5 I.hok eb,dd,by rw [← Paired.length rel];exact z,hp,λh' dd' hs=>?_⟩
 rw [hp2];exact h w' _ (za8 I e lo (Nat.le_trans (List.length_filter_le _ _) z) (rel.wipe k) dd' hs) rw'
def d_clearT {a:Ad} {kvs:List (List Key×V)} {A:Around} {E:Jg} {Q:Jg} (I:Inv X pins σ H s) (e:H a=some (.dT kvs)) (h:∀ s',Inv X pins σ (upd H a (.dT [])) s'->Q .none s'):wpAny (model X.prog X.w) A (call (.builtin "dict.clear") [.ref a]) Q E s:=by
 obtain ⟨z,lo,xs,rel,dd⟩:=dt_of I.hok e;exact call_meetsIn PySem.F.slot_dict_clear dd.typeIs PySem.F.entry_dict_clear (PySem.F.args_dict_clear_1 _) (zad (tupleKind (zJ X.prog X.w)) a) ⟨xs,dd,by rw [← Paired.length rel];exact z,λh' dd' hs=>h _ (za8 (t':=s.toks) I e lo (Nat.zero_le _) .nil dd' hs)⟩
end
def tDPopT (td ty:TE):TE:=λσ H Q=>td σ H λx H1=>∃ a,x=.ref a/\IsD H1 a/\ty σ H1 λy H2=>∃ kvs k v,H2 a=some (.dT kvs)/\TupK H2 y k/\zK kvs k=some v/\Q v (upd H2 a (.dT (x9 kvs k)))
def tDClearT (td:TE):TE:=λσ H Q=>td σ H λx H1=>∃ a kvs,x=.ref a/\H1 a=some (.dT kvs)/\Q .non (upd H1 a (.dT []))
section
variable {X:Cx} {o e f:Expr} {apos cpos:Pos} {td ty tx:TE}
def zaw (hu:X.A.units+1<cLine) (ho:PE X o td) (he:PE X e ty) (m:M1 X o "pop" apos e cpos):PE X (.Call (.Attribute o "pop" apos) [e] [] cpos) (tDPopT td ty):=by
 intro pins s σ H Q I h;refine wpAny_Call_method m.base m.few m.line PySem.F.plainAttrs_dict PySem.F.slot_dict_pop PySem.F.type_dict_pop (thn (ho pins s σ H _ I h) λu s1 ⟨x,H1,I1,rx,a,ex,d,q1⟩=>?_);subst ex;obtain rfl:u=Value.ref a:=rx;obtain ⟨t1,t2,_⟩:=Y9 I1 d;refine ⟨t1,t2,?_⟩;rw [m.trees];refine Calls.callWith_builtin rfl (Calls.evalArgs_plain (Calls.spliced_cons (thn (he pins s1 σ H1 _ I1 q1) λiv s2 ⟨y,H2,I2,ry,kvs,k,v,ea,⟨b,ey,eb⟩,l,q2⟩=>Calls.spliced_nil ?_)));subst ey;cases (show iv=Value.ref b from ry);exact d_popT hu I2 ea eb l λw' s3 I3 rw'=>⟨v,_,I3,rw',q2⟩
def zbs (ho:PE X o td) (hbase:attributeBase o "clear" X.env (eval o X.env)=eval o X.env:=by rfl) (hline:(apos.endLine == cpos.line)=true:=by rfl):PE X (.Call (.Attribute o "clear" apos) [] [] cpos) (tDClearT td):=by
 intro pins s σ H Q I h;refine wpAny_Call_method0_late hbase hline (thn (ho pins s σ H _ I h) λv s1 ⟨x,H1,I1,r1,a,kvs,ex,ea,q1⟩=>?_);subst ex;obtain rfl:v=Value.ref a:=r1;obtain ⟨t1,t2,_⟩:=Y9 I1 (.inr ⟨kvs,.inl ea⟩);exact ⟨"dict","dict.clear",PySem.F.plainAttrs_dict,PySem.F.slot_dict_clear,PySem.F.type_dict_clear,t1,t2,Calls.callWith_builtin rfl (PySem.evalArgs_none (d_clearT I1 ea λs2 I2=>⟨.non,_,I2,rfl,q1⟩))⟩
end
def ItRev (K:Fg) (a:Ad) (n:Nat):It :=
 ⟨λi H=>i<n/\∃ xs,SqL K H a xs/\xs.length=n,λi H x H'=>H'=H/\∀ xs,SqL K H a xs->xs[n-1-i]?=some x,λi H=>i=n/\∃ xs,SqL K H a xs/\xs.length=n⟩
def turn_rev {P:Program} {w:World} {K:Fg} {tg:Expr} (a it:Ad) (n:Nat) (hne:a≠it):Turn P w K tg (ItRev K a n) [it] it (λi h=>h.IsRevIter it a ((n:Int)-1-(i:Int))) where
 mem:=by simp
 obj:=λi h st b hb=>by
  have e:b=it:=by simpa using hb
  subst e;obtain ⟨o,e,c,d⟩:=st;exact ⟨o,e,λv z=>by rw [d] at z;cases z⟩
 keep:=λi h h' st k=>st.at λo e=>k it (by simp) o e
 item:=by
  intro X hP hw hK hc i pins s σ H E I hf st hg;subst hP hw hK;obtain ⟨hi,xs,hq,hx⟩:=hg;obtain ⟨its,rv,p,hz⟩:=I.list hq;have hl:=rv.length;obtain ⟨f0,f1,f2,f3,f4,f5⟩:=hf it (by simp);have W:=Walks.listRev (prog:=X.prog) (w:=X.w) (A:=X.A) (I.ok.hd hc) it a hne its.toArray;have sz:its.toArray.size=n:=by rw [List.size_toArray];omega
  refine W.item i s _ _ (by omega) ⟨by omega,by rw [sz];exact st,p.isList⟩ λv h' tk hv st' kk=>?_;rw [sz,List.getElem?_toArray] at hv;obtain ⟨x,ex⟩:∃ x,xs[n-1-i]?=some x:=⟨_,List.getElem?_eq_getElem (by omega)⟩;obtain ⟨u,hu,ru⟩:=rv.get ex;rw [hv] at hu;cases hu;have I1:Inv X pins σ H { s with heap:=h',toks:=tk }:=I.turned (λb o hb e=>kk b o (by simpa using hb) e) f0 f1 f3 f4 f5;have st2:=st'.2.1;rw [sz] at st2;obtain ⟨o,e,c,d⟩:=id st2;exact ⟨v,rfl,go_of (s:={ s with heap:=h',toks:=tk }) e c d (by decide) ⟨x,H,I1,ru,⟨rfl,λys hy=>by rw [I.list_inj hy hq];exact ex⟩,st2,λb hb=>(hf b hb).1⟩⟩
 done:=by
  intro X hP hw hK hc i pins s σ H E I hf st hg;subst hP hw hK;obtain ⟨hi,xs,hq,hx⟩:=hg;obtain ⟨its,rv,p,hz⟩:=I.list hq;have hl:=rv.length;obtain ⟨f0,f1,f2,f3,f4,f5⟩:=hf it (by simp);have W:=Walks.listRev (prog:=X.prog) (w:=X.w) (A:=X.A) (I.ok.hd hc) it a hne its.toArray;have sz:its.toArray.size=n:=by rw [List.size_toArray];omega
  exact W.done s _ _ ⟨Nat.le_refl _,by rw [sz];rw [hi] at st;exact st,p.isList⟩ λh' tk kk=>⟨rfl,I.turned (λb o hb e=>kk b o (by simpa using hb) e) f0 f1 f3 f4 f5⟩
 self:=λ_ _ _ _ _ st h=>wpAny_pyIter_revIter st h
def iRev (K:Fg) (tl:TE):TI:=λσ H R=>tl σ H λx H1=>∃ a xs,x=.ref a/\SqL K H1 a xs/\R (ItRev K a xs.length) H1
def pi_rev {X:Cx} {tg:Expr} {l:Expr} {tl:TE} {p pos:Pos} (hg:Gl X "reversed") (hm:X.mg "reversed"=none) (hl:PE X l tl) (hs:starEach [l] X.env=(false,eval l X.env)::starEach [] X.env:=by rfl):PI X tg (.Call (.Name "reversed" p) [l] [] pos) (iRev X.K tl):=by
 intro pins s σ H R I h;refine wpAny_Call_Name_kw (ZC I hg hm boot_reversed ?_);refine PyProof.Rows.callWith_type1 ?_ hs rfl;rw [hs];show wpAny _ _ (spliced [(false,eval l X.env)]) _ _ s;refine Calls.spliced_cons (thn (hl pins s σ H _ I h) λu s1 ⟨x,H1,I1,r1,a,xs,ex,hq,q⟩=>Calls.spliced_nil ?_);subst ex;obtain rfl:u=Value.ref a:=r1;obtain ⟨its,r',pl,hz⟩:=I1.list hq;have hlen:=r'.length;have hl:=pl.isList
 have na:a≠s1.heap.objs.size:=λe=>by
  obtain ⟨o,ho,_⟩:=hl;exact Nat.lt_irrefl _ (e ▸ Heap.lt_size ho)
 refine call_reversed_list hl ?_;refine wpAny_pyIter_revIter (l:=a) (i:=(its.toArray.size:Int)-1) ⟨_,Heap.get?_push_size _ rfl,rfl,rfl⟩ ?_;refine ⟨s1.heap.objs.size,[s1.heap.objs.size],_,_,H1,rfl,I1.kept (t':=s1.toks) λb o e=>Heap.get?_push_of_some _ e,turn_rev a _ xs.length na,⟨_,Heap.get?_push_size _ rfl,rfl,?_⟩,λb hb=>?_,q⟩
 ·show (revObj a _).data=_
  rw [revObj,List.size_toArray,hlen];simp
 ·have e:b=s1.heap.objs.size:=by simpa using hb
  subst e;exact I1.fpOk (Nat.le_refl _) (I1.hok.fresh (Nat.le_refl _))
end L2
namespace L2
open PySem PySem.Spec PyProof.Rows
def comp_tup {K:Fg} {a D:Ad} {xs:Jt} {g:TG} {te:TE} {σY:St} {H1:Hp} {Q:VK} (Pv:Nat->St->Hp->Prop) (h0:Pv 0 σY H1) (hl:∀ i σ H,i<=xs.length->Pv i σ H->SqT K H a xs)
  (hs:∀ i x σ H,xs[i]?=some x->Pv i σ H->g x σ H λσ3 H3=>te σ3 H3 λv H4=>∃ ys,H4 D=some (.lst ys)/\ys.length<sizeLine/\Pv (i+1) σ3 (upd H4 D (.lst (ys++[v])))) (hd:∀ σ H,Pv xs.length σ H->Q (.ref D) H) :
  CompW (Itt K a) g te σY H1 D Q:=by
 refine ⟨λi m σ H=>m=xs.length-i/\i<=xs.length/\Pv i σ H,⟨xs.length,by simp,Nat.zero_le _,h0⟩,?_⟩;rintro i m σ H ⟨rfl,hi,p⟩;have q:=hl i σ H hi p;by_cases hlt:i<xs.length
 ·refine .inr ⟨⟨xs,xs[i],q,by simp [hlt]⟩,Pv (i+1),λσ' H' p'=>⟨xs.length-(i+1),by omega,rfl,hlt,p'⟩,λx H' y=>?_⟩
  obtain ⟨e,y⟩:=y;subst e;exact hs i x σ _ (y xs q) p
 ·have e:i=xs.length:=by omega
  subst e;exact .inl ⟨⟨xs,q,Nat.le_refl _⟩,hd σ H p⟩
def for_rev {K:Fg} {a:Ad} {xs:Jt} {g:TG} {tb:TS} {D:Ends} {σ:St} {H:Hp} (Pv:Nat->St->Hp->Prop) (h0:Pv 0 σ H) (hl:∀ i σ H,i<=xs.length->Pv i σ H->SqL K H a xs)
  (hs:∀ i x σ H,xs.reverse[i]?=some x->Pv i σ H->g x σ H λσ2 H2=>tb { D with nx:=Pv (i+1),ct:=Pv (i+1),bk:=D.nx } σ2 H2) (hd:∀ σ H,Pv xs.length σ H->D.nx σ H) :
  tFor_S g tb D σ (ItRev K a xs.length) H:=by
 refine ⟨λi m σ H=>m=xs.length-i/\i<=xs.length/\Pv i σ H,⟨xs.length,by simp,Nat.zero_le _,h0⟩,?_⟩;rintro i m σ H ⟨rfl,hi,p⟩;have q:=hl i σ H hi p;by_cases hlt:i<xs.length
 ·refine .inr ⟨⟨hlt,xs,q,rfl⟩,Pv (i+1),λσ' H' p'=>⟨xs.length-(i+1),by omega,rfl,hlt,p'⟩,λx H' y=>?_⟩
  obtain ⟨e,y⟩:=y;subst e;exact hs i x σ _ (by rw [List.getElem?_reverse hlt];exact y xs q) p
 ·have e:i=xs.length:=by omega
  subst e;exact .inl ⟨⟨rfl,xs,q,rfl⟩,hd σ H p⟩
theorem TupL.at {H:Hp}:∀ {xs:Jt} {ks:List (List Key)} {i:Nat} {x:V},TupL H xs ks->xs[i]?=some x->∃ k,ks[i]?=some k/\TupK H x k
 | _,_,_,_,.nil,e=>by cases e
 | _,_,0,_,.cons h _,e=>by cases e;exact ⟨_,rfl,h⟩
 | _,_,i+1,_,.cons _ t,e=>TupL.at (i:=i) t e
def TupL.rev {H:Hp} {xs:Jt} {ks:List (List Key)} (h:TupL H xs ks):TupL H xs.reverse ks.reverse:=by
 induction h with
 | nil=>exact .nil
 | cons h _ ih=>rw [List.reverse_cons,List.reverse_cons];exact Paired.snoc ih h
def TupL.app {H:Hp} {xs ys:Jt} {ks js:List (List Key)} (h:TupL H xs ks) (g:TupL H ys js):TupL H (xs++ys) (ks++js):=by
 induction h with
 | nil=>exact g
 | cons h _ ih=>exact .cons h ih
def constV:Expr->Ju
 | .Constant (.str x) _ _=>some (.str x)
 | .Constant (.int i) _ _=>some (.int i)
 | _=>none
def YC:Jn->Option (Jt)
 | []=>some []
 | e::es=>match constV e with
  | some v=>(match YC es with
   | some vs=>some (v::vs)
   | none=>none)
  | none=>none
def tKs (vs:Jt):TA:=λ_ H Q=>Q vs H
theorem Xr {X:Cx}:∀ {es:Jn} {vs:Jt},YC es=some vs->PA X es (tKs vs)
 | [],vs,h=>by cases h;exact zc
 | e::es,vs,h=>by
  unfold YC at h
  split at h
  ·rename_i v hv
   split at h
   ·rename_i ws hw
    cases h;have ih:=Xr (X:=X) hw;unfold constV at hv
    split at hv
    ·cases hv;exact za zf ih rfl
    ·cases hv;exact za zb ih rfl
    ·cases hv
   ·cases h
  ·cases h
structure PB (X:Cx) (sts:List Stmt) (t:TS):Prop where
 h:PSs X sts t
structure PW1 (X:Cx) (st:Stmt) (t:TS):Prop where
 h:PS X st t
section
variable {X:Cx} {st:Stmt} {rest:List Stmt} {t u:TS}
def zY (h1:PW1 X st t) (h2:PB X rest u):PB X (st::rest) (tSeq t u):=⟨zd h1.h h2.h⟩
def pb_one (h1:PW1 X st t):PB X [st] t:=⟨ze h1.h⟩
def pw_ks {i:Nat} {x:Str} {es:Jn} {vs:Jt} {p pos pos':Pos} (hN:X.N.Nodup) (hi:X.N[i]?=some x) (hx:Loc X.env.scope x) (h:YC es=some vs) (hf:X.fn x=true∨X.env.scope.names.lookup x=some .local:=by first | exact .inl rfl | exact .inr rfl | assumption) :
  PW1 X (.Assign [.Name x pos'] (.List es p) pos) (tAsg (tLst (tKs vs)) (Yn i)):=⟨zq hN hi hx (zH (Xr h)) rfl hf⟩
end
section
variable {P:Program} {w:World} {K:Fg} {mg:J0} {base:Heap}
def Fun.okB {x qual:Str} {st:Stmt} {f:Ad} {fd:FuncData} {N ps:Jl} {k:Nat} {sp:Sp} (F:Fun K x qual st f fd) (S:FnScope N ps (zh st)) (len:∀ vs H Q E,sp vs H Q E->vs.length=ps.length)
  (hbody:∀ (cdv:Vl) (A:Around) (outer:List Env) (s:Sh) (H:Hp) (vs:Jt) (Q:VK) (E:XK),Room k (A.deeper (envOfC qual (zh st) s.heap.objs.size f cdv))->sp vs H Q E ->
   ∃ t,PB (yh CX0 P w K mg base N qual (zh st) f cdv A outer s H E).nox (yf st) t/\t { nx:=λ_ H'=>Q .non H',rt:=Q } (Zr N vs) H):FnOk P w K mg base CX0 (k+1) f fd ps sp :=
 F.ok S len λcdv A outer s H vs Q E hr h=>let ⟨t,q,z⟩:=hbody cdv A outer s H vs Q E hr h;⟨t,q.h,z⟩
end
end L2
namespace L2
open PySem PySem.Spec PyProof.Rows
open Sem (wp)
section
variable {X:Cx}
def sortK {pins:Ji} {σ:St} {H:Hp} {s:Sh} {d v:Ad} {kvs:Jr} {A:Around} {E:Jg} {Q:Jg} (hh:A.handled=none) (I:Inv X pins σ H s) (hd:H d=some (.dK kvs)) (hv:PySem.W.KdlKeysView s.heap v d)
  (ik:∀ q∈kvs,∃ j,q.1=.inl j) (h64:kvs.length<64) (vz:s.heap.objs.size=v+1) (q:∀ (D:Ad) (ns:Jh) s',H D=none->ns.Perm (kvs.map λq=>keyI q.1)->Inv X pins σ (upd H D (.lst (ns.map V.int))) s'->Q (.ref D) s') :
  wpAny (model X.prog X.w) A (call (.builtin "sorted") [.ref v]) Q E s:=by
 obtain ⟨ob,es,ep,vs,rk,cc,eob,hS,hz,_⟩:=I.hideD hd;have lk:kvs.length=vs.length:=rk.length;have DA:∀ {h:Heap},h.get? d=some ob->Heap.DictAt (zJ X.prog X.w) h d vs ep:=λ{h} q=>⟨ob,es,q,cc⟩;refine Calls.call_function_entry kind_sorted plain_sorted entry_sorted (args_sorted1 _) ?_;unfold Builtin.«sorted»;refine q0x (m:=checkCount "sorted" 1 1 _) (q0y ?_);refine q0x (PySem.W.kdu_collect (A:=A.in1) (PySem.W.kdl_keys (knd:=zJ X.prog X.w) (kvs:=vs) (ep:=ep)) hh ⟨hv,DA eob⟩ (by omega) λh' tk acc hk hacc=>?_);have hl:acc.toList.length=vs.length:=by rw [Array.length_toList];exact hacc.1
 refine q0x (wpAny_newList ?_ (by rw [hl];omega))
 have intsA:∀ (us:Jj) (ks:List Key),us.length=ks.length->(∀ (i:Nat) u k,us[i]?=some u->ks[i]?=some k->(zJ X.prog X.w).is k u=true)->(∀ k∈ks,∃ j,k=.inl j)->IntsAre us (ks.map keyI):=by
  intro us
  induction us with
  | nil=>intro ks hl _ _;cases ks with | nil=>exact .nil | cons _ _=>cases hl
  | cons u us ih =>
   intro ks hl h hi
   cases ks with
   | nil=>cases hl
   | cons k ks =>
    obtain ⟨j,rfl⟩:=hi k q1y;obtain ⟨t,rfl⟩:=(show ∃ t,u=Value.int j t from kV_rel (h 0 u _ rfl rfl));exact .cons j t (ih ks (Nat.succ.inj hl) (λi u k a b=>h (i+1) u k a b) λk hk=>hi k (q1x _ hk))
 have kin:∀ k:Key,k∈kvs.map (·.1)->∃ j,k=.inl j:=λk hk=>by
  obtain ⟨p,hp,rfl⟩:=List.mem_map.mp hk;exact ik p hp
 have hI:IntsAre acc.toList ((kvs.map (·.1)).map keyI):=by
  refine intsA _ _ (by rw [Jo];omega) (λi u k hu hk=>?_) kin;obtain ⟨k2,x,e1,e2⟩:=hacc.2 i u (by rw [← Array.getElem?_toList];exact hu);rw [rk.keys,List.getElem?_map,e1] at hk;cases hk;exact e2
 have ho:(h'.push (seqObj "list" acc.toList.toArray 0)).get? h'.objs.size=some (seqObj "list" acc.toList.toArray 0):=Heap.get?_push_size _ rfl;refine q0x (wpAny_holding (wpAny_call_entry slot_list_sort ⟨_,ho,rfl⟩ entry_list_sort (list_sort_tree (vs:=acc.toList) (n:=0) ho hI (by omega) λout ns' a1 a2 a3=>⟨_,rfl,?_⟩) (args_list_sort _)));refine q0y ⟨_,rfl,?_⟩;obtain ⟨e,he⟩:=sortedHeap_at (out:=out) ho
 have kp:∀ b o,s.heap.get? b=some o->(sortedHeap (h'.push (seqObj "list" acc.toList.toArray 0)) h'.objs.size acc.toList out).get? b=some o:=λb o eb=>by
  have h1:=hk b o eb;have lt:=Heap.lt_size h1;rw [sortedHeap_old (Nat.ne_of_lt lt) (by rw [size_push'];exact Nat.lt_succ_of_lt lt),Heap.get?_push_ne _ _ _ (Nat.ne_of_lt lt)];exact h1
 have sz:s.heap.objs.size<=h'.objs.size:=by
  obtain ⟨o,eo,_⟩:=hv;rw [vz];exact Nat.succ_le_of_lt (Heap.lt_size (hk _ _ eo))
 have pe:∀ {us:Jj} {ns:Jh},IntsAre us ns->Vals (ns.map V.int) us:=by
  intro us ns r
  induction r with
  | nil=>exact .nil
  | cons n t _ ih=>exact .cons ⟨t,rfl⟩ ih
 have ln:ns'.length<=sizeLine:=by
  have:=a2.length_eq;rw [Jo,Jo] at this;omega
 refine q h'.objs.size ns' _ (I.hok.fresh sz) (by rw [List.map_map] at a2;exact a2) (I.laid (t':=tk) kp sz (show ObjOk X.prog X.w _ _ _ (.lst (ns'.map V.int)) from ⟨by rw [Jo];exact ln,out.toList,e,pe a1,by simpa using he⟩))
inductive tSortK_S (Q:VK) (x:V) (H1:Hp):Prop
 | mk (a:Ad) (kvs:Jr) (_:x=.ref a) (_:H1 a=some (.dK kvs)) (_:∀ q∈kvs,∃ j,q.1=.inl j) (_:kvs.length<64) (_:∀ (D:Ad) (ns:Jh),H1 D=none->ns.Perm (kvs.map λq=>keyI q.1)->Q (.ref D) (upd H1 D (.lst (ns.map V.int))))
def tSortK (td:TE):TE:=λσ H Q=>td σ H λx H1=>tSortK_S Q x H1
def pe_sortK {o:Expr} {td:TE} {p pos apos cpos:Pos} (hc:X.calm=true) (hg:Gl X "sorted") (hm:X.mg "sorted"=none) (ho:PE X o td) (hbase:attributeBase o "keys" X.env (eval o X.env)=eval o X.env:=by rfl) (hline:(apos.endLine == cpos.line)=true:=by rfl)
  (he:starEach [Expr.Call (.Attribute o "keys" apos) [] [] cpos] X.env=(false,eval (.Call (.Attribute o "keys" apos) [] [] cpos) X.env)::starEach [] X.env:=by rfl):PE X (.Call (.Name "sorted" p) [.Call (.Attribute o "keys" apos) [] [] cpos] [] pos) (tSortK td):=by
 intro pins s σ H Q I h;refine wpAny_Call_Name_kw (ZC I hg hm boot_sorted ?_ (by decide) (by decide));refine PyProof.Rows.callWith_builtin1 ?_ he rfl;rw [he];show wpAny _ _ (spliced [(false,eval (.Call (.Attribute o "keys" apos) [] [] cpos) X.env)]) _ _ s;refine Calls.spliced_cons (wpAny_Call_method0_late hbase hline (thn (ho pins s σ H _ I h) λu s1 ⟨x,H1,I1,r1,q1⟩=>?_));obtain ⟨a,kvs,rfl,ea,ik,h64,q⟩:=q1;obtain rfl:u=Value.ref a:=r1;obtain ⟨t1,t2,lo⟩:=Y9 I1 (.inl ⟨kvs,.inl ea⟩);obtain ⟨z,hd,vs,rel,dd⟩:=dk_of I1.hok ea;refine ⟨"dict","dict.keys",PySem.F.plainAttrs_dict,PySem.F.slot_dict_keys,PySem.F.type_dict_keys,t1,t2,Calls.callWith_builtin rfl (PySem.evalArgs_none (call_meetsIn PySem.F.slot_dict_keys dd.typeIs PySem.F.entry_dict_keys (PySem.F.args_dict_keys_1 _) (PySem.W.kdl_meets_keys (zJ X.prog X.w) a hd) ⟨⟨vs,dd⟩,?_⟩))⟩;refine Calls.spliced_nil ?_;have I2:Inv X pins σ H1 { s1 with heap:=s1.heap.push { cls:=.type "dict_keys",data:=.fields #[.ref a] } }:=I1.kept (t':=s1.toks) λb o e=>Heap.get?_push_of_some _ e;exact sortK (I.ok.hd hc) I2 ea ⟨_,Heap.get?_push_size _ rfl,rfl,rfl⟩ ik h64 (size_push' _ _) λD ns s' n1 n2 I3=>⟨.ref D,_,I3,rfl,q D ns n1 n2⟩
inductive tTopGet_S (w:World) (K:Fg) (tk tx:TE) (σ:St) (Q:VK) (x:V) (H1:Hp):Prop
 | mk (a:Ad) (_:x=.ref a) (_:yU w K a) (_:(a == sysModules)=false) (_:tk σ H1 λy H2=>tx σ H2 λz H3=>∃ (k:Str) (r:Jk),y=.str k/\PySem.W.nsIn K a k=some r/\(∀ u,r=some u->∃ v,RelV v u/\Q v H3)/\(r=none->Q z H3))
def tTopGet (w:World) (K:Fg) (td tk tx:TE):TE:=λσ H Q=>td σ H λx H1=>tTopGet_S w K tk tx σ Q x H1
def pe_topget {o e f:Expr} {td tk tx:TE} {apos cpos:Pos} (ho:PE X o td) (he:PE X e tk) (hf:PE X f tx) (m:M2 X o "get" apos e f cpos):PE X (.Call (.Attribute o "get" apos) [e,f] [] cpos) (tTopGet X.w X.K td tk tx):=by
 intro pins s σ H Q I h;refine wpAny_Call_method m.base m.few m.line PySem.F.plainAttrs_dict PySem.F.slot_dict_get PySem.F.type_dict_get (thn (ho pins s σ H _ I h) λu s1 ⟨x,H1,I1,rx,q1⟩=>?_);obtain ⟨a,rfl,⟨es,n,hl,hk⟩,lo,q1⟩:=q1;obtain rfl:u=Value.ref a:=rx;have ty:∀ {s:Sh},Inv X pins σ H1 s->s.heap.get? a=some ⟨.type "dict",none,.dict es n,#[]⟩:=λ{s} I=>I.kIn _ _ hl;refine ⟨⟨_,ty I1,rfl⟩,λb q=>by cases q;exact ⟨_,ty I1,rfl⟩,?_⟩;rw [m.trees]
 refine Calls.callWith_builtin rfl (Calls.evalArgs_plain (Calls.spliced_cons (thn (he pins s1 σ H1 _ I1 q1) λiv s2 ⟨y,H2,I2,ry,q2⟩ =>
  Calls.spliced_cons (thn (hf pins s2 σ H2 _ I2 q2) λfv s3 ⟨z,H3,I3,rz,k,r,ey,en,q3,q4⟩=>Calls.spliced_nil ?_))))
 subst ey;obtain ⟨t,rfl⟩:=(show ∃ t,iv=Value.str k t from ry);have mp:=PySem.W.mapOf_K (prog:=X.prog) I3.kIn hl hk;refine call_meetsIn PySem.F.slot_dict_get ⟨_,I3.kIn _ _ hl,rfl⟩ PySem.F.entry_dict_get (PySem.F.args_dict_get_3 _ _ _) (meets_dict_get_default (strKind X.prog X.w) a (strKind_is X.prog X.w k t) lo fv) ⟨_,mp,?_⟩;rw [PySem.W.find_K hl en]
 cases r with
 | none=>exact ⟨z,H3,I3.tok _,rz,q4 rfl⟩
 | some u =>
  obtain ⟨v,rv,qv⟩:=q3 u rfl;exact ⟨v,H3,I3.tok _,rv,qv⟩
end
end L2
namespace L2
open PySem
namespace Hd
variable {B:Hp} {L:Js} {H H' J:Hp} {a b:Ad} {o o':HO}
def grow (h:Hd B L H) (n:H a=none):Hd (upd B a o) L (upd H a o):=by
 refine ⟨h.nd,λp q=>?_,λp q=>?_,λb u z=>?_⟩
 ·rw [zI (zT (h.st p q) n)];exact h.nw p q
 ·rw [zI (zT (h.st p q) n)];exact h.st p q
 ·by_cases e:b=a
  ·subst e;rw [zu] at z ⊢;exact z
  ·rw [zI e] at z ⊢;exact h.sm _ _ z
def settle (m:Hd B ((a,o)::L) H):Hd (upd B a o) L H:=by
 have h:=m.tl;have na:a ∉ L.map Prod.fst:=(List.nodup_cons.mp m.nd).1;refine ⟨h.nd,λp q=>?_,h.st,λb u z=>?_⟩
 ·rw [zI (λe=>na (by rw [← e];exact List.mem_map_of_mem q))];exact h.nw p q
 ·by_cases e:b=a
  ·subst e;rw [zu] at z;cases z;exact m.get 0 rfl
  ·rw [zI e] at z;exact m.sm _ _ z
def settled (m:Hd B ((a,o)::L) H):Same B (upd B a o):=zU (Same.refl _) (m.nw (a,o) (q1y ..))
def fnew {p:Ad×HO} (h:Hd B (p::L) H) (n:H a=none):Hd B (p::(a,o)::L) (upd H a o):=(h.new n).perm (List.Perm.swap _ _ _)
def fput (h:Hd B ((a,o)::L) H):Hd B ((a,o')::L) (upd H a o'):=h.put 0 rfl
end Hd
namespace Hd
variable {B:Hp} {L L2:Js} {H H' J:Hp} {a b:Ad} {o o':HO}
def mv {p:Ad×HO} (k:Nat) (h:Hd B (p::L) H):Hd B (L.take k++p::L.drop k) H :=
 h.perm (by
  have e:(p::L).Perm (p::(L.take k++L.drop k)):=by rw [List.take_append_drop]
  exact e.trans List.perm_middle.symm)
def join (m:Hd B L H) (h:Hd H L2 J):Hd B (L++L2) J:=by
 refine ⟨?_,λp q=>?_,λp q=>?_,λb u z=>h.sm _ _ (m.sm _ _ z)⟩
 ·rw [Jq]
  refine List.nodup_append.mpr ⟨m.nd,h.nd,λx hx y hy e=>?_⟩;obtain ⟨p,hp,rfl⟩:=List.mem_map.mp hx;obtain ⟨q,hq,rfl⟩:=List.mem_map.mp hy;have:=m.st p hp;rw [e,h.nw q hq] at this;cases this
 ·rcases List.mem_append.mp q with q | q
  ·exact m.nw p q
  ·exact m.free (h.nw p q)
 ·rcases List.mem_append.mp q with q | q
  ·exact h.sm _ _ (m.st p q)
  ·exact h.st p q
end Hd
namespace Hd
def over {B J J2:Hp} {L:Js} (h:Hd B L J) (s:Same J J2):∃ B2,Same B B2/\Hd B2 L J2/\∀ a o,J2 a=some o->a ∉ L.map Prod.fst->B2 a=some o:=by
 classical
 refine ⟨λa=>if a∈L.map Prod.fst then none else J2 a,λa o e=>?_,⟨h.nd,λp q=>?_,λp q=>s _ _ (h.st p q),λa o e=>?_⟩,λa o e n=>?_⟩
 ·have na:a ∉ L.map Prod.fst:=λm=>by
   obtain ⟨p,hp,rfl⟩:=List.mem_map.mp m;rw [h.nw p hp] at e;cases e
  show (if _ then _ else _)=_;rw [if_neg na];exact s _ _ (h.sm _ _ e)
 ·show (if _ then _ else _)=_
  rw [if_pos (List.mem_map_of_mem q)]
 ·have e:(if a∈L.map Prod.fst then none else J2 a)=some o:=e
  split at e
  ·cases e
  ·exact e
 ·show (if _ then _ else _)=_
  rw [if_neg n];exact e
end Hd
def yr {H X:Hp} {t:Ad} {o:HO} (h:upd H t o=X) (n:H t=none):Same H X/\X t=some o:=by
 subst h;exact ⟨zU (Same.refl _) n,zu⟩
def hdG {B H X:Hp} {L:Js} {t:Ad} {o:HO} (m:Hd B L H) (h:upd H t o=X) (n:H t=none):∃ B',Same B B'/\B' t=some o/\Hd B' L X:=by
 subst h;exact ⟨_,zU (Same.refl _) (m.free n),zu,m.grow n⟩
end L2
namespace L2
open PySem PySem.Spec PyProof.Rows PyProof
section
variable {X:Cx}
end
end L2
namespace L2
open PySem PySem.Spec PyProof.Rows
def ItS (lo c:Int) (n:Nat):It:=⟨λi _=>i<n,λi H x H'=>H'=H/\x=.int (lo+i*c),λi _=>n<=i⟩
def XN {P:Program} {w:World} {K:Fg} {tg:Expr} (it:Ad) (lo c:Int) (n:Nat) :
  Turn P w K tg (ItS lo c n) [it] it (λi h=>IsRangeIter h it (lo+(i:Nat)*c) ((n:Int)-(i:Nat)) c) where
 mem:=List.mem_singleton_self it
 obj:=λi h st b hb=>by
  cases List.mem_singleton.mp hb;refine ⟨_,st,λv z=>?_⟩;have y:Data.fields _=Data.cell v:=z;cases y
 keep:=λi h h' st k=>k it (List.mem_singleton_self it) _ st
 item:=by
  intro X hP hw hK hc i pins s σ H E I hf st hg;subst hP;subst hw;subst hK;obtain ⟨a0,a1,a2,a3,a4,a5⟩:=hf it (List.mem_singleton_self it);refine (Walks.range (prog:=X.prog) (w:=X.w) (I.ok.hd hc) it lo c n).item i s _ _ hg st λv h' tk hv st' kk=>?_;obtain ⟨t,rfl⟩:=hv;have J:Inv X pins σ H { s with heap:=h',toks:=tk }:=I.turned (λb o hb e=>kk b o (by simpa using hb) e) a0 a1 a3 a4 a5;exact ⟨_,rfl,go_of (s:={ s with heap:=h',toks:=tk }) (n:="range_iterator") st' rfl rfl (by decide) ⟨.int (lo+i*c),H,J,⟨t,rfl⟩,⟨rfl,rfl⟩,st',λb hb=>(hf b hb).1⟩⟩
 done:=by
  intro X hP hw hK hc i pins s σ H E I hf st hg;subst hP;subst hw;subst hK;obtain ⟨a0,a1,a2,a3,a4,a5⟩:=hf it (List.mem_singleton_self it);have hn:n<=i:=hg;exact wpAny_pyNext_range_end (I.ok.hd hc) st (by omega) λh' eb=>⟨rfl,I.turned (t':=s.toks) (λb o hb e=>eb b o hb e) a0 a1 a3 a4 a5⟩
 self:=λ_ _ _ _ _ st h=>wpAny_pyIter_rangeiter st h
def zbk {a b c:Int} (ha:0<=a) (ha':a<2 ^ 40) (hb:0<=b) (hb':b<2 ^ 40) (h0:0<c) (h1:c<2 ^ 20):Builtin.Range.small a b c=true:=by
 unfold Builtin.Range.small
 have q:Builtin.Range.rangeSize a b c<=2 ^ 40/\0<=Builtin.Range.rangeSize a b c:=by
  unfold Builtin.Range.rangeSize;rw [if_pos (show c > 0 from h0)]
  split
  ·have z:=Int.ediv_le_self (b:=c) (show 0<=b-a-1 by omega)
   have y:=Int.ediv_nonneg (show 0<=b-a-1 by omega) (show 0<=c by omega);omega
  ·omega
 simp only [Builtin.Range.rangeFitsLong,Bool.and_eq_true,Bool.or_eq_true,decide_eq_true_eq,beq_iff_eq];refine ⟨⟨⟨⟨⟨by omega,by omega⟩,by omega,by omega⟩,by omega,by omega⟩,by omega,by omega⟩,.inr ?_⟩;rw [if_pos (show c > 0 from h0),decide_eq_true (show -2 ^ 63<=b+(c-1) by omega),decide_eq_true (show b+(c-1)<2 ^ 63 by omega)];rfl
section
variable {X:Cx} {tg:Expr}
inductive iRngS_S (R:(It->Hp->Prop)) (vs:Jt) (H1:Hp):Prop
 | mk (i j c:Int) (n:Nat) (_:vs=[.int i,.int j,.int c]) (_:(0<=i/\i<2 ^ 40/\0<=j/\j<2 ^ 40/\0<c/\c<2 ^ 20)) (_:Builtin.Range.rangeSize i j c=n) (_:R (ItS i c n) H1)
def iRngS (ta:TA):TI:=λσ H R=>ta σ H λvs H1=>iRngS_S R vs H1
def zbj {pins:Ji} {σ:St} {H:Hp} {s:Sh} {R:It->Hp->Prop} {E:Jg} {lo hi c:Int} {n:Nat} {t u v:Tok} {tk:Nat} (I:Inv X pins σ H s) (hs:Builtin.Range.small lo hi c=true) (hn:Builtin.Range.rangeSize lo hi c=n)
  (q:R (ItS lo c n) H):wpAny (model X.prog X.w) X.A (pyIter (.ref s.heap.objs.size)) (PIE X pins σ tg R) E { s with heap:=s.heap.push { cls:=.type "range",data:=.fields #[.int lo t,.int hi u,.int c v] },toks:=tk }:=by
 refine wpAny_pyIter_range (IsRange.new ..) hs ?_;have J:Inv X pins σ H { s with heap:=s.heap.push { cls:=.type "range",data:=.fields #[.int lo t,.int hi u,.int c v] },toks:=tk }:=I.kept λb o e=>Heap.get?_push_of_some _ e;generalize hh:s.heap.push { cls:=.type "range",data:=.fields #[.int lo t,.int hi u,.int c v] }=h1 at J ⊢;refine ⟨h1.objs.size,[h1.objs.size],_,_,H,rfl,J.kept (t':=tk) λb o e=>Heap.get?_push_of_some _ e,XN _ lo c n,?_,λb hb=>?_,q⟩
 ·show IsRangeIter _ _ (lo+((0:Nat):Int)*c) ((n:Int)-((0:Nat):Int)) c
  rw [show lo+((0:Nat):Int)*c=lo by simp,show (n:Int)-((0:Nat):Int)=Builtin.Range.rangeSize lo hi c by rw [hn];simp];exact Heap.get?_push_size _ rfl
 ·cases List.mem_singleton.mp hb
  exact J.fpOk (Nat.le_refl _) (J.hok.fresh (Nat.le_refl _))
def pi_range3 {a b c:Expr} {ta:TA} {p pos:Pos} (hg:Gl X "range") (hm:X.mg "range"=none) (ha:PA X [a,b,c] ta) (hs:starEach [a,b,c] X.env=[(false,eval a X.env),(false,eval b X.env),(false,eval c X.env)]:=by rfl)
  (hs2:starEach [b,c] X.env=[(false,eval b X.env),(false,eval c X.env)]:=by rfl):PI X tg (.Call (.Name "range" p) [a,b,c] [] pos) (iRngS ta):=by
 intro pins s σ H R I h;refine Call_ (ZC I hg hm boot_range (PyProof.Rows.callWith_type1 (thn (ha pos pins s σ H _ I h) λus s1 ⟨vs,H1,I1,r1,q1⟩=>?_) (by rw [hs,hs2]) (by rw [hs2];rfl)));obtain ⟨i,j,k,n,e,⟨b1,b2,b3,b4,b5,b6⟩,en,q⟩:=q1;subst e
 cases r1 with
 | cons r rr =>
  cases rr with
  | cons r' rr =>
   cases rr with
   | cons r'' rr =>
    cases rr;obtain ⟨t,rfl⟩:=r;obtain ⟨t',rfl⟩:=r';obtain ⟨t'',rfl⟩:=r'';refine call_range_3 (by omega) (zbj I1 (zbk b1 b2 b3 b4 b5 b6) en q) (.inl ?_);exact PyProof.noPylong_small (by omega)
end
section
variable {X:Cx}
def for_step {lo c:Int} {n:Nat} {g:TG} {tb:TS} {D:Ends} {σ:St} {H:Hp} (Pv:Nat->St->Hp->Prop) (h0:Pv 0 σ H)
  (hs:∀ i σ H,i<n->Pv i σ H->g (.int (lo+i*c)) σ H λσ2 H2=>tb { D with nx:=Pv (i+1),ct:=Pv (i+1),bk:=D.nx } σ2 H2) (hd:∀ σ H,Pv n σ H->D.nx σ H) :
  tFor_S g tb D σ (ItS lo c n) H:=by
 refine ⟨λi m σ H=>m=n-i/\i<=n/\Pv i σ H,⟨n,by simp,Nat.zero_le _,h0⟩,?_⟩;rintro i m σ H ⟨rfl,hi,p⟩;by_cases hlt:i<n
 ·refine .inr ⟨hlt,Pv (i+1),λσ' H' p'=>⟨n-(i+1),by omega,rfl,hlt,p'⟩,λx H' y=>?_⟩
  obtain ⟨e,y⟩:=y;subst e y;exact hs i σ _ hlt p
 ·have e:i=n:=by omega
  subst e;exact .inl ⟨Nat.le_refl _,hd σ H p⟩
def step_size {n c:Int} (hn:0<=n) (hc:0<c):Builtin.Range.rangeSize 0 n c=(((n+c-1) / c).toNat:Int):=by
 unfold Builtin.Range.rangeSize;rw [if_pos hc]
 split
 ·rename_i z
  have e:(n-0-1) / c+1=(n+c-1) / c:=by
   rw [show n+c-1=(n-0-1)+c*1 by omega,Int.add_mul_ediv_left _ _ (by omega)]
  have:0<=(n+c-1) / c:=Int.ediv_nonneg (by omega) (by omega);omega
 ·rename_i z
  have:n=0:=by omega
  subst this;have:(0+c-1) / c=0:=Int.ediv_eq_zero_of_lt (by omega) (by omega);omega
end
section
variable {X:Cx} {pins:Ji} {σ σ':St} {H H':Hp} {s s':Sh} {a:Ad} {xs:Jt}
def Part (H H':Hp):Prop:=∀ b o,(∀ x u,o≠.frz x u)->H b=some o->H' b=some o
def lsts (L:List (Ad×Jt)):Js:=L.map λp=>(p.1,.lst p.2)
inductive tMidT (t:TT) (σ:St) (H:Hp) (Q:(Bool->Hp->Prop)):Prop
 | mk (M:Bool->Hp->Prop) (_:t σ H M) (_:∀ b H',M b H'->Q b H')
def xK {e:Expr} {t:TT} (h:PT X e t):PT X e (tMidT t):=by
 intro pins s σ H Q I q;obtain ⟨M,q,k⟩:=q;exact thn (h pins s σ H _ I q) λb s1 z=>let ⟨H',I',z⟩:=z;⟨H',I',k _ _ z⟩
end
section
variable {X:Cx} {pins:Ji} {σ:St} {H:Hp} {s:Sh}
def clsV:V->Vl
 | .ref a=>.ref a
 | .ty n=>.type n
 | _=>.none
def isClsV:V->Bool
 | .ref _=>true
 | .ty _=>true
 | _=>false
end
section
variable {prog:Program} {w:World} {A:Around} {E:Jg} {s:Sh}
end
section
variable {X:Cx} {pos:Pos}
end
def ps1_ret {X:Cx} {σ₀:St} {e:Expr} {te:TE} {pos:Pos} (he:PE1 X σ₀ e te):PS1 X σ₀ (.Return (some e) pos) (tRet te):=by
 intro pins s H D I h;exact wpAny_Return_some (thn (he pins s H _ I h) λv s1 ⟨x,H1,I1,r1,q1⟩=>⟨x,σ₀,H1,I1,r1,q1⟩)
structure Sees1 (X:Cx) (scope:Scope) (cl:List (Str×Ad)) (x0:Str):Prop where
 kind:scope.kind=.function
 clos:closureFor scope X.env=pure cl
 one:∀ n acc,cellsFrom n scope.names acc=(x0,n)::acc
 push:∀ h,pushCells h scope.names=h.push { cls:=.type "cell",data:=.cell none }
 names:∀ y∈scope.names,y.2=.local->scope.names.lookup y.1=some .local
 sub:∀ x c,cl.lookup x=some c->X.env.cells.lookup x=some c
 has:∀ x,((compEnvC scope cl 0 X.env).kindOf x=some .cell∨(compEnvC scope cl 0 X.env).kindOf x=some .free)->x=x0∨∃ c,cl.lookup x=some c
section
variable {X:Cx} {pins:Ji} {σ:St} {H3:Hp} {s3:Sh} {scope:Scope} {cl:List (Str×Ad)} {x0:Str} {NY:Jl} {fp:Jm}
end
section
variable {X:Cx} {tg:Expr}
end
structure MkN (K:Fg) (C:Ad):Prop where
 makes:PySem.W.makesIn K C=true
 init:PySem.W.findIn K (.ref C) "__init__"=some (some (.builtin "object.__init__"))
 kp:PySem.W.keepIn K (.ref C)=true
section
variable {X:Cx} {C:Ad} {x:Str} {p pos:Pos}
end
structure FunD (K:Fg) (x qual:Str) (st:Stmt) (f:Ad) (fd:FuncData) (ds:Array Vl):Prop where
 ex:∃ (oc:Vl) (od:Option Ad) (kV doc pm:Vl) (an:Option Ad) (cdv ct:Vl) (osl:Array (Jk)) (T:Ad) (o:Obj) (n:Nat),
  fd=PySem.W.fnOf x qual (yy st) (yf st) (zh st) (.ref T) kV doc pm an cdv ct/\K.lookup f=some ⟨oc,od,.func fd,osl⟩/\PySem.W.codeIn K cdv qual=true/\K.lookup T=some o/\o.data=.seq ds n
 kp:PySem.W.keepIn K (.ref f)=true
section
variable {P:Program} {w:World} {K:Fg} {mg:J0} {base:Heap}
end
section
variable {X:Cx} {CX:CXT} {k:Nat} {C:Ad} {ps:Jl} {sp:Sp} {E:XK} {x m:Str} {p pos apos:Pos} {e o:Expr} {es:Jn} {ta:TE} {t:TA}
end
end L2
namespace My
open PySem PySem.W PyProof.Rows
def and_half (x y:Int):Builtin.bitAnd x y / 2=Builtin.bitAnd (x / 2) (y / 2)/\Builtin.bitAnd x y % 2=(x % 2)*(y % 2):=by
 have h:=kbt_halves x y;rcases (by omega:x % 2=0∨x % 2=1) with a | a <;> rcases (by omega:y % 2=0∨y % 2=1) with b | b <;>
  (rw [a,b] at h ⊢;simp at h ⊢;omega)
def or_half (x y:Int):Builtin.bitOr x y / 2=Builtin.bitOr (x / 2) (y / 2)/\Builtin.bitOr x y % 2=max (x % 2) (y % 2):=by
 rw [bitOr_and,bitOr_and];have h:=kbt_halves x y;rcases (by omega:x % 2=0∨x % 2=1) with a | a <;> rcases (by omega:y % 2=0∨y % 2=1) with b | b <;>
  (rw [a,b] at h ⊢;simp at h;omega)
def xor_half (x y:Int):Builtin.bitXor x y / 2=Builtin.bitXor (x / 2) (y / 2)/\Builtin.bitXor x y % 2=(x % 2+y % 2) % 2:=by
 rw [bitXor_and,bitXor_and];have h:=kbt_halves x y;rcases (by omega:x % 2=0∨x % 2=1) with a | a <;> rcases (by omega:y % 2=0∨y % 2=1) with b | b <;>
  (rw [a,b] at h ⊢;simp at h;omega)
def In (n:Nat) (x:Int):Prop:=-(2 ^ n)<=x/\x<2 ^ n
def zah {n:Nat} {x:Int}:In (n+1) x↔In n (x / 2):=by
 unfold In;rw [Int.pow_succ];constructor
 ·intro h;omega
 ·intro h;omega
def Zq {x:Int} (h:In 0 x):x=0∨x=-1:=by
 unfold In at h;omega
def and_in (n:Nat):∀ x y:Int,In n x->In n y->In n (Builtin.bitAnd x y):=by
 induction n with
 | zero =>
  intro x y hx hy;rcases Zq hx with a | a <;> rcases Zq hy with b | b <;> (subst a;subst b;unfold In;decide)
 | succ n ih=>intro x y hx hy;rw [zah] at *;rw [(and_half x y).1];exact ih _ _ hx hy
def or_in (n:Nat):∀ x y:Int,In n x->In n y->In n (Builtin.bitOr x y):=by
 induction n with
 | zero =>
  intro x y hx hy;rcases Zq hx with a | a <;> rcases Zq hy with b | b <;> (subst a;subst b;unfold In;decide)
 | succ n ih=>intro x y hx hy;rw [zah] at *;rw [(or_half x y).1];exact ih _ _ hx hy
def xor_in (n:Nat):∀ x y:Int,In n x->In n y->In n (Builtin.bitXor x y):=by
 induction n with
 | zero =>
  intro x y hx hy;rcases Zq hx with a | a <;> rcases Zq hy with b | b <;> (subst a;subst b;unfold In;decide)
 | succ n ih=>intro x y hx hy;rw [zah] at *;rw [(xor_half x y).1];exact ih _ _ hx hy
def kept (n:Int):Int:=Int.fmod (n+9223372036854775808) 18446744073709551616-9223372036854775808
def Kin (x:Int):Prop:=-9223372036854775808<=x/\x<=9223372036854775807
structure Free (op:Int->Int->Int):Prop where
 cl:∀ a b,Kin a->Kin b->Kin (op a b)
 cm:∀ a b,Kin a->Kin b->op a b=op b a
 as:∀ a b c,Kin a->Kin b->Kin c->op (op a b) c=op a (op b c)
end My
namespace K52
open PySem L2
abbrev rq (a:Ad):Ju:=some (.ref a)
abbrev iq (n:Int):Ju:=some (.int n)
def top (i:Nat):Stmt:=PySem.Challenge.pw_rowbreadth_k52_nothing_laid_for_nothing.main.body.getD i (.Pass ⟨0,0,0,0⟩)
abbrev XX:Stmt:=top 5
def sc_kept:FnScope ["number"] ["number"] (zh XX):=scK
abbrev XW:Stmt:=top 6
def sc_plus:FnScope ["left","right"] ["left","right"] (zh XW):=scK
abbrev Yx:Stmt:=top 7
def sc_minus:FnScope ["left","right"] ["left","right"] (zh Yx):=scK
abbrev Yw:Stmt:=top 8
def sc_times:FnScope ["left","right"] ["left","right"] (zh Yw):=scK
abbrev yC:Stmt:=top 9
def Z2:FnScope ["right"] ["right"] (zh yC):=scK
abbrev xF:Stmt:=top 10
def zar:FnScope ["left","right"] ["left","right"] (zh xF):=scK
abbrev xq:Stmt:=top 11
def XU:FnScope ["left","right"] ["left","right"] (zh xq):=scK
abbrev ZH:Stmt:=top 12
def sc_lesser:FnScope ["left","right"] ["left","right"] (zh ZH):=scK
abbrev Zl:Stmt:=top 13
def zbq:FnScope ["left","right"] ["left","right"] (zh Zl):=scK
abbrev Zk:Stmt:=top 14
def zbp:FnScope ["left","right"] ["left","right"] (zh Zk):=scK
abbrev xH:Stmt:=top 15
def zas:FnScope ["left","right"] ["left","right"] (zh xH):=scK
abbrev yH:Stmt:=top 16
def Ys:FnScope ["left","right"] ["left","right"] (zh yH):=scK
abbrev yx:Stmt:=top 17
def ZG:FnScope ["left","right"] ["left","right"] (zh yx):=scK
abbrev yT:Stmt:=top 18
def YT:FnScope ["left","right"] ["left","right"] (zh yT):=scK
abbrev XY:Stmt:=top 20
def sc_done:FnScope ["sign","left","right"] ["sign","left","right"] (zh XY):=scK
abbrev xv:Stmt:=top 36
def XV:FnScope ["word"] ["word"] (zh xv):=scK
abbrev Zf:Stmt:=top 39
def zbo:FnScope ["step"] ["step"] (zh Zf):=scK
abbrev Ze:Stmt:=top 40
def sc_read_by:FnScope ["step","told","at"] ["step"] (zh Ze):=scK
abbrev xu:Stmt:=top 41
def sc_may_fault:FnScope ["step"] ["step"] (zh xu):=scK
abbrev yF:Stmt:=top 43
def sc_without_dead:FnScope ["strip","read","told","step","thing"] ["strip"] (zh yF):=scK
abbrev xr:Stmt:=top 44
def sc_note_step:FnScope ["read","step","thing","other"] ["read","step","thing"] (zh xr):=scK
abbrev yD:Stmt:=top 48
def sc_is_touched_by:FnScope ["step","thing"] ["step","thing"] (zh yD):=scK
abbrev xt:Stmt:=top 49
def sc_note_laid:FnScope ["known","step","thing","earlier"] ["known","step"] (zh xt):=scK
abbrev yO:Stmt:=top 50
def sc_note_number:FnScope ["known","step","thing"] ["known","step"] (zh yO):=scK
abbrev yw:Stmt:=top 51
def sc_joined_numbers:FnScope ["sign","left","right"] ["sign","left","right"] (zh yw):=scK
abbrev yc:Stmt:=top 52
def sc_with_known_numbers:FnScope ["known","step","left","right","number"] ["known","step"] (zh yc):=scK
abbrev yB:Stmt:=top 53
def sc_without_known:FnScope ["strip","known","told","step","shorter"] ["strip"] (zh yB):=scK
abbrev yn:Stmt:=top 55
def sc_strip_shortened:FnScope ["strip","told"] ["strip"] (zh yn):=scK
abbrev xp:Stmt:=top 56
def sc_shortened:FnScope ["code","told","strip","in_round","step"] ["code"] (zh xp):=scK
abbrev xx:Stmt:=top 58
def sc_l_kept_by:FnScope ["_law_cell_here","_law_how","_law_edges"] ["_law_cell_here"] (zh xx):=scK
abbrev Yy:Stmt:=top 59
def sc_l_mix:FnScope ["_law_cell_here","_law_factor","_law_prime"] ["_law_cell_here","_law_factor","_law_prime"] (zh Yy):=scK
abbrev y8:Stmt:=top 60
def sc_l_seats_at:FnScope ["_law_step","_law_word"] ["_law_step"] (zh y8):=scK
abbrev yR:Stmt:=top 61
def YS:FnScope ["_law_step"] ["_law_step"] (zh yR):=scK
abbrev Zg:Stmt:=top 62
def sc_l_under:FnScope ["_law_state","_law_inner","_law_outer"] ["_law_state","_law_inner","_law_outer"] (zh Zg):=scK
abbrev yQ:Stmt:=top 63
def sc_l_pick_good:FnScope ["_law_state","_law_step","_law_content","_law_chosen","_law_one","_law_two","_law_good_here","_law_mate"] ["_law_state","_law_step","_law_content"] (zh yQ):=scK
abbrev ZJ:Stmt:=top 64
def sc_l_good:FnScope ["_law_state","_law_step","_law_content","_law_at"] ["_law_state","_law_step"] (zh ZJ):=scK
abbrev Yz:Stmt:=top 65
def sc_l_add:FnScope ["_law_state","_law_step"] ["_law_state","_law_step"] (zh Yz):=scK
abbrev yS:Stmt:=top 66
def sc_l_add_masks:FnScope ["_law_state","_law_at","_law_seat","_law_mask","_law_first"] ["_law_state","_law_at","_law_seat","_law_mask"] (zh yS):=scK
abbrev ZI:Stmt:=top 67
def sc_l_leaf:FnScope ["_law_cell_here","_law_seat","_law_mask","_law_lengths","_law_many","_law_how","_law_rest","_law_wide","_law_row"] ["_law_cell_here","_law_seat","_law_mask","_law_lengths","_law_many"] (zh ZI):=scK
abbrev Zj:Stmt:=top 68
def sc_l_joint:FnScope ["_law_cell_here","_law_seat","_law_pair","_law_mask","_law_other","_law_lengths","_law_signs","_law_how","_law_rest"] ["_law_cell_here","_law_seat","_law_pair","_law_mask","_law_other","_law_lengths"] (zh Zj):=scK
abbrev xy:Stmt:=top 69
def sc_l_effects:FnScope ["_law_cell_here","_law_pair","_law_mask","_law_lengths","_law_many","_law_folds","_law_how","_law_rest","_law_wide","_law_row"] ["_law_cell_here","_law_pair","_law_mask","_law_lengths","_law_many"] (zh xy):=scK
abbrev ZL:Stmt:=top 70
def sc_l_cell:FnScope ["_law_state","_law_cell_here","_law_lengths","_law_many","_law_seats","_law_masks","_law_mask","_law_seat","_law_ready","_law_p","_law_drawn","_law_how","_law_pair","_law_other","_law_step","_law_again"] ["_law_state","_law_cell_here","_law_lengths","_law_many","_law_seats"] (zh ZL):=scK
abbrev y6:Stmt:=top 71
def sc_l_strip_by:FnScope ["_law_cells","_law_lengths","_law_many","_law_seats","_law_state","_law_cell_here","_law_wide","_law_row","_law_seat"] ["_law_cells","_law_lengths","_law_many","_law_seats"] (zh y6):=scK
abbrev yG:Stmt:=top 72
def sc_l_lengths_by:FnScope ["_law_script","_law_many","_law_lengths","_law_turn"] ["_law_script","_law_many"] (zh yG):=scK
abbrev yP:Stmt:=top 73
def sc_l_rounds_by:FnScope ["_law_script","_law_lengths","_law_many","_law_group","_law_rounds","_law_first","_law_strip","_law_end"] ["_law_script","_law_lengths","_law_many","_law_group"] (zh yP):=scK
abbrev Zi:Stmt:=top 74
def sc_l_names:FnScope ["_law_step","_law_mark","_law_at"] ["_law_step","_law_mark"] (zh Zi):=scK
abbrev ZK:Stmt:=top 75
def sc_l_dead:FnScope ["_law_strip","_law_at","_law_step","_law_mark","_law_later"] ["_law_strip","_law_at"] (zh ZK):=scK
abbrev xw:Stmt:=top 76
def sc_l_staying:FnScope ["_law_code","_law_stays","_law_step","_law_parts","_law_at"] ["_law_code"] (zh xw):=scK
abbrev xG:Stmt:=top 77
def sc_l_strips:FnScope ["_law_code","_law_strips_here","_law_strip","_law_step"] ["_law_code"] (zh xG):=scK
abbrev Zh:Stmt:=top 78
def sc_l_short:FnScope ["_law_code","_law_handed","_law_told","_law_step"] ["_law_code"] (zh Zh):=scK
abbrev YU:Stmt:=top 79
def sc_law:FnScope ["_law_script","_law_many","_law_group","_law_lengths","_law_code","_law_part","_law_look","_law_told","_law_strip","_law_at","_law_lays"] ["_law_script"] (zh YU):=scK
abbrev y9:Stmt:=inClass (top 47) 0
def Xk:FnScope ["self"] ["self"] (zh y9):=scK
section
variable {P:Program} {w:World} {K:Fg} {mg:J0} {base:Heap}
abbrev Kin (x:Int):Prop:=-9223372036854775808<=x/\x<=9223372036854775807
def kept (n:Int):Int:=(n+9223372036854775808) % (2*9223372036854775808)-9223372036854775808
def ok_kept {t:Tok} (d:zp K mg "kept" XX ["number"]) (hH:mg "HALF"=some (.int 9223372036854775808 t)):Ok P w K mg base (CXe P w base) 1 "kept" ["number"] (sp1 λn=>.int (kept n)):=by
 obtain ⟨f,fd,m,F,b⟩:=d;refine ⟨f,fd,m,F.kp,b,F.okE sc_kept len1 λcdv A outer s H vs Q E hr h=>?_⟩;obtain ⟨n,rfl,k⟩:=h;refine ⟨_,ze (zk (zo xY (zo zD (zo yJ (pv 0) (X1 hH)) (zo Z5 zb (X1 hH))) (X1 hH))),?_⟩;exact ⟨_,rfl,_,_,rfl,rfl,_,_,rfl,rfl,.inl ⟨by decide,by decide⟩,_,_,rfl,rfl,(by show (0:Int)<2*9223372036854775808;decide),_,_,rfl,rfl,k⟩
abbrev GK (P:Program) (w:World) (K:Fg) (mg:J0) (base:Heap):Prop:=Ok P w K mg base (CXe P w base) 1 "kept" ["number"] (sp1 λn=>.int (kept n))
def ok_plus (d:zp K mg "plus" XW ["left","right"]) (G:GK P w K mg base):Ok P w K mg base (CXe P w base) 2 "plus" ["left","right"] (sp2 (λ_ _=>True) λa b=>kept (a+b)):=by
 obtain ⟨f,fd,m,F,b⟩:=d;refine ⟨f,fd,m,F.kp,b,F.okE sc_plus len2 λcdv A outer s H vs Q E hr h=>?_⟩;obtain ⟨x,y,rfl,_,k⟩:=h;refine ⟨_,ze (zk (zw G hr rfl YZ (za (zo yJ (pv 0) (pv 1)) zc))),?_⟩;exact ⟨_,rfl,_,rfl,_,_,rfl,rfl,_,rfl,k⟩
def ok_minus (d:zp K mg "minus" Yx ["left","right"]) (G:GK P w K mg base):Ok P w K mg base (CXe P w base) 2 "minus" ["left","right"] (sp2 (λ_ _=>True) λa b=>kept (a-b)):=by
 obtain ⟨f,fd,m,F,b⟩:=d;refine ⟨f,fd,m,F.kp,b,F.okE sc_minus len2 λcdv A outer s H vs Q E hr h=>?_⟩;obtain ⟨x,y,rfl,_,k⟩:=h;refine ⟨_,ze (zk (zw G hr rfl YZ (za (zo xY (pv 0) (pv 1)) zc))),?_⟩;exact ⟨_,rfl,_,rfl,_,_,rfl,rfl,_,rfl,k⟩
def ok_times (d:zp K mg "times" Yw ["left","right"]) (G:GK P w K mg base):Ok P w K mg base (CXe P w base) 2 "times" ["left","right"] (sp2 (λa _=>Kin a) λa b=>kept (a*b)):=by
 obtain ⟨f,fd,m,F,b⟩:=d;refine ⟨f,fd,m,F.kp,b,F.okE sc_times len2 λcdv A outer s H vs Q E hr h=>?_⟩;obtain ⟨x,y,rfl,c,k⟩:=h;refine ⟨_,ze (zk (zw G hr rfl YZ (za (zo Z5 (pv 0) (pv 1)) zc))),?_⟩;exact ⟨_,rfl,_,rfl,_,_,rfl,rfl,.inl ⟨by omega,by omega⟩,_,rfl,k⟩
inductive spNo (CN:Ad) (vs:Jt) (H:Hp) (Q:VK) (E:XK):Prop
 | mk (b:_) (_:vs=[.int b]) (_:(b=0->E (.ref CN) none H)) (_:(b≠0->Q .non H))
def ok_refuse {CN:Ad} {bm:Jj} {B newId initId:String} (d:zp K mg "refuse_nought" yC ["right"]) (O:PyProof.Rows.OwnCls "ByNought" CN bm newId mg base) (FB:ExcBaseFacts B newId initId bm) :
  Ok P w K mg base (CXe P w base) 1 "refuse_nought" ["right"] (spNo CN):=by
 obtain ⟨f,fd,m,F,b⟩:=d;refine ⟨f,fd,m,F.kp,b,F.okE Z2 (by rintro vs H Q E ⟨b,e,_⟩;rw [e];rfl) λcdv A outer s H vs Q E hr h=>?_⟩;obtain ⟨y,rfl,k0,k1⟩:=h;refine ⟨_,ze (zv (zg zO (pv 0) zb (zm _)) (ze (ps_raise O FB rfl rfl throwE (za zf zc))) zj),?_⟩;refine ⟨_,rfl,rfl,_,rfl,?_⟩;by_cases z:y=0
 ·rw [decide_eq_true (by rw [z])]
  exact zC ⟨by show 1<=sizeLine;decide,k0 z⟩
 ·rw [decide_eq_false (by intro q;cases q;exact z rfl)]
  exact zy (k1 z)
inductive spQ (CN:Ad) (g:Int->Int->Int) (vs:Jt) (H:Hp) (Q:VK) (E:XK):Prop
 | mk (a b:_) (_:vs=[.int a,.int b]) (_:Kin b) (_:(b=0->E (.ref CN) none H)) (_:(b≠0->Q (.int (g a b)) H))
def za1 {CN:Ad} (d:zp K mg "quotient" xF ["left","right"]) (G:GK P w K mg base) (GN:Ok P w K mg base (CXe P w base) 1 "refuse_nought" ["right"] (spNo CN)) :
  Ok P w K mg base (CXe P w base) 2 "quotient" ["left","right"] (spQ CN λa b=>kept (a.fdiv b)):=by
 obtain ⟨f,fd,m,F,b⟩:=d;refine ⟨f,fd,m,F.kp,b,F.okE zar (by rintro vs H Q E ⟨a,b,e,_⟩;rw [e];rfl) λcdv A outer s H vs Q E hr h=>?_⟩;obtain ⟨x,y,rfl,hb,k0,k1⟩:=h;refine ⟨_,zd (zG (zw GN hr rfl YZ (za (pv 1) zc))) (ze (zk (zw G hr rfl YZ (za (zo zay (pv 0) (pv 1)) zc)))),?_⟩;refine ⟨_,rfl,y,rfl,k0,λz=>?_⟩;exact ⟨_,rfl,_,rfl,_,_,rfl,rfl,⟨z,by omega,by omega⟩,_,rfl,k1 z⟩
def X6 {CN:Ad} (d:zp K mg "remainder" xq ["left","right"]) (GN:Ok P w K mg base (CXe P w base) 1 "refuse_nought" ["right"] (spNo CN)) :
  Ok P w K mg base (CXe P w base) 2 "remainder" ["left","right"] (spQ CN λa b=>a.fmod b):=by
 obtain ⟨f,fd,m,F,b⟩:=d;refine ⟨f,fd,m,F.kp,b,F.okE XU (by rintro vs H Q E ⟨a,b,e,_⟩;rw [e];rfl) λcdv A outer s H vs Q E hr h=>?_⟩;obtain ⟨x,y,rfl,hb,k0,k1⟩:=h;refine ⟨_,zd (zG (zw GN hr rfl YZ (za (pv 1) zc))) (ze (zk (zo op_modN (pv 0) (pv 1)))),?_⟩;refine ⟨_,rfl,y,rfl,k0,λz=>?_⟩;exact ⟨_,rfl,_,rfl,_,_,rfl,rfl,z,k1 z⟩
def ok_lesser (d:zp K mg "lesser" ZH ["left","right"]) (hm:mg "min"=none):Ok P w K mg base (CXe P w base) 2 "lesser" ["left","right"] (sp2 (λ_ _=>True) λa b=>if b<a then b else a):=by
 obtain ⟨f,fd,m,F,b⟩:=d;refine ⟨f,fd,m,F.kp,b,F.okE sc_lesser len2 λcdv A outer s H vs Q E hr h=>?_⟩;obtain ⟨x,y,rfl,_,k⟩:=h;refine ⟨_,ze (zk (zE (call_min2 rfl) rfl hm PyProof.Rows.boot_min (za (pv 0) (za (pv 1) zc)))),?_⟩;exact ⟨_,rfl,_,rfl,_,_,rfl,k⟩
def zb0 (d:zp K mg "greater" Zl ["left","right"]) (hm:mg "max"=none):Ok P w K mg base (CXe P w base) 2 "greater" ["left","right"] (sp2 (λ_ _=>True) λa b=>if b > a then b else a):=by
 obtain ⟨f,fd,m,F,b⟩:=d;refine ⟨f,fd,m,F.kp,b,F.okE zbq len2 λcdv A outer s H vs Q E hr h=>?_⟩;obtain ⟨x,y,rfl,_,k⟩:=h;refine ⟨_,ze (zk (zE (call_max2 rfl) rfl hm PyProof.Rows.boot_max (za (pv 0) (za (pv 1) zc)))),?_⟩;exact ⟨_,rfl,_,rfl,_,_,rfl,k⟩
def zbz (d:zp K mg "is_less" Zk ["left","right"]):Ok P w K mg base (CXe P w base) 2 "is_less" ["left","right"] (sp2 (λ_ _=>True) λa b=>if a<b then 1 else 0):=by
 obtain ⟨f,fd,m,F,b⟩:=d;refine ⟨f,fd,m,F.kp,b,F.okE zbp len2 λcdv A outer s H vs Q E hr h=>?_⟩;obtain ⟨x,y,rfl,_,k⟩:=h;refine ⟨_,ze (zk (xX (zg Yf (pv 0) (pv 1) (zm _)) zb zb)),?_⟩;refine ⟨_,rfl,_,rfl,_,_,rfl,rfl,_,rfl,?_⟩;dsimp only at k ⊢;by_cases z:x<y
 ·rw [if_pos z] at k;rw [decide_eq_true z];exact zC k
 ·rw [if_neg z] at k;rw [decide_eq_false z];exact zy k
def za2 (d:zp K mg "is_equal" xH ["left","right"]):Ok P w K mg base (CXe P w base) 2 "is_equal" ["left","right"] (sp2 (λ_ _=>True) λa b=>if a=b then 1 else 0):=by
 obtain ⟨f,fd,m,F,b⟩:=d;refine ⟨f,fd,m,F.kp,b,F.okE zas len2 λcdv A outer s H vs Q E hr h=>?_⟩;obtain ⟨x,y,rfl,_,k⟩:=h;refine ⟨_,ze (zk (xX (zg zO (pv 0) (pv 1) (zm _)) zb zb)),?_⟩;refine ⟨_,rfl,_,rfl,rfl,_,rfl,?_⟩;dsimp only at k ⊢;by_cases z:x=y
 ·rw [if_pos z] at k;rw [decide_eq_true (by rw [z])];exact zC k
 ·rw [if_neg z] at k;rw [decide_eq_false (by intro q;cases q;exact z rfl)];exact zy k
def ok_both (d:zp K mg "bits_of_both" yH ["left","right"]):Ok P w K mg base (CXe P w base) 2 "bits_of_both" ["left","right"] (sp2 (λ_ _=>True) Builtin.bitAnd):=by
 obtain ⟨f,fd,m,F,b⟩:=d;refine ⟨f,fd,m,F.kp,b,F.okE Ys len2 λcdv A outer s H vs Q E hr h=>?_⟩;obtain ⟨x,y,rfl,_,k⟩:=h;exact ⟨_,ze (zk (zo op_and (pv 0) (pv 1))),_,rfl,_,rfl,_,_,rfl,rfl,k⟩
def ok_either (d:zp K mg "bits_of_either" yx ["left","right"]):Ok P w K mg base (CXe P w base) 2 "bits_of_either" ["left","right"] (sp2 (λ_ _=>True) Builtin.bitOr):=by
 obtain ⟨f,fd,m,F,b⟩:=d;refine ⟨f,fd,m,F.kp,b,F.okE ZG len2 λcdv A outer s H vs Q E hr h=>?_⟩;obtain ⟨x,y,rfl,_,k⟩:=h;exact ⟨_,ze (zk (zo op_or (pv 0) (pv 1))),_,rfl,_,rfl,_,_,rfl,rfl,k⟩
def ok_one (d:zp K mg "bits_of_one" yT ["left","right"]):Ok P w K mg base (CXe P w base) 2 "bits_of_one" ["left","right"] (sp2 (λ_ _=>True) Builtin.bitXor):=by
 obtain ⟨f,fd,m,F,b⟩:=d;refine ⟨f,fd,m,F.kp,b,F.okE YT len2 λcdv A outer s H vs Q E hr h=>?_⟩;obtain ⟨x,y,rfl,_,k⟩:=h;exact ⟨_,ze (zk (zo op_xor (pv 0) (pv 1))),_,rfl,_,rfl,_,_,rfl,rfl,k⟩
def signs:Jl:=["+","-","*","/","rest","least","most","<","=","&","|","^"]
def Yp (sg:Str) (a b:Int):Option Int :=
 if sg="+" then some (kept (a+b)) else if sg="-" then some (kept (a-b)) else if sg="*" then some (kept (a*b))
 else if sg="/" then (if b=0 then none else some (kept (a.fdiv b))) else if sg="rest" then (if b=0 then none else some (a.fmod b))
 else if sg="least" then some (if b<a then b else a) else if sg="most" then some (if b > a then b else a)
 else if sg="<" then some (if a<b then 1 else 0) else if sg="=" then some (if a=b then 1 else 0)
 else if sg="&" then some (Builtin.bitAnd a b) else if sg="|" then some (Builtin.bitOr a b) else some (Builtin.bitXor a b)
inductive spDone (CN:Ad) (vs:Jt) (H:Hp) (Q:VK) (E:XK):Prop
 | mk (sg a b:_) (_:vs=[.str sg,.int a,.int b]) (_:sg∈signs) (_:Kin a) (_:Kin b) (_:(∀ r,Yp sg a b=some r->Q (.int r) H)) (_:(Yp sg a b=none->E (.ref CN) none H))
def yK (K:Fg) (mg:J0) (aS:Ad) (sg nm:Str):Prop:=∃ f,PySem.W.nsIn K aS sg=some (some (.ref f))/\mg nm=some (.ref f)
structure Signs (K:Fg) (mg:J0) (aS:Ad):Prop where
 s1:yK K mg aS "+" "plus"
 s2:yK K mg aS "-" "minus"
 s3:yK K mg aS "*" "times"
 s4:yK K mg aS "/" "quotient"
 s5:yK K mg aS "rest" "remainder"
 s6:yK K mg aS "least" "lesser"
 s7:yK K mg aS "most" "greater"
 s8:yK K mg aS "<" "is_less"
 s9:yK K mg aS "=" "is_equal"
 s10:yK K mg aS "&" "bits_of_both"
 s11:yK K mg aS "|" "bits_of_either"
 s12:yK K mg aS "^" "bits_of_one"
abbrev O2 (P:Program) (w:World) (K:Fg) (mg:J0) (base:Heap) (nm:Str) (sp:Sp):Prop:=Ok P w K mg base (CXe P w base) 2 nm ["left","right"] sp
structure Fns (P:Program) (w:World) (K:Fg) (mg:J0) (base:Heap) (CN:Ad):Prop where
 f1:O2 P w K mg base "plus" (sp2 (λ_ _=>True) λa b=>kept (a+b))
 f2:O2 P w K mg base "minus" (sp2 (λ_ _=>True) λa b=>kept (a-b))
 f3:O2 P w K mg base "times" (sp2 (λa _=>Kin a) λa b=>kept (a*b))
 f4:O2 P w K mg base "quotient" (spQ CN λa b=>kept (a.fdiv b))
 f5:O2 P w K mg base "remainder" (spQ CN λa b=>a.fmod b)
 f6:O2 P w K mg base "lesser" (sp2 (λ_ _=>True) λa b=>if b<a then b else a)
 f7:O2 P w K mg base "greater" (sp2 (λ_ _=>True) λa b=>if b > a then b else a)
 f8:O2 P w K mg base "is_less" (sp2 (λ_ _=>True) λa b=>if a<b then 1 else 0)
 f9:O2 P w K mg base "is_equal" (sp2 (λ_ _=>True) λa b=>if a=b then 1 else 0)
 f10:O2 P w K mg base "bits_of_both" (sp2 (λ_ _=>True) Builtin.bitAnd)
 f11:O2 P w K mg base "bits_of_either" (sp2 (λ_ _=>True) Builtin.bitOr)
 f12:O2 P w K mg base "bits_of_one" (sp2 (λ_ _=>True) Builtin.bitXor)
def ok_done {CN aS:Ad} (d:zp K mg "done" XY ["sign","left","right"]) (hS:mg "SIGNS"=some (.ref aS)) (T:yU w K aS) (S:Signs K mg aS) (f:Fns P w K mg base CN) :
  Ok P w K mg base (CXe P w base) 3 "done" ["sign","left","right"] (spDone CN):=by
 obtain ⟨g,fd,m,F,b⟩:=d;refine ⟨g,fd,m,F.kp,b,F.okE sc_done (by rintro vs H Q E ⟨_,_,_,e,_⟩;rw [e];rfl) λcdv A outer s H vs Q E hr h=>?_⟩;obtain ⟨sg,x,y,rfl,hs,hx,hy,k1,k2⟩:=h;refine ⟨_,ze (zk (pe_callV (CX:=CXe P w base) (k:=2) (zi ix_top (ZR hS) (pv 0) (λ_ _=>rfl)) hr YZ (za (pv 1) (za (pv 2) zc)))),?_⟩
 have use:∀ (nm:Str) (sp:Sp),yK K mg aS sg nm->O2 P w K mg base nm sp->sp [.int x,.int y] H Q E ->
   ∃ (a:Ad) (k:Str) (u:Vl) (v:V),V.ref aS=.ref a/\V.str sg=.str k/\yU w K a/\PySem.W.nsIn K a k=some (some u)/\RelV v u /\
    ∃ (f:Ad) (fd:FuncData) (ps:Jl) (sp:Sp),v=.ref f/\FnOk P w K mg base (CXe P w base) 2 f fd ps sp/\PySem.W.keepIn K (.ref f)=true/\Binds K fd ps []/\sp [.int x,.int y] H Q E:=by
  intro nm sp ⟨f1,e1,m1⟩ ⟨f2,fd2,m2,kp,bb,ok⟩ q;have e:=m1.symm.trans m2;cases e;exact ⟨aS,sg,.ref f1,.ref f1,rfl,rfl,T,e1,rfl,f1,fd2,_,sp,rfl,ok,kp,bb,q⟩
 suffices h:∃ (nm:Str) (sp:Sp),yK K mg aS sg nm/\O2 P w K mg base nm sp/\sp [.int x,.int y] H Q E by
  obtain ⟨nm,sp,a1,a2,a3⟩:=h;obtain ⟨a,k,u,v,e1,e2,t,e3,r,f,fd,ps,sp',e4,ok,kp,bb,q⟩:=use nm sp a1 a2 a3;exact ⟨_,rfl,a,k,u,v,e1,e2,t,e3,r,f,fd,ps,sp',e4,ok,kp,bb,_,rfl,_,rfl,q⟩
 simp only [signs,List.mem_cons,List.not_mem_nil,or_false] at hs;rcases hs with rfl | rfl | rfl | rfl | rfl | rfl | rfl | rfl | rfl | rfl | rfl | rfl
 ·exact ⟨_,_,S.s1,f.f1,x,y,rfl,trivial,k1 _ rfl⟩
 ·exact ⟨_,_,S.s2,f.f2,x,y,rfl,trivial,k1 _ rfl⟩
 ·exact ⟨_,_,S.s3,f.f3,x,y,rfl,hx,k1 _ rfl⟩
 ·exact ⟨_,_,S.s4,f.f4,x,y,rfl,hy,λz=>k2 (by show (if y=0 then none else some _)=none;rw [if_pos z]),λz=>k1 _ (by show (if y=0 then none else some _)=some _;rw [if_neg z])⟩
 ·exact ⟨_,_,S.s5,f.f5,x,y,rfl,hy,λz=>k2 (by show (if y=0 then none else some _)=none;rw [if_pos z]),λz=>k1 _ (by show (if y=0 then none else some _)=some _;rw [if_neg z])⟩
 ·exact ⟨_,_,S.s6,f.f6,x,y,rfl,trivial,k1 _ rfl⟩
 ·exact ⟨_,_,S.s7,f.f7,x,y,rfl,trivial,k1 _ rfl⟩
 ·exact ⟨_,_,S.s8,f.f8,x,y,rfl,trivial,k1 _ rfl⟩
 ·exact ⟨_,_,S.s9,f.f9,x,y,rfl,trivial,k1 _ rfl⟩
 ·exact ⟨_,_,S.s10,f.f10,x,y,rfl,trivial,k1 _ rfl⟩
 ·exact ⟨_,_,S.s11,f.f11,x,y,rfl,trivial,k1 _ rfl⟩
 ·exact ⟨_,_,S.s12,f.f12,x,y,rfl,trivial,k1 _ rfl⟩
def edges:Jh:=[-9223372036854775808,9223372036854775807,-1,4294967296,-9223372036854775807,3037000500]
def yN (c:Int):Int :=
 if c % 4=0 then c / 4 % 7-3 else if c % 4=1 then edges.getD (c / 4 % 6).toNat 0 else if c % 4=2 then c / 4*48271 % 2001-1000
 else c / 4*2862933555777941757 % 18446744073709551616-9223372036854775808
def edge_at:∀ k:Nat,k<6->(edges.map V.int)[k]?=some (V.int (edges.getD k 0))/\Kin (edges.getD k 0):=by decide
def keptBy_in (c:Int):Kin (yN c):=by
 unfold yN
 split
 ·omega
 ·split
  ·exact (edge_at _ (by omega)).2
  ·split <;> omega
inductive spKB (vs:Jt) (H:Hp) (Q:VK) (_:XK):Prop
 | mk (c:_) (_:vs=[.int c]) (_:∀ H',Same H H'->Q (.int (yN c)) H')
def zby (d:zp K mg "_law_kept_by" xx ["_law_cell_here"]):Ok P w K mg base (CXe P w base) 1 "_law_kept_by" ["_law_cell_here"] spKB:=by
 obtain ⟨f,fd,m,F,b⟩:=d;refine ⟨f,fd,m,F.kp,b,F.okE sc_l_kept_by (by rintro vs H Q E ⟨_,e,_⟩;rw [e];rfl) λcdv A outer s H vs Q E hr h=>?_⟩;obtain ⟨c,rfl,k⟩:=h;have nd:=sc_l_kept_by.nd;refine ⟨_,zd (zq (i:=1) nd rfl (Or.inl rfl) (zo zD (pv 0) zb))
  (zd (zv (zg zO (pv 1) zb (zm _)) (ze (zk (zo xY (zo zD (zo yd (pv 0) zb) zb) zb))) zj)
  (zd (zv (zg zO (pv 1) zb (zm _)) (zd (zq (i:=2) nd rfl (Or.inl rfl) (zH (za (yo z4 zb) (za zb (za (yo z4 zb) (za zb (za (yo z4 zb) (za zb zc))))))))
   (ze (zk (zi zx (pv 2) (zo zD (zo yd (pv 0) zb) zb) (λ_ _=>rfl))))) zj)
  (zd (zv (zg zO (pv 1) zb (zm _)) (ze (zk (zo xY (zo zD (zo Z5 (zo yd (pv 0) zb) zb) zb) zb))) zj)
  (ze (zk (zo xY (zo zD (zo Z5 (zo yd (pv 0) zb) zb) zb) zb)))))),?_⟩
 refine ⟨_,rfl,_,_,rfl,rfl,(by show (0:Int)<4;decide),?_⟩;refine ⟨_,rfl,rfl,_,rfl,?_⟩;refine xN (λz=>?_) (λz=>?_)
 ·have z:c % 4=0:=by simpa using z
  have e:yN c=c / 4 % 7-3:=by unfold yN;rw [if_pos z]
  rw [e] at k;exact ⟨_,rfl,_,_,rfl,rfl,⟨by decide,by decide⟩,_,_,rfl,rfl,(by show (0:Int)<7;decide),_,_,rfl,rfl,k H (Same.refl H)⟩
 have z0:¬ c % 4=0:=by simpa using z
 refine ⟨_,rfl,rfl,_,rfl,?_⟩;refine xN (λz=>?_) (λz=>?_)
 ·have z1:c % 4=1:=by simpa using z
  have e:yN c=edges.getD (c / 4 % 6).toNat 0:=by unfold yN;rw [if_neg z0,if_pos z1]
  rw [e] at k;refine ⟨_,rfl,_,rfl,_,rfl,(by show 6<=sizeLine;decide),λl hl=>?_⟩;refine ⟨_,rfl,_,rfl,_,_,rfl,rfl,⟨by decide,by decide⟩,_,_,rfl,rfl,(by show (0:Int)<6;decide),l,edges.map V.int,_,V.int (edges.getD (c / 4 % 6).toNat 0),rfl,rfl,SqL.of zu,?_,k _ λb o q=>by rw [zI (zT q hl)];exact q⟩;have hz:(((c / 4 % 6).toNat:Nat):Int)=c / 4 % 6:=by omega
  rw [← hz];exact zM (edge_at _ (by omega)).1
 have z1:¬ c % 4=1:=by simpa using z
 refine ⟨_,rfl,rfl,_,rfl,?_⟩;refine xN (λz=>?_) (λz=>?_)
 ·have z2:c % 4=2:=by simpa using z
  have e:yN c=c / 4*48271 % 2001-1000:=by unfold yN;rw [if_neg z0,if_neg z1,if_pos z2]
  rw [e] at k;exact ⟨_,rfl,_,_,rfl,rfl,⟨by decide,by decide⟩,_,_,rfl,rfl,.inr ⟨by decide,by decide⟩,_,_,rfl,rfl,(by show (0:Int)<2001;decide),_,_,rfl,rfl,k H (Same.refl H)⟩
 have z2:¬ c % 4=2:=by simpa using z
 have e:yN c=c / 4*2862933555777941757 % 18446744073709551616-9223372036854775808:=by unfold yN;rw [if_neg z0,if_neg z1,if_neg z2]
 rw [e] at k;exact ⟨_,rfl,_,_,rfl,rfl,⟨by decide,by decide⟩,_,_,rfl,rfl,.inr ⟨by decide,by decide⟩,_,_,rfl,rfl,(by show (0:Int)<18446744073709551616;decide),_,_,rfl,rfl,k H (Same.refl H)⟩
structure Ints (K:Fg) (mg:J0):Prop where
 isi:mg "isinstance"=none
 int:mg "int"=none
 bool:mg "bool"=none
 ii:PySem.W.kitOne K (.type "int") (.type "int")=some true
 ib:PySem.W.kitOne K (.type "int") (.type "bool")=some false
end
def in63 {x:Int}:Kin x↔My.In 63 x:=by
 unfold Kin My.In;have e:(2:Int) ^ 63=9223372036854775808:=by decide
 rw [e];omega
def YA (n:Int):Kin (kept n):=by unfold kept;omega
def doneR_kin {sg:Str} {a b r:Int} (hs:sg∈signs) (ha:Kin a) (hb:Kin b) (h:Yp sg a b=some r):Kin r:=by
 simp only [signs,List.mem_cons,List.not_mem_nil,or_false] at hs
 have bit:(sg="&"∨sg="|"∨sg="^")->Kin r:=λz=>by
  rcases z with rfl | rfl | rfl
  ·cases h;exact in63.mpr (My.and_in 63 a b (in63.mp ha) (in63.mp hb))
  ·cases h;exact in63.mpr (My.or_in 63 a b (in63.mp ha) (in63.mp hb))
  ·cases h;exact in63.mpr (My.xor_in 63 a b (in63.mp ha) (in63.mp hb))
 rcases hs with rfl | rfl | rfl | rfl | rfl | rfl | rfl | rfl | rfl | rfl | rfl | rfl
 ·cases h;exact YA _
 ·cases h;exact YA _
 ·cases h;exact YA _
 ·have h':(if b=0 then none else some (kept (a.fdiv b)))=some r:=h
  split at h'
  ·cases h'
  ·cases h';exact YA _
 ·have h':(if b=0 then none else some (a.fmod b))=some r:=h
  split at h'
  ·cases h'
  ·rename_i z
   cases h';rcases (by omega:0<b∨b<0) with p | p
   ·have h1:=Int.fmod_nonneg_of_pos a p
    have h2:=Int.fmod_lt_of_pos a p;omega
   ·have h1:a.fmod b<=0:=by
     have e:=Int.neg_fmod_neg a b;have h3:=Int.fmod_nonneg_of_pos (-a) (show 0 < -b by omega);omega
    have h2:b<a.fmod b:=by
     have e:=Int.neg_fmod_neg a b;have h3:=Int.fmod_lt_of_pos (-a) (show 0 < -b by omega);omega
    omega
 ·have h':some (if b<a then b else a)=some r:=h
  cases h';split <;> omega
 ·have h':some (if b > a then b else a)=some r:=h
  cases h';split <;> omega
 ·have h':some (if a<b then (1:Int) else 0)=some r:=h
  cases h';split <;> omega
 ·have h':some (if a=b then (1:Int) else 0)=some r:=h
  cases h';split <;> omega
 ·exact bit (.inl rfl)
 ·exact bit (.inr (.inl rfl))
 ·exact bit (.inr (.inr rfl))
abbrev Sk:=List Key
instance decMem (t:Sk):(l:List Sk)->Decidable (t∈l)
 | []=>Decidable.isFalse (by simp)
 | x::l=>if h:t=x then Decidable.isTrue (by rw [h];exact q1y) else match decMem t l with
  | Decidable.isTrue g=>Decidable.isTrue (q1x _ g)
  | Decidable.isFalse g=>Decidable.isFalse λz=>by rcases List.mem_cons.mp z with z | z;exact h z;exact g z
def wd:Sk->Str
 | .inr w::_=>w
 | _=>""
def laysL:Jl:=["number","here","load","spread","shift","gather","op","pick","copy","bring"]
def zS (w:Str):Bool:=laysL.contains w
def seatT:List (Str×List Nat):=[("gather",[2]),("op",[3,4]),("pick",[2,3]),("copy",[2]),("reach",[1]),("choose",[2]),("other",[2]),("save",[2]),("store",[2]),("put",[2,3]),("fold",[3]),("running",[3]),("any",[1])]
def zQ (w:Str):Option (List Nat):=(seatT.find? λp=>decide (p.1=w)).map (·.2)
def at0 (k:Sk) (i:Nat):Key:=k.getD i (.inl 0)
def xj (k:Sk):Key:=k.getD (k.length-1) (.inl 0)
def zA (k:Sk):Option Sk:=if zS (wd k)=true then some [.inr "seat",at0 k 1] else if wd k="choose"∨wd k="other" then some [.inr "mask",at0 k 1] else if wd k="save" then some [.inr "slot",at0 k 1] else none
def xP (k:Sk):List Sk:=((zQ (wd k)).getD []).map λi=>[.inr "seat",at0 k i]
def Zs (k:Sk):List Sk:=if wd k="pick" then [[.inr "mask",at0 k 4]] else []
def ZN (k:Sk):List Sk:=if wd k="bring" then [[.inr "slot",at0 k 2]] else []
def Ye (k:Sk):List Sk:=if (zS (wd k) || (zQ (wd k)).isSome)=true then [[.inr "mask",xj k]] else []
def zB (k:Sk):List Sk:=xP k++Zs k++ZN k++Ye k
def mayF (k:Sk):Bool:=decide (wd k="gather"∨wd k="reach") || (decide (wd k="op") && decide (at0 k 2=.inr "/"∨at0 k 2=.inr "rest"))
def forgL:Jl:=["store","put","fold","running","trim"]
def z7:List (Str×Nat):=[("number",4),("here",3),("load",4),("spread",4),("shift",6),("gather",5),("op",6),("pick",6),("copy",4),("bring",4),("choose",4),("other",4),("save",4),("reach",4),("store",4),("put",5),("fold",5),("running",5),("any",3),("trim",1),("stop",2)]
structure WfS (k:Sk):Prop where
 w:∃ w r,k=.inr w::r/\(w,k.length)∈z7
 ok:k.all kOk=true
 op:wd k="op"->∃ sg,at0 k 2=.inr sg/\sg∈signs
 nu:wd k="number"->∃ n,at0 k 2=.inl n/\Kin n
def WfS.len {k:Sk} (h:WfS k):(wd k,k.length)∈z7:=by
 obtain ⟨w,r,e,m⟩:=h.w;rw [e] at m ⊢;exact m
def ZU:∀ p∈z7,zS p.1=true->3<=p.2:=by decide
def ZT:∀ p∈z7,∀ i∈(zQ p.1).getD [],i<p.2:=by decide
def ZB:∀ p∈z7,(p.1="choose"∨p.1="other"∨p.1="save")->p.2=4:=by decide
def len_op:∀ p∈z7,p.1="op"->p.2=6:=by decide
def len_pk:∀ p∈z7,p.1="pick"->p.2=6:=by decide
def len_br:∀ p∈z7,p.1="bring"->p.2=4:=by decide
def len_nu:∀ p∈z7,p.1="number"->p.2=4:=by decide
def len_pos:∀ p∈z7,1<=p.2:=by decide
def at0_mem {k:Sk} {i:Nat} (h:i<k.length):at0 k i∈k:=by
 unfold at0;rw [q0z,List.getElem?_eq_getElem h];exact List.getElem_mem h
def Zt {k:Sk} (h:k.all kOk=true) (i:Nat):kOk (at0 k i)=true:=by
 by_cases hi:i<k.length
 ·exact List.all_eq_true.mp h _ (at0_mem hi)
 ·unfold at0;rw [q0z,List.getElem?_eq_none (by omega)];rfl
def ok_seat:kOk (.inr "seat")=true:=by decide +kernel
def ok_mask:kOk (.inr "mask")=true:=by decide +kernel
def ok_slot:kOk (.inr "slot")=true:=by decide +kernel
def two_ok {a b:Key} (h:kOk a=true) (g:kOk b=true):([a,b]:Sk).all kOk=true:=by
 rw [List.all_cons,List.all_cons,h,g];rfl
def zaa {k t:Sk} (h:k.all kOk=true) (e:zA k=some t):t.all kOk=true:=by
 unfold zA at e
 split at e
 ·cases e;exact two_ok ok_seat (Zt h 1)
 ·split at e
  ·cases e;exact two_ok ok_mask (Zt h 1)
  ·split at e
   ·cases e;exact two_ok ok_slot (Zt h 1)
   ·cases e
abbrev Dk:=List (Sk×V)
def YK (k t:Sk):Bool:=decide (zA k=some t) || decide (t∈zB k)
def xk (b:Dk) (t:Sk):Dk:=b.filter λp=>!YK p.1 t
def xi (b:Dk) (k:Sk):Dk:=if wd k∈forgL then [] else match zA k with
 | none=>b
 | some t=>if t∈zB k then xk b t else zP (xk b t) k (.bl true)
def Yg (n:Dk) (k:Sk):Dk:=if wd k="number" then zP n [.inr "seat",at0 k 1] (kV (at0 k 2)) else match zA k with
 | none=>n
 | some t=>if (zK n t).isSome=true then x9 n t else n
def ZV (k:Sk) (a b:Ju):Option Int:=match at0 k 2,a,b with
 | .inr sg,some (.int x),some (.int y)=>Yp sg x y
 | _,_,_=>none
def shorter (n:Dk) (k:Sk):Sk:=if wd k="op" then match ZV k (zK n [.inr "seat",at0 k 3]) (zK n [.inr "seat",at0 k 4]) with
  | some r=>[.inr "number",at0 k 1,.inl r,at0 k 5]
  | none=>k
 else k
structure Kn where
 b:Dk
 n:Dk
 t:List Sk
def Kn.step (s:Kn) (k:Sk):Kn:=if (zK s.b k).isSome=true then s else ⟨xi s.b k,Yg s.n (shorter s.n k),s.t++[shorter s.n k]⟩
def yX (s:Kn) (l:List Sk):Kn:=l.foldl Kn.step s
def ZE (l:List Sk):List Sk:=(yX ⟨[],[],[]⟩ l).t
def yz (r:Dk) (t:Sk):Bool:=match zK r t with
 | some (.bl b)=>b
 | _=>false
def xB (r:Dk) (l:List Sk):Dk:=l.foldl (λr t=>zP r t (.bl true)) r
def xE (r:Dk) (k:Sk):Dk:=xB (match zA k with
 | some (.inr z::x)=>if z="slot" then r else zP r (.inr z::x) (.bl false)
 | _=>r) (zB k)
structure De where
 r:Dk
 t:List Sk
def stays (r:Dk) (k:Sk):Bool:=match zA k with
 | none=>true
 | some t=>mayF k || yz r t
def De.step (s:De) (k:Sk):De:=if stays s.r k=true then ⟨xE s.r k,s.t++[k]⟩ else s
def y0 (s:De) (l:List Sk):De:=l.foldl De.step s
def yV (l:List Sk):List Sk:=(y0 ⟨[],[]⟩ l.reverse).t.reverse
def yW (l:List Sk):List Sk:=yV (ZE l)
def yu:Nat->List Sk->List Sk
 | 0,l=>yW l
 | n+1,l=>if yW l=l then yW l else yu n (yW l)
def wgt (l:List Sk):Nat:=l.length+(l.filter λk=>decide (wd k="op")).length
def yt (l:List Sk):List Sk:=yu (wgt l) l
structure Sc where
 told:List Sk
 strip:List Sk
 inr:Bool
def Sc.step (s:Sc) (k:Sk):Sc :=
 let s1:Sc:=if wd k="next" then ⟨s.told++yt s.strip,[],false⟩ else s;let s2:Sc:=if s1.inr=true then { s1 with strip:=s1.strip++[k] } else { s1 with told:=s1.told++[k] }
 if wd k="begin" then { s2 with inr:=true } else s2
def Z1 (l:List Sk):List Sk:=(l.foldl Sc.step ⟨[],[],false⟩).told
def NumOk (n:Dk):Prop:=∀ p∈n,∃ i,p.2=.int i/\Kin i
def BlOk (r:Dk):Prop:=∀ p∈r,∃ b,p.2=.bl b
def XM {r:Dk} {t:Sk} {v:V} (h:zK r t=some v):∃ p∈r,p.1=t/\p.2=v:=by
 unfold zK at h;obtain ⟨p,e,rfl⟩:=Option.map_eq_some_iff.mp h;exact ⟨p,List.mem_of_find?_eq_some e,by have:=List.find?_some e;simpa using this,rfl⟩
def put_mem {r:Dk} {k:Sk} {v:V} {p:Sk×V} (h:p∈zP r k v):p∈r∨p.2=v:=by
 unfold zP at h
 split at h
 ·obtain ⟨q,m,e⟩:=List.mem_map.mp h
  split at e
  ·exact .inr (by rw [← e])
  ·exact .inl (e ▸ m)
 ·rcases List.mem_append.mp h with h | h
  ·exact .inl h
  ·exact .inr (by rw [List.mem_singleton.mp h])
def ZS {n:Dk} (h:NumOk n) {t:Sk} {v:V} (e:zK n t=some v):∃ i,v=.int i/\Kin i:=by
 obtain ⟨p,m,_,rfl⟩:=XM e;exact h p m
def bl_get {r:Dk} (h:BlOk r) {t:Sk} {v:V} (e:zK r t=some v):∃ b,v=.bl b:=by
 obtain ⟨p,m,_,rfl⟩:=XM e;exact h p m
def num_put {n:Dk} (h:NumOk n) {t:Sk} {i:Int} (hi:Kin i):NumOk (zP n t (.int i)):=λp m=>by
 rcases put_mem m with m | m
 ·exact h p m
 ·exact ⟨i,m,hi⟩
def bl_put {n:Dk} (h:BlOk n) {t:Sk} {b:Bool}:BlOk (zP n t (.bl b)):=λp m=>by
 rcases put_mem m with m | m
 ·exact h p m
 ·exact ⟨b,m⟩
def num_drop {n:Dk} (h:NumOk n) {t:Sk}:NumOk (x9 n t):=λp m=>h p (List.mem_filter.mp m).1
def join_kin {k:Sk} (w:WfS k) (o:wd k="op") {n:Dk} (h:NumOk n) {s t:Sk} {r:Int} (e:ZV k (zK n s) (zK n t)=some r):Kin r:=by
 obtain ⟨sg,e2,m⟩:=w.op o;unfold ZV at e;rw [e2] at e
 cases e3:zK n s with
 | none=>rw [e3] at e;cases e
 | some a =>
  cases e4:zK n t with
  | none =>
   rw [e3,e4] at e;obtain ⟨i,rfl,_⟩:=ZS h e3;cases e
  | some b =>
   obtain ⟨i,rfl,ki⟩:=ZS h e3;obtain ⟨j,rfl,kj⟩:=ZS h e4;rw [e3,e4] at e;exact doneR_kin m ki kj e
def WfS.shorter {k:Sk} (w:WfS k) {n:Dk} (h:NumOk n):WfS (shorter n k):=by
 unfold K52.shorter
 split
 ·rename_i o
  split
  ·rename_i r e
   refine ⟨⟨_,_,rfl,by show (("number":Str),4)∈z7;decide⟩,?_,λz=>absurd (show ("number":Str)="op" from z) (by decide),λ_=>⟨r,rfl,join_kin w o h e⟩⟩;rw [List.all_cons,List.all_cons,List.all_cons,List.all_cons,Zt w.ok,Zt w.ok,show kOk (.inr "number")=true by decide +kernel];rfl
  ·exact w
 ·exact w
def NumOk.note {n:Dk} (h:NumOk n) {k:Sk} (w:WfS k):NumOk (Yg n k):=by
 unfold Yg
 split
 ·rename_i e
  obtain ⟨i,e2,ki⟩:=w.nu e;rw [e2];exact num_put h ki
 ·split
  ·exact h
  ·split
   ·exact num_drop h
   ·exact h
def nd_put {b:Dk} {k:Sk} {v:V} (h:(b.map (·.1)).Nodup):((zP b k v).map (·.1)).Nodup:=by
 cases e:zK b k with
 | none=>exact nd_putK v h e
 | some u =>
  unfold zP
  split
  ·rw [List.map_map]
   have:(b.map ((λx=>x.1) ∘ λkv=>if kv.1=k then (kv.1,v) else kv))=b.map (·.1):=List.map_congr_left λp _=>by
    show (if p.1=k then (p.1,v) else p).1=p.1
    split <;> rfl
   rw [this];exact h
  ·rename_i z
   rw [xf,e] at z;exact absurd rfl z
def nd_keep {b:Dk} {t:Sk} (h:(b.map (·.1)).Nodup):((xk b t).map (·.1)).Nodup:=h.sublist (List.filter_sublist.map _)
def nd_note {b:Dk} {k:Sk} (h:(b.map (·.1)).Nodup):((xi b k).map (·.1)).Nodup:=by
 unfold xi
 split
 ·exact List.nodup_nil
 ·split
  ·exact h
  ·split
   ·exact nd_keep h
   ·exact nd_put (nd_keep h)
def len_note {b:Dk} {k:Sk}:(xi b k).length<=b.length+1:=by
 unfold xi
 split
 ·exact Nat.zero_le _
 ·split
  ·omega
  ·have:∀ t,(xk b t).length<=b.length:=λt=>List.length_filter_le _ _
   split
   ·exact Nat.le_succ_of_le (this _)
   ·exact Nat.le_trans (z3 _ _ _) (Nat.succ_le_succ (this _))
def len_noteN {n:Dk} {k:Sk}:(Yg n k).length<=n.length+1:=by
 unfold Yg
 split
 ·exact z3 _ _ _
 ·split
  ·omega
  ·split
   ·exact Nat.le_succ_of_le (List.length_filter_le _ _)
   ·omega
theorem XF:∀ {l:List Sk} {r:Dk},BlOk r->BlOk (xB r l)
 | [],_,h=>h
 | t::l,r,h=>XF (l:=l) (bl_put h)
theorem ZA:∀ {l:List Sk} {r:Dk},(xB r l).length<=r.length+l.length
 | [],_=>Nat.le_refl _
 | t::l,r=>by
  have:=ZA (l:=l) (r:=zP r t (.bl true));have:=z3 r t (.bl true);show (xB (zP r t (.bl true)) l).length<=r.length+(l.length+1);omega
def xI (k:Sk):(zB k).length<=5:=by
 have h1:(xP k).length<=2:=by
  unfold xP zQ;rw [Jo]
  cases e:seatT.find? λp=>decide (p.1=wd k) with
  | none=>exact Nat.zero_le _
  | some p =>
   have m:=List.mem_of_find?_eq_some e;show p.2.length<=2;exact (by decide:∀ p∈seatT,p.2.length<=2) p m
 have h2:(Zs k).length<=1:=by unfold Zs;split <;> simp
 have h3:(ZN k).length<=1:=by unfold ZN;split <;> simp
 have h4:(Ye k).length<=1:=by unfold Ye;split <;> simp
 unfold zB;rw [Jp,Jp,Jp];omega
def bl_note {r:Dk} (h:BlOk r) (k:Sk):BlOk (xE r k):=by
 unfold xE;refine XF ?_
 split
 ·split
  ·exact h
  ·exact bl_put h
 ·exact h
def len_noteS {r:Dk} {k:Sk}:(xE r k).length<=r.length+6:=by
 unfold xE;refine Nat.le_trans ZA ?_;have:=xI k;have:∀ (z:Dk),z.length<=r.length+1->z.length+(zB k).length<=r.length+6:=λz h=>by omega
 refine this _ ?_
 split
 ·split
  ·omega
  ·exact z3 _ _ _
 ·omega
end K52
namespace L2
open PySem
def ix_tupK {X:Cx} {K:Fg} (e:X.K=K):IxR X (rIxT K):=by subst e;exact zn
end L2
namespace K52
open PySem L2
def Zz {α:Type} {f:α->V} {l:List α} {i:Nat} {x:V} (h:(l.map f)[i]?=some x):∃ a,l[i]?=some a/\x=f a:=by
 rw [List.getElem?_map] at h;obtain ⟨a,e,z⟩:=Option.map_eq_some_iff.mp h;exact ⟨a,e,z.symm⟩
def sqt_same {K:Fg} {H H':Hp} {a:Ad} {xs:Jt} (h:SqT K H a xs) (s:Same H H'):SqT K H' a xs:=by
 rcases h with h | h
 ·exact .inl (h.imp (λz=>s _ _ z) λ⟨o,z⟩=>⟨o,s _ _ z⟩)
 ·exact .inr h
def tyL {K:Fg} {H:Hp} {a:Ad} {xs:Jt} (h:H a=some (.lst xs)):tyV K "list" (.ref a) H:=.inl ⟨rfl,_,SqL.of h⟩
def szU (n:Nat) (h:n<=100000:=by decide):n<=sizeLine:=Nat.le_trans h (by decide)
def ix_k {k:Sk} {i:Nat} (h:i<k.length):atI (k.map kV) (i:Int)=some (kV (at0 k i)):=by
 refine zM ?_;unfold at0;rw [List.getElem?_map,q0z,List.getElem?_eq_getElem h];rfl
def ix_lastK {k:Sk} (h:0<k.length):atI (k.map kV) (-1)=some (kV (xj k)):=by
 have e:k=k.dropLast++[k.getLast (λz=>by rw [z] at h;cases h)]:=(List.dropLast_concat_getLast _).symm
 have e2:xj k=k.getLast (λz=>by rw [z] at h;cases h):=by
  unfold xj;rw [q0z,List.getElem?_eq_getElem (by omega),List.getLast_eq_getElem];rfl
 rw [e2]
 conv=>lhs;rw [e]
 rw [Jq];exact Xh _ _
def tix {K:Fg} {H:Hp} {v:V} {k:Sk} {Q:VK} (t:TupK H v k) (i:Nat) (h:i<k.length) (q:Q (kV (at0 k i)) H):rIxT K v (.int i) H Q:=by
 obtain ⟨b,rfl,e⟩:=t;exact ⟨b,_,_,_,rfl,rfl,SqT.of e,ix_k h,q⟩
def tixL {K:Fg} {H:Hp} {v:V} {k:Sk} {Q:VK} (t:TupK H v k) (h:0<k.length) (q:Q (kV (xj k)) H):rIxT K v (.int (-1)) H Q:=by
 obtain ⟨b,rfl,e⟩:=t;exact ⟨b,_,_,_,rfl,rfl,SqT.of e,ix_lastK h,q⟩
def WfS.pos {k:Sk} (h:WfS k):0<k.length:=len_pos _ h.len
def WfS.at0 {k:Sk} (h:WfS k):kV (K52.at0 k 0)=.str (wd k):=by
 obtain ⟨w,r,rfl,_⟩:=h.w;rfl
def xS {H:Hp} {p:Ad} {k:Sk} (n:H p=none):Same H (upd H p (.tup (k.map kV)))/\TupK (upd H p (.tup (k.map kV))) (.ref p) k:=⟨zU (Same.refl _) n,p,rfl,zu⟩
theorem zZ (w:Str):∀ l:Jl,inV (.str w) (l.map V.str)=decide (w∈l)
 | []=>by simp [inV]
 | x::l=>by
  have ih:=zZ w l;unfold inV at ih ⊢;rw [List.map_cons,List.any_cons,ih,Bool.eq_iff_iff];simp only [eqV,Bool.or_eq_true,decide_eq_true_eq,List.mem_cons];constructor
  ·rintro (h | h)
   ·exact .inl (by have h:=h;simp at h;exact h.symm)
   ·exact .inr h
  ·rintro (h | h)
   ·exact .inl (decide_eq_true (by rw [h]))
   ·exact .inr h
def eqS {a b:Str}:decide (V.str a=V.str b)=decide (a=b):=decide_eq_decide.mpr ⟨V.str.inj,λh=>by rw [h]⟩
structure TabH (w:World) (K:Fg) (mg:J0) (aS aR aF:Ad):Prop where
 Ts:yU w K aS
 ls:(aS == sysModules)=false
 hs:mg "SEAT_STEPS"=some (.ref aS)
 is:∀ p∈z7,∃ r,PySem.W.nsIn K aS p.1=some r/\r.isSome=zS p.1
 Tr:yU w K aR
 lr:(aR == sysModules)=false
 hr:mg "SEATS_READ"=some (.ref aR)
 ir:∀ p∈z7,(zQ p.1=none/\PySem.W.nsIn K aR p.1=some none)∨∃ l ta,zQ p.1=some l/\PySem.W.nsIn K aR p.1=some (some (.ref ta))/\∀ H,SqT K H ta (l.map λi:Nat=>V.int i)
 hf:mg "FORGETTING"=some (.ref aF)
 sf:∀ H,SqT K H aF (forgL.map V.str)
section
variable {P:Program} {w:World} {K:Fg} {mg:J0} {base:Heap} {aS aR aF:Ad}
def spLay (vs:Jt) (H:Hp) (Q:VK) (_:XK):Prop:=∃ (k:Sk),vs=[.str (wd k)]/\WfS k/\Q (.bl (zS (wd k))) H
def ok_lays (d:zp K mg "lays_seat" xv ["word"]) (TT:TabH w K mg aS aR aF):Ok P w K mg base CX0 1 "lays_seat" ["word"] spLay:=by
 obtain ⟨g,fd,m,F,b⟩:=d;refine ⟨g,fd,m,F.kp,b,F.ok XV (by rintro vs H Q E ⟨_,e,_⟩;rw [e];rfl) λcdv A outer s H vs Q E hr h=>?_⟩;obtain ⟨k,rfl,wf,q⟩:=h;obtain ⟨r,e,er⟩:=TT.is _ wf.len;refine ⟨_,(ze (zk (z9 Xs (pv 0) (ZR TT.hs) rfl))),?_⟩;exact ⟨_,rfl,_,aS,r,rfl,rfl,TT.Ts,TT.ls,e,by rw [er];exact q⟩
def YL (vs:Jt) (H:Hp) (Q:VK) (_:XK):Prop:=∃ (v:V) (k:Sk),vs=[v]/\TupK H v k/\WfS k/\∀ H' u,Same H H'->Tk H' u (zA k)->Q u H'
def zbx (d:zp K mg "laid_by" Zf ["step"]) (LSW:Ok P w K mg base CX0 1 "lays_seat" ["word"] spLay):Ok P w K mg base CX0 2 "laid_by" ["step"] YL:=by
 obtain ⟨g,fd,m,F,b⟩:=d;refine ⟨g,fd,m,F.kp,b,F.ok zbo (by rintro vs H Q E ⟨_,_,e,_⟩;rw [e];rfl) λcdv A outer s H vs Q E hr h=>?_⟩;obtain ⟨v,k,rfl,t,wf,q⟩:=h;have hr1:Room 1 _:=hr;have p0:=wf.pos;have a0:=wf.at0;refine ⟨_,(zd (zv (yi (zw LSW hr1 (by rfl) zz (za (zi zn (pv 0) zb (λ_ _=>rfl)) zc))) (ze (zk (zt (za zf (za (zi zn (pv 0) zb (λ_ _=>rfl)) zc))))) zj)
   (zd (zv (zg zN (zi zn (pv 0) zb (λ_ _=>rfl)) (zt (za zf (za zf zc))) rfl) (ze (zk (zt (za zf (za (zi zn (pv 0) zb (λ_ _=>rfl)) zc))))) zj)
   (zd (zv (zg zO (zi zn (pv 0) zb (λ_ _=>rfl)) zf (zm _)) (ze (zk (zt (za zf (za (zi zn (pv 0) zb (λ_ _=>rfl)) zc))))) zj)
   (ze (zk xh))))),?_⟩
 dsimp only [yh,Cx.nox,Cx.wish];refine ⟨_,rfl,tix t 0 p0 ?_⟩;rw [a0];refine ⟨k,rfl,wf,_,rfl,?_⟩;unfold zA at q
 cases hl:zS (wd k) with
 | true =>
  rw [if_pos hl] at q;have:=ZU _ wf.len hl;refine ⟨_,rfl,tix t 1 (by show 1<_;exact q2y (by decide) this) ⟨by show 2<=sizeLine;decide,λp n=>?_⟩⟩;obtain ⟨s1,t1⟩:=xS (k:=[.inr "seat",at0 k 1]) n;exact q _ _ s1 t1
 | false =>
  rw [if_neg (by rw [hl];exact q1z)] at q;refine zy ?_;refine ⟨_,rfl,tix t 0 p0 ?_⟩;rw [a0];refine ⟨szU 2,λp np=>⟨p,_,rfl,.inr (SqT.of zu),rfl,rfl,_,rfl,?_⟩⟩;generalize hX:upd _ _ _=H1;obtain ⟨s1,e1⟩:=yr hX np;clear hX;have t1:=t.same s1;rw [show ([V.str "choose",V.str "other"]:Jt)=(["choose","other"]:Jl).map V.str from rfl,zZ];by_cases hc:wd k∈(["choose","other"]:Jl)
  ·rw [decide_eq_true hc]
   have hc2:wd k="choose"∨wd k="other":=by simpa using hc
   rw [if_pos hc2] at q;have l4:=ZB _ wf.len (by rcases hc2 with h | h;exact .inl h;exact .inr (.inl h));refine zC ⟨_,rfl,tix t1 1 (by show 1<k.length;omega) ⟨szU 2,λp n=>?_⟩⟩;obtain ⟨s2,t2⟩:=xS (k:=[.inr "mask",at0 k 1]) n;exact q _ _ (s1.trans s2) t2
  ·rw [decide_eq_false hc]
   rw [if_neg (λz=>hc (by simpa using z))] at q;refine zy ⟨_,rfl,tix t1 0 p0 ?_⟩;rw [a0];refine ⟨rfl,_,rfl,?_⟩;rw [eqS];by_cases hs:wd k="save"
   ·rw [decide_eq_true hs]
    rw [if_pos hs] at q;have l4:=ZB _ wf.len (.inr (.inr hs));refine zC ⟨_,rfl,tix t1 1 (by show 1<k.length;omega) ⟨szU 2,λp n=>?_⟩⟩;obtain ⟨s2,t2⟩:=xS (k:=[.inr "slot",at0 k 1]) n;exact q _ _ (s1.trans s2) t2
   ·rw [decide_eq_false hs]
    rw [if_neg hs] at q;exact zy (q _ _ s1 rfl)
def XR (vs:Jt) (H:Hp) (Q:VK) (_:XK):Prop:=∃ (v:V) (k:Sk),vs=[v]/\TupK H v k/\WfS k/\∀ B H' l xs,Same H B->Hd B [(l,.lst xs)] H'->TupL B xs (zB k)->Q (.ref l) H'
def zbw (d:zp K mg "read_by" Ze ["step"]) (TT:TabH w K mg aS aR aF) (LSW:Ok P w K mg base CX0 1 "lays_seat" ["word"] spLay):Ok P w K mg base CX0 2 "read_by" ["step"] XR:=by
 obtain ⟨g,fd,m,F,b⟩:=d;refine ⟨g,fd,m,F.kp,b,F.ok sc_read_by (by rintro vs H Q E ⟨_,_,e,_⟩;rw [e];rfl) λcdv A outer s H vs Q E hr h=>?_⟩;obtain ⟨v,k,rfl,t,wf,q⟩:=h;have hr1:Room 1 _:=hr;have nd:=sc_read_by.nd;have p0:=wf.pos;have a0:=wf.at0
 obtain ⟨r,er,hsome,hnone⟩:∃ r,PySem.W.nsIn K aR (wd k)=some r/\r.isSome=(zQ (wd k)).isSome/\∀ H1 p,SqT K H1 p []->∃ ta,(r=none->ta=p)/\(∀ u,r=some u->u=.ref ta)/\SqT K H1 ta (((zQ (wd k)).getD []).map λi:Nat=>V.int i):=by
  rcases TT.ir _ wf.len with ⟨e1,e2⟩ | ⟨l,ta,e1,e2,e3⟩
  ·exact ⟨_,e2,by show false=_;rw [show zQ (wd k)=none from e1];rfl,λH1 p sp=>⟨p,λ_=>rfl,(λu z=>by cases z),by rw [show zQ (wd k)=none from e1];exact sp⟩⟩
  ·exact ⟨_,e2,by show true=_;rw [show zQ (wd k)=some l from e1];rfl,λH1 p sp=>⟨ta,(λz=>by cases z),(λu z=>by cases z;rfl),by rw [show zQ (wd k)=some l from e1];exact e3 H1⟩⟩
 have sl:=ZT _ wf.len
 have L5:((zQ (wd k)).getD []).length<=5:=by
  have:=xI k;unfold zB xP at this;rw [Jp,Jp,Jp,Jo] at this;omega
 generalize hL:(zQ (wd k)).getD []=L at sl L5;refine ⟨_,(zd (ps_compC (i:=1) ["at","step"] [none,some 0] rfl rfl rfl (pi_tup (pe_topget (ZR TT.hr) (zi zn (pv 0) zb (λ_ _=>rfl)) (zt zc) ⟨rfl,rfl,rfl,rfl⟩)) (λs3 H3 fp=>⟨zV (i:=0) (Jv ["at","step"]) rfl (Or.inl rfl),(zt (za zf (za (zi (ix_tupK (K:=K) rfl) (pv 1) (pv 0) (λ_ _=>rfl)) zc)))⟩) nd rfl (Or.inl rfl))
   (zd (yg (zv (zg zO (zi zn (pv 0) zb (λ_ _=>rfl)) zf (zm _)) (ze (zG (yZ PySem.F.plainAttrs_list PySem.F.slot_list_append PySem.F.type_list_append zW (pv 1) (za (zt (za zf (za (zi zn (pv 0) zb (λ_ _=>rfl)) zc))) zc)))) zj))
   (zd (yg (zv (zg zO (zi zn (pv 0) zb (λ_ _=>rfl)) zf (zm _)) (ze (zG (yZ PySem.F.plainAttrs_list PySem.F.slot_list_append PySem.F.type_list_append zW (pv 1) (za (zt (za zf (za (zi zn (pv 0) zb (λ_ _=>rfl)) zc))) zc)))) zj))
   (zd (yg (zv (xK (xU (yi (zw LSW hr1 (by rfl) zz (za (zi zn (pv 0) zb (λ_ _=>rfl)) zc))) (xJ (zg Xs (zi zn (pv 0) zb (λ_ _=>rfl)) (ZR TT.hr) rfl))).pt) (ze (zG (yZ PySem.F.plainAttrs_list PySem.F.slot_list_append PySem.F.type_list_append zW (pv 1) (za (zt (za zf (za (zi zn (pv 0) (yo z4 zb) (λ_ _=>rfl)) zc))) zc)))) zj))
   (ze (zk (pv 1))))))),?_⟩
 dsimp only [yh,Cx.nox,Cx.wish];refine ⟨aR,rfl,TT.Tr,TT.lr,_,rfl,tix t 0 p0 ?_⟩;rw [a0];refine ⟨szU 0,λp np=>?_⟩;generalize hX:upd _ _ _=H1;obtain ⟨s1,e1⟩:=yr hX np;clear hX;obtain ⟨ta,h1,h2,sq⟩:=hnone H1 p (SqT.of e1);rw [hL] at sq;have t1:=t.same s1
 suffices main:∀ x:V,x=.ref ta->iTup_S K _ x H1 from ⟨wd k,r,rfl,er,λu e=>⟨.ref ta,by rw [h2 u e];rfl,main _ rfl⟩,λe=>main _ (by rw [h1 e])⟩
 rintro x rfl;refine ⟨ta,rfl,⟨_,sq⟩,_,rfl,λD nD=>?_⟩;refine comp_tup (K:=K) (a:=ta) (D:=D) (xs:=L.map λi:Nat=>V.int i) (λi σ J=>∃ u B xs,σ=[u,some v]/\Same H1 B/\Hd B [(D,.lst xs)] J/\xs.length=i/\TupL B xs ((L.take i).map λi=>[.inr "seat",at0 k i])) ⟨none,H1,[],rfl,Same.refl _,Hd.base.new nD,rfl,.nil⟩ (λi σ J _ ⟨_,B,_,_,s,h,_⟩=>sqt_same sq (s.trans h.sm)) ?_ ?_
 ·rintro i x σ J hi ⟨u,B,xs,rfl,sB,h,xl,tl⟩
  obtain ⟨j,ej,rfl⟩:=Zz hi;refine ⟨_,rfl,_,rfl,?_⟩;refine tix (t1.same (sB.trans h.sm)) j (sl j (List.mem_of_getElem? ej)) ⟨szU 2,λp n=>?_⟩;obtain ⟨B2,s2,e2,h2⟩:=hdG h rfl n;have il:=(List.getElem?_eq_some_iff.mp ej).1;refine ⟨xs,h2.get 0 rfl,Nat.lt_of_le_of_lt (show xs.length<=9 by omega) (by decide),_,B2,xs++[.ref p],rfl,sB.trans s2,h2.fput,by rw [Jp,xl];rfl,?_⟩;rw [List.take_succ,ej,Jq];exact Paired.snoc (tl.same s2) ⟨p,rfl,e2⟩
 ·rintro σ J ⟨u,B,xs,rfl,sB,h,xl,tl⟩
  rw [Jo] at xl tl;rw [List.take_length] at tl;have tl:TupL B xs (xP k):=by unfold xP;rw [hL];exact tl
  have SZ:(10:Nat)<sizeLine:=by decide
  refine ⟨λσ J=>∃ B xs,σ=[some v,some (.ref D),none]/\Same H1 B/\Hd B [(D,.lst xs)] J/\xs.length<=6/\TupL B xs (xP k++Zs k),?_,?_⟩
  ·refine ⟨_,rfl,tix (t1.same (sB.trans h.sm)) 0 p0 ?_⟩
   rw [a0];refine ⟨rfl,_,rfl,?_⟩;rw [eqS];by_cases hp:wd k="pick"
   ·rw [decide_eq_true hp]
    have l6:=len_pk _ wf.len hp;refine zC ⟨_,rfl,tyL (h.get 0 rfl),_,rfl,tix (t1.same (sB.trans h.sm)) 4 (by show 4<k.length;omega) ⟨szU 2,λp n=>?_⟩⟩;obtain ⟨B2,s2,e2,h2⟩:=hdG h rfl n;refine ⟨D,xs,_,rfl,rfl,h2.get 0 rfl,by omega,B2,xs++[.ref p],rfl,sB.trans s2,h2.fput,by rw [Jp];show _+1<=6;omega,?_⟩;unfold Zs;rw [if_pos hp];exact Paired.snoc (tl.same s2) ⟨p,rfl,e2⟩
   ·rw [decide_eq_false hp]
    refine zy ⟨B,xs,rfl,sB,h,by omega,?_⟩;unfold Zs;rw [if_neg hp,q3x];exact tl
  clear tl xl h sB;rintro σ J ⟨B,xs,rfl,sB,h,xl,tl⟩;refine ⟨λσ J=>∃ B xs,σ=[some v,some (.ref D),none]/\Same H1 B/\Hd B [(D,.lst xs)] J/\xs.length<=7/\TupL B xs (xP k++Zs k++ZN k),?_,?_⟩
  ·refine ⟨_,rfl,tix (t1.same (sB.trans h.sm)) 0 p0 ?_⟩
   rw [a0];refine ⟨rfl,_,rfl,?_⟩;rw [eqS];by_cases hp:wd k="bring"
   ·rw [decide_eq_true hp]
    have l6:=len_br _ wf.len hp;refine zC ⟨_,rfl,tyL (h.get 0 rfl),_,rfl,tix (t1.same (sB.trans h.sm)) 2 (by show 2<k.length;omega) ⟨szU 2,λp n=>?_⟩⟩;obtain ⟨B2,s2,e2,h2⟩:=hdG h rfl n;refine ⟨D,xs,_,rfl,rfl,h2.get 0 rfl,by omega,B2,xs++[.ref p],rfl,sB.trans s2,h2.fput,by rw [Jp];show _+1<=7;omega,?_⟩;unfold ZN;rw [if_pos hp];exact Paired.snoc (tl.same s2) ⟨p,rfl,e2⟩
   ·rw [decide_eq_false hp]
    refine zy ⟨B,xs,rfl,sB,h,by omega,?_⟩;unfold ZN;rw [if_neg hp,q3x];exact tl
  clear tl xl h sB;rintro σ J ⟨B,xs,rfl,sB,h,xl,tl⟩;refine ⟨λσ J=>∃ B xs,σ=[some v,some (.ref D),none]/\Same H1 B/\Hd B [(D,.lst xs)] J/\TupL B xs (zB k),?_,?_⟩
  ·refine ⟨λbb J2=>J2=J/\bb=(zS (wd k) || (zQ (wd k)).isSome),?_,?_⟩
   ·refine ⟨_,rfl,tix (t1.same (sB.trans h.sm)) 0 p0 ?_⟩
    rw [a0];refine ⟨k,rfl,wf,_,rfl,?_⟩
    cases hl:zS (wd k) with
    | true=>exact zC ⟨rfl,rfl⟩
    | false =>
     refine zy ⟨_,rfl,tix (t1.same (sB.trans h.sm)) 0 p0 ?_⟩;rw [a0];exact ⟨_,aR,r,rfl,rfl,TT.Tr,TT.lr,er,_,rfl,rfl,by rw [← hsome];rfl⟩
   ·rintro bb J2 ⟨rfl,rfl⟩
    cases hb:(zS (wd k) || (zQ (wd k)).isSome) with
    | true =>
     refine zC ⟨_,rfl,tyL (h.get 0 rfl),_,rfl,_,rfl,tixL (t1.same (sB.trans h.sm)) p0 ⟨szU 2,λp n=>?_⟩⟩;obtain ⟨B2,s2,e2,h2⟩:=hdG h rfl n;refine ⟨D,xs,_,rfl,rfl,h2.get 0 rfl,by omega,B2,xs++[.ref p],rfl,sB.trans s2,h2.fput,?_⟩;unfold zB Ye;rw [if_pos hb];exact Paired.snoc (tl.same s2) ⟨p,rfl,e2⟩
    | false =>
     refine zy ⟨B,xs,rfl,sB,h,?_⟩;unfold zB Ye;rw [if_neg (by rw [hb];exact q1z),q3x];exact tl
  ·rintro σ J ⟨B,xs,rfl,sB,h,tl⟩
   exact ⟨_,rfl,q B J D xs (s1.trans sB) h tl⟩
end
def ovT {B J:Hp} {L:Js} {v:V} {k:Sk} (h:Hd B L J) (o:∀ a o,J a=some o->a ∉ L.map Prod.fst->B a=some o) (hL:∀ p∈L,∀ xs,p.2≠.tup xs) (t:TupK J v k):TupK B v k:=by
 obtain ⟨b,rfl,e⟩:=t;refine ⟨b,rfl,o _ _ e λm=>?_⟩;obtain ⟨p,hp,rfl⟩:=List.mem_map.mp m;have:=h.st p hp;rw [e] at this;exact hL p hp _ (Option.some.inj this).symm
def ovL {B J:Hp} {L:Js} {xs:Jt} {ks:List Sk} (h:Hd B L J) (o:∀ a o,J a=some o->a ∉ L.map Prod.fst->B a=some o) (hL:∀ p∈L,∀ xs,p.2≠.tup xs) (t:TupL J xs ks):TupL B xs ks:=Paired.mapP t λ_ _ z=>ovT h o hL z
def Y6 {k t:Sk} (h:zA k=some t):∃ z x,t=[.inr z,x]/\z∈(["seat","mask","slot"]:Jl):=by
 unfold zA at h
 split at h
 ·cases h;exact ⟨_,_,rfl,by simp⟩
 ·split at h
  ·cases h;exact ⟨_,_,rfl,by simp⟩
  ·split at h
   ·cases h;exact ⟨_,_,rfl,by simp⟩
   ·cases h
section
variable {P:Program} {w:World} {K:Fg} {mg:J0} {base:Heap} {aS aR aF:Ad}
def spMay (vs:Jt) (H:Hp) (Q:VK) (_:XK):Prop:=∃ (v:V) (k:Sk),vs=[v]/\TupK H v k/\WfS k/\∀ H',Same H H'->Q (.bl (mayF k)) H'
def ok_may (d:zp K mg "may_fault" xu ["step"]):Ok P w K mg base CX0 1 "may_fault" ["step"] spMay:=by
 obtain ⟨g,fd,m,F,b⟩:=d;refine ⟨g,fd,m,F.kp,b,F.ok sc_may_fault (by rintro vs H Q E ⟨_,_,e,_⟩;rw [e];rfl) λcdv A outer s H vs Q E hr h=>?_⟩;obtain ⟨v,k,rfl,t,wf,q⟩:=h;have p0:=wf.pos;have a0:=wf.at0;have nd:=sc_may_fault.nd;unfold mayF at q;refine ⟨_,(ze (zk (pe_or (z9 zN (zi zn (pv 0) zb (λ_ _=>rfl)) (zt (za zf (za zf zc))) rfl) (xL (Z3 (z9 zO (zi zn (pv 0) zb (λ_ _=>rfl)) zf (zm _)) (xL (z9 zN (zi zn (pv 0) zb (λ_ _=>rfl)) (zt (za zf (za zf zc))) rfl))))))),?_⟩;dsimp only [yh,Cx.nox,Cx.wish];refine ⟨_,rfl,tix t 0 p0 ?_⟩;rw [a0];refine ⟨szU 2,λp np=>⟨p,_,rfl,.inr (SqT.of zu),rfl,rfl,_,rfl,?_⟩⟩;generalize hX:upd _ _ _=H1;obtain ⟨s1,e1⟩:=yr hX np;clear hX;have t1:=t.same s1;rw [show ([V.str "gather",V.str "reach"]:Jt)=(["gather","reach"]:Jl).map V.str from rfl,zZ];by_cases hc:wd k="gather"∨wd k="reach"
 ·rw [decide_eq_true (show wd k∈(["gather","reach"]:Jl) by simpa using hc)]
  rw [decide_eq_true hc] at q;exact zC (q _ s1)
 ·rw [decide_eq_false (show ¬ wd k∈(["gather","reach"]:Jl) by simpa using hc)]
  rw [decide_eq_false hc,Bool.false_or] at q;refine zy ⟨_,rfl,tix t1 0 p0 ?_⟩;rw [a0];refine ⟨rfl,_,rfl,?_⟩;rw [eqS];by_cases ho:wd k="op"
  ·rw [decide_eq_true ho]
   rw [decide_eq_true ho,Bool.true_and] at q;have l6:=len_op _ wf.len ho;obtain ⟨sg,e2,_⟩:=wf.op ho;refine zC ⟨_,rfl,tix t1 2 (by show 2<k.length;omega) ?_⟩;rw [e2];refine ⟨szU 2,λp2 np2=>⟨p2,_,rfl,.inr (SqT.of zu),rfl,rfl,?_⟩⟩;rw [show ([V.str "/",V.str "rest"]:Jt)=(["/","rest"]:Jl).map V.str from rfl,if_neg (by decide)]
   have e3:decide (sg∈(["/","rest"]:Jl))=decide (at0 k 2=.inr "/"∨at0 k 2=.inr "rest"):=by
    rw [e2];refine decide_eq_decide.mpr ⟨λh=>?_,λh=>?_⟩
    ·have:sg="/"∨sg="rest":=by simpa using h
     rcases this with rfl | rfl
     ·exact .inl rfl
     ·exact .inr rfl
    ·rcases h with h | h <;> cases h <;> decide
   have e4:inV (V.str sg) ((["/","rest"]:Jl).map V.str)=decide (at0 k 2=.inr "/"∨at0 k 2=.inr "rest"):=(zZ sg _).trans e3;show Q (V.bl (inV (V.str sg) ((["/","rest"]:Jl).map V.str))) _;rw [e4];exact q _ (s1.trans (zU (Same.refl _) np2))
  ·rw [decide_eq_false ho]
   rw [decide_eq_false ho,Bool.false_and] at q;exact zy (q _ s1)
def spTou (vs:Jt) (H:Hp) (Q:VK) (_:XK):Prop:=∃ (v u:V) (k t:Sk),vs=[v,u]/\TupK H v k/\WfS k/\TupK H u t/\t.all kOk=true/\∀ H',Same H H'->Q (.bl (YK k t)) H'
def zbu (d:zp K mg "is_touched_by" yD ["step","thing"]) (LBY:Ok P w K mg base CX0 2 "laid_by" ["step"] YL) (RBY:Ok P w K mg base CX0 2 "read_by" ["step"] XR):Ok P w K mg base CX0 3 "is_touched_by" ["step","thing"] spTou:=by
 obtain ⟨g,fd,m,F,b⟩:=d;refine ⟨g,fd,m,F.kp,b,F.ok sc_is_touched_by (by rintro vs H Q E ⟨_,_,_,_,e,_⟩;rw [e];rfl) λcdv A outer s H vs Q E hr h=>?_⟩;obtain ⟨v,u,k,t,rfl,tv,wf,tu,ok,q⟩:=h;have hr2:Room 2 _:=hr;have hu64:=hr.units;have hu:=Nat.lt_of_le_of_lt (Nat.add_le_add_left (show 1<=64 by decide) _) hr.units;have nd:=sc_is_touched_by.nd;refine ⟨_,(ze (zk (pe_or (z9 (op_eqT hu64) (zw LBY hr2 (by rfl) zz (za (pv 0) zc)) (pv 1) (zm _)) (xL (z9 (op_inL hu) (pv 1) (zw RBY hr2 (by rfl) zz (za (pv 0) zc)) rfl))))),?_⟩;dsimp only [yh,Cx.nox,Cx.wish];refine ⟨_,rfl,v,k,rfl,tv,wf,λH1 x s1 tx=>⟨_,rfl,zA k,some t,tx,tu.same s1,?_,ok,_,rfl,?_⟩⟩
 ·cases hl:zA k with
  | none=>rfl
  | some t2=>exact zaa wf.ok hl
 ·unfold YK at q
  by_cases h1:zA k=some t
  ·rw [decide_eq_true h1]
   rw [decide_eq_true h1,Bool.true_or] at q;exact zC (q _ s1)
  ·rw [decide_eq_false h1]
   rw [decide_eq_false h1,Bool.false_or] at q;refine zy ⟨_,rfl,_,rfl,v,k,rfl,tv.same s1,wf,λB H2 l xs s2 h2 tl=>⟨some t,l,xs,zB k,tu.same (s1.trans (s2.trans h2.sm)),rfl,h2.lst 0 rfl,tl.same h2.sm,?_⟩⟩;have e:@decide (t∈zB k) (Classical.propDecidable _)=decide (t∈zB k):=by congr
   show Q (V.bl (false != @decide (t∈zB k) (Classical.propDecidable _))) _;rw [e,Bool.false_bne];exact q _ (s1.trans (s2.trans h2.sm))
def spNS (vs:Jt) (H:Hp) (Q:VK) (_:XK):Prop:=∃ (B:Hp) (L:Js) (a:Ad) (r:Dk) (v u:V) (k:Sk),vs=[.ref a,v,u]/\Hd B ((a,.dT r)::L) H/\(∀ p∈L,∀ xs,p.2≠.tup xs)/\TupK B v k/\WfS k/\Tk B u (zA k)/\r.length<90000/\∀ B' H',Same B B'->Hd B' ((a,.dT (xE r k))::L) H'->Q .non H'
def X8 (d:zp K mg "note_step" xr ["read","step","thing"]) (RBY:Ok P w K mg base CX0 2 "read_by" ["step"] XR):Ok P w K mg base CX0 3 "note_step" ["read","step","thing"] spNS:=by
 obtain ⟨g,fd,m,F,b⟩:=d;refine ⟨g,fd,m,F.kp,b,F.ok sc_note_step (by rintro vs H Q E ⟨_,_,_,_,_,_,_,e,_⟩;rw [e];rfl) λcdv A outer s H vs Q E hr h=>?_⟩;obtain ⟨B,L,a,r,v,u,k,rfl,h,hL,tv,wf,tu,rl,q⟩:=h;have hr2:Room 2 _:=hr;have hu:=Nat.lt_of_le_of_lt (Nat.add_le_add_left (show 1<=64 by decide) _) hr.units;have nd:=sc_note_step.nd;have SZ:(100000:Nat)<sizeLine:=by decide
 refine ⟨_,(zd (yg (zv (xV (zg op_notN (pv 2) xh (zm _)) (Zm (zg op_ne (zi zn (pv 2) zb (λ_ _=>rfl)) zf (zm _)))).pt (ze (xa hu (pv 0) (pv 2) yA rfl)) zj))
   (ze (ym PassesOwn.never rfl (yj (zw RBY hr2 (by rfl) zz (za (pv 1) zc))) (zV (i:=3) nd rfl (Or.inl rfl)) (ze (xa hu (pv 0) (pv 3) yA rfl))))),?_⟩
 dsimp only [yh,Cx.nox,Cx.wish]
 let r1:Dk:=match zA k with
  | some (.inr z::x)=>if z="slot" then r else zP r (.inr z::x) (.bl false)
  | _=>r
 have r1l:r1.length<=r.length+1:=by
  show (match zA k with
  | some (.inr z::x)=>if z="slot" then r else zP r (.inr z::x) (.bl false)
  | _=>r).length<=_
  split
  ·split
   ·omega
   ·exact z3 _ _ _
  ·omega
 refine ⟨λσ J=>σ=[some (.ref a),some v,some u,none]/\Hd B ((a,.dT r1)::L) J,?_,?_⟩
 ·cases hl:zA k with
  | none =>
   rw [hl] at tu;cases (show u=.non from tu);have e:r1=r:=by show (match zA k with | some (.inr z::x)=>if z="slot" then r else zP r (.inr z::x) (.bl false) | _=>r)=r;rw [hl]
   rw [e];exact ⟨_,rfl,rfl,_,rfl,zy (zy ⟨rfl,h⟩)⟩
  | some t =>
   rw [hl] at tu;obtain ⟨z,x,rfl,_⟩:=Y6 hl;have tu:TupK B u [.inr z,x]:=tu;obtain ⟨b,rfl,eb⟩:=tu;have tj:TupK H (.ref b) [.inr z,x]:=⟨b,rfl,h.sm _ _ eb⟩;have e:r1=if z="slot" then r else zP r [.inr z,x] (.bl false):=by show (match zA k with | some (.inr z::x)=>if z="slot" then r else zP r (.inr z::x) (.bl false) | _=>r)=_;rw [hl]
   rw [e];refine ⟨_,rfl,rfl,_,rfl,zC ⟨_,rfl,tix tj 0 (by show 0<2;decide) ⟨rfl,_,rfl,?_⟩⟩⟩;have ez:decide (kV (at0 [.inr z,x] 0)=V.str "slot")=decide (z="slot"):=eqS;rw [ez];by_cases hz:z="slot"
   ·rw [if_pos hz,decide_eq_true hz]
    exact zy ⟨rfl,h⟩
   ·rw [if_neg hz,decide_eq_false hz]
    exact zC ⟨_,rfl,_,rfl,a,_,rfl,DPut.t (h.get 0 rfl) (h.sm _ _ eb) (by omega),rfl,h.fput⟩
 ·rintro σ J ⟨rfl,h1⟩
  refine ⟨_,rfl,v,k,rfl,tv.same h1.sm,wf,λB2 H2 l xs s2 h2 tl=>?_⟩;obtain ⟨B3,s3,h3,o3⟩:=Hd.over h1 (s2.trans h2.sm)
  have hL1:∀ p∈(a,HO.dT r1)::L,∀ xs,p.2≠.tup xs:=λp m xs z=>by
   rcases List.mem_cons.mp m with rfl | m
   ·cases z
   ·exact hL p m xs z
  have tl3:TupL B3 xs (zB k):=ovL h3 o3 hL1 (tl.same h2.sm)
  have el:B3 l=some (.lst xs):=by
   refine o3 _ _ (h2.get 0 rfl) λm=>?_;obtain ⟨p,hp,e⟩:=List.mem_map.mp m;have:=s2 _ _ (h1.st p hp);rw [e,h2.nw (l,.lst xs) q1y] at this;cases this
  have xl:=Paired.length tl3;have rb:=xI k;refine ⟨l,rfl,⟨_,SqL.of (h3.sm _ _ el)⟩,ye (K:=K) (a:=l) (xs:=xs) (λi σ J=>∃ u2,σ=[some (.ref a),some v,some u,u2]/\Hd B3 ((a,.dT (xB r1 ((zB k).take i)))::L) J) ⟨_,rfl,h3⟩ (λi σ J _ ⟨_,_,hh⟩=>SqL.of (hh.sm _ _ el)) ?_ ?_⟩
  ·rintro i x σ J hi ⟨u2,rfl,hh⟩
   obtain ⟨t,et,tt⟩:=tl3.at hi;obtain ⟨b,rfl,eb⟩:=tt;have:=ZA (l:=(zB k).take i) (r:=r1);have:((zB k).take i).length<=5:=by rw [List.length_take];omega
   refine ⟨_,rfl,_,rfl,a,_,rfl,DPut.t (hh.get 0 rfl) (hh.sm _ _ eb) (by omega),_,rfl,?_⟩;rw [List.take_succ,et];have e:xB r1 ((zB k).take i++(some t).toList)=zP (xB r1 ((zB k).take i)) t (.bl true):=by unfold xB;rw [List.foldl_append];rfl
   rw [e];exact hh.fput
  ·rintro σ J ⟨u2,rfl,hh⟩
   rw [xl,List.take_length] at hh;exact q B3 J s3 hh
end
structure KnC (K:Fg) (C:Ad):Prop where
 c:Cls K C
 b:PySem.W.findIn K (.ref C) "before"=some none
 n:PySem.W.findIn K (.ref C) "numbers"=some none
def KnO (C dx db dn:Ad):HO:=.ins C dx [("before",.ref db),("numbers",.ref dn)]
def val_keys {b:Dk} {k:Sk} (h:k∈b.map (·.1)):∃ v,zK b k=some v:=by
 cases e:zK b k with
 | some v=>exact ⟨v,rfl⟩
 | none=>exact absurd h (YJ e)
def x6 (b:Dk) (t:Sk) (i:Nat):Dk:=b.filter λp=>!(YK p.1 t && decide (p.1∈(b.map (·.1)).take i))
def keepI_0 (b:Dk) (t:Sk):x6 b t 0=b:=List.filter_eq_self.mpr λp _=>by simp
def keepI_all (b:Dk) (t:Sk):x6 b t (b.map (·.1)).length=xk b t:=by
 unfold x6 xk;refine List.filter_congr λp m=>?_;rw [List.take_length,decide_eq_true (List.mem_map.mpr ⟨p,m,rfl⟩),Bool.and_true]
def zcb {b:Dk} {t k:Sk} {i:Nat} (e:(b.map (·.1))[i]?=some k) (h:YK k t=true):x9 (x6 b t i) k=x6 b t (i+1):=by
 unfold x9 x6;rw [List.filter_filter];refine List.filter_congr λp _=>?_;rw [List.take_succ,e,Bool.eq_iff_iff];by_cases hp:p.1=k
 ·simp [hp,h]
 ·simp [hp]
def zca {b:Dk} {t k:Sk} {i:Nat} (e:(b.map (·.1))[i]?=some k) (h:YK k t=false):x6 b t i=x6 b t (i+1):=by
 unfold x6;refine List.filter_congr λp _=>?_;rw [List.take_succ,e,Bool.eq_iff_iff];by_cases hp:p.1=k
 ·simp [hp,h]
 ·simp [hp]
def not_take {ks:List Sk} {i:Nat} {k:Sk} (n:ks.Nodup) (e:ks[i]?=some k):¬ k∈ks.take i:=λm=>by
 obtain ⟨j,hj,ej⟩:=List.getElem_of_mem m;rw [List.length_take] at hj;rw [List.getElem_take] at ej;have e2:ks[j]?=some k:=by rw [List.getElem?_eq_getElem (by omega),ej]
 have:=(List.getElem?_inj (by omega) n).mp (e2.trans e.symm);omega
def keepI_in {b:Dk} {t k:Sk} {i:Nat} (n:(b.map (·.1)).Nodup) (e:(b.map (·.1))[i]?=some k):∃ v,zK (x6 b t i) k=some v:=by
 refine val_keys ?_;obtain ⟨p,m,rfl⟩:=List.mem_map.mp (List.mem_of_getElem? e);refine List.mem_map.mpr ⟨p,List.mem_filter.mpr ⟨m,?_⟩,rfl⟩;rw [decide_eq_false (not_take n e),Bool.and_false];rfl
section
variable {P:Program} {w:World} {K:Fg} {mg:J0} {base:Heap} {aS aR aF:Ad}
def spNL (C:Ad) (vs:Jt) (H:Hp) (Q:VK) (_:XK):Prop:=∃ (B:Hp) (L:Js) (kn dx db dn:Ad) (b:Dk) (v:V) (k:Sk),vs=[.ref kn,v]/\Hd B ((db,.dT b)::L) H/\(∀ p∈L,∀ xs,p.2≠.tup xs)/\B kn=some (KnO C dx db dn)/\TupK B v k/\WfS k/\(∀ p∈b,WfS p.1)/\(b.map (·.1)).Nodup/\b.length<90000/\∀ B' H',Same B B'->Hd B' ((db,.dT (xi b k))::L) H'->Q .non H'
def X9 {C:Ad} (d:zp K mg "note_laid" xt ["known","step"]) (hlist:mg "list"=none) (TT:TabH w K mg aS aR aF) (KC:KnC K C) (LBY:Ok P w K mg base CX0 2 "laid_by" ["step"] YL) (RBY:Ok P w K mg base CX0 2 "read_by" ["step"] XR) (TOU:Ok P w K mg base CX0 3 "is_touched_by" ["step","thing"] spTou):Ok P w K mg base CX0 4 "note_laid" ["known","step"] (spNL C):=by
 obtain ⟨g,fd,m,F,bb⟩:=d;refine ⟨g,fd,m,F.kp,bb,F.ok sc_note_laid (by rintro vs H Q E ⟨_,_,_,_,_,_,_,_,_,e,_⟩;rw [e];rfl) λcdv A outer s H vs Q E hr h=>?_⟩;obtain ⟨B,L,kn,dx,db,dn,b,v,k,rfl,h,hL,ekn,tv,wf,bw,bn,bl,q⟩:=h;have hr3:Room 3 _:=hr;have hr2:Room 2 _:=hr.mono (by decide);have hu:=Nat.lt_of_le_of_lt (Nat.add_le_add_left (show 1<=64 by decide) _) hr.units;have nd:=sc_note_laid.nd;have SZ:(100000:Nat)<sizeLine:=by decide
 have p0:=wf.pos;have a0:=wf.at0
 let b1:Dk:=match zA k with
  | none=>b
  | some t=>if t∈zB k then xk b t else zP (xk b t) k (.bl true)
 refine ⟨_,(zd (zq (i:=2) nd rfl (Or.inl rfl) (zw LBY hr2 (by rfl) zz (za (pv 1) zc)))
   (zd (yg (zv (zg op_notN (pv 2) xh (zm _)) (zd (ym PassesOwn.never rfl (yj (Zn (zci rfl) (by rfl) hlist PyProof.Rows.boot_list (za (xC (pv 0) rfl) zc))) (zV (i:=3) nd rfl (Or.inl rfl)) (ze (zv (yi (zw TOU hr3 (by rfl) zz (za (pv 3) (za (pv 2) zc)))) (ze (zG (zaw hu (xC (pv 0) rfl) (pv 3) ⟨rfl,rfl,rfl,rfl⟩))) zj)))
   (ze (zv (zg (op_notInL hu) (pv 2) (zw RBY hr2 (by rfl) zz (za (pv 1) zc)) rfl) (ze (xa hu (xC (pv 0) rfl) (pv 1) yA rfl)) zj))) zj))
   (ze (zv (zg zN (zi zn (pv 1) zb (λ_ _=>rfl)) (ZR TT.hf) rfl) (ze (zG (zbs (xC (pv 0) rfl)))) zj)))),?_⟩
 dsimp only [yh,Cx.nox,Cx.wish];refine ⟨_,rfl,v,k,rfl,tv.same h.sm,wf,λH1 u s1 tu=>?_⟩;obtain ⟨B1,sB1,h1,o1⟩:=Hd.over h s1
 have hL0:∀ (b:Dk),∀ p∈(db,HO.dT b)::L,∀ xs,p.2≠.tup xs:=λb p m xs z=>by
  rcases List.mem_cons.mp m with rfl | m
  ·cases z
  ·exact hL p m xs z
 have tv1:=tv.same sB1;have ekn1:=sB1 _ _ ekn;refine ⟨λσ J=>∃ B2 u3,σ=[some (.ref kn),some v,some u,u3]/\Same B B2/\Hd B2 ((db,.dT b1)::L) J,?_,?_⟩
 ·cases hl:zA k with
  | none =>
   rw [hl] at tu;cases (show u=.non from tu);have e:b1=b:=by show (match zA k with | none=>b | some t=>if t∈zB k then xk b t else zP (xk b t) k (.bl true))=b;rw [hl]
   rw [e];exact ⟨_,rfl,rfl,_,rfl,zy ⟨B1,none,rfl,sB1,h1⟩⟩
  | some t =>
   rw [hl] at tu;have tu1:TupK B1 u t:=ovT h1 o1 (hL0 b) tu;have tok:=zaa wf.ok hl;obtain ⟨bu,rfl,ebu⟩:=id tu1;have e:b1=if t∈zB k then xk b t else zP (xk b t) k (.bl true):=by show (match zA k with | none=>b | some t=>if t∈zB k then xk b t else zP (xk b t) k (.bl true))=_;rw [hl]
   rw [e];refine ⟨_,rfl,rfl,_,rfl,zC ?_⟩;refine ⟨_,rfl,kn,_,_,_,.ref db,rfl,h1.sm _ _ ekn1,KC.c,KC.b,rfl,db,b,rfl,h1.get 0 rfl,by omega,λD ys nD tl=>?_⟩;have tl1:TupL B1 ys (b.map (·.1)):=ovL h1 o1 (hL0 b) tl;obtain ⟨B2,s2,eD,h2⟩:=hdG h1 rfl nD;have yl:=Paired.length tl1;rw [Jo] at yl;refine ⟨D,rfl,⟨_,SqL.of (h2.sm _ _ eD)⟩,ye (K:=K) (a:=D) (xs:=ys) (λi σ J=>∃ u2 B3,σ=[some (.ref kn),some v,some (.ref bu),u2]/\Same B2 B3/\Hd B3 ((db,.dT (x6 b t i))::L) J) ⟨_,B2,rfl,Same.refl _,by rw [keepI_0];exact h2⟩ (λi σ J _ ⟨_,B3,_,s3,hh⟩=>SqL.of (hh.sm _ _ (s3 _ _ eD))) ?_ ?_⟩
   ·rintro i x σ J hi ⟨u2,B3,rfl,s3,hh⟩
    obtain ⟨kk,ek,tk⟩:=tl1.at hi;have tk3:=tk.same (s2.trans s3)
    have wk:WfS kk:=by
     obtain ⟨p,m,rfl⟩:=List.mem_map.mp (List.mem_of_getElem? ek);exact bw p m
    refine ⟨_,rfl,_,rfl,x,.ref bu,kk,t,rfl,tk3.same hh.sm,wk,(tu1.same (s2.trans s3)).same hh.sm,tok,λH4 s4=>⟨_,rfl,?_⟩⟩;obtain ⟨B4,sB4,h4,o4⟩:=Hd.over hh s4;have ekn4:=(s2.trans (s3.trans sB4)) _ _ ekn1
    cases ht:YK kk t with
    | true =>
     obtain ⟨vv,ev⟩:=keepI_in (t:=t) bn ek;refine zC ⟨_,rfl,kn,_,_,_,.ref db,rfl,h4.sm _ _ ekn4,KC.c,KC.b,rfl,db,rfl,.inr ⟨_,.inl (h4.get 0 rfl)⟩,_,rfl,_,kk,vv,h4.get 0 rfl,(tk3.same sB4).same h4.sm,ev,_,B4,rfl,s3.trans sB4,?_⟩;rw [zcb ek ht];exact h4.fput
    | false =>
     refine zy ⟨_,B4,rfl,s3.trans sB4,?_⟩;rw [← zca ek ht];exact h4
   ·rintro σ J ⟨u2,B3,rfl,s3,hh⟩
    rw [yl,← List.length_map (f:=(·.1)),keepI_all] at hh;have tv3:=tv1.same (s2.trans s3);refine ⟨_,rfl,_,rfl,v,k,rfl,tv3.same hh.sm,wf,λB4 H4 l xs s4 h4 tl4=>⟨some t,l,xs,zB k,(tu1.same (s2.trans s3)).same (hh.sm.trans (s4.trans h4.sm)),rfl,h4.lst 0 rfl,tl4.same h4.sm,_,rfl,?_⟩⟩;have ed:inO (some t) (zB k)=decide (t∈zB k):=by show @decide (t∈zB k) (Classical.propDecidable _)=_;congr
    rw [ed];obtain ⟨B5,sB5,h5,o5⟩:=Hd.over hh (s4.trans h4.sm);have ekn5:=(s2.trans (s3.trans sB5)) _ _ ekn1;have sT:=sB1.trans (s2.trans (s3.trans sB5));by_cases hm:t∈zB k
    ·rw [decide_eq_true hm,if_pos hm]
     exact zy ⟨B5,_,rfl,sT,h5⟩
    ·rw [decide_eq_false hm,if_neg hm]
     obtain ⟨bv,rfl,ebv⟩:=tv3.same sB5;have kl:(xk b t).length<=b.length:=List.length_filter_le _ _;exact zC ⟨_,rfl,kn,_,_,_,.ref db,rfl,h5.sm _ _ ekn5,KC.c,KC.b,rfl,_,rfl,db,_,rfl,DPut.t (h5.get 0 rfl) (h5.sm _ _ ebv) (by omega),B5,_,rfl,sT,h5.fput⟩
 ·rintro σ J ⟨B2,u3,rfl,s2,h2⟩
  refine ⟨_,rfl,tix ((tv.same s2).same h2.sm) 0 p0 ?_⟩;rw [a0];refine ⟨aF,forgL.map V.str,rfl,.inr (TT.sf _),rfl,rfl,_,rfl,?_⟩;rw [zZ];by_cases hf:wd k∈forgL
  ·rw [decide_eq_true hf]
   refine zC ⟨_,rfl,kn,_,_,_,.ref db,rfl,h2.sm _ _ (s2 _ _ ekn),KC.c,KC.b,rfl,db,b1,rfl,h2.get 0 rfl,q B2 _ s2 ?_⟩;unfold xi;rw [if_pos hf];exact h2.fput
  ·rw [decide_eq_false hf]
   refine zy (q B2 _ s2 ?_);unfold xi;rw [if_neg hf];exact h2
def spNN (C:Ad) (vs:Jt) (H:Hp) (Q:VK) (_:XK):Prop:=∃ (B:Hp) (L:Js) (kn dx db dn:Ad) (n:Dk) (v:V) (k:Sk),vs=[.ref kn,v]/\Hd B ((dn,.dT n)::L) H/\(∀ p∈L,∀ xs,p.2≠.tup xs)/\B kn=some (KnO C dx db dn)/\TupK B v k/\WfS k/\n.length<90000/\∀ B' H',Same B B'->Hd B' ((dn,.dT (Yg n k))::L) H'->Q .non H'
def Y3 {C:Ad} (d:zp K mg "note_number" yO ["known","step"]) (KC:KnC K C) (LBY:Ok P w K mg base CX0 2 "laid_by" ["step"] YL):Ok P w K mg base CX0 3 "note_number" ["known","step"] (spNN C):=by
 obtain ⟨g,fd,m,F,bb⟩:=d;refine ⟨g,fd,m,F.kp,bb,F.ok sc_note_number (by rintro vs H Q E ⟨_,_,_,_,_,_,_,_,_,e,_⟩;rw [e];rfl) λcdv A outer s H vs Q E hr h=>?_⟩;obtain ⟨B,L,kn,dx,db,dn,n,v,k,rfl,h,hL,ekn,tv,wf,nl,q⟩:=h;have hr2:Room 2 _:=hr;have hu:=Nat.lt_of_le_of_lt (Nat.add_le_add_left (show 1<=64 by decide) _) hr.units;have nd:=sc_note_number.nd;have SZ:(100000:Nat)<sizeLine:=by decide
 have p0:=wf.pos;have a0:=wf.at0;refine ⟨_,(zd (zq (i:=2) nd rfl (Or.inl rfl) (zw LBY hr2 (by rfl) zz (za (pv 1) zc)))
   (ze (zv (zg zO (zi zn (pv 1) zb (λ_ _=>rfl)) zf (zm _)) (ze (xa hu (xC (pv 0) rfl) (pv 2) (zi zn (pv 1) zb (λ_ _=>rfl)) rfl)) (ze (zv (zg (op_inT hu) (pv 2) (xC (pv 0) rfl) rfl) (ze (zG (zaw hu (xC (pv 0) rfl) (pv 2) ⟨rfl,rfl,rfl,rfl⟩))) zj))))),?_⟩
 dsimp only [yh,Cx.nox,Cx.wish];refine ⟨_,rfl,v,k,rfl,tv.same h.sm,wf,λH1 u s1 tu=>?_⟩;obtain ⟨B1,sB1,h1,o1⟩:=Hd.over h s1
 have hL0:∀ p∈(dn,HO.dT n)::L,∀ xs,p.2≠.tup xs:=λp m xs z=>by
  rcases List.mem_cons.mp m with rfl | m
  ·cases z
  ·exact hL p m xs z
 have tv1:=tv.same sB1;have ekn1:=sB1 _ _ ekn;have q:=λH'=>q B1 H' sB1;unfold Yg at q;refine ⟨_,rfl,tix (tv1.same h1.sm) 0 p0 ?_⟩;rw [a0];refine ⟨rfl,_,rfl,?_⟩;rw [eqS];by_cases hn:wd k="number"
 ·rw [decide_eq_true hn]
  rw [if_pos hn] at q;have l4:=len_nu _ wf.len hn;have hl:zA k=some [.inr "seat",at0 k 1]:=by unfold zA;rw [if_pos (by rw [hn];decide)]
  rw [hl] at tu;obtain ⟨bu,rfl,ebu⟩:=(show TupK H1 u _ from tu);exact zC ⟨_,rfl,tix (tv1.same h1.sm) 2 (by show 2<k.length;omega) ⟨_,rfl,kn,_,_,_,.ref dn,rfl,h1.sm _ _ ekn1,KC.c,KC.n,rfl,_,rfl,dn,_,rfl,DPut.t (h1.get 0 rfl) ebu (by omega),q _ h1.fput⟩⟩
 ·rw [decide_eq_false hn]
  rw [if_neg hn] at q;refine zy ⟨_,rfl,_,rfl,kn,_,_,_,.ref dn,rfl,h1.sm _ _ ekn1,KC.c,KC.n,rfl,zA k,dn,n,tu,rfl,h1.get 0 rfl,_,rfl,?_⟩
  cases hl:zA k with
  | none =>
   rw [hl] at q;exact zy (q _ h1)
  | some t =>
   rw [hl] at tu q;have tu:TupK H1 u t:=tu;have q:∀ H',Hd B1 ((dn,.dT (if (zK n t).isSome=true then x9 n t else n))::L) H'->Q V.non H':=q
   cases hv:zK n t with
   | none =>
    rw [if_neg (by rw [hv];exact q1z)] at q;show if (false != (zK n t).isSome)=true then _ else _;rw [hv];exact zy (q _ h1)
   | some vv =>
    rw [if_pos (by rw [hv];rfl)] at q;show if (false != (zK n t).isSome)=true then _ else _;rw [hv];exact zC ⟨_,rfl,kn,_,_,_,.ref dn,rfl,h1.sm _ _ ekn1,KC.c,KC.n,rfl,dn,rfl,.inr ⟨_,.inl (h1.get 0 rfl)⟩,_,rfl,n,t,vv,h1.get 0 rfl,tu,hv,q _ h1.fput⟩
def oV:Option Int->V
 | none=>.non
 | some i=>.int i
def spJN (vs:Jt) (H:Hp) (Q:VK) (_:XK):Prop:=∃ (sg:Str) (a b:Int),vs=[.str sg,.int a,.int b]/\sg∈signs/\Kin a/\Kin b/\∀ H',Same H H'->Q (oV (Yp sg a b)) H'
def ok_joined {CN:Ad} (d:zp K mg "joined_numbers" yw ["sign","left","right"]) (hN:mg "ByNought"=some (.ref CN)) (xm:PySem.W.exmOne K (.ref CN) (.ref CN)=some true) (DN:Ok P w K mg base (CXe P w base) 3 "done" ["sign","left","right"] (spDone CN)):Ok P w K mg base CX0 4 "joined_numbers" ["sign","left","right"] spJN:=by
 obtain ⟨g,fd,m,F,b⟩:=d;refine ⟨g,fd,m,F.kp,b,F.ok sc_joined_numbers (by rintro vs H Q E ⟨_,_,_,e,_⟩;rw [e];rfl) λcdv A outer s H vs Q E hr h=>?_⟩;obtain ⟨sg,a,b',rfl,hs,ka,kb,q⟩:=h;have hr3:=hr;have nd:=sc_joined_numbers.nd;refine ⟨_,(ze (ps_try (t:=λR=>tRet (tCall (spDone CN) [] (XE R) (tCons (tVar 0) (tCons (tVar 1) (tCons (tVar 2) tNil))))) rfl rfl (by intro pins σ₀ R ok;exact ps1_ret (pe1_ok (E:=XE R) DN hr3 rfl (pass_tr (pins:=pins) (σ₀:=σ₀) ok) (za (pv 0) (za (pv 1) (za (pv 2) zc))))) (ph_no rfl rfl hN (λe=>(ze (zk xh))) ph_nil))),?_⟩;refine ⟨λC H'=>C=CN/\Yp sg a b'=none/\H'=H,?_,?_⟩
 ·refine ⟨_,rfl,_,rfl,_,rfl,sg,a,b',rfl,hs,ka,kb,λr er=>?_,λer=>⟨CN,rfl,rfl,er,rfl⟩⟩
  rw [er] at q;exact q H (Same.refl _)
 ·rintro e C H' ne ⟨rfl,er,rfl⟩
  rw [er] at q;refine ⟨true,xm,?_⟩;rw [if_pos rfl];exact q _ (zU (Same.refl _) ne)
def spWK (C:Ad) (vs:Jt) (H:Hp) (Q:VK) (_:XK):Prop:=∃ (kn dx db dn:Ad) (n:Dk) (v:V) (k:Sk),vs=[.ref kn,v]/\H kn=some (KnO C dx db dn)/\H dn=some (.dT n)/\TupK H v k/\WfS k/\NumOk n/\∀ H' u,Same H H'->TupK H' u (shorter n k)->Q u H'
def Xl {C:Ad} (d:zp K mg "with_known_numbers" yc ["known","step"]) (KC:KnC K C) (JN:Ok P w K mg base CX0 4 "joined_numbers" ["sign","left","right"] spJN):Ok P w K mg base CX0 5 "with_known_numbers" ["known","step"] (spWK C):=by
 obtain ⟨g,fd,m,F,bb⟩:=d;refine ⟨g,fd,m,F.kp,bb,F.ok sc_with_known_numbers (by rintro vs H Q E ⟨_,_,_,_,_,_,_,e,_⟩;rw [e];rfl) λcdv A outer s H vs Q E hr h=>?_⟩;obtain ⟨kn,dx,db,dn,n,v,k,rfl,ekn,edn,tv,wf,no,q⟩:=h;have hr4:Room 4 _:=hr;have hu:=Nat.lt_of_le_of_lt (Nat.add_le_add_left (show 1<=64 by decide) _) hr.units;have nd:=sc_with_known_numbers.nd;have p0:=wf.pos;have a0:=wf.at0;unfold shorter at q;refine ⟨_,(zd (zv (zg op_ne (zi zn (pv 1) zb (λ_ _=>rfl)) zf (zm _)) (ze (zk (pv 1))) zj)
   (zd (zq (i:=2) nd rfl (Or.inl rfl) (zax hu (xC (pv 0) rfl) (zt (za zf (za (zi zn (pv 1) zb (λ_ _=>rfl)) zc))) ⟨rfl,rfl,rfl,rfl⟩))
   (zd (zq (i:=3) nd rfl (Or.inl rfl) (zax hu (xC (pv 0) rfl) (zt (za zf (za (zi zn (pv 1) zb (λ_ _=>rfl)) zc))) ⟨rfl,rfl,rfl,rfl⟩))
   (zd (zv (xU (zg Y0 (pv 2) xh (zm _)) (xJ (zg Y0 (pv 3) xh (zm _)))).pt (ze (zk (pv 1))) zj)
   (zd (zq (i:=4) nd rfl (Or.inl rfl) (zw JN hr4 (by rfl) zz (za (zi zn (pv 1) zb (λ_ _=>rfl)) (za (pv 2) (za (pv 3) zc)))))
   (zd (zv (zg Y0 (pv 4) xh (zm _)) (ze (zk (pv 1))) zj)
   (ze (zk (zt (za zf (za (zi zn (pv 1) zb (λ_ _=>rfl)) (za (pv 4) (za (zi zn (pv 1) zb (λ_ _=>rfl)) zc))))))))))))),?_⟩
 dsimp only [yh,Cx.nox,Cx.wish];refine ⟨_,rfl,tix tv 0 p0 ?_⟩;rw [a0];refine ⟨rfl,_,rfl,?_⟩;rw [eqS];by_cases ho:wd k="op"
 ·rw [decide_eq_true ho]
  rw [if_pos ho] at q;have l6:=len_op _ wf.len ho;obtain ⟨sg,e2,ms⟩:=wf.op ho;refine zy ⟨_,rfl,kn,_,_,_,.ref dn,rfl,ekn,KC.c,KC.n,rfl,dn,rfl,.inr ⟨_,.inl edn⟩,_,rfl,tix tv 3 (by show 3<k.length;omega) ⟨szU 2,λp np=>?_⟩⟩;generalize hX:upd _ _ _=H1;obtain ⟨s1,et1⟩:=yr hX np;refine ⟨_,DGet.t (k:=[.inr "seat",at0 k 3]) (s1 _ _ edn) et1,?_⟩;clear hX np;refine ⟨_,rfl,kn,_,_,_,.ref dn,rfl,s1 _ _ ekn,KC.c,KC.n,rfl,dn,rfl,.inr ⟨_,.inl (s1 _ _ edn)⟩,_,rfl,tix (tv.same s1) 4 (by show 4<k.length;omega) ⟨szU 2,λp np=>?_⟩⟩;generalize hX:upd _ _ _=H2;obtain ⟨s2,et2⟩:=yr hX np;replace s2:=s1.trans s2;refine ⟨_,DGet.t (k:=[.inr "seat",at0 k 4]) (s2 _ _ edn) et2,?_⟩;clear hX np
  cases hv1:zK n [.inr "seat",at0 k 3] with
  | none =>
   have e:ZV k (zK n [.inr "seat",at0 k 3]) (zK n [.inr "seat",at0 k 4])=none:=by rw [hv1];unfold ZV;rw [e2]
   rw [e] at q;exact ⟨_,rfl,rfl,_,rfl,zC (zC ⟨_,rfl,q H2 v s2 (tv.same s2)⟩)⟩
  | some x1 =>
   obtain ⟨i,rfl,ki⟩:=ZS no hv1;refine ⟨_,rfl,rfl,_,rfl,zy ⟨_,rfl,rfl,_,rfl,?_⟩⟩
   cases hv2:zK n [.inr "seat",at0 k 4] with
   | none =>
    have e:ZV k (zK n [.inr "seat",at0 k 3]) (zK n [.inr "seat",at0 k 4])=none:=by rw [hv1,hv2];unfold ZV;rw [e2]
    rw [e] at q;exact zC ⟨_,rfl,q H2 v s2 (tv.same s2)⟩
   | some x2 =>
    obtain ⟨j,rfl,kj⟩:=ZS no hv2;have e:ZV k (zK n [.inr "seat",at0 k 3]) (zK n [.inr "seat",at0 k 4])=Yp sg i j:=by rw [hv1,hv2];unfold ZV;rw [e2]
    rw [e] at q;refine zy ⟨_,rfl,tix (tv.same s2) 2 (by show 2<k.length;omega) ?_⟩;rw [e2];refine ⟨_,rfl,_,rfl,sg,i,j,rfl,ms,ki,kj,λH3 s3=>?_⟩;replace s3:=s2.trans s3
    cases hd:Yp sg i j with
    | none =>
     rw [hd] at q;exact ⟨_,rfl,rfl,_,rfl,zC ⟨_,rfl,q H3 v s3 (tv.same s3)⟩⟩
    | some r =>
     rw [hd] at q;refine ⟨_,rfl,rfl,_,rfl,zy ⟨_,rfl,tix (tv.same s3) 1 (by show 1<k.length;omega) ⟨_,rfl,_,rfl,tix (tv.same s3) 5 (by show 5<k.length;omega) ⟨szU 4,λp np=>?_⟩⟩⟩⟩;obtain ⟨s4,t4⟩:=xS (k:=[.inr "number",at0 k 1,.inl r,at0 k 5]) np;exact q _ _ (s3.trans s4) t4
 ·rw [decide_eq_false ho]
  rw [if_neg ho] at q;exact zC ⟨_,rfl,q H v (Same.refl _) tv⟩
end
structure KInv (i:Nat) (S:Kn):Prop where
 bw:∀ p∈S.b,WfS p.1
 bn:(S.b.map (·.1)).Nodup
 bl:S.b.length<=i
 no:NumOk S.n
 nl:S.n.length<=i
 tw:∀ k∈S.t,WfS k
 tl:S.t.length<=i
def Xx {b:Dk} {k:Sk} {p:Sk×V} (h:p∈xi b k):p∈b∨p.1=k:=by
 unfold xi at h
 split at h
 ·cases h
 ·split at h
  ·exact .inl h
  ·split at h
   ·exact .inl (List.mem_filter.mp h).1
   ·unfold zP at h
    split at h
    ·obtain ⟨q,m,e⟩:=List.mem_map.mp h
     split at e
     ·rename_i z;exact .inr (by rw [← e];exact z)
     ·exact .inl (e ▸ (List.mem_filter.mp m).1)
    ·rcases List.mem_append.mp h with h | h
     ·exact .inl (List.mem_filter.mp h).1
     ·exact .inr (by rw [List.mem_singleton.mp h])
def KInv.step {i:Nat} {S:Kn} (h:KInv i S) {k:Sk} (w:WfS k):KInv (i+1) (S.step k):=by
 unfold Kn.step
 split
 ·exact ⟨h.bw,h.bn,Nat.le_succ_of_le h.bl,h.no,Nat.le_succ_of_le h.nl,h.tw,Nat.le_succ_of_le h.tl⟩
 ·have ws:=w.shorter h.no
  refine ⟨λp m=>?_,nd_note h.bn,Nat.le_trans len_note (Nat.succ_le_succ h.bl),h.no.note ws,Nat.le_trans len_noteN (Nat.succ_le_succ h.nl),λx m=>?_,?_⟩
  ·rcases Xx m with m | e
   ·exact h.bw p m
   ·rw [e];exact w
  ·rcases List.mem_append.mp m with m | m
   ·exact h.tw x m
   ·rw [List.mem_singleton.mp m];exact ws
  ·show (S.t++[_]).length<=_
   rw [Jp];exact Nat.succ_le_succ h.tl
def KInv.run {l:List Sk}:∀ {i:Nat} {S:Kn},KInv i S->(∀ k∈l,WfS k)->KInv (i+l.length) (yX S l):=by
 induction l with
 | nil=>intro i S h _;exact h
 | cons k l ih =>
  intro i S h w;have:=ih (h.step (w k q1y)) λx m=>w x (q1x _ m);rw [q2z,Nat.add_comm l.length 1,← Nat.add_assoc];exact this
def kinv0:KInv 0 ⟨[],[],[]⟩:=⟨(λ_ h=>nomatch h),List.nodup_nil,Nat.le_refl _,(λ_ h=>nomatch h),Nat.le_refl _,(λ_ h=>nomatch h),Nat.le_refl _⟩
def zb9 (S:Kn) (l:List Sk) (k:Sk):yX S (l++[k])=(yX S l).step k:=by unfold yX;rw [List.foldl_append];rfl
def dead_snoc (S:De) (l:List Sk) (k:Sk):y0 S (l++[k])=(y0 S l).step k:=by unfold y0;rw [List.foldl_append];rfl
def Zw {l:List Sk} (w:∀ k∈l,WfS k):∀ k∈ZE l,WfS k:=(kinv0.run w).tw
theorem zbb:∀ (l:List Sk) (S:De),∃ t,(y0 S l).t=S.t++t/\t.Sublist l
 | [],S=>⟨[],by rw [q3x];rfl,List.Sublist.refl _⟩
 | k::l,S=>by
  obtain ⟨t,e,s⟩:=zbb l (S.step k);show ∃ t,(y0 (S.step k) l).t=_/\_;unfold De.step at e ⊢
  split at e
  ·rename_i h
   rw [if_pos h];exact ⟨k::t,by rw [e,List.append_assoc];rfl,s.cons_cons k⟩
  ·rename_i h
   rw [if_neg h];exact ⟨t,e,s.cons k⟩
def Zx (l:List Sk):(yV l).Sublist l:=by
 obtain ⟨t,e,s⟩:=zbb l.reverse ⟨[],[]⟩;unfold yV;rw [e];have:=s.reverse;rw [List.reverse_reverse] at this;exact this
def unDead_wf {l:List Sk} (w:∀ k∈l,WfS k):∀ k∈yV l,WfS k:=λk m=>w k ((Zx l).subset m)
def xM {l:List Sk} (w:∀ k∈l,WfS k):∀ k∈yW l,WfS k:=unDead_wf (Zw w)
inductive Thn:List Sk->List Sk->Prop
 | nil:Thn [] []
 | drop {k s t}:Thn s t->Thn (k::s) t
 | keep {k s t}:Thn s t->Thn (k::s) (k::t)
 | chg {k j s t}:wd k="op"->wd j="number"->Thn s t->Thn (k::s) (j::t)
def Thn.snoc {s t:List Sk} {k:Sk} (h:Thn s t):Thn (s++[k]) (t++[k]):=by
 induction h with
 | nil=>exact .keep .nil
 | drop _ ih=>exact .drop ih
 | keep _ ih=>exact .keep ih
 | chg a b _ ih=>exact .chg a b ih
def Thn.snocD {s t:List Sk} {k:Sk} (h:Thn s t):Thn (s++[k]) t:=by
 induction h with
 | nil=>exact .drop .nil
 | drop _ ih=>exact .drop ih
 | keep _ ih=>exact .keep ih
 | chg a b _ ih=>exact .chg a b ih
def Thn.snocC {s t:List Sk} {k j:Sk} (a:wd k="op") (b:wd j="number") (h:Thn s t):Thn (s++[k]) (t++[j]):=by
 induction h with
 | nil=>exact .chg a b .nil
 | drop _ ih=>exact .drop ih
 | keep _ ih=>exact .keep ih
 | chg a b _ ih=>exact .chg a b ih
def Thn.of_sub {s t:List Sk} (h:t.Sublist s):Thn s t:=by
 induction h with
 | slnil=>exact .nil
 | cons _ _ ih=>exact .drop ih
 | cons_cons _ _ ih=>exact .keep ih
def xR (k:Sk) (l:List Sk):wgt (k::l)=wgt l+1+(if wd k="op" then 1 else 0):=by
 unfold wgt;by_cases h:wd k="op"
 ·rw [if_pos h,List.filter_cons_of_pos (by simpa using h),q2z,q2z];omega
 ·rw [if_neg h,List.filter_cons_of_neg (by simpa using h),q2z];omega
def Thn.wgt {s t:List Sk} (h:Thn s t):(wgt t<wgt s∨t=s)/\t.length<=s.length:=by
 induction h with
 | nil=>exact ⟨.inr rfl,Nat.le_refl _⟩
 | @drop k s t _ ih =>
  refine ⟨.inl ?_,Nat.le_succ_of_le ih.2⟩;rw [xR];rcases ih.1 with h | h
  ·omega
  ·rw [h];omega
 | @keep k s t _ ih =>
  refine ⟨?_,Nat.succ_le_succ ih.2⟩;rcases ih.1 with h | h
  ·left;rw [xR,xR];omega
  ·right;rw [h]
 | @chg k j s t a b _ ih =>
  refine ⟨.inl ?_,Nat.succ_le_succ ih.2⟩;rw [xR,xR,if_pos a,if_neg (by rw [b];decide)];rcases ih.1 with h | h
  ·omega
  ·rw [h];omega
def Zp (l:List Sk):Thn l (ZE l):=by
 have:∀ (l:List Sk) (s:List Sk) (S:Kn),Thn s S.t->Thn (s++l) (yX S l).t:=by
  intro l
  induction l with
  | nil=>intro s S h;rw [q3x];exact h
  | cons k l ih =>
   intro s S h;have e:s++k::l=(s++[k])++l:=by simp
   rw [e];refine ih (s++[k]) (S.step k) ?_;unfold Kn.step
   split
   ·exact h.snocD
   ·show Thn _ (S.t++[shorter S.n k])
    unfold shorter
    split
    ·rename_i o
     split
     ·exact h.snocC o rfl
     ·exact h.snoc
    ·exact h.snoc
 exact this l [] ⟨[],[],[]⟩ .nil
def Y1 (l:List Sk):(yW l).length<=l.length:=Nat.le_trans (Thn.of_sub (Zx _)).wgt.2 (Zp l).wgt.2
def once_wgt {l:List Sk} (h:yW l≠l):wgt (yW l)<wgt l:=by
 have h1:=(Zp l).wgt.1;have h2:=(Thn.of_sub (Zx (ZE l))).wgt.1;unfold yW at h ⊢;rcases h2 with h2 | h2
 ·rcases h1 with h1 | h1
  ·omega
  ·rw [h1] at h2 ⊢;exact h2
 ·rw [h2] at h ⊢
  rcases h1 with h1 | h1
  ·exact h1
  ·exact absurd h1 h
theorem Zd:∀ (n:Nat) {l:List Sk},(∀ k∈l,WfS k)->∀ k∈yu n l,WfS k
 | 0,l,w=>xM w
 | n+1,l,w=>by
  unfold yu
  split
  ·exact xM w
  ·exact Zd n (xM w)
theorem YO:∀ (n:Nat) (l:List Sk),(yu n l).length<=(yW l).length
 | 0,l=>Nat.le_refl _
 | n+1,l=>by
  unfold yu
  split
  ·exact Nat.le_refl _
  ·exact Nat.le_trans (YO n (yW l)) (Y1 _)
theorem Yd:∀ (n:Nat) (l:List Sk),∃ m,yu n l=yV m
 | 0,l=>⟨_,rfl⟩
 | n+1,l=>by
  unfold yu
  split
  ·exact ⟨_,rfl⟩
  ·exact Yd n (yW l)
end K52
namespace L2
open PySem PySem.Spec PyProof.Rows
def pe_okI0 {X:Cx} {CX:CXT} {k:Nat} {C:Ad} {ps:Jl} {sp:Sp} {E:XK} {x:Str} {p pos:Pos} (h:OkI X.prog X.w X.K X.mg X.base CX k C ps sp) (hm:X.mg x=some (.ref C)) (hr:Room (k+1) X.A) (hg:Gl X x) (hx:xD CX X E) (hdb:(x == ("__debug__":Str))=false:=by decide):PE X (.Call (.Name x p) [] [] pos) (tMake C sp [] E tNil):=by
 obtain ⟨f,fd,a,b,d⟩:=h;exact pe_make0 a d hr hg hm b .nil hx hdb
end L2
namespace K52
open PySem L2
section
variable {P:Program} {w:World} {K:Fg} {mg:J0} {base:Heap} {aS aR aF:Ad}
def Xq (C:Ad) (vs:Jt) (H:Hp) (Q:VK) (_:XK):Prop:=∃ (x dx:Ad),vs=[.ref x]/\H x=some (.ins C dx [])/\∀ H' db dn,Hd (but H [x]) [(x,KnO C dx db dn),(db,.dT []),(dn,.dT [])] H'->Q .non H'
def okI_Known {C:Ad} (d:InitIn K C "Known.__init__" y9 ["self"]) (KC:KnC K C):OkI P w K mg base (CXe P w base) 1 C ["self"] (Xq C):=by
 obtain ⟨f,fd,m,F,bd⟩:=d;refine ⟨f,fd,m,bd,F.okE Xk (by rintro vs H Q E ⟨_,_,e,_⟩;rw [e];rfl) λcdv A outer s H vs Q E hr h=>?_⟩;obtain ⟨x,dx,rfl,hx,q⟩:=h;refine ⟨_,(zd (ps_fld (pv 0) YX rfl)
   (ze (ps_fld (pv 0) YX rfl))),?_⟩
 dsimp only [yh,Cx.nox,Cx.wish];intro p1 n1;have h0:Hd (but H [x]) [(x,.ins C dx [])] H:=Hd.but1 hx;have h1:=h0.fnew (o:=.dT []) n1;refine ⟨_,rfl,x,C,dx,[],rfl,h1.get 0 rfl,KC.c,KC.b,(by show 0<1000;decide),?_⟩;have h2:=h1.fput (o':=.ins C dx [("before",.ref p1)]);intro p2 n2;have h3:=h2.fnew (o:=.dT []) n2;refine ⟨_,rfl,x,C,dx,[("before",.ref p1)],rfl,h3.get 0 rfl,KC.c,KC.n,(by show 1<1000;decide),?_⟩;have h4:=h3.fput (o':=.ins C dx [("before",.ref p1),("numbers",.ref p2)]);exact q _ p1 p2 (h4.perm (List.Perm.cons _ (List.Perm.swap _ _ _)))
def spUK (vs:Jt) (H:Hp) (Q:VK) (_:XK):Prop:=∃ (a:Ad) (xs:Jt) (ks:List Sk),vs=[.ref a]/\H a=some (.lst xs)/\TupL H xs ks/\(∀ k∈ks,WfS k)/\ks.length<80000/\∀ B H' l ys,Same H B->Hd B [(l,.lst ys)] H'->TupL B ys (ZE ks)->Q (.ref l) H'
def zbt {C:Ad} (d:zp K mg "without_known" yB ["strip"]) (hK:mg "Known"=some (.ref C)) (KC:KnC K C) (IK:OkI P w K mg base (CXe P w base) 1 C ["self"] (Xq C)) (NL:Ok P w K mg base CX0 4 "note_laid" ["known","step"] (spNL C)) (WK:Ok P w K mg base CX0 5 "with_known_numbers" ["known","step"] (spWK C)) (NN:Ok P w K mg base CX0 3 "note_number" ["known","step"] (spNN C)):Ok P w K mg base CX0 6 "without_known" ["strip"] spUK:=by
 obtain ⟨g,fd,m,F,bb⟩:=d;refine ⟨g,fd,m,F.kp,bb,F.ok sc_without_known (by rintro vs H Q E ⟨_,_,_,e,_⟩;rw [e];rfl) λcdv A outer s H vs Q E hr h=>?_⟩;obtain ⟨a,xs,ks,rfl,ea,tl,wf,kl,q⟩:=h;have hr5:Room 5 _:=hr;have hr4:Room 4 _:=hr.mono (by decide);have hr3:Room 3 _:=hr.mono (by decide);have hr2:Room 2 _:=hr.mono (by decide);have hu:=Nat.lt_of_le_of_lt (Nat.add_le_add_left (show 1<=64 by decide) _) hr.units;have nd:=sc_without_known.nd;have SZ:(100000:Nat)<sizeLine:=by decide
 refine ⟨_,(zd (zq (i:=1) nd rfl (Or.inl rfl) (pe_okI0 IK hK hr2 (by rfl) passF))
   (zd (zq (i:=2) nd rfl (Or.inl rfl) (zH zc))
   (zd (ym PassesOwn.never rfl (yj (pv 0)) (zV (i:=3) nd rfl (Or.inl rfl)) (ze (zv (zg (op_notInT hu) (pv 3) (xC (pv 1) rfl) rfl) (zd (zG (zw NL hr4 (by rfl) zz (za (pv 1) (za (pv 3) zc))))
   (zd (zq (i:=4) nd rfl (Or.inl rfl) (zw WK hr5 (by rfl) zz (za (pv 1) (za (pv 3) zc))))
   (zd (zG (zw NN hr3 (by rfl) zz (za (pv 1) (za (pv 4) zc))))
   (ze (zG (yZ PySem.F.plainAttrs_list PySem.F.slot_list_append PySem.F.type_list_append zW (pv 2) (za (pv 4) zc))))))) zj)))
   (ze (zk (pv 2)))))),?_⟩
 dsimp only [yh,Cx.nox,Cx.wish];refine λkn dx nk ndx nkd=>⟨kn,dx,rfl,zu,λH1 db dn h1=>⟨rfl,?_⟩⟩
 have sB:Same H (but (upd (upd H dx (.own kn)) kn (.ins C dx [])) [kn]):=λb o e=>by
  have n1:b≠kn:=zT e nk;have n2:b≠dx:=zT e ndx;exact Zb (by rw [zI n1,zI n2];exact e) (by simpa using n1)
 generalize but (upd (upd H dx (.own kn)) kn (.ins C dx [])) [kn]=B0 at h1 sB;have h2:=h1.settle;have s2:=h1.settled;have ekn:upd B0 kn (KnO C dx db dn) kn=some (KnO C dx db dn):=zu;generalize upd B0 kn (KnO C dx db dn)=B1 at h2 s2 ekn;replace s2:=sB.trans s2;refine ⟨szU 0,λl nl=>?_⟩;have h3:Hd B1 [(db,.dT []),(dn,.dT []),(l,.lst [])] (upd H1 l (.lst [])):=(h2.new nl).perm (((List.Perm.swap _ _ _).trans (List.Perm.cons _ (List.Perm.swap _ _ _))));have xl:=Paired.length tl;refine ⟨_,rfl,a,rfl,⟨_,SqL.of (h3.sm _ _ (s2 _ _ ea))⟩,ye (K:=K) (a:=a) (xs:=xs) (λi σ J=>∃ B u4 u5 ys,σ=[rq a,rq kn,rq l,u4,u5]/\Same B1 B/\Hd B [(db,.dT (yX ⟨[],[],[]⟩ (ks.take i)).b),(dn,.dT (yX ⟨[],[],[]⟩ (ks.take i)).n),(l,.lst ys)] J/\TupL B ys (yX ⟨[],[],[]⟩ (ks.take i)).t) ⟨B1,none,none,[],rfl,Same.refl _,h3,.nil⟩ (λi σ J _ ⟨B,_,_,_,_,s,h,_⟩=>SqL.of (h.sm _ _ ((s2.trans s) _ _ ea))) ?_ ?_⟩
 ·rintro i x σ J hi ⟨B,u4,u5,ys,rfl,sB1,h,ty⟩
  obtain ⟨k,ek,tk⟩:=tl.at hi;have wk:=wf k (List.mem_of_getElem? ek);have il:=(List.getElem?_eq_some_iff.mp ek).1;have KI:=kinv0.run (l:=ks.take i) λz m=>wf z (List.mem_of_mem_take m);rw [List.length_take,Nat.min_eq_left (by omega),Nat.zero_add] at KI;rw [List.take_succ,ek,show (some k).toList=[k] from rfl,zb9];generalize yX ⟨[],[],[]⟩ (ks.take i)=S at h ty KI ⊢;have tkB:=tk.same (s2.trans sB1);have eB:=sB1 _ _ ekn;refine ⟨_,rfl,_,rfl,kn,_,_,_,.ref db,rfl,h.sm _ _ eB,KC.c,KC.b,rfl,k,db,S.b,tkB.same h.sm,rfl,h.get 0 rfl,_,rfl,?_⟩
  cases hb:(zK S.b k).isSome with
  | true =>
   have e:S.step k=S:=by unfold Kn.step;rw [if_pos hb]
   rw [e];exact zy ⟨B,_,u5,ys,rfl,sB1,h,ty⟩
  | false =>
   have e:S.step k=⟨xi S.b k,Yg S.n (shorter S.n k),S.t++[shorter S.n k]⟩:=by unfold Kn.step;rw [if_neg (by rw [hb];exact q1z)]
   rw [e]
   have nT:∀ p∈[(dn,HO.dT S.n),(l,HO.lst ys)],∀ zs,p.2≠.tup zs:=λp m zs z=>by
    rcases List.mem_cons.mp m with rfl | m
    ·cases z
    ·cases List.mem_singleton.mp m;cases z
   have yl:=Paired.length ty;have tl1:=KI.tl;have:=KI.bl;have:=KI.nl;refine zC ⟨_,rfl,_,rfl,B,_,kn,dx,db,dn,S.b,x,k,rfl,h,nT,eB,tkB,wk,KI.bw,KI.bn,by omega,λB2 H2 sB2 h2=>?_⟩;have eB2:=sB2 _ _ eB;refine ⟨_,rfl,_,rfl,kn,dx,db,dn,S.n,x,k,rfl,h2.sm _ _ eB2,h2.get 1 rfl,(tkB.same sB2).same h2.sm,wk,KI.no,λH3 u s3 tu=>?_⟩;obtain ⟨B3,sB3,h3,o3⟩:=Hd.over h2 s3
   have nT3:∀ p∈[(db,HO.dT (xi S.b k)),(dn,HO.dT S.n),(l,HO.lst ys)],∀ zs,p.2≠.tup zs:=λp m zs z=>by
    rcases List.mem_cons.mp m with rfl | m
    ·cases z
    ·exact nT p m zs z
   have tu3:=ovT h3 o3 nT3 tu;have h3':=h3.perm (List.Perm.swap _ _ _)
   have nT4:∀ p∈[(db,HO.dT (xi S.b k)),(l,HO.lst ys)],∀ zs,p.2≠.tup zs:=λp m zs z=>by
    rcases List.mem_cons.mp m with rfl | m
    ·cases z
    ·cases List.mem_singleton.mp m;cases z
   refine ⟨_,rfl,_,rfl,B3,_,kn,dx,db,dn,S.n,u,_,rfl,h3',nT4,sB3 _ _ eB2,tu3,wk.shorter KI.no,by omega,λB4 H4 sB4 h4=>?_⟩;have h5:=h4.perm (List.Perm.swap _ _ _);refine ⟨_,rfl,tyL (h5.get 2 rfl),_,rfl,l,ys,u,rfl,rfl,h5.get 2 rfl,by omega,B4,_,_,ys++[u],rfl,sB1.trans (sB2.trans (sB3.trans sB4)),h5.put 2 rfl,?_⟩;exact Paired.snoc (ty.same (sB2.trans (sB3.trans sB4))) (tu3.same sB4)
 ·rintro σ J ⟨B,u4,u5,ys,rfl,sB1,h,ty⟩
  rw [xl,List.take_length] at h ty;exact ⟨_,rfl,q B J l ys (s2.trans sB1) (h.sub (List.sublist_append_right [_,_] _)) ty⟩
def zbr {r:Dk} (h:BlOk r) (t:Sk):(zK r t).getD (.bl false)=.bl (yz r t):=by
 unfold yz
 cases e:zK r t with
 | none=>rfl
 | some v=>obtain ⟨b,rfl⟩:=bl_get h e;rfl
structure DInv (i:Nat) (S:De):Prop where
 b:BlOk S.r
 r:S.r.length<=6*i
 t:S.t.length<=i
def DInv.step {i:Nat} {S:De} (h:DInv i S) (k:Sk):DInv (i+1) (S.step k):=by
 unfold De.step
 split
 ·refine ⟨bl_note h.b k,?_,?_⟩
  ·have:=len_noteS (r:=S.r) (k:=k)
   have:=h.r;show (xE S.r k).length<=_;omega
  ·show (S.t++[k]).length<=_
   rw [Jp];exact Nat.succ_le_succ h.t
 ·exact ⟨h.b,Nat.le_trans h.r (by omega),Nat.le_succ_of_le h.t⟩
def DInv.run {l:List Sk}:∀ {i:Nat} {S:De},DInv i S->DInv (i+l.length) (y0 S l):=by
 induction l with
 | nil=>intro i S h;exact h
 | cons k l ih =>
  intro i S h;have:=ih (h.step k);rw [q2z,Nat.add_comm l.length 1,← Nat.add_assoc];exact this
def dinv0:DInv 0 ⟨[],[]⟩:=⟨(λ_ h=>nomatch h),Nat.le_refl _,Nat.le_refl _⟩
def spUD (vs:Jt) (H:Hp) (Q:VK) (_:XK):Prop:=∃ (a:Ad) (xs:Jt) (ks:List Sk),vs=[.ref a]/\H a=some (.lst xs)/\TupL H xs ks/\(∀ k∈ks,WfS k)/\ks.length<14000/\∀ B H' l ys,Same H B->Hd B [(l,.lst ys)] H'->TupL B ys (yV ks)->Q (.ref l) H'
def ok_undead (d:zp K mg "without_dead" yF ["strip"]) (hrev:mg "reversed"=none) (LBY:Ok P w K mg base CX0 2 "laid_by" ["step"] YL) (MAY:Ok P w K mg base CX0 1 "may_fault" ["step"] spMay) (NS:Ok P w K mg base CX0 3 "note_step" ["read","step","thing"] spNS):Ok P w K mg base CX0 4 "without_dead" ["strip"] spUD:=by
 obtain ⟨g,fd,m,F,bb⟩:=d;refine ⟨g,fd,m,F.kp,bb,F.ok sc_without_dead (by rintro vs H Q E ⟨_,_,_,e,_⟩;rw [e];rfl) λcdv A outer s H vs Q E hr h=>?_⟩;obtain ⟨a,xs,ks,rfl,ea,tl,wf,kl,q⟩:=h;have hr3:Room 3 _:=hr;have hr2:Room 2 _:=hr.mono (by decide);have hr1:Room 1 _:=hr.mono (by decide);have hu:=Nat.lt_of_le_of_lt (Nat.add_le_add_left (show 1<=64 by decide) _) hr.units;have nd:=sc_without_dead.nd;have SZ:(100000:Nat)<sizeLine:=by decide
 refine ⟨_,(zd (zq (i:=1) nd rfl (Or.inl rfl) YX)
   (zd (zq (i:=2) nd rfl (Or.inl rfl) (zH zc))
   (zd (ym PassesOwn.never rfl (pi_rev (by rfl) hrev (pv 0)) (zV (i:=3) nd rfl (Or.inl rfl)) (zd (zq (i:=4) nd rfl (Or.inl rfl) (zw LBY hr2 (by rfl) zz (za (pv 3) zc)))
   (ze (zv (xK (xU (zg Y0 (pv 4) xh (zm _)) (xU (yi (zw MAY hr1 (by rfl) zz (za (pv 3) zc))) (xJ (yi (yI hu (pv 1) (pv 4) yA ⟨rfl,rfl,rfl,rfl⟩))))).pt) (zd (zG (zw NS hr3 (by rfl) zz (za (pv 1) (za (pv 3) (za (pv 4) zc)))))
   (ze (zG (yZ PySem.F.plainAttrs_list PySem.F.slot_list_append PySem.F.type_list_append zW (pv 2) (za (pv 3) zc))))) zj))))
   (zd (zG (pe_bm0 PySem.F.plainAttrs_list PySem.F.slot_list_reverse PySem.F.type_list_reverse zb3 (pv 2)))
   (ze (zk (pv 2))))))),?_⟩
 dsimp only [yh,Cx.nox,Cx.wish];intro r nr;have h1:Hd H [(r,.dT [])] (upd H r (.dT [])):=Hd.base.new nr;refine ⟨szU 0,λl nl=>?_⟩;have h2:=h1.fnew (o:=.lst []) nl;have xl:=Paired.length tl;have tr:=tl.rev;refine ⟨_,rfl,a,xs,rfl,SqL.of (h2.sm _ _ ea),for_rev (K:=K) (a:=a) (xs:=xs) (λi σ J=>∃ B u3 u4 ys,σ=[rq a,rq r,rq l,u3,u4]/\Same H B/\Hd B [(r,.dT (y0 ⟨[],[]⟩ (ks.reverse.take i)).r),(l,.lst ys)] J/\TupL B ys (y0 ⟨[],[]⟩ (ks.reverse.take i)).t) ⟨H,none,none,[],rfl,Same.refl _,h2,.nil⟩ (λi σ J _ ⟨B,_,_,_,_,s,h,_⟩=>SqL.of (h.sm _ _ (s _ _ ea))) ?_ ?_⟩
 ·rintro i x σ J hi ⟨B,u3,u4,ys,rfl,sB,h,ty⟩
  obtain ⟨k,ek,tk⟩:=tr.at hi;have wk:=wf k (List.mem_reverse.mp (List.mem_of_getElem? ek));have il:=(List.getElem?_eq_some_iff.mp ek).1;rw [List.length_reverse] at il;have KI:=dinv0.run (l:=ks.reverse.take i);rw [List.length_take,List.length_reverse,Nat.min_eq_left (by omega),Nat.zero_add] at KI;rw [List.take_succ,ek,show (some k).toList=[k] from rfl,dead_snoc];generalize y0 ⟨[],[]⟩ (ks.reverse.take i)=S at h ty KI ⊢;have tkB:=tk.same sB;refine ⟨_,rfl,x,k,rfl,tkB.same h.sm,wk,λH1 u s1 tu=>?_⟩;obtain ⟨B1,sB1,h1,o1⟩:=Hd.over h s1
  have nT:∀ (r':Dk),∀ p∈[(r,HO.dT r'),(l,HO.lst ys)],∀ zs,p.2≠.tup zs:=λr' p m zs z=>by
   rcases List.mem_cons.mp m with rfl | m
   ·cases z
   ·cases List.mem_singleton.mp m;cases z
  have tu1:Tk B1 u (zA k):=by
   cases hl:zA k with
   | none=>rw [hl] at tu;exact tu
   | some t=>rw [hl] at tu;exact ovT h1 o1 (nT _) tu
  have:=KI.r;have:=KI.t;have yl:=Paired.length ty;refine ⟨λb2 J2=>∃ B2,Same B1 B2/\Hd B2 [(r,.dT S.r),(l,.lst ys)] J2/\b2=stays S.r k,?_,?_⟩
  ·unfold stays
   cases hl:zA k with
   | none =>
    rw [hl] at tu1;cases (show u=.non from tu1);exact ⟨_,rfl,rfl,_,rfl,zC ⟨B1,Same.refl _,h1,rfl⟩⟩
   | some t =>
    rw [hl] at tu1;obtain ⟨bu,rfl,ebu⟩:=(show TupK B1 u t from tu1);refine ⟨_,rfl,rfl,_,rfl,zy ⟨_,rfl,x,k,rfl,(tkB.same sB1).same h1.sm,wk,λH2 s2=>⟨_,rfl,?_⟩⟩⟩;obtain ⟨B2,sB2,h2,o2⟩:=Hd.over h1 s2
    cases hm:mayF k with
    | true=>exact zC ⟨B2,sB2,h2,rfl⟩
    | false =>
     refine zy ⟨_,rfl,r,rfl,.inr ⟨_,.inl (h2.get 0 rfl)⟩,_,rfl,_,DGet.t (h2.get 0 rfl) (h2.sm _ _ (sB2 _ _ ebu)),?_⟩;rw [zbr KI.b];exact ⟨_,rfl,B2,sB2,h2,rfl⟩
  ·rintro b2 J2 ⟨B2,sB2,h2,rfl⟩
   cases hs:stays S.r k with
   | false =>
    have e:S.step k=S:=by unfold De.step;rw [if_neg (by rw [hs];exact q1z)]
    rw [e];exact zy ⟨B2,_,_,ys,rfl,sB.trans (sB1.trans sB2),h2,ty.same (sB1.trans sB2)⟩
   | true =>
    have e:S.step k=⟨xE S.r k,S.t++[k]⟩:=by unfold De.step;rw [if_pos hs]
    rw [e];refine zC ⟨_,rfl,_,rfl,_,rfl,B2,[(l,.lst ys)],r,S.r,x,u,k,rfl,h2,λp m zs z=>by (cases List.mem_singleton.mp m;cases z),tkB.same (sB1.trans sB2),wk,tu1.same sB2,by omega,λB3 H3 sB3 h3=>?_⟩;refine ⟨_,rfl,tyL (h3.get 1 rfl),_,rfl,l,ys,x,rfl,rfl,h3.get 1 rfl,by omega,B3,_,_,ys++[x],rfl,sB.trans (sB1.trans (sB2.trans sB3)),h3.put 1 rfl,?_⟩;exact Paired.snoc (ty.same (sB1.trans (sB2.trans sB3))) (tkB.same (sB1.trans (sB2.trans sB3)))
 ·rintro σ J ⟨B,u3,u4,ys,rfl,sB,h,ty⟩
  rw [xl,← List.length_reverse (as:=ks),List.take_length] at h ty;refine ⟨_,rfl,tyL (h.get 1 rfl),l,ys,rfl,rfl,h.get 1 rfl,_,rfl,q B _ l ys.reverse sB ((h.put 1 rfl).tl) ty.rev⟩
def spSS (vs:Jt) (H:Hp) (Q:VK) (_:XK):Prop:=∃ (a:Ad) (xs:Jt) (ks:List Sk),vs=[.ref a]/\H a=some (.lst xs)/\TupL H xs ks/\(∀ k∈ks,WfS k)/\ks.length<14000/\∀ H' l ys,Same H H'->H' l=some (.lst ys)->H l=none->TupL H' ys (yt ks)->Q (.ref l) H'
def ok_strip (d:zp K mg "strip_shortened" yn ["strip"]) (UK:Ok P w K mg base CX0 6 "without_known" ["strip"] spUK) (UD:Ok P w K mg base CX0 4 "without_dead" ["strip"] spUD):Ok P w K mg base CX0 7 "strip_shortened" ["strip"] spSS:=by
 obtain ⟨g,fd,m,F,bb⟩:=d;refine ⟨g,fd,m,F.kp,bb,F.ok sc_strip_shortened (by rintro vs H Q E ⟨_,_,_,e,_⟩;rw [e];rfl) λcdv A outer s H vs Q E hr h=>?_⟩;obtain ⟨a,xs,ks,rfl,ea,tl,wf,kl,q⟩:=h;have hr6:Room 6 _:=hr;have hr4:Room 4 _:=hr.mono (by decide);have hu64:=hr.units;have nd:=sc_strip_shortened.nd;refine ⟨_,(zd (zq (i:=1) nd rfl (Or.inl rfl) (zw UD hr4 (by rfl) zz (za (zw UK hr6 (by rfl) zz (za (pv 0) zc)) zc)))
   (zd (zav PassesOwn.never (zg (X2 hu64) (pv 1) (pv 0) (zm _)) (zd (zq (i:=0) nd rfl (Or.inl rfl) (pv 1))
   (ze (zq (i:=1) nd rfl (Or.inl rfl) (zw UD hr4 (by rfl) zz (za (zw UK hr6 (by rfl) zz (za (pv 0) zc)) zc))))))
   (ze (zk (pv 1))))),?_⟩
 dsimp only [yh,Cx.nox,Cx.wish];refine ⟨_,rfl,a,xs,ks,rfl,ea,tl,wf,by omega,λB1 H1 l1 ys1 s1 h1 t1=>⟨l1,ys1,_,rfl,h1.get 0 rfl,t1.same h1.sm,Zw wf,Nat.lt_of_le_of_lt (Zp ks).wgt.2 kl,λB2 H2 l2 ys2 s2 h2 t2=>?_⟩⟩;have sH2:Same H H2:=s1.trans (h1.sm.trans (s2.trans h2.sm));have n2:H l2=none:=(s1.trans (h1.sm.trans s2)).free (h2.nw (l2,.lst ys2) q1y);refine ⟨λn σ J=>∃ a xs l ys ss,σ=[rq a,rq l]/\Same H J/\H l=none/\J a=some (.lst xs)/\TupL J xs ss/\J l=some (.lst ys)/\TupL J ys (yW ss)/\(∀ k∈ss,WfS k)/\ss.length<14000/\wgt ss<=n/\yu n ss=yt ks,⟨wgt ks,a,xs,l2,ys2,ks,rfl,sH2,n2,sH2 _ _ ea,tl.same sH2,h2.get 0 rfl,t2.same h2.sm,wf,kl,Nat.le_refl _,rfl⟩,?_⟩;rintro n σ J ⟨a,xs,l,ys,ss,rfl,sJ,nl,eA,tA,eL,tL,wS,lS,wN,eS⟩;refine ⟨_,rfl,_,rfl,l,a,ys,xs,yW ss,ss,rfl,rfl,SqL.of eL,SqL.of eA,tL,tA,λk m=>(xM wS k m).ok,λk m=>(wS k m).ok,_,rfl,?_⟩;by_cases he:yW ss=ss
 ·rw [decide_eq_true he]
  refine zy ⟨_,rfl,q J l ys sJ eL nl ?_⟩
  have e:yu n ss=yW ss:=by
   cases n with
   | zero=>rfl
   | succ n=>unfold yu;rw [if_pos he]
  rw [← eS,e];exact tL
 ·rw [decide_eq_false he]
  have wl:=once_wgt he;obtain ⟨n',rfl⟩:∃ n',n=n'+1:=⟨n-1,by omega⟩;have e:yu (n'+1) ss=yu n' (yW ss):=by show (if yW ss=ss then yW ss else yu n' (yW ss))=_;rw [if_neg he]
  rw [e] at eS;have ol:=Y1 ss;refine zC ⟨λσ J=>∃ a xs l ys ss,σ=[rq a,rq l]/\Same H J/\H l=none/\J a=some (.lst xs)/\TupL J xs ss/\J l=some (.lst ys)/\TupL J ys (yW ss)/\(∀ k∈ss,WfS k)/\ss.length<14000/\wgt ss<=n'/\yu n' ss=yt ks,λσ' J' z=>⟨n',Nat.lt_succ_self _,z⟩,?_⟩;refine ⟨_,rfl,_,rfl,l,ys,yW ss,rfl,eL,tL,xM wS,by omega,λB1 H1 l1 ys1 s1 h1 t1=>⟨l1,ys1,_,rfl,h1.get 0 rfl,t1.same h1.sm,Zw (xM wS),Nat.lt_of_le_of_lt (Zp _).wgt.2 (by omega),λB2 H2 l2 ys2 s2 h2 t2=>?_⟩⟩;have s3:Same J H2:=s1.trans (h1.sm.trans (s2.trans h2.sm));have n3:J l2=none:=(s1.trans (h1.sm.trans s2)).free (h2.nw (l2,.lst ys2) q1y);exact ⟨l,ys,l2,ys2,yW ss,rfl,sJ.trans s3,sJ.free n3,s3 _ _ eL,tL.same s3,h2.get 0 rfl,t2.same h2.sm,xM wS,by omega,by omega,eS⟩
def Okc:Bool->List Sk->Prop
 | _,[]=>True
 | b,k::l=>(∃ w r,k=.inr w::r)/\((b && decide (wd k≠"next"))=true->WfS k)/\Okc ((b && decide (wd k≠"next")) || decide (wd k="begin")) l
def scR (l:List Sk):Sc:=l.foldl Sc.step ⟨[],[],false⟩
def XT (l:List Sk) (k:Sk):scR (l++[k])=(scR l).step k:=by unfold scR;rw [List.foldl_append];rfl
structure SInv (i:Nat) (S:Sc) (rest:List Sk):Prop where
 w:∀ k∈S.strip,WfS k
 n:S.told.length+S.strip.length<=i
 o:Okc S.inr rest
def YN (l:List Sk):(yt l).length<=l.length:=Nat.le_trans (YO _ l) (Y1 l)
def Sc.step_inr (S:Sc) (k:Sk):(S.step k).inr=((S.inr && decide (wd k≠"next")) || decide (wd k="begin")):=by
 unfold Sc.step;by_cases h1:wd k="next"
 ·simp [h1,show ¬ ("next":Str)="begin" by decide]
 ·by_cases h2:wd k="begin"
  ·simp [h1,h2]
  ·cases hi:S.inr <;> simp [h1,h2,hi]
def SInv.step {i:Nat} {S:Sc} {k:Sk} {rest:List Sk} (h:SInv i S (k::rest)):SInv (i+1) (S.step k) rest:=by
 obtain ⟨_,o2,o3⟩:=h.o;refine ⟨?_,?_,by rw [Sc.step_inr];exact o3⟩
 ·unfold Sc.step
  by_cases h1:wd k="next"
  ·have h2:¬ wd k="begin":=by rw [h1];decide
   simp [h1,show ¬ ("next":Str)="begin" by decide]
  ·have:∀ x∈(if S.inr=true then { S with strip:=S.strip++[k] } else { S with told:=S.told++[k] }).strip,WfS x:=by
    split
    ·rename_i hi
     intro x m;rcases List.mem_append.mp m with m | m
     ·exact h.w x m
     ·rw [List.mem_singleton.mp m];exact o2 (by rw [hi];simp [h1])
    ·exact h.w
   simp only [h1,if_false]
   split
   ·exact this
   ·exact this
 ·have hn:=h.n
  have hl:=YN S.strip;unfold Sc.step;by_cases h1:wd k="next"
  ·have h2:¬ wd k="begin":=by rw [h1];decide
   simp [h1,show ¬ ("next":Str)="begin" by decide];omega
  ·simp only [h1,if_false]
   cases hi:S.inr <;> by_cases h2:wd k="begin" <;> simp [h2] <;> omega
theorem sinv {ks:List Sk} (o:Okc false ks):∀ i,i<=ks.length->SInv i (scR (ks.take i)) (ks.drop i)
 | 0,_=>⟨(λ_ h=>nomatch h),Nat.le_refl _,o⟩
 | i+1,h=>by
  have ih:=sinv o i (by omega);have e:ks.drop i=ks[i]::ks.drop (i+1):=List.drop_eq_getElem_cons (by omega);rw [e] at ih;rw [List.take_succ,List.getElem?_eq_getElem (by omega),show (some ks[i]).toList=[ks[i]] from rfl,XT];exact ih.step
def spSh (vs:Jt) (H:Hp) (Q:VK) (_:XK):Prop:=∃ (a:Ad) (xs:Jt) (ks:List Sk),vs=[.ref a]/\H a=some (.lst xs)/\TupL H xs ks/\Okc false ks/\ks.length<14000/\∀ B H' l ys,Same H B->Hd B [(l,.lst ys)] H'->TupL B ys (Z1 ks)->Q (.ref l) H'
def X4 (d:zp K mg "shortened" xp ["code"]) (SS:Ok P w K mg base CX0 7 "strip_shortened" ["strip"] spSS):Ok P w K mg base CX0 8 "shortened" ["code"] spSh:=by
 obtain ⟨g,fd,m,F,bb⟩:=d;refine ⟨g,fd,m,F.kp,bb,F.ok sc_shortened (by rintro vs H Q E ⟨_,_,_,e,_⟩;rw [e];rfl) λcdv A outer s H vs Q E hr h=>?_⟩;obtain ⟨a,xs,ks,rfl,ea,tl,oc,kl,q⟩:=h;have hr7:Room 7 _:=hr;have nd:=sc_shortened.nd;have SZ:(100000:Nat)<sizeLine:=by decide
 refine ⟨_,(zd (zq (i:=1) nd rfl (Or.inl rfl) (zH zc))
   (zd (zq (i:=2) nd rfl (Or.inl rfl) (zH zc))
   (zd (zq (i:=3) nd rfl (Or.inl rfl) yA)
   (zd (ym PassesOwn.never rfl (yj (pv 0)) (zV (i:=4) nd rfl (Or.inl rfl)) (zd (yg (zv (zg zO (zi zn (pv 4) zb (λ_ _=>rfl)) zf (zm _)) (zd (zG (yZ PySem.F.plainAttrs_list PySem.F.slot_list_extend PySem.F.type_list_extend Xu (pv 1) (za (zw SS hr7 (by rfl) zz (za (pv 2) zc)) zc)))
   (zd (zq (i:=2) nd rfl (Or.inl rfl) (zH zc))
   (ze (zq (i:=3) nd rfl (Or.inl rfl) yA)))) zj))
   (zd (yg (zv (yi (pv 3)) (ze (zG (yZ PySem.F.plainAttrs_list PySem.F.slot_list_append PySem.F.type_list_append zW (pv 2) (za (pv 4) zc)))) (ze (zG (yZ PySem.F.plainAttrs_list PySem.F.slot_list_append PySem.F.type_list_append zW (pv 1) (za (pv 4) zc))))))
   (ze (zv (zg zO (zi zn (pv 4) zb (λ_ _=>rfl)) zf (zm _)) (ze (zq (i:=3) nd rfl (Or.inl rfl) yA)) zj)))))
   (ze (zk (pv 1))))))),?_⟩
 dsimp only [yh,Cx.nox,Cx.wish];refine ⟨szU 0,λl nl=>⟨szU 0,λst nst=>?_⟩⟩;have h0:Hd H [(l,.lst []),(st,.lst [])] (upd (upd H l (.lst [])) st (.lst [])):=(Hd.base.new nl).fnew nst;have xl:=Paired.length tl;refine ⟨_,rfl,a,rfl,⟨_,SqL.of (h0.sm _ _ ea)⟩,ye (K:=K) (a:=a) (xs:=xs) (λi σ J=>∃ B st ys zs u,σ=[some (.ref a),some (.ref l),some (.ref st),some (.bl (scR (ks.take i)).inr),u]/\Same H B/\Hd B [(l,.lst ys),(st,.lst zs)] J/\TupL B ys (scR (ks.take i)).told/\TupL B zs (scR (ks.take i)).strip) ⟨H,st,[],[],none,rfl,Same.refl _,h0,.nil,.nil⟩ (λi σ J _ ⟨B,_,_,_,_,_,s,h,_⟩=>SqL.of (h.sm _ _ (s _ _ ea))) ?_ ?_⟩
 ·rintro i x σ J hi ⟨B,st,ys,zs,u,rfl,sB,h,ty,tz⟩
  obtain ⟨k,ek,tk⟩:=tl.at hi;have il:=(List.getElem?_eq_some_iff.mp ek).1;have SI:=sinv oc i (by omega)
  have e:ks.drop i=k::ks.drop (i+1):=by
   rw [List.drop_eq_getElem_cons il];have:=List.getElem?_eq_getElem il;rw [ek] at this;rw [← Option.some.inj this]
  rw [e] at SI;obtain ⟨w0,r0,e0⟩:=SI.o.1;have a0:kV (at0 k 0)=.str (wd k):=by rw [e0];rfl
  have p0:0<k.length:=by rw [e0];exact Nat.succ_pos _
  have tkB:=tk.same sB;rw [List.take_succ,ek,show (some k).toList=[k] from rfl,XT];generalize scR (ks.take i)=S at h ty tz SI ⊢;have yl:=Paired.length ty;have zl:=Paired.length tz;have sn:=SI.n;have sl:=YN S.strip;let S1:Sc:=if wd k="next" then ⟨S.told++yt S.strip,[],false⟩ else S
  have S1n:S1.told.length+S1.strip.length<=i:=by
   show (if wd k="next" then (⟨S.told++yt S.strip,[],false⟩:Sc) else S).told.length+(if wd k="next" then (⟨S.told++yt S.strip,[],false⟩:Sc) else S).strip.length<=i
   split
   ·rw [Jp];show _+0<=_;omega
   ·exact sn
  refine ⟨λσ J=>∃ B st ys zs,σ=[some (.ref a),some (.ref l),some (.ref st),some (.bl S1.inr),some x]/\Same H B/\Hd B [(l,.lst ys),(st,.lst zs)] J/\TupL B ys S1.told/\TupL B zs S1.strip,?_,?_⟩
  ·refine ⟨_,rfl,tix (tkB.same h.sm) 0 p0 ?_⟩
   rw [a0];refine ⟨rfl,_,rfl,?_⟩;rw [eqS];by_cases hn:wd k="next"
   ·rw [decide_eq_true hn]
    have e1:S1=⟨S.told++yt S.strip,[],false⟩:=if_pos hn;rw [e1];refine zC ⟨_,rfl,tyL (h.get 0 rfl),_,rfl,st,zs,S.strip,rfl,h.get 1 rfl,tz.same h.sm,SI.w,by omega,λH1 l2 ys2 s1 el2 nl2 t2=>?_⟩;obtain ⟨B1,sB1,h1,o1⟩:=Hd.over h s1
    have nT:∀ p∈[(l,HO.lst ys),(st,HO.lst zs)],∀ xs,p.2≠.tup xs:=λp m xs z=>by
     rcases List.mem_cons.mp m with rfl | m
     ·cases z
     ·cases List.mem_singleton.mp m;cases z
    have t2B:=ovL h1 o1 nT t2;have yl2:=Paired.length t2B;refine ⟨l,l2,ys,ys2,rfl,rfl,h1.get 0 rfl,el2,by omega,?_⟩;have h2:=h1.fput (o':=.lst (ys++ys2));refine ⟨szU 0,λst2 n2=>?_⟩;have h3:=h2.fnew (o:=.lst []) n2;exact ⟨B1,st2,ys++ys2,[],rfl,sB.trans sB1,h3.sub (List.Sublist.cons_cons _ (List.Sublist.cons_cons _ (List.nil_sublist _))),(ty.same sB1).app t2B,.nil⟩
   ·rw [decide_eq_false hn]
    have e1:S1=S:=if_neg hn;rw [e1];exact zy ⟨B,st,ys,zs,rfl,sB,h,ty,tz⟩
  have eS:S.step k=(let s2:Sc:=if S1.inr=true then { S1 with strip:=S1.strip++[k] } else { S1 with told:=S1.told++[k] }
   if wd k="begin" then { s2 with inr:=true } else s2):=rfl
  rw [eS];clear eS ty tz h yl zl sn sl;generalize S1=S1 at S1n ⊢;clear SI sB tkB;rintro σ J ⟨B,st,ys,zs,rfl,sB,h,ty,tz⟩;have tkB:=tk.same sB;have yl:=Paired.length ty;have zl:=Paired.length tz;let S2:Sc:=if S1.inr=true then { S1 with strip:=S1.strip++[k] } else { S1 with told:=S1.told++[k] };have e2:S2.inr=S1.inr:=by show (if S1.inr=true then ({ S1 with strip:=S1.strip++[k] }:Sc) else { S1 with told:=S1.told++[k] }).inr=_;split <;> rfl
  refine ⟨λσ J=>∃ B ys zs,σ=[some (.ref a),some (.ref l),some (.ref st),some (.bl S2.inr),some x]/\Same H B/\Hd B [(l,.lst ys),(st,.lst zs)] J/\TupL B ys S2.told/\TupL B zs S2.strip,?_,?_⟩
  ·refine ⟨_,rfl,_,rfl,?_⟩
   rw [e2]
   cases hi:S1.inr with
   | true =>
    have e3:S2={ S1 with strip:=S1.strip++[k] }:=by show (if S1.inr=true then ({ S1 with strip:=S1.strip++[k] }:Sc) else { S1 with told:=S1.told++[k] })=_;rw [if_pos hi]
    rw [e3];refine zC ⟨_,rfl,tyL (h.get 1 rfl),_,rfl,st,zs,x,rfl,rfl,h.get 1 rfl,by omega,B,ys,zs++[x],rfl,sB,h.put 1 rfl,ty,Paired.snoc tz tkB⟩
   | false =>
    have e3:S2={ S1 with told:=S1.told++[k] }:=by show (if S1.inr=true then ({ S1 with strip:=S1.strip++[k] }:Sc) else { S1 with told:=S1.told++[k] })=_;rw [if_neg (by rw [hi];exact q1z)]
    rw [e3];refine zy ⟨_,rfl,tyL (h.get 0 rfl),_,rfl,l,ys,x,rfl,rfl,h.get 0 rfl,by omega,B,ys++[x],zs,rfl,sB,h.fput,Paired.snoc ty tkB,tz⟩
  show ∀ σ' H',_->_;clear ty tz h yl zl;have eS2:(let s2:Sc:=if S1.inr=true then { S1 with strip:=S1.strip++[k] } else { S1 with told:=S1.told++[k] }
   if wd k="begin" then { s2 with inr:=true } else s2)=if wd k="begin" then { S2 with inr:=true } else S2:=rfl
  rw [eS2];clear eS2 e2;generalize S2=S2 at *;clear sB tkB;rintro σ J ⟨B,ys,zs,rfl,sB,h,ty,tz⟩;refine ⟨_,rfl,tix ((tk.same sB).same h.sm) 0 p0 ?_⟩;rw [a0];refine ⟨rfl,_,rfl,?_⟩;rw [eqS];by_cases hb:wd k="begin"
  ·rw [decide_eq_true hb,if_pos hb]
   exact zC ⟨B,st,ys,zs,_,rfl,sB,h,ty,tz⟩
  ·rw [decide_eq_false hb,if_neg hb]
   exact zy ⟨B,st,ys,zs,_,rfl,sB,h,ty,tz⟩
 ·rintro σ J ⟨B,st,ys,zs,u,rfl,sB,h,ty,tz⟩
  rw [xl,List.take_length] at ty;exact ⟨_,rfl,q B J l ys sB (h.sub (List.sublist_append_left [_] _)) ty⟩
end
abbrev Di:=Jr
def DiOk (n:Nat) (d:Di):Prop:=∀ p∈d,∃ i:Int,p.2=.int i/\0<=i/\i<n
structure BS where
 se:Di
 sl:Di
 ma:Di
 pa:Jh
 mt:Di
 co:List Sk
structure BOk (n:Nat) (S:BS):Prop where
 se:DiOk S.pa.length S.se
 sl:DiOk S.pa.length S.sl
 ma:DiOk S.pa.length S.ma
 mt:DiOk S.pa.length S.mt
 ki:∀ p∈S.ma,∃ j,p.1=.inl j
 m0:(zK S.ma (.inl 0)).isSome=true
 p1:0<S.pa.length
 pa:∀ (i:Nat) v,S.pa[i]?=some v->-1<=v/\v<i
 co:∀ k∈S.co,WfS k
 ci:∀ k∈S.co,(wd k="choose"∨wd k="other")->∃ j,at0 k 1=.inl j
 sc:S.se.length<=S.co.length
 n1:S.se.length<=n
 n2:S.sl.length<=n
 n3:S.ma.length<=n+1
 n4:S.pa.length<=n+1
 n5:S.mt.length<=2*n
 n6:S.co.length<=n
structure BA where
 st:Ad
 se:Ad
 sl:Ad
 ma:Ad
 pa:Ad
 mt:Ad
 co:Ad
def BA.top (A:BA):HO:=.dK [(.inr "seats",.ref A.se),(.inr "slots",.ref A.sl),(.inr "masks",.ref A.ma),(.inr "parents",.ref A.pa),(.inr "mates",.ref A.mt),(.inr "code",.ref A.co)]
def BA.objs (A:BA) (S:BS) (xs:Jt):Js:=[(A.se,.dK S.se),(A.sl,.dK S.sl),(A.ma,.dK S.ma),(A.pa,.lst (S.pa.map V.int)),(A.mt,.dK S.mt),(A.co,.lst xs)]
structure StAt (n:Nat) (B:Hp) (A:BA) (S:BS) (xs:Jt) (H:Hp):Prop where
 t:B A.st=some A.top
 h:Hd B (A.objs S xs) H
 x:TupL B xs S.co
 o:BOk n S
def di_get {n:Nat} {d:Di} (h:DiOk n d) {k:Key} {v:V} (e:zK d k=some v):∃ i:Int,v=.int i/\0<=i/\i<n:=by
 unfold zK at e;obtain ⟨p,f,rfl⟩:=Option.map_eq_some_iff.mp e;exact h p (List.mem_of_find?_eq_some f)
def Xb {n:Nat} {d:Di} (h:DiOk n d) {k:Key} {i:Int} (h0:0<=i) (h1:i<n):DiOk n (zP d k (.int i)):=by
 intro p m;unfold zP at m
 split at m
 ·obtain ⟨q,m,e⟩:=List.mem_map.mp m
  split at e
  ·exact ⟨i,by rw [← e],h0,h1⟩
  ·exact h p (e ▸ m)
 ·rcases List.mem_append.mp m with m | m
  ·exact h p m
  ·exact ⟨i,by rw [List.mem_singleton.mp m],h0,h1⟩
def di_up {n n':Nat} {d:Di} (h:DiOk n d) (l:n<=n'):DiOk n' d:=λp m=>by
 obtain ⟨i,e,h0,h1⟩:=h p m;exact ⟨i,e,h0,by omega⟩
def xz {n:Nat} {d:Di} (h:DiOk n d) (k:Key) (z:Int):∃ i:Int,(zK d k).getD (.int z)=.int i/\((zK d k).isSome=true/\0<=i/\i<n∨zK d k=none/\i=z):=by
 cases e:zK d k with
 | none=>exact ⟨z,rfl,.inr ⟨rfl,rfl⟩⟩
 | some v =>
  obtain ⟨i,rfl,h0,h1⟩:=di_get h e;exact ⟨i,rfl,.inl ⟨rfl,h0,h1⟩⟩
section
variable {P:Program} {w:World} {K:Fg} {mg:J0} {base:Heap} {aS aR aF:Ad}
def zX {H:Hp} {A:BA} {Q:V->Hp->Prop} (e:H A.st=some A.top) {s:Str} {v:V} (hv:zK [((.inr "seats":Key),V.ref A.se),(.inr "slots",.ref A.sl),(.inr "masks",.ref A.ma),(.inr "parents",.ref A.pa),(.inr "mates",.ref A.mt),(.inr "code",.ref A.co)] (.inr s)=some v):DGet H A.st (.str s) (some v):=by
 rw [← hv];exact DGet.k (k:=.inr s) e
def spUn (vs:Jt) (H:Hp) (Q:VK) (_:XK):Prop:=∃ (n:Nat) (B:Hp) (A:BA) (S:BS) (xs:Jt) (i o:Int),vs=[.ref A.st,.int i,.int o]/\StAt n B A S xs H/\-1<=i/\i<S.pa.length/\∀ b:Bool,(b=true->-1<=o)->Q (.bl b) H
def ok_under (d:zp K mg "_law_under" Zg ["_law_state","_law_inner","_law_outer"]):Ok P w K mg base CX0 1 "_law_under" ["_law_state","_law_inner","_law_outer"] spUn:=by
 obtain ⟨g,fd,m,F,bb⟩:=d;refine ⟨g,fd,m,F.kp,bb,F.ok sc_l_under (by rintro vs H Q E ⟨_,_,_,_,_,_,_,e,_⟩;rw [e];rfl) λcdv A outer s H vs Q E hr h=>?_⟩;obtain ⟨n,B,A,S,xs,i,o,rfl,st,i0,i1,q⟩:=h;have hu:=Nat.lt_of_le_of_lt (Nat.add_le_add_left (show 1<=64 by decide) _) hr.units;have nd:=sc_l_under.nd;refine ⟨_,(zd (zav PassesOwn.never (xV (zg op_ne (pv 1) (yo z4 zb) (zm _)) (Zm (zg op_ne (pv 1) (pv 2) (zm _)))).pt (ze (zq (i:=1) nd rfl (Or.inl rfl) (zi zx (zL hu (pv 0) zf (λ_ _=>rfl)) (pv 1) (λ_ _=>rfl)))))
   (ze (zk (z9 zO (pv 1) (pv 2) (zm _))))),?_⟩
 dsimp only [yh,Cx.nox,Cx.wish];refine ⟨λm σ J=>∃ i:Int,σ=[rq A.st,iq i,iq o]/\J=H/\-1<=i/\i<S.pa.length/\m=(i+1).toNat,⟨_,i,rfl,rfl,i0,i1,rfl⟩,?_⟩;rintro m σ J ⟨i,rfl,rfl,i0,i1,rfl⟩;have fin:Q (.bl (decide (i=o))) J:=q _ λz=>by have:=of_decide_eq_true z;omega
 have ei:∀ a b:Int,decide (V.int a=V.int b)=decide (a=b):=λa b=>decide_eq_decide.mpr ⟨V.int.inj,λh=>by rw [h]⟩;refine ⟨_,rfl,_,rfl,rfl,_,rfl,?_⟩;rw [ei];by_cases h1:i=-1
 ·rw [decide_eq_true h1]
  refine zy (zy ⟨_,rfl,_,rfl,rfl,?_⟩);rw [ei];exact fin
 ·rw [decide_eq_false h1]
  refine zC ⟨_,rfl,_,rfl,rfl,_,rfl,?_⟩;rw [ei];by_cases h2:i=o
  ·rw [decide_eq_true h2]
   refine zy ⟨_,rfl,_,rfl,rfl,?_⟩;rw [ei];exact fin
  ·rw [decide_eq_false h2]
   obtain ⟨j,rfl⟩:∃ j:Nat,i=j:=⟨i.toNat,by omega⟩;have jl:j<S.pa.length:=by omega
   obtain ⟨p0,p1⟩:=st.o.pa j S.pa[j] (List.getElem?_eq_getElem jl);refine zC ⟨λσ J'=>∃ i:Int,σ=[rq A.st,iq i,iq o]/\J'=J/\-1<=i/\i<S.pa.length/\(i+1).toNat<((j:Int)+1).toNat,λσ' J' ⟨i,a,b,c,d,e⟩=>⟨_,e,i,a,b,c,d,rfl⟩,?_⟩;refine ⟨_,rfl,A.st,_,rfl,zX (Q:=Q) (st.h.sm _ _ st.t) rfl,_,rfl,A.pa,_,_,_,rfl,rfl,st.h.lst 3 rfl,zM (j:=j) (by rw [List.getElem?_map,List.getElem?_eq_getElem jl];rfl),S.pa[j],rfl,rfl,p0,by omega,by omega⟩
end
def zac (A:BA) (S:BS) (xs:Jt):∀ p∈A.objs S xs,∀ zs,p.2≠.tup zs:=λp m zs z=>by
 simp only [BA.objs,List.mem_cons,List.not_mem_nil,or_false] at m;rcases m with rfl | rfl | rfl | rfl | rfl | rfl <;> cases z
def StAt.over {n:Nat} {B:Hp} {A:BA} {S:BS} {xs:Jt} {H H':Hp} (st:StAt n B A S xs H) (s:Same H H'):∃ B',Same B B'/\StAt n B' A S xs H'/\(∀ a o,H' a=some o->a ∉ (A.objs S xs).map Prod.fst->B' a=some o):=by
 obtain ⟨B',s',h',o'⟩:=Hd.over st.h s;exact ⟨B',s',⟨s' _ _ st.t,h',st.x.same s',st.o⟩,o'⟩
def eqI {a b:Int}:decide (V.int a=V.int b)=decide (a=b):=decide_eq_decide.mpr ⟨V.int.inj,λh=>by rw [h]⟩
def Yk:List (Str×Nat):=z7++([("begin",3),("next",1)]:List (Str×Nat))
structure WfC (k:Sk):Prop where
 w:∃ w r,k=.inr w::r/\(w,k.length)∈Yk
 ok:k.all kOk=true
def WfS.c {k:Sk} (h:WfS k):WfC k:=by
 obtain ⟨w,r,e,m⟩:=h.w;exact ⟨⟨w,r,e,List.mem_append_left _ m⟩,h.ok⟩
def WfC.len {k:Sk} (h:WfC k):(wd k,k.length)∈Yk:=by
 obtain ⟨w,r,e,m⟩:=h.w;rw [e] at m ⊢;exact m
def WfC.pos {k:Sk} (h:WfC k):0<k.length:=by
 obtain ⟨w,r,rfl,_⟩:=h.w;exact Nat.succ_pos _
def WfC.at0 {k:Sk} (h:WfC k):kV (K52.at0 k 0)=.str (wd k):=by
 obtain ⟨w,r,rfl,_⟩:=h.w;rfl
def sa1:∀ p∈Yk,p.1∈(["reach","any"]:Jl)->(zQ p.1).getD []=[1]:=by decide
def sa2:∀ p∈Yk,p.1∈(["gather","copy","save","choose","other","store"]:Jl)->(zQ p.1).getD []=[2]:=by decide
def sa3:∀ p∈Yk,p.1∈(["fold","running"]:Jl)->(zQ p.1).getD []=[3]:=by decide
def sa4:∀ p∈Yk,p.1∈(["pick","put"]:Jl)->(zQ p.1).getD []=[2,3]:=by decide
def sa5:∀ p∈Yk,p.1="op"->(zQ p.1).getD []=[3,4]:=by decide
def sa6:∀ p∈Yk,¬ p.1∈(["reach","any"]:Jl)->¬ p.1∈(["gather","copy","save","choose","other","store"]:Jl)->¬ p.1∈(["fold","running"]:Jl)->¬ p.1∈(["pick","put"]:Jl)->¬ p.1="op"->(zQ p.1).getD []=[]:=by decide
section
variable {P:Program} {w:World} {K:Fg} {mg:J0} {base:Heap} {aS aR aF:Ad}
def spLS (vs:Jt) (H:Hp) (Q:VK) (_:XK):Prop:=∃ (v:V) (k:Sk),vs=[v]/\TupK H v k/\WfC k/\∀ H',Same H H'->Q (.bl (zS (wd k))) H'
def ok_llays (d:zp K mg "_law_lays_seat" yR ["_law_step"]):Ok P w K mg base CX0 1 "_law_lays_seat" ["_law_step"] spLS:=by
 obtain ⟨g,fd,m,F,b⟩:=d;refine ⟨g,fd,m,F.kp,b,F.ok YS (by rintro vs H Q E ⟨_,_,e,_⟩;rw [e];rfl) λcdv A outer s H vs Q E hr h=>?_⟩;obtain ⟨v,k,rfl,t,wf,q⟩:=h;refine ⟨_,(ze (zk (z9 zN (zi zn (pv 0) zb (λ_ _=>rfl)) (zt (Xr rfl)) rfl))),?_⟩;dsimp only [yh,Cx.nox,Cx.wish];refine ⟨_,rfl,tix t 0 wf.pos ?_⟩;rw [wf.at0];refine ⟨szU 10,λp np=>⟨p,_,rfl,.inr (SqT.of zu),rfl,rfl,?_⟩⟩
 have e:inV (V.str (wd k)) (laysL.map V.str)=zS (wd k):=by
  rw [zZ];unfold zS;rw [Bool.eq_iff_iff];simp
 show Q (V.bl (inV (V.str (wd k)) (laysL.map V.str))) _;rw [e];exact q _ (zU (Same.refl _) np)
def spSA (vs:Jt) (H:Hp) (Q:VK) (_:XK):Prop:=∃ (v:V) (k:Sk),vs=[v]/\TupK H v k/\WfC k/\∀ H' H1 l,Same H H1->H1 l=none->H'=upd H1 l (.lst (((zQ (wd k)).getD []).map λi:Nat=>V.int i))->Q (.ref l) H'
def za0 (d:zp K mg "_law_seats_at" y8 ["_law_step"]):Ok P w K mg base CX0 1 "_law_seats_at" ["_law_step"] spSA:=by
 obtain ⟨g,fd,m,F,b⟩:=d;refine ⟨g,fd,m,F.kp,b,F.ok sc_l_seats_at (by rintro vs H Q E ⟨_,_,e,_⟩;rw [e];rfl) λcdv A outer s H vs Q E hr h=>?_⟩;obtain ⟨v,k,rfl,t,wf,q⟩:=h;have nd:=sc_l_seats_at.nd;have wl:=wf.len;refine ⟨_,(zd (zq (i:=1) nd rfl (Or.inl rfl) (zi zn (pv 0) zb (λ_ _=>rfl)))
   (zd (zv (zg zN (pv 1) (zt (za zf (za zf zc))) rfl) (ze (zk (zH (za zb zc)))) zj)
   (zd (zv (zg zN (pv 1) (zt (Xr rfl)) rfl) (ze (zk (zH (za zb zc)))) zj)
   (zd (zv (zg zN (pv 1) (zt (za zf (za zf zc))) rfl) (ze (zk (zH (za zb zc)))) zj)
   (zd (zv (zg zN (pv 1) (zt (za zf (za zf zc))) rfl) (ze (zk (zH (za zb (za zb zc))))) zj)
   (zd (zv (zg zO (pv 1) zf (zm _)) (ze (zk (zH (za zb (za zb zc))))) zj)
   (ze (zk (zH zc))))))))),?_⟩
 dsimp only [yh,Cx.nox,Cx.wish];refine ⟨_,rfl,tix t 0 wf.pos ?_⟩;rw [wf.at0];refine ⟨_,rfl,szU 2,λp1 n1=>⟨p1,_,rfl,.inr (SqT.of zu),rfl,rfl,_,rfl,?_⟩⟩;have s1:=zU (o:=.tup [V.str "reach",V.str "any"]) (Same.refl H) n1;generalize upd H p1 (.tup [V.str "reach",V.str "any"])=H1 at s1 ⊢;rw [show ([V.str "reach",V.str "any"]:Jt)=(["reach","any"]:Jl).map V.str from rfl,zZ];by_cases c1:wd k∈(["reach","any"]:Jl)
 ·rw [decide_eq_true c1]
  rw [sa1 _ wl c1] at q;exact zC ⟨szU 1,λl nl=>q _ _ l s1 nl rfl⟩
 rw [decide_eq_false c1];refine zy ⟨_,rfl,szU 6,λp2 n2=>⟨p2,_,rfl,.inr (SqT.of zu),rfl,rfl,_,rfl,?_⟩⟩;generalize hX:upd _ _ _=H2;obtain ⟨s2,_⟩:=yr hX n2;replace s2:=s1.trans s2;clear hX;have e2:inV (V.str (wd k)) ((["gather","copy","save","choose","other","store"]:Jl).map V.str)=decide (wd k∈(["gather","copy","save","choose","other","store"]:Jl)):=zZ _ _;show if inV (V.str (wd k)) ((["gather","copy","save","choose","other","store"]:Jl).map V.str)=true then _ else _;rw [e2];by_cases c2:wd k∈(["gather","copy","save","choose","other","store"]:Jl)
 ·rw [decide_eq_true c2]
  rw [sa2 _ wl c2] at q;exact zC ⟨szU 1,λl nl=>q _ _ l s2 nl rfl⟩
 rw [decide_eq_false c2];refine zy ⟨_,rfl,szU 2,λp3 n3=>⟨p3,_,rfl,.inr (SqT.of zu),rfl,rfl,_,rfl,?_⟩⟩;generalize hX:upd _ _ _=H3;obtain ⟨s3,_⟩:=yr hX n3;replace s3:=s2.trans s3;clear hX;rw [show ([V.str "fold",V.str "running"]:Jt)=(["fold","running"]:Jl).map V.str from rfl,zZ];by_cases c3:wd k∈(["fold","running"]:Jl)
 ·rw [decide_eq_true c3]
  rw [sa3 _ wl c3] at q;exact zC ⟨szU 1,λl nl=>q _ _ l s3 nl rfl⟩
 rw [decide_eq_false c3];refine zy ⟨_,rfl,szU 2,λp4 n4=>⟨p4,_,rfl,.inr (SqT.of zu),rfl,rfl,_,rfl,?_⟩⟩;generalize hX:upd _ _ _=H4;obtain ⟨s4,_⟩:=yr hX n4;replace s4:=s3.trans s4;clear hX;rw [show ([V.str "pick",V.str "put"]:Jt)=(["pick","put"]:Jl).map V.str from rfl,zZ];by_cases c4:wd k∈(["pick","put"]:Jl)
 ·rw [decide_eq_true c4]
  rw [sa4 _ wl c4] at q;exact zC ⟨szU 2,λl nl=>q _ _ l s4 nl rfl⟩
 rw [decide_eq_false c4];refine zy ⟨_,rfl,rfl,_,rfl,?_⟩;rw [eqS];by_cases c5:wd k="op"
 ·rw [decide_eq_true c5]
  rw [sa5 _ wl c5] at q;exact zC ⟨szU 2,λl nl=>q _ _ l s4 nl rfl⟩
 rw [decide_eq_false c5];rw [sa6 _ wl c1 c2 c3 c4 c5] at q;exact zy ⟨szU 0,λl nl=>q _ _ l s4 nl rfl⟩
def spPG (vs:Jt) (H:Hp) (Q:VK) (_:XK):Prop:=∃ (n:Nat) (B:Hp) (A:BA) (S:BS) (xs:Jt) (v:V) (k:Sk) (c:Int),vs=[.ref A.st,v,.int c]/\StAt n B A S xs H/\TupK H v k/\k.length=6/\0<=c/\c<S.pa.length/\∀ b:Bool,Q (.bl b) H
def X7 (d:zp K mg "_law_pick_good" yQ ["_law_state","_law_step","_law_content"]) (UN:Ok P w K mg base CX0 1 "_law_under" ["_law_state","_law_inner","_law_outer"] spUn):Ok P w K mg base CX0 2 "_law_pick_good" ["_law_state","_law_step","_law_content"] spPG:=by
 obtain ⟨g,fd,m,F,bb⟩:=d;refine ⟨g,fd,m,F.kp,bb,F.ok sc_l_pick_good (by rintro vs H Q E ⟨_,_,_,_,_,_,_,_,e,_⟩;rw [e];rfl) λcdv A outer s H vs Q E hr h=>?_⟩;obtain ⟨n,B,A,S,xs,v,k,c,rfl,st,t,k6,c0,c1,q⟩:=h;have hr1:Room 1 _:=hr;have hu:=Nat.lt_of_le_of_lt (Nat.add_le_add_left (show 1<=64 by decide) _) hr.units;have nd:=sc_l_pick_good.nd;have et:=st.h.sm _ _ st.t;refine ⟨_,(zd (zq (i:=3) nd rfl (Or.inl rfl) (yI hu (zL hu (pv 0) zf (λ_ _=>rfl)) (zi zn (pv 1) zb (λ_ _=>rfl)) (yo z4 zb) ⟨rfl,rfl,rfl,rfl⟩))
   (zd (zv (zg Yf (pv 3) zb (zm _)) (ze (zk yA)) zj)
   (zd (zq (i:=4) nd rfl (Or.inl rfl) (yI hu (zL hu (pv 0) zf (λ_ _=>rfl)) (zi zn (pv 1) zb (λ_ _=>rfl)) (yo z4 zb) ⟨rfl,rfl,rfl,rfl⟩))
   (zd (zq (i:=5) nd rfl (Or.inl rfl) (yI hu (zL hu (pv 0) zf (λ_ _=>rfl)) (zi zn (pv 1) zb (λ_ _=>rfl)) (yo z4 zb) ⟨rfl,rfl,rfl,rfl⟩))
   (zd (yg (zq (i:=6) nd rfl (Or.inl rfl) (pe_or (zw UN hr1 (by rfl) zz (za (pv 0) (za (pv 2) (za (pv 4) zc)))) (xL (zw UN hr1 (by rfl) zz (za (pv 0) (za (pv 3) (za (pv 4) zc))))))))
   (zd (yg (zv (YV (yi (zw UN hr1 (by rfl) zz (za (pv 0) (za (pv 2) (za (pv 5) zc)))))) (zd (zq (i:=7) nd rfl (Or.inl rfl) (yI hu (zL hu (pv 0) zf (λ_ _=>rfl)) (pv 3) (yo z4 zb) ⟨rfl,rfl,rfl,rfl⟩))
   (ze (zq (i:=6) nd rfl (Or.inl rfl) (Z3 (pv 6) (Z3 (z9 op_ge (pv 7) zb (zm _)) (Z3 (z9 zO (zi zx (zL hu (pv 0) zf (λ_ _=>rfl)) (pv 3) (λ_ _=>rfl)) (pv 2) (zm _)) (xL (zw UN hr1 (by rfl) zz (za (pv 0) (za (pv 7) (za (pv 5) zc))))))))))) zj))
   (ze (zk (pv 6))))))))),?_⟩
 dsimp only [yh,Cx.nox,Cx.wish];obtain ⟨ch,ech,hch⟩:=xz st.o.ma (at0 k 4) (-1);refine ⟨_,rfl,A.st,_,rfl,zX (Q:=Q) et rfl,A.ma,rfl,.inl ⟨_,.inl (st.h.get 2 rfl)⟩,_,rfl,tix t 4 (by show 4<k.length;omega) ⟨_,rfl,_,DGet.k (k:=at0 k 4) (st.h.get 2 rfl),?_⟩⟩;rw [ech];refine ⟨_,rfl,_,_,rfl,rfl,_,rfl,xN (λz=>q false) (λz=>?_)⟩;have z:¬ ch<0:=by simpa using z
 obtain ⟨h0,h1⟩:0<=ch/\ch<S.pa.length:=by
  rcases hch with ⟨_,a,b⟩ | ⟨_,rfl⟩
  ·exact ⟨a,b⟩
  ·omega
 obtain ⟨one,eone,_⟩:=xz st.o.se (at0 k 2) (-2);obtain ⟨two,etwo,_⟩:=xz st.o.se (at0 k 3) (-2);refine ⟨_,rfl,A.st,_,rfl,zX (Q:=Q) et rfl,A.se,rfl,.inl ⟨_,.inl (st.h.get 0 rfl)⟩,_,rfl,tix t 2 (by show 2<k.length;omega) ⟨_,rfl,_,DGet.k (k:=at0 k 2) (st.h.get 0 rfl),?_⟩⟩;rw [eone];refine ⟨_,rfl,A.st,_,rfl,zX (Q:=Q) et rfl,A.se,rfl,.inl ⟨_,.inl (st.h.get 0 rfl)⟩,_,rfl,tix t 3 (by show 3<k.length;omega) ⟨_,rfl,_,DGet.k (k:=at0 k 3) (st.h.get 0 rfl),?_⟩⟩;rw [etwo];refine ⟨λσ J=>J=H/\∃ b:Bool,σ=[some (.ref A.st),some v,some (.int c),some (.int ch),some (.int one),some (.int two),some (.bl b),none],?_,?_⟩
 ·refine ⟨_,rfl,_,rfl,_,rfl,n,B,A,S,xs,c,one,rfl,st,by omega,c1,λb1 _=>?_⟩
  cases b1 with
  | true=>exact ⟨_,rfl,zC ⟨rfl,true,rfl⟩⟩
  | false=>exact ⟨_,rfl,zy ⟨_,rfl,_,rfl,_,rfl,n,B,A,S,xs,ch,one,rfl,st,by omega,h1,λb2 _=>⟨rfl,b2,rfl⟩⟩⟩
 rintro σ J ⟨rfl,b,rfl⟩;refine ⟨λσ J2=>J2=J/\∃ (b:Bool) (u:Ju),σ=[some (.ref A.st),some v,some (.int c),some (.int ch),some (.int one),some (.int two),some (.bl b),u],?_,?_⟩
 ·refine ⟨_,rfl,_,rfl,_,rfl,n,B,A,S,xs,c,two,rfl,st,by omega,c1,λb1 _=>⟨_,rfl,?_⟩⟩
  cases b1 with
  | true=>exact zy ⟨rfl,b,_,rfl⟩
  | false =>
   obtain ⟨ma,ema,hma⟩:=xz st.o.mt (.inl ch) (-1);refine zC ⟨_,rfl,A.st,_,rfl,zX (Q:=Q) et rfl,A.mt,rfl,.inl ⟨_,.inl (st.h.get 4 rfl)⟩,_,rfl,_,rfl,_,DGet.k (k:=.inl ch) (st.h.get 4 rfl),?_⟩;rw [ema];refine ⟨_,rfl,_,rfl,?_⟩
   cases b with
   | false=>exact zy ⟨rfl,false,_,rfl⟩
   | true =>
    refine zC ⟨_,rfl,_,_,rfl,rfl,_,rfl,xN (λz=>?_) (λz=>⟨rfl,_,_,rfl⟩)⟩;have z:0<=ma:=by simpa using z
    have m1:ma<S.pa.length:=by
     rcases hma with ⟨_,_,h⟩ | ⟨_,h⟩
     ·exact h
     ·omega
    obtain ⟨j,rfl⟩:∃ j:Nat,ch=j:=⟨ch.toNat,by omega⟩;have jl:j<S.pa.length:=by omega
    refine ⟨_,rfl,A.st,_,rfl,zX (Q:=Q) et rfl,_,rfl,A.pa,_,_,_,rfl,rfl,st.h.lst 3 rfl,zM (j:=j) (by rw [List.getElem?_map,List.getElem?_eq_getElem jl];rfl),_,rfl,rfl,_,rfl,xN (λz=>?_) (λz=>⟨rfl,_,_,rfl⟩)⟩;exact ⟨_,rfl,_,rfl,_,rfl,n,B,A,S,xs,ma,two,rfl,st,by omega,m1,λb2 _=>⟨rfl,b2,_,rfl⟩⟩
 ·rintro σ J2 ⟨rfl,b,u,rfl⟩
  exact ⟨_,rfl,q b⟩
def StAt.sm {n:Nat} {B:Hp} {A:BA} {S:BS} {xs:Jt} {H:Hp} (st:StAt n B A S xs H) {v:V} {k:Sk} (t:TupK B v k):TupK H v k:=t.same st.h.sm
def GoodK (S:BS) (k:Sk):Prop:=wd k∈(["trim","stop"]:Jl)∨(zK S.ma (xj k)).isSome=true
def spGd (vs:Jt) (H:Hp) (Q:VK) (_:XK):Prop:=∃ (n:Nat) (B:Hp) (A:BA) (S:BS) (xs:Jt) (v:V) (k:Sk),vs=[.ref A.st,v]/\StAt n B A S xs H/\TupK B v k/\WfS k/\∀ B' H' (b:Bool),Same B B'->StAt n B' A S xs H'->(b=true->GoodK S k)->Q (.bl b) H'
def ok_good (d:zp K mg "_law_good" ZJ ["_law_state","_law_step"]) (UN:Ok P w K mg base CX0 1 "_law_under" ["_law_state","_law_inner","_law_outer"] spUn) (PGD:Ok P w K mg base CX0 2 "_law_pick_good" ["_law_state","_law_step","_law_content"] spPG) (SA:Ok P w K mg base CX0 1 "_law_seats_at" ["_law_step"] spSA):Ok P w K mg base CX0 3 "_law_good" ["_law_state","_law_step"] spGd:=by
 obtain ⟨g,fd,m,F,bb⟩:=d;refine ⟨g,fd,m,F.kp,bb,F.ok sc_l_good (by rintro vs H Q E ⟨_,_,_,_,_,_,_,e,_⟩;rw [e];rfl) λcdv A outer s H vs Q E hr h=>?_⟩;obtain ⟨n,B,A,S,xs,v,k,rfl,st,t,wf,q⟩:=h;have hr2:Room 2 _:=hr;have hr1:Room 1 _:=hr.mono (by decide);have hu:=Nat.lt_of_le_of_lt (Nat.add_le_add_left (show 1<=64 by decide) _) hr.units;have nd:=sc_l_good.nd;have p0:=wf.pos;have a0:=wf.at0;refine ⟨_,(zd (zv (zg zN (zi zn (pv 1) zb (λ_ _=>rfl)) (zt (za zf (za zf zc))) rfl) (ze (zk yA)) zj)
   (zd (zq (i:=2) nd rfl (Or.inl rfl) (yI hu (zL hu (pv 0) zf (λ_ _=>rfl)) (zi zn (pv 1) (yo z4 zb) (λ_ _=>rfl)) (yo z4 zb) ⟨rfl,rfl,rfl,rfl⟩))
   (zd (zv (zg Yf (pv 2) zb (zm _)) (ze (zk yA)) zj)
   (zd (zv (zg zO (zi zn (pv 1) zb (λ_ _=>rfl)) zf (zm _)) (ze (zk (zw UN hr1 (by rfl) zz (za (pv 0) (za (pv 2) (za (yI hu (zL hu (pv 0) zf (λ_ _=>rfl)) (zi zn (pv 1) zb (λ_ _=>rfl)) (yo z4 zb) ⟨rfl,rfl,rfl,rfl⟩) zc)))))) zj)
   (zd (zv (zg zO (zi zn (pv 1) zb (λ_ _=>rfl)) zf (zm _)) (ze (zk (zw PGD hr2 (by rfl) zz (za (pv 0) (za (pv 1) (za (pv 2) zc)))))) zj)
   (zd (ym PassesOwn.never rfl (yj (zw SA hr1 (by rfl) zz (za (pv 1) zc))) (zV (i:=3) nd rfl (Or.inl rfl)) (ze (zv (YV (yi (zw UN hr1 (by rfl) zz (za (pv 0) (za (pv 2) (za (yI hu (zL hu (pv 0) zf (λ_ _=>rfl)) (zi zn (pv 1) (pv 3) (λ_ _=>rfl)) (yo z4 zb) ⟨rfl,rfl,rfl,rfl⟩) zc)))))) (ze (zk yA)) zj)))
   (ze (zk yA)))))))),?_⟩
 dsimp only [yh,Cx.nox,Cx.wish];refine ⟨_,rfl,tix (st.sm t) 0 p0 ?_⟩;rw [a0];refine ⟨szU 2,λp np=>⟨p,_,rfl,.inr (SqT.of zu),rfl,rfl,_,rfl,?_⟩⟩;generalize hX:upd _ _ _=H1;obtain ⟨s1,e1⟩:=yr hX np;clear hX;obtain ⟨B1,sB1,st1,_⟩:=st.over s1;have et:=st1.h.sm _ _ st1.t;have t1:=st1.sm (t.same sB1);rw [show ([V.str "trim",V.str "stop"]:Jt)=(["trim","stop"]:Jl).map V.str from rfl,zZ];by_cases c1:wd k∈(["trim","stop"]:Jl)
 ·rw [decide_eq_true c1]
  exact zC (q B1 H1 true sB1 st1 λ_=>.inl c1)
 rw [decide_eq_false c1];obtain ⟨c,ec,hc⟩:=xz st.o.ma (xj k) (-1);refine zy ⟨_,rfl,A.st,_,rfl,zX (Q:=Q) et rfl,A.ma,rfl,.inl ⟨_,.inl (st1.h.get 2 rfl)⟩,_,rfl,_,rfl,tixL t1 p0 ⟨_,rfl,_,DGet.k (k:=xj k) (st1.h.get 2 rfl),?_⟩⟩;rw [ec];refine ⟨_,rfl,_,_,rfl,rfl,_,rfl,xN (λz=>q B1 H1 false sB1 st1 λz=>by cases z) (λz=>?_)⟩;have z:¬ c<0:=by simpa using z
 obtain ⟨g0,c0,c1'⟩:(zK S.ma (xj k)).isSome=true/\0<=c/\c<S.pa.length:=by
  rcases hc with h | ⟨_,rfl⟩
  ·exact h
  ·omega
 have gk:GoodK S k:=.inr g0;refine ⟨_,rfl,tix t1 0 p0 ?_⟩;rw [a0];refine ⟨rfl,_,rfl,?_⟩;rw [eqS];by_cases c2:wd k="bring"
 ·rw [decide_eq_true c2]
  have l4:=len_br _ wf.len c2;obtain ⟨o,eo,_⟩:=xz st.o.sl (at0 k 2) (-2);refine zC ⟨_,rfl,_,rfl,_,rfl,A.st,_,rfl,zX (Q:=Q) et rfl,A.sl,rfl,.inl ⟨_,.inl (st1.h.get 1 rfl)⟩,_,rfl,tix t1 2 (by show 2<k.length;omega) ⟨_,rfl,_,DGet.k (k:=at0 k 2) (st1.h.get 1 rfl),?_⟩⟩;rw [eo];exact ⟨n,B1,A,S,xs,c,o,rfl,st1,by omega,c1',λb _=>q B1 H1 b sB1 st1 λ_=>gk⟩
 rw [decide_eq_false c2];refine zy ⟨_,rfl,tix t1 0 p0 ?_⟩;rw [a0];refine ⟨rfl,_,rfl,?_⟩;rw [eqS];by_cases c3:wd k="pick"
 ·rw [decide_eq_true c3]
  have l6:=len_pk _ wf.len c3;exact zC ⟨_,rfl,_,rfl,_,rfl,n,B1,A,S,xs,v,k,c,rfl,st1,t1,l6,c0,c1',λb=>q B1 H1 b sB1 st1 λ_=>gk⟩
 rw [decide_eq_false c3];refine zy ⟨_,rfl,v,k,rfl,t1,wf.c,λH3 H2 l s2 nl eH=>?_⟩;subst eH;obtain ⟨B3,sB3,st3,_⟩:=st1.over (s2.trans (zU (o:=.lst (((zQ (wd k)).getD []).map λi:Nat=>V.int i)) (Same.refl _) nl));have el:upd H2 l (.lst (((zQ (wd k)).getD []).map λi:Nat=>V.int i)) l=some (.lst (((zQ (wd k)).getD []).map λi:Nat=>V.int i)):=zu;generalize upd H2 l (.lst (((zQ (wd k)).getD []).map λi:Nat=>V.int i))=H3 at st3 el ⊢;have et3:=st3.h.sm _ _ st3.t;have t3:=st3.sm ((t.same sB1).same sB3);have sl:=ZT _ wf.len;refine ⟨l,rfl,⟨_,SqL.of el⟩,ye (K:=K) (a:=l) (xs:=((zQ (wd k)).getD []).map λi:Nat=>V.int i) (λi σ J=>J=H3/\∃ u,σ=[some (.ref A.st),some v,some (.int c),u]) ⟨rfl,_,rfl⟩ (λi σ J _ ⟨e,_⟩=>SqL.of (by rw [e];exact el)) ?_ ?_⟩
 ·rintro i x σ J hi ⟨rfl,u,rfl⟩
  obtain ⟨j,ej,rfl⟩:=Zz hi;obtain ⟨o,eo,_⟩:=xz st.o.se (at0 k j) (-2);refine ⟨_,rfl,_,rfl,_,rfl,A.st,_,rfl,zX (Q:=Q) et3 rfl,A.se,rfl,.inl ⟨_,.inl (st3.h.get 0 rfl)⟩,_,rfl,_,rfl,tix t3 j (sl j (List.mem_of_getElem? ej)) ⟨_,rfl,_,DGet.k (k:=at0 k j) (st3.h.get 0 rfl),?_⟩⟩;rw [eo];refine ⟨n,B3,A,S,xs,c,o,rfl,st3,by omega,c1',λb _=>⟨_,rfl,?_⟩⟩
  cases b with
  | true=>exact zy ⟨rfl,_,rfl⟩
  | false=>exact zC (q B3 J false (sB1.trans sB3) st3 λz=>by cases z)
 ·rintro σ J ⟨rfl,u,rfl⟩
  exact q B3 J true (sB1.trans sB3) st3 λ_=>gk
end
def wfI {w:Str} {r:List Key} (h:(w,r.length+1)∈z7) (hw:kOk (.inr w)=true) (hr:r.all kOk=true) (ho:¬ w="op") (hn:¬ w="number"):WfS (.inr w::r) :=
 ⟨⟨w,r,rfl,h⟩,by rw [List.all_cons,hw,hr];rfl,λz=>absurd z ho,λz=>absurd z hn⟩
def BOk.mono {n n':Nat} {S:BS} (h:BOk n S) (l:n<=n'):BOk n' S:=⟨h.se,h.sl,h.ma,h.mt,h.ki,h.m0,h.p1,h.pa,h.co,h.ci,h.sc,Nat.le_trans h.n1 l,Nat.le_trans h.n2 l,Nat.le_trans h.n3 (by omega),Nat.le_trans h.n4 (by omega),Nat.le_trans h.n5 (by omega),Nat.le_trans h.n6 l⟩
def StAt.mono {n n':Nat} {B:Hp} {A:BA} {S:BS} {xs:Jt} {H:Hp} (st:StAt n B A S xs H) (l:n<=n'):StAt n' B A S xs H:=⟨st.t,st.h,st.x,st.o.mono l⟩
def put_ki {d:Di} (h:∀ p∈d,∃ j,p.1=.inl j) {j:Int} {v:V}:∀ p∈zP d (.inl j) v,∃ j,p.1=.inl j:=λp m=>by
 unfold zP at m
 split at m
 ·obtain ⟨q,m,e⟩:=List.mem_map.mp m
  split at e
  ·rename_i z;exact ⟨j,by rw [← e];exact z⟩
  ·exact h p (e ▸ m)
 ·rcases List.mem_append.mp m with m | m
  ·exact h p m
  ·exact ⟨j,by rw [List.mem_singleton.mp m]⟩
def put_some {d:Di} {k j:Key} {v:V} (h:(zK d k).isSome=true):(zK (zP d j v) k).isSome=true:=by
 rw [YI];split
 ·rfl
 ·exact h
section
variable {P:Program} {w:World} {K:Fg} {mg:J0} {base:Heap} {aS aR aF:Ad}
def spAd (vs:Jt) (H:Hp) (Q:VK) (_:XK):Prop:=∃ (n:Nat) (B:Hp) (A:BA) (S:BS) (xs:Jt) (v:V) (k:Sk),vs=[.ref A.st,v]/\StAt n B A S xs H/\n<=1000/\TupK B v k/\WfS k/\((wd k="choose"∨wd k="other")->∃ j,at0 k 1=.inl j)/\∀ B' H' S' xs',Same B B'->StAt (n+1) B' A S' xs' H'->S'.mt=S.mt->Q .non H'
def ok_add (d:zp K mg "_law_add" Yz ["_law_state","_law_step"]) (hlen:mg "len"=none) (GD:Ok P w K mg base CX0 3 "_law_good" ["_law_state","_law_step"] spGd) (LS:Ok P w K mg base CX0 1 "_law_lays_seat" ["_law_step"] spLS):Ok P w K mg base CX0 4 "_law_add" ["_law_state","_law_step"] spAd:=by
 obtain ⟨g,fd,m,F,bb⟩:=d;refine ⟨g,fd,m,F.kp,bb,F.ok sc_l_add (by rintro vs H Q E ⟨_,_,_,_,_,_,_,e,_⟩;rw [e];rfl) λcdv A outer s H vs Q E hr h=>?_⟩;obtain ⟨n,B,A,S,xs,v,k,rfl,st,n1,t,wf,ci,q⟩:=h;have hr3:Room 3 _:=hr;have hr1:Room 1 _:=hr.mono (by decide);have hu:=Nat.lt_of_le_of_lt (Nat.add_le_add_left (show 1<=64 by decide) _) hr.units;have nd:=sc_l_add.nd;have SZ:(100000:Nat)<sizeLine:=by decide
 have p0:=wf.pos;have a0:=wf.at0;refine ⟨_,(zd (zv (YV (yi (zw GD hr3 (by rfl) zz (za (pv 0) (za (pv 1) zc))))) (ze XZ) zj)
   (zd (zG (yZ PySem.F.plainAttrs_list PySem.F.slot_list_append PySem.F.type_list_append zW (zL hu (pv 0) zf (λ_ _=>rfl)) (za (pv 1) zc)))
   (zd (yg (zv (yi (zw LS hr1 (by rfl) zz (za (pv 1) zc))) (ze (xa hu (zL hu (pv 0) zf (λ_ _=>rfl)) (zi zn (pv 1) zb (λ_ _=>rfl)) (zL hu (zL hu (pv 0) zf (λ_ _=>rfl)) (zi zn (pv 1) (yo z4 zb) (λ_ _=>rfl)) (λ_ _=>rfl)) rfl)) zj))
   (zd (yg (zv (zg zO (zi zn (pv 1) zb (λ_ _=>rfl)) zf (zm _)) (ze (xa hu (zL hu (pv 0) zf (λ_ _=>rfl)) (zi zn (pv 1) zb (λ_ _=>rfl)) (zL hu (zL hu (pv 0) zf (λ_ _=>rfl)) (zi zn (pv 1) (yo z4 zb) (λ_ _=>rfl)) (λ_ _=>rfl)) rfl)) zj))
   (ze (zv (zg zN (zi zn (pv 1) zb (λ_ _=>rfl)) (zt (za zf (za zf zc))) rfl) (zd (zG (yZ PySem.F.plainAttrs_list PySem.F.slot_list_append PySem.F.type_list_append zW (zL hu (pv 0) zf (λ_ _=>rfl)) (za (zL hu (zL hu (pv 0) zf (λ_ _=>rfl)) (zi zn (pv 1) (yo z4 zb) (λ_ _=>rfl)) (λ_ _=>rfl)) zc)))
   (ze (xa hu (zL hu (pv 0) zf (λ_ _=>rfl)) (zi zn (pv 1) zb (λ_ _=>rfl)) (zo xY (zE zr (by rfl) hlen PySem.boot_len (za (zL hu (pv 0) zf (λ_ _=>rfl)) zc)) zb) rfl))) zj)))))),?_⟩
 dsimp only [yh,Cx.nox,Cx.wish];refine ⟨_,rfl,_,rfl,n,B,A,S,xs,v,k,rfl,st,t,wf,λB1 H1 b sB1 st1 gk=>⟨_,rfl,?_⟩⟩
 cases b with
 | false=>exact zC (q B1 H1 S xs sB1 (st1.mono (Nat.le_succ _)) rfl)
 | true =>
 replace gk:=gk rfl;have t1:=t.same sB1;have xl:=Paired.length st.x;have o:=st.o;have o6:=o.n6;refine zy ⟨_,rfl,A.st,_,rfl,zX (Q:=Q) (st1.h.sm _ _ st1.t) rfl,tyL (st1.h.get 5 rfl),_,rfl,A.co,xs,v,rfl,rfl,st1.h.get 5 rfl,by omega,?_⟩
 have st2:StAt (n+1) B1 A { S with co:=S.co++[k] } (xs++[v]) (upd H1 A.co (.lst (xs++[v]))):=by
  refine ⟨st1.t,st1.h.put 5 rfl,Paired.snoc st1.x t1,⟨o.se,o.sl,o.ma,o.mt,o.ki,o.m0,o.p1,o.pa,λx m=>?_,λx m=>?_,?_,Nat.le_succ_of_le o.n1,Nat.le_succ_of_le o.n2,Nat.le_succ_of_le o.n3,Nat.le_succ_of_le o.n4,Nat.le_trans o.n5 (by omega),?_⟩⟩
  ·rcases List.mem_append.mp m with m | m
   ·exact o.co x m
   ·rw [List.mem_singleton.mp m];exact wf
  ·rcases List.mem_append.mp m with m | m
   ·exact o.ci x m
   ·rw [List.mem_singleton.mp m];exact ci
  ·show S.se.length<=(S.co++[k]).length
   rw [Jp];exact Nat.le_succ_of_le o.sc
  ·show (S.co++[k]).length<=_
   rw [Jp];exact Nat.succ_le_succ o6
 have sc2:S.se.length+1<=(S.co++[k]).length:=by rw [Jp];exact Nat.succ_le_succ o.sc
 generalize upd H1 A.co (.lst (xs++[v]))=H2 at st2 ⊢;generalize S.co++[k]=C2 at st2 sc2 ⊢;generalize xs++[v]=xs2 at st2 ⊢;have l2:∀ {d:Di} {kk:Key} {z:V},(zP d kk z).length<=d.length+1:=λ{d kk z}=>z3 d kk z
 have gt:∀ {w0:Str},wd k=w0->w0 ∉ (["trim","stop"]:Jl)->∃ c:Int,zK S.ma (xj k)=some (.int c)/\0<=c/\c<S.pa.length:=λ{w0} e ne=>by
  rcases gk with z | z
  ·exact absurd (e ▸ z) ne
  ·obtain ⟨vv,ev⟩:=Option.isSome_iff_exists.mp z
   obtain ⟨i,rfl,h0,h1⟩:=di_get o.ma ev;exact ⟨i,ev,h0,h1⟩
 refine ⟨λσ J=>∃ B' S' xs',σ=[some (.ref A.st),some v]/\Same B1 B'/\StAt (n+1) B' A S' xs' J/\S'.ma=S.ma/\S'.pa=S.pa/\S'.sl=S.sl/\S'.mt=S.mt,?_,?_⟩
 ·refine ⟨_,rfl,v,k,rfl,st2.sm t1,wf.c,λH3 s3=>⟨_,rfl,?_⟩⟩
  obtain ⟨B3,sB3,st3,_⟩:=st2.over s3;have et:=st3.h.sm _ _ st3.t;have t3:=st3.sm (t1.same sB3)
  cases hl:zS (wd k) with
  | false=>exact zy ⟨B3,_,_,rfl,sB3,st3,rfl,rfl,rfl,rfl⟩
  | true =>
   obtain ⟨c,ec,c0,c1⟩:=gt (w0:=wd k) rfl (λz=>by
    have:∀ w0∈(["trim","stop"]:Jl),zS w0=false:=by decide
    rw [this _ z] at hl;cases hl)
   have l3:=ZU _ wf.len hl;have e1:=o.n1;refine zC ⟨_,rfl,A.st,_,rfl,zX (Q:=Q) et rfl,_,rfl,_,rfl,tixL t3 p0 ⟨A.ma,.int c,rfl,by rw [← ec];exact DGet.k (k:=xj k) (st3.h.get 2 rfl),?_⟩⟩;refine ⟨_,rfl,A.st,_,rfl,zX (Q:=Q) et rfl,_,rfl,tix t3 1 (by show 1<k.length;have:3<=k.length:=l3;omega) ⟨A.se,_,rfl,DPut.k (k:=at0 k 1) (st3.h.get 0 rfl) (by show S.se.length<_;omega),B3,{ S with co:=C2,se:=zP S.se (at0 k 1) (.int c) },xs2,rfl,sB3,⟨st3.t,st3.h.put 0 rfl,st3.x,?_⟩,rfl,rfl,rfl,rfl⟩⟩;have z:=st3.o;refine ⟨Xb z.se c0 c1,z.sl,z.ma,z.mt,z.ki,z.m0,z.p1,z.pa,z.co,z.ci,?_,?_,z.n2,z.n3,z.n4,z.n5,z.n6⟩
   ·show (zP S.se (at0 k 1) (.int c)).length<=C2.length
    exact Nat.le_trans l2 sc2
   ·show (zP S.se (at0 k 1) (.int c)).length<=n+1
    exact Nat.le_trans l2 (by omega)
 clear st2 sc2;rintro σ J ⟨B2,S2,xs2,rfl,sB2,st2,em,ep,es,eT⟩;have t2:=t1.same sB2;refine ⟨λσ J=>∃ B' S' xs',σ=[some (.ref A.st),some v]/\Same B1 B'/\StAt (n+1) B' A S' xs' J/\S'.ma=S.ma/\S'.pa=S.pa/\S'.mt=S.mt,?_,?_⟩
 ·refine ⟨_,rfl,tix (st2.sm t2) 0 p0 ?_⟩
  rw [a0];refine ⟨rfl,_,rfl,?_⟩;rw [eqS];by_cases hs:wd k="save"
  ·rw [decide_eq_true hs]
   have et:=st2.h.sm _ _ st2.t;have l4:=ZB _ wf.len (.inr (.inr hs));obtain ⟨c,ec,c0,c1⟩:=gt hs (by decide);have e1:=o.n2;refine zC ⟨_,rfl,A.st,_,rfl,zX (Q:=Q) et rfl,_,rfl,_,rfl,tixL (st2.sm t2) p0 ⟨A.ma,.int c,rfl,by rw [← ec,← em];exact DGet.k (k:=xj k) (st2.h.get 2 rfl),?_⟩⟩;refine ⟨_,rfl,A.st,_,rfl,zX (Q:=Q) et rfl,_,rfl,tix (st2.sm t2) 1 (by show 1<k.length;have:k.length=4:=l4;omega) ⟨A.sl,_,rfl,DPut.k (k:=at0 k 1) (st2.h.get 1 rfl) (by rw [es];omega),B2,{ S2 with sl:=zP S2.sl (at0 k 1) (.int c) },xs2,rfl,sB2,⟨st2.t,st2.h.put 1 rfl,st2.x,?_⟩,em,ep,eT⟩⟩;have z:=st2.o;refine ⟨z.se,Xb z.sl c0 (by rw [ep];exact c1),z.ma,z.mt,z.ki,z.m0,z.p1,z.pa,z.co,z.ci,z.sc,z.n1,?_,z.n3,z.n4,z.n5,z.n6⟩;show (zP S2.sl (at0 k 1) (.int c)).length<=n+1;exact Nat.le_trans l2 (by rw [es];omega)
  ·rw [decide_eq_false hs]
   exact zy ⟨B2,S2,xs2,rfl,sB2,st2,em,ep,eT⟩
 clear st2 sB2 t2 em ep es eT;rintro σ J ⟨B2,S2,xs2,rfl,sB2,st2,em,ep,eT⟩;have t2:=t1.same sB2;refine ⟨_,rfl,tix (st2.sm t2) 0 p0 ?_⟩;rw [a0];refine ⟨szU 2,λp np=>⟨p,_,rfl,.inr (SqT.of zu),rfl,rfl,_,rfl,?_⟩⟩;generalize hX:upd _ _ _=H3;obtain ⟨s3,e3⟩:=yr hX np;clear hX;obtain ⟨B3,sB3,st3,_⟩:=st2.over s3;have t3:=st3.sm (t2.same sB3);have et:=st3.h.sm _ _ st3.t;rw [show ([V.str "choose",V.str "other"]:Jt)=(["choose","other"]:Jl).map V.str from rfl,zZ];by_cases hc:wd k∈(["choose","other"]:Jl)
 ·rw [decide_eq_true hc]
  have hc2:wd k="choose"∨wd k="other":=by simpa using hc
  have l4:=ZB _ wf.len (by rcases hc2 with h | h;exact .inl h;exact .inr (.inl h));obtain ⟨j,ej⟩:=ci hc2
  obtain ⟨c,ec,c0,c1⟩:=gt (w0:=wd k) rfl (λz=>by
   rcases hc2 with h | h <;> rw [h] at z <;> revert z <;> decide)
  have e1:=o.n4;have e3:=o.n3;refine zC ⟨_,rfl,A.st,_,rfl,zX (Q:=Q) et rfl,tyL (st3.h.get 3 rfl),_,rfl,A.st,_,rfl,zX (Q:=Q) et rfl,_,rfl,_,rfl,tixL t3 p0 ⟨A.ma,.int c,rfl,by rw [← ec,← em];exact DGet.k (k:=xj k) (st3.h.get 2 rfl),A.pa,_,.int c,rfl,rfl,st3.h.get 3 rfl,by rw [Jo,ep];omega,?_⟩⟩;have h4:=st3.h.put 3 rfl (o':=.lst (S2.pa.map V.int++[.int c]));have epm:S2.pa.map V.int++[V.int c]=(S2.pa++[c]).map V.int:=by rw [Jq];rfl
  rw [epm] at h4 ⊢;generalize upd H3 A.pa (.lst ((S2.pa++[c]).map V.int))=H4 at h4 ⊢;have t4:=(t2.same sB3).same h4.sm;have et4:=h4.sm _ _ st3.t;have z:=st3.o;have e4:((((S2.pa++[c]).map V.int).length:Nat):Int)-1=(S2.pa.length:Int):=by rw [Jo,Jp];show ((S2.pa.length+1:Nat):Int)-1=_;omega
  refine ⟨_,rfl,A.st,_,rfl,zX (Q:=Q) et4 rfl,A.pa,_,rfl,.inl (h4.lst 3 rfl),_,_,rfl,rfl,?_⟩;rw [e4];refine ⟨_,rfl,A.st,_,rfl,zX (Q:=Q) et4 rfl,_,rfl,tix t4 1 (by show 1<k.length;have:k.length=4:=l4;omega) ⟨A.ma,_,rfl,DPut.k (k:=at0 k 1) (h4.get 2 rfl) (by rw [em];omega),?_⟩⟩;refine q B3 _ { S2 with pa:=S2.pa++[c],ma:=zP S2.ma (at0 k 1) (.int S2.pa.length) } xs2 (sB1.trans (sB2.trans sB3)) ⟨st3.t,h4.put 2 rfl,st3.x,?_⟩ eT;have pl:(S2.pa++[c]).length=S2.pa.length+1:=by rw [Jp];rfl
  have up:∀ {dd:Di},DiOk S2.pa.length dd->DiOk (S2.pa++[c]).length dd:=λh=>di_up h (by omega);refine ⟨up z.se,up z.sl,Xb (up z.ma) (by omega) (by rw [pl];omega),up z.mt,?_,put_some z.m0,by show 0<(S2.pa++[c]).length;omega,λi v hi=>?_,z.co,z.ci,z.sc,z.n1,z.n2,?_,?_,z.n5,z.n6⟩
  ·show ∀ p∈zP S2.ma (at0 k 1) _,_
   rw [ej];exact put_ki z.ki
  ·have hi:(S2.pa++[c])[i]?=some v:=hi
   rcases Nat.lt_or_ge i S2.pa.length with h | h
   ·rw [List.getElem?_append_left h] at hi;exact z.pa i v hi
   ·have e:i=S2.pa.length:=by have:=(List.getElem?_eq_some_iff.mp hi).1;omega
    subst e;rw [List.getElem?_append_right (Nat.le_refl _),Nat.sub_self] at hi;cases hi;rw [ep];exact ⟨by omega,c1⟩
  ·show (zP S2.ma (at0 k 1) _).length<=n+1+1
   exact Nat.le_trans l2 (by rw [em];omega)
  ·show (S2.pa++[c]).length<=n+1+1
   rw [pl,ep];omega
 ·rw [decide_eq_false hc]
  exact zy (q B3 H3 S2 xs2 (sB1.trans (sB2.trans sB3)) st3 eT)
def StAt.tup {n:Nat} {B:Hp} {A:BA} {S:BS} {xs:Jt} {H:Hp} {p:Ad} {k:Sk} (st:StAt n B A S xs H) (np:H p=none):∃ B',Same B B'/\StAt n B' A S xs (upd H p (.tup (k.map kV)))/\TupK B' (.ref p) k:=by
 obtain ⟨B',s',e',h'⟩:=hdG st.h rfl np;exact ⟨B',s',⟨s' _ _ st.t,h',st.x.same s',st.o⟩,p,rfl,e'⟩
def spAM (vs:Jt) (H:Hp) (Q:VK) (_:XK):Prop:=∃ (n:Nat) (B:Hp) (A:BA) (S:BS) (xs:Jt) (at' seat mask:Int),vs=[.ref A.st,.int at',.int seat,.int mask]/\StAt n B A S xs H/\n<=900/\∀ B' H' S' xs',Same B B'->StAt (n+2) B' A S' xs' H'->Q .non H'
def zab (d:zp K mg "_law_add_masks" yS ["_law_state","_law_at","_law_seat","_law_mask"]) (hlen:mg "len"=none) (AD:Ok P w K mg base CX0 4 "_law_add" ["_law_state","_law_step"] spAd):Ok P w K mg base CX0 5 "_law_add_masks" ["_law_state","_law_at","_law_seat","_law_mask"] spAM:=by
 obtain ⟨g,fd,m,F,bb⟩:=d;refine ⟨g,fd,m,F.kp,bb,F.ok sc_l_add_masks (by rintro vs H Q E ⟨_,_,_,_,_,_,_,_,e,_⟩;rw [e];rfl) λcdv A outer s H vs Q E hr h=>?_⟩;obtain ⟨n,B,A,S,xs,a,se,ms,rfl,st,n9,q⟩:=h;have hr4:Room 4 _:=hr;have hu:=Nat.lt_of_le_of_lt (Nat.add_le_add_left (show 1<=64 by decide) _) hr.units;have nd:=sc_l_add_masks.nd;have SZ:(100000:Nat)<sizeLine:=by decide
 have wch:∀ x:Int,WfS [.inr "choose",.inl x,.inl se,.inl ms]:=λx=>wfI (by show (("choose":Str),4)∈z7;decide) (by decide +kernel) rfl (by decide) (by decide);have wot:∀ x:Int,WfS [.inr "other",.inl x,.inl se,.inl ms]:=λx=>wfI (by show (("other":Str),4)∈z7;decide) (by decide +kernel) rfl (by decide) (by decide);refine ⟨_,(zd (zv (zg zN (pv 3) (zt (za (pv 1) (za (zo yJ (pv 1) zb) zc))) rfl) (zd (zG (zw AD hr4 (by rfl) zz (za (pv 0) (za (zt (za zf (za (xX (zg zO (zo zD (pv 2) zb) zb (zm _)) zb (pv 3)) (za (pv 2) (za (pv 3) zc))))) zc))))
   (ze XZ)) zj)
   (zd (zq (i:=4) nd rfl (Or.inl rfl) (zE zr (by rfl) hlen PySem.boot_len (za (zL hu (pv 0) zf (λ_ _=>rfl)) zc)))
   (zd (zG (zw AD hr4 (by rfl) zz (za (pv 0) (za (zt (za zf (za (pv 1) (za (pv 2) (za (pv 3) zc))))) zc))))
   (zd (zG (zw AD hr4 (by rfl) zz (za (pv 0) (za (zt (za zf (za (zo yJ (pv 1) zb) (za (pv 2) (za (pv 3) zc))))) zc))))
   (ze (zv (zg zO (zE zr (by rfl) hlen PySem.boot_len (za (zL hu (pv 0) zf (λ_ _=>rfl)) zc)) (zo yJ (pv 4) zb) (zm _)) (zd (xa hu (zL hu (pv 0) zf (λ_ _=>rfl)) (pv 4) (zo yJ (pv 4) zb) rfl)
   (ze (xa hu (zL hu (pv 0) zf (λ_ _=>rfl)) (zo yJ (pv 4) zb) (pv 4) rfl))) zj)))))),?_⟩
 dsimp only [yh,Cx.nox,Cx.wish];refine ⟨_,rfl,_,rfl,_,rfl,_,_,rfl,rfl,szU 2,λp np=>⟨p,_,rfl,.inr (SqT.of zu),rfl,rfl,_,rfl,?_⟩⟩;generalize hX:upd _ _ _=H1;obtain ⟨s1,e1⟩:=yr hX np;clear hX;obtain ⟨B1,sB1,st1,_⟩:=st.over s1;refine xN (λz=>?_) (λz=>?_)
 ·refine ⟨_,rfl,_,rfl,_,_,rfl,rfl,(by show (0:Int)<2;decide),rfl,_,rfl,?_⟩
  have fin:∀ x:Int,∃ ww:V,ww=V.int x:=λx=>⟨_,rfl⟩;refine xN (λz2=>?_) (λz2=>?_)
  ·refine ⟨_,rfl,_,rfl,szU 4,λp2 np2=>?_⟩
   obtain ⟨B2,sB2,st2,tk⟩:=st1.tup (k:=[.inr "choose",.inl 15,.inl se,.inl ms]) np2;exact ⟨n,B2,A,S,xs,.ref p2,_,rfl,st2,by omega,tk,wch 15,λ_=>⟨15,rfl⟩,λB3 H3 S3 xs3 s3 st3 _=>q B3 H3 S3 xs3 (sB1.trans (sB2.trans s3)) (st3.mono (by omega))⟩
  ·refine ⟨_,rfl,_,rfl,_,rfl,szU 4,λp2 np2=>?_⟩
   obtain ⟨B2,sB2,st2,tk⟩:=st1.tup (k:=[.inr "choose",.inl ms,.inl se,.inl ms]) np2;exact ⟨n,B2,A,S,xs,.ref p2,_,rfl,st2,by omega,tk,wch ms,λ_=>⟨ms,rfl⟩,λB3 H3 S3 xs3 s3 st3 _=>q B3 H3 S3 xs3 (sB1.trans (sB2.trans s3)) (st3.mono (by omega))⟩
 ·refine ⟨_,rfl,A.st,_,rfl,zX (Q:=Q) (st1.h.sm _ _ st1.t) rfl,A.pa,_,rfl,.inl (st1.h.lst 3 rfl),?_⟩
  rw [Jo];refine ⟨_,rfl,_,rfl,_,rfl,_,rfl,szU 4,λp2 np2=>?_⟩;obtain ⟨B2,sB2,st2,tk⟩:=st1.tup (k:=[.inr "choose",.inl a,.inl se,.inl ms]) np2;refine ⟨n,B2,A,S,xs,.ref p2,_,rfl,st2,by omega,tk,wch a,λ_=>⟨a,rfl⟩,λB3 H3 S3 xs3 s3 st3 eT3=>?_⟩;refine ⟨_,rfl,_,rfl,_,_,rfl,rfl,_,rfl,_,rfl,szU 4,λp4 np4=>?_⟩;obtain ⟨B4,sB4,st4,tk4⟩:=st3.tup (k:=[.inr "other",.inl (a+1),.inl se,.inl ms]) np4;refine ⟨n+1,B4,A,S3,xs3,.ref p4,_,rfl,st4,by omega,tk4,wot _,λ_=>⟨_,rfl⟩,λB5 H5 S5 xs5 s5 st5 eT5=>?_⟩;have sT:=sB1.trans (sB2.trans (s3.trans (sB4.trans s5)));have et5:=st5.h.sm _ _ st5.t;refine ⟨_,rfl,A.st,_,rfl,zX (Q:=Q) et5 rfl,A.pa,_,rfl,.inl (st5.h.lst 3 rfl),?_⟩;rw [Jo];refine ⟨_,rfl,_,_,rfl,rfl,rfl,_,rfl,?_⟩;rw [eqI];by_cases hq:(S5.pa.length:Int)=(S.pa.length:Int)+2
  ·rw [decide_eq_true hq]
   have z:=st5.o;have z5:=z.n5;have p1:=st.o.p1;refine zC ⟨_,rfl,_,_,rfl,rfl,_,rfl,A.st,_,rfl,zX (Q:=Q) et5 rfl,_,rfl,A.mt,_,rfl,DPut.k (k:=.inl (S.pa.length:Int)) (st5.h.get 4 rfl) (by omega),?_⟩;have h6:=st5.h.put 4 rfl (o':=.dK (zP S5.mt (.inl (S.pa.length:Int)) (.int ((S.pa.length:Int)+1))));have l6:=z3 S5.mt (.inl (S.pa.length:Int)) (.int ((S.pa.length:Int)+1));have et6:=h6.sm _ _ st5.t;refine ⟨_,rfl,_,rfl,A.st,_,rfl,zX (Q:=Q) et6 rfl,_,rfl,_,_,rfl,rfl,A.mt,_,rfl,DPut.k (k:=.inl ((S.pa.length:Int)+1)) (h6.get 4 rfl) (by omega),?_⟩;have h7:=h6.put 4 rfl (o':=.dK (zP (zP S5.mt (.inl (S.pa.length:Int)) (.int ((S.pa.length:Int)+1))) (.inl ((S.pa.length:Int)+1)) (.int (S.pa.length:Int))));have l7:=z3 (zP S5.mt (.inl (S.pa.length:Int)) (.int ((S.pa.length:Int)+1))) (.inl ((S.pa.length:Int)+1)) (.int (S.pa.length:Int));refine q B5 _ { S5 with mt:=zP (zP S5.mt (.inl (S.pa.length:Int)) (.int ((S.pa.length:Int)+1))) (.inl ((S.pa.length:Int)+1)) (.int (S.pa.length:Int)) } xs5 sT ⟨st5.t,h7,st5.x,?_⟩;refine ⟨z.se,z.sl,z.ma,Xb (Xb z.mt (by omega) (by omega)) (by omega) (by omega),z.ki,z.m0,z.p1,z.pa,z.co,z.ci,z.sc,z.n1,z.n2,z.n3,z.n4,?_,z.n6⟩;show (zP (zP S5.mt _ _) _ _).length<=2*(n+1+1);have:S5.mt.length<=2*n:=by rw [eT5,eT3];exact st.o.n5
   omega
  ·rw [decide_eq_false hq]
   exact zy (q B5 H5 S5 xs5 sT st5)
end
def xo (ls:Jh) (mn_:Int) (i:Nat):List Nat:=(List.range i).filter λr=>decide (mn_<=ls.getD r 0)
def ZZ (ls:Jh) (mn_:Int) (i:Nat):xo ls mn_ (i+1)=if mn_<=ls.getD i 0 then xo ls mn_ i++[i] else xo ls mn_ i:=by
 unfold xo;rw [List.range_succ,List.filter_append];by_cases h:mn_<=ls.getD i 0
 ·rw [if_pos h,List.filter_cons_of_pos (by simpa using h)];rfl
 ·rw [if_neg h,List.filter_cons_of_neg (by simpa using h)];simp
def XL (ls:Jh) (mn_:Int) (i:Nat):(xo ls mn_ i).length<=i:=by
 have:=List.length_filter_le (λr=>decide (mn_<=ls.getD r 0)) (List.range i);rw [List.length_range] at this;exact this
def YF {ls:Jh} {mn_:Int} (h:mn_∈ls):0<(xo ls mn_ ls.length).length:=by
 obtain ⟨i,hi,e⟩:=List.getElem_of_mem h;refine List.length_pos_of_mem (a:=i) (List.mem_filter.mpr ⟨List.mem_range.mpr hi,?_⟩);rw [q0z,List.getElem?_eq_getElem hi];exact decide_eq_true (by show mn_<=ls[i];omega)
def ZD {xs:Jt} {i:Int} (h:0<xs.length):∃ v,v∈xs/\atI xs (i % (xs.length:Int))=some v:=by
 have h0:0<=i % (xs.length:Int):=Int.emod_nonneg _ (by omega);have h1:i % (xs.length:Int)<xs.length:=Int.emod_lt_of_pos _ (by omega);obtain ⟨j,ej⟩:∃ j:Nat,i % (xs.length:Int)=j:=⟨(i % (xs.length:Int)).toNat,by omega⟩;rw [ej];have jl:j<xs.length:=by omega
 exact ⟨xs[j],List.getElem_mem jl,zM (List.getElem?_eq_getElem jl)⟩
def Yh (k:Sk):Prop:=¬ wd k="choose"/\¬ wd k="other"
def nM {w:Str} {r:List Key} (h:¬ w="choose"/\¬ w="other"):Yh (.inr w::r):=h
def folds:Jl:=["sum","product","least","most","both","either","odd","chain","capped"]
def folds_ok:∀ x∈folds,kOk (.inr x)=true:=by decide +kernel
def signs_ok:∀ x∈signs,kOk (.inr x)=true:=by decide +kernel
def wf_num {n a m:Int} (h:Kin n):WfS [.inr "number",.inl a,.inl n,.inl m]:=⟨⟨_,_,rfl,by show (("number":Str),4)∈z7;decide⟩,by rw [List.all_cons,show kOk (.inr "number")=true by decide +kernel];rfl,λz=>absurd z (show ¬ ("number":Str)="op" by decide),λ_=>⟨n,rfl,h⟩⟩
def wf_op {sg:Str} {a p q m:Int} (h:sg∈signs):WfS [.inr "op",.inl a,.inr sg,.inl p,.inl q,.inl m]:=⟨⟨_,_,rfl,by show (("op":Str),6)∈z7;decide⟩,by rw [List.all_cons,List.all_cons,List.all_cons,show kOk (.inr "op")=true by decide +kernel,signs_ok sg h];rfl,λ_=>⟨sg,rfl,h⟩,λz=>absurd z (show ¬ ("op":Str)="number" by decide)⟩
section
variable {P:Program} {w:World} {K:Fg} {mg:J0} {base:Heap} {aS aR aF:Ad}
def spMx (vs:Jt) (H:Hp) (Q:VK) (_:XK):Prop:=∃ (a f p:Int),vs=[.int a,.int f,.int p]/\0<f/\f<100000/\0<p/\Q (.int (a*f % p)) H
def ok_mix (d:zp K mg "_law_mix" Yy ["_law_cell_here","_law_factor","_law_prime"]):Ok P w K mg base CX0 1 "_law_mix" ["_law_cell_here","_law_factor","_law_prime"] spMx:=by
 obtain ⟨g,fd,m,F,b⟩:=d;refine ⟨g,fd,m,F.kp,b,F.ok sc_l_mix (by rintro vs H Q E ⟨_,_,_,e,_⟩;rw [e];rfl) λcdv A outer s H vs Q E hr h=>?_⟩;obtain ⟨a,f,p,rfl,f0,f1,p0,q⟩:=h;refine ⟨_,(ze (zk (zo zD (zo Z5 (pv 0) (pv 1)) (pv 2)))),?_⟩;exact ⟨_,rfl,_,rfl,_,_,rfl,rfl,.inr ⟨by show -(2 ^ 64)<f;omega,by show f<2 ^ 64;omega⟩,_,rfl,_,_,rfl,rfl,p0,q⟩
def spLf (K:Fg) (vs:Jt) (H:Hp) (Q:VK) (_:XK):Prop:=∃ (c se ms mn_:Int) (l:Ad) (ls:Jh),vs=[.int c,.int se,.int ms,.ref l,.int mn_]/\SqL K H l (ls.map V.int)/\ls.length=4/\mn_∈ls/\∀ H' u k,Same H H'->TupK H' u k->WfS k->Yh k->Q u H'
def ok_leaf (d:zp K mg "_law_leaf" ZI ["_law_cell_here","_law_seat","_law_mask","_law_lengths","_law_many"]) (hlen:mg "len"=none) (hrg:mg "range"=none) (KB:Ok P w K mg base (CXe P w base) 1 "_law_kept_by" ["_law_cell_here"] spKB):Ok P w K mg base CX0 2 "_law_leaf" ["_law_cell_here","_law_seat","_law_mask","_law_lengths","_law_many"] (spLf K):=by
 obtain ⟨g,fd,m,F,b⟩:=d;refine ⟨g,fd,m,F.kp,b,F.ok sc_l_leaf (by rintro vs H Q E ⟨_,_,_,_,_,_,e,_⟩;rw [e];rfl) λcdv A outer s H vs Q E hr h=>?_⟩;obtain ⟨c,se,ms,mn_,l,ls,rfl,sl,l4,mm,q⟩:=h;have hr1:Room 1 _:=hr;have nd:=sc_l_leaf.nd;have SZ:(1000:Nat)<sizeLine:=by decide
 refine ⟨_,(zd (zq (i:=5) nd rfl (Or.inl rfl) (zo zD (pv 0) zb))
   (zd (zq (i:=6) nd rfl (Or.inl rfl) (zo yd (pv 0) zb))
   (zd (ZO (i:=7) ["_law_row","_law_many","_law_lengths"] [none,some 4,some 3] rfl rfl rfl (xc rfl hrg (za (zE zr (by rfl) hlen PySem.boot_len (za (pv 3) zc)) zc)) (λs3 H3 fp=>⟨zV (i:=0) (Jv ["_law_row","_law_many","_law_lengths"]) rfl (Or.inl rfl),(zg op_ge (zi (Y8 (K:=K) rfl) (pv 2) (pv 0) (λ_ _=>rfl)) (pv 1) (zm _)),(pv 0)⟩) nd rfl (Or.inl rfl))
   (zd (zv (zg zO (pv 5) zb (zm _)) (ze (zk (zt (za zf (za (pv 1) (za (zw KB hr1 (by rfl) passF (za (pv 6) zc)) (za (pv 2) zc))))))) zj)
   (zd (zv (zg zO (pv 5) zb (zm _)) (ze (zk (zt (za zf (za (pv 1) (za (pv 2) zc)))))) zj)
   (zd (zv (zg zO (pv 5) zb (zm _)) (ze (zk (zt (za zf (za (pv 1) (za (zi zx (pv 7) (zo zD (pv 6) (zE zr (by rfl) hlen PySem.boot_len (za (pv 7) zc))) (λ_ _=>rfl)) (za (pv 2) zc))))))) zj)
   (zd (zv (zg zO (pv 5) zb (zm _)) (ze (zk (zt (za zf (za (pv 1) (za (zo zD (pv 6) (zE zr (by rfl) hlen PySem.boot_len (za (pv 3) zc))) (za (pv 2) zc))))))) zj)
   (zd (zv (zg zO (pv 5) zb (zm _)) (ze (zk (zt (za zf (za (pv 1) (za (zo zD (pv 6) (zE zr (by rfl) hlen PySem.boot_len (za (pv 3) zc))) (za (zo xY (zo zD (zo yd (pv 6) zb) zb) zb) (za (zw KB hr1 (by rfl) passF (za (zo yd (pv 6) zb) zc)) (za (pv 2) zc))))))))) zj)
   (ze (zk (zt (za zf (za (pv 1) (za (zo xY (zo zD (pv 6) zb) zb) (za (pv 2) zc))))))))))))))),?_⟩
 dsimp only [yh,Cx.nox,Cx.wish];refine ⟨_,rfl,_,_,rfl,rfl,(by show (0:Int)<6;decide),_,rfl,_,_,rfl,rfl,⟨by decide,by decide⟩,?_⟩;generalize hh:c % 6=how;generalize c / 6=rest;refine ⟨_,rfl,l,_,rfl,.inl sl,_,rfl,by rw [Jo,l4];decide,by rw [Jo,l4];decide,_,rfl,λD nD=>?_⟩;rw [Jo,l4];refine xA (n:=4) (λi σ J=>∃ u,σ=[u,iq mn_,rq l]/\Hd H [(D,.lst ((xo ls mn_ i).map λr:Nat=>V.int r))] J) ⟨none,rfl,Hd.base.new nD⟩ ?_ ?_
 ·rintro i σ J hi ⟨u,rfl,h⟩
  have e0:atI (ls.map V.int) (0+(i:Int))=some (V.int (ls.getD i 0)):=by
   rw [Int.zero_add];exact zM (by rw [List.getElem?_map,q0z,List.getElem?_eq_getElem (by omega)];rfl)
  refine ⟨_,rfl,_,rfl,l,_,_,_,rfl,rfl,h.sql sl,e0,_,rfl,_,_,rfl,rfl,_,rfl,?_⟩;have ws:=ZZ ls mn_ i;have wl:=XL ls mn_ i;by_cases hm:mn_<=ls.getD i 0
  ·rw [if_pos hm] at ws
   rw [show decide (ls.getD i 0 ≥ mn_)=true from decide_eq_true hm];refine zC ⟨_,rfl,_,h.get 0 rfl,by rw [Jo];omega,_,rfl,?_⟩;rw [ws,Jq,Int.zero_add];exact h.fput
  ·rw [if_neg hm] at ws
   rw [show decide (ls.getD i 0 ≥ mn_)=false from decide_eq_false hm];refine zy ⟨_,rfl,?_⟩;rw [ws];exact h
 ·rintro σ J ⟨u,rfl,h⟩
  have wp:=YF mm;rw [l4] at wp;have sH:Same H J:=h.sm;have slJ:=h.sql sl;have eD:=h.get 0 rfl;refine ⟨_,rfl,rfl,_,rfl,?_⟩;rw [eqI];by_cases h0:how=0
  ·rw [decide_eq_true h0]
   refine zC ⟨_,rfl,_,rfl,_,rfl,λH1 s1=>⟨_,rfl,szU 4,λp np=>?_⟩⟩;obtain ⟨s2,t2⟩:=xS (k:=[.inr "number",.inl se,.inl (yN rest),.inl ms]) np;exact q _ _ _ (sH.trans (s1.trans s2)) t2 (wf_num (keptBy_in _)) (nM (by decide))
  rw [decide_eq_false h0];refine zy ⟨_,rfl,rfl,_,rfl,?_⟩;rw [eqI];by_cases h1:how=1
  ·rw [decide_eq_true h1]
   refine zC ⟨_,rfl,_,rfl,szU 3,λp np=>?_⟩;obtain ⟨s2,t2⟩:=xS (k:=[.inr "here",.inl se,.inl ms]) np;exact q _ _ _ (sH.trans s2) t2 (wfI (by show (("here":Str),3)∈z7;decide) (by decide +kernel) rfl (by decide) (by decide)) (nM (by decide))
  rw [decide_eq_false h1];refine zy ⟨_,rfl,rfl,_,rfl,?_⟩;rw [eqI];by_cases h2:how=2
  ·rw [decide_eq_true h2]
   obtain ⟨v,mv,ev⟩:=ZD (xs:=(xo ls mn_ 4).map λr:Nat=>V.int r) (i:=rest) (by rw [Jo];exact wp);obtain ⟨r,_,rfl⟩:=List.mem_map.mp mv;refine zC ⟨_,rfl,_,rfl,_,rfl,_,rfl,D,_,rfl,.inl (SqL.of eD),_,_,rfl,rfl,(by show (0:Int)<_;rw [Jo];omega),D,_,_,_,rfl,rfl,SqL.of eD,ev,_,rfl,szU 4,λp np=>?_⟩;obtain ⟨s2,t2⟩:=xS (k:=[.inr "load",.inl se,.inl (r:Int),.inl ms]) np;exact q _ _ _ (sH.trans s2) t2 (wfI (by show (("load":Str),4)∈z7;decide) (by decide +kernel) rfl (by decide) (by decide)) (nM (by decide))
  rw [decide_eq_false h2];refine zy ⟨_,rfl,rfl,_,rfl,?_⟩;rw [eqI];by_cases h3:how=3
  ·rw [decide_eq_true h3]
   refine zC ⟨_,rfl,_,rfl,_,rfl,l,_,rfl,.inl slJ,_,_,rfl,rfl,(by show (0:Int)<_;rw [Jo,l4];decide),_,rfl,szU 4,λp np=>?_⟩;obtain ⟨s2,t2⟩:=xS (k:=[.inr "spread",.inl se,.inl (rest % ((ls.map V.int).length:Int)),.inl ms]) np;exact q _ _ _ (sH.trans s2) t2 (wfI (by show (("spread":Str),4)∈z7;decide) (by decide +kernel) rfl (by decide) (by decide)) (nM (by decide))
  rw [decide_eq_false h3];refine zy ⟨_,rfl,rfl,_,rfl,?_⟩;rw [eqI];by_cases h4:how=4
  ·rw [decide_eq_true h4]
   refine zC ⟨_,rfl,_,rfl,_,rfl,l,_,rfl,.inl slJ,_,_,rfl,rfl,(by show (0:Int)<_;rw [Jo,l4];decide),_,rfl,_,_,rfl,rfl,⟨by decide,by decide⟩,_,_,rfl,rfl,(by show (0:Int)<7;decide),_,_,rfl,rfl,_,rfl,_,_,rfl,rfl,⟨by decide,by decide⟩,_,rfl,λH1 s1=>⟨_,rfl,szU 6,λp np=>?_⟩⟩;obtain ⟨s2,t2⟩:=xS (k:=[.inr "shift",.inl se,.inl (rest % ((ls.map V.int).length:Int)),.inl (rest / 7 % 7-3),.inl (yN (rest / 49)),.inl ms]) np;exact q _ _ _ (sH.trans (s1.trans s2)) t2 (wfI (by show (("shift":Str),6)∈z7;decide) (by decide +kernel) rfl (by decide) (by decide)) (nM (by decide))
  rw [decide_eq_false h4];refine zy ⟨_,rfl,_,rfl,_,_,rfl,rfl,(by show (0:Int)<4;decide),_,_,rfl,rfl,_,rfl,szU 4,λp np=>?_⟩;obtain ⟨s2,t2⟩:=xS (k:=[.inr "number",.inl se,.inl (rest % 4-1),.inl ms]) np;exact q _ _ _ (sH.trans s2) t2 (wf_num (by unfold Kin;omega)) (nM (by decide))
def spJo (K:Fg) (vs:Jt) (H:Hp) (Q:VK) (_:XK):Prop:=∃ (c se ms ot a b:Int) (pr l:Ad) (ls:Jh),vs=[.int c,.int se,.ref pr,.int ms,.int ot,.ref l]/\SqL K H pr [.int a,.int b]/\SqL K H l (ls.map V.int)/\ls.length=4/\∀ H' u k,Same H H'->TupK H' u k->WfS k->Yh k->Q u H'
def ok_joint (d:zp K mg "_law_joint" Zj ["_law_cell_here","_law_seat","_law_pair","_law_mask","_law_other","_law_lengths"]) (hlen:mg "len"=none):Ok P w K mg base CX0 1 "_law_joint" ["_law_cell_here","_law_seat","_law_pair","_law_mask","_law_other","_law_lengths"] (spJo K):=by
 obtain ⟨g,fd,m,F,b⟩:=d;refine ⟨g,fd,m,F.kp,b,F.okB sc_l_joint (by rintro vs H Q E ⟨_,_,_,_,_,_,_,_,_,e,_⟩;rw [e];rfl) λcdv A outer s H vs Q E hr h=>?_⟩;obtain ⟨c,se,ms,ot,a,b,pr,l,ls,rfl,sp,sl,l4,q⟩:=h;have nd:=sc_l_joint.nd;refine ⟨_,(zY (pw_ks (i:=6) nd rfl (Or.inl rfl) rfl)
   (zY (PW1.mk (zq (i:=7) nd rfl (Or.inl rfl) (zo zD (pv 0) zb)))
   (zY (PW1.mk (zq (i:=8) nd rfl (Or.inl rfl) (zo yd (pv 0) zb)))
   (zY (PW1.mk (zv (zg zO (pv 7) zb (zm _)) (ze (zk (zt (za zf (za (pv 1) (za (zi zx (pv 2) zb (λ_ _=>rfl)) (za (zo zD (pv 8) (zE zr (by rfl) hlen PySem.boot_len (za (pv 5) zc))) (za (pv 3) zc)))))))) zj))
   (zY (PW1.mk (zv (zg Yf (pv 7) zb (zm _)) (ze (zk (zt (za zf (za (pv 1) (za (zi zx (pv 6) (zo zD (pv 8) zb) (λ_ _=>rfl)) (za (zi zx (pv 2) zb (λ_ _=>rfl)) (za (zi zx (pv 2) zb (λ_ _=>rfl)) (za (pv 3) zc))))))))) zj))
   (zY (PW1.mk (zv (zg zO (pv 7) zb (zm _)) (ze (zk (zt (za zf (za (pv 1) (za (zi zx (pv 2) zb (λ_ _=>rfl)) (za (pv 3) zc))))))) zj))
   (zY (PW1.mk (zv (zg zO (pv 7) zb (zm _)) (ze (zk (zt (za zf (za (zi zx (zH (za zb (za zb (za zb zc)))) (zo zD (pv 8) zb) (λ_ _=>rfl)) (za (zi zx (pv 2) zb (λ_ _=>rfl)) (za (pv 3) zc))))))) zj))
   (zY (PW1.mk (zv (zg zO (pv 7) zb (zm _)) (ze (zk (zt (za zf (za (pv 1) (za (zi zx (zH (za zb (za zb (za zb zc)))) (zo zD (pv 8) zb) (λ_ _=>rfl)) (za (pv 3) zc))))))) zj))
   (pb_one (PW1.mk (zk (zt (za zf (za (pv 1) (za (zi zx (pv 2) zb (λ_ _=>rfl)) (za (zi zx (pv 2) zb (λ_ _=>rfl)) (za (pv 4) (za (pv 3) zc)))))))))))))))))),?_⟩
 refine ⟨szU 12,λsg nsg=>?_⟩;have s0:Same H (upd H sg (.lst (signs.map V.str))):=zU (Same.refl H) nsg;have esg:upd H sg (.lst (signs.map V.str)) sg=some (.lst (signs.map V.str)):=zu;revert s0 esg;show Same H (upd H sg (.lst [.str "+",.str "-",.str "*",.str "/",.str "rest",.str "least",.str "most",.str "<",.str "=",.str "&",.str "|",.str "^"]))->upd H sg (.lst [.str "+",.str "-",.str "*",.str "/",.str "rest",.str "least",.str "most",.str "<",.str "=",.str "&",.str "|",.str "^"]) sg=some (.lst (signs.map V.str))->_;generalize upd H sg (.lst [.str "+",.str "-",.str "*",.str "/",.str "rest",.str "least",.str "most",.str "<",.str "=",.str "&",.str "|",.str "^"])=H0;intro s0 esg;have sp0:=zF sp s0;have sl0:=zF sl s0;refine ⟨_,rfl,_,_,rfl,rfl,(by show (0:Int)<9;decide),_,rfl,_,_,rfl,rfl,⟨by decide,by decide⟩,?_⟩;generalize c % 9=how;generalize c / 9=rest
 have fin:∀ {k:Sk} {J:Hp} {p:Ad},Same H J->J p=none->WfS k->Yh k->Q (.ref p) (upd J p (.tup (k.map kV))):=λ{k J p} sJ np wf nm=>by
  obtain ⟨s2,t2⟩:=xS (k:=k) np;exact q _ _ _ (sJ.trans s2) t2 wf nm
 have slotAt:∃ x:Int,atI [V.int 0,V.int 1,V.int 59] (rest % 3)=some (V.int x):=by
  have:rest % 3=0∨rest % 3=1∨rest % 3=2:=by omega
  rcases this with e | e | e <;> rw [e]
  ·exact ⟨0,rfl⟩
  ·exact ⟨1,rfl⟩
  ·exact ⟨59,rfl⟩
 obtain ⟨sl59,esl⟩:=slotAt;refine ⟨_,rfl,rfl,_,rfl,?_⟩;rw [eqI];by_cases h0:how=0
 ·rw [decide_eq_true h0]
  refine zC ⟨_,rfl,_,rfl,pr,_,_,_,rfl,rfl,sp0,zM (j:=0) rfl,_,rfl,_,rfl,l,_,rfl,.inl sl0,_,_,rfl,rfl,(by show (0:Int)<_;rw [Jo,l4];decide),_,rfl,szU 5,λp np=>?_⟩;exact fin (k:=[.inr "gather",.inl se,.inl a,.inl (rest % ((ls.map V.int).length:Int)),.inl ms]) s0 np (wfI (by show (("gather":Str),5)∈z7;decide) (by decide +kernel) rfl (by decide) (by decide)) (nM (by decide))
 rw [decide_eq_false h0];refine zy ⟨_,rfl,_,_,rfl,rfl,_,rfl,xN (λh1=>?_) (λh1=>?_)⟩
 ·have hz:(((rest % 12).toNat:Nat):Int)=rest % 12:=by omega
  have hl:(rest % 12).toNat<signs.length:=by show (rest % 12).toNat<12;omega
  have e:(signs.map V.str)[(rest % 12).toNat]?=some (V.str (signs[(rest % 12).toNat]'hl)):=by
   rw [List.getElem?_map,List.getElem?_eq_getElem hl];rfl
  have hin:signs[(rest % 12).toNat]'hl∈signs:=List.getElem_mem hl;generalize signs[(rest % 12).toNat]'hl=sv at e hin;refine ⟨_,rfl,_,rfl,_,rfl,_,_,rfl,rfl,(by show (0:Int)<12;decide),sg,_,_,_,rfl,rfl,SqL.of esg,(by rw [← hz];exact zM e),_,rfl,pr,_,_,_,rfl,rfl,sp0,zM (j:=0) rfl,_,rfl,pr,_,_,_,rfl,rfl,sp0,zM (j:=1) rfl,_,rfl,szU 6,λp np=>?_⟩;exact fin (k:=[.inr "op",.inl se,.inr sv,.inl a,.inl b,.inl ms]) s0 np (wf_op hin) (nM (by decide))
 refine ⟨_,rfl,rfl,_,rfl,?_⟩;rw [eqI];by_cases h4:how=4
 ·rw [decide_eq_true h4]
  refine zC ⟨_,rfl,_,rfl,pr,_,_,_,rfl,rfl,sp0,zM (j:=0) rfl,_,rfl,szU 4,λp np=>?_⟩;exact fin (k:=[.inr "copy",.inl se,.inl a,.inl ms]) s0 np (wfI (by show (("copy":Str),4)∈z7;decide) (by decide +kernel) rfl (by decide) (by decide)) (nM (by decide))
 rw [decide_eq_false h4];refine zy ⟨_,rfl,rfl,_,rfl,?_⟩;rw [eqI];by_cases h5:how=5
 ·rw [decide_eq_true h5]
  refine zC ⟨szU 3,λx nx=>?_⟩;generalize hX:upd _ _ _=H1;obtain ⟨s1,e1⟩:=yr hX nx;clear hX;refine ⟨_,rfl,_,_,rfl,rfl,(by show (0:Int)<3;decide),x,_,_,_,rfl,rfl,SqL.of e1,esl,_,rfl,pr,_,_,_,rfl,rfl,zF sp0 s1,zM (j:=0) rfl,_,rfl,szU 4,λp np=>?_⟩;exact fin (k:=[.inr "save",.inl sl59,.inl a,.inl ms]) (s0.trans s1) np (wfI (by show (("save":Str),4)∈z7;decide) (by decide +kernel) rfl (by decide) (by decide)) (nM (by decide))
 rw [decide_eq_false h5];refine zy ⟨_,rfl,rfl,_,rfl,?_⟩;rw [eqI];by_cases h6:how=6
 ·rw [decide_eq_true h6]
  refine zC ⟨_,rfl,szU 3,λx nx=>?_⟩;generalize hX:upd _ _ _=H1;obtain ⟨s1,e1⟩:=yr hX nx;clear hX;refine ⟨_,rfl,_,_,rfl,rfl,(by show (0:Int)<3;decide),x,_,_,_,rfl,rfl,SqL.of e1,esl,_,rfl,szU 4,λp np=>?_⟩;exact fin (k:=[.inr "bring",.inl se,.inl sl59,.inl ms]) (s0.trans s1) np (wfI (by show (("bring":Str),4)∈z7;decide) (by decide +kernel) rfl (by decide) (by decide)) (nM (by decide))
 rw [decide_eq_false h6];refine zy ⟨_,rfl,_,rfl,pr,_,_,_,rfl,rfl,sp0,zM (j:=0) rfl,_,rfl,pr,_,_,_,rfl,rfl,sp0,zM (j:=1) rfl,_,rfl,_,rfl,szU 6,λp np=>?_⟩;exact fin (k:=[.inr "pick",.inl se,.inl a,.inl b,.inl ot,.inl ms]) s0 np (wfI (by show (("pick":Str),6)∈z7;decide) (by decide +kernel) rfl (by decide) (by decide)) (nM (by decide))
def spEf (K:Fg) (vs:Jt) (H:Hp) (Q:VK) (_:XK):Prop:=∃ (c ms mn_ a b:Int) (pr l:Ad) (ls:Jh),vs=[.int c,.ref pr,.int ms,.ref l,.int mn_]/\SqL K H pr [.int a,.int b]/\SqL K H l (ls.map V.int)/\ls.length=4/\mn_∈ls/\∀ B H' l xs ks,Same H B->Hd B [(l,.lst xs)] H'->TupL B xs ks->ks.length<=2->(∀ k∈ks,WfS k/\Yh k)->Q (.ref l) H'
def zb1 (d:zp K mg "_law_effects" xy ["_law_cell_here","_law_pair","_law_mask","_law_lengths","_law_many"]) (hlen:mg "len"=none) (hrg:mg "range"=none):Ok P w K mg base CX0 1 "_law_effects" ["_law_cell_here","_law_pair","_law_mask","_law_lengths","_law_many"] (spEf K):=by
 obtain ⟨g,fd,m,F,b⟩:=d;refine ⟨g,fd,m,F.kp,b,F.okB sc_l_effects (by rintro vs H Q E ⟨_,_,_,_,_,_,_,_,e,_⟩;rw [e];rfl) λcdv A outer s H vs Q E hr h=>?_⟩;obtain ⟨c,ms,mn_,a,b,pr,l,ls,rfl,sp,sl,l4,mm,q⟩:=h;have nd:=sc_l_effects.nd;have SZ:(1000:Nat)<sizeLine:=by decide
 refine ⟨_,(zY (pw_ks (i:=5) nd rfl (Or.inl rfl) rfl)
   (zY (PW1.mk (zq (i:=6) nd rfl (Or.inl rfl) (zo zD (pv 0) zb)))
   (zY (PW1.mk (zq (i:=7) nd rfl (Or.inl rfl) (zo yd (pv 0) zb)))
   (zY (PW1.mk (ZO (i:=8) ["_law_row","_law_many","_law_lengths"] [none,some 4,some 3] rfl rfl rfl (xc rfl hrg (za (zE zr (by rfl) hlen PySem.boot_len (za (pv 3) zc)) zc)) (λs3 H3 fp=>⟨zV (i:=0) (Jv ["_law_row","_law_many","_law_lengths"]) rfl (Or.inl rfl),(zg op_ge (zi (Y8 (K:=K) rfl) (pv 2) (pv 0) (λ_ _=>rfl)) (pv 1) (zm _)),(pv 0)⟩) nd rfl (Or.inl rfl)))
   (zY (PW1.mk (zq (i:=9) nd rfl (Or.inl rfl) (zo zD (pv 7) (zE zr (by rfl) hlen PySem.boot_len (za (pv 3) zc)))))
   (zY (PW1.mk (zv (zg zO (pv 6) zb (zm _)) (ze (zk (zH (za (zt (za zf (za (zi zx (pv 8) (zo zD (pv 7) (zE zr (by rfl) hlen PySem.boot_len (za (pv 8) zc))) (λ_ _=>rfl)) (za (zi zx (pv 1) zb (λ_ _=>rfl)) (za (pv 2) zc))))) zc)))) zj))
   (zY (PW1.mk (zv (zg zO (pv 6) zb (zm _)) (ze (zk (zH (za (zt (za zf (za (zi zx (pv 1) zb (λ_ _=>rfl)) (za (zi zx (pv 3) (pv 9) (λ_ _=>rfl)) (za (pv 2) zc))))) (za (zt (za zf (za (pv 9) (za (zi zx (pv 1) zb (λ_ _=>rfl)) (za (zi zx (pv 1) zb (λ_ _=>rfl)) (za (pv 2) zc)))))) zc))))) zj))
   (zY (PW1.mk (zv (zg zO (pv 6) zb (zm _)) (ze (zk (zH (za (zt (za zf (za (pv 9) (za (zi zx (pv 5) (zo zD (zo yd (pv 7) zb) zb) (λ_ _=>rfl)) (za (zi zx (pv 1) zb (λ_ _=>rfl)) (za (pv 2) zc)))))) zc)))) zj))
   (zY (PW1.mk (zv (zg zO (pv 6) zb (zm _)) (ze (zk (zH (za (zt (za zf (za (zi zx (pv 8) (zo zD (pv 7) (zE zr (by rfl) hlen PySem.boot_len (za (pv 8) zc))) (λ_ _=>rfl)) (za (zi zx (pv 5) (zo zD (zo yd (pv 7) zb) zb) (λ_ _=>rfl)) (za (zi zx (pv 1) zb (λ_ _=>rfl)) (za (pv 2) zc)))))) zc)))) zj))
   (zY (PW1.mk (zv (zg zO (pv 6) zb (zm _)) (ze (zk (zH (za (zt (za zf (za (zi zx (pv 1) zb (λ_ _=>rfl)) (za (pv 2) zc)))) zc)))) zj))
   (pb_one (PW1.mk (zk (zH (za (zt (za zf zc)) (za (zt (za zf (za (zo zD (pv 7) zb) zc))) zc)))))))))))))))),?_⟩
 refine ⟨szU 9,λfo nfo=>?_⟩;have s0:Same H (upd H fo (.lst (folds.map V.str))):=zU (Same.refl H) nfo;have efo:upd H fo (.lst (folds.map V.str)) fo=some (.lst (folds.map V.str)):=zu;revert s0 efo;show Same H (upd H fo (.lst [.str "sum",.str "product",.str "least",.str "most",.str "both",.str "either",.str "odd",.str "chain",.str "capped"]))->upd H fo (.lst [.str "sum",.str "product",.str "least",.str "most",.str "both",.str "either",.str "odd",.str "chain",.str "capped"]) fo=some (.lst (folds.map V.str))->_;generalize upd H fo (.lst [.str "sum",.str "product",.str "least",.str "most",.str "both",.str "either",.str "odd",.str "chain",.str "capped"])=H0;intro s0 efo;have sp0:=zF sp s0;have sl0:=zF sl s0;refine ⟨_,rfl,_,_,rfl,rfl,(by show (0:Int)<6;decide),_,rfl,_,_,rfl,rfl,⟨by decide,by decide⟩,?_⟩;generalize c % 6=how;generalize c / 6=rest;refine ⟨_,rfl,l,_,rfl,.inl sl0,_,rfl,by rw [Jo,l4];decide,by rw [Jo,l4];decide,_,rfl,λD nD=>?_⟩;rw [Jo,l4];refine xA (n:=4) (λi σ J=>∃ u,σ=[u,iq mn_,rq l]/\Hd H0 [(D,.lst ((xo ls mn_ i).map λr:Nat=>V.int r))] J) ⟨none,rfl,Hd.base.new nD⟩ ?_ ?_
 ·rintro i σ J hi ⟨u,rfl,h⟩
  have e0:atI (ls.map V.int) (0+(i:Int))=some (V.int (ls.getD i 0)):=by
   rw [Int.zero_add];exact zM (by rw [List.getElem?_map,q0z,List.getElem?_eq_getElem (by omega)];rfl)
  refine ⟨_,rfl,_,rfl,l,_,_,_,rfl,rfl,h.sql sl0,e0,_,rfl,_,_,rfl,rfl,_,rfl,?_⟩;have ws:=ZZ ls mn_ i;have wl:=XL ls mn_ i;by_cases hm:mn_<=ls.getD i 0
  ·rw [if_pos hm] at ws
   rw [show decide (ls.getD i 0 ≥ mn_)=true from decide_eq_true hm];refine zC ⟨_,rfl,_,h.get 0 rfl,by rw [Jo];omega,_,rfl,?_⟩;rw [ws,Jq,Int.zero_add];exact h.fput
  ·rw [if_neg hm] at ws
   rw [show decide (ls.getD i 0 ≥ mn_)=false from decide_eq_false hm];refine zy ⟨_,rfl,?_⟩;rw [ws];exact h
 rintro σ J ⟨u,rfl,h⟩;have wp:=YF mm;rw [l4] at wp;have eD:=h.get 0 rfl;have slJ:=h.sql sl0;have spJ:=h.sql sp0;have foJ:=h.sm _ _ efo;have sJ:=s0.trans h.sm;clear h;obtain ⟨v,mv,ev⟩:=ZD (xs:=(xo ls mn_ 4).map λr:Nat=>V.int r) (i:=rest) (by rw [Jo];exact wp);obtain ⟨r,_,rfl⟩:=List.mem_map.mp mv;have lz:((ls.map V.int).length:Int)=4:=by rw [Jo,l4];rfl
 refine ⟨_,rfl,_,rfl,l,_,rfl,.inl slJ,_,_,rfl,rfl,(by show (0:Int)<_;rw [lz];decide),?_⟩;rw [lz];obtain ⟨rw',erw⟩:∃ j:Nat,rest % 4=j:=⟨(rest % 4).toNat,by omega⟩;have rl:rw'<4:=by omega
 rw [erw];have elr:atI (ls.map V.int) (rw':Int)=some (V.int (ls.getD rw' 0)):=zM (by rw [List.getElem?_map,q0z,List.getElem?_eq_getElem (by omega)];rfl)
 obtain ⟨fv,fm,ef⟩:∃ fv,fv∈folds/\atI (folds.map V.str) (rest / 7 % 9)=some (V.str fv):=by
  obtain ⟨v,mv,ev⟩:=ZD (xs:=folds.map V.str) (i:=rest / 7) (by decide);obtain ⟨x,mx,rfl⟩:=List.mem_map.mp mv;exact ⟨x,mx,ev⟩
 have one:∀ {k:Sk} {p l2:Ad},J p=none->upd J p (.tup (k.map kV)) l2=none->WfS k->Yh k->Q (.ref l2) (upd (upd J p (.tup (k.map kV))) l2 (.lst [.ref p])):=λ{k p l2} np nl wf nm=>by
  obtain ⟨s2,t2⟩:=xS (k:=k) np;exact q _ _ l2 [.ref p] [k] (sJ.trans s2) (Hd.base.new nl) (.cons t2 .nil) (by show 1<=2;decide) λx m=>by rw [List.mem_singleton.mp m];exact ⟨wf,nm⟩
 have two:∀ {k k2:Sk} {p p2 l2:Ad},J p=none->upd J p (.tup (k.map kV)) p2=none->upd (upd J p (.tup (k.map kV))) p2 (.tup (k2.map kV)) l2=none->WfS k->Yh k->WfS k2->Yh k2->Q (.ref l2) (upd (upd (upd J p (.tup (k.map kV))) p2 (.tup (k2.map kV))) l2 (.lst [.ref p,.ref p2])):=λ{k k2 p p2 l2} np np2 nl wf nm wf2 nm2=>by
  obtain ⟨s2,t2⟩:=xS (k:=k) np;obtain ⟨s3,t3⟩:=xS (k:=k2) np2
  exact q _ _ l2 [.ref p,.ref p2] [k,k2] (sJ.trans (s2.trans s3)) (Hd.base.new nl) (.cons (t2.same s3) (.cons t3 .nil)) (Nat.le_refl _) λx m=>by
   rcases List.mem_cons.mp m with rfl | m
   ·exact ⟨wf,nm⟩
   ·rw [List.mem_singleton.mp m];exact ⟨wf2,nm2⟩
 refine ⟨_,rfl,rfl,_,rfl,?_⟩;rw [eqI];by_cases h0:how=0
 ·rw [decide_eq_true h0]
  refine zC ⟨_,rfl,_,rfl,_,rfl,D,_,rfl,.inl (SqL.of eD),_,_,rfl,rfl,(by show (0:Int)<_;rw [Jo];omega),D,_,_,_,rfl,rfl,SqL.of eD,ev,_,rfl,pr,_,_,_,rfl,rfl,spJ,zM (j:=0) rfl,_,rfl,szU 4,λp np=>⟨szU 1,λl2 nl=>?_⟩⟩;exact one (k:=[.inr "store",.inl (r:Int),.inl a,.inl ms]) np nl (wfI (by show (("store":Str),4)∈z7;decide) (by decide +kernel) rfl (by decide) (by decide)) (nM (by decide))
 rw [decide_eq_false h0];refine zy ⟨_,rfl,rfl,_,rfl,?_⟩;rw [eqI];by_cases h1:how=1
 ·rw [decide_eq_true h1]
  refine zC ⟨_,rfl,pr,_,_,_,rfl,rfl,spJ,zM (j:=0) rfl,_,rfl,_,rfl,l,_,_,_,rfl,rfl,slJ,elr,_,rfl,szU 4,λp np=>?_⟩;have s1:Same J (upd J p (.tup (([.inr "reach",.inl a,.inl (ls.getD rw' 0),.inl ms]:Sk).map kV))):=zU (Same.refl _) np;refine ⟨_,rfl,_,rfl,pr,_,_,_,rfl,rfl,zF spJ s1,zM (j:=0) rfl,_,rfl,pr,_,_,_,rfl,rfl,zF spJ s1,zM (j:=1) rfl,_,rfl,szU 5,λp2 np2=>⟨szU 2,λl2 nl=>?_⟩⟩;exact two (k:=[.inr "reach",.inl a,.inl (ls.getD rw' 0),.inl ms]) (k2:=[.inr "put",.inl (rw':Int),.inl a,.inl b,.inl ms]) np np2 nl (wfI (by show (("reach":Str),4)∈z7;decide) (by decide +kernel) rfl (by decide) (by decide)) (nM (by decide)) (wfI (by show (("put":Str),5)∈z7;decide) (by decide +kernel) rfl (by decide) (by decide)) (nM (by decide))
 rw [decide_eq_false h1];refine zy ⟨_,rfl,rfl,_,rfl,?_⟩;rw [eqI];have fok:∀ x y z:Int,([.inl x,.inr fv,.inl y,.inl z]:Sk).all kOk=true:=λx y z=>by rw [List.all_cons,List.all_cons,folds_ok fv fm];rfl
 by_cases h2:how=2
 ·rw [decide_eq_true h2]
  refine zC ⟨_,rfl,_,rfl,_,rfl,_,_,rfl,rfl,⟨by decide,by decide⟩,_,_,rfl,rfl,(by show (0:Int)<9;decide),fo,_,_,_,rfl,rfl,SqL.of foJ,ef,_,rfl,pr,_,_,_,rfl,rfl,spJ,zM (j:=0) rfl,_,rfl,szU 5,λp np=>⟨szU 1,λl2 nl=>?_⟩⟩;exact one (k:=[.inr "fold",.inl (rw':Int),.inr fv,.inl a,.inl ms]) np nl (wfI (by show (("fold":Str),5)∈z7;decide) (by decide +kernel) (fok _ _ _) (by decide) (by decide)) (nM (by decide))
 rw [decide_eq_false h2];refine zy ⟨_,rfl,rfl,_,rfl,?_⟩;rw [eqI];by_cases h3:how=3
 ·rw [decide_eq_true h3]
  refine zC ⟨_,rfl,_,rfl,_,rfl,D,_,rfl,.inl (SqL.of eD),_,_,rfl,rfl,(by show (0:Int)<_;rw [Jo];omega),D,_,_,_,rfl,rfl,SqL.of eD,ev,_,rfl,_,rfl,_,_,rfl,rfl,⟨by decide,by decide⟩,_,_,rfl,rfl,(by show (0:Int)<9;decide),fo,_,_,_,rfl,rfl,SqL.of foJ,ef,_,rfl,pr,_,_,_,rfl,rfl,spJ,zM (j:=0) rfl,_,rfl,szU 5,λp np=>⟨szU 1,λl2 nl=>?_⟩⟩;exact one (k:=[.inr "running",.inl (r:Int),.inr fv,.inl a,.inl ms]) np nl (wfI (by show (("running":Str),5)∈z7;decide) (by decide +kernel) (fok _ _ _) (by decide) (by decide)) (nM (by decide))
 rw [decide_eq_false h3];refine zy ⟨_,rfl,rfl,_,rfl,?_⟩;rw [eqI];by_cases h4:how=4
 ·rw [decide_eq_true h4]
  refine zC ⟨_,rfl,pr,_,_,_,rfl,rfl,spJ,zM (j:=0) rfl,_,rfl,szU 3,λp np=>⟨szU 1,λl2 nl=>?_⟩⟩;exact one (k:=[.inr "any",.inl a,.inl ms]) np nl (wfI (by show (("any":Str),3)∈z7;decide) (by decide +kernel) rfl (by decide) (by decide)) (nM (by decide))
 rw [decide_eq_false h4];refine zy ⟨szU 1,λp np=>⟨_,rfl,_,_,rfl,rfl,(by show (0:Int)<40;decide),szU 2,λp2 np2=>⟨szU 2,λl2 nl=>?_⟩⟩⟩;exact two (k:=[.inr "trim"]) (k2:=[.inr "stop",.inl (rest % 40)]) np np2 nl (wfI (by show (("trim":Str),1)∈z7;decide) (by decide +kernel) rfl (by decide) (by decide)) (nM (by decide)) (wfI (by show (("stop":Str),2)∈z7;decide) (by decide +kernel) rfl (by decide) (by decide)) (nM (by decide))
end
def StAt.obj {n:Nat} {B:Hp} {A:BA} {S:BS} {xs:Jt} {H:Hp} {p:Ad} {o:HO} (st:StAt n B A S xs H) (np:H p=none):∃ B',Same B B'/\StAt n B' A S xs (upd H p o)/\B' p=some o:=by
 obtain ⟨B',s',e',h'⟩:=hdG st.h rfl np;exact ⟨B',s',⟨s' _ _ st.t,h',st.x.same s',st.o⟩,e'⟩
def key_some {d:Di} {ns:Jh} (h:ns.Perm (d.map λq=>keyI q.1)) (ki:∀ p∈d,∃ j,p.1=.inl j) {x:Int} (m:x∈ns):(zK d (.inl x)).isSome=true:=by
 obtain ⟨p,mp,e⟩:=List.mem_map.mp (h.mem_iff.mp m);obtain ⟨j,ej⟩:=ki p mp;rw [ej] at e;have e:j=x:=e;subst e
 cases hv:zK d (.inl j) with
 | some v=>rfl
 | none=>exact absurd (List.mem_map.mpr ⟨p,mp,ej⟩) (YJ hv)
section
variable {P:Program} {w:World} {K:Fg} {mg:J0} {base:Heap} {aS aR aF:Ad}
def spCe (K:Fg) (vs:Jt) (H:Hp) (Q:VK) (_:XK):Prop:=∃ (n:Nat) (B:Hp) (A:BA) (S:BS) (xs:Jt) (c mn_ seats:Int) (l:Ad) (ls:Jh),vs=[.ref A.st,.int c,.ref l,.int mn_,.int seats]/\StAt n B A S xs H/\n<=60/\SqL K B l (ls.map V.int)/\ls.length=4/\mn_∈ls/\1<=seats/\seats<=8/\∀ B' H' S' xs',Same B B'->StAt (n+2) B' A S' xs' H'->Q .non H'
def ok_cell (d:zp K mg "_law_cell" ZL ["_law_state","_law_cell_here","_law_lengths","_law_many","_law_seats"]) (hlen:mg "len"=none) (hrg:mg "range"=none) (hsort:mg "sorted"=none) (MX:Ok P w K mg base CX0 1 "_law_mix" ["_law_cell_here","_law_factor","_law_prime"] spMx) (UN:Ok P w K mg base CX0 1 "_law_under" ["_law_state","_law_inner","_law_outer"] spUn) (LS:Ok P w K mg base CX0 1 "_law_lays_seat" ["_law_step"] spLS) (AD:Ok P w K mg base CX0 4 "_law_add" ["_law_state","_law_step"] spAd) (AM:Ok P w K mg base CX0 5 "_law_add_masks" ["_law_state","_law_at","_law_seat","_law_mask"] spAM)
  (LF:Ok P w K mg base CX0 2 "_law_leaf" ["_law_cell_here","_law_seat","_law_mask","_law_lengths","_law_many"] (spLf K)) (JO:Ok P w K mg base CX0 1 "_law_joint" ["_law_cell_here","_law_seat","_law_pair","_law_mask","_law_other","_law_lengths"] (spJo K)) (EF:Ok P w K mg base CX0 1 "_law_effects" ["_law_cell_here","_law_pair","_law_mask","_law_lengths","_law_many"] (spEf K)):Ok P w K mg base CX0 6 "_law_cell" ["_law_state","_law_cell_here","_law_lengths","_law_many","_law_seats"] (spCe K):=by
 obtain ⟨g,fd,m,F,bb⟩:=d;refine ⟨g,fd,m,F.kp,bb,F.ok sc_l_cell (by rintro vs H Q E ⟨_,_,_,_,_,_,_,_,_,_,e,_⟩;rw [e];rfl) λcdv A outer s H vs Q E hr h=>?_⟩;obtain ⟨n,B,A,S,xs,c,mn_,seats,l,ls,rfl,st,n6,sl,l4,mm,s1,s8,q⟩:=h;have hr5:Room 5 _:=hr;have hr4:Room 4 _:=hr.mono (by decide);have hr2:Room 2 _:=hr.mono (by decide);have hr1:Room 1 _:=hr.mono (by decide);have hu64:=hr.units;have hu:=Nat.lt_of_le_of_lt (Nat.add_le_add_left (show 1<=64 by decide) _) hr.units;have nd:=sc_l_cell.nd;have SZ:(1000:Nat)<sizeLine:=by decide
 have o:=st.o;have o3:=o.n3;refine ⟨_,(zd (zq (i:=5) nd rfl (Or.inl rfl) (pe_sortK rfl (by rfl) hsort (zL hu (pv 0) zf (λ_ _=>rfl))))
   (zd (yg (zq (i:=6) nd rfl (Or.inr rfl) (xX (zg zO (zo zD (pv 1) zb) zb (zm _)) zb (zi zx (pv 5) (zo zD (zw MX hr1 (by rfl) zz (za (pv 1) (za zb (za zb zc)))) (zE zr (by rfl) hlen PySem.boot_len (za (pv 5) zc))) (λ_ _=>rfl)))))
   (zd (zq (i:=7) nd rfl (Or.inl rfl) (zo zD (zw MX hr1 (by rfl) zz (za (pv 1) (za zb (za zb zc)))) (pv 4)))
   (zd (ZO (i:=8) ["_law_p","_law_state","_law_mask"] [none,some 0,some 6] rfl rfl rfl (xc rfl hrg (za (pv 4) zc)) (λs3 H3 fp=>⟨zV (i:=0) (Jv ["_law_p","_law_state","_law_mask"]) rfl (Or.inl rfl),(yi (zw UN hr1 (by rfl) zz (za (pv 1) (za (zL hu (zL hu (pv 1) zf (λ_ _=>rfl)) (pv 2) (λ_ _=>rfl)) (za (yI hu (zL hu (pv 1) zf (λ_ _=>rfl)) (pv 0) (yo z4 zb) ⟨rfl,rfl,rfl,rfl⟩) zc))))),(pv 0)⟩) nd rfl (Or.inl rfl))
   (zd (zq (i:=10) nd rfl (Or.inl rfl) (zw MX hr1 (by rfl) zz (za (pv 1) (za zb (za zb zc)))))
   (zd (zq (i:=11) nd rfl (Or.inl rfl) (zo zD (pv 10) zb))
   (zd (zv (xK (xU (zg (xZ hu64) (pv 8) (zH zc) (zm _)) (xJ (zg Yf (pv 11) zb (zm _)))).pt) (zd (zG (zw AD hr4 (by rfl) zz (za (pv 0) (za (zw LF hr2 (by rfl) zz (za (zo yd (pv 10) zb) (za (pv 7) (za (pv 6) (za (pv 2) (za (pv 3) zc)))))) zc))))
   (ze XZ)) zj)
   (zd (zq (i:=12) nd rfl (Or.inl rfl) (zH (za (zi zx (pv 8) (zo zD (zo yd (pv 10) zb) (zE zr (by rfl) hlen PySem.boot_len (za (pv 8) zc))) (λ_ _=>rfl)) (za (zi zx (pv 8) (zo zD (zw MX hr1 (by rfl) zz (za (pv 1) (za zb (za zb zc)))) (zE zr (by rfl) hlen PySem.boot_len (za (pv 8) zc))) (λ_ _=>rfl)) zc))))
   (ze (zv (zg Yf (pv 11) zb (zm _)) (zd (zq (i:=13) nd rfl (Or.inl rfl) (zi zx (pv 5) (zo zD (zw MX hr1 (by rfl) zz (za (pv 1) (za zb (za zb zc)))) (zE zr (by rfl) hlen PySem.boot_len (za (pv 5) zc))) (λ_ _=>rfl)))
   (ze (zG (zw AD hr4 (by rfl) zz (za (pv 0) (za (zw JO hr1 (by rfl) zz (za (zw MX hr1 (by rfl) zz (za (pv 1) (za zb (za zb zc)))) (za (pv 7) (za (pv 12) (za (pv 6) (za (pv 13) (za (pv 2) zc))))))) zc)))))) (ze (zv (zg Yf (pv 11) zb (zm _)) (ze (zG (zw AM hr5 (by rfl) zz (za (pv 0) (za (zo yJ zb (zo Z5 zb (zo zD (zw MX hr1 (by rfl) zz (za (pv 1) (za zb (za zb zc)))) zb))) (za (zi zx (pv 12) zb (λ_ _=>rfl)) (za (pv 6) zc))))))) (ze (zv (zg Yf (pv 11) zb (zm _)) (ze (ym PassesOwn.never rfl (yj (zw EF hr1 (by rfl) zz (za (zw MX hr1 (by rfl) zz (za (pv 1) (za zb (za zb zc)))) (za (pv 12) (za (pv 6) (za (pv 2) (za (pv 3) zc))))))) (zV (i:=14) nd rfl (Or.inl rfl)) (ze (zG (zw AD hr4 (by rfl) zz (za (pv 0) (za (pv 14) zc))))))) (zd (zq (i:=15) nd rfl (Or.inl rfl) (zi zx (zL hu (pv 0) zf (λ_ _=>rfl)) (zo zD (zw MX hr1 (by rfl) zz (za (pv 1) (za zb (za zb zc)))) (zE zr (by rfl) hlen PySem.boot_len (za (zL hu (pv 0) zf (λ_ _=>rfl)) zc))) (λ_ _=>rfl)))
   (ze (zv (xK (xU (yi (zw LS hr1 (by rfl) zz (za (pv 15) zc))) (xJ (zg zN (zi zn (pv 15) zb (λ_ _=>rfl)) (zt (za zf (za zf zc))) rfl))).pt) (ze (zG (zw AD hr4 (by rfl) zz (za (pv 0) (za (pv 15) zc))))) zj))))))))))))))))),?_⟩
 dsimp only [yh,Cx.nox,Cx.wish];refine ⟨_,rfl,A.st,_,rfl,zX (Q:=Q) (st.h.sm _ _ st.t) rfl,A.ma,S.ma,rfl,st.h.get 2 rfl,o.ki,by omega,λDm ns nDm perm=>?_⟩;obtain ⟨B1,sB1,st1,eDm⟩:=st.obj (o:=.lst (ns.map V.int)) nDm;generalize upd H Dm (.lst (ns.map V.int))=H1 at st1 ⊢
 have nl:0<ns.length:=by
  rw [perm.length_eq,Jo];have:=o.m0
  cases hd:S.ma with
  | nil=>rw [hd] at this;cases this
  | cons _ _=>exact Nat.succ_pos _
 have kat:∀ i:Int,∃ x:Int,x∈ns/\atI (ns.map V.int) (i % ((ns.map V.int).length:Int))=some (V.int x):=λi=>by
  obtain ⟨v,mv,ev⟩:=ZD (xs:=ns.map V.int) (i:=i) (by rw [Jo];exact nl);obtain ⟨x,mx,rfl⟩:=List.mem_map.mp mv;exact ⟨x,mx,ev⟩
 have eD1:SqL K H1 Dm (ns.map V.int):=SqL.of (st1.h.sm _ _ eDm);refine ⟨λσ J=>J=H1/\∃ ms:Int,(zK S.ma (.inl ms)).isSome=true/\σ=[rq A.st,iq c,rq l,iq mn_,iq seats,rq Dm,iq ms,none,none,none,none,none,none,none,none,none],?_,?_⟩
 ·refine ⟨_,rfl,_,_,rfl,rfl,(by show (0:Int)<2;decide),rfl,_,rfl,xN (λz=>⟨rfl,0,o.m0,rfl⟩) (λz=>?_)⟩
  obtain ⟨x,mx,ex⟩:=kat (c*48271 % 2147483647);exact ⟨_,rfl,_,rfl,c,48271,2147483647,rfl,by decide,by decide,by decide,_,rfl,Dm,_,rfl,.inl eD1,_,_,rfl,rfl,(by show (0:Int)<_;rw [Jo];omega),Dm,_,_,_,rfl,rfl,eD1,ex,rfl,x,key_some perm o.ki mx,rfl⟩
 rintro σ J ⟨rfl,ms,hms,rfl⟩
 obtain ⟨cm,ecm,cm0,cm1⟩:∃ i:Int,zK S.ma (.inl ms)=some (.int i)/\0<=i/\i<S.pa.length:=by
  obtain ⟨v,ev⟩:=Option.isSome_iff_exists.mp hms;obtain ⟨i,rfl,h0,h1⟩:=di_get o.ma ev;exact ⟨i,ev,h0,h1⟩
 refine ⟨_,rfl,c,16807,2147483399,rfl,by decide,by decide,by decide,_,rfl,_,_,rfl,rfl,(by show (0:Int)<seats;omega),?_⟩;generalize c*16807 % 2147483399 % seats=se;refine ⟨_,rfl,_,rfl,by omega,by omega,_,rfl,λD nD=>?_⟩;refine xA (n:=seats.toNat) (λi σ J2=>∃ (u:Ju) (rs:Jh),σ=[u,rq A.st,iq ms]/\Hd J [(D,.lst (rs.map V.int))] J2/\rs.length<=i/\(rs≠[]->S.se≠[])) ⟨none,[],rfl,Hd.base.new nD,Nat.le_refl _,λz=>absurd rfl z⟩ ?_ ?_
 ·rintro i σ J2 hi ⟨u,rs,rfl,h,rl,rn⟩
  obtain ⟨B2,sB2,st2,_⟩:=st1.over h.sm;have et:=st2.h.sm _ _ st2.t;obtain ⟨oo,eoo,hoo⟩:=xz o.se (.inl (0+(i:Int))) (-2);refine ⟨_,rfl,_,rfl,A.st,_,rfl,zX (Q:=Q) et rfl,_,rfl,A.ma,_,rfl,by rw [← ecm];exact DGet.k (k:=.inl ms) (st2.h.get 2 rfl),_,rfl,A.st,_,rfl,zX (Q:=Q) et rfl,A.se,rfl,.inl ⟨_,.inl (st2.h.get 0 rfl)⟩,_,rfl,_,rfl,_,DGet.k (k:=.inl (0+(i:Int))) (st2.h.get 0 rfl),?_⟩;rw [eoo];refine ⟨n,B2,A,S,xs,cm,oo,rfl,st2,by omega,cm1,λb hb=>⟨_,rfl,?_⟩⟩
  cases b with
  | false=>exact zy ⟨_,rs,rfl,h,by omega,rn⟩
  | true =>
   have:-1<=oo:=hb rfl
   have sne:S.se≠[]:=λz=>by
    rcases hoo with ⟨h1,_⟩ | ⟨_,h1⟩
    ·rw [z] at h1;cases h1
    ·omega
   refine zC ⟨_,rfl,_,h.get 0 rfl,by rw [Jo];omega,_,rs++[0+(i:Int)],rfl,?_,by rw [Jp];exact Nat.succ_le_succ rl,λ_=>sne⟩;rw [Jq];exact h.fput
 rintro σ J2 ⟨u,rs,rfl,h,rl,rn⟩;obtain ⟨B2,sB2,st2,o2⟩:=st1.over h.sm
 have eD2:B2 D=some (.lst (rs.map V.int)):=by
  refine o2 _ _ (h.get 0 rfl) λm=>?_;obtain ⟨p,hp,e⟩:=List.mem_map.mp m;have:=st1.h.st p hp;rw [e,nD] at this;cases this
 have sBB:=sB1.trans sB2;have sl2:=zF sl sBB;have eDm2:=sB2 _ _ eDm;clear h;refine ⟨_,rfl,c,69621,2147483629,rfl,by decide,by decide,by decide,?_⟩;generalize c*69621 % 2147483629=dr;refine ⟨_,rfl,_,_,rfl,rfl,(by show (0:Int)<20;decide),?_⟩;generalize dr % 20=how;refine ⟨λb J3=>∃ B3,Same B2 B3/\StAt n B3 A S xs J3/\(b=false->rs≠[]),?_,?_⟩
 ·refine ⟨_,rfl,szU 0,λp np=>?_⟩
  obtain ⟨B3,sB3,st3,ep⟩:=st2.obj (o:=.lst []) np;generalize upd J2 p (.lst [])=J3 at st3 ⊢;refine ⟨dI rs,.list [],dv_ints (SqL.of (st3.h.sm _ _ (sB3 _ _ eD2))),.lst (SqL.of (st3.h.sm _ _ ep)) .nil,Yl,rfl,?_,_,rfl,?_⟩
  ·exact Nat.le_trans (dep_list Zv) (by decide)
  ·have e:PyData.eqv (dI rs) (.list [])=decide (rs=[]):=by
    unfold dI;cases rs <;> simp [PyData.eqv,PyData.eqvAll]
   show if PyData.eqv (dI rs) (.list [])=true then _ else _;rw [e];by_cases hr0:rs=[]
   ·rw [decide_eq_true hr0]
    exact zC ⟨B3,sB3,st3,λz=>by cases z⟩
   ·rw [decide_eq_false hr0]
    exact zy ⟨_,rfl,_,_,rfl,rfl,_,rfl,B3,sB3,st3,λ_=>hr0⟩
 rintro b J3 ⟨B3,sB3,st3,hb⟩;replace sBB:=sBB.trans sB3;have sl3:=zF sl2 sB3;have slJ:=st3.h.sql sl3
 cases b with
 | true =>
  refine zC ⟨_,rfl,_,rfl,_,_,rfl,rfl,⟨by decide,by decide⟩,_,rfl,_,rfl,_,rfl,_,rfl,dr / 20,se,ms,mn_,l,ls,rfl,slJ,l4,mm,λH4 u k s4 tk wk nk=>?_⟩;obtain ⟨B4,sB4,st4,o4⟩:=st3.over s4;exact ⟨n,B4,A,S,xs,u,k,rfl,st4,by omega,ovT st4.h o4 (zac _ _ _) tk,wk,λz=>by (rcases z with z | z;exact absurd z nk.1;exact absurd z nk.2),λB5 H5 S5 xs5 s5 st5 _=>q B5 H5 S5 xs5 (sBB.trans (sB4.trans s5)) (st5.mono (by omega))⟩
 | false =>
  have hrs:=hb rfl;have rpos:0<rs.length:=List.length_pos_iff.mpr hrs;have eD3:SqL K J3 D (rs.map V.int):=SqL.of (st3.h.sm _ _ (sB3 _ _ eD2));have eDm3:SqL K J3 Dm (ns.map V.int):=SqL.of (st3.h.sm _ _ (sB3 _ _ eDm2))
  have rat:∀ i:Int,∃ x:Int,atI (rs.map V.int) (i % ((rs.map V.int).length:Int))=some (V.int x):=λi=>by
   obtain ⟨v,mv,ev⟩:=ZD (xs:=rs.map V.int) (i:=i) (by rw [Jo];exact rpos);obtain ⟨x,_,rfl⟩:=List.mem_map.mp mv;exact ⟨x,ev⟩
  have rz:(0:Int)<((rs.map V.int).length:Int):=by rw [Jo];omega
  obtain ⟨pa,epa⟩:=rat (dr / 20);obtain ⟨pb,epb⟩:=rat (c*39373 % 2147483587);refine zy ⟨_,rfl,_,rfl,_,_,rfl,rfl,⟨by decide,by decide⟩,_,rfl,D,_,rfl,.inl eD3,_,_,rfl,rfl,rz,D,_,_,_,rfl,rfl,eD3,epa,_,rfl,_,rfl,c,39373,2147483587,rfl,by decide,by decide,by decide,_,rfl,D,_,rfl,.inl eD3,_,_,rfl,rfl,rz,D,_,_,_,rfl,rfl,eD3,epb,szU 2,λpr npr=>?_⟩;obtain ⟨B4,sB4,st4,epr⟩:=st3.obj (o:=.lst [.int pa,.int pb]) npr;generalize upd J3 pr (.lst [.int pa,.int pb])=J4 at st4 ⊢;replace sBB:=sBB.trans sB4;have sl4:=zF sl3 sB4;have slJ4:=st4.h.sql sl4;have prJ:SqL K J4 pr [.int pa,.int pb]:=SqL.of (st4.h.sm _ _ epr);refine ⟨_,rfl,_,_,rfl,rfl,_,rfl,xN (λz=>?_) (λz=>?_)⟩
  ·have eDm4:SqL K J4 Dm (ns.map V.int):=SqL.of (st4.h.sm _ _ (sB4 _ _ (sB3 _ _ eDm2)))
   obtain ⟨x,_,ex⟩:=kat (c*40692 % 2147483579);refine ⟨_,rfl,_,rfl,c,40692,2147483579,rfl,by decide,by decide,by decide,_,rfl,Dm,_,rfl,.inl eDm4,_,_,rfl,rfl,(by show (0:Int)<_;rw [Jo];omega),Dm,_,_,_,rfl,rfl,eDm4,ex,?_⟩;refine ⟨_,rfl,_,rfl,c,40014,2147483563,rfl,by decide,by decide,by decide,_,rfl,_,rfl,_,rfl,_,rfl,_,rfl,_,se,ms,x,pa,pb,pr,l,ls,rfl,prJ,slJ4,l4,λH5 u k s5 tk wk nk=>?_⟩;obtain ⟨B5,sB5,st5,o5⟩:=st4.over s5;exact ⟨n,B5,A,S,xs,u,k,rfl,st5,by omega,ovT st5.h o5 (zac _ _ _) tk,wk,λz=>by (rcases z with z | z;exact absurd z nk.1;exact absurd z nk.2),λB6 H6 S6 xs6 s6 st6 _=>q B6 H6 S6 xs6 (sBB.trans (sB5.trans s6)) (st6.mono (by omega))⟩
  refine ⟨_,rfl,_,_,rfl,rfl,_,rfl,xN (λz=>?_) (λz=>?_)⟩
  ·refine ⟨_,rfl,_,rfl,c,40014,2147483563,rfl,by decide,by decide,by decide,_,_,rfl,rfl,(by show (0:Int)<7;decide),_,_,rfl,rfl,.inl ⟨by decide,by decide⟩,_,_,rfl,rfl,_,rfl,pr,_,_,_,rfl,rfl,prJ,zM (j:=0) rfl,_,rfl,n,B4,A,S,xs,_,pa,ms,rfl,st4,by omega,λB6 H6 S6 xs6 s6 st6=>q B6 H6 S6 xs6 (sBB.trans s6) st6⟩
  refine ⟨_,rfl,_,_,rfl,rfl,_,rfl,xN (λz=>?_) (λz=>?_)⟩
  ·refine ⟨_,rfl,c,40014,2147483563,rfl,by decide,by decide,by decide,_,rfl,_,rfl,_,rfl,_,rfl,_,ms,mn_,pa,pb,pr,l,ls,rfl,prJ,slJ4,l4,mm,λB5 H5 l5 ys ks s5 h5 t5 k2 wk=>?_⟩
   obtain ⟨B6,sB6,st6,o6⟩:=st4.over (s5.trans h5.sm);have t6:=ovL st6.h o6 (zac _ _ _) (t5.same h5.sm)
   have el:B6 l5=some (.lst ys):=by
    refine o6 _ _ (h5.get 0 rfl) λm=>?_;obtain ⟨p,hp,e⟩:=List.mem_map.mp m;have:=s5 _ _ (st4.h.st p hp);rw [e,h5.nw (l5,.lst ys) q1y] at this;cases this
   have yl:=Paired.length t6;refine ⟨l5,rfl,⟨_,SqL.of (st6.h.sm _ _ el)⟩,ye (K:=K) (a:=l5) (xs:=ys) (λi σ J=>∃ B7 S7 xs7 u,σ=[rq A.st,iq c,rq l,iq mn_,iq seats,rq Dm,iq ms,iq se,rq D,none,iq dr,iq how,rq pr,none,u,none]/\Same B6 B7/\StAt (n+i) B7 A S7 xs7 J) ⟨B6,S,xs,none,rfl,Same.refl _,st6⟩ (λi σ J _ ⟨B7,_,_,_,_,s7,st7⟩=>SqL.of (st7.h.sm _ _ (s7 _ _ el))) ?_ ?_⟩
   ·rintro i x σ J hi ⟨B7,S7,xs7,u,rfl,s7,st7⟩
    obtain ⟨k,ek,tk⟩:=t6.at hi;obtain ⟨wf,nk⟩:=wk k (List.mem_of_getElem? ek);have il:=(List.getElem?_eq_some_iff.mp ek).1;exact ⟨_,rfl,_,rfl,n+i,B7,A,S7,xs7,x,k,rfl,st7,by omega,tk.same s7,wf,λz=>by (rcases z with z | z;exact absurd z nk.1;exact absurd z nk.2),λB8 H8 S8 xs8 s8 st8 _=>⟨B8,S8,xs8,_,rfl,s7.trans s8,st8⟩⟩
   ·rintro σ J ⟨B7,S7,xs7,u,rfl,s7,st7⟩
    exact q B7 J S7 xs7 (sBB.trans (sB6.trans s7)) (st7.mono (by omega))
  ·have cpos:0<S.co.length:=by
    have:=rn hrs;have:0<S.se.length:=List.length_pos_iff.mpr this;have:=o.sc;omega
   have xl:=Paired.length st4.x;obtain ⟨v,mv,ev⟩:=ZD (xs:=xs) (i:=c*40014 % 2147483563) (by omega);obtain ⟨i,hi,ei⟩:=List.getElem_of_mem mv;obtain ⟨k,ek,tk⟩:=st4.x.at (i:=i) (x:=v) (by rw [List.getElem?_eq_getElem hi,ei]);have wk:=o.co k (List.mem_of_getElem? ek);have ck:=o.ci k (List.mem_of_getElem? ek);have et:=st4.h.sm _ _ st4.t;refine ⟨_,rfl,A.st,_,rfl,zX (Q:=Q) et rfl,_,rfl,c,40014,2147483563,rfl,by decide,by decide,by decide,_,rfl,A.st,_,rfl,zX (Q:=Q) et rfl,A.co,_,rfl,.inl (st4.h.lst 5 rfl),_,_,rfl,rfl,(by show (0:Int)<_;omega),A.co,_,_,_,rfl,rfl,st4.h.lst 5 rfl,ev,?_⟩;refine ⟨λb J5=>∃ B5,Same B4 B5/\StAt n B5 A S xs J5,?_,?_⟩
   ·refine ⟨_,rfl,v,k,rfl,st4.sm tk,wk.c,λH5 s5=>⟨_,rfl,?_⟩⟩
    obtain ⟨B5,sB5,st5,o5⟩:=st4.over s5;refine xN (λz=>⟨B5,sB5,st5⟩) (λz=>?_);refine ⟨_,rfl,tix (st5.sm (tk.same sB5)) 0 wk.pos ?_⟩;rw [wk.at0];refine ⟨szU 2,λp np=>⟨p,_,rfl,.inr (SqT.of zu),rfl,rfl,_,rfl,?_⟩⟩;obtain ⟨B6,sB6,st6,_⟩:=st5.obj (o:=.tup [V.str "choose",V.str "other"]) np;exact ⟨B6,sB5.trans sB6,st6⟩
   ·rintro b J5 ⟨B5,sB5,st5⟩
    refine xN (λz=>?_) (λz=>?_)
    ·exact ⟨_,rfl,_,rfl,n,B5,A,S,xs,v,k,rfl,st5,by omega,tk.same sB5,wk,ck,λB6 H6 S6 xs6 s6 st6 _=>q B6 H6 S6 xs6 (sBB.trans (sB5.trans s6)) (st6.mono (by omega))⟩
    ·exact q B5 J5 S xs (sBB.trans sB5) (st5.mono (by omega))
end
end K52
namespace L2
open PySem
def pe_disp6 {X:Cx} {pos:Pos} {k1 k2 k3 k4 k5 k6 v1 v2 v3 v4 v5 v6:Expr} {t1 t2 t3 t4 t5 t6 u1 u2 u3 u4 u5 u6:TE} (a1:PE X k1 t1) (b1:PE X v1 u1) (a2:PE X k2 t2) (b2:PE X v2 u2) (a3:PE X k3 t3) (b3:PE X v3 u3) (a4:PE X k4 t4) (b4:PE X v4 u4) (a5:PE X k5 t5) (b5:PE X v5 u5) (a6:PE X k6 t6) (b6:PE X v6 u6) :
  PE X (.Dict [some k1,some k2,some k3,some k4,some k5,some k6] [v1,v2,v3,v4,v5,v6] pos) (tDisp [(t1,u1),(t2,u2),(t3,u3),(t4,u4),(t5,u5),(t6,u6)]):=pe_disp (xg a1 b1 (xg a2 b2 (xg a3 b3 (xg a4 b4 (xg a5 b5 (xg a6 b6 pps_nil)))))) rfl rfl (by simp) (show (6:Nat)<=15 by decide)
def pw_disp6 {X:Cx} {i:Nat} {x:Str} {pos pos' pd:Pos} {k1 k2 k3 k4 k5 k6 v1 v2 v3 v4 v5 v6:Expr} {t1 t2 t3 t4 t5 t6 u1 u2 u3 u4 u5 u6:TE} (hN:X.N.Nodup) (hi:X.N[i]?=some x) (hx:Loc X.env.scope x) (a1:PE X k1 t1) (b1:PE X v1 u1) (a2:PE X k2 t2) (b2:PE X v2 u2) (a3:PE X k3 t3) (b3:PE X v3 u3) (a4:PE X k4 t4) (b4:PE X v4 u4) (a5:PE X k5 t5) (b5:PE X v5 u5) (a6:PE X k6 t6) (b6:PE X v6 u6) (hf:X.fn x=true∨X.env.scope.names.lookup x=some .local:=by first | exact .inl rfl | exact .inr rfl | assumption) :
  PW1 X (.Assign [.Name x pos'] (.Dict [some k1,some k2,some k3,some k4,some k5,some k6] [v1,v2,v3,v4,v5,v6] pd) pos) (tAsg (tDisp [(t1,u1),(t2,u2),(t3,u3),(t4,u4),(t5,u5),(t6,u6)]) (Yn i)):=⟨zq hN hi hx (pe_disp6 a1 b1 a2 b2 a3 b3 a4 b4 a5 b5 a6 b6) rfl hf⟩
def pw_mid {X:Cx} {st:Stmt} {t:TS} (h:PW1 X st t):PW1 X st (tMid t):=⟨yg h.h⟩
end L2
namespace K52
open PySem L2
section
variable {P:Program} {w:World} {K:Fg} {mg:J0} {base:Heap} {aS aR aF:Ad}
def spSt (K:Fg) (vs:Jt) (H:Hp) (Q:VK) (_:XK):Prop:=∃ (cs l:Ad) (cc ls:Jh) (mn_ seats:Int),vs=[.ref cs,.ref l,.int mn_,.int seats]/\SqL K H cs (cc.map V.int)/\1<=cc.length/\cc.length<=21/\SqL K H l (ls.map V.int)/\ls.length=4/\mn_∈ls/\1<=seats/\seats<=8/\∀ B H' co xs ks,Same H B->Hd B [(co,.lst xs)] H'->TupL B xs ks->(∀ k∈ks,WfS k)->ks.length<=50->Q (.ref co) H'
def zaz (d:zp K mg "_law_strip_by" y6 ["_law_cells","_law_lengths","_law_many","_law_seats"]) (hlen:mg "len"=none) (hrg:mg "range"=none) (CE:Ok P w K mg base CX0 6 "_law_cell" ["_law_state","_law_cell_here","_law_lengths","_law_many","_law_seats"] (spCe K)) (AD:Ok P w K mg base CX0 4 "_law_add" ["_law_state","_law_step"] spAd):Ok P w K mg base CX0 7 "_law_strip_by" ["_law_cells","_law_lengths","_law_many","_law_seats"] (spSt K):=by
 obtain ⟨g,fd,m,F,bb⟩:=d;refine ⟨g,fd,m,F.kp,bb,F.okB sc_l_strip_by (by rintro vs H Q E ⟨_,_,_,_,_,_,e,_⟩;rw [e];rfl) λcdv A outer s H vs Q E hr h=>?_⟩;obtain ⟨cs,l,cc,ls,mn_,seats,rfl,sc,c1,c21,sl,l4,mm,s1,s8,q⟩:=h;have hr6:Room 6 _:=hr;have hr4:Room 4 _:=hr.mono (by decide);have hu:=Nat.lt_of_le_of_lt (Nat.add_le_add_left (show 1<=64 by decide) _) hr.units;have nd:=sc_l_strip_by.nd;have SZ:(1000:Nat)<sizeLine:=by decide
 refine ⟨_,(zY (pw_mid (pw_disp6 (i:=4) nd rfl (Or.inl rfl) zf YY zf YY zf (pe_disp (xg zb zb pps_nil) rfl rfl (by simp) (by decide)) zf (zH (za (yo z4 zb) zc)) zf YY zf (zH zc)))
   (zY (PW1.mk (ym PassesOwn.never rfl (yj (pv 0)) (zV (i:=5) nd rfl (Or.inl rfl)) (ze (zG (zw CE hr6 (by rfl) zz (za (pv 4) (za (pv 5) (za (pv 1) (za (pv 2) (za (pv 3) zc))))))))))
   (zY (PW1.mk (ZO (i:=6) ["_law_row","_law_many","_law_lengths"] [none,some 2,some 1] rfl rfl rfl (xc rfl hrg (za (zE zr (by rfl) hlen PySem.boot_len (za (pv 1) zc)) zc)) (λs3 H3 fp=>⟨zV (i:=0) (Jv ["_law_row","_law_many","_law_lengths"]) rfl (Or.inl rfl),(zg op_ge (zi (Y8 (K:=K) rfl) (pv 2) (pv 0) (λ_ _=>rfl)) (pv 1) (zm _)),(pv 0)⟩) nd rfl (Or.inl rfl)))
   (zY (PW1.mk (ym PassesOwn.never rfl (xc rfl hrg (za (pv 3) zc)) (zV (i:=8) nd rfl (Or.inl rfl)) (ze (zv (zg op_gt (zo zD (zo yd (zi zx (pv 0) zb (λ_ _=>rfl)) zb) zb) zb (zm _)) (ze (zG (zw AD hr4 (by rfl) zz (za (pv 4) (za (zt (za zf (za (zi zx (pv 6) (zo zD (pv 8) (zE zr (by rfl) hlen PySem.boot_len (za (pv 6) zc))) (λ_ _=>rfl)) (za (pv 8) (za zb zc))))) zc))))) zj))))
   (pb_one (PW1.mk (zk (zL hu (pv 4) zf (λ_ _=>rfl))))))))),?_⟩
 refine ⟨λσ J=>∃ B A S xs,σ=[rq cs,rq l,iq mn_,iq seats,rq A.st,none,none,none,none]/\Same H B/\StAt 0 B A S xs J,?_,?_⟩
 ·intro st n0
  have h0:Hd H [(st,.dK [])] (upd H st (.dK [])):=Hd.base.new n0;intro a1 n1;have h1:=h0.new (o:=.dK []) n1;intro a2 n2;have h2:=h1.new (o:=.dK []) n2;intro a3 n3;have h3:=h2.new (o:=.dK []) n3;refine ⟨h3.get 0 rfl,[(.inl 0,.int 0)],rfl,(by show 1<=15;decide),?_⟩;have h4:=h3.fput (o':=.dK [(.inl 0,.int 0)]);refine ⟨_,rfl,szU 1,λa4 n4=>?_⟩;have h5:=h4.new (o:=.lst [.int (-1)]) n4;intro a5 n5;have h6:=h5.new (o:=.dK []) n5;refine ⟨szU 0,λa6 n6=>?_⟩;have h7:=h6.new (o:=.lst []) n6;let A:BA:=⟨st,a1,a2,a3,a4,a5,a6⟩;refine ⟨h7.get 6 rfl,[(.inr "seats",.ref a1),(.inr "slots",.ref a2),(.inr "masks",.ref a3),(.inr "parents",.ref a4),(.inr "mates",.ref a5),(.inr "code",.ref a6)],rfl,(by show 6<=15;decide),?_⟩;have h8:=h7.put 6 rfl (o':=A.top);have h9:=(h8.perm (List.reverse_perm _).symm);have h10:Hd H ((st,A.top)::A.objs ⟨[],[],[(.inl 0,.int 0)],[-1],[],[]⟩ []) _:=h9;refine ⟨_,A,⟨[],[],[(.inl 0,.int 0)],[-1],[],[]⟩,[],rfl,h10.settled,⟨zu,h10.settle,.nil,?_⟩⟩;refine ⟨(λ_ h=>nomatch h),(λ_ h=>nomatch h),λp m=>?_,(λ_ h=>nomatch h),λp m=>?_,rfl,by decide,λi v hi=>?_,(λ_ h=>nomatch h),(λ_ h=>nomatch h),Nat.le_refl _,Nat.le_refl _,Nat.le_refl _,Nat.le_refl _,Nat.le_refl _,Nat.le_refl _,Nat.le_refl _⟩
  ·cases List.mem_singleton.mp m;exact ⟨0,rfl,by decide,by decide⟩
  ·cases List.mem_singleton.mp m;exact ⟨0,rfl⟩
  ·match i,hi with
   | 0,hi=>cases hi;exact ⟨by decide,by decide⟩
 rintro σ J ⟨B,A,S,xs,rfl,sB,st⟩;have scB:=zF sc sB;have slB:=zF sl sB;refine ⟨_,rfl,cs,rfl,⟨_,st.h.sql scB⟩,ye (K:=K) (a:=cs) (xs:=cc.map V.int) (λi σ J=>∃ B' S' xs' u,σ=[rq cs,rq l,iq mn_,iq seats,rq A.st,u,none,none,none]/\Same B B'/\StAt (2*i) B' A S' xs' J) ⟨B,S,xs,none,rfl,Same.refl _,st⟩ (λi σ J _ ⟨B',_,_,_,_,s,h⟩=>h.h.sql (zF scB s)) ?_ ?_⟩
 ·rintro i x σ J hi ⟨B',S',xs',u,rfl,s',st'⟩
  obtain ⟨c,ec,rfl⟩:=Zz hi;have il:=(List.getElem?_eq_some_iff.mp ec).1;exact ⟨_,rfl,_,rfl,_,rfl,_,rfl,_,rfl,2*i,B',A,S',xs',c,mn_,seats,l,ls,rfl,st',by omega,zF slB s',l4,mm,s1,s8,λB2 H2 S2 xs2 s2 st2=>⟨B2,S2,xs2,_,rfl,s'.trans s2,st2⟩⟩
 rintro σ J ⟨B1,S1,xs1,u,rfl,s1',st1⟩;rw [Jo] at st1;replace st1:=st1.mono (show 2*cc.length<=42 by omega);have sB1:=sB.trans s1';have sl1:=st1.h.sql (zF slB s1');refine ⟨_,rfl,l,_,rfl,.inl sl1,_,rfl,by rw [Jo,l4];decide,by rw [Jo,l4];decide,_,rfl,λD nD=>?_⟩;rw [Jo,l4];refine xA (n:=4) (λi σ J2=>∃ u,σ=[u,iq mn_,rq l]/\Hd J [(D,.lst ((xo ls mn_ i).map λr:Nat=>V.int r))] J2) ⟨none,rfl,Hd.base.new nD⟩ ?_ ?_
 ·rintro i σ J2 hi ⟨u,rfl,h⟩
  have e0:atI (ls.map V.int) (0+(i:Int))=some (V.int (ls.getD i 0)):=by
   rw [Int.zero_add];exact zM (by rw [List.getElem?_map,q0z,List.getElem?_eq_getElem (by omega)];rfl)
  refine ⟨_,rfl,_,rfl,l,_,_,_,rfl,rfl,h.sql sl1,e0,_,rfl,_,_,rfl,rfl,_,rfl,?_⟩;have ws:=ZZ ls mn_ i;have wl:=XL ls mn_ i;by_cases hm:mn_<=ls.getD i 0
  ·rw [if_pos hm] at ws
   rw [show decide (ls.getD i 0 ≥ mn_)=true from decide_eq_true hm];refine zC ⟨_,rfl,_,h.get 0 rfl,by rw [Jo];omega,_,rfl,?_⟩;rw [ws,Jq,Int.zero_add];exact h.fput
  ·rw [if_neg hm] at ws
   rw [show decide (ls.getD i 0 ≥ mn_)=false from decide_eq_false hm];refine zy ⟨_,rfl,?_⟩;rw [ws];exact h
 rintro σ J2 ⟨u2,rfl,h⟩;have wp:=YF mm;rw [l4] at wp;obtain ⟨B2,sB2,st2,o2⟩:=st1.over h.sm
 have eD:B2 D=some (.lst ((xo ls mn_ 4).map λr:Nat=>V.int r)):=by
  refine o2 _ _ (h.get 0 rfl) λm=>?_;obtain ⟨p,hp,e⟩:=List.mem_map.mp m;have:=st1.h.st p hp;rw [e,nD] at this;cases this
 clear h;have scB2:=zF scB (s1'.trans sB2);obtain ⟨c0,ec0⟩:∃ c0:Int,atI (cc.map V.int) (0:Int)=some (V.int c0):=⟨cc[0],zM (j:=0) (by rw [List.getElem?_map,List.getElem?_eq_getElem (by omega)];rfl)⟩;refine ⟨_,rfl,seats,rfl,by omega,by omega,XA (n:=seats.toNat) (λi σ J=>∃ B' S' xs' u8,σ=[rq cs,rq l,iq mn_,iq seats,rq A.st,u,rq D,none,u8]/\Same B2 B'/\StAt (42+i) B' A S' xs' J) ⟨B2,S1,xs1,none,rfl,Same.refl _,st2⟩ ?_ ?_⟩
 ·rintro i σ J3 hi ⟨B3,S3,xs3,u8,rfl,s3,st3⟩
  have eDJ:SqL K J3 D ((xo ls mn_ 4).map λr:Nat=>V.int r):=SqL.of (st3.h.sm _ _ (s3 _ _ eD));refine ⟨_,rfl,cs,_,_,_,rfl,rfl,st3.h.sql (zF scB2 s3),ec0,_,_,rfl,rfl,⟨by decide,by decide⟩,_,_,rfl,rfl,(by show (0:Int)<3;decide),_,_,rfl,rfl,_,rfl,xN (λz=>?_) (λz=>?_)⟩
  ·obtain ⟨v,mv,ev⟩:=ZD (xs:=(xo ls mn_ 4).map λr:Nat=>V.int r) (i:=0+(i:Int)) (by rw [Jo];exact wp)
   obtain ⟨r,_,rfl⟩:=List.mem_map.mp mv;refine ⟨_,rfl,_,rfl,_,rfl,_,rfl,D,_,rfl,.inl eDJ,_,_,rfl,rfl,(by show (0:Int)<_;rw [Jo];omega),D,_,_,_,rfl,rfl,eDJ,ev,_,rfl,szU 4,λp np=>?_⟩;obtain ⟨B4,sB4,st4,tk⟩:=st3.tup (k:=[.inr "store",.inl (r:Int),.inl (0+(i:Int)),.inl 0]) np;exact ⟨42+i,B4,A,S3,xs3,.ref p,_,rfl,st4,by omega,tk,wfI (by show (("store":Str),4)∈z7;decide) (by decide +kernel) rfl (by decide) (by decide),λz=>by (rcases z with z | z <;> exact absurd (show ("store":Str)=_ from z) (by decide)),λB5 H5 S5 xs5 s5 st5 _=>⟨B5,S5,xs5,_,rfl,s3.trans (sB4.trans s5),st5⟩⟩
  ·exact ⟨B3,S3,xs3,_,rfl,s3,st3.mono (by omega)⟩
 ·rintro σ J3 ⟨B3,S3,xs3,u8,rfl,s3,st3⟩
  refine ⟨_,rfl,A.st,_,rfl,zX (Q:=Q) (st3.h.sm _ _ st3.t) rfl,?_⟩;have n6:=st3.o.n6;exact q B3 J3 A.co xs3 S3.co (sB1.trans (sB2.trans s3)) (st3.h.sub (List.sublist_append_right [_,_,_,_,_] [_])) st3.x st3.o.co (by omega)
def spLn (K:Fg) (vs:Jt) (H:Hp) (Q:VK) (_:XK):Prop:=∃ (s:Ad) (sc:Jh) (mn_:Int),vs=[.ref s,.int mn_]/\SqL K H s (sc.map V.int)/\sc≠[]/\∀ H' l (ls:Jh),Same H H'->H' l=some (.lst (ls.map V.int))->ls.length=4->mn_∈ls->Q (.ref l) H'
def Xm (d:zp K mg "_law_lengths_by" yG ["_law_script","_law_many"]):Ok P w K mg base CX0 1 "_law_lengths_by" ["_law_script","_law_many"] (spLn K):=by
 obtain ⟨g,fd,m,F,bb⟩:=d;refine ⟨g,fd,m,F.kp,bb,F.ok sc_l_lengths_by (by rintro vs H Q E ⟨_,_,_,e,_⟩;rw [e];rfl) λcdv A outer s H vs Q E hr h=>?_⟩;obtain ⟨s,sc,mn_,rfl,ss,sn,q⟩:=h;have nd:=sc_l_lengths_by.nd;have sp:0<sc.length:=List.length_pos_iff.mpr sn;obtain ⟨c0,e0⟩:∃ c0:Int,atI (sc.map V.int) (0:Int)=some (V.int c0):=⟨sc[0],zM (j:=0) (by rw [List.getElem?_map,List.getElem?_eq_getElem sp];rfl)⟩
 obtain ⟨c9,e9⟩:∃ c9:Int,atI (sc.map V.int) (-1)=some (V.int c9):=by
  have e:sc=sc.dropLast++[sc.getLast sn]:=(List.dropLast_concat_getLast sn).symm;refine ⟨sc.getLast sn,?_⟩
  conv=>lhs;rw [e]
  rw [Jq];exact Xh _ _
 refine ⟨_,(zd (zq (i:=2) nd rfl (Or.inl rfl) (zH (za (pv 1) (za (zo yJ (pv 1) (zo zD (zo yd (zi zx (pv 0) zb (λ_ _=>rfl)) zb) zb)) (za zb (za (zo yJ zb (zo zD (zi zx (pv 0) (yo z4 zb) (λ_ _=>rfl)) zb)) zc))))))
   (zd (zq (i:=3) nd rfl (Or.inl rfl) (zo zD (zo yd (zi zx (pv 0) zb (λ_ _=>rfl)) zb) zb))
   (ze (zk (zo Zy (ZQ Yv (pv 2) (ZP (pv 3)) X0) (ZQ Yv (pv 2) X0 (ZP (pv 3)))))))),?_⟩
 dsimp only [yh,Cx.nox,Cx.wish];refine ⟨_,rfl,_,rfl,_,rfl,s,_,_,_,rfl,rfl,ss,e0,_,_,rfl,rfl,⟨by decide,by decide⟩,_,_,rfl,rfl,(by show (0:Int)<3;decide),_,_,rfl,rfl,_,rfl,_,rfl,s,_,_,_,rfl,rfl,ss,e9,_,_,rfl,rfl,(by show (0:Int)<6;decide),_,_,rfl,rfl,szU 4,λl1 n1=>?_⟩;generalize hX:upd _ _ _=H1;obtain ⟨s1,e1⟩:=yr hX n1;clear hX;generalize mn_+c0 / 9 % 3=x2 at e1;generalize 1+c9 % 6=x4 at e1;have e1:H1 l1=some (.lst (([mn_,x2,1,x4]:Jh).map V.int)):=e1;refine ⟨_,rfl,s,_,_,_,rfl,rfl,zF ss s1,e0,_,_,rfl,rfl,⟨by decide,by decide⟩,_,_,rfl,rfl,(by show (0:Int)<4;decide),?_⟩;have t0:0<=c0 / 27 % 4:=by omega
 generalize c0 / 27 % 4=tu at t0;refine ⟨_,rfl,_,rfl,tu,rfl,l1,_,rfl,SqL.of e1,λl2 n2=>?_⟩;rw [cutV_from t0];generalize hX:upd _ _ _=H2;obtain ⟨s2,e2⟩:=yr hX n2;clear hX;refine ⟨_,rfl,_,rfl,tu,rfl,l1,_,rfl,SqL.of (s2 _ _ e1),λl3 n3=>?_⟩;rw [cutV_take t0];generalize hX:upd _ _ _=H3;obtain ⟨s3,e3⟩:=yr hX n3;clear hX;generalize hv:([mn_,x2,1,x4]:Jh)=v4 at *;refine ⟨l2,l3,_,_,rfl,rfl,s3 _ _ e2,e3,?_,λl5 n5=>?_⟩
 ·rw [Jo,Jo,List.length_drop,List.length_take,← hv]
  exact Nat.le_trans (show _<=8 by show (4-tu.toNat)+min tu.toNat 4<=8;omega) (szU 8)
 ·rw [← List.map_append]
  refine q _ l5 (v4.drop tu.toNat++v4.take tu.toNat) (s1.trans (s2.trans (s3.trans (zU (Same.refl _) n5)))) zu ?_ ?_
  ·rw [Jp,List.length_drop,List.length_take,← hv]
   show (4-tu.toNat)+min tu.toNat 4=4;omega
  ·have m:mn_∈v4.take tu.toNat++v4.drop tu.toNat:=by rw [List.take_append_drop,← hv];exact q1y
   rcases List.mem_append.mp m with m | m
   ·exact q2x _ m
   ·exact List.mem_append_left _ m
end
def RoundOk (p:List Sk):Prop:=∃ (a b:Int) (ks:List Sk),p=[.inr "begin",.inl a,.inl b]::(ks++[[.inr "next"]])/\(∀ k∈ks,WfS k)/\ks.length<=52
def PartsAt (B:Hp):Jm->List (List Sk)->Prop:=Paired λr p=>∃ xs,B r=some (.lst xs)/\TupL B xs p/\xs≠[]
def PartsAt.same {B B':Hp} {rs:Jm} {ps:List (List Sk)} (h:PartsAt B rs ps) (s:Same B B'):PartsAt B' rs ps:=Paired.mapP h λ_ _ ⟨xs,e,t,n⟩=>⟨xs,s _ _ e,t.same s,n⟩
section
variable {P:Program} {w:World} {K:Fg} {mg:J0} {base:Heap} {aS aR aF:Ad}
def spRo (K:Fg) (vs:Jt) (H:Hp) (Q:VK) (_:XK):Prop:=∃ (s l:Ad) (sc ls:Jh) (mn_ gp:Int),vs=[.ref s,.ref l,.int mn_,.int gp]/\SqL K H s (sc.map V.int)/\1<=sc.length/\sc.length<=63/\SqL K H l (ls.map V.int)/\ls.length=4/\mn_∈ls/\1<=gp/\gp<=4/\∀ B H' ro rs ps,Same H B->Hd B [(ro,.lst (List.map V.ref rs))] H'->PartsAt B rs ps->(∀ p∈ps,RoundOk p)->ps.length<=3->Q (.ref ro) H'
def X5 (d:zp K mg "_law_rounds_by" yP ["_law_script","_law_lengths","_law_many","_law_group"]) (hlen:mg "len"=none) (hrg:mg "range"=none) (SB:Ok P w K mg base CX0 7 "_law_strip_by" ["_law_cells","_law_lengths","_law_many","_law_seats"] (spSt K)):Ok P w K mg base CX0 8 "_law_rounds_by" ["_law_script","_law_lengths","_law_many","_law_group"] (spRo K):=by
 obtain ⟨g,fd,m,F,bb⟩:=d;refine ⟨g,fd,m,F.kp,bb,F.ok sc_l_rounds_by (by rintro vs H Q E ⟨_,_,_,_,_,_,e,_⟩;rw [e];rfl) λcdv A outer s H vs Q E hr h=>?_⟩;obtain ⟨s,l,sc,ls,mn_,gp,rfl,ss,s1,s63,sl,l4,mm,g1,g4,q⟩:=h;have hr7:Room 7 _:=hr;have nd:=sc_l_rounds_by.nd;have SZ:(1000:Nat)<sizeLine:=by decide
 refine ⟨_,(zd (zq (i:=4) nd rfl (Or.inl rfl) (zH zc))
   (zd (ym PassesOwn.never rfl (pi_range3 rfl hrg (za zb (za (zE zr (by rfl) hlen PySem.boot_len (za (pv 0) zc)) (za zb zc)))) (zV (i:=5) nd rfl (Or.inl rfl)) (zd (zq (i:=6) nd rfl (Or.inl rfl) (zw SB hr7 (by rfl) zz (za (ZQ Yv (pv 0) (ZP (pv 5)) (ZP (zo yJ (pv 5) zb))) (za (pv 1) (za (pv 2) (za (zo zay zb (pv 3)) zc))))))
   (zd (yg (zq (i:=7) nd rfl (Or.inl rfl) (zH zc)))
   (zd (yg (zv (zg op_gt (zo zD (zi zx (pv 0) (pv 5) (λ_ _=>rfl)) zb) zb (zm _)) (ze (zq (i:=7) nd rfl (Or.inl rfl) (zH (za (zt (za zf zc)) (za (zt (za zf (za (zo zD (pv 5) zb) zc))) zc))))) zj))
   (ze (zG (yZ PySem.F.plainAttrs_list PySem.F.slot_list_append PySem.F.type_list_append zW (pv 4) (za (zo Zy (zo Zy (zo Zy (zH (za (zt (za zf (za (pv 2) (za (pv 3) zc)))) zc)) (pv 6)) (pv 7)) (zH (za (zt (za zf zc)) zc))) zc))))))))
   (ze (zk (pv 4))))),?_⟩
 dsimp only [yh,Cx.nox,Cx.wish];refine ⟨szU 0,λro nro=>?_⟩;have h0:Hd H [(ro,.lst [])] (upd H ro (.lst [])):=Hd.base.new nro;have sz:Builtin.Range.rangeSize 0 ((sc.map V.int).length:Int) 21=(((((sc.map V.int).length:Int)+21-1) / 21).toNat:Int):=step_size (by omega) (by decide);refine ⟨_,rfl,s,_,rfl,.inl (h0.sql ss),0,_,21,_,rfl,⟨by decide,by decide,by omega,by rw [Jo];omega,by decide,by decide⟩,sz,for_step (lo:=0) (c:=21) (λi σ J=>∃ B rs ps u5 u6 u7,σ=[rq s,rq l,iq mn_,iq gp,rq ro,u5,u6,u7]/\Same H B/\Hd B [(ro,.lst (List.map V.ref rs))] J/\PartsAt B rs ps/\(∀ p∈ps,RoundOk p)/\ps.length=i) ⟨H,[],[],none,none,none,rfl,Same.refl _,h0,.nil,(λ_ h=>nomatch h),rfl⟩ ?_ ?_⟩
 ·rintro i σ J hi ⟨B,rs,ps,u5,u6,u7,rfl,sB,h,pa,po,pl⟩
  rw [Jo] at hi;have il:(i:Int)*21<sc.length:=by omega
  have ssJ:=h.sql (zF ss sB);refine ⟨_,rfl,_,rfl,_,rfl,_,rfl,_,_,rfl,rfl,_,rfl,s,_,rfl,ssJ,λz nz=>?_⟩;rw [cutV_int (by omega) (by omega)];have h1:=h.same (zU (o:=.lst ((cutI sc (0+(i:Int)*21) (0+(i:Int)*21+21)).map V.int)) (Same.refl J) nz);have ez:upd J z (.lst ((cutI sc (0+(i:Int)*21) (0+(i:Int)*21+21)).map V.int)) z=some (.lst ((cutI sc (0+(i:Int)*21) (0+(i:Int)*21+21)).map V.int)):=zu;have sJ1:Same J (upd J z (.lst ((cutI sc (0+(i:Int)*21) (0+(i:Int)*21+21)).map V.int))):=zU (Same.refl J) nz;generalize upd J z (.lst ((cutI sc (0+(i:Int)*21) (0+(i:Int)*21+21)).map V.int))=J1 at h1 ez sJ1 ⊢
  have cl:1<=(cutI sc (0+(i:Int)*21) (0+(i:Int)*21+21)).length/\(cutI sc (0+(i:Int)*21) (0+(i:Int)*21+21)).length<=21:=by
   unfold cutI;rw [List.length_take,List.length_drop];omega
  generalize cutI sc (0+(i:Int)*21) (0+(i:Int)*21+21)=cc at ez cl
  have gd:1<=(8:Int).fdiv gp/\(8:Int).fdiv gp<=8:=by
   have:gp=1∨gp=2∨gp=3∨gp=4:=by omega
   rcases this with rfl | rfl | rfl | rfl <;> decide
  refine ⟨_,rfl,_,rfl,_,rfl,_,_,rfl,rfl,⟨by omega,by omega,by omega⟩,z,l,cc,ls,mn_,_,rfl,SqL.of ez,cl.1,cl.2,h1.sql (zF sl sB),l4,mm,gd.1,gd.2,λB2 J2 co ys ks sJ2 h2 t2 wk kl=>?_⟩;obtain ⟨B3,sB3,h3,o3⟩:=Hd.over h1 (sJ2.trans h2.sm);have nT:∀ p∈[(ro,HO.lst (List.map V.ref rs))],∀ xs,p.2≠.tup xs:=λp m xs z=>by cases List.mem_singleton.mp m;cases z
  have t3:=ovL h3 o3 nT (t2.same h2.sm)
  have eco:B3 co=some (.lst ys):=by
   refine o3 _ _ (h2.get 0 rfl) λm=>?_;have e:co=ro:=by simpa using m
   have:=sJ2 _ _ (h1.get 0 rfl);rw [← e,h2.nw (co,.lst ys) q1y] at this;cases this
  clear h2 t2 sJ2;have yl:=Paired.length t3;have sBB:=sB.trans sB3;have ssB:=zF ss sBB;refine ⟨λσ J=>∃ B4 en,σ=[rq s,rq l,iq mn_,iq gp,rq ro,iq (0+(i:Int)*21),rq co,rq en]/\Same B3 B4/\Hd B4 [(ro,.lst (List.map V.ref rs))] J/\B4 en=some (.lst []),?_,?_⟩
  ·refine ⟨szU 0,λen nen=>?_⟩
   obtain ⟨B4,s4,e4,h4⟩:=hdG h3 rfl nen;exact ⟨B4,en,rfl,s4,h4,e4⟩
  rintro σ J4 ⟨B4,en,rfl,s4,h4,e4⟩;refine ⟨λσ J=>∃ B5 en zs kz,σ=[rq s,rq l,iq mn_,iq gp,rq ro,iq (0+(i:Int)*21),rq co,rq en]/\Same B3 B5/\Hd B5 [(ro,.lst (List.map V.ref rs))] J/\B5 en=some (.lst zs)/\TupL B5 zs kz/\(∀ k∈kz,WfS k)/\kz.length<=2,?_,?_⟩
  ·obtain ⟨j,ej⟩:∃ j:Nat,0+(i:Int)*21=j:=⟨i*21,by omega⟩
   have jl:j<sc.length:=by omega
   refine ⟨_,rfl,_,rfl,s,_,_,_,rfl,rfl,h4.sql (zF ssB s4),by rw [ej];exact zM (v:=V.int sc[j]) (by rw [List.getElem?_map,List.getElem?_eq_getElem jl];rfl),_,_,rfl,rfl,(by show (0:Int)<3;decide),_,_,rfl,rfl,_,rfl,xN (λz=>?_) (λz=>⟨B4,en,[],[],rfl,s4,h4,e4,.nil,(λ_ h=>nomatch h),by decide⟩)⟩;refine ⟨szU 1,λp np=>?_⟩;obtain ⟨B5,s5,e5,h5⟩:=hdG h4 rfl np;refine ⟨_,rfl,_,_,rfl,rfl,(by show (0:Int)<40;decide),szU 2,λp2 np2=>?_⟩;obtain ⟨B6,s6,e6,h6⟩:=hdG h5 rfl np2;refine ⟨szU 2,λen2 nen2=>?_⟩;obtain ⟨B7,s7,e7,h7⟩:=hdG h6 rfl nen2;refine ⟨B7,en2,[.ref p,.ref p2],[[.inr "trim"],[.inr "stop",.inl ((0+(i:Int)*21) % 40)]],rfl,s4.trans (s5.trans (s6.trans s7)),h7,e7,.cons ⟨p,rfl,(s6.trans s7) _ _ e5⟩ (.cons ⟨p2,rfl,s7 _ _ e6⟩ .nil),λk m=>?_,Nat.le_refl _⟩;rcases List.mem_cons.mp m with rfl | m
   ·exact wfI (by show (("trim":Str),1)∈z7;decide) (by decide +kernel) rfl (by decide) (by decide)
   ·cases List.mem_singleton.mp m
    exact wfI (by show (("stop":Str),2)∈z7;decide) (by decide +kernel) rfl (by decide) (by decide)
  clear e4 h4 s4;rintro σ J5 ⟨B5,en,zs,kz,rfl,s5,h5,e5,t5,wz,kz2⟩;have zl:=Paired.length t5;refine ⟨_,rfl,tyL (h5.get 0 rfl),_,rfl,_,rfl,szU 3,λp1 n1=>?_⟩;obtain ⟨B6,s6,e6,h6⟩:=hdG h5 rfl n1;refine ⟨szU 1,λl1 nl1=>?_⟩;obtain ⟨B7,s7,e7,h7⟩:=hdG h6 rfl nl1;have s57:=s6.trans s7;refine ⟨_,rfl,l1,co,_,_,rfl,rfl,h7.sm _ _ e7,h7.sm _ _ ((s5.trans s57) _ _ eco),by show 1+ys.length<=_;omega,λl2 nl2=>?_⟩;obtain ⟨B8,s8,e8,h8⟩:=hdG h7 rfl nl2;refine ⟨_,rfl,l2,en,_,_,rfl,rfl,h8.sm _ _ e8,h8.sm _ _ ((s57.trans s8) _ _ e5),by rw [Jp];show 1+ys.length+zs.length<=_;omega,λl3 nl3=>?_⟩;obtain ⟨B9,s9,e9,h9⟩:=hdG h8 rfl nl3;refine ⟨szU 1,λp4 np4=>?_⟩;obtain ⟨Ba,sa,ea,ha⟩:=hdG h9 rfl np4;refine ⟨szU 1,λl5 nl5=>?_⟩;obtain ⟨Bb,sb,eb,hb⟩:=hdG ha rfl nl5;refine ⟨l3,l5,_,_,rfl,rfl,hb.sm _ _ ((sa.trans sb) _ _ e9),hb.sm _ _ eb,by rw [Jp,Jp];show 1+ys.length+zs.length+1<=_;omega,λl6 nl6=>?_⟩;obtain ⟨Bc,sc',ec,hc⟩:=hdG hb rfl nl6;have s8c:=s8.trans (s9.trans (sa.trans (sb.trans sc')))
  have rl:rs.length<=1000:=by
   have:=Paired.length pa;omega
  refine ⟨ro,_,_,rfl,rfl,hc.get 0 rfl,by rw [Jo];omega,Bc,rs++[l6],ps++[[.inr "begin",.inl mn_,.inl gp]::((ks++kz)++[[.inr "next"]])],_,_,_,rfl,sBB.trans (s5.trans (s57.trans s8c)),by rw [Jq];exact hc.fput,Paired.snoc (pa.same (sB3.trans (s5.trans (s57.trans s8c)))) ⟨_,ec,?_,by simp⟩,λp m=>?_,by rw [Jp,pl];rfl⟩
  ·have tb:TupK Bc (.ref p1) [.inr "begin",.inl mn_,.inl gp]:=⟨p1,rfl,(s7.trans s8c) _ _ e6⟩
   have tn:TupK Bc (.ref p4) [.inr "next"]:=⟨p4,rfl,(sb.trans sc') _ _ ea⟩;have:=((TupL.app (TupL.app (Paired.cons tb .nil) (t3.same (s5.trans (s57.trans s8c)))) (t5.same (s57.trans s8c))).app (Paired.cons tn .nil));have e:([[.inr "begin",.inl mn_,.inl gp]]:List Sk)++ks++kz++([[.inr "next"]]:List Sk)=([.inr "begin",.inl mn_,.inl gp]::((ks++kz)++[[.inr "next"]]):List Sk):=by simp
   rw [← e];exact this
  ·rcases List.mem_append.mp m with m | m
   ·exact po p m
   ·rw [List.mem_singleton.mp m]
    refine ⟨mn_,gp,ks++kz,rfl,λk m=>?_,by rw [Jp];omega⟩;rcases List.mem_append.mp m with m | m
    ·exact wk k m
    ·exact wz k m
 ·rintro σ J ⟨B,rs,ps,u5,u6,u7,rfl,sB,h,pa,po,pl⟩
  rw [Jo] at pl;exact ⟨_,rfl,q B J ro rs ps sB h pa po (by omega)⟩
end
structure TyL (K:Fg) (mg:J0):Prop where
 isi:mg "isinstance"=none
 tup:mg "tuple"=none
 lst:mg "list"=none
 tt:PySem.W.kitOne K (.type "tuple") (.type "tuple")=some true
 ll:PySem.W.kitOne K (.type "list") (.type "list")=some true
def YQ {ks:List Sk} (o:Okc false ks):(Z1 ks).length<=ks.length:=by
 have:=(sinv o ks.length (Nat.le_refl _)).n;rw [List.take_length] at this;exact Nat.le_trans (Nat.le_add_right _ _) this
def Sc.step_pos {S:Sc} {k:Sk} {rest:List Sk} {i:Nat} (h:SInv i S (k::rest)) (p:∀ x∈S.told,0<x.length):∀ x∈(S.step k).told,0<x.length:=by
 obtain ⟨w0,r0,e0⟩:=h.o.1;have pk:0<k.length:=by rw [e0];exact Nat.succ_pos _
 have ws:∀ x∈yt S.strip,0<x.length:=λx m=>(Zd _ h.w x m).pos;intro x;unfold Sc.step;by_cases h1:wd k="next"
 ·simp only [h1,if_true]
  have:¬ ("next":Str)="begin":=by decide
  simp only [this,if_false,Bool.false_eq_true];intro m;rcases List.mem_append.mp m with m | m
  ·rcases List.mem_append.mp m with m | m
   ·exact p x m
   ·exact ws x m
  ·rw [List.mem_singleton.mp m];exact pk
 ·simp only [h1,if_false]
  cases hi:S.inr with
  | true =>
   by_cases h2:wd k="begin"
   ·simp only [h2,if_true];exact p x
   ·simp only [h2,if_true,if_false];exact p x
  | false =>
   have q:∀ x∈S.told++[k],0<x.length:=λx m=>by
    rcases List.mem_append.mp m with m | m
    ·exact p x m
    ·rw [List.mem_singleton.mp m];exact pk
   by_cases h2:wd k="begin"
   ·simp only [h2,if_true,Bool.false_eq_true,if_false];exact q x
   ·simp only [h2,if_false,Bool.false_eq_true];exact q x
theorem sc_pos {ks:List Sk} (o:Okc false ks):∀ i,i<=ks.length->∀ x∈(scR (ks.take i)).told,0<x.length
 | 0,_=>(λ_ h=>nomatch h)
 | i+1,h=>by
  have ih:=sc_pos o i (by omega);have SI:=sinv o i (by omega);have e:ks.drop i=ks[i]::ks.drop (i+1):=List.drop_eq_getElem_cons (by omega);rw [e] at SI;rw [List.take_succ,List.getElem?_eq_getElem (by omega),show (some ks[i]).toList=[ks[i]] from rfl,XT];exact Sc.step_pos SI ih
def zbm {ks:List Sk} (o:Okc false ks):∀ x∈Z1 ks,0<x.length:=by
 have:=sc_pos o ks.length (Nat.le_refl _);rw [List.take_length] at this;exact this
section
variable {P:Program} {w:World} {K:Fg} {mg:J0} {base:Heap} {aS aR aF:Ad}
def spSo (vs:Jt) (H:Hp) (Q:VK) (_:XK):Prop:=∃ (a:Ad) (xs:Jt) (ks:List Sk),vs=[.ref a]/\H a=some (.lst xs)/\TupL H xs ks/\Okc false ks/\(∀ k∈ks,k.all kOk=true)/\ks.length<14000/\∀ H' l ys,Same H H'->H' l=some (.lst ys)->TupL H' ys (Z1 ks)->Q (.ref l) H'
def ok_short (d:zp K mg "_law_short" Zh ["_law_code"]) (hlen:mg "len"=none) (TY:TyL K mg) (SHO:Ok P w K mg base CX0 8 "shortened" ["code"] spSh):Ok P w K mg base CX0 9 "_law_short" ["_law_code"] spSo:=by
 obtain ⟨g,fd,m,F,b⟩:=d;refine ⟨g,fd,m,F.kp,b,F.ok sc_l_short (by rintro vs H Q E ⟨_,_,_,e,_⟩;rw [e];rfl) λcdv A outer s H vs Q E hr h=>?_⟩;obtain ⟨a,xs,ks,rfl,ea,tl,oc,ko,kl,q⟩:=h;have hr8:Room 8 _:=hr;have hu64:=hr.units;have nd:=sc_l_short.nd;have hisi:=TY.isi;have htup:=TY.tup;have hlist:=TY.lst;have SZ:(100000:Nat)<sizeLine:=by decide
 have xl:=Paired.length tl;refine ⟨_,(zd (zq (i:=1) nd rfl (Or.inl rfl) (Zn ZX (by rfl) hlist PyProof.Rows.boot_list (za (pv 0) zc)))
   (zd (zq (i:=2) nd rfl (Or.inl rfl) (zw SHO hr8 (by rfl) zz (za (pv 1) zc)))
   (zd (zv (xK (xU (zg (X2 hu64) (pv 1) (pv 0) (zm _)) (xU (YV (yi (zE Yr (by rfl) hisi PyProof.Rows.boot_isinstance (za (pv 2) (za (pe_bty hlist PyProof.Rows.boot_list) zc))))) (xJ (zg op_gt (zE zr (by rfl) hlen PySem.boot_len (za (pv 2) zc)) (zE zr (by rfl) hlen PySem.boot_len (za (pv 0) zc)) (zm _))))).pt) (ze (zk xh)) zj)
   (zd (ym PassesOwn.never rfl (yj (pv 2)) (zV (i:=3) nd rfl (Or.inl rfl)) (ze (zv (xU (YV (yi (zE Yr (by rfl) hisi PyProof.Rows.boot_isinstance (za (pv 3) (za (pe_bty htup PyProof.Rows.boot_tuple) zc))))) (xJ (zg zO (zE zr (by rfl) hlen PySem.boot_len (za (pv 3) zc)) zb (zm _)))).pt (ze (zk xh)) zj)))
   (ze (zk (pv 2))))))),?_⟩
 dsimp only [yh,Cx.nox,Cx.wish];refine ⟨_,rfl,a,_,rfl,.inl (SqL.of ea),λl nl=>?_⟩;generalize hX:upd _ _ _=H1;obtain ⟨s1,e1⟩:=yr hX nl;clear hX;refine ⟨_,rfl,l,xs,ks,rfl,e1,tl.same s1,oc,kl,λB H2 l2 ys sB h2 t2=>?_⟩;have sH2:=s1.trans (sB.trans h2.sm);have e2:=h2.get 0 rfl;have t2':=t2.same h2.sm;have yl:=Paired.length t2';have cl:=YQ oc;refine ⟨λb J=>J=H2/\b=false,?_,?_⟩
 ·refine ⟨_,rfl,_,rfl,l,a,xs,xs,ks,ks,rfl,rfl,SqL.of ((sB.trans h2.sm) _ _ e1),SqL.of (sH2 _ _ ea),tl.same sH2,tl.same sH2,ko,ko,_,rfl,?_⟩
  rw [decide_eq_true rfl];refine zy ⟨_,rfl,_,_,.type "list",.type "list",true,rfl,rfl,(λu r=>r),.inl (.lst e2),TY.ll,true,rfl,?_⟩;refine zy ⟨_,rfl,l2,_,rfl,.inl (SqL.of e2),_,rfl,a,_,rfl,.inl (SqL.of (sH2 _ _ ea)),_,_,rfl,rfl,_,rfl,rfl,decide_eq_false (by omega)⟩
 rintro b J ⟨rfl,rfl⟩;refine zy ⟨_,rfl,l2,rfl,⟨_,SqL.of e2⟩,ye (K:=K) (a:=l2) (xs:=ys) (λi σ J2=>J2=J/\∃ u,σ=[rq a,rq l,rq l2,u]) ⟨rfl,none,rfl⟩ (λi σ J2 _ ⟨e,_⟩=>by rw [e];exact SqL.of e2) ?_ ?_⟩
 ·rintro i x σ J2 hi ⟨rfl,u,rfl⟩
  obtain ⟨k,ek,tk⟩:=t2'.at hi;have pk:=zbm oc k (List.mem_of_getElem? ek);obtain ⟨bx,rfl,ebx⟩:=tk;refine ⟨_,rfl,_,_,.type "tuple",.type "tuple",true,rfl,rfl,(λu r=>r),.inl (.tup ebx),TY.tt,true,rfl,?_⟩;refine zy ⟨_,rfl,bx,_,rfl,.inr (SqT.of ebx),rfl,_,rfl,?_⟩;rw [eqI,Jo,decide_eq_false (by omega)];exact zy ⟨rfl,_,rfl⟩
 ·rintro σ J2 ⟨rfl,u,rfl⟩
  exact ⟨_,rfl,q J2 l2 ys sH2 e2 t2'⟩
end
theorem zao {α:Type} {M:List α->Prop} (h0:M []) (h1:∀ l a,M l->M (l++[a])):∀ l,M l:=λl=>by
 have:∀ l:List α,M l.reverse:=λl=>by
  induction l with
  | nil=>exact h0
  | cons a l ih=>rw [List.reverse_cons];exact h1 _ _ ih
 have:=this l.reverse
 rwa [List.reverse_reverse] at this
def live (t:Sk):List Sk->Bool
 | []=>false
 | j::r=>decide (t∈zB j) || (if zA j=some t/\¬ at0 t 0=.inr "slot" then false else live t r)
theorem zau {t:Sk}:∀ (l:List Sk) (r:Dk),yz (xB r l) t=(decide (t∈l) || yz r t)
 | [],r=>by show yz r t=_;simp
 | x::l,r=>by
  show yz (xB (zP r x (.bl true)) l) t=_;rw [zau l]
  have e:yz (zP r x (.bl true)) t=(decide (t=x) || yz r t):=by
   unfold yz;rw [YI];by_cases h:t=x
   ·rw [if_pos h,decide_eq_true h];rfl
   ·rw [if_neg h,decide_eq_false h];rfl
  rw [e,Bool.eq_iff_iff];simp only [Bool.or_eq_true,decide_eq_true_eq,List.mem_cons];exact ⟨λh=>by rcases h with h | h | h;exact .inl (.inr h);exact .inl (.inl h);exact .inr h,λh=>by rcases h with (h | h) | h;exact .inr (.inl h);exact .inl h;exact .inr (.inr h)⟩
def note_get {t:Sk} {r:Dk} {k:Sk}:yz (xE r k) t=(decide (t∈zB k) || (if zA k=some t/\¬ at0 t 0=.inr "slot" then false else yz r t)):=by
 unfold xE;rw [zau];congr 1
 cases hl:zA k with
 | none=>rw [if_neg (λz=>by cases z.1)]
 | some t' =>
  obtain ⟨z,x,rfl,_⟩:=Y6 hl;show yz (if z="slot" then r else zP r [.inr z,x] (.bl false)) t=_;by_cases hz:z="slot"
  ·rw [if_pos hz,if_neg]
   rintro ⟨e,h⟩;cases e;exact h (by rw [hz];rfl)
  ·rw [if_neg hz]
   unfold yz;rw [YI];by_cases ht:t=[.inr z,x]
   ·rw [if_pos ht,if_pos ⟨by rw [ht],by rw [ht];exact λy=>hz (Sum.inr.inj y)⟩]
   ·rw [if_neg ht,if_neg λy=>ht (Option.some.inj y.1).symm]
def rOf (l:List Sk):Dk:=l.foldl xE []
def zat (l:List Sk) (k:Sk):rOf (l++[k])=xE (rOf l) k:=by unfold rOf;rw [List.foldl_append];rfl
def rOf_live (t:Sk):∀ l:List Sk,yz (rOf l) t=live t l.reverse:=by
 refine zao rfl λl k ih=>?_;rw [zat,note_get,ih,List.reverse_append];rfl
def Xi (l:List Sk):Prop:=∀ pre k post,l=pre++k::post->stays (rOf pre) k=true
def kept_snoc {l:List Sk} {k:Sk} (h:Xi l) (hk:stays (rOf l) k=true):Xi (l++[k]):=by
 intro pre j post e;rcases List.append_eq_append_iff.mp e with ⟨a,e1,e2⟩ | ⟨a,e1,e2⟩
 ·cases a with
  | nil=>rw [q3x] at e1;cases e2;rw [e1];exact hk
  | cons x a=>simp at e2
 ·cases a with
  | nil=>rw [q3x] at e1;cases e2;rw [← e1];exact hk
  | cons x a=>cases e2;exact h pre j a e1
theorem Z9:∀ (l:List Sk) (S:De),S.r=rOf S.t->Xi S.t->Xi (y0 S l).t
 | [],S,_,h=>h
 | k::l,S,e,h=>by
  show Xi (y0 (S.step k) l).t;unfold De.step
  split
  ·rename_i hs
   refine Z9 l _ ?_ ?_
   ·show xE S.r k=rOf (S.t++[k]);rw [zat,e]
   ·exact kept_snoc h (by rw [← e];exact hs)
  ·exact Z9 l S e h
def zal {m A post:List Sk} {k t:Sk} (e:yV m=A++k::post) (hl:zA k=some t):mayF k=true∨live t post=true:=by
 have h:=Z9 m.reverse ⟨[],[]⟩ rfl (λpre k post e=>by simp at e);unfold yV at e
 have e2:(y0 ⟨[],[]⟩ m.reverse).t=post.reverse++k::A.reverse:=by
  rw [← List.reverse_reverse (y0 ⟨[],[]⟩ m.reverse).t,e];simp
 have:=h _ _ _ e2;unfold stays at this;rw [hl] at this;have this:(mayF k || yz (rOf post.reverse) t)=true:=this;rw [rOf_live,List.reverse_reverse,Bool.or_eq_true] at this;exact this
def stL1:Jl:=["begin","next","trim","stop","turns","quiet","till"]
def stL2:Jl:=["reach","store","put","fold","running","any"]
def yk (k:Sk):Bool:=decide (wd k∈stL1++stL2)
def st_words:∀ w0∈stL1++stL2,zS w0=false/\¬ (w0="choose"∨w0="other")/\¬ w0="save"/\¬ w0="op":=by decide
def XQ {k:Sk} (h:yk k=true):zA k=none/\¬ wd k="op":=by
 obtain ⟨h1,h2,h3,h4⟩:=st_words _ (of_decide_eq_true h);unfold zA;rw [if_neg (by rw [h1];exact q1z),if_neg h2,if_neg h3];exact ⟨rfl,h4⟩
theorem dead_st:∀ (l:List Sk) (S:De),(y0 S l).t.filter yk=S.t.filter yk++l.filter yk
 | [],S=>by rw [List.filter_nil,q3x];rfl
 | k::l,S=>by
  show (y0 (S.step k) l).t.filter yk=_;rw [dead_st l];unfold De.step;by_cases hk:yk k=true
  ·have hs:stays S.r k=true:=by unfold stays;rw [(XQ hk).1]
   rw [if_pos hs,List.filter_cons_of_pos hk];show (S.t++[k]).filter yk++_=_;rw [List.filter_append,List.filter_cons_of_pos hk,List.append_assoc];rfl
  ·rw [List.filter_cons_of_neg hk]
   split
   ·show (S.t++[k]).filter yk++_=_
    rw [List.filter_append,List.filter_cons_of_neg hk];simp
   ·rfl
def unDead_st (l:List Sk):(yV l).filter yk=l.filter yk:=by
 unfold yV;rw [List.filter_reverse,dead_st];simp
def zbl (n:Dk) (k:Sk):(yk k=true->shorter n k=k)/\yk (shorter n k)=yk k:=by
 by_cases o:wd k="op"
 ·have h1:yk k=false:=by unfold yk;rw [o];decide
  refine ⟨(λz=>by rw [h1] at z;exact absurd z q1z),?_⟩;unfold shorter;rw [if_pos o,h1]
  split
  ·rfl
  ·exact h1
 ·have e:shorter n k=k:=by unfold shorter;rw [if_neg o]
  exact ⟨λ_=>e,by rw [e]⟩
def zb2 {b:Dk} {k:Sk} (h:∀ p∈b,zA p.1≠none):∀ p∈xi b k,zA p.1≠none:=by
 intro p m;by_cases hl:zA k=none
 ·unfold xi at m
  split at m
  ·cases m
  ·rw [hl] at m;exact h p m
 ·rcases Xx m with m | e
  ·exact h p m
  ·rw [e];exact hl
theorem Y7:∀ (l:List Sk) (S:Kn),(∀ p∈S.b,zA p.1≠none)->(yX S l).t.filter yk=S.t.filter yk++l.filter yk
 | [],S,_=>by rw [List.filter_nil,q3x];rfl
 | k::l,S,h=>by
  show (yX (S.step k) l).t.filter yk=_;obtain ⟨s1,s2⟩:=zbl S.n k;unfold Kn.step;by_cases hb:(zK S.b k).isSome=true
  ·rw [if_pos hb,Y7 l S h]
   have hk:¬ yk k=true:=λz=>by
    obtain ⟨v,ev⟩:=Option.isSome_iff_exists.mp hb;obtain ⟨p,m,rfl,_⟩:=XM ev;exact h p m (XQ z).1
   rw [List.filter_cons_of_neg hk]
  ·rw [if_neg hb,Y7 l _ (zb2 h)]
   show (S.t++[shorter S.n k]).filter yk++_=_;rw [List.filter_append];by_cases hk:yk k=true
   ·rw [s1 hk,List.filter_cons_of_pos hk,List.filter_cons_of_pos hk,List.append_assoc];rfl
   ·rw [List.filter_cons_of_neg (by rw [s2];exact hk),List.filter_cons_of_neg hk];simp
def X3 (l:List Sk):(yW l).filter yk=l.filter yk:=by
 unfold yW;rw [unDead_st];have:=Y7 l ⟨[],[],[]⟩ (λ_ h=>nomatch h);exact this
def shortS_st (l:List Sk):(yt l).filter yk=l.filter yk:=by
 have:∀ (n:Nat) (l:List Sk),(yu n l).filter yk=l.filter yk:=λn=>by
  induction n with
  | zero=>exact X3
  | succ n ih =>
   intro l;unfold yu
   split
   ·exact X3 l
   ·rw [ih,X3]
 exact this _ l
def outL:Jl:=["turns","quiet","till"]
inductive Sg
 | o (k:Sk)
 | r (a b:Int) (ks:List Sk)
def bgS (a b:Int):Sk:=[.inr "begin",.inl a,.inl b]
def nxS:Sk:=[.inr "next"]
structure OutOk (k:Sk):Prop where
 w:∃ w r,k=.inr w::r/\w∈outL
 ok:k.all kOk=true
def Sg.Ok:Sg->Prop
 | .o k=>OutOk k
 | .r _ _ ks=>(∀ k∈ks,WfS k)/\ks.length<=60
def Sg.code:Sg->List Sk
 | .o k=>[k]
 | .r a b ks=>bgS a b::(ks++[nxS])
def Sg.told:Sg->List Sk
 | .o k=>[k]
 | .r a b ks=>bgS a b::(yt ks++[nxS])
def yv (l:List Sg):List Sk:=l.flatMap Sg.code
def yY (l:List Sg):List Sk:=l.flatMap Sg.told
def YG:∀ p∈z7,¬ p.1="next"/\¬ p.1="begin":=by decide
def Z4:∀ w0∈outL,¬ w0="next"/\¬ w0="begin":=by decide
theorem zaq:∀ (l T st:List Sk),(∀ k∈l,WfS k)->l.foldl Sc.step ⟨T,st,true⟩=⟨T,st++l,true⟩
 | [],T,st,_=>by rw [q3x];rfl
 | k::l,T,st,w=>by
  obtain ⟨h1,h2⟩:=YG _ (w k q1y).len
  have e:Sc.step ⟨T,st,true⟩ k=⟨T,st++[k],true⟩:=by
   unfold Sc.step;have h1:¬ wd k="next":=h1;have h2:¬ wd k="begin":=h2;simp [h1,h2]
  rw [List.foldl_cons,e,zaq l T (st++[k]) λx m=>w x (q1x _ m),List.append_assoc];rfl
def sc_sg {g:Sg} (h:g.Ok) (T:List Sk):g.code.foldl Sc.step ⟨T,[],false⟩=⟨T++g.told,[],false⟩:=by
 cases g with
 | o k =>
  obtain ⟨w0,r,rfl,m⟩:=h.w;obtain ⟨h1,h2⟩:=Z4 _ m;show Sc.step ⟨T,[],false⟩ (.inr w0::r)=_;unfold Sc.step;have h1:¬ wd (.inr w0::r:Sk)="next":=h1;have h2:¬ wd (.inr w0::r:Sk)="begin":=h2;simp [h1,h2];rfl
 | r a b ks =>
  have e:Sc.step ⟨T,[],false⟩ (bgS a b)=⟨T++[bgS a b],[],true⟩:=rfl;show (bgS a b::(ks++[nxS])).foldl Sc.step _=_;rw [List.foldl_cons,e,List.foldl_append,zaq ks _ _ h.1];show (⟨T++[bgS a b]++yt ks++[nxS],[],false⟩:Sc)=_;rw [List.append_assoc,List.append_assoc];rfl
theorem sc_code:∀ {l:List Sg} {T:List Sk},(∀ g∈l,g.Ok)->(yv l).foldl Sc.step ⟨T,[],false⟩=⟨T++yY l,[],false⟩
 | [],T,_=>by show (⟨T,[],false⟩:Sc)=⟨T++[],[],false⟩;rw [q3x]
 | g::l,T,h=>by
  show (g.code++yv l).foldl Sc.step _=⟨T++(g.told++yY l),[],false⟩;rw [List.foldl_append,sc_sg (h g q1y),sc_code λx m=>h x (q1x _ m),List.append_assoc]
def YM {l:List Sg} (h:∀ g∈l,g.Ok):Z1 (yv l)=yY l:=by
 unfold Z1;rw [sc_code h];rfl
theorem Xt:∀ (l rest:List Sk),(∀ k∈l,WfS k)->Okc true rest->Okc true (l++rest)
 | [],_,_,h=>h
 | k::l,rest,w,h=>by
  obtain ⟨h1,h2⟩:=YG _ (w k q1y).len;have wk:=w k q1y;obtain ⟨w0,r0,e0,_⟩:=wk.w;refine ⟨⟨w0,r0,e0⟩,λ_=>wk,?_⟩;have e:((true && decide (wd k≠"next")) || decide (wd k="begin"))=true:=by rw [decide_eq_true h1];rfl
  rw [e];exact Xt l rest (λx m=>w x (q1x _ m)) h
theorem Y2:∀ {l:List Sg},(∀ g∈l,g.Ok)->Okc false (yv l)
 | [],_=>trivial
 | g::l,h=>by
  have ih:=Y2 (l:=l) λx m=>h x (q1x _ m);have hg:=h g q1y;show Okc false (g.code++yv l)
  cases g with
  | o k =>
   obtain ⟨w0,r,rfl,m⟩:=hg.w;obtain ⟨h1,h2⟩:=Z4 _ m;refine ⟨⟨_,_,rfl⟩,(λz=>by cases z),?_⟩;have e:((false && decide (wd (.inr w0::r:Sk)≠"next")) || decide (wd (.inr w0::r:Sk)="begin"))=false:=by rw [Bool.false_and,Bool.false_or];exact decide_eq_false h2
   rw [e];exact ih
  | r a b ks =>
   refine ⟨⟨_,_,rfl⟩,(λz=>by cases z),?_⟩;show Okc true ((ks++[nxS])++yv l);rw [List.append_assoc];exact Xt ks _ hg.1 ⟨⟨_,_,rfl⟩,(λz=>absurd z (by decide)),ih⟩
theorem st_code:∀ {l:List Sg},(yY l).filter yk=(yv l).filter yk
 | []=>rfl
 | g::l=>by
  show (g.told++yY l).filter yk=(g.code++yv l).filter yk;rw [List.filter_append,List.filter_append,st_code];congr 1
  cases g with
  | o k=>rfl
  | r a b ks =>
   show (bgS a b::(yt ks++[nxS])).filter yk=(bgS a b::(ks++[nxS])).filter yk;have hb:yk (bgS a b)=true:=rfl;rw [List.filter_cons_of_pos hb,List.filter_cons_of_pos hb,List.filter_append,List.filter_append,shortS_st]
structure Sp where
 acc:List (List Sk)
 cur:List Sk
def Sp.step (s:Sp) (k:Sk):Sp:=if wd k="begin" then ⟨s.acc,[]⟩ else if wd k="next" then ⟨s.acc++[s.cur],[]⟩ else ⟨s.acc,s.cur++[k]⟩
def z8 (l:List Sk):Sp:=l.foldl Sp.step ⟨[],[]⟩
def xO (t:List Sk):Prop:=(∀ k∈t,WfS k)/\∃ m,t=yV m
theorem zan:∀ (l:List Sk) (A:List (List Sk)) (c:List Sk),(∀ k∈l,WfS k)->l.foldl Sp.step ⟨A,c⟩=⟨A,c++l⟩
 | [],A,c,_=>by rw [q3x];rfl
 | k::l,A,c,w=>by
  obtain ⟨h1,h2⟩:=YG _ (w k q1y).len;have e:Sp.step ⟨A,c⟩ k=⟨A,c++[k]⟩:=by unfold Sp.step;rw [if_neg h2,if_neg h1]
  rw [List.foldl_cons,e,zan l A _ λx m=>w x (q1x _ m),List.append_assoc];rfl
theorem sp_told:∀ {l:List Sg} {S:Sp},(∀ g∈l,g.Ok)->(∀ t∈S.acc,xO t)->∀ t∈((yY l).foldl Sp.step S).acc,xO t
 | [],S,_,h=>h
 | g::l,S,hg,h=>by
  show ∀ t∈((g.told++yY l).foldl Sp.step S).acc,xO t;rw [List.foldl_append];refine sp_told (l:=l) (λx m=>hg x (q1x _ m)) ?_;have hg:=hg g q1y
  cases g with
  | o k =>
   obtain ⟨w0,r,rfl,m⟩:=hg.w;obtain ⟨h1,h2⟩:=Z4 _ m;show ∀ t∈(Sp.step S (.inr w0::r)).acc,xO t;unfold Sp.step;rw [if_neg (show ¬ wd (.inr w0::r:Sk)="begin" from h2),if_neg (show ¬ wd (.inr w0::r:Sk)="next" from h1)];exact h
  | r a b ks =>
   have ws:∀ k∈yt ks,WfS k:=Zd _ hg.1;have e:Sp.step S (bgS a b)=⟨S.acc,[]⟩:=rfl;show ∀ t∈((bgS a b::(yt ks++[nxS])).foldl Sp.step S).acc,xO t;rw [List.foldl_cons,e,List.foldl_append,zan _ _ _ ws];show ∀ t∈S.acc++[[]++yt ks],xO t;intro t m;rcases List.mem_append.mp m with m | m
   ·exact h t m
   ·rw [List.mem_singleton.mp m,List.nil_append]
    exact ⟨ws,Yd _ ks⟩
def kV_flat (a:Key):xQ (kV a)=true:=by cases a <;> rfl
instance decMemK (t:Key):(l:List Key)->Decidable (t∈l)
 | []=>Decidable.isFalse (by simp)
 | x::l=>if h:t=x then Decidable.isTrue (by rw [h];exact q1y) else match decMemK t l with
  | Decidable.isTrue g=>Decidable.isTrue (q1x _ g)
  | Decidable.isFalse g=>Decidable.isFalse λz=>by rcases List.mem_cons.mp z with z | z;exact h z;exact g z
theorem inV_ks (x:Key):∀ l:List Key,inV (kV x) (l.map kV)=decide (x∈l)
 | []=>by
  rw [decide_eq_false (by simp)];rfl
 | y::l=>by
  have ih:=inV_ks x l;unfold inV at ih ⊢
  have e:eqV (kV y) (kV x)=decide (x=y):=by
   cases x with
   | inl a =>
    cases y with
    | inl b =>
     show (b == a)=decide ((Sum.inl a:Key)=Sum.inl b);rw [Bool.eq_iff_iff,beq_iff_eq,decide_eq_true_eq];exact ⟨λh=>by rw [h],λh=>(Sum.inl.inj h).symm⟩
    | inr b=>exact (decide_eq_false (λh=>by cases h)).symm
   | inr a =>
    cases y with
    | inl b=>exact (decide_eq_false (λh=>by cases h)).symm
    | inr b =>
     show (b == a)=decide ((Sum.inr a:Key)=Sum.inr b);rw [Bool.eq_iff_iff,beq_iff_eq,decide_eq_true_eq];exact ⟨λh=>by rw [h],λh=>(Sum.inr.inj h).symm⟩
  rw [List.map_cons,List.any_cons,ih,Bool.eq_iff_iff,e];simp only [Bool.or_eq_true,decide_eq_true_eq,List.mem_cons]
def dvK {K:Fg} {H:Hp} (a:Key):DV K H (kV a) (dK a):=by
 cases a with
 | inl i=>exact .int i
 | inr x=>exact .str x
def eqKD {K:Fg} {H:Hp} {Q:VK} {a b:Key} (ha:kOk a=true) (hb:kOk b=true) (q:Q (.bl (decide (a=b))) H):rEqD K id (kV a) (kV b) H Q:=⟨dK a,dK b,dvK a,dvK b,ha,hb,by cases a <;> simp [dK,PyData.depth],by rw [eqv_dK];exact q⟩
def all_flat (l:List Key):(l.map kV).all xQ=true:=by
 rw [List.all_eq_true];intro v m;obtain ⟨a,_,rfl⟩:=List.mem_map.mp m;exact kV_flat a
def mem_slot {k:Sk} {x:Key}:[.inr "slot",x]∈zB k↔wd k="bring"/\at0 k 2=x:=by
 unfold zB xP Zs ZN Ye;simp only [List.mem_append,List.mem_map];constructor
 ·rintro (((⟨i,_,e⟩ | h) | h) | h)
  ·cases e
  ·split at h
   ·cases List.mem_singleton.mp h
   ·cases h
  ·split at h
   ·rename_i z;have:=List.mem_singleton.mp h;cases this;exact ⟨z,rfl⟩
   ·cases h
  ·split at h
   ·cases List.mem_singleton.mp h
   ·cases h
 ·rintro ⟨z,rfl⟩
  left;right;rw [if_pos z];exact List.mem_singleton_self _
def mem_seat {k:Sk} {x:Key}:[.inr "seat",x]∈zB k↔x∈((zQ (wd k)).getD []).map (at0 k):=by
 unfold zB xP Zs ZN Ye;simp only [List.mem_append,List.mem_map];constructor
 ·rintro (((⟨i,m,e⟩ | h) | h) | h)
  ·cases e;exact ⟨i,m,rfl⟩
  ·split at h
   ·cases List.mem_singleton.mp h
   ·cases h
  ·split at h
   ·cases List.mem_singleton.mp h
   ·cases h
  ·split at h
   ·cases List.mem_singleton.mp h
   ·cases h
 ·rintro ⟨i,m,rfl⟩
  exact .inl (.inl (.inl ⟨i,m,rfl⟩))
def zb5:∀ p∈z7,p.1 ∉ (["trim","stop"]:Jl)↔(zS p.1 || (zQ p.1).isSome)=true:=by decide
def mem_mask {k:Sk} {x:Key} (w:WfS k):[.inr "mask",x]∈zB k↔(wd k ∉ (["trim","stop"]:Jl)/\xj k=x)∨(wd k="pick"/\at0 k 4=x):=by
 have mw:=zb5 _ w.len;unfold zB xP Zs ZN Ye;simp only [List.mem_append,List.mem_map];constructor
 ·rintro (((⟨i,m,e⟩ | h) | h) | h)
  ·cases e
  ·split at h
   ·rename_i z;have:=List.mem_singleton.mp h;cases this;exact .inr ⟨z,rfl⟩
   ·cases h
  ·split at h
   ·cases List.mem_singleton.mp h
   ·cases h
  ·split at h
   ·rename_i z;have:=List.mem_singleton.mp h;cases this;exact .inl ⟨mw.mpr z,rfl⟩
   ·cases h
 ·rintro (⟨z,rfl⟩ | ⟨z,rfl⟩)
  ·right;rw [if_pos (mw.mp z)];exact List.mem_singleton_self _
  ·left;left;right;rw [if_pos z];exact List.mem_singleton_self _
section
variable {P:Program} {w:World} {K:Fg} {mg:J0} {base:Heap} {aS aR aF:Ad}
def spNa (vs:Jt) (H:Hp) (Q:VK) (_:XK):Prop:=∃ (v u:V) (k:Sk) (z:Str) (x:Key),vs=[v,u]/\TupK H v k/\WfS k/\TupK H u [.inr z,x]/\kOk x=true/\z∈(["seat","mask","slot"]:Jl)/\∀ H',Same H H'->Q (.bl (decide ([.inr z,x]∈zB k))) H'
def ok_names (d:zp K mg "_law_names" Zi ["_law_step","_law_mark"]) (SA:Ok P w K mg base CX0 1 "_law_seats_at" ["_law_step"] spSA):Ok P w K mg base CX0 2 "_law_names" ["_law_step","_law_mark"] spNa:=by
 obtain ⟨g,fd,m,F,b⟩:=d;refine ⟨g,fd,m,F.kp,b,F.ok sc_l_names (by rintro vs H Q E ⟨_,_,_,_,_,e,_⟩;rw [e];rfl) λcdv A outer s H vs Q E hr h=>?_⟩;obtain ⟨v,u,k,z,x,rfl,t,wf,tu,xok,hz,q⟩:=h;have hu64:=hr.units;have hr1:Room 1 _:=hr;have nd:=sc_l_names.nd;have p0:=wf.pos;have a0:=wf.at0;have SZ:(10:Nat)<sizeLine:=by decide
 have ez:∀ c:Str,decide (kV (at0 [.inr z,x] 0)=V.str c)=decide (z=c):=λc=>eqS;refine ⟨_,(zd (zv (zg zO (zi zn (pv 1) zb (λ_ _=>rfl)) zf (zm _)) (ze (zk (Z3 (z9 zO (zi zn (pv 0) zb (λ_ _=>rfl)) zf (zm _)) (xL (z9 (xZ hu64) (zi zn (pv 0) zb (λ_ _=>rfl)) (zi zn (pv 1) zb (λ_ _=>rfl)) (zm _)))))) zj)
   (zd (zv (zg zO (zi zn (pv 1) zb (λ_ _=>rfl)) zf (zm _)) (ze (zk (z9 zN (zi zn (pv 1) zb (λ_ _=>rfl)) (pe_compC ["_law_at","_law_step"] [none,some 0] rfl rfl rfl (yj (zw SA hr1 (by rfl) zz (za (pv 0) zc))) (λs3 H3 fp=>⟨zV (i:=0) (Jv ["_law_at","_law_step"]) rfl (Or.inl rfl),(zi (ix_tupK (K:=K) rfl) (pv 1) (pv 0) (λ_ _=>rfl))⟩)) rfl))) zj)
   (zd (zv (zg zN (zi zn (pv 0) zb (λ_ _=>rfl)) (zt (za zf (za zf zc))) rfl) (ze (zk yA)) zj)
   (ze (zk (pe_or (z9 (xZ hu64) (zi zn (pv 0) (yo z4 zb) (λ_ _=>rfl)) (zi zn (pv 1) zb (λ_ _=>rfl)) (zm _)) (xL (Z3 (z9 zO (zi zn (pv 0) zb (λ_ _=>rfl)) zf (zm _)) (xL (z9 (xZ hu64) (zi zn (pv 0) zb (λ_ _=>rfl)) (zi zn (pv 1) zb (λ_ _=>rfl)) (zm _))))))))))),?_⟩
 dsimp only [yh,Cx.nox,Cx.wish];refine ⟨_,rfl,tix tu 0 (by show 0<2;decide) ⟨rfl,_,rfl,?_⟩⟩;rw [ez];by_cases h1:z="slot"
 ·rw [decide_eq_true h1]
  subst h1;refine zC ⟨_,rfl,tix t 0 p0 ?_⟩;rw [a0];refine ⟨rfl,_,rfl,?_⟩;rw [eqS];by_cases hb:wd k="bring"
  ·rw [decide_eq_true hb]
   have l4:k.length=4:=len_br _ wf.len hb;refine zC ⟨_,rfl,tix t 2 (by omega) ⟨_,rfl,tix tu 1 (by show 1<2;decide) (eqKD (Zt wf.ok 2) xok ?_)⟩⟩;have e:decide (at0 k 2=at0 [.inr "slot",x] 1)=decide ([.inr "slot",x]∈zB k):=decide_eq_decide.mpr ⟨λh=>mem_slot.mpr ⟨hb,h⟩,λh=>(mem_slot.mp h).2⟩;rw [e];exact q H (Same.refl _)
  ·rw [decide_eq_false hb]
   have e:decide ([.inr "slot",x]∈zB k)=false:=decide_eq_false λh=>hb (mem_slot.mp h).1;rw [e] at q;exact zy (q H (Same.refl _))
 rw [decide_eq_false h1];refine zy ⟨_,rfl,tix tu 0 (by show 0<2;decide) ⟨rfl,_,rfl,?_⟩⟩;rw [ez];by_cases h2:z="seat"
 ·rw [decide_eq_true h2]
  subst h2;refine zC ⟨_,rfl,tix tu 1 (by show 1<2;decide) ⟨_,rfl,v,k,rfl,t,wf.c,λH1' H0 l0 s0 n0 eH=>?_⟩⟩;subst eH;have sl:=ZT _ wf.len;have ms:decide ([.inr "seat",x]∈zB k)=decide (x∈((zQ (wd k)).getD []).map (at0 k)):=decide_eq_decide.mpr mem_seat;rw [ms] at q
  have L5:((zQ (wd k)).getD []).length<=5:=by
   have:=xI k;unfold zB xP at this;rw [Jp,Jp,Jp,Jo] at this;omega
  generalize (zQ (wd k)).getD []=L at sl L5 q;generalize hX:upd _ _ _=H1;obtain ⟨s1,e1⟩:=yr hX n0;clear hX;replace s1:=s0.trans s1;have t1:=t.same s1;refine ⟨l0,rfl,⟨_,SqL.of e1⟩,_,rfl,λD nD=>?_⟩;refine comp_list (K:=K) (a:=l0) (D:=D) (xs:=L.map λi:Nat=>V.int i) (λi σ J=>∃ u,σ=[u,some v]/\Hd H1 [(D,.lst (((L.take i).map (at0 k)).map kV))] J) ⟨none,rfl,Hd.base.new nD⟩ (λi σ J _ ⟨_,_,h⟩=>SqL.of (h.sm _ _ e1)) ?_ ?_
  ·rintro i y σ J hi ⟨u2,rfl,h⟩
   obtain ⟨j,ej,rfl⟩:=Zz hi;have il:=(List.getElem?_eq_some_iff.mp ej).1;refine ⟨_,rfl,_,rfl,?_⟩;refine tix (t1.same h.sm) j (sl j (List.mem_of_getElem? ej)) ⟨_,h.get 0 rfl,by rw [Jo,Jo,List.length_take];omega,_,rfl,?_⟩;rw [List.take_succ,ej,Jq,Jq];exact h.fput
  ·rintro σ J ⟨u2,rfl,h⟩
   rw [Jo,List.take_length] at h;refine ⟨D,_,rfl,.inl (h.lst 0 rfl),kV_flat _,all_flat _,?_⟩;show Q (V.bl (inV (kV x) ((L.map (at0 k)).map kV))) J;rw [inV_ks];exact q J (s1.trans h.sm)
 rw [decide_eq_false h2]
 have h3:z="mask":=by
  simp only [List.mem_cons,List.not_mem_nil,or_false] at hz;rcases hz with h | h | h
  ·exact absurd h h2
  ·exact h
  ·exact absurd h h1
 subst h3;refine zy ⟨_,rfl,tix t 0 p0 ?_⟩;rw [a0];refine ⟨szU 2,λp np=>⟨p,_,rfl,.inr (SqT.of zu),rfl,rfl,_,rfl,?_⟩⟩;generalize hX:upd _ _ _=H1;obtain ⟨s1,e1⟩:=yr hX np;clear hX;have t1:=t.same s1;have tu1:=tu.same s1;have mm:=mem_mask (x:=x) wf;rw [show ([V.str "trim",V.str "stop"]:Jt)=(["trim","stop"]:Jl).map V.str from rfl,zZ];by_cases hc:wd k∈(["trim","stop"]:Jl)
 ·rw [decide_eq_true hc]
  have e:decide ([.inr "mask",x]∈zB k)=false:=decide_eq_false λh=>by
   rcases mm.mp h with ⟨z,_⟩ | ⟨z,_⟩
   ·exact z hc
   ·rw [z] at hc;revert hc;decide
  rw [e] at q;exact zC (q H1 s1)
 rw [decide_eq_false hc];refine zy ⟨_,rfl,_,rfl,tixL t1 p0 ⟨_,rfl,tix tu1 1 (by show 1<2;decide) (eqKD (Zt wf.ok _) xok ⟨_,rfl,?_⟩)⟩⟩;by_cases hl:xj k=at0 [.inr "mask",x] 1
 ·rw [decide_eq_true hl]
  have e:decide ([.inr "mask",x]∈zB k)=true:=decide_eq_true (mm.mpr (.inl ⟨hc,hl⟩));rw [e] at q;exact zC (q H1 s1)
 rw [decide_eq_false hl];refine zy ⟨_,rfl,tix t1 0 p0 ?_⟩;rw [a0];refine ⟨rfl,_,rfl,?_⟩;rw [eqS];by_cases hp:wd k="pick"
 ·rw [decide_eq_true hp]
  have l6:k.length=6:=len_pk _ wf.len hp;refine zC ⟨_,rfl,tix t1 4 (by omega) ⟨_,rfl,tix tu1 1 (by show 1<2;decide) (eqKD (Zt wf.ok 4) xok ?_)⟩⟩
  have e:decide (at0 k 4=at0 [.inr "mask",x] 1)=decide ([.inr "mask",x]∈zB k):=decide_eq_decide.mpr ⟨λh=>mm.mpr (.inr ⟨hp,h⟩),λh=>by
   rcases mm.mp h with ⟨_,z⟩ | ⟨_,z⟩
   ·exact absurd z hl
   ·exact z⟩
  rw [e];exact q H1 s1
 ·rw [decide_eq_false hp]
  have e:decide ([.inr "mask",x]∈zB k)=false:=decide_eq_false λh=>by
   rcases mm.mp h with ⟨_,z⟩ | ⟨z,_⟩
   ·exact hl z
   ·exact hp z
  rw [e] at q;exact zy (q H1 s1)
def spDe (vs:Jt) (H:Hp) (Q:VK) (_:XK):Prop:=∃ (a:Ad) (xs:Jt) (ks:List Sk) (i:Nat) (k t:Sk),vs=[.ref a,.int i]/\H a=some (.lst xs)/\TupL H xs ks/\(∀ k∈ks,WfS k)/\ks[i]?=some k/\zA k=some t/\(mayF k=true∨live t (ks.drop (i+1))=true)/\ks.length<14000/\∀ H',Same H H'->Q (.bl false) H'
def ok_dead (d:zp K mg "_law_dead" ZK ["_law_strip","_law_at"]) (LS:Ok P w K mg base CX0 1 "_law_lays_seat" ["_law_step"] spLS) (NA:Ok P w K mg base CX0 2 "_law_names" ["_law_step","_law_mark"] spNa):Ok P w K mg base CX0 3 "_law_dead" ["_law_strip","_law_at"] spDe:=by
 obtain ⟨g,fd,m,F,b⟩:=d;refine ⟨g,fd,m,F.kp,b,F.ok sc_l_dead (by rintro vs H Q E ⟨_,_,_,_,_,_,e,_⟩;rw [e];rfl) λcdv A outer s H vs Q E hr h=>?_⟩;obtain ⟨a,xs,ks,i,k,t,rfl,ea,tl,wf,ek,hl,hv,kl,q⟩:=h;have hr2:Room 2 _:=hr;have hr1:Room 1 _:=hr.mono (by decide);have hu64:=hr.units;have nd:=sc_l_dead.nd;have xl:=Paired.length tl;have il:=(List.getElem?_eq_some_iff.mp ek).1;have wk:=wf k (List.mem_of_getElem? ek);have p0:=wk.pos;have a0:=wk.at0;obtain ⟨x,ex⟩:∃ x,xs[i]?=some x:=⟨_,List.getElem?_eq_getElem (by omega)⟩
 have tx:TupK H x k:=by
  obtain ⟨k',ek',tk'⟩:=tl.at ex;rw [ek] at ek';cases ek';exact tk'
 obtain ⟨z,y,et,hz⟩:=Y6 hl
 have yok:kOk y=true:=by
  have:=zaa wk.ok hl;rw [et,List.all_cons,List.all_cons] at this;simp only [Bool.and_eq_true] at this;exact this.2.1
 refine ⟨_,(zd (zq (i:=2) nd rfl (Or.inl rfl) (zi zx (pv 0) (pv 1) (λ_ _=>rfl)))
   (zd (zv (xK (xU (zg zO (zi zn (pv 2) zb (λ_ _=>rfl)) zf (zm _)) (xJ (xV (zg zO (zi zn (pv 2) zb (λ_ _=>rfl)) zf (zm _)) (Zm (zg zN (zi zn (pv 2) zb (λ_ _=>rfl)) (zt (za zf (za zf zc))) rfl))).pt)).pt) (ze (zk yA)) zj)
   (zd (yg (zq (i:=3) nd rfl (Or.inl rfl) (zt (za zf (za (zi zn (pv 2) zb (λ_ _=>rfl)) zc)))))
   (zd (yg (zv (zg op_ne (zi zn (pv 2) zb (λ_ _=>rfl)) zf (zm _)) (ze (zq (i:=3) nd rfl (Or.inl rfl) (zt (za (xX (yi (zw LS hr1 (by rfl) zz (za (pv 2) zc))) zf zf) (za (zi zn (pv 2) zb (λ_ _=>rfl)) zc))))) zj))
   (zd (ym PassesOwn.never rfl (yj (ZQ Yv (pv 0) (ZP (zo yJ (pv 1) zb)) X0)) (zV (i:=4) nd rfl (Or.inl rfl)) (zd (zv (yi (zw NA hr2 (by rfl) zz (za (pv 4) (za (pv 3) zc)))) (ze (zk yA)) zj)
   (zd (zv (xK (xV (zg zO (zi zn (pv 3) zb (λ_ _=>rfl)) zf (zm _)) (xV (yi (zw LS hr1 (by rfl) zz (za (pv 4) zc))) (Zm (zg (xZ hu64) (zi zn (pv 4) zb (λ_ _=>rfl)) (zi zn (pv 3) zb (λ_ _=>rfl)) (zm _))))).pt) (ze (zk yA)) zj)
   (ze (zv (xK (xV (zg zO (zi zn (pv 3) zb (λ_ _=>rfl)) zf (zm _)) (xV (zg zN (zi zn (pv 4) zb (λ_ _=>rfl)) (zt (za zf (za zf zc))) rfl) (Zm (zg (xZ hu64) (zi zn (pv 4) zb (λ_ _=>rfl)) (zi zn (pv 3) zb (λ_ _=>rfl)) (zm _))))).pt) (ze (zk yA)) zj)))))
   (ze (zk yA))))))),?_⟩
 dsimp only [yh,Cx.nox,Cx.wish];refine ⟨_,rfl,_,rfl,a,_,_,_,rfl,rfl,SqL.of ea,zM ex,?_⟩;refine ⟨λb J=>Same H J/\(b=false->¬ mayF k=true),?_,?_⟩
 ·refine ⟨_,rfl,tix tx 0 p0 ?_⟩
  rw [a0];refine ⟨rfl,_,rfl,?_⟩;rw [eqS];by_cases hg:wd k="gather"
  ·rw [decide_eq_true hg]
   exact zC ⟨Same.refl _,λz=>by cases z⟩
  rw [decide_eq_false hg];refine zy ⟨_,rfl,tix tx 0 p0 ?_⟩;rw [a0];refine ⟨rfl,_,rfl,?_⟩;rw [eqS]
  have nr:¬ wd k="reach":=λh=>by
   have:zA k=none:=(XQ (by unfold yk;rw [h];decide)).1;rw [hl] at this;cases this
  by_cases ho:wd k="op"
  ·rw [decide_eq_true ho]
   have l6:k.length=6:=len_op _ wk.len ho;obtain ⟨sg,e2,_⟩:=wk.op ho;refine zC ⟨_,rfl,tix tx 2 (by omega) ?_⟩;rw [e2];refine ⟨szU 2,λp2 np2=>⟨p2,_,rfl,.inr (SqT.of zu),rfl,rfl,_,rfl,zU (Same.refl _) np2,λhb=>?_⟩⟩;have hb:inV (V.str sg) ((["/","rest"]:Jl).map V.str)=false:=hb;rw [zZ] at hb;have hb:=of_decide_eq_false hb;unfold mayF;rw [e2,decide_eq_false (λz=>by rcases z with z | z;exact hg z;exact nr z),Bool.false_or,decide_eq_true ho,Bool.true_and,decide_eq_false (λz=>hb (by rcases z with z | z <;> cases z <;> decide))];exact q1z
  ·rw [decide_eq_false ho]
   refine zy ⟨Same.refl _,λ_=>?_⟩;unfold mayF;rw [decide_eq_false (λz=>by rcases z with z | z;exact hg z;exact nr z),decide_eq_false ho];exact q1z
 rintro b J ⟨sJ,hb⟩
 cases b with
 | true=>exact zC (q J sJ)
 | false =>
 have hv:live t (ks.drop (i+1))=true:=hv.resolve_left (hb rfl)
 have lay1:1<k.length:=by
  unfold zA at hl;by_cases h1:zS (wd k)=true
  ·have:3<=k.length:=ZU _ wk.len h1
   omega
  ·rw [if_neg h1] at hl
   by_cases h2:wd k="choose"∨wd k="other"
   ·have:k.length=4:=ZB _ wk.len (by rcases h2 with h | h;exact .inl h;exact .inr (.inl h))
    omega
   ·rw [if_neg h2] at hl
    by_cases h3:wd k="save"
    ·have:k.length=4:=ZB _ wk.len (.inr (.inr h3))
     omega
    ·rw [if_neg h3] at hl;cases hl
 refine zy ⟨λσ J2=>∃ mk,σ=[some (.ref a),some (.int i),some x,some mk,none]/\Same H J2/\TupK J2 mk [.inr "slot",at0 k 1],?_,?_⟩
 ·refine ⟨_,rfl,tix (tx.same sJ) 1 lay1 ⟨szU 2,λp np=>?_⟩⟩
  obtain ⟨s2,t2⟩:=xS (k:=[.inr "slot",at0 k 1]) np;exact ⟨_,rfl,sJ.trans s2,t2⟩
 rintro σ J2 ⟨mk0,rfl,s2,tm0⟩;refine ⟨λσ J3=>∃ mk,σ=[some (.ref a),some (.int i),some x,some mk,none]/\Same H J3/\TupK J3 mk t,?_,?_⟩
 ·refine ⟨_,rfl,tix (tx.same s2) 0 p0 ?_⟩
  rw [a0];refine ⟨rfl,_,rfl,?_⟩;rw [eqS];unfold zA at hl;by_cases h3:wd k="save"
  ·rw [decide_eq_true h3]
   rw [if_neg (by rw [h3];decide),if_neg (by rw [h3];decide),if_pos h3] at hl;cases hl;exact zy ⟨mk0,rfl,s2,tm0⟩
  ·rw [decide_eq_false h3]
   refine zC ⟨_,rfl,x,k,rfl,tx.same s2,wk.c,λH4 s4=>⟨_,rfl,?_⟩⟩;replace s4:=s2.trans s4
   cases h1:zS (wd k) with
   | true =>
    rw [if_pos h1] at hl;cases hl;refine zC ⟨_,rfl,tix (tx.same s4) 1 lay1 ⟨szU 2,λp np=>?_⟩⟩;obtain ⟨s5,t5⟩:=xS (k:=[.inr "seat",at0 k 1]) np;exact ⟨_,rfl,s4.trans s5,t5⟩
   | false =>
    rw [if_neg (by rw [h1];exact q1z)] at hl;by_cases h2:wd k="choose"∨wd k="other"
    ·rw [if_pos h2] at hl
     cases hl;refine zy ⟨_,rfl,tix (tx.same s4) 1 lay1 ⟨szU 2,λp np=>?_⟩⟩;obtain ⟨s5,t5⟩:=xS (k:=[.inr "mask",at0 k 1]) np;exact ⟨_,rfl,s4.trans s5,t5⟩
    ·rw [if_neg h2,if_neg h3] at hl;cases hl
 rintro σ J3 ⟨mk1,rfl,s3,tm⟩;refine ⟨_,rfl,_,rfl,_,_,rfl,rfl,_,rfl,a,_,rfl,SqL.of (s3 _ _ ea),λsl nsl=>?_⟩;rw [zcd (by omega)];generalize hX:upd _ _ _=J4;obtain ⟨s34,e4⟩:=yr hX nsl;clear hX;have s4:=s3.trans s34;have ei:((i:Int)+1).toNat=i+1:=by omega
 rw [ei] at e4;have tm4:TupK J4 mk1 [.inr z,y]:=by rw [← et];exact tm.same s34
 have x9:∀ {xs:Jt} {ks:List Sk} (n:Nat),TupL H xs ks->TupL H (xs.drop n) (ks.drop n):=by
  intro xs ks n h
  induction h generalizing n with
  | nil=>cases n <;> exact .nil
  | cons h t ih =>
   cases n with
   | zero=>exact .cons h t
   | succ n=>exact ih n
 have tp:=x9 (i+1) tl;have wp:∀ k∈ks.drop (i+1),WfS k:=λk m=>wf k (List.mem_of_mem_drop m);generalize ks.drop (i+1)=post at hv tp wp;generalize xs.drop (i+1)=ps at e4 tp;have pl:=Paired.length tp;have q:=λJ s=>q J (s4.trans s);rw [et] at hv;have ezk:∀ c:Str,decide (kV (at0 [.inr z,y] 0)=V.str c)=decide (z=c):=λc=>eqS;refine ⟨sl,rfl,⟨_,SqL.of e4⟩,ye (K:=K) (a:=sl) (xs:=ps) (λj σ J=>∃ u,σ=[some (.ref a),some (.int i),some x,some mk1,u]/\Same J4 J/\live [.inr z,y] (post.drop j)=true) ⟨none,rfl,Same.refl _,hv⟩ (λj σ J _ ⟨_,_,s,_⟩=>SqL.of (s _ _ e4)) ?_ ?_⟩
 ·rintro j v σ J hj ⟨u,rfl,sJ5,lv⟩
  obtain ⟨k',ek',tk'⟩:=tp.at hj;have w':=wp k' (List.mem_of_getElem? ek');have jl:=(List.getElem?_eq_some_iff.mp ek').1
  have ed:post.drop j=k'::post.drop (j+1):=by
   rw [List.drop_eq_getElem_cons jl];have:=List.getElem?_eq_getElem jl;rw [ek'] at this;rw [← Option.some.inj this]
  rw [ed] at lv;have lv:(decide ([.inr z,y]∈zB k') || (if zA k'=some [.inr z,y]/\¬ at0 [.inr z,y] 0=.inr "slot" then false else live [.inr z,y] (post.drop (j+1))))=true:=lv;have tv:=(tk'.same s4).same sJ5;refine ⟨_,rfl,_,rfl,v,mk1,k',z,y,rfl,tv,w',tm4.same sJ5,yok,hz,λH6 s6=>⟨_,rfl,?_⟩⟩;replace s6:=sJ5.trans s6;by_cases hr':[.inr z,y]∈zB k'
  ·rw [decide_eq_true hr']
   exact zC (q H6 s6)
  rw [decide_eq_false hr'] at lv ⊢;rw [Bool.false_or] at lv;have nl:¬ (zA k'=some [.inr z,y]/\¬ at0 [.inr z,y] 0=.inr "slot"):=λh=>by rw [if_pos h] at lv;cases lv
  rw [if_neg nl] at lv;have tv6:=(tk'.same s4).same s6;have tm6:=tm4.same s6;refine zy ⟨λb J7=>b=false/\Same J4 J7,?_,?_⟩
  ·refine ⟨_,rfl,tix tm6 0 (by show 0<2;decide) ⟨rfl,_,rfl,?_⟩⟩
   rw [ezk];by_cases h1:z="seat"
   ·rw [decide_eq_true h1]
    refine zC ⟨_,rfl,v,k',rfl,tv6,w'.c,λH7 s7=>⟨_,rfl,?_⟩⟩;replace s7:=s6.trans s7
    cases h2:zS (wd k') with
    | false=>exact zy ⟨rfl,s7⟩
    | true =>
     have l3:3<=k'.length:=ZU _ w'.len h2;refine zC ⟨_,rfl,tix ((tk'.same s4).same s7) 1 (by omega) ⟨_,rfl,tix (tm4.same s7) 1 (by show 1<2;decide) (eqKD (Zt w'.ok 1) yok ⟨_,rfl,?_,s7⟩)⟩⟩;refine decide_eq_false λh=>nl ⟨?_,?_⟩
     ·have h:at0 k' 1=y:=h
      unfold zA;rw [if_pos h2,h,h1]
     ·rw [h1];exact λh=>by cases h
   ·rw [decide_eq_false h1]
    exact zy ⟨rfl,s6⟩
  rintro b J7 ⟨rfl,s7⟩;refine zy ⟨λb J8=>b=false/\Same J4 J8,?_,?_⟩
  ·refine ⟨_,rfl,tix (tm4.same s7) 0 (by show 0<2;decide) ⟨rfl,_,rfl,?_⟩⟩
   rw [ezk];by_cases h1:z="mask"
   ·rw [decide_eq_true h1]
    have tv7:=(tk'.same s4).same s7;refine zC ⟨_,rfl,tix tv7 0 w'.pos ?_⟩;rw [w'.at0];refine ⟨szU 2,λp np=>⟨p,_,rfl,.inr (SqT.of zu),rfl,rfl,_,rfl,?_⟩⟩;generalize hX:upd _ _ _=J8;obtain ⟨s8,_⟩:=yr hX np;clear hX;replace s8:=s7.trans s8;rw [show ([V.str "choose",V.str "other"]:Jt)=(["choose","other"]:Jl).map V.str from rfl,zZ];by_cases hc:wd k'∈(["choose","other"]:Jl)
    ·rw [decide_eq_true hc]
     have hc2:wd k'="choose"∨wd k'="other":=by simpa using hc
     have l4:k'.length=4:=ZB _ w'.len (by rcases hc2 with h | h;exact .inl h;exact .inr (.inl h));refine zC ⟨_,rfl,tix ((tk'.same s4).same s8) 1 (by omega) ⟨_,rfl,tix (tm4.same s8) 1 (by show 1<2;decide) (eqKD (Zt w'.ok 1) yok ⟨_,rfl,?_,s8⟩)⟩⟩;refine decide_eq_false λh=>nl ⟨?_,?_⟩
     ·have h:at0 k' 1=y:=h
      unfold zA;rw [if_neg (by rcases hc2 with h | h <;> rw [h] <;> decide),if_pos hc2,h,h1]
     ·rw [h1];exact λh=>by cases h
    ·rw [decide_eq_false hc]
     exact zy ⟨rfl,s8⟩
   ·rw [decide_eq_false h1]
    exact zy ⟨rfl,s7⟩
  ·rintro b J8 ⟨rfl,s8⟩
   exact zy ⟨_,rfl,s8,lv⟩
 ·rintro σ J ⟨u,rfl,sJ5,lv⟩
  rw [pl,List.drop_length] at lv;cases lv
end
def Zc (k:Sk) (l:List Nat):Sk:=l.foldl (λp i=>p.set i (.inl (-1))) k
theorem Yb:∀ (l:List Nat) (k:Sk),(Zc k l).length=k.length
 | [],_=>rfl
 | i::l,k=>by show (Zc (k.set i _) l).length=_;rw [Yb l,List.length_set]
theorem zbg:∀ (l:List Nat) (k:Sk),k.all kOk=true->(Zc k l).all kOk=true
 | [],_,h=>h
 | i::l,k,h=>by
  refine zbg l _ ?_;rw [List.all_eq_true] at h ⊢;intro x m;rcases List.mem_or_eq_of_mem_set m with m | m
  ·exact h x m
  ·rw [m];rfl
def Xv (k:Sk):Sk:=(Zc k ((zQ (wd k)).getD [])).set (k.length-1) (.inl (-1))
def yL (k:Sk):List Sk:=if wd k∈stL1 then [k] else if wd k∈stL2 then [Xv k] else []
def stay (l:List Sk):List Sk:=l.flatMap yL
theorem xT:∀ l:List Sk,stay l=stay (l.filter yk)
 | []=>rfl
 | k::l=>by
  have ih:=xT l;by_cases h:yk k=true
  ·rw [List.filter_cons_of_pos h]
   show yL k++stay l=yL k++stay (l.filter yk);rw [ih]
  ·rw [List.filter_cons_of_neg h,← ih]
   have h1:wd k ∉ stL1++stL2:=λm=>h (decide_eq_true m)
   have e:yL k=[]:=by
    unfold yL;rw [if_neg λm=>h1 (List.mem_append_left _ m),if_neg λm=>h1 (q2x _ m)]
   show yL k++stay l=stay l;rw [e];rfl
def stay_ok {l:List Sk} (h:∀ k∈l,k.all kOk=true):∀ k∈stay l,k.all kOk=true:=by
 intro x m;obtain ⟨k,mk,mx⟩:=List.mem_flatMap.mp m;unfold yL at mx
 split at mx
 ·rw [List.mem_singleton.mp mx];exact h k mk
 ·split at mx
  ·rw [List.mem_singleton.mp mx]
   have:=zbg ((zQ (wd k)).getD []) k (h k mk);unfold Xv;rw [List.all_eq_true] at this ⊢;intro y my;rcases List.mem_or_eq_of_mem_set my with my | my
   ·exact this y my
   ·rw [my];rfl
  ·cases mx
def stay_len (l:List Sk):(stay l).length<=l.length:=by
 induction l with
 | nil=>exact Nat.le_refl _
 | cons k l ih =>
  show (yL k++stay l).length<=_
  have:(yL k).length<=1:=by
   unfold yL
   split
   ·exact Nat.le_refl _
   ·split
    ·exact Nat.le_refl _
    ·exact Nat.zero_le _
  rw [Jp,q2z];omega
structure StOk (k:Sk):Prop where
 w:∃ w r,k=.inr w::r
 s:wd k∈stL2->WfS k
 ok:k.all kOk=true
def StOk.pos {k:Sk} (h:StOk k):0<k.length:=by
 obtain ⟨w,r,rfl⟩:=h.w;exact Nat.succ_pos _
def StOk.at0 {k:Sk} (h:StOk k):kV (K52.at0 k 0)=.str (wd k):=by
 obtain ⟨w,r,rfl⟩:=h.w;rfl
def last_ix {n:Nat} (h:0<n):ixN n (-1)=some (n-1):=by
 unfold ixN;rw [if_neg (by decide),if_pos (by omega)];congr 1;omega
section
variable {P:Program} {w:World} {K:Fg} {mg:J0} {base:Heap} {aS aR aF:Ad}
def spSta (vs:Jt) (H:Hp) (Q:VK) (_:XK):Prop:=∃ (a:Ad) (xs:Jt) (ks:List Sk),vs=[.ref a]/\H a=some (.lst xs)/\TupL H xs ks/\(∀ k∈ks,StOk k)/\ks.length<14000/\∀ B H' l ys,Same H B->Hd B [(l,.lst ys)] H'->TupL B ys (stay ks)->Q (.ref l) H'
def zbv (d:zp K mg "_law_staying" xw ["_law_code"]) (hlist:mg "list"=none) (htup:mg "tuple"=none) (SA:Ok P w K mg base CX0 1 "_law_seats_at" ["_law_step"] spSA):Ok P w K mg base CX0 2 "_law_staying" ["_law_code"] spSta:=by
 obtain ⟨g,fd,m,F,b⟩:=d;refine ⟨g,fd,m,F.kp,b,F.ok sc_l_staying (by rintro vs H Q E ⟨_,_,_,e,_⟩;rw [e];rfl) λcdv A outer s H vs Q E hr h=>?_⟩;obtain ⟨a,xs,ks,rfl,ea,tl,wf,kl,q⟩:=h;have hr1:Room 1 _:=hr;have nd:=sc_l_staying.nd;have SZ:(100000:Nat)<sizeLine:=by decide
 have xl:=Paired.length tl;refine ⟨_,(zd (zq (i:=1) nd rfl (Or.inl rfl) (zH zc))
   (zd (ym PassesOwn.never rfl (yj (pv 0)) (zV (i:=2) nd rfl (Or.inl rfl)) (ze (zv (zg zN (zi zn (pv 2) zb (λ_ _=>rfl)) (zt (Xr rfl)) rfl) (ze (zG (yZ PySem.F.plainAttrs_list PySem.F.slot_list_append PySem.F.type_list_append zW (pv 1) (za (pv 2) zc)))) (ze (zv (zg zN (zi zn (pv 2) zb (λ_ _=>rfl)) (zt (Xr rfl)) rfl) (zd (zq (i:=3) nd rfl (Or.inl rfl) (Zn ZX (by rfl) hlist PyProof.Rows.boot_list (za (pv 2) zc)))
   (zd (ym PassesOwn.never rfl (yj (zw SA hr1 (by rfl) zz (za (pv 2) zc))) (zV (i:=4) nd rfl (Or.inl rfl)) (ze (ps_asg (yo z4 zb) (pg_sub (pv 3) (pv 4) zap))))
   (zd (ps_asg (yo z4 zb) (pg_sub (pv 3) (yo z4 zb) zap))
   (ze (zG (yZ PySem.F.plainAttrs_list PySem.F.slot_list_append PySem.F.type_list_append zW (pv 1) (za (Zn Xn (by rfl) htup PyProof.Rows.boot_tuple (za (pv 3) zc)) zc))))))) zj)))))
   (ze (zk (pv 1))))),?_⟩
 dsimp only [yh,Cx.nox,Cx.wish];refine ⟨szU 0,λl nl=>?_⟩;have h0:Hd H [(l,.lst [])] (upd H l (.lst [])):=Hd.base.new nl;refine ⟨_,rfl,a,rfl,⟨_,SqL.of (h0.sm _ _ ea)⟩,ye (K:=K) (a:=a) (xs:=xs) (λi σ J=>∃ B u2 u3 u4 ys,σ=[rq a,rq l,u2,u3,u4]/\Same H B/\Hd B [(l,.lst ys)] J/\TupL B ys (stay (ks.take i))) ⟨H,none,none,none,[],rfl,Same.refl _,h0,.nil⟩ (λi σ J _ ⟨B,_,_,_,_,_,s,h,_⟩=>SqL.of (h.sm _ _ (s _ _ ea))) ?_ ?_⟩
 ·rintro i x σ J hi ⟨B,u2,u3,u4,ys,rfl,sB,h,ty⟩
  obtain ⟨k,ek,tk⟩:=tl.at hi;have wk:=wf k (List.mem_of_getElem? ek);have il:=(List.getElem?_eq_some_iff.mp ek).1;have tkB:=tk.same sB;have yl:=Paired.length ty;have sl:=stay_len (ks.take i);rw [List.length_take] at sl
  have es:stay (ks.take (i+1))=stay (ks.take i)++yL k:=by
   unfold stay;rw [List.take_succ,ek,List.flatMap_append];show _++(yL k++[])=_;rw [q3x]
  rw [es];refine ⟨_,rfl,tix (tkB.same h.sm) 0 wk.pos ?_⟩;rw [wk.at0];refine ⟨szU 7,λp np=>⟨p,_,rfl,.inr (SqT.of zu),rfl,rfl,_,rfl,?_⟩⟩;obtain ⟨B1,s1,_,h1⟩:=hdG h rfl np;generalize upd J p _=J1 at h1 ⊢;have e1:inV (V.str (wd k)) (stL1.map V.str)=decide (wd k∈stL1):=zZ _ _;show if inV (V.str (wd k)) (stL1.map V.str)=true then _ else _;rw [e1];by_cases c1:wd k∈stL1
  ·rw [decide_eq_true c1]
   have e:yL k=[k]:=by unfold yL;rw [if_pos c1]
   rw [e];exact zC ⟨_,rfl,tyL (h1.get 0 rfl),_,rfl,l,ys,x,rfl,rfl,h1.get 0 rfl,by omega,B1,_,_,_,ys++[x],rfl,sB.trans s1,h1.fput,Paired.snoc (ty.same s1) (tkB.same s1)⟩
  rw [decide_eq_false c1];have tk1:=tkB.same s1;refine zy ⟨_,rfl,tix (tk1.same h1.sm) 0 wk.pos ?_⟩;rw [wk.at0];refine ⟨szU 6,λp2 np2=>⟨p2,_,rfl,.inr (SqT.of zu),rfl,rfl,_,rfl,?_⟩⟩;obtain ⟨B2,s2,_,h2⟩:=hdG h1 rfl np2;generalize upd J1 p2 _=J2 at h2 ⊢;have e2:inV (V.str (wd k)) (stL2.map V.str)=decide (wd k∈stL2):=zZ _ _;show if inV (V.str (wd k)) (stL2.map V.str)=true then _ else _;rw [e2];by_cases c2:wd k∈stL2
  ·rw [decide_eq_true c2]
   have wS:=wk.s c2;have e:yL k=[Xv k]:=by unfold yL;rw [if_neg c1,if_pos c2]
   rw [e];have sls:=ZT _ wS.len;have tk2:=tk1.same s2;obtain ⟨bx,rfl,ebx⟩:=id tk2;refine zC ⟨_,rfl,bx,_,rfl,.inr (SqT.of (h2.sm _ _ ebx)),λpa npa=>?_⟩;have h3:=h2.new (o:=.lst (k.map kV)) npa;generalize upd J2 pa _=J3 at h3 ⊢;refine ⟨_,rfl,.ref bx,k,rfl,tk2.same h3.sm,wS.c,λH5 H4 l4 s4 n4 eH=>?_⟩;subst eH;obtain ⟨B4,sB4,h4,o4⟩:=Hd.over h3 (s4.trans (zU (o:=.lst (((zQ (wd k)).getD []).map λi:Nat=>V.int i)) (Same.refl _) n4));have el4:upd H4 l4 (.lst (((zQ (wd k)).getD []).map λi:Nat=>V.int i)) l4=some (.lst (((zQ (wd k)).getD []).map λi:Nat=>V.int i)):=zu;generalize upd H4 l4 (.lst (((zQ (wd k)).getD []).map λi:Nat=>V.int i))=J5 at h4 o4 el4 ⊢
   have e4:B4 l4=some (.lst (((zQ (wd k)).getD []).map λi:Nat=>V.int i)):=by
    refine o4 _ _ el4 λm=>?_;obtain ⟨q',hq,eq'⟩:=List.mem_map.mp m;have:=s4 _ _ (h3.st q' hq);rw [eq',n4] at this;cases this
   have em:Xv k=(Zc k ((zQ (wd k)).getD [])).set (k.length-1) (.inl (-1)):=rfl;generalize (zQ (wd k)).getD []=L at sls el4 e4 em;refine ⟨l4,rfl,⟨_,SqL.of el4⟩,ye (K:=K) (a:=l4) (xs:=L.map λi:Nat=>V.int i) (λj σ J=>∃ u4,σ=[rq a,rq l,rq bx,rq pa,u4]/\Hd B4 [(pa,.lst ((Zc k (L.take j)).map kV)),(l,.lst ys)] J) ⟨u4,rfl,h4⟩ (λj σ J _ ⟨_,_,hh⟩=>SqL.of (hh.sm _ _ e4)) ?_ ?_⟩
   ·rintro j v σ J6 hj ⟨u,rfl,h6⟩
    obtain ⟨jj,ejj,rfl⟩:=Zz hj;have jlt:jj<k.length:=sls jj (List.mem_of_getElem? ejj)
    have eb:Zc k (L.take (j+1))=(Zc k (L.take j)).set jj (.inl (-1)):=by
     unfold Zc;rw [List.take_succ,ejj,List.foldl_append];rfl
    refine ⟨_,rfl,_,rfl,_,rfl,pa,_,(jj:Int),jj,rfl,rfl,h6.get 0 rfl,by rw [Jo,Yb];exact ixN_nat (by omega) (by omega),_,rfl,?_⟩;rw [eb,List.map_set];exact h6.fput
   ·rintro σ J6 ⟨u,rfl,h6⟩
    rw [Jo,List.take_length] at h6;refine ⟨_,rfl,_,rfl,_,rfl,pa,_,-1,k.length-1,rfl,rfl,h6.get 0 rfl,by rw [Jo,Yb];exact last_ix wk.pos,?_⟩;have h7:=h6.fput (o':=.lst (((Zc k L).map kV).set (k.length-1) (.int (-1))));have e7:((Zc k L).map kV).set (k.length-1) (.int (-1))=(Xv k).map kV:=by rw [em,List.map_set];rfl
    rw [e7] at h7 ⊢;generalize upd J6 pa (.lst ((Xv k).map kV))=J7 at h7 ⊢;refine ⟨_,rfl,tyL (h7.get 1 rfl),_,rfl,pa,_,rfl,.inl ⟨h7.lst 0 rfl,λtt ntt=>?_⟩⟩;obtain ⟨B8,s8,e8,h8⟩:=hdG h7 rfl ntt;exact ⟨l,ys,_,rfl,rfl,h8.get 1 rfl,by omega,B8,_,_,_,ys++[.ref tt],rfl,sB.trans (s1.trans (s2.trans (sB4.trans s8))),h8.tl.fput,Paired.snoc (ty.same (s1.trans (s2.trans (sB4.trans s8)))) ⟨tt,rfl,e8⟩⟩
  ·rw [decide_eq_false c2]
   have e:yL k=[]:=by unfold yL;rw [if_neg c1,if_neg c2]
   rw [e,q3x];exact zy ⟨B2,_,_,_,ys,rfl,sB.trans (s1.trans s2),h2,ty.same (s1.trans s2)⟩
 ·rintro σ J ⟨B,u2,u3,u4,ys,rfl,sB,h,ty⟩
  rw [xl,List.take_length] at ty;exact ⟨_,rfl,q B J l ys sB h ty⟩
def StrAt (B:Hp):Jm->List (List Sk)->Prop:=Paired λr p=>∃ xs,B r=some (.lst xs)/\TupL B xs p
def StrAt.same {B B':Hp} {rs:Jm} {ps:List (List Sk)} (h:StrAt B rs ps) (s:Same B B'):StrAt B' rs ps:=Paired.mapP h λ_ _ ⟨xs,e,t⟩=>⟨xs,s _ _ e,t.same s⟩
def spSts (vs:Jt) (H:Hp) (Q:VK) (_:XK):Prop:=∃ (a:Ad) (xs:Jt) (ks:List Sk),vs=[.ref a]/\H a=some (.lst xs)/\TupL H xs ks/\(∀ k∈ks,StOk k)/\ks.length<14000/\∀ B H' ro rs,Same H B->Hd B [(ro,.lst (List.map V.ref rs))] H'->StrAt B rs (z8 ks).acc->Q (.ref ro) H'
def sp_snoc (l:List Sk) (k:Sk):z8 (l++[k])=(z8 l).step k:=by unfold z8;rw [List.foldl_append];rfl
def sp_len:∀ l:List Sk,(z8 l).acc.length+(z8 l).cur.length<=l.length:=by
 refine zao (Nat.le_refl _) λl k ih=>?_;rw [sp_snoc,Jp];unfold Sp.step
 split
 ·show (z8 l).acc.length+0<=l.length+1;omega
 ·split
  ·show ((z8 l).acc++[(z8 l).cur]).length+0<=l.length+1;rw [Jp];show (z8 l).acc.length+1+0<=_;omega
  ·show (z8 l).acc.length+((z8 l).cur++[k]).length<=l.length+1;rw [Jp];show _+(_+1)<=_;omega
def ok_strips (d:zp K mg "_law_strips" xG ["_law_code"]):Ok P w K mg base CX0 1 "_law_strips" ["_law_code"] spSts:=by
 obtain ⟨g,fd,m,F,b⟩:=d;refine ⟨g,fd,m,F.kp,b,F.ok sc_l_strips (by rintro vs H Q E ⟨_,_,_,e,_⟩;rw [e];rfl) λcdv A outer s H vs Q E hr h=>?_⟩;obtain ⟨a,xs,ks,rfl,ea,tl,wf,kl,q⟩:=h;have nd:=sc_l_strips.nd;have SZ:(100000:Nat)<sizeLine:=by decide
 have xl:=Paired.length tl;refine ⟨_,(zd (zq (i:=1) nd rfl (Or.inl rfl) (zH zc))
   (zd (zq (i:=2) nd rfl (Or.inl rfl) (zH zc))
   (zd (ym PassesOwn.never rfl (yj (pv 0)) (zV (i:=3) nd rfl (Or.inl rfl)) (ze (zv (zg zO (zi zn (pv 3) zb (λ_ _=>rfl)) zf (zm _)) (ze (zq (i:=2) nd rfl (Or.inl rfl) (zH zc))) (ze (zv (zg zO (zi zn (pv 3) zb (λ_ _=>rfl)) zf (zm _)) (zd (zG (yZ PySem.F.plainAttrs_list PySem.F.slot_list_append PySem.F.type_list_append zW (pv 1) (za (pv 2) zc)))
   (ze (zq (i:=2) nd rfl (Or.inl rfl) (zH zc)))) (ze (zG (yZ PySem.F.plainAttrs_list PySem.F.slot_list_append PySem.F.type_list_append zW (pv 2) (za (pv 3) zc)))))))))
   (ze (zk (pv 1)))))),?_⟩
 dsimp only [yh,Cx.nox,Cx.wish];refine ⟨szU 0,λro nro=>⟨szU 0,λst nst=>?_⟩⟩;have h0:Hd H [(ro,.lst [])] (upd H ro (.lst [])):=Hd.base.new nro;have h1:=h0.fnew (o:=.lst []) nst;refine ⟨_,rfl,a,rfl,⟨_,SqL.of (h1.sm _ _ ea)⟩,ye (K:=K) (a:=a) (xs:=xs) (λi σ J=>∃ B st rs zs u,σ=[rq a,rq ro,rq st,u]/\Same H B/\Hd B [(ro,.lst (List.map V.ref rs)),(st,.lst zs)] J/\StrAt B rs (z8 (ks.take i)).acc/\TupL B zs (z8 (ks.take i)).cur) ⟨H,st,[],[],none,rfl,Same.refl _,h1,.nil,.nil⟩ (λi σ J _ ⟨B,_,_,_,_,_,s,h,_⟩=>SqL.of (h.sm _ _ (s _ _ ea))) ?_ ?_⟩
 ·rintro i x σ J hi ⟨B,st,rs,zs,u,rfl,sB,h,tr,tz⟩
  obtain ⟨k,ek,tk⟩:=tl.at hi;have wk:=wf k (List.mem_of_getElem? ek);have il:=(List.getElem?_eq_some_iff.mp ek).1;have tkB:=tk.same sB;have sl:=sp_len (ks.take i);rw [List.length_take] at sl;have rl:=Paired.length tr;have zl:=Paired.length tz;rw [List.take_succ,ek,show (some k).toList=[k] from rfl,sp_snoc];generalize z8 (ks.take i)=S at tr tz sl rl zl ⊢;refine ⟨_,rfl,tix (tkB.same h.sm) 0 wk.pos ?_⟩;rw [wk.at0];refine ⟨rfl,_,rfl,?_⟩;rw [eqS];unfold Sp.step;by_cases c1:wd k="begin"
  ·rw [decide_eq_true c1,if_pos c1]
   refine zC ⟨szU 0,λst2 n2=>?_⟩;have h2:=h.fnew (o:=.lst []) n2;exact ⟨B,st2,rs,[],_,rfl,sB,h2.sub (List.Sublist.cons_cons _ (List.Sublist.cons_cons _ (List.nil_sublist _))),tr,.nil⟩
  rw [decide_eq_false c1,if_neg c1];refine zy ⟨_,rfl,tix (tkB.same h.sm) 0 wk.pos ?_⟩;rw [wk.at0];refine ⟨rfl,_,rfl,?_⟩;rw [eqS];by_cases c2:wd k="next"
  ·rw [decide_eq_true c2,if_pos c2]
   refine zC ⟨_,rfl,tyL (h.get 0 rfl),_,rfl,ro,_,_,rfl,rfl,h.get 0 rfl,by rw [Jo];omega,?_⟩;have h2:=h.fput (o':=.lst (List.map V.ref rs++[.ref st]));have h3:=h2.perm (List.Perm.swap _ _ _);have s3:=h3.settled;have h4:=h3.settle;have e4:upd B st (.lst zs) st=some (.lst zs):=zu;generalize upd B st (.lst zs)=B4 at s3 h4 e4;generalize upd J ro _=J4 at h4 ⊢;refine ⟨szU 0,λst2 n2=>?_⟩;have h5:=h4.fnew (o:=.lst []) n2;refine ⟨B4,st2,rs++[st],[],_,rfl,sB.trans s3,by rw [Jq];exact h5,Paired.snoc (tr.same s3) ⟨zs,e4,tz.same s3⟩,.nil⟩
  ·rw [decide_eq_false c2,if_neg c2]
   exact zy ⟨_,rfl,tyL (h.get 1 rfl),_,rfl,st,zs,x,rfl,rfl,h.get 1 rfl,by omega,B,st,rs,zs++[x],_,rfl,sB,h.put 1 rfl,tr,Paired.snoc tz tkB⟩
 ·rintro σ J ⟨B,st,rs,zs,u,rfl,sB,h,tr,tz⟩
  rw [xl,List.take_length] at tr;exact ⟨_,rfl,q B J ro rs sB (h.sub (List.sublist_append_left [_] _)) tr⟩
end
def wf_st {k:Sk} (h:WfS k):StOk k:=by
 obtain ⟨w,r,e,_⟩:=h.w;exact ⟨⟨w,r,e⟩,λ_=>h,h.ok⟩
def bg_st (a b:Int):StOk (bgS a b):=⟨⟨_,_,rfl⟩,λm=>absurd (show ("begin":Str)∈stL2 from m) (by decide),by show ([.inr "begin",.inl a,.inl b]:Sk).all kOk=true;rw [List.all_cons,show kOk (.inr "begin")=true by decide +kernel];rfl⟩
def nx_st:StOk nxS:=⟨⟨_,_,rfl⟩,λm=>absurd (show ("next":Str)∈stL2 from m) (by decide),by decide +kernel⟩
def out_st {k:Sk} (h:OutOk k):StOk k:=by
 obtain ⟨w,r,rfl,m⟩:=h.w;refine ⟨⟨_,_,rfl⟩,λm2=>absurd (show w∈stL2 from m2) ?_,h.ok⟩;have:∀ w∈outL,w ∉ stL2:=by decide
 exact this w m
theorem zai {l:List Sg} (h:∀ g∈l,g.Ok):∀ k∈yv l,StOk k:=λk m=>by
 obtain ⟨g,mg,mk⟩:=List.mem_flatMap.mp m;have hg:=h g mg
 cases g with
 | o k'=>rw [List.mem_singleton.mp mk];exact out_st hg
 | r a b ks =>
  rcases List.mem_cons.mp mk with rfl | mk
  ·exact bg_st a b
  ·rcases List.mem_append.mp mk with mk | mk
   ·exact wf_st (hg.1 k mk)
   ·rw [List.mem_singleton.mp mk];exact nx_st
theorem XO {l:List Sg} (h:∀ g∈l,g.Ok):∀ k∈yY l,StOk k:=λk m=>by
 obtain ⟨g,mg,mk⟩:=List.mem_flatMap.mp m;have hg:=h g mg
 cases g with
 | o k'=>rw [List.mem_singleton.mp mk];exact out_st hg
 | r a b ks =>
  rcases List.mem_cons.mp mk with rfl | mk
  ·exact bg_st a b
  ·rcases List.mem_append.mp mk with mk | mk
   ·exact wf_st (Zd _ hg.1 k mk)
   ·rw [List.mem_singleton.mp mk];exact nx_st
def Xc {l:List Sg} (h:∀ g∈l,g.Ok):(yv l).length<=62*l.length:=by
 induction l with
 | nil=>exact Nat.le_refl _
 | cons g l ih =>
  have ih:=ih λx m=>h x (q1x _ m);have hg:=h g q1y;show (g.code++yv l).length<=_
  have:g.code.length<=62:=by
   cases g with
   | o k=>exact (by decide:1<=62)
   | r a b ks =>
    show (bgS a b::(ks++[nxS])).length<=62;have:=hg.2;rw [q2z,Jp];show ks.length+1+1<=62;omega
  rw [Jp,q2z];omega
theorem Yu:∀ (l:List Sk) (S:Sp) (n:Nat),S.cur.length+l.length<=n->(∀ t∈S.acc,t.length<=n)->∀ t∈(l.foldl Sp.step S).acc,t.length<=n
 | [],_,_,_,h=>h
 | k::l,S,n,hc,h=>by
  rw [q2z] at hc;rw [List.foldl_cons];unfold Sp.step
  split
  ·exact Yu l _ n (by show 0+l.length<=n;omega) h
  ·split
   ·refine Yu l _ n (by show 0+l.length<=n;omega) λt m=>?_
    rcases List.mem_append.mp m with m | m
    ·exact h t m
    ·rw [List.mem_singleton.mp m];omega
   ·exact Yu l _ n (by show (S.cur++[k]).length+l.length<=n;rw [Jp];show S.cur.length+1+l.length<=n;omega) h
section
variable {P:Program} {w:World} {K:Fg} {mg:J0} {base:Heap} {aS aR aF:Ad}
def spLaw (K:Fg) (vs:Jt) (H:Hp) (Q:VK) (_:XK):Prop:=∃ (a:Ad) (ns:Jh),vs=[.ref a]/\SqL K H a (ns.map V.int)/\ns.length<=63/\∀ H',Q (.bl true) H'
def ok_law {f:Ad} {fd:FuncData} (F:Fun K "law" "law" YU f fd) (hlen:mg "len"=none) (hrg:mg "range"=none) (LN:Ok P w K mg base CX0 1 "_law_lengths_by" ["_law_script","_law_many"] (spLn K)) (RO:Ok P w K mg base CX0 8 "_law_rounds_by" ["_law_script","_law_lengths","_law_many","_law_group"] (spRo K)) (LS:Ok P w K mg base CX0 1 "_law_lays_seat" ["_law_step"] spLS) (DE:Ok P w K mg base CX0 3 "_law_dead" ["_law_strip","_law_at"] spDe) (STA:Ok P w K mg base CX0 2 "_law_staying" ["_law_code"] spSta) (STS:Ok P w K mg base CX0 1 "_law_strips" ["_law_code"] spSts) (SO:Ok P w K mg base CX0 9 "_law_short" ["_law_code"] spSo) (SHO:Ok P w K mg base CX0 8 "shortened" ["code"] spSh):FnOk P w K mg base CX0 10 f fd ["_law_script"] (spLaw K):=by
 refine F.ok sc_law (by rintro vs H Q E ⟨_,_,e,_⟩;rw [e];rfl) λcdv A outer s H vs Q E hr h=>?_;obtain ⟨a,ns,rfl,hS,nl,k⟩:=h;have nd:=sc_law.nd;have hr9:Room 9 _:=hr;have hr8:Room 8 _:=hr.mono (by decide);have hr3:Room 3 _:=hr.mono (by decide);have hr2:Room 2 _:=hr.mono (by decide);have hr1:Room 1 _:=hr.mono (by decide);have hu64:=hr.units;have SZ:(10000:Nat)<sizeLine:=by decide
 refine ⟨_,(zd (zv (zg zO (zE zr (by rfl) hlen PySem.boot_len (za (pv 0) zc)) zb (zm _)) (ze (zk (z9 (op_eqTs hu64) (zw SHO hr8 (by rfl) zz (za (zH zc) zc)) (zH zc) (zm _)))) zj)
   (zd (zq (i:=1) nd rfl (Or.inl rfl) (zo yJ zb (zo zD (zi zx (pv 0) zb (λ_ _=>rfl)) zb)))
   (zd (yg (zq (i:=2) nd rfl (Or.inl rfl) (zi zx (zH (za zb (za zb (za zb (za zb zc))))) (zo zD (zo yd (zi zx (pv 0) (yo z4 zb) (λ_ _=>rfl)) zb) zb) (λ_ _=>rfl))))
   (zd (zq (i:=3) nd rfl (Or.inl rfl) (zw LN hr1 (by rfl) zz (za (pv 0) (za (pv 1) zc))))
   (zd (zq (i:=4) nd rfl (Or.inl rfl) (zH zc))
   (zd (ym PassesOwn.never rfl (yj (zw RO hr8 (by rfl) zz (za (pv 0) (za (pv 3) (za (pv 1) (za (pv 2) zc)))))) (zV (i:=5) nd rfl (Or.inl rfl)) (ze (zG (yZ PySem.F.plainAttrs_list PySem.F.slot_list_extend PySem.F.type_list_extend Xu (pv 4) (za (pv 5) zc)))))
   (zd (yg (zv (zg zO (zo zD (zE zr (by rfl) hlen PySem.boot_len (za (pv 0) zc)) zb) zb (zm _)) (zd (zq (i:=6) nd rfl (Or.inl rfl) (zH (za (zt (za zf zc)) (za (zt (za zf (za zb (za (pv 2) zc)))) (za (zt (za zf (za zb (za zb (za zb zc))))) (za (zt (za zf (za zb (za zb zc)))) (za (zt (za zf zc)) zc)))))))
   (ze (zq (i:=4) nd rfl (Or.inl rfl) (zo Zy (zo Zy (zo Zy (zH (za (zt (za zf zc)) zc)) (pv 4)) (pv 6)) (zH (za (zt (za zf (za (zo yJ zb (zo zD (zi zx (pv 0) zb (λ_ _=>rfl)) zb)) (za zb zc)))) zc)))))) zj))
   (zd (zq (i:=7) nd rfl (Or.inl rfl) (zw SO hr9 (by rfl) zz (za (pv 4) zc)))
   (zd (zv (xK (xU (zg Y0 (pv 7) xh (zm _)) (xJ (zg (X2 hu64) (zw STA hr2 (by rfl) zz (za (pv 7) zc)) (zw STA hr2 (by rfl) zz (za (pv 4) zc)) (zm _)))).pt) (ze (zk yA)) zj)
   (zd (ym PassesOwn.never rfl (yj (zw STS hr1 (by rfl) zz (za (pv 7) zc))) (zV (i:=8) nd rfl (Or.inl rfl)) (ze (ym PassesOwn.never rfl (xc rfl hrg (za (zE zr (by rfl) hlen PySem.boot_len (za (pv 8) zc)) zc)) (zV (i:=9) nd rfl (Or.inl rfl)) (zd (yg (zq (i:=10) nd rfl (Or.inl rfl) (pe_or (zw LS hr1 (by rfl) zz (za (zi zx (pv 8) (pv 9) (λ_ _=>rfl)) zc)) (xL (z9 zN (zi zn (zi zx (pv 8) (pv 9) (λ_ _=>rfl)) zb (λ_ _=>rfl)) (zt (za zf (za zf (za zf zc)))) rfl)))))
   (ze (zv (xV (yi (pv 10)) (Zm (yi (zw DE hr3 (by rfl) zz (za (pv 8) (za (pv 9) zc)))))).pt (ze (zk yA)) zj))))))
   (ze (zk yA)))))))))))),?_⟩
 dsimp only [yh,Cx.nox,Cx.wish];refine ⟨_,rfl,a,_,rfl,.inl hS,rfl,_,rfl,?_⟩;rw [eqI,Jo];by_cases hz:(ns.length:Int)=0
 ·rw [decide_eq_true hz]
  refine zC ⟨szU 0,λl nl=>⟨l,[],[],rfl,zu,.nil,trivial,by decide,λB H2 l2 ys sB h2 t2=>⟨szU 0,λl3 nl3=>?_⟩⟩⟩;have e2:=zU (o:=.lst []) (Same.refl _) nl3 _ _ (h2.get 0 rfl);cases t2;exact ⟨l2,l3,[],[],[],[],rfl,rfl,SqL.of e2,SqL.of zu,.nil,.nil,(λ_ h=>nomatch h),(λ_ h=>nomatch h),k _⟩
 rw [decide_eq_false hz];have np:0<ns.length:=by omega
 have nn:ns≠[]:=λz=>by rw [z] at np;exact Nat.lt_irrefl _ np
 obtain ⟨c0,e0⟩:∃ c0:Int,atI (ns.map V.int) (0:Int)=some (V.int c0):=⟨ns[0],zM (j:=0) (by rw [List.getElem?_map,List.getElem?_eq_getElem np];rfl)⟩
 obtain ⟨c9,e9⟩:∃ c9:Int,atI (ns.map V.int) (-1)=some (V.int c9):=by
  have e:ns=ns.dropLast++[ns.getLast nn]:=(List.dropLast_concat_getLast nn).symm;refine ⟨ns.getLast nn,?_⟩
  conv=>lhs;rw [e]
  rw [Jq];exact Xh _ _
 refine zy ⟨_,rfl,a,_,_,_,rfl,rfl,hS,e0,_,_,rfl,rfl,(by show (0:Int)<9;decide),_,_,rfl,rfl,?_⟩;generalize 1+c0 % 9=mn_;refine ⟨λσ J=>∃ gr:Int,1<=gr/\gr<=4/\Same H J/\σ=[rq a,iq mn_,iq gr,none,none,none,none,none,none,none,none],?_,?_⟩
 ·refine ⟨szU 4,λl nl=>?_⟩
  generalize hX:upd _ _ _=H1;obtain ⟨s1,e1⟩:=yr hX nl;clear hX
  obtain ⟨gr,eg,g1,g4⟩:∃ gr:Int,atI [V.int 1,V.int 2,V.int 4,V.int 1] (c9 / 6 % 4)=some (V.int gr)/\1<=gr/\gr<=4:=by
   have:c9 / 6 % 4=0∨c9 / 6 % 4=1∨c9 / 6 % 4=2∨c9 / 6 % 4=3:=by omega
   rcases this with e | e | e | e <;> rw [e]
   ·exact ⟨1,rfl,by decide,by decide⟩
   ·exact ⟨2,rfl,by decide,by decide⟩
   ·exact ⟨4,rfl,by decide,by decide⟩
   ·exact ⟨1,rfl,by decide,by decide⟩
  exact ⟨_,rfl,_,rfl,a,_,_,_,rfl,rfl,zF hS s1,e9,_,_,rfl,rfl,⟨by decide,by decide⟩,_,_,rfl,rfl,(by show (0:Int)<4;decide),l,_,_,_,rfl,rfl,SqL.of e1,eg,gr,g1,g4,s1,rfl⟩
 rintro σ J ⟨gr,g1,g4,sJ,rfl⟩;refine ⟨_,rfl,_,rfl,a,ns,mn_,rfl,zF hS sJ,nn,λH2 l ls s2 el l4 mm=>?_⟩;replace s2:=sJ.trans s2;refine ⟨szU 0,λcd ncd=>?_⟩;have h3:Hd H2 [(cd,.lst [])] (upd H2 cd (.lst [])):=Hd.base.new ncd;generalize upd H2 cd (.lst [])=H3 at h3 ⊢;refine ⟨_,rfl,_,rfl,_,rfl,_,rfl,a,l,ns,ls,mn_,gr,rfl,h3.sql (zF hS s2),np,nl,SqL.of (h3.sm _ _ el),l4,mm,g1,g4,λB4 H4 ro rs ps s4 h4 pa po pl=>?_⟩;obtain ⟨B5,s5,h5,o5⟩:=Hd.over h3 (s4.trans h4.sm);have nT:∀ p∈[(cd,HO.lst [])],∀ xs,p.2≠.tup xs:=λp m xs z=>by cases List.mem_singleton.mp m;cases z
 have nro:ro≠cd:=λe=>by
  have:=s4 _ _ (h3.get 0 rfl);rw [← e,h4.nw (ro,_) q1y] at this;cases this
 have ero:B5 ro=some (.lst (List.map V.ref rs)):=o5 _ _ (h4.get 0 rfl) (by simpa using nro)
 have pa5:PartsAt B5 rs ps:=Paired.mapP pa λr p ⟨xs,er,tr,xn⟩=>by
  refine ⟨xs,o5 _ _ (h4.sm _ _ er) ?_,ovL h5 o5 nT (tr.same h4.sm),xn⟩;intro m;have e:r=cd:=by simpa using m
  have e3:=s4 _ _ (h3.get 0 rfl);rw [← e,er] at e3;injection e3 with e3;injection e3 with e3
  exact xn e3
 clear h4 pa nT o5;have hS5:=zF hS (s2.trans s5);have rl:=Paired.length pa5;refine ⟨ro,rfl,⟨_,SqL.of (h5.sm _ _ ero)⟩,ye (K:=K) (a:=ro) (xs:=List.map V.ref rs) (λi σ J=>∃ B xs gs u5,σ=[rq a,iq mn_,iq gr,rq l,rq cd,u5,none,none,none,none,none]/\Same B5 B/\Hd B [(cd,.lst xs)] J/\TupL B xs (yv gs)/\(∀ g∈gs,g.Ok)/\gs.length=i) ⟨B5,[],[],none,rfl,Same.refl _,h5,.nil,(λ_ h=>nomatch h),rfl⟩ (λi σ J _ ⟨B,_,_,_,_,s,h,_⟩=>SqL.of (h.sm _ _ (s _ _ ero))) ?_ ?_⟩
 ·rintro i x σ J6 hi ⟨B6,xs,gs,u5,rfl,s6,h6,t6,go,gl⟩
  obtain ⟨r,er,rfl⟩:=Zz hi;have il:=(List.getElem?_eq_some_iff.mp er).1
  obtain ⟨p,ep,ys,ey,ty,_⟩:∃ p,ps[i]?=some p/\∃ ys,B5 r=some (.lst ys)/\TupL B5 ys p/\ys≠[]:=by
   have gen:∀ {rs:Jm} {ps:List (List Sk)} {i:Nat},PartsAt B5 rs ps->rs[i]?=some r->∃ p,ps[i]?=some p/\∃ ys,B5 r=some (.lst ys)/\TupL B5 ys p/\ys≠[]:=by
    intro rs ps i h
    induction h generalizing i with
    | nil=>intro e;cases e
    | cons h _ ih =>
     intro e
     match i,e with
     | 0,e=>cases e;exact ⟨_,rfl,h⟩
     | i+1,e=>exact ih e
   exact gen pa5 er
  obtain ⟨pa',pb,kk,rfl,wk,kl⟩:=po p (List.mem_of_getElem? ep);have cl:=Xc go;have xl:=Paired.length t6;have yl:=Paired.length ty;have yl2:ys.length<=54:=by rw [yl,q2z,Jp];show kk.length+1+1<=54;omega
  refine ⟨_,rfl,tyL (h6.get 0 rfl),_,rfl,cd,r,xs,ys,rfl,rfl,h6.get 0 rfl,h6.sm _ _ (s6 _ _ ey),by omega,B6,xs++ys,gs++[.r pa' pb kk],_,rfl,s6,h6.fput,?_,λg m=>?_,by rw [Jp,gl];rfl⟩
  ·have e:yv (gs++[.r pa' pb kk])=yv gs++bgS pa' pb::(kk++[nxS]):=by
    unfold yv;rw [List.flatMap_append];show _++(bgS pa' pb::(kk++[nxS])++[])=_;rw [q3x]
   rw [e];exact t6.app (ty.same s6)
  ·rcases List.mem_append.mp m with m | m
   ·exact go g m
   ·rw [List.mem_singleton.mp m];exact ⟨wk,by omega⟩
 rintro σ J6 ⟨B6,xs,gs,u5,rfl,s6,h6,t6,go,gl⟩;rw [Jo] at gl;have cl:=Xc go;have xl:=Paired.length t6;have hS6:=zF hS5 s6;refine ⟨λσ J7=>∃ B7 cd2 xs2 gs2 u5 u6,σ=[rq a,iq mn_,iq gr,rq l,rq cd2,u5,u6,none,none,none,none]/\Same B6 B7/\Same B7 J7/\J7 cd2=some (.lst xs2)/\TupL J7 xs2 (yv gs2)/\(∀ g∈gs2,g.Ok)/\gs2.length<=10,?_,?_⟩
 ·refine ⟨_,rfl,a,_,rfl,.inl (h6.sql hS6),_,_,rfl,rfl,(by show (0:Int)<3;decide),rfl,_,rfl,xN (λz=>?_) (λz=>⟨B6,cd,xs,gs,_,_,rfl,Same.refl _,h6.sm,h6.get 0 rfl,t6.same h6.sm,go,by omega⟩)⟩
  refine ⟨szU 1,λp1 np1=>?_⟩;generalize hX:upd _ _ _=J1;obtain ⟨sp1,ep1⟩:=yr hX np1;clear hX;refine ⟨_,rfl,szU 3,λp2 np2=>?_⟩;generalize hX:upd _ _ _=J2;obtain ⟨sp2,ep2⟩:=yr hX np2;clear hX;refine ⟨szU 4,λp3 np3=>?_⟩;generalize hX:upd _ _ _=J3;obtain ⟨sp3,ep3⟩:=yr hX np3;clear hX;refine ⟨szU 3,λp4 np4=>?_⟩;generalize hX:upd _ _ _=J4;obtain ⟨sp4,ep4⟩:=yr hX np4;clear hX;refine ⟨szU 1,λp5 np5=>?_⟩;generalize hX:upd _ _ _=J5;obtain ⟨sp5,ep5⟩:=yr hX np5;clear hX;refine ⟨szU 5,λl1 nl1=>?_⟩;generalize hX:upd _ _ _=J8;obtain ⟨sl1,el1⟩:=yr hX nl1;clear hX;refine ⟨szU 1,λp6 np6=>?_⟩;generalize hX:upd _ _ _=J9;obtain ⟨sp6,ep6⟩:=yr hX np6;clear hX;refine ⟨szU 1,λl2 nl2=>?_⟩;generalize hX:upd _ _ _=Ja;obtain ⟨sl2,el2⟩:=yr hX nl2;clear hX;have sA:Same J6 Ja:=sp1.trans (sp2.trans (sp3.trans (sp4.trans (sp5.trans (sl1.trans (sp6.trans sl2))))));refine ⟨_,rfl,l2,cd,_,_,rfl,rfl,el2,sA _ _ (h6.get 0 rfl),by show 1+xs.length<=_;omega,λl3 nl3=>?_⟩;generalize hX:upd _ _ _=Jb;obtain ⟨sl3,el3⟩:=yr hX nl3;clear hX;refine ⟨_,rfl,l3,l1,_,_,rfl,rfl,el3,(sp6.trans (sl2.trans sl3)) _ _ el1,by rw [Jp];show 1+xs.length+5<=_;omega,λl4 nl4=>?_⟩;generalize hX:upd _ _ _=Jc;obtain ⟨sl4,el4⟩:=yr hX nl4;clear hX;refine ⟨_,rfl,a,_,_,_,rfl,rfl,zF (h6.sql hS6) (sA.trans (sl3.trans sl4)),e0,_,_,rfl,rfl,(by show (0:Int)<1000;decide),_,_,rfl,rfl,szU 3,λp7 np7=>?_⟩;generalize hX:upd _ _ _=Jd;obtain ⟨sp7,ep7⟩:=yr hX np7;clear hX;refine ⟨szU 1,λl5 nl5=>?_⟩;generalize hX:upd _ _ _=Je;obtain ⟨sl5,el5⟩:=yr hX nl5;clear hX;refine ⟨l4,l5,_,_,rfl,rfl,(sp7.trans sl5) _ _ el4,el5,by rw [Jp,Jp];show 1+xs.length+5+1<=_;omega,λl6 nl6=>?_⟩;generalize hX:upd _ _ _=Jf;obtain ⟨sl6,el6⟩:=yr hX nl6;clear hX;have f7:=sl5.trans sl6;have f6:=sl2.trans (sl3.trans (sl4.trans (sp7.trans f7)));have f5:=sl1.trans (sp6.trans f6);have f4:=sp5.trans f5;have f3:=sp4.trans f4;have f2:=sp3.trans f3;have f1:=sp2.trans f2;have f0:=sp1.trans f1;refine ⟨B6,l6,_,.o [.inr "turns"]::(gs++[.o [.inr "quiet"],.r 1 gr [[.inr "load",.inl 0,.inl 0,.inl 0],[.inr "any",.inl 0,.inl 0]],.o [.inr "till",.inl (1+c0 % 1000),.inl 7]]),_,_,rfl,Same.refl _,h6.sm.trans f0,el6,?_,?_,?_⟩
  ·have q1:TupK Jf (.ref p1) [.inr "quiet"]:=⟨p1,rfl,f1 _ _ ep1⟩
   have q2:TupK Jf (.ref p2) [.inr "begin",.inl 1,.inl gr]:=⟨p2,rfl,f2 _ _ ep2⟩;have q3:TupK Jf (.ref p3) [.inr "load",.inl 0,.inl 0,.inl 0]:=⟨p3,rfl,f3 _ _ ep3⟩;have q4:TupK Jf (.ref p4) [.inr "any",.inl 0,.inl 0]:=⟨p4,rfl,f4 _ _ ep4⟩;have q5:TupK Jf (.ref p5) [.inr "next"]:=⟨p5,rfl,f5 _ _ ep5⟩;have q6:TupK Jf (.ref p6) [.inr "turns"]:=⟨p6,rfl,f6 _ _ ep6⟩;have q7:TupK Jf (.ref p7) [.inr "till",.inl (1+c0 % 1000),.inl 7]:=⟨p7,rfl,f7 _ _ ep7⟩;have tt:=TupL.app (TupL.app (TupL.app (Paired.cons q6 .nil) ((t6.same h6.sm).same f0)) (Paired.cons q1 (Paired.cons q2 (Paired.cons q3 (Paired.cons q4 (Paired.cons q5 .nil)))))) (Paired.cons q7 .nil)
   have e:([[.inr "turns"]]:List Sk)++yv gs++[[.inr "quiet"],[.inr "begin",.inl 1,.inl gr],[.inr "load",.inl 0,.inl 0,.inl 0],[.inr "any",.inl 0,.inl 0],[.inr "next"]]++[[.inr "till",.inl (1+c0 % 1000),.inl 7]]=yv (.o [.inr "turns"]::(gs++[.o [.inr "quiet"],.r 1 gr [[.inr "load",.inl 0,.inl 0,.inl 0],[.inr "any",.inl 0,.inl 0]],.o [.inr "till",.inl (1+c0 % 1000),.inl 7]])):=by
    unfold yv;rw [List.flatMap_cons,List.flatMap_append,List.append_assoc,List.append_assoc];rfl
   rw [← e];exact tt
  ·intro g m
   rcases List.mem_cons.mp m with rfl | m
   ·exact ⟨⟨_,_,rfl,by decide⟩,by decide +kernel⟩
   ·rcases List.mem_append.mp m with m | m
    ·exact go g m
    ·rcases List.mem_cons.mp m with rfl | m
     ·exact ⟨⟨_,_,rfl,by decide⟩,by decide +kernel⟩
     ·rcases List.mem_cons.mp m with rfl | m
      ·refine ⟨λk m=>?_,by decide⟩
       rcases List.mem_cons.mp m with rfl | m
       ·exact wfI (by show (("load":Str),4)∈z7;decide) (by decide +kernel) rfl (by decide) (by decide)
       ·cases List.mem_singleton.mp m
        exact wfI (by show (("any":Str),3)∈z7;decide) (by decide +kernel) rfl (by decide) (by decide)
      ·cases List.mem_singleton.mp m
       exact ⟨⟨_,_,rfl,by decide⟩,by rw [List.all_cons,show kOk (.inr "till")=true by decide +kernel];rfl⟩
  ·rw [q2z,Jp];show gs.length+3+1<=10;omega
 rintro σ J7 ⟨B7,cd2,xs2,gs2,u5',u6,rfl,s7,sJ7,e7,t7,go2,gl2⟩;have cl2:=Xc go2;have xl2:=Paired.length t7;refine ⟨_,rfl,cd2,xs2,yv gs2,rfl,e7,t7,Y2 go2,λk m=>(zai go2 k m).ok,by omega,λH8 l8 ys s8 e8 t8=>?_⟩;rw [YM go2] at t8;have yl:=Paired.length t8;have tll:=YQ (Y2 go2);rw [YM go2] at tll;refine ⟨λb J9=>b=false/\Same H8 J9,?_,?_⟩
 ·refine ⟨_,rfl,rfl,_,rfl,zy ⟨_,rfl,l8,ys,yY gs2,rfl,e8,t8,XO go2,by omega,λB9 H9 la ya s9 h9 t9=>⟨_,rfl,cd2,xs2,yv gs2,rfl,h9.sm _ _ (s9 _ _ (s8 _ _ e7)),((t7.same s8).same s9).same h9.sm,zai go2,by omega,λBa Ha lb yb sa ha ta=>?_⟩⟩⟩
  have ea:=ha.sm _ _ (sa _ _ (h9.get 0 rfl));refine ⟨la,lb,ya,yb,_,_,rfl,rfl,SqL.of ea,ha.lst 0 rfl,(((t9.same h9.sm).same sa).same ha.sm),ta.same ha.sm,stay_ok λk m=>(XO go2 k m).ok,stay_ok λk m=>(zai go2 k m).ok,_,rfl,?_,s9.trans (h9.sm.trans (sa.trans ha.sm))⟩;have e:stay (yY gs2)=stay (yv gs2):=by rw [xT (yY gs2),xT (yv gs2),st_code]
  rw [e,decide_eq_true rfl];rfl
 rintro b J9 ⟨rfl,s9⟩;refine zy ⟨_,rfl,l8,ys,yY gs2,rfl,s9 _ _ e8,t8.same s9,XO go2,by omega,λBa Ha ro2 rs2 sa ha tr=>?_⟩;have sok:∀ t∈(z8 (yY gs2)).acc,xO t:=sp_told go2 (λ_ h=>nomatch h);have slen:∀ t∈(z8 (yY gs2)).acc,t.length<=(yY gs2).length:=Yu _ _ _ (by show 0+_<=_;omega) (λ_ h=>nomatch h);generalize (z8 (yY gs2)).acc=ac at tr sok slen;refine ⟨ro2,rfl,⟨_,ha.lst 0 rfl⟩,ye (K:=K) (a:=ro2) (xs:=List.map V.ref rs2) (λi σ J=>∃ u7 u8 u9,σ=[some (.ref a),some (.int mn_),some (.int gr),some (.ref l),some (.ref cd2),u5',u6,some (.ref l8),u7,u8,u9]/\Same Ha J) ⟨none,none,none,rfl,Same.refl _⟩ (λi σ J _ ⟨_,_,_,_,s⟩=>SqL.of (s _ _ (ha.get 0 rfl))) ?_ ?_⟩
 ·rintro i x σ J hi ⟨u7,u8,u9,rfl,sJ'⟩
  obtain ⟨r,er,rfl⟩:=Zz hi
  obtain ⟨p,ep,zs,ez,tz⟩:∃ p,ac[i]?=some p/\∃ zs,Ba r=some (.lst zs)/\TupL Ba zs p:=by
   have gen:∀ {rs:Jm} {ps:List (List Sk)} {i:Nat},StrAt Ba rs ps->rs[i]?=some r->∃ p,ps[i]?=some p/\∃ ys,Ba r=some (.lst ys)/\TupL Ba ys p:=by
    intro rs ps i h
    induction h generalizing i with
    | nil=>intro e;cases e
    | cons h _ ih =>
     intro e
     match i,e with
     | 0,e=>cases e;exact ⟨_,rfl,h⟩
     | i+1,e=>exact ih e
   exact gen tr er
  obtain ⟨wp,mm',em⟩:=sok p (List.mem_of_getElem? ep);have zl:=Paired.length tz
  have pl2:p.length<=10000:=by
   have:=slen p (List.mem_of_getElem? ep);omega
  refine ⟨_,rfl,r,_,rfl,.inl (SqL.of ((ha.sm.trans sJ') _ _ ez)),_,rfl,by omega,by omega,XA (n:=zs.length) (λj σ J1=>∃ u8 u9,σ=[some (.ref a),some (.int mn_),some (.int gr),some (.ref l),some (.ref cd2),u5',u6,some (.ref l8),some (.ref r),u8,u9]/\Same J J1) ⟨_,_,rfl,Same.refl _⟩ ?_ ?_⟩
  ·rintro j σ J1 hj ⟨u8,u9,rfl,s1⟩
   obtain ⟨y,ey⟩:∃ y,zs[j]?=some y:=⟨_,List.getElem?_eq_getElem hj⟩;obtain ⟨k',ek',ty⟩:=tz.at ey;have wk':=wp k' (List.mem_of_getElem? ek');have sB1:Same Ba J1:=ha.sm.trans (sJ'.trans s1);refine ⟨λσ J2=>∃ b,σ=[some (.ref a),some (.int mn_),some (.int gr),some (.ref l),some (.ref cd2),u5',u6,some (.ref l8),some (.ref r),some (.int (0+(j:Int))),some (.bl b)]/\(b=true->∃ t,zA k'=some t)/\Same J1 J2,?_,?_⟩
   ·refine ⟨_,rfl,_,rfl,r,_,_,_,rfl,rfl,SqL.of (sB1 _ _ ez),by rw [Int.zero_add];exact zM ey,y,k',rfl,ty.same sB1,wk'.c,λJ2 s2=>⟨_,rfl,?_⟩⟩
    by_cases hw:zS (wd k')=true
    ·rw [hw]
     exact zC ⟨_,rfl,(λ_=>⟨_,by unfold zA;rw [if_pos hw]⟩),s2⟩
    ·rw [Bool.eq_false_iff.mpr hw]
     have sB2:=sB1.trans s2;refine zy ⟨_,rfl,_,rfl,r,_,_,_,rfl,rfl,SqL.of (sB2 _ _ ez),by rw [Int.zero_add];exact zM ey,tix (ty.same sB2) 0 wk'.pos ?_⟩;rw [wk'.at0];refine ⟨szU 3,λp np=>⟨p,_,rfl,.inr (SqT.of zu),rfl,rfl,_,rfl,λhb=>?_,s2.trans (zU (Same.refl _) np)⟩⟩;have e2:inV (V.str (wd k')) ((["choose","other","save"]:Jl).map V.str)=decide (wd k'∈(["choose","other","save"]:Jl)):=zZ _ _;have hb:inV (V.str (wd k')) ((["choose","other","save"]:Jl).map V.str)=true:=by simpa using hb
     rw [e2] at hb;have hm:=of_decide_eq_true hb;unfold zA;rw [if_neg hw];by_cases c1:wd k'="choose"∨wd k'="other"
     ·exact ⟨_,if_pos c1⟩
     ·rw [if_neg c1]
      by_cases c2:wd k'="save"
      ·exact ⟨_,if_pos c2⟩
      ·exfalso
       rcases List.mem_cons.mp hm with e | hm
       ·exact c1 (.inl e)
       ·rcases List.mem_cons.mp hm with e | hm
        ·exact c1 (.inr e)
        ·exact c2 (List.mem_singleton.mp hm)
   ·rintro σ J2 ⟨b,rfl,hb,s2⟩
    cases b with
    | false=>exact ⟨_,rfl,_,rfl,zy (zy ⟨_,_,rfl,s1.trans s2⟩)⟩
    | true =>
     obtain ⟨t,hl⟩:=hb rfl;have sB2:=sB1.trans s2;have hjp:j<p.length:=(List.getElem?_eq_some_iff.mp ek').1
     have ed:p=p.take j++k'::p.drop (j+1):=by
      have:p[j]=k':=(List.getElem?_eq_some_iff.mp ek').2
      conv=>lhs;rw [← List.take_append_drop j p,List.drop_eq_getElem_cons hjp,this]
     have ed2:yV mm'=p.take j++k'::p.drop (j+1):=by rw [← em];exact ed
     refine ⟨_,rfl,_,rfl,zC ⟨_,rfl,_,rfl,r,zs,p,j,k',t,by rw [Int.zero_add];rfl,sB2 _ _ ez,tz.same sB2,wp,ek',hl,zal ed2 hl,by omega,λJ3 s3=>⟨_,rfl,zy ⟨_,_,rfl,s1.trans (s2.trans s3)⟩⟩⟩⟩
  ·rintro σ J1 ⟨u8,u9,rfl,s1⟩
   exact ⟨_,_,_,rfl,sJ'.trans s1⟩
 ·rintro σ J ⟨u7,u8,u9,rfl,sJ'⟩
  exact k J
end
def own_in {K:Fg} {h₀:Heap} {mg:J0} {x:Str} {C:Ad} {bmB:Jj} {newId:String} (X:K.In h₀) (hm:mg x=some (.ref C)) (q:PySem.W.excIn K C bmB newId=true):PyProof.Rows.OwnCls x C bmB newId mg h₀:=by
 refine ⟨hm,?_⟩;unfold PySem.W.excIn at q
 split at q
 ·rename_i dd cd sl ho
  split at q
  ·rename_i C' bm k0 k1 k2 k3 n k5 hm hs
   simp only [Bool.and_eq_true,beq_iff_eq,Bool.not_eq_true'] at q;obtain ⟨⟨⟨⟨⟨rfl,rfl⟩,hdel⟩,ht⟩,hok⟩,hni⟩:=q;obtain ⟨nm,bs,mro,ns,qn,hd,sn,sub,ab,col,del⟩:=cd;dsimp only at hm hdel hok hni;subst hm hdel
   obtain rfl:sl=#[k0,k1,k2,k3,some (.builtin n),k5]:=by
    obtain ⟨l⟩:=sl;simp only at hs;rw [hs]
   exact ⟨bm,ns,nm,qn,bs,hd,sn,sub,ab,col,dd,k0,k1,k2,k3,k5,_,X _ _ ho,.of_isNs (PySem.W.isNs_of_in X hok),PySem.W.nsMap_none_of_in X hok hni,PySem.W.tail_of_in X ht⟩
  ·cases q
 ·cases q
theorem uc {n:Nat}:∀ {us:Jj},us.length=n+1->∃ a r,us=a::r/\r.length=n
 | a::r,h=>⟨a,r,rfl,Nat.succ.inj h⟩
def us1 {p:Jj->Prop} (h:∀ a0,p [a0]):∀ us:Jj,us.length=1->p us:=by
 intro us e;obtain ⟨a0,u0,rfl,e0⟩:=uc e;cases List.eq_nil_of_length_eq_zero e0;exact h _
def us2 {p:Jj->Prop} (h:∀ a0 a1,p [a0,a1]):∀ us:Jj,us.length=2->p us:=by
 intro us e;obtain ⟨a0,u0,rfl,e0⟩:=uc e;obtain ⟨a1,u1,rfl,e1⟩:=uc e0;cases List.eq_nil_of_length_eq_zero e1;exact h _ _
def us3 {p:Jj->Prop} (h:∀ a0 a1 a2,p [a0,a1,a2]):∀ us:Jj,us.length=3->p us:=by
 intro us e;obtain ⟨a0,u0,rfl,e0⟩:=uc e;obtain ⟨a1,u1,rfl,e1⟩:=uc e0;obtain ⟨a2,u2,rfl,e2⟩:=uc e1;cases List.eq_nil_of_length_eq_zero e2;exact h _ _ _
def us4 {p:Jj->Prop} (h:∀ a0 a1 a2 a3,p [a0,a1,a2,a3]):∀ us:Jj,us.length=4->p us:=by
 intro us e;obtain ⟨a0,u0,rfl,e0⟩:=uc e;obtain ⟨a1,u1,rfl,e1⟩:=uc e0;obtain ⟨a2,u2,rfl,e2⟩:=uc e1;obtain ⟨a3,u3,rfl,e3⟩:=uc e2;cases List.eq_nil_of_length_eq_zero e3;exact h _ _ _ _
def us5 {p:Jj->Prop} (h:∀ a0 a1 a2 a3 a4,p [a0,a1,a2,a3,a4]):∀ us:Jj,us.length=5->p us:=by
 intro us e;obtain ⟨a0,u0,rfl,e0⟩:=uc e;obtain ⟨a1,u1,rfl,e1⟩:=uc e0;obtain ⟨a2,u2,rfl,e2⟩:=uc e1;obtain ⟨a3,u3,rfl,e3⟩:=uc e2;obtain ⟨a4,u4,rfl,e4⟩:=uc e3;cases List.eq_nil_of_length_eq_zero e4;exact h _ _ _ _ _
def us6 {p:Jj->Prop} (h:∀ a0 a1 a2 a3 a4 a5,p [a0,a1,a2,a3,a4,a5]):∀ us:Jj,us.length=6->p us:=by
 intro us e;obtain ⟨a0,u0,rfl,e0⟩:=uc e;obtain ⟨a1,u1,rfl,e1⟩:=uc e0;obtain ⟨a2,u2,rfl,e2⟩:=uc e1;obtain ⟨a3,u3,rfl,e3⟩:=uc e2;obtain ⟨a4,u4,rfl,e4⟩:=uc e3;obtain ⟨a5,u5,rfl,e5⟩:=uc e4;cases List.eq_nil_of_length_eq_zero e5;exact h _ _ _ _ _ _
theorem all_mk {l:PySem.W.OpenLaw} {w:World} {K:Fg} {h:Heap} {mg:J0} {fa f_kept f_plus f_minus f_times f_refuse_nought f_quotient f_remainder f_lesser f_greater f_is_less f_is_equal f_bits_of_both f_bits_of_either f_bits_of_one f_done f_lays_seat f_laid_by f_read_by f_may_fault f_without_dead f_note_step f_is_touched_by f_note_laid f_note_number f_joined_numbers f_with_known_numbers f_without_known f_strip_shortened f_shortened f_l_kept_by f_l_mix f_l_seats_at f_l_lays_seat f_l_under f_l_pick_good f_l_good f_l_add f_l_add_masks f_l_leaf f_l_joint f_l_effects f_l_cell f_l_strip_by f_l_lengths_by f_l_rounds_by f_l_names f_l_dead f_l_staying f_l_strips f_l_short f_law C_Known:Ad} {CN SG TS TR fS_number fS_here fS_load fS_spread fS_shift fS_gather r_gather fS_op r_op fS_pick r_pick fS_copy r_copy fS_bring r_choose r_other r_save r_reach r_store r_put r_fold r_running r_any TF:Ad} {tH:Tok} {esG:Array DictEntry} {nG:Nat} {esS:Array DictEntry} {nS:Nat} {esR:Array DictEntry} {nR:Nat} {t0_gather:Tok} {n_gather:Nat} {t0_op t1_op:Tok} {n_op:Nat} {t0_pick t1_pick:Tok} {n_pick:Nat} {t0_copy:Tok} {n_copy:Nat} {t0_choose:Tok} {n_choose:Nat} {t0_other:Tok} {n_other:Nat} {t0_save:Tok} {n_save:Nat} {t0_reach:Tok} {n_reach:Nat} {t0_store:Tok} {n_store:Nat} {t0_put t1_put:Tok} {n_put:Nat} {t0_fold:Tok} {n_fold:Nat} {t0_running:Tok} {n_running:Nat} {t0_any:Tok} {n_any:Nat} {tF0 tF1 tF2 tF3 tF4:Tok} {nF:Nat} (X:K.In h) (G:h.Ns mainGlobals mg) (hfa:mg "law"=some (.ref fa))
  (h_kept:DH K "kept" XX f_kept)
  (h_plus:DH K "plus" XW f_plus)
  (h_minus:DH K "minus" Yx f_minus)
  (h_times:DH K "times" Yw f_times)
  (h_refuse_nought:DH K "refuse_nought" yC f_refuse_nought)
  (h_quotient:DH K "quotient" xF f_quotient)
  (h_remainder:DH K "remainder" xq f_remainder)
  (h_lesser:DH K "lesser" ZH f_lesser)
  (h_greater:DH K "greater" Zl f_greater)
  (h_is_less:DH K "is_less" Zk f_is_less)
  (h_is_equal:DH K "is_equal" xH f_is_equal)
  (h_bits_of_both:DH K "bits_of_both" yH f_bits_of_both)
  (h_bits_of_either:DH K "bits_of_either" yx f_bits_of_either)
  (h_bits_of_one:DH K "bits_of_one" yT f_bits_of_one)
  (h_done:DH K "done" XY f_done)
  (h_lays_seat:DH K "lays_seat" xv f_lays_seat)
  (h_laid_by:DH K "laid_by" Zf f_laid_by)
  (h_read_by:DH K "read_by" Ze f_read_by)
  (h_may_fault:DH K "may_fault" xu f_may_fault)
  (h_without_dead:DH K "without_dead" yF f_without_dead)
  (h_note_step:DH K "note_step" xr f_note_step)
  (h_is_touched_by:DH K "is_touched_by" yD f_is_touched_by)
  (h_note_laid:DH K "note_laid" xt f_note_laid)
  (h_note_number:DH K "note_number" yO f_note_number)
  (h_joined_numbers:DH K "joined_numbers" yw f_joined_numbers)
  (h_with_known_numbers:DH K "with_known_numbers" yc f_with_known_numbers)
  (h_without_known:DH K "without_known" yB f_without_known)
  (h_strip_shortened:DH K "strip_shortened" yn f_strip_shortened)
  (h_shortened:DH K "shortened" xp f_shortened)
  (h_l_kept_by:DH K "_law_kept_by" xx f_l_kept_by)
  (h_l_mix:DH K "_law_mix" Yy f_l_mix)
  (h_l_seats_at:DH K "_law_seats_at" y8 f_l_seats_at)
  (h_l_lays_seat:DH K "_law_lays_seat" yR f_l_lays_seat)
  (h_l_under:DH K "_law_under" Zg f_l_under)
  (h_l_pick_good:DH K "_law_pick_good" yQ f_l_pick_good)
  (h_l_good:DH K "_law_good" ZJ f_l_good)
  (h_l_add:DH K "_law_add" Yz f_l_add)
  (h_l_add_masks:DH K "_law_add_masks" yS f_l_add_masks)
  (h_l_leaf:DH K "_law_leaf" ZI f_l_leaf)
  (h_l_joint:DH K "_law_joint" Zj f_l_joint)
  (h_l_effects:DH K "_law_effects" xy f_l_effects)
  (h_l_cell:DH K "_law_cell" ZL f_l_cell)
  (h_l_strip_by:DH K "_law_strip_by" y6 f_l_strip_by)
  (h_l_lengths_by:DH K "_law_lengths_by" yG f_l_lengths_by)
  (h_l_rounds_by:DH K "_law_rounds_by" yP f_l_rounds_by)
  (h_l_names:DH K "_law_names" Zi f_l_names)
  (h_l_dead:DH K "_law_dead" ZK f_l_dead)
  (h_l_staying:DH K "_law_staying" xw f_l_staying)
  (h_l_strips:DH K "_law_strips" xG f_l_strips)
  (h_l_short:DH K "_law_short" Zh f_l_short)
  (h_law:DH K "law" YU f_law)
  (a_C_Known:PySem.W.nsIn K mainGlobals "Known"=some (some (.ref C_Known))) (h_C_Known:CH K C_Known)
  (fn_C_Known:FN K C_Known ["before","numbers"])
  (mk_C_Known:PySem.W.makesIn K C_Known=true) (kC_C_Known:PySem.W.keepIn K (.ref C_Known)=true)
  (h_Known_init:MH K C_Known "__init__" "Known.__init__" y9)
  (tb1:TB K mainGlobals [("ByNought",CN),("SIGNS",SG),("SEAT_STEPS",TS),("SEATS_READ",TR),("FORGETTING",TF)])
  (x_CN:PySem.W.excIn K CN [.type "ValueError",.type "Exception",.type "BaseException",.type "object"] "ValueError.__new__"=true)
  (m_CN_CN:PySem.W.exmOne K (.ref CN) (.ref CN)=some true)
  (aH:PySem.W.nsIn K mainGlobals "HALF"=some (some (.int 9223372036854775808 tH)))
  (lG:K.lookup SG=some ⟨.type "dict",none,.dict esG nG,#[]⟩)
  (kG:PySem.W.KeysLit w.params esG.toList)
  (tb2:TB K SG [("+",f_plus),("-",f_minus),("*",f_times),("/",f_quotient),("rest",f_remainder),("least",f_lesser),("most",f_greater),("<",f_is_less),("=",f_is_equal),("&",f_bits_of_both),("|",f_bits_of_either),("^",f_bits_of_one)])
  (tb3:TN K mainGlobals ["len","range","list","reversed","sorted","isinstance","tuple","min","max"])
  (k_tuple_tuple:PySem.W.kitOne K (.type "tuple") (.type "tuple")=some true)
  (k_list_list:PySem.W.kitOne K (.type "list") (.type "list")=some true)
  (lS:K.lookup TS=some ⟨.type "dict",none,.dict esS nS,#[]⟩)
  (kS:PySem.W.KeysLit w.params esS.toList)
  (loS:(TS == sysModules)=false)
  (lR:K.lookup TR=some ⟨.type "dict",none,.dict esR nR,#[]⟩)
  (kR:PySem.W.KeysLit w.params esR.toList)
  (loR:(TR == sysModules)=false)
  (tb4:TB K TS [("number",fS_number),("here",fS_here),("load",fS_load),("spread",fS_spread),("shift",fS_shift),("gather",fS_gather),("op",fS_op),("pick",fS_pick),("copy",fS_copy),("bring",fS_bring)])
  (tb5:TN K TR ["number","here","load","spread","shift","bring","trim","stop"])
  (tb6:TB K TR [("gather",r_gather),("op",r_op),("pick",r_pick),("copy",r_copy),("choose",r_choose),("other",r_other),("save",r_save),("reach",r_reach),("store",r_store),("put",r_put),("fold",r_fold),("running",r_running),("any",r_any)])
  (lR_gather:K.lookup r_gather=some ⟨.type "tuple",none,.seq #[.int 2 t0_gather] n_gather,#[]⟩)
  (lR_op:K.lookup r_op=some ⟨.type "tuple",none,.seq #[.int 3 t0_op,.int 4 t1_op] n_op,#[]⟩)
  (lR_pick:K.lookup r_pick=some ⟨.type "tuple",none,.seq #[.int 2 t0_pick,.int 3 t1_pick] n_pick,#[]⟩)
  (lR_copy:K.lookup r_copy=some ⟨.type "tuple",none,.seq #[.int 2 t0_copy] n_copy,#[]⟩)
  (tb7:TN K TS ["choose","other","save","reach","store","put","fold","running","any","trim","stop"])
  (lR_choose:K.lookup r_choose=some ⟨.type "tuple",none,.seq #[.int 2 t0_choose] n_choose,#[]⟩)
  (lR_other:K.lookup r_other=some ⟨.type "tuple",none,.seq #[.int 2 t0_other] n_other,#[]⟩)
  (lR_save:K.lookup r_save=some ⟨.type "tuple",none,.seq #[.int 2 t0_save] n_save,#[]⟩)
  (lR_reach:K.lookup r_reach=some ⟨.type "tuple",none,.seq #[.int 1 t0_reach] n_reach,#[]⟩)
  (lR_store:K.lookup r_store=some ⟨.type "tuple",none,.seq #[.int 2 t0_store] n_store,#[]⟩)
  (lR_put:K.lookup r_put=some ⟨.type "tuple",none,.seq #[.int 2 t0_put,.int 3 t1_put] n_put,#[]⟩)
  (lR_fold:K.lookup r_fold=some ⟨.type "tuple",none,.seq #[.int 3 t0_fold] n_fold,#[]⟩)
  (lR_running:K.lookup r_running=some ⟨.type "tuple",none,.seq #[.int 3 t0_running] n_running,#[]⟩)
  (lR_any:K.lookup r_any=some ⟨.type "tuple",none,.seq #[.int 1 t0_any] n_any,#[]⟩)
  (lF:K.lookup TF=some ⟨.type "tuple",none,.seq #[.str "store" tF0,.str "put" tF1,.str "fold" tF2,.str "running" tF3,.str "trim" tF4] nF,#[]⟩)
  : ∃ fd:FuncData,(∀ (s:Sh) (v:Vl),BindsTo s fd ⟨[v],[]⟩ [("_law_script",v)])/\∀ base:Heap,K.In base->base.Ns mainGlobals mg->FnOk l.prog w K mg base CX0 10 fa fd ["_law_script"] (spLaw K):=by
 obtain ⟨a_law,oc_law,od_law,kV_law,dc_law,pm_law,an_law,cd_law,ct_law,sl_law,l_law,c_law,k_law⟩:=h_law;have e:=hfa.symm.trans (PySem.W.mg_of X G a_law);cases e;have d_kept:zp K mg "kept" XX ["number"]:=h_kept.d X G λ_ _ _ _ _ _=>us1 λ_=>rfl;have d_plus:zp K mg "plus" XW ["left","right"]:=h_plus.d X G λ_ _ _ _ _ _=>us2 λ_ _=>rfl;have d_minus:zp K mg "minus" Yx ["left","right"]:=h_minus.d X G λ_ _ _ _ _ _=>us2 λ_ _=>rfl;have d_times:zp K mg "times" Yw ["left","right"]:=h_times.d X G λ_ _ _ _ _ _=>us2 λ_ _=>rfl;have d_refuse_nought:zp K mg "refuse_nought" yC ["right"]:=h_refuse_nought.d X G λ_ _ _ _ _ _=>us1 λ_=>rfl;have d_quotient:zp K mg "quotient" xF ["left","right"]:=h_quotient.d X G λ_ _ _ _ _ _=>us2 λ_ _=>rfl;have d_remainder:zp K mg "remainder" xq ["left","right"]:=h_remainder.d X G λ_ _ _ _ _ _=>us2 λ_ _=>rfl;have d_lesser:zp K mg "lesser" ZH ["left","right"]:=h_lesser.d X G λ_ _ _ _ _ _=>us2 λ_ _=>rfl;have d_greater:zp K mg "greater" Zl ["left","right"]:=h_greater.d X G λ_ _ _ _ _ _=>us2 λ_ _=>rfl;have d_is_less:zp K mg "is_less" Zk ["left","right"]:=h_is_less.d X G λ_ _ _ _ _ _=>us2 λ_ _=>rfl;have d_is_equal:zp K mg "is_equal" xH ["left","right"]:=h_is_equal.d X G λ_ _ _ _ _ _=>us2 λ_ _=>rfl;have d_bits_of_both:zp K mg "bits_of_both" yH ["left","right"]:=h_bits_of_both.d X G λ_ _ _ _ _ _=>us2 λ_ _=>rfl;have d_bits_of_either:zp K mg "bits_of_either" yx ["left","right"]:=h_bits_of_either.d X G λ_ _ _ _ _ _=>us2 λ_ _=>rfl;have d_bits_of_one:zp K mg "bits_of_one" yT ["left","right"]:=h_bits_of_one.d X G λ_ _ _ _ _ _=>us2 λ_ _=>rfl;have d_done:zp K mg "done" XY ["sign","left","right"]:=h_done.d X G λ_ _ _ _ _ _=>us3 λ_ _ _=>rfl;have d_lays_seat:zp K mg "lays_seat" xv ["word"]:=h_lays_seat.d X G λ_ _ _ _ _ _=>us1 λ_=>rfl;have d_laid_by:zp K mg "laid_by" Zf ["step"]:=h_laid_by.d X G λ_ _ _ _ _ _=>us1 λ_=>rfl;have d_read_by:zp K mg "read_by" Ze ["step"]:=h_read_by.d X G λ_ _ _ _ _ _=>us1 λ_=>rfl;have d_may_fault:zp K mg "may_fault" xu ["step"]:=h_may_fault.d X G λ_ _ _ _ _ _=>us1 λ_=>rfl;have d_without_dead:zp K mg "without_dead" yF ["strip"]:=h_without_dead.d X G λ_ _ _ _ _ _=>us1 λ_=>rfl;have d_note_step:zp K mg "note_step" xr ["read","step","thing"]:=h_note_step.d X G λ_ _ _ _ _ _=>us3 λ_ _ _=>rfl;have d_is_touched_by:zp K mg "is_touched_by" yD ["step","thing"]:=h_is_touched_by.d X G λ_ _ _ _ _ _=>us2 λ_ _=>rfl;have d_note_laid:zp K mg "note_laid" xt ["known","step"]:=h_note_laid.d X G λ_ _ _ _ _ _=>us2 λ_ _=>rfl;have d_note_number:zp K mg "note_number" yO ["known","step"]:=h_note_number.d X G λ_ _ _ _ _ _=>us2 λ_ _=>rfl;have d_joined_numbers:zp K mg "joined_numbers" yw ["sign","left","right"]:=h_joined_numbers.d X G λ_ _ _ _ _ _=>us3 λ_ _ _=>rfl;have d_with_known_numbers:zp K mg "with_known_numbers" yc ["known","step"]:=h_with_known_numbers.d X G λ_ _ _ _ _ _=>us2 λ_ _=>rfl;have d_without_known:zp K mg "without_known" yB ["strip"]:=h_without_known.d X G λ_ _ _ _ _ _=>us1 λ_=>rfl;have d_strip_shortened:zp K mg "strip_shortened" yn ["strip"]:=h_strip_shortened.d X G λ_ _ _ _ _ _=>us1 λ_=>rfl;have d_shortened:zp K mg "shortened" xp ["code"]:=h_shortened.d X G λ_ _ _ _ _ _=>us1 λ_=>rfl;have d_l_kept_by:zp K mg "_law_kept_by" xx ["_law_cell_here"]:=h_l_kept_by.d X G λ_ _ _ _ _ _=>us1 λ_=>rfl;have d_l_mix:zp K mg "_law_mix" Yy ["_law_cell_here","_law_factor","_law_prime"]:=h_l_mix.d X G λ_ _ _ _ _ _=>us3 λ_ _ _=>rfl;have d_l_seats_at:zp K mg "_law_seats_at" y8 ["_law_step"]:=h_l_seats_at.d X G λ_ _ _ _ _ _=>us1 λ_=>rfl;have d_l_lays_seat:zp K mg "_law_lays_seat" yR ["_law_step"]:=h_l_lays_seat.d X G λ_ _ _ _ _ _=>us1 λ_=>rfl;have d_l_under:zp K mg "_law_under" Zg ["_law_state","_law_inner","_law_outer"]:=h_l_under.d X G λ_ _ _ _ _ _=>us3 λ_ _ _=>rfl;have d_l_pick_good:zp K mg "_law_pick_good" yQ ["_law_state","_law_step","_law_content"]:=h_l_pick_good.d X G λ_ _ _ _ _ _=>us3 λ_ _ _=>rfl;have d_l_good:zp K mg "_law_good" ZJ ["_law_state","_law_step"]:=h_l_good.d X G λ_ _ _ _ _ _=>us2 λ_ _=>rfl;have d_l_add:zp K mg "_law_add" Yz ["_law_state","_law_step"]:=h_l_add.d X G λ_ _ _ _ _ _=>us2 λ_ _=>rfl;have d_l_add_masks:zp K mg "_law_add_masks" yS ["_law_state","_law_at","_law_seat","_law_mask"]:=h_l_add_masks.d X G λ_ _ _ _ _ _=>us4 λ_ _ _ _=>rfl;have d_l_leaf:zp K mg "_law_leaf" ZI ["_law_cell_here","_law_seat","_law_mask","_law_lengths","_law_many"]:=h_l_leaf.d X G λ_ _ _ _ _ _=>us5 λ_ _ _ _ _=>rfl;have d_l_joint:zp K mg "_law_joint" Zj ["_law_cell_here","_law_seat","_law_pair","_law_mask","_law_other","_law_lengths"]:=h_l_joint.d X G λ_ _ _ _ _ _=>us6 λ_ _ _ _ _ _=>rfl;have d_l_effects:zp K mg "_law_effects" xy ["_law_cell_here","_law_pair","_law_mask","_law_lengths","_law_many"]:=h_l_effects.d X G λ_ _ _ _ _ _=>us5 λ_ _ _ _ _=>rfl;have d_l_cell:zp K mg "_law_cell" ZL ["_law_state","_law_cell_here","_law_lengths","_law_many","_law_seats"]:=h_l_cell.d X G λ_ _ _ _ _ _=>us5 λ_ _ _ _ _=>rfl;have d_l_strip_by:zp K mg "_law_strip_by" y6 ["_law_cells","_law_lengths","_law_many","_law_seats"]:=h_l_strip_by.d X G λ_ _ _ _ _ _=>us4 λ_ _ _ _=>rfl;have d_l_lengths_by:zp K mg "_law_lengths_by" yG ["_law_script","_law_many"]:=h_l_lengths_by.d X G λ_ _ _ _ _ _=>us2 λ_ _=>rfl;have d_l_rounds_by:zp K mg "_law_rounds_by" yP ["_law_script","_law_lengths","_law_many","_law_group"]:=h_l_rounds_by.d X G λ_ _ _ _ _ _=>us4 λ_ _ _ _=>rfl;have d_l_names:zp K mg "_law_names" Zi ["_law_step","_law_mark"]:=h_l_names.d X G λ_ _ _ _ _ _=>us2 λ_ _=>rfl;have d_l_dead:zp K mg "_law_dead" ZK ["_law_strip","_law_at"]:=h_l_dead.d X G λ_ _ _ _ _ _=>us2 λ_ _=>rfl;have d_l_staying:zp K mg "_law_staying" xw ["_law_code"]:=h_l_staying.d X G λ_ _ _ _ _ _=>us1 λ_=>rfl;have d_l_strips:zp K mg "_law_strips" xG ["_law_code"]:=h_l_strips.d X G λ_ _ _ _ _ _=>us1 λ_=>rfl;have d_l_short:zp K mg "_law_short" Zh ["_law_code"]:=h_l_short.d X G λ_ _ _ _ _ _=>us1 λ_=>rfl;have d_Known_init:InitIn K C_Known "Known.__init__" y9 ["self"]:=h_Known_init.i mk_C_Known kC_C_Known λ_ _ _ _ _ _=>us1 λ_=>rfl;have cl_Known:Cls K C_Known:=h_C_Known.c;have mm:=λ{x:Str} {v:Vl} (q:PySem.W.nsIn K mainGlobals x=some (some v))=>PySem.W.mg_of X G q;have mz:=λ{x:Str} (q:PySem.W.nsIn K mainGlobals x=some none)=>PySem.W.mg_none_of X G q;refine ⟨PySem.W.fnOf "law" "law" (yy YU) (yf YU) (zh YU) .none kV_law dc_law pm_law an_law cd_law ct_law,λs v=>.of_eq rfl,λbase kb nb=>?_⟩
 have tIs:∀ p∈z7,∃ r,PySem.W.nsIn K TS p.1=some r/\r.isSome=zS p.1:=λp m=>by
  simp only [z7,List.mem_cons,List.not_mem_nil,or_false] at m;rcases m with rfl | rfl | rfl | rfl | rfl | rfl | rfl | rfl | rfl | rfl | rfl | rfl | rfl | rfl | rfl | rfl | rfl | rfl | rfl | rfl | rfl
  ·exact ⟨_,(tb4.g 0 rfl),(by show true=zS "number";decide)⟩
  ·exact ⟨_,(tb4.g 1 rfl),(by show true=zS "here";decide)⟩
  ·exact ⟨_,(tb4.g 2 rfl),(by show true=zS "load";decide)⟩
  ·exact ⟨_,(tb4.g 3 rfl),(by show true=zS "spread";decide)⟩
  ·exact ⟨_,(tb4.g 4 rfl),(by show true=zS "shift";decide)⟩
  ·exact ⟨_,(tb4.g 5 rfl),(by show true=zS "gather";decide)⟩
  ·exact ⟨_,(tb4.g 6 rfl),(by show true=zS "op";decide)⟩
  ·exact ⟨_,(tb4.g 7 rfl),(by show true=zS "pick";decide)⟩
  ·exact ⟨_,(tb4.g 8 rfl),(by show true=zS "copy";decide)⟩
  ·exact ⟨_,(tb4.g 9 rfl),(by show true=zS "bring";decide)⟩
  ·exact ⟨_,(tb7.g 0 rfl),(by show false=zS "choose";decide)⟩
  ·exact ⟨_,(tb7.g 1 rfl),(by show false=zS "other";decide)⟩
  ·exact ⟨_,(tb7.g 2 rfl),(by show false=zS "save";decide)⟩
  ·exact ⟨_,(tb7.g 3 rfl),(by show false=zS "reach";decide)⟩
  ·exact ⟨_,(tb7.g 4 rfl),(by show false=zS "store";decide)⟩
  ·exact ⟨_,(tb7.g 5 rfl),(by show false=zS "put";decide)⟩
  ·exact ⟨_,(tb7.g 6 rfl),(by show false=zS "fold";decide)⟩
  ·exact ⟨_,(tb7.g 7 rfl),(by show false=zS "running";decide)⟩
  ·exact ⟨_,(tb7.g 8 rfl),(by show false=zS "any";decide)⟩
  ·exact ⟨_,(tb7.g 9 rfl),(by show false=zS "trim";decide)⟩
  ·exact ⟨_,(tb7.g 10 rfl),(by show false=zS "stop";decide)⟩
 have tIr:∀ p∈z7,(zQ p.1=none/\PySem.W.nsIn K TR p.1=some none)∨∃ l ta,zQ p.1=some l/\PySem.W.nsIn K TR p.1=some (some (.ref ta))/\∀ H,SqT K H ta (l.map λi:Nat=>V.int i):=λp m=>by
  simp only [z7,List.mem_cons,List.not_mem_nil,or_false] at m;rcases m with rfl | rfl | rfl | rfl | rfl | rfl | rfl | rfl | rfl | rfl | rfl | rfl | rfl | rfl | rfl | rfl | rfl | rfl | rfl | rfl | rfl
  ·exact .inl ⟨(by decide),(tb5.g 0 rfl)⟩
  ·exact .inl ⟨(by decide),(tb5.g 1 rfl)⟩
  ·exact .inl ⟨(by decide),(tb5.g 2 rfl)⟩
  ·exact .inl ⟨(by decide),(tb5.g 3 rfl)⟩
  ·exact .inl ⟨(by decide),(tb5.g 4 rfl)⟩
  ·exact .inr ⟨[2],r_gather,(by decide),(tb6.g 0 rfl),λH=>.inr ⟨_,_,_,lR_gather,rfl,rfl,(by show 1<=sizeLine;decide),.cons ⟨_,rfl⟩ .nil⟩⟩
  ·exact .inr ⟨[3,4],r_op,(by decide),(tb6.g 1 rfl),λH=>.inr ⟨_,_,_,lR_op,rfl,rfl,(by show 2<=sizeLine;decide),.cons ⟨_,rfl⟩ (.cons ⟨_,rfl⟩ .nil)⟩⟩
  ·exact .inr ⟨[2,3],r_pick,(by decide),(tb6.g 2 rfl),λH=>.inr ⟨_,_,_,lR_pick,rfl,rfl,(by show 2<=sizeLine;decide),.cons ⟨_,rfl⟩ (.cons ⟨_,rfl⟩ .nil)⟩⟩
  ·exact .inr ⟨[2],r_copy,(by decide),(tb6.g 3 rfl),λH=>.inr ⟨_,_,_,lR_copy,rfl,rfl,(by show 1<=sizeLine;decide),.cons ⟨_,rfl⟩ .nil⟩⟩
  ·exact .inl ⟨(by decide),(tb5.g 5 rfl)⟩
  ·exact .inr ⟨[2],r_choose,(by decide),(tb6.g 4 rfl),λH=>.inr ⟨_,_,_,lR_choose,rfl,rfl,(by show 1<=sizeLine;decide),.cons ⟨_,rfl⟩ .nil⟩⟩
  ·exact .inr ⟨[2],r_other,(by decide),(tb6.g 5 rfl),λH=>.inr ⟨_,_,_,lR_other,rfl,rfl,(by show 1<=sizeLine;decide),.cons ⟨_,rfl⟩ .nil⟩⟩
  ·exact .inr ⟨[2],r_save,(by decide),(tb6.g 6 rfl),λH=>.inr ⟨_,_,_,lR_save,rfl,rfl,(by show 1<=sizeLine;decide),.cons ⟨_,rfl⟩ .nil⟩⟩
  ·exact .inr ⟨[1],r_reach,(by decide),(tb6.g 7 rfl),λH=>.inr ⟨_,_,_,lR_reach,rfl,rfl,(by show 1<=sizeLine;decide),.cons ⟨_,rfl⟩ .nil⟩⟩
  ·exact .inr ⟨[2],r_store,(by decide),(tb6.g 8 rfl),λH=>.inr ⟨_,_,_,lR_store,rfl,rfl,(by show 1<=sizeLine;decide),.cons ⟨_,rfl⟩ .nil⟩⟩
  ·exact .inr ⟨[2,3],r_put,(by decide),(tb6.g 9 rfl),λH=>.inr ⟨_,_,_,lR_put,rfl,rfl,(by show 2<=sizeLine;decide),.cons ⟨_,rfl⟩ (.cons ⟨_,rfl⟩ .nil)⟩⟩
  ·exact .inr ⟨[3],r_fold,(by decide),(tb6.g 10 rfl),λH=>.inr ⟨_,_,_,lR_fold,rfl,rfl,(by show 1<=sizeLine;decide),.cons ⟨_,rfl⟩ .nil⟩⟩
  ·exact .inr ⟨[3],r_running,(by decide),(tb6.g 11 rfl),λH=>.inr ⟨_,_,_,lR_running,rfl,rfl,(by show 1<=sizeLine;decide),.cons ⟨_,rfl⟩ .nil⟩⟩
  ·exact .inr ⟨[1],r_any,(by decide),(tb6.g 12 rfl),λH=>.inr ⟨_,_,_,lR_any,rfl,rfl,(by show 1<=sizeLine;decide),.cons ⟨_,rfl⟩ .nil⟩⟩
  ·exact .inl ⟨(by decide),(tb5.g 6 rfl)⟩
  ·exact .inl ⟨(by decide),(tb5.g 7 rfl)⟩
 have TT:TabH w K mg TS TR TF:=⟨⟨esS,nS,lS,kS⟩,loS,mm (tb1.g 2 rfl),tIs,⟨esR,nR,lR,kR⟩,loR,mm (tb1.g 3 rfl),tIr,mm (tb1.g 4 rfl),λH=>.inr ⟨_,_,_,lF,rfl,rfl,(by show 5<=sizeLine;decide),.cons ⟨_,rfl⟩ (.cons ⟨_,rfl⟩ (.cons ⟨_,rfl⟩ (.cons ⟨_,rfl⟩ (.cons ⟨_,rfl⟩ .nil))))⟩⟩;have TG:yU w K SG:=⟨esG,nG,lG,kG⟩;have Sg:Signs K mg SG:=⟨⟨_,(tb2.g 0 rfl),mm h_plus.1⟩,⟨_,(tb2.g 1 rfl),mm h_minus.1⟩,⟨_,(tb2.g 2 rfl),mm h_times.1⟩,⟨_,(tb2.g 3 rfl),mm h_quotient.1⟩,⟨_,(tb2.g 4 rfl),mm h_remainder.1⟩,⟨_,(tb2.g 5 rfl),mm h_lesser.1⟩,⟨_,(tb2.g 6 rfl),mm h_greater.1⟩,⟨_,(tb2.g 7 rfl),mm h_is_less.1⟩,⟨_,(tb2.g 8 rfl),mm h_is_equal.1⟩,⟨_,(tb2.g 9 rfl),mm h_bits_of_both.1⟩,⟨_,(tb2.g 10 rfl),mm h_bits_of_either.1⟩,⟨_,(tb2.g 11 rfl),mm h_bits_of_one.1⟩⟩;have GK:=ok_kept (P:=l.prog) (w:=w) (base:=base) d_kept (mm aH);have GN:=ok_refuse (P:=l.prog) (w:=w) (base:=base) d_refuse_nought (own_in kb (mm (tb1.g 0 rfl)) x_CN) PySem.F.excBase_ValueError;have Fs:Fns l.prog w K mg base CN:=⟨ok_plus d_plus GK,ok_minus d_minus GK,ok_times d_times GK,za1 d_quotient GK GN,X6 d_remainder GN,ok_lesser d_lesser (mz (tb3.g 7 rfl)),zb0 d_greater (mz (tb3.g 8 rfl)),zbz d_is_less,za2 d_is_equal,ok_both d_bits_of_both,ok_either d_bits_of_either,ok_one d_bits_of_one⟩;have DN:=ok_done d_done (mm (tb1.g 1 rfl)) TG Sg Fs;have KC:KnC K C_Known:=⟨cl_Known,(fn_C_Known.g 0 rfl),(fn_C_Known.g 1 rfl)⟩;have TY:TyL K mg:=⟨mz (tb3.g 5 rfl),mz (tb3.g 6 rfl),mz (tb3.g 2 rfl),k_tuple_tuple,k_list_list⟩;have LSW:=ok_lays (P:=l.prog) (w:=w) (base:=base) d_lays_seat TT;have LBY:=zbx d_laid_by LSW;have RBY:=zbw d_read_by TT LSW;have MAY:=ok_may (P:=l.prog) (w:=w) (base:=base) d_may_fault;have TOU:=zbu d_is_touched_by LBY RBY;have NS:=X8 d_note_step RBY;have NL:=X9 (C:=C_Known) d_note_laid (mz (tb3.g 2 rfl)) TT KC LBY RBY TOU;have NN:=Y3 (C:=C_Known) d_note_number KC LBY;have JN:=ok_joined d_joined_numbers (mm (tb1.g 0 rfl)) m_CN_CN DN;have WK:=Xl (C:=C_Known) d_with_known_numbers KC JN;have IK:=okI_Known (P:=l.prog) (w:=w) (mg:=mg) (base:=base) d_Known_init KC;have UK:=zbt d_without_known (mm a_C_Known) KC IK NL WK NN;have UD:=ok_undead d_without_dead (mz (tb3.g 3 rfl)) LBY MAY NS;have SHO:=X4 d_shortened (ok_strip d_strip_shortened UK UD)
 have KB:=zby (P:=l.prog) (w:=w) (base:=base) d_l_kept_by
 have UN:=ok_under (P:=l.prog) (w:=w) (base:=base) d_l_under;have LS:=ok_llays (P:=l.prog) (w:=w) (base:=base) d_l_lays_seat;have SA:=za0 (P:=l.prog) (w:=w) (base:=base) d_l_seats_at;have GD:=ok_good d_l_good UN (X7 d_l_pick_good UN) SA;have AD:=ok_add d_l_add (mz (tb3.g 0 rfl)) GD LS;have CE:=ok_cell d_l_cell (mz (tb3.g 0 rfl)) (mz (tb3.g 1 rfl)) (mz (tb3.g 4 rfl)) (ok_mix d_l_mix) UN LS AD (zab d_l_add_masks (mz (tb3.g 0 rfl)) AD) (ok_leaf d_l_leaf (mz (tb3.g 0 rfl)) (mz (tb3.g 1 rfl)) KB) (ok_joint d_l_joint (mz (tb3.g 0 rfl))) (zb1 d_l_effects (mz (tb3.g 0 rfl)) (mz (tb3.g 1 rfl)));have SB:=zaz d_l_strip_by (mz (tb3.g 0 rfl)) (mz (tb3.g 1 rfl)) CE AD
 have LN:=Xm (P:=l.prog) (w:=w) (base:=base) d_l_lengths_by
 have RO:=X5 d_l_rounds_by (mz (tb3.g 0 rfl)) (mz (tb3.g 1 rfl)) SB;have SO:=ok_short d_l_short (mz (tb3.g 0 rfl)) TY SHO;have NA:=ok_names d_l_names SA;exact ok_law (Xa (st:=YU) l_law c_law k_law) (mz (tb3.g 0 rfl)) (mz (tb3.g 1 rfl)) LN RO LS (ok_dead d_l_dead LS NA) (zbv d_l_staying (mz (tb3.g 2 rfl)) (mz (tb3.g 6 rfl)) SA) (ok_strips d_l_strips) SO SHO
def walk {l:PySem.W.OpenLaw} {q:Program} {loose:Jl} {XP:(J0)->Heap->Prop} {YP:World->Heap->Prop} {d:DefRec} {K:Params->Fg} (hn:l.most=some 63) (hdf:d.params.defaults=[])
  (hY:∀ (w:World) (h:Heap),YP w h->(K w.params).In h)
  (F:∀ (w:World) (mg:J0) (fa:Ad) (h:Heap),(K w.params).In h->h.Ns mainGlobals mg->mg d.name=some (.ref fa) ->
   ∃ fd:FuncData,(∀ (s:Sh) (u:Vl),BindsTo s fd ⟨[u],[]⟩ [("_law_script",u)])/\∀ base:Heap,(K w.params).In base->base.Ns mainGlobals mg->FnOk l.prog w (K w.params) mg base CX0 10 fa fd ["_law_script"] (spLaw (K w.params))) :
  PySem.W.WalkO q loose XP YP l.row.toRowW d [] (λf vs=>PySem.call f vs) :=
 L2.walk_of (n:=63) (k:=10) (x:="_law_script") (CX:=λ_=>CX0) (sp:=λw=>spLaw (K w.params)) hn (by decide) hdf ⟨rfl,by decide,by decide⟩ hY F (λ_ _ a ns hl _ hS=>⟨a,ns,rfl,hS,hl,λ_=>rfl⟩) λ_ _ _ _ _ z=>z
end K52
open PySem PySem.W PyProof.Rows
set_option maxRecDepth 100000 in
set_option maxHeartbeats 0 in
theorem PySem.Challenge.cw_rowbreadth_k52_nothing_laid_for_nothing_holds : PySem.Challenge.rw_rowbreadth_k52_nothing_laid_for_nothing.Holds := by
 refine K52hd ?_
 k_fill
 refine K52.walk (l:=PySem.Challenge.rw_rowbreadth_k52_nothing_laid_for_nothing) rfl rfl (λw h Y=>Y) ?F
 case F =>
  intro w mg fa h KX G hmg
  refine' K52.all_mk KX G hmg ?kf_h_kept ?kf_h_plus ?kf_h_minus ?kf_h_times ?kf_h_refuse_nought ?kf_h_quotient ?kf_h_remainder ?kf_h_lesser ?kf_h_greater ?kf_h_is_less ?kf_h_is_equal ?kf_h_bits_of_both ?kf_h_bits_of_either ?kf_h_bits_of_one ?kf_h_done ?kf_h_lays_seat ?kf_h_laid_by ?kf_h_read_by ?kf_h_may_fault ?kf_h_without_dead ?kf_h_note_step ?kf_h_is_touched_by ?kf_h_note_laid ?kf_h_note_number ?kf_h_joined_numbers ?kf_h_with_known_numbers ?kf_h_without_known ?kf_h_strip_shortened ?kf_h_shortened ?kf_h_l_kept_by ?kf_h_l_mix ?kf_h_l_seats_at ?kf_h_l_lays_seat ?kf_h_l_under ?kf_h_l_pick_good ?kf_h_l_good ?kf_h_l_add ?kf_h_l_add_masks ?kf_h_l_leaf ?kf_h_l_joint ?kf_h_l_effects ?kf_h_l_cell ?kf_h_l_strip_by ?kf_h_l_lengths_by ?kf_h_l_rounds_by ?kf_h_l_names ?kf_h_l_dead ?kf_h_l_staying ?kf_h_l_strips ?kf_h_l_short ?kf_h_law ?kf_a_C_Known ?kf_h_C_Known ?kf_fn_C_Known ?kf_mk_C_Known ?kf_kC_C_Known ?kf_h_Known_init ?kf_tb1 ?kf_x_CN ?kf_m_CN_CN ?kf_aH ?kf_lG ?kf_kG ?kf_tb2 ?kf_tb3 ?kf_k_tuple_tuple ?kf_k_list_list ?kf_lS ?kf_kS ?kf_loS ?kf_lR ?kf_kR ?kf_loR ?kf_tb4 ?kf_tb5 ?kf_tb6 ?kf_lR_gather ?kf_lR_op ?kf_lR_pick ?kf_lR_copy ?kf_tb7 ?kf_lR_choose ?kf_lR_other ?kf_lR_save ?kf_lR_reach ?kf_lR_store ?kf_lR_put ?kf_lR_fold ?kf_lR_running ?kf_lR_any ?kf_lF
  (case kf_h_kept=>(refine' L2.DH.mk ?a ?b ?c ?d;(case a=>k_is);(case b=>k_is);(case c=>k_is);(case d=>k_is)))
  (case kf_h_plus=>(refine' L2.DH.mk ?a ?b ?c ?d;(case a=>k_is);(case b=>k_is);(case c=>k_is);(case d=>k_is)))
  (case kf_h_minus=>(refine' L2.DH.mk ?a ?b ?c ?d;(case a=>k_is);(case b=>k_is);(case c=>k_is);(case d=>k_is)))
  (case kf_h_times=>(refine' L2.DH.mk ?a ?b ?c ?d;(case a=>k_is);(case b=>k_is);(case c=>k_is);(case d=>k_is)))
  (case kf_h_refuse_nought=>(refine' L2.DH.mk ?a ?b ?c ?d;(case a=>k_is);(case b=>k_is);(case c=>k_is);(case d=>k_is)))
  (case kf_h_quotient=>(refine' L2.DH.mk ?a ?b ?c ?d;(case a=>k_is);(case b=>k_is);(case c=>k_is);(case d=>k_is)))
  (case kf_h_remainder=>(refine' L2.DH.mk ?a ?b ?c ?d;(case a=>k_is);(case b=>k_is);(case c=>k_is);(case d=>k_is)))
  (case kf_h_lesser=>(refine' L2.DH.mk ?a ?b ?c ?d;(case a=>k_is);(case b=>k_is);(case c=>k_is);(case d=>k_is)))
  (case kf_h_greater=>(refine' L2.DH.mk ?a ?b ?c ?d;(case a=>k_is);(case b=>k_is);(case c=>k_is);(case d=>k_is)))
  (case kf_h_is_less=>(refine' L2.DH.mk ?a ?b ?c ?d;(case a=>k_is);(case b=>k_is);(case c=>k_is);(case d=>k_is)))
  (case kf_h_is_equal=>(refine' L2.DH.mk ?a ?b ?c ?d;(case a=>k_is);(case b=>k_is);(case c=>k_is);(case d=>k_is)))
  (case kf_h_bits_of_both=>(refine' L2.DH.mk ?a ?b ?c ?d;(case a=>k_is);(case b=>k_is);(case c=>k_is);(case d=>k_is)))
  (case kf_h_bits_of_either=>(refine' L2.DH.mk ?a ?b ?c ?d;(case a=>k_is);(case b=>k_is);(case c=>k_is);(case d=>k_is)))
  (case kf_h_bits_of_one=>(refine' L2.DH.mk ?a ?b ?c ?d;(case a=>k_is);(case b=>k_is);(case c=>k_is);(case d=>k_is)))
  (case kf_h_done=>(refine' L2.DH.mk ?a ?b ?c ?d;(case a=>k_is);(case b=>k_is);(case c=>k_is);(case d=>k_is)))
  (case kf_h_lays_seat=>(refine' L2.DH.mk ?a ?b ?c ?d;(case a=>k_is);(case b=>k_is);(case c=>k_is);(case d=>k_is)))
  (case kf_h_laid_by=>(refine' L2.DH.mk ?a ?b ?c ?d;(case a=>k_is);(case b=>k_is);(case c=>k_is);(case d=>k_is)))
  (case kf_h_read_by=>(refine' L2.DH.mk ?a ?b ?c ?d;(case a=>k_is);(case b=>k_is);(case c=>k_is);(case d=>k_is)))
  (case kf_h_may_fault=>(refine' L2.DH.mk ?a ?b ?c ?d;(case a=>k_is);(case b=>k_is);(case c=>k_is);(case d=>k_is)))
  (case kf_h_without_dead=>(refine' L2.DH.mk ?a ?b ?c ?d;(case a=>k_is);(case b=>k_is);(case c=>k_is);(case d=>k_is)))
  (case kf_h_note_step=>(refine' L2.DH.mk ?a ?b ?c ?d;(case a=>k_is);(case b=>k_is);(case c=>k_is);(case d=>k_is)))
  (case kf_h_is_touched_by=>(refine' L2.DH.mk ?a ?b ?c ?d;(case a=>k_is);(case b=>k_is);(case c=>k_is);(case d=>k_is)))
  (case kf_h_note_laid=>(refine' L2.DH.mk ?a ?b ?c ?d;(case a=>k_is);(case b=>k_is);(case c=>k_is);(case d=>k_is)))
  (case kf_h_note_number=>(refine' L2.DH.mk ?a ?b ?c ?d;(case a=>k_is);(case b=>k_is);(case c=>k_is);(case d=>k_is)))
  (case kf_h_joined_numbers=>(refine' L2.DH.mk ?a ?b ?c ?d;(case a=>k_is);(case b=>k_is);(case c=>k_is);(case d=>k_is)))
  (case kf_h_with_known_numbers=>(refine' L2.DH.mk ?a ?b ?c ?d;(case a=>k_is);(case b=>k_is);(case c=>k_is);(case d=>k_is)))
  (case kf_h_without_known=>(refine' L2.DH.mk ?a ?b ?c ?d;(case a=>k_is);(case b=>k_is);(case c=>k_is);(case d=>k_is)))
  (case kf_h_strip_shortened=>(refine' L2.DH.mk ?a ?b ?c ?d;(case a=>k_is);(case b=>k_is);(case c=>k_is);(case d=>k_is)))
  (case kf_h_shortened=>(refine' L2.DH.mk ?a ?b ?c ?d;(case a=>k_is);(case b=>k_is);(case c=>k_is);(case d=>k_is)))
  (case kf_h_l_kept_by=>(refine' L2.DH.mk ?a ?b ?c ?d;(case a=>k_is);(case b=>k_is);(case c=>k_is);(case d=>k_is)))
  (case kf_h_l_mix=>(refine' L2.DH.mk ?a ?b ?c ?d;(case a=>k_is);(case b=>k_is);(case c=>k_is);(case d=>k_is)))
  (case kf_h_l_seats_at=>(refine' L2.DH.mk ?a ?b ?c ?d;(case a=>k_is);(case b=>k_is);(case c=>k_is);(case d=>k_is)))
  (case kf_h_l_lays_seat=>(refine' L2.DH.mk ?a ?b ?c ?d;(case a=>k_is);(case b=>k_is);(case c=>k_is);(case d=>k_is)))
  (case kf_h_l_under=>(refine' L2.DH.mk ?a ?b ?c ?d;(case a=>k_is);(case b=>k_is);(case c=>k_is);(case d=>k_is)))
  (case kf_h_l_pick_good=>(refine' L2.DH.mk ?a ?b ?c ?d;(case a=>k_is);(case b=>k_is);(case c=>k_is);(case d=>k_is)))
  (case kf_h_l_good=>(refine' L2.DH.mk ?a ?b ?c ?d;(case a=>k_is);(case b=>k_is);(case c=>k_is);(case d=>k_is)))
  (case kf_h_l_add=>(refine' L2.DH.mk ?a ?b ?c ?d;(case a=>k_is);(case b=>k_is);(case c=>k_is);(case d=>k_is)))
  (case kf_h_l_add_masks=>(refine' L2.DH.mk ?a ?b ?c ?d;(case a=>k_is);(case b=>k_is);(case c=>k_is);(case d=>k_is)))
  (case kf_h_l_leaf=>(refine' L2.DH.mk ?a ?b ?c ?d;(case a=>k_is);(case b=>k_is);(case c=>k_is);(case d=>k_is)))
  (case kf_h_l_joint=>(refine' L2.DH.mk ?a ?b ?c ?d;(case a=>k_is);(case b=>k_is);(case c=>k_is);(case d=>k_is)))
  (case kf_h_l_effects=>(refine' L2.DH.mk ?a ?b ?c ?d;(case a=>k_is);(case b=>k_is);(case c=>k_is);(case d=>k_is)))
  (case kf_h_l_cell=>(refine' L2.DH.mk ?a ?b ?c ?d;(case a=>k_is);(case b=>k_is);(case c=>k_is);(case d=>k_is)))
  (case kf_h_l_strip_by=>(refine' L2.DH.mk ?a ?b ?c ?d;(case a=>k_is);(case b=>k_is);(case c=>k_is);(case d=>k_is)))
  (case kf_h_l_lengths_by=>(refine' L2.DH.mk ?a ?b ?c ?d;(case a=>k_is);(case b=>k_is);(case c=>k_is);(case d=>k_is)))
  (case kf_h_l_rounds_by=>(refine' L2.DH.mk ?a ?b ?c ?d;(case a=>k_is);(case b=>k_is);(case c=>k_is);(case d=>k_is)))
  (case kf_h_l_names=>(refine' L2.DH.mk ?a ?b ?c ?d;(case a=>k_is);(case b=>k_is);(case c=>k_is);(case d=>k_is)))
  (case kf_h_l_dead=>(refine' L2.DH.mk ?a ?b ?c ?d;(case a=>k_is);(case b=>k_is);(case c=>k_is);(case d=>k_is)))
  (case kf_h_l_staying=>(refine' L2.DH.mk ?a ?b ?c ?d;(case a=>k_is);(case b=>k_is);(case c=>k_is);(case d=>k_is)))
  (case kf_h_l_strips=>(refine' L2.DH.mk ?a ?b ?c ?d;(case a=>k_is);(case b=>k_is);(case c=>k_is);(case d=>k_is)))
  (case kf_h_l_short=>(refine' L2.DH.mk ?a ?b ?c ?d;(case a=>k_is);(case b=>k_is);(case c=>k_is);(case d=>k_is)))
  (case kf_h_law=>(refine' L2.DH.mk ?a ?b ?c ?d;(case a=>k_is);(case b=>k_is);(case c=>k_is);(case d=>k_is)))
  (case kf_a_C_Known=>k_is)
  (case kf_h_C_Known=>(refine ⟨?_,?_,?_,?_⟩ <;> k_is))
  (case kf_fn_C_Known=>(repeat' first | exact trivial | refine And.intro ?_ ?_ | k_is))
  (case kf_mk_C_Known=>k_is)
  (case kf_kC_C_Known=>k_is)
  (case kf_h_Known_init=>(refine' L2.MH.mk ?a ?b ?c ?d ?e;(case a=>k_is);(case b=>k_is);(case c=>k_is);(case d=>k_is);(case e=>k_is)))
  (case kf_tb1=>(repeat' first | exact trivial | refine And.intro ?_ ?_ | k_is))
  (case kf_x_CN=>k_exc)
  (case kf_m_CN_CN=>kts_exm)
  (case kf_aH=>k_is)
  (case kf_lG=>k_is)
  (case kf_kG=>k_keys)
  (case kf_tb2=>(repeat' first | exact trivial | refine And.intro ?_ ?_ | k_is))
  (case kf_tb3=>(repeat' first | exact trivial | refine And.intro ?_ ?_ | k_is))
  (case kf_k_tuple_tuple=>kit_is)
  (case kf_k_list_list=>kit_is)
  (case kf_lS=>k_is)
  (case kf_kS=>k_keys)
  (case kf_loS=>rfl)
  (case kf_lR=>k_is)
  (case kf_kR=>k_keys)
  (case kf_loR=>rfl)
  (case kf_tb4=>(repeat' first | exact trivial | refine And.intro ?_ ?_ | k_is))
  (case kf_tb5=>(repeat' first | exact trivial | refine And.intro ?_ ?_ | k_is))
  (case kf_tb6=>(repeat' first | exact trivial | refine And.intro ?_ ?_ | k_is))
  (case kf_lR_gather=>k_is)
  (case kf_lR_op=>k_is)
  (case kf_lR_pick=>k_is)
  (case kf_lR_copy=>k_is)
  (case kf_tb7=>(repeat' first | exact trivial | refine And.intro ?_ ?_ | k_is))
  (case kf_lR_choose=>k_is)
  (case kf_lR_other=>k_is)
  (case kf_lR_save=>k_is)
  (case kf_lR_reach=>k_is)
  (case kf_lR_store=>k_is)
  (case kf_lR_put=>k_is)
  (case kf_lR_fold=>k_is)
  (case kf_lR_running=>k_is)
  (case kf_lR_any=>k_is)
  (case kf_lF=>k_is)
