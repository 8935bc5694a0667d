import PyProof.Rows.All
import Wide.All
import Wide.FinOn
import OpenK.KLine
import KE.RegKIsAll
import KE.KDictOf
import KE.KItem
import KE.LcSums
import KE.KBits
import PyProof.EqAt
import PyProof.EqKinds
import PyProof.TupleCall
import KE.KDictList
import KE.RegKTryMore
import KE.KTryMore
import PySem.Challenge.RW_rowbreadth_k36_first_faults
set_option Elab.async false
set_option linter.all false
set_option maxRecDepth 100000
set_option maxHeartbeats 4000000
abbrev Fg:=PySem.W.Frag
abbrev Vl:=PySem.Value
abbrev Ad:=PySem.Addr
abbrev Sh:=PySem.Shared
abbrev J0:=PySem.Str->Option Vl
abbrev Ja:=Vl->Sh->Prop
abbrev Jb:=List Int
abbrev Jc:=List (Ad×PySem.Obj)
abbrev Jd:=List Vl
abbrev Je:=Option Vl
abbrev Jf:=List PySem.Str
abbrev Jg:=List Ad
abbrev Jh:=List PySem.Expr
theorem Ji {α:Type _} {β:Type _} {as:List α} {f:α->β}:(as.map f).length=as.length:=List.length_map ..
theorem Jj {α:Type _} {as bs:List α}:(as++bs).length=as.length+bs.length:=List.length_append ..
theorem Jk {α:Type _} {β:Type _} {f:α->β} {as bs:List α}:(as++bs).map f=as.map f++bs.map f:=List.map_append ..
namespace PySem.W.Fast
def tw6821606563079826367:=0
def tw14392941301595886316:=0
def tw2789596268484221135:=0
def tw15404635027958580101:=0
def tw3638020260464316573:=0
def tw18077174802805851202:=0
def tw13559613459727334012:=0
def tw14659997845878888882:=0
def tw616771705041321051:=0
def tw5545309604354017709:=0
def tw14971185741546037364:=0
def tw14936906056310011848:=0
def tw6596253880085688655:=0
def tw13634148346481801404:=0
def tw3669307627234121270:=0
def tw10937673474743523011:=0
def tw8206323145776335095:=0
def tw16578465039318405229:=0
def tw4146112857008966415:=0
def tw15637320819464504387:=0
def tw6805862233451441704:=0
def tw13791803267138456597:=0
def tw774354918727144036:=0
def tw11379411617856754139:=0
def tw6033449684893835447:=0
def tw17365631398460070962:=0
def tw16128705715953860559:=0
def tw2761913154953164436:=0
def tw276278033819014380:=0
def tw12556810614096782279:=0
def tw4673284497787021893:=0
def tw15106559917788697681:=0
def tw15325949961180512638:=0
def tw10651906039179522193:=0
def tw17562302809297833690:=0
def tw12362077339561888615:=0
def tw8375690455502753735:=0
def tw13648476490544243688:=0
def tw3715185546311631560:=0
def tw737586282897666001:=0
def tw12704261602162164859:=0
def tw9124142457991167493:=0
def tw2627147698921059257:=0
def tw14752957578075075706:=0
def tw1019416434650655389:=0
def tw2420344672693997591:=0
def tw7952019398773377433:=0
def tw12744270911699895847:=0
def tw10415876905751475670:=0
def tw14082071229556748300:=0
def tw15340791813083632786:=0
def tw2537019124203786106:=0
def tw16479222050547852076:=0
def tw14666434692970198144:=0
def tw12478598872949987389:=0
def tw2687984773786186250:=0
def tw6175020219442391982:=0
def tw8845943228826186934:=0
def tw5446436815466372729:=0
def tw530134987421406751:=0
def tw13224655292667176615:=0
def tw2118287443994059783:=0
def tw1640181343127157035:=0
def tw14468589484807494459:=0
def tw4935404847947377048:=0
def tw15204338002061280395:=0
def tw10804440299155492758:=0
def tw18278539339056127262:=0
def tw8422592396044737752:=0
def tw9023545518710851445:=0
def tw776120302990142478:=0
def tw17928507898431069271:=0
def tw16976762783903417237:=0
def tw2835412809836378541:=0
def tw14051068754460491676:=0
def tw17837166600481496066:=0
def tw10987938629743169135:=0
def tw17442537749084101999:=0
def tw8258563802053547584:=0
def tw12317392737636716174:=0
def tw7497706188312832414:=0
def tw6764500141317640773:=0
def tw12981767026927110413:=0
def tw3775761498852383554:=0
def tw7197994582104392598:=0
def tw8139056386311846664:=0
def tw13259737253322798829:=0
def tw8576840327909019473:=0
def tw1307816622764382599:=0
def tw17089298317295557578:=0
def tw18325932735320291604:=0
def tw11801243042589324101:=0
def tw5092452011818459418:=0
def tw15500203649694427247:=0
def tw7208738467361609687:=0
def tw4402847808270941740:=0
def tw3364848543825988260:=0
def tw15245168905918960341:=0
def tw985011932272406048:=0
def tw1774207776883208553:=0
def tw5942926961513658426:=0
def tw147628971478664506:=0
def tw9073470336598685822:=0
def tw149825419031691241:=0
def tw6035511266063884405:=0
def tw13482474688438197111:=0
def tw14563596876743802735:=0
def tw5659044874332848765:=0
def tw7348843143562524340:=0
def tw11361444013376870104:=0
def tw2281072075758829433:=0
def tw12154189542791396428:=0
def tw17504035647263019490:=0
def tw9741515409739234987:=0
def tw18115794785232012228:=0
def tw4235099271291189447:=0
def tw9748975808587633353:=0
def tw7863750756973958048:=0
def tw15016500043662150491:=0
def tw2259690542035206569:=0
def tw13298360266056648424:=0
def tw10036995353917469496:=0
def tw7521677693923809446:=0
def tw15599499892629506144:=0
def tw11598409344911627207:=0
def tw646976286544808797:=0
def tw9651174381869030045:=0
def tw13388076862212359660:=0
def tw4569784076652235699:=0
def tw11106256794981773773:=0
def tw17787973376860463202:=0
def tw12452831134869330927:=0
def tw16818097496376946039:=0
def tw14417440557121591910:=0
def tw6994991117271361548:=0
def tw1721896298956714147:=0
def tw3264310829498436458:=0
def tw14994760387302442361:=0
def tw3702810658093561078:=0
def tw6624328046691111618:=0
def tw5858912290035760601:=0
def tw14816740152934563174:=0
def tw6414096024418871972:=0
def tw13111510049361200193:=0
def tw11825056470788009943:=0
def tw787839306144930373:=0
def tw6268033075174632146:=0
def tw1023765929276253511:=0
def tw9738653935219959675:=0
def tw4929370596328994188:=0
def tw4468889121943891290:=0
def tw8124605430542015725:=0
def tw18110226342693687726:=0
def tw12790788546889487187:=0
def tw16386853351539154110:=0
def tw10783212993417497419:=0
def tw15522307983800202641:=0
def tw15042107758398670557:=0
def tw4740105099790494544:=0
def tw10267635700573339280:=0
def tw15610603580287512813:=0
def tw3089907190851919179:=0
def tw203643321929645351:=0
def tw2763588870829575956:=0
def tw4969566430897043042:=0
def tw4458092358034504722:=0
def tw18368454496530482660:=0
def tw5338607732022405147:=0
def tw11407489533994350330:=0
def tw3233887561348522218:=0
def tw17012829205954819717:=0
def tw743332835390199056:=0
def tw17016755768866406003:=0
def tw14532182837892319016:=0
def tw3529663358498251661:=0
def tw7897699454737489209:=0
def tw9521693201319370070:=0
def tw638968613630195542:=0
def tw8292349275981871521:=0
def tw14791340271724973193:=0
def tw14108787389784755847:=0
def tw12527084203413237021:=0
def tw3794434660683591905:=0
def tw359911770453775780:=0
def tw8720899551990463099:=0
def tw9960032355842896022:=0
def tw8757027104490662328:=0
def tw12032101830408173220:=0
def tw4350589268311264201:=0
def tw18220048392746358899:=0
def tw6622489208845360610:=0
def tw6969303229194822524:=0
def tw3897794392237940322:=0
def tw2279457309953078790:=0
def tw11293577033138135875:=0
def tw2943994820892020291:=0
def tw3130006084217792013:=0
def tw3296011368284643249:=0
def tw1176747262159007359:=0
def tw9483951748110130583:=0
def tw7164680401833437438:=0
def tw7986215405727117692:=0
def tw14085862795476484222:=0
def tw2296876084892940265:=0
def tw1674333148465113349:=0
def tw2706220595510921021:=0
def tw12115467135813706555:=0
def tw11680804097680795266:=0
def tw9489227196843410314:=0
def tw16041327886564024321:=0
def tw3580787394810986272:=0
def tw9907330317343490936:=0
def tw3381838911115174199:=0
def tw12280665423967475148:=0
def tw2604750408998935508:=0
def tw1841341778570073864:=0
def tw9309671333135372001:=0
def tw5125258404232658359:=0
def tw9472759627879113530:=0
def tw551340114476884038:=0
def tw11038601811475315913:=0
def tw2493590277749082465:=0
def tw12681131205201126091:=0
def tw4356250002724642555:=0
def tw11899925043895145631:=0
end PySem.W.Fast
open PySem renaming wpAny_bind→q0x
open PySem renaming wpAny_pure→q0y
open Int renaming toNat_natCast→q0z
open List renaming getD_eq_getElem?_getD→q1x
open List renaming mem_cons_of_mem→q1y
open List renaming mem_cons_self→q1z
open Bool renaming false_ne_true→q2x
open List renaming mem_append_right→q2y
open Nat renaming lt_of_lt_of_le→q2z
open List renaming length_cons→q3x
open List renaming append_nil→q3y
open List renaming getElem?_set_self→q3z
open List renaming getElem?_append_left→q4x
section
open PySem PySem.W
def ckx {α : Type} (a : List α) (i : Nat) : List α := (a.drop i).take 64
def ckv (p : Addr × Obj) : Option Obj := some p.2
theorem ck2 {α β γ : Type} {f : α → γ} {g : β → γ} {a : List α} {b : List β} {i : Nat} (x : (ckx a i).map f = (ckx b i).map g) (y : (a.drop (i + 64)).map f = (b.drop (i + 64)).map g) : (a.drop i).map f = (b.drop i).map g := by
  have h1 : ((a.drop i).take 64 ++ (a.drop i).drop 64).map f = ((b.drop i).take 64 ++ (b.drop i).drop 64).map g := by
    rw [List.map_append, List.map_append, List.drop_drop, List.drop_drop, y]
    exact congrArg (· ++ _) x
  rw [List.take_append_drop, List.take_append_drop] at h1
  exact h1
theorem ck_of {K : Params → Frag} {a : List Addr} (e : ∀ P, a = (K P).map (·.1)) (w : World) (s : Shared) (x : (((((ckx a 0).map s.heap.get?, (ckx a 64).map s.heap.get?), ((ckx a 128).map s.heap.get?, (ckx a 192).map s.heap.get?)), (((ckx a 256).map s.heap.get?, (ckx a 320).map s.heap.get?), ((ckx a 384).map s.heap.get?, (ckx a 448).map s.heap.get?))), ((((ckx a 512).map s.heap.get?, (ckx a 576).map s.heap.get?), ((ckx a 640).map s.heap.get?, (ckx a 704).map s.heap.get?)), (((ckx a 768).map s.heap.get?, (ckx a 832).map s.heap.get?), ((ckx a 896).map s.heap.get?, ((a).drop 960).map s.heap.get?)))) = (((((ckx (K w.params) 0).map ckv, (ckx (K w.params) 64).map ckv), ((ckx (K w.params) 128).map ckv, (ckx (K w.params) 192).map ckv)), (((ckx (K w.params) 256).map ckv, (ckx (K w.params) 320).map ckv), ((ckx (K w.params) 384).map ckv, (ckx (K w.params) 448).map ckv))), ((((ckx (K w.params) 512).map ckv, (ckx (K w.params) 576).map ckv), ((ckx (K w.params) 640).map ckv, (ckx (K w.params) 704).map ckv)), (((ckx (K w.params) 768).map ckv, (ckx (K w.params) 832).map ckv), ((ckx (K w.params) 896).map ckv, (((K w.params)).drop 960).map ckv))))) : InK K w s.heap :=
  InK.of e w s (ck2 (congrArg (·.1.1.1.1) x) (ck2 (congrArg (·.1.1.1.2) x) (ck2 (congrArg (·.1.1.2.1) x) (ck2 (congrArg (·.1.1.2.2) x) (ck2 (congrArg (·.1.2.1.1) x) (ck2 (congrArg (·.1.2.1.2) x) (ck2 (congrArg (·.1.2.2.1) x) (ck2 (congrArg (·.1.2.2.2) x) (ck2 (congrArg (·.2.1.1.1) x) (ck2 (congrArg (·.2.1.1.2) x) (ck2 (congrArg (·.2.1.2.1) x) (ck2 (congrArg (·.2.1.2.2) x) (ck2 (congrArg (·.2.2.1.1) x) (ck2 (congrArg (·.2.2.1.2) x) (ck2 (congrArg (·.2.2.2.1) x) (congrArg (·.2.2.2.2) x))))))))))))))))
local macro_rules
  | `(tactic| refine $h:ident (q := $q) (loose := $l) (Xt := $x) (XP := $xp) (Yf := $_:ident ($_:ident $k $a $e)) (Ya := $_) (YP := $_) (N := $n) $hl $_ $_ $rest*) => `(tactic| refine $h (q := $q) (loose := $l) (Xt := $x) (XP := $xp) (Yf := fun s => (((((ckx $a 0).map s.heap.get?, (ckx $a 64).map s.heap.get?), ((ckx $a 128).map s.heap.get?, (ckx $a 192).map s.heap.get?)), (((ckx $a 256).map s.heap.get?, (ckx $a 320).map s.heap.get?), ((ckx $a 384).map s.heap.get?, (ckx $a 448).map s.heap.get?))), ((((ckx $a 512).map s.heap.get?, (ckx $a 576).map s.heap.get?), ((ckx $a 640).map s.heap.get?, (ckx $a 704).map s.heap.get?)), (((ckx $a 768).map s.heap.get?, (ckx $a 832).map s.heap.get?), ((ckx $a 896).map s.heap.get?, (($a).drop 960).map s.heap.get?))))) (Ya := fun w => (((((ckx ($k w.params) 0).map ckv, (ckx ($k w.params) 64).map ckv), ((ckx ($k w.params) 128).map ckv, (ckx ($k w.params) 192).map ckv)), (((ckx ($k w.params) 256).map ckv, (ckx ($k w.params) 320).map ckv), ((ckx ($k w.params) 384).map ckv, (ckx ($k w.params) 448).map ckv))), ((((ckx ($k w.params) 512).map ckv, (ckx ($k w.params) 576).map ckv), ((ckx ($k w.params) 640).map ckv, (ckx ($k w.params) 704).map ckv)), (((ckx ($k w.params) 768).map ckv, (ckx ($k w.params) 832).map ckv), ((ckx ($k w.params) 896).map ckv, ((($k w.params)).drop 960).map ckv))))) (YP := InK $k) (N := $n) $hl (ck_of $e) InK.keeps $rest*)
open PyProof.Rows
set_option maxRecDepth 100000 in
set_option maxHeartbeats 0 in
open_top K36hd for PySem.Challenge.rw_rowbreadth_k36_first_faults
end
namespace L2
open PySem PySem.Spec PyProof.Rows
abbrev Key:=Sum Int Str
def za8:Key->Vl->Bool
 | .inl k,v=>Value.isInt k v
 | .inr x,v=>Value.isStrOf x v
def keyH (w:World):Key->Int
 | .inl k=>hashInt k
 | .inr x=>hashStr w x
theorem yd:∀ {k:Key} {v:Vl},za8 k v=true->(∃ i t,k=Sum.inl i/\v=Value.int i t)∨(∃ x t,k=Sum.inr x/\v=Value.str x t)
 | .inl i,v,h=>by
  obtain ⟨t,e⟩:=Value.isInt_shape (k:=i) (v:=v) h;exact .inl ⟨i,t,rfl,e⟩
 | .inr x,v,h=>by
  obtain ⟨t,e⟩:=Value.isStrOf_shape (x:=x) (v:=v) h;exact .inr ⟨x,t,rfl,e⟩
def keyIs_int (i:Int) (t:Tok):za8 (.inl i) (.int i t)=true:=by simp [za8,Value.isInt]
def keyIs_str (x:Str) (t:Tok):za8 (.inr x) (.str x t)=true:=by simp [za8,Value.isStrOf]
def key_ll (a b:Int):decide ((Sum.inl a:Key)=Sum.inl b)=(a == b):=by
 by_cases e:a=b
 ·subst e;simp
 ·have h:¬ (Sum.inl a:Key)=Sum.inl b:=λq=>e (Sum.inl.inj q)
  rw [decide_eq_false h];exact (beq_eq_false_iff_ne.mpr e).symm
def key_rr (a b:Str):decide ((Sum.inr a:Key)=Sum.inr b)=decide (a=b):=by
 by_cases e:a=b
 ·subst e;simp
 ·have h:¬ (Sum.inr a:Key)=Sum.inr b:=λq=>e (Sum.inr.inj q)
  rw [decide_eq_false h,decide_eq_false e]
def key_lr (a:Int) (b:Str):decide ((Sum.inl a:Key)=Sum.inr b)=false:=decide_eq_false (λq=>nomatch q)
def key_rl (a:Str) (b:Int):decide ((Sum.inr a:Key)=Sum.inl b)=false:=decide_eq_false (λq=>nomatch q)
def zD (prog:Program) (w:World):PySem.KeyKind prog w Key where
 is:=za8
 hash:=keyH w
 inj:=λv a b ha hb=>by
  rcases yd ha with ⟨i,t,rfl,rfl⟩ | ⟨x,t,rfl,rfl⟩
  ·rcases yd hb with ⟨j,u,rfl,e⟩ | ⟨y,u,rfl,e⟩
   ·injection e with e1 _;rw [e1]
   ·exact nomatch e
  ·rcases yd hb with ⟨j,u,rfl,e⟩ | ⟨y,u,rfl,e⟩
   ·exact nomatch e
   ·injection e with e1 _;rw [e1]
 byValue:=λk v h=>by
  rcases yd h with ⟨i,t,rfl,rfl⟩ | ⟨x,t,rfl,rfl⟩ <;> rfl
 pyHash:=λhv h=>by
  rcases yd hv with ⟨i,t,rfl,rfl⟩ | ⟨x,t,rfl,rfl⟩
  ·exact wpAny_pyHash_int h
  ·exact wpAny_pyHash_str h
 eqBool:=λhu hv h=>by
  rcases yd hu with ⟨i,t,rfl,rfl⟩ | ⟨x,t,rfl,rfl⟩
  ·rcases yd hv with ⟨j,u,rfl,rfl⟩ | ⟨y,u,rfl,rfl⟩
   ·rw [key_ll] at h;exact wpAny_eqBool_int h
   ·rw [key_lr] at h;exact SeqAt.EqAt.int_str i t y u _ _ _ _ h
  ·rcases yd hv with ⟨j,u,rfl,rfl⟩ | ⟨y,u,rfl,rfl⟩
   ·rw [key_rl] at h;exact SeqAt.EqAt.str_int x t j u _ _ _ _ h
   ·rw [key_rr] at h;exact wpAny_eqBool_str h
 «strs»:=λk x t v h=>by
  rcases yd h with ⟨i,u,rfl,e⟩ | ⟨y,u,rfl,e⟩
  ·exact nomatch e
  ·injection e with e1 _
   subst e1;cases v <;> rfl
def zdj (prog:Program) (w:World) (i:Int) (t:Tok):(zD prog w).is (.inl i) (.int i t)=true:=keyIs_int i t
def zdi (prog:Program) (w:World) (x:Str) (t:Tok):(zD prog w).is (.inr x) (.str x t)=true:=keyIs_str x t
inductive V where
 | non | bl (b:Bool) | int (i:Int) | str (x:Str) | byt (b:Array UInt8) | flt (b:UInt64) | ref (a:Ad) | ty (n:String)
 deriving DecidableEq
def RelV:V->Vl->Prop
 | .non,u=>u=Value.none
 | .bl b,u=>u=Value.bool b
 | .int i,u=>∃ t,u=Value.int i t
 | .str x,u=>∃ t,u=Value.str x t
 | .byt b,u=>∃ t,u=Value.bytes b t
 | .flt b,u=>∃ t,u=Value.float b t
 | .ref a,u=>u=Value.ref a
 | .ty n,u=>u=Value.type n
abbrev Vals:List V->Jd->Prop:=Paired RelV
def Vals.length {xs:List V} {us:Jd} (r:Vals xs us):xs.length=us.length:=Paired.length r
theorem Vals.get:∀ {xs:List V} {us:Jd} {i:Nat} {x:V},Vals xs us->xs[i]?=some x->∃ u,us[i]?=some u/\RelV x u
 | _,_,_,_,.nil,e=>by simp at e
 | _,_,0,_,.cons r _,e=>by simp at e;subst e;exact ⟨_,rfl,r⟩
 | _,_,i+1,x,.cons _ t,e=>by
  obtain ⟨u,h1,h2⟩:=Vals.get (i:=i) (x:=x) t (by simpa using e);exact ⟨u,by simpa using h1,h2⟩
theorem Vals.set {x:V} {u:Vl} (r:RelV x u):∀ {xs:List V} {us:Jd} (i:Nat),Vals xs us->Vals (xs.set i x) (us.set i u)
 | _,_,_,.nil=>.nil
 | _,_,0,.cons _ t=>.cons r t
 | _,_,i+1,.cons q t=>.cons q (Vals.set r i t)
theorem Vals.append:∀ {xs ys:List V} {us ws:Jd},Vals xs us->Vals ys ws->Vals (xs++ys) (us++ws)
 | _,_,_,_,.nil,s=>s
 | _,_,_,_,.cons r t,s=>.cons r (Vals.append t s)
theorem Vals.take:∀ {xs:List V} {us:Jd} (n:Nat),Vals xs us->Vals (xs.take n) (us.take n)
 | _,_,0,_=>.nil
 | _,_,_+1,.nil=>.nil
 | _,_,n+1,.cons r t=>.cons r (Vals.take n t)
theorem Vals.drop:∀ {xs:List V} {us:Jd} (n:Nat),Vals xs us->Vals (xs.drop n) (us.drop n)
 | _,_,0,r=>r
 | _,_,_+1,.nil=>.nil
 | _,_,n+1,.cons _ t=>Vals.drop n t
def RelO:Option V->Je->Prop
 | some v,some u=>RelV v u
 | none,none=>True
 | _,_=>False
def KV {κ:Type}:List (κ×V)->List (κ×Vl)->Prop:=Paired λ(p:κ×V) (q:κ×Vl)=>p.1=q.1/\RelV p.2 q.2
def kV:Key->V
 | .inl i=>.int i
 | .inr x=>.str x
inductive HO where
  | lst (xs:List V)
  | tup (xs:List V)
  | dK (kvs:List (Key×V)) | dT (kvs:List (List Key×V))
  | set (S:Int->Bool) (n:Nat)
  | ins (C dx:Ad) (fs:List (Str×V))
  | own (x:Ad)
  | xd (fs:List (Str×V))
  | met (f x:Ad)
  | rng (lo hi:Int)
  | frz (o:Obj) (u:HO)
  | tbl (ps:Array Vl)
  | ext (φ:Heap->Prop)
abbrev Hp:=Ad->Option HO
theorem Jp (l:List PySem.Str) (h:decide l.Nodup=true:=by decide +kernel):l.Nodup:=of_decide_eq_true h
abbrev Jl:=List (Key×V)
abbrev Jm:=List (Ad×HO)
abbrev Jn:=List V
abbrev Jo:=Option V
def upd (H:Hp) (a:Ad) (o:HO):Hp:=λb=>if b=a then some o else H b
def zf {H:Hp} {a:Ad} {o:HO}:upd H a o a=some o:=by unfold upd;rw [if_pos rfl]
def zj {H:Hp} {a b:Ad} {o:HO} (h:b≠a):upd H a o b=H b:=by unfold upd;rw [if_neg h]
def zbs {H:Hp} {a:Ad} {o u:HO}:upd (upd H a o) a u=upd H a u:=by
 funext b;unfold upd;split <;> rfl
def ne_of {H:Hp} {a b:Ad} {o u:HO} (h:H a=some o) (h':H b=some u) (d:o≠u):a≠b:=by
 intro e;subst e;rw [h] at h';exact d (Option.some.inj h')
def zp {H:Hp} {a b:Ad} {o:HO} (h:H a=some o) (h':H b=none):a≠b:=by
 intro e;subst e;rw [h] at h';cases h'
section
variable (P:Program) (w:World)
def ObjOk (H:Hp) (h:Heap) (a:Ad):HO->Prop
 | .lst xs=>xs.length<=sizeLine/\∃ (its:Jd) (n:Nat),Vals xs its/\h.get? a=some { cls:=.type "list",data:=.seq its.toArray n }
 | .tup xs=>xs.length<=sizeLine/\∃ its:Jd,Vals xs its/\IsTup h a its.toArray
 | .dK kvs=>kvs.length<=sizeLine/\(a == sysModules)=false/\∃ vs,KV kvs vs/\h.DictOf (zD P w) a vs
 | .dT kvs=>kvs.length<=sizeLine/\(a == sysModules)=false/\∃ xs:List (List Key×Ad×Vl),
   Paired (λ(p:List Key×V) (q:List Key×Ad×Vl)=>p.1=q.1/\H q.2.1=some (.tup (p.1.map kV))/\RelV p.2 q.2.2) kvs xs /\
   ∃ o es ep,h.get? a=some o/\o.ExactDict/\o.data=.dict es ep/\es.toList=xs.map (entryOfKey (tupleKind (zD P w)))/\(xs.map (·.1)).Nodup
 | .set S n=>h.SetOf (intKind P w) a S n
 | .ins C dx fs=>H dx=some (.own a)/\fs.length<=1000/\dx≠a/\h.get? a=some (PySem.W.instObj C dx) /\
   ∃ mA,h.Ns1 dx mA/\(∀ f,RelO (fs.lookup f) (mA f))/\PySem.Within mA (fs.map (·.1))
 | .own _=>∃ o,h.get? a=some o
 | .xd fs=>∃ mA,h.Ns1 a mA/\∀ f,RelO (fs.lookup f) (mA f)
 | .rng lo hi=>∃ t u v,h.get? a=some { cls:=.type "range",data:=.fields #[.int lo t,.int hi u,.int 1 v] }
 | .frz o u=>h.get? a=some o/\ObjOk H h a u
 | .tbl ps=>h.get? a=some { cls:=.none,data:=.fields ps }
 | .met f x=>h.get? a=some (PySem.W.methodObj (.ref f) (.ref x))
 | .ext φ=>φ h/\(∃ o,h.get? a=some o)/\∀ h1 h2:Heap,φ h1->(∀ o,h1.get? a=some o->h2.get? a=some o)->φ h2
def HOk (H:Hp) (h:Heap):Prop:=∀ a o,H a=some o->ObjOk P w H h a o
end
section
variable {P:Program} {w:World} {H H':Hp} {h h':Heap} {a:Ad} {o:HO}
theorem ObjOk.lt (x:ObjOk P w H h a o):a<h.objs.size:=by
 cases o with
 | lst xs=>obtain ⟨_,_,_,_,e⟩:=x;exact Heap.lt_size e
 | tup xs=>obtain ⟨_,_,_,p⟩:=x;exact p.lt
 | dK kvs=>obtain ⟨_,_,_,_,o,_,_,e,_⟩:=x;exact Heap.lt_size e
 | dT kvs=>obtain ⟨_,_,_,_,o,_,_,e,_⟩:=x;exact Heap.lt_size e
 | set S n=>obtain ⟨o,_,_,_,e,_⟩:=x;exact Heap.lt_size e
 | ins C dx fs=>obtain ⟨_,_,_,e,_⟩:=x;exact Heap.lt_size e
 | own y=>obtain ⟨_,e⟩:=x;exact Heap.lt_size e
 | xd fs=>obtain ⟨_,⟨_,_,_,e,_⟩,_⟩:=x;exact Heap.lt_size e
 | rng lo hi=>obtain ⟨_,_,_,e⟩:=x;exact Heap.lt_size e
 | frz ob u=>obtain ⟨e,_⟩:=x;exact Heap.lt_size e
 | tbl ps=>exact Heap.lt_size (show h.get? a=some _ from x)
 | met f y=>exact Heap.lt_size (show h.get? a=some _ from x)
 | ext φ=>obtain ⟨_,⟨_,e⟩,_⟩:=x;exact Heap.lt_size e
theorem Paired.mapP {α β:Type} {F G:α->β->Prop}:∀ {l₁:List α} {l₂:List β},Paired F l₁ l₂->(∀ a b,F a b->G a b)->Paired G l₁ l₂
 | _,_,.nil,_=>.nil
 | _,_,.cons r t,f=>.cons (f _ _ r) (Paired.mapP t f)
theorem ObjOk.stay (x:ObjOk P w H h a o) (k:∀ b u,(b=a∨H b=some (.own a))->h.get? b=some u->h'.get? b=some u)
  (ho:∀ b,H b=some (.own a)->H' b=some (.own a)) (ht:∀ b xs,H b=some (.tup xs)->H' b=some (.tup xs)):ObjOk P w H' h' a o:=by
 induction o with
 | lst xs=>obtain ⟨z,its,n,r,e⟩:=x;exact ⟨z,its,n,r,k _ _ (.inl rfl) e⟩
 | tup xs=>obtain ⟨z,its,r,ob,e,c⟩:=x;exact ⟨z,its,r,ob,k _ _ (.inl rfl) e,c⟩
 | dK kvs=>obtain ⟨z,y,vs,r,ob,es,ep,e,c⟩:=x;exact ⟨z,y,vs,r,ob,es,ep,k _ _ (.inl rfl) e,c⟩
 | dT kvs =>
  obtain ⟨z,y,xs,r,ob,es,ep,e,c⟩:=x;exact ⟨z,y,xs,Paired.mapP r λp q z=>⟨z.1,ht _ _ z.2.1,z.2.2⟩,ob,es,ep,k _ _ (.inl rfl) e,c⟩
 | set S n=>obtain ⟨ob,es,ep,t,e,c⟩:=x;exact ⟨ob,es,ep,t,k _ _ (.inl rfl) e,c⟩
 | ins C dx fs =>
  obtain ⟨d,z,ne,e,mA,⟨od,es,ep,e2,c⟩,r⟩:=x;exact ⟨ho _ d,z,ne,k _ _ (.inl rfl) e,mA,⟨od,es,ep,k _ _ (.inr d) e2,c⟩,r⟩
 | own y=>obtain ⟨ob,e⟩:=x;exact ⟨ob,k _ _ (.inl rfl) e⟩
 | xd fs=>obtain ⟨mA,⟨od,es,ep,e,c⟩,r⟩:=x;exact ⟨mA,⟨od,es,ep,k _ _ (.inl rfl) e,c⟩,r⟩
 | rng lo hi=>obtain ⟨t,u,v,e⟩:=x;exact ⟨t,u,v,k _ _ (.inl rfl) e⟩
 | frz ob u ih=>obtain ⟨e,q⟩:=x;exact ⟨k _ _ (.inl rfl) e,ih q⟩
 | tbl ps =>
  have e:h.get? a=some { cls:=.none,data:=.fields ps }:=x;show h'.get? a=some { cls:=.none,data:=.fields ps };exact k a _ (.inl rfl) e
 | met f y =>
  have e:h.get? a=some (PySem.W.methodObj (.ref f) (.ref y)):=x;show h'.get? a=some (PySem.W.methodObj (.ref f) (.ref y));exact k a _ (.inl rfl) e
 | ext φ=>obtain ⟨p,⟨o,e⟩,st⟩:=x;exact ⟨st _ _ p λo q=>k _ _ (.inl rfl) q,⟨o,k _ _ (.inl rfl) e⟩,st⟩
def HOk.lt (x:HOk P w H h) (e:H a=some o):a<h.objs.size:=(x a o e).lt
theorem HOk.fresh (x:HOk P w H h) (e:h.objs.size<=a):H a=none:=by
 cases q:H a with
 | none=>rfl
 | some u=>exact absurd (q2z (x.lt q) e) (Nat.lt_irrefl _)
def HOk.kept (x:HOk P w H h) (k:∀ b u,h.get? b=some u->h'.get? b=some u):HOk P w H h':=λa o e =>
 (x a o e).stay (λb u _ q=>k b u q) (λ_ q=>q) λ_ _ q=>q
def HOk.laid (x:HOk P w H h) (k:∀ b u,h.get? b=some u->h'.get? b=some u) (hp:h.objs.size<=a) (new:ObjOk P w (upd H a o) h' a o):HOk P w (upd H a o) h':=λb u e=>by
 have hn:=x.fresh hp;by_cases hb:b=a
 ·subst hb;rw [zf] at e;cases e;exact new
 ·rw [zj hb] at e
  exact (x b u e).stay (λc v _ q=>k c v q) (λc q=>by rw [zj (zp q hn)];exact q) λc xs q=>by rw [zj (zp q hn)];exact q
end
def Rd (H:Hp) (a:Ad) (u:HO):Prop:=H a=some u∨∃ o,H a=some (.frz o u)
def Rd.ok {P:Program} {w:World} {H:Hp} {h:Heap} {a:Ad} {u:HO} (r:Rd H a u) (x:HOk P w H h):ObjOk P w H h a u:=by
 rcases r with r | ⟨o,r⟩
 ·exact x a u r
 ·obtain ⟨_,q⟩:=x a _ r
  exact q
def Mut:Option HO->Prop
 | some (.lst _)=>True
 | some (.dK _)=>True
 | some (.dT _)=>True
 | some (.set _ _)=>True
 | some (.ins _ _ _)=>True
 | some (.ext _)=>True
 | _=>False
section
variable {P:Program} {w:World} {H:Hp} {h h':Heap} {x e:Ad} {o':HO}
def HOk.write (ok:HOk P w H h) (mu:Mut (H x)) (he:e=x∨H e=some (.own x)) (k:∀ b u,b≠e->h.get? b=some u->h'.get? b=some u) (heo:∃ u,h'.get? e=some u)
  (new:ObjOk P w (upd H x o') h' x o'):HOk P w (upd H x o') h':=λb u q=>by
 have nown:∀ c y,H c=some (.own y)->c≠x:=λc y r z=>by subst z;rw [r] at mu;exact mu
 have ntup:∀ c xs,H c=some (.tup xs)->c≠x:=λc xs r z=>by subst z;rw [r] at mu;exact mu
 by_cases hb:b=x
 ·subst hb;rw [zf] at q;cases q;exact new
 ·rw [zj hb] at q
  by_cases hbe:b=e
  ·have q':H b=some (.own x):=by
    rcases he with z | z
    ·exact absurd (hbe.trans z) hb
    ·rw [hbe];exact z
   rw [q] at q';cases q';obtain ⟨v,hv⟩:=heo;exact ⟨v,by rw [hbe];exact hv⟩
  ·refine (ok b u q).stay (λc v hc r=>k c v ?_ r) (λc r=>by rw [zj (nown c b r)];exact r) λc xs r=>by rw [zj (ntup c xs r)];exact r
   rcases hc with rfl | hc
   ·exact hbe
   ·rintro rfl
    rcases he with z | z
    ·exact nown c b hc z
    ·rw [hc] at z;cases z;exact hb rfl
end
structure Un (fs ex:Jg) (H H':Hp) (h h':Heap):Prop where
 keep:∀ b o,h.get? b=some o->H b=none->b ∉ fs->b ∉ ex->h'.get? b=some o
 slot:∀ b o,h.get? b=some o->H b=none->b∈fs->b ∉ ex->∃ sl,h'.get? b=some { o with slots:=sl }
 free:∀ b o,h.get? b=some o->H b=none->b ∉ ex->H' b=none
 there:∀ b o,h.get? b=some o->b ∉ ex->∃ o',h'.get? b=some o'
 tups:∀ b xs,H b=some (.tup xs)->H' b=some (.tup xs)
 frzs:∀ b o u,H b=some (.frz o u)->H' b=some (.frz o u)
 tbls:∀ b ps,H b=some (.tbl ps)->∃ more,H' b=some (.tbl (ps++more))
section
variable {fs fs' ex ex':Jg} {H H1 H2:Hp} {h h1 h2 h':Heap} {a x e:Ad} {o:HO}
def Un.any (u:Un fs ex H H1 h h1) {b:Ad} {ob:Obj} (q:h.get? b=some ob) (n:H b=none) (hx:b ∉ ex):∃ sl,h1.get? b=some { ob with slots:=sl }:=by
 by_cases hb:b∈fs
 ·exact u.slot b ob q n hb hx
 ·exact ⟨ob.slots,u.keep b ob q n hb hx⟩
def Un.kept (k:∀ b u,h.get? b=some u->h'.get? b=some u):Un fs ex H H h h' :=
 ⟨λb ob q _ _ _=>k b ob q,λb ob q _ _ _=>⟨ob.slots,k b ob q⟩,λ_ _ _ n _=>n,λb ob q _=>⟨ob,k b ob q⟩,λ_ _ q=>q,λ_ _ _ q=>q,λ_ ps q=>⟨#[],by rw [q];simp⟩⟩
def Un.refl:Un fs ex H H h h:=Un.kept λ_ _ q=>q
def Un.laid (k:∀ b u,h.get? b=some u->h'.get? b=some u) (hp:h.objs.size<=a) (hn:H a=none):Un fs ex H (upd H a o) h h' where
 keep:=λb u q _ _ _=>k b u q
 slot:=λb u q _ _ _=>⟨u.slots,k b u q⟩
 free:=λb u q n _=>by rw [zj (Nat.ne_of_lt (q2z (Heap.lt_size q) hp))];exact n
 there:=λb u q _=>⟨u,k b u q⟩
 tups:=λb xs q=>by rw [zj (zp q hn)];exact q
 frzs:=λb u xs q=>by rw [zj (zp q hn)];exact q
 tbls:=λb ps q=>⟨#[],by rw [zj (zp q hn),q];simp⟩
def Un.write (mu:Mut (H x)) (he:e=x∨H e=some (.own x)) (k:∀ b u,b≠e->h.get? b=some u->h'.get? b=some u) (heo:∃ u,h'.get? e=some u):Un fs ex H (upd H x o) h h':=by
 have hx:∀ b,H b=none->b≠x:=λb n z=>by subst z;rw [n] at mu;exact mu
 have hb:∀ b,H b=none->b≠e:=λb n z=>by
  subst z;rcases he with r | r
  ·exact hx b n r
  ·rw [n] at r;cases r
 have hm:∀ b u,H b=some u->¬ Mut (some u)->b≠x:=λb u q nm z=>by subst z;rw [q] at mu;exact nm mu
 refine ⟨λb u q n _ _=>k b u (hb b n) q,λb u q n _ _=>⟨u.slots,k b u (hb b n) q⟩,λb u q n _=>by rw [zj (hx b n)];exact n,λb u q _=>?_,
  λb xs q=>by rw [zj (hm b _ q λz=>z)];exact q,λb u xs q=>by rw [zj (hm b _ q λz=>z)];exact q,λb ps q=>⟨#[],by rw [zj (hm b _ q λz=>z),q];simp⟩⟩
 by_cases hbe:b=e
 ·subst hbe;exact heo
 ·exact ⟨u,k b u hbe q⟩
end
def trk (h:Heap) (H:Hp):Jg:=(List.range h.objs.size).filter λa=>(H a).isSome
def hidT (h:Heap) (H:Hp):Heap:=PySem.W.hideAll h (trk h H)
def hidT_size (h:Heap) (H:Hp):(hidT h H).objs.size=h.objs.size:=PySem.W.hideAll_size _ _
def hidT_get {h:Heap} {H:Hp} {b:Ad} {o:Obj} (e:h.get? b=some o) (n:H b=none):(hidT h H).get? b=some o :=
 PySem.W.hideAll_get _ e λhm=>by
  have q:(H b).isSome=true:=(List.mem_filter.mp hm).2;rw [n] at q;simp at q
theorem of_hidT {h:Heap} {H:Hp} {b:Ad} {o:Obj} (e:(hidT h H).get? b=some o):h.get? b=some o/\H b=none:=by
 have e':h.get? b=some o:=PySem.W.of_hideAll (trk h H) e;refine ⟨e',?_⟩
 cases q:H b with
 | none=>rfl
 | some x =>
  have hm:b∈trk h H:=List.mem_filter.mpr ⟨List.mem_range.mpr (Heap.lt_size e'),by simp [q]⟩;have z:(hidT h H).get? b=none:=PySem.W.hideAll_none (trk h H) hm;rw [z] at e;cases e
def YW (g h:Heap) (L:Ad):Jc:=(List.range h.objs.size).filterMap λa=>if a=L∨(g.get? a).isSome=true then none else (h.get? a).map λo=>(a,o)
def zdk {g h:Heap} {L a:Ad} {o:Obj} (h1:a≠L) (h2:g.get? a=none) (h3:h.get? a=some o):(a,o)∈YW g h L :=
 List.mem_filterMap.mpr ⟨a,List.mem_range.mpr (Heap.lt_size h3),by simp [h1,h2,h3]⟩
theorem X9 {g h:Heap} {L:Ad} {p:Ad×Obj} (hp:p∈YW g h L):p.1≠L/\g.get? p.1=none/\h.get? p.1=some p.2:=by
 obtain ⟨b,_,e⟩:=List.mem_filterMap.mp hp
 split at e
 ·cases e
 ·rename_i hn
  cases q:h.get? b with
  | none=>rw [q] at e;simp at e
  | some u =>
   rw [q] at e;simp only [Option.map_some,Option.some.injEq] at e;subst e;refine ⟨λz=>hn (.inl z),?_,q⟩;show g.get? b=none
   cases r:g.get? b with
   | none=>rfl
   | some v=>exact (hn (.inr (by simp [r]))).elim
def rest (g h:Heap) (L d:Ad):Jc:=(YW g h L).filter λp=>decide (p.1≠d)
def news_all {g h:Heap} {L:Ad}:News g L h (YW g h L):=λp hp=>let ⟨a,b,c⟩:=X9 hp;⟨c,a,b⟩
structure Mod (K:Fg) (mg:J0) (base:Heap):Prop where
 kin:K.In base
 glob:base.Ns mainGlobals mg
 blt:∃ mb,base.Ns builtinsNs mb/\∀ x:Str,x≠"__name__"->mb x=bootBuiltins x
 nolimit:base.NoLimit
structure Cx where
 prog:Program
 w:World
 K:Fg
 mg:J0
 base:Heap
 A:Around
 N:Jf
 s₀:Sh
 H₀:Hp
 env:Env
 outer:List Env
 stack:List Env
 ex:Jg
 fn:Str->Bool
 calm:Bool
 pn:Jc
 xe:Ja
def frs (l:List Env):Jg:=l.filterMap (·.frame)
abbrev Cx.fs (X:Cx):Jg:=frs X.outer
def Vis (sc:Scope) (x:Str):Prop:=sc.names.lookup x=some .local∨sc.names.lookup x=some .cell∨sc.names.lookup x=some .free
def Loc (sc:Scope) (x:Str):Prop:=sc.names.lookup x=some .local∨sc.names.lookup x=some .cell
def Look (env:Env) (h:Heap) (m:J0) (x:Str) (u:Vl):Prop :=
 (env.kindOf x=some .local/\m x=some u)∨((env.kindOf x=some .cell∨env.kindOf x=some .free)/\∃ c,env.cells.lookup x=some c/\h.IsCell c (some u))
structure Cx.Ok (X:Cx):Prop where
 mod:Mod X.K X.mg X.base
 kind:X.env.scope.kind=.function
 glob:X.env.globals=mainGlobals
 blt:X.env.builtins=builtinsNs
 above:X.s₀.heap.objs.size<=X.env.locals
 inj:∀ x y c,X.env.cells.lookup x=some c->X.env.cells.lookup y=some c->x=y
 has:∀ x,(X.env.kindOf x=some .cell∨X.env.kindOf x=some .free)->∃ c,X.env.cells.lookup x=some c
 cab:∀ x c,X.fn x=true->X.env.cells.lookup x=some c->X.s₀.heap.objs.size<=c
 hd:X.calm=true->X.A.handled=none
 frames:X.A.frames=some X.stack
 stk:X.stack=X.outer∨(X.stack=X.env::X.outer/\X.env.frame=some X.env.locals)
 exf:∀ b∈X.ex,b≠X.env.locals/\∀ x c,X.env.cells.lookup x=some c->c≠b
 bs:∀ b o,X.base.get? b=some o->X.s₀.heap.get? b=some o/\X.H₀ b=none
 bsz:X.base.objs.size<=X.s₀.heap.objs.size
 noex:∀ b o,X.base.get? b=some o->b ∉ X.ex
 exfs:∀ b∈X.ex,b ∉ X.fs
 funs:X.s₀.heap.FunFrames X.base X.outer
 frf:∀ b∈X.fs,X.H₀ b=none
structure Inv (X:Cx) (pins:Jc) (σ:List (Jo)) (H:Hp) (s:Sh):Prop where
 ok:X.Ok
 os:s.os=X.s₀.os
 bare:AllBare s.gens
 base:Un X.fs X.ex X.H₀ H X.s₀.heap s.heap
 loc:∃ m,s.heap.Ns X.env.locals m/\∀ (i:Nat) (x:Str) (v:V),X.N[i]?=some x->σ[i]?=some (some v)->Vis X.env.scope x->∃ u,RelV v u/\Look X.env s.heap m x u
 cell:∀ x c,X.env.cells.lookup x=some c->∃ v,s.heap.IsCell c v
 free:H X.env.locals=none
 freeC:∀ x c,X.env.cells.lookup x=some c->H c=none
 pin:∀ p∈X.pn++pins,s.heap.get? p.1=some p.2/\H p.1=none/\p.1≠X.env.locals/\p.1 ∉ X.fs/\∀ v,p.2.data≠.cell v
 hok:HOk X.prog X.w H s.heap
 len:σ.length=X.N.length
section
variable {X:Cx} {pins:Jc} {σ:List (Jo)} {H H':Hp} {s:Sh} {h':Heap}
def Cx.Ok.nofr (ok:X.Ok) {b:Ad} {o:Obj} (e:X.base.get? b=some o):b ∉ X.fs:=λhb=>by
 have:=(ok.funs.mem hb).1;rw [e] at this;cases this
def Inv.bs (I:Inv X pins σ H s):∀ b o,X.base.get? b=some o->s.heap.get? b=some o/\H b=none:=λb o e =>
 ⟨I.base.keep b o (I.ok.bs b o e).1 (I.ok.bs b o e).2 (I.ok.nofr e) (I.ok.noex b o e),I.base.free b o (I.ok.bs b o e).1 (I.ok.bs b o e).2 (I.ok.noex b o e)⟩
def Inv.bk (I:Inv X pins σ H s):∀ b o,X.base.get? b=some o->s.heap.get? b=some o:=λb o e=>(I.bs b o e).1
def Inv.mod (I:Inv X pins σ H s):Mod X.K X.mg X.base:=I.ok.mod
def Inv.kIn (I:Inv X pins σ H s):X.K.In s.heap:=I.ok.mod.kin.keeps I.bk
def Inv.lt (I:Inv X pins σ H s):X.env.locals<s.heap.objs.size:=let ⟨_,hn,_⟩:=I.loc;hn.lt
def Inv.sz (I:Inv X pins σ H s):X.s₀.heap.objs.size<=s.heap.objs.size:=Nat.le_trans I.ok.above (Nat.le_of_lt I.lt)
def Inv.nofs (I:Inv X pins σ H s) {a:Ad} (h:s.heap.objs.size<=a):a ∉ X.fs:=λhb=>by
 obtain ⟨_,o,ho,_⟩:=I.ok.funs.mem hb;exact absurd (q2z (Heap.lt_size ho) (Nat.le_trans I.sz h)) (Nat.lt_irrefl _)
def Inv.cne (I:Inv X pins σ H s):∀ x c,X.env.cells.lookup x=some c->c≠X.env.locals:=λx c e z=>by
 obtain ⟨v,o,ho,hd⟩:=I.cell x c e;obtain ⟨m,⟨o',es,ep,ho',hd',_⟩,_⟩:=I.loc;rw [z,ho'] at ho;cases ho;rw [hd'] at hd;cases hd
theorem Inv.funs (I:Inv X pins σ H s):s.heap.FunFrames X.base X.outer:=by
 have all:∀ (l:List Env),(∀ b∈frs l,b∈X.fs)->X.s₀.heap.FunFrames X.base l->s.heap.FunFrames X.base l:=by
  intro l
  induction l with
  | nil=>intro _ _;trivial
  | cons env r ih =>
   intro hs hl;obtain ⟨hk,⟨L,o,hf,hn,ho,hd⟩,hr⟩:=hl;have hL:L∈X.fs:=hs L (by unfold frs;rw [List.filterMap_cons,hf];exact q1z);obtain ⟨sl,e⟩:=I.base.slot L o ho (I.ok.frf L hL) hL λz=>I.ok.exfs L z hL;exact ⟨hk,⟨L,_,hf,hn,e,hd⟩,ih (λb hb=>hs b (by unfold frs;rw [List.filterMap_cons,hf];exact q1y _ hb)) hr⟩
 exact all X.outer (λ_ hb=>hb) I.ok.funs
def Inv.stack (I:Inv X pins σ H s):s.heap.FunFrames X.base X.stack:=by
 rcases I.ok.stk with e | ⟨e,hf⟩
 ·rw [e];exact I.funs
 ·rw [e]
  obtain ⟨m,hn,_⟩:=I.loc;refine .cons (by rw [I.ok.kind];decide) hf hn ?_ I.funs;exact Heap.get?_none_of_le (Nat.le_trans I.ok.bsz I.ok.above)
def Inv.stkSub (I:Inv X pins σ H s):∀ b∈frs X.stack,b∈X.env.locals::X.fs:=λb hb=>by
 rcases I.ok.stk with e | ⟨e,hf⟩
 ·rw [e] at hb;exact q1y _ hb
 ·rw [e] at hb
  unfold frs at hb;rw [List.filterMap_cons,hf] at hb;exact hb
def Inv.stkFree (I:Inv X pins σ H s):∀ b∈frs X.stack,H b=none:=λb hb=>by
 rcases List.mem_cons.mp (I.stkSub b hb) with e | hb
 ·rw [e];exact I.free
 ·obtain ⟨_,o,ho,_⟩:=I.ok.funs.mem hb
  exact I.base.free b o ho (I.ok.frf b hb) λz=>I.ok.exfs b z hb
def Inv.step {g':Array GenState} {t':Nat} {d':Drawn} {ch:Jg} (I:Inv X pins σ H s)
  (hch:∀ b∈ch,(b∈X.ex∨X.s₀.heap.objs.size<=b)/\b≠X.env.locals/\(∀ x c,X.env.cells.lookup x=some c->c≠b)/\∀ p∈X.pn++pins,p.1≠b)
  (keep:∀ b o,b≠X.env.locals->b ∉ X.fs->b ∉ ch->s.heap.get? b=some o->H b=none->h'.get? b=some o)
  (slot:∀ b o,b≠X.env.locals->b∈X.fs->b ∉ ch->s.heap.get? b=some o->H b=none->∃ sl,h'.get? b=some { o with slots:=sl }) (free:∀ b o,b ∉ ch->s.heap.get? b=some o->H b=none->H' b=none)
  (there:∀ b o,b ∉ ch->s.heap.get? b=some o->∃ o',h'.get? b=some o')
  (tups:∀ b xs,H b=some (.tup xs)->H' b=some (.tup xs)) (frzs:∀ b o u,H b=some (.frz o u)->H' b=some (.frz o u)) (tbls:∀ b ps,H b=some (.tbl ps)->∃ more,H' b=some (.tbl (ps++more)))
  (ns:∀ m,s.heap.Ns X.env.locals m->h'.Ns X.env.locals m) (hok:HOk X.prog X.w H' h') (hg:AllBare g') :
  Inv X pins σ H' { s with heap:=h',gens:=g',drawn:=d',toks:=t' }:=by
 have neL:∀ b o,X.s₀.heap.get? b=some o->b≠X.env.locals:=λb o e=>Nat.ne_of_lt (q2z (Heap.lt_size e) I.ok.above)
 have neC:∀ b o,X.s₀.heap.get? b=some o->b ∉ X.ex->b ∉ ch:=λb o e hx hb=>by
  rcases (hch b hb).1 with z | z
  ·exact hx z
  ·exact absurd (q2z (Heap.lt_size e) z) (Nat.lt_irrefl _)
 have cellK:∀ x c,X.env.cells.lookup x=some c->∀ v,s.heap.IsCell c v->h'.IsCell c v:=λx c e v ⟨o,ho,hd⟩=>by
  have nch:c ∉ ch:=λz=>(hch c z).2.2.1 x c e rfl;by_cases hc:c∈X.fs
  ·obtain ⟨sl,q⟩:=slot c o (I.cne x c e) hc nch ho (I.freeC x c e)
   exact ⟨_,q,hd⟩
  ·exact ⟨o,keep c o (I.cne x c e) hc nch ho (I.freeC x c e),hd⟩
 refine ⟨I.ok,I.os,hg,⟨λb o e n hb hx=>?_,λb o e n hb hx=>?_,λb o e n hx=>?_,λb o e hx=>?_,λb xs e=>tups b xs (I.base.tups b xs e),λb o xs e=>frzs b o xs (I.base.frzs b o xs e),λb ps e=>?_⟩,?_,λx c e=>?_,?_,λx c e=>?_,λp hp=>?_,hok,I.len⟩
 ·exact keep b o (neL b o e) hb (neC b o e hx) (I.base.keep b o e n hb hx) (I.base.free b o e n hx)
 ·obtain ⟨sl,e1⟩:=I.base.slot b o e n hb hx
  obtain ⟨sl',e2⟩:=slot b _ (neL b o e) hb (neC b o e hx) e1 (I.base.free b o e n hx);exact ⟨sl',e2⟩
 ·obtain ⟨o',e1⟩:=I.base.there b o e hx
  exact free b o' (neC b o e hx) e1 (I.base.free b o e n hx)
 ·obtain ⟨o',e1⟩:=I.base.there b o e hx
  exact there b o' (neC b o e hx) e1
 ·obtain ⟨m1,e1⟩:=I.base.tbls b ps e
  obtain ⟨m2,e2⟩:=tbls b _ e1;exact ⟨m1++m2,by rw [e2,Array.append_assoc]⟩
 ·obtain ⟨m,hn,hl⟩:=I.loc
  refine ⟨m,ns m hn,λi x v e1 e2 e3=>?_⟩;obtain ⟨u,r,l⟩:=hl i x v e1 e2 e3;refine ⟨u,r,?_⟩;rcases l with l | ⟨k,c,e,z⟩
  ·exact .inl l
  ·exact .inr ⟨k,c,e,cellK x c e _ z⟩
 ·obtain ⟨v,z⟩:=I.cell x c e
  exact ⟨v,cellK x c e v z⟩
 ·obtain ⟨m,⟨o,_,_,ho,_⟩,_⟩:=I.loc
  exact free _ o (λz=>(hch _ z).2.1 rfl) ho I.free
 ·obtain ⟨v,o,ho,hd⟩:=I.cell x c e
  exact free c o (λz=>(hch c z).2.2.1 x c e rfl) ho (I.freeC x c e)
 ·obtain ⟨e,n,ne,nf,d⟩:=I.pin p hp
  have nch:p.1 ∉ ch:=λz=>(hch p.1 z).2.2.2 p hp rfl;exact ⟨keep p.1 p.2 ne nf nch e n,free p.1 p.2 nch e n,ne,nf,d⟩
def Inv.un {t':Nat} (I:Inv X pins σ H s) (u:Un X.fs [] H H' s.heap h') (hok:HOk X.prog X.w H' h'):Inv X pins σ H' { s with heap:=h',toks:=t' }:=by
 obtain ⟨m,⟨o,es,ep,ho,r⟩,_⟩:=id I.loc;obtain ⟨sl,hL⟩:=u.any ho I.free (by simp)
 exact I.step (g':=s.gens) (d':=s.drawn) (ch:=[]) (λ_ z=>nomatch z) (λb o _ hb _ e n=>u.keep b o e n hb (by simp)) (λb o _ hb _ e n=>u.slot b o e n hb (by simp)) (λb o _ e n=>u.free b o e n (by simp)) (λb o _ e=>u.there b o e (by simp)) u.tups u.frzs u.tbls (λm' hm=>by
  obtain ⟨o',es',ep',ho',r'⟩:=hm;rw [ho] at ho';cases ho';exact ⟨_,es',ep',hL,r'⟩) hok I.bare
def Inv.call {g':Array GenState} {t':Nat} {d':Drawn} {ch:Jg} (I:Inv X pins σ H s) (u:Un (frs X.stack) ch H H' s.heap h') (hok:HOk X.prog X.w H' h') (hg:AllBare g')
  (hch:∀ b∈ch,(b∈X.ex∨X.s₀.heap.objs.size<=b)/\b≠X.env.locals/\(∀ x c,X.env.cells.lookup x=some c->c≠b)/\∀ p∈X.pn++pins,p.1≠b) :
  Inv X pins σ H' { s with heap:=h',gens:=g',drawn:=d',toks:=t' }:=by
 obtain ⟨m,⟨o,es,ep,ho,r⟩,_⟩:=id I.loc;obtain ⟨sl,hL⟩:=u.any ho I.free λz=>(hch _ z).2.1 rfl
 exact I.step (ch:=ch) hch (λb o hL hb hc e n=>u.keep b o e n (λz=>(List.mem_cons.mp (I.stkSub b z)).elim hL hb) hc) (λb o _ _ hc e n=>u.any e n hc) (λb o hc e n=>u.free b o e n hc) (λb o hc e=>u.there b o e hc) u.tups u.frzs u.tbls (λm' hm=>by
  obtain ⟨o',es',ep',ho',r'⟩:=hm;rw [ho] at ho';cases ho';exact ⟨_,es',ep',hL,r'⟩) hok hg
def Inv.turned {t':Nat} {it:Ad} (I:Inv X pins σ H s) (k:∀ b o,b≠it->s.heap.get? b=some o->h'.get? b=some o) (hn:H it=none) (hL:it≠X.env.locals)
  (h1:it∈X.ex∨X.s₀.heap.objs.size<=it) (h2:∀ x c,X.env.cells.lookup x=some c->c≠it) (h3:∀ p∈X.pn++pins,p.1≠it):Inv X pins σ H { s with heap:=h',toks:=t' }:=by
 have nit:∀ b u,H b=some u->b≠it:=λb u e z=>by rw [z,hn] at e;cases e
 refine I.step (g':=s.gens) (d':=s.drawn) (ch:=[it]) (λb hb=>?_) (λb o _ _ hc e _=>k b o (λz=>hc (by simp [z])) e) (λb o _ _ hc e _=>⟨o.slots,k b o (λz=>hc (by simp [z])) e⟩) (λ_ _ _ _ n=>n)
  (λb o hc e=>⟨o,k b o (λz=>hc (by simp [z])) e⟩) (λ_ _ e=>e) (λ_ _ _ e=>e) (λb ps e=>⟨#[],by rw [e];simp⟩) (λm hm=>?_) (λb u e=>?_) I.bare
 ·have e:b=it:=by simpa using hb
  subst e;exact ⟨h1,hL,h2,h3⟩
 ·obtain ⟨o,es,ep,ho,r⟩:=hm
  exact ⟨o,es,ep,k _ o (Ne.symm hL) ho,r⟩
 ·refine (I.hok b u e).stay (λc v hc q=>k c v ?_ q) (λ_ q=>q) λ_ _ q=>q
  rcases hc with z | z
  ·rw [z];exact nit b u e
  ·exact nit c _ z
def Inv.tok (I:Inv X pins σ H s) (t:Nat):Inv X pins σ H { s with toks:=t }:=I.un (h':=s.heap) (t':=t) Un.refl I.hok
def Inv.kept {t':Nat} (I:Inv X pins σ H s) (k:∀ b u,s.heap.get? b=some u->h'.get? b=some u):Inv X pins σ H { s with heap:=h',toks:=t' }:=I.un (Un.kept k) (I.hok.kept k)
def Inv.laid {a:Ad} {o:HO} {t':Nat} (I:Inv X pins σ H s) (k:∀ b u,s.heap.get? b=some u->h'.get? b=some u) (hp:s.heap.objs.size<=a) (new:ObjOk X.prog X.w (upd H a o) h' a o) :
  Inv X pins σ (upd H a o) { s with heap:=h',toks:=t' }:=I.un (Un.laid k hp (I.hok.fresh hp)) (I.hok.laid k hp new)
def Inv.write {x e:Ad} {o:HO} {t':Nat} (I:Inv X pins σ H s) (mu:Mut (H x)) (he:e=x∨H e=some (.own x)) (k:∀ b u,b≠e->s.heap.get? b=some u->h'.get? b=some u) (heo:∃ u,h'.get? e=some u)
  (new:ObjOk X.prog X.w (upd H x o) h' x o):Inv X pins σ (upd H x o) { s with heap:=h',toks:=t' }:=I.un (Un.write mu he k heo) (I.hok.write mu he k heo new)
def Inv.pins_of {pins':Jc} (I:Inv X pins σ H s) (h:∀ p∈pins',s.heap.get? p.1=some p.2/\H p.1=none/\p.1≠X.env.locals/\p.1 ∉ X.fs/\∀ v,p.2.data≠.cell v):Inv X pins' σ H s :=
 ⟨I.ok,I.os,I.bare,I.base,I.loc,I.cell,I.free,I.freeC,λp hp=>(List.mem_append.mp hp).elim (λz=>I.pin p (List.mem_append_left _ z)) (h p),I.hok,I.len⟩
def zdf {N:Jf} (hN:N.Nodup) {i j:Nat} {x:Str} (a:N[i]?=some x) (b:N[j]?=some x):i=j:=by
 obtain ⟨h1,e1⟩:=List.getElem?_eq_some_iff.mp a;obtain ⟨h2,e2⟩:=List.getElem?_eq_some_iff.mp b;exact (List.getElem_inj hN).mp (e1.trans e2.symm)
def Y0 {M:Model} {A:Around} {E:Ja} {i:Nat} {x:Str} {v:V} {u:Vl} {Q:Unit->Sh->Prop} (I:Inv X pins σ H s) (hN:X.N.Nodup) (hi:X.N[i]?=some x) (hx:Loc X.env.scope x) (r:RelV v u)
  (h:∀ s',Inv X pins (σ.set i (some v)) H s'->(∃ a,Heap.SameBut a s.heap s'.heap/\(a=X.env.locals∨X.env.cells.lookup x=some a))->Q () s') (hf:X.fn x=true∨X.env.scope.names.lookup x=some .local:=by first | exact .inl rfl | exact .inr rfl | assumption):wpAny M A (storeName X.env x u) Q E s:=by
 obtain ⟨m,hn,hl⟩:=id I.loc;have hcls:(X.env.scope.kind == .class || (X.env.scope.kind == .module && X.env.locals != X.env.globals))=false:=by rw [I.ok.kind];rfl
 have hiσ:i<σ.length:=by rw [I.len];exact (List.getElem?_eq_some_iff.mp hi).1
 have cne:=I.cne
 have tracked:∀ {a:Ad} {h':Heap},(∃ o,s.heap.get? a=some o/\H a=none)->Heap.SameBut a s.heap h'->HOk X.prog X.w H h':=λ{a h'} ha hs b ob e=>by
  obtain ⟨_,_,hfree⟩:=ha;refine (I.hok b ob e).stay (λc w' hc q=>(hs.2 c ?_).trans q) (λ_ q=>q) λ_ _ q=>q;rintro rfl;rcases hc with rfl | hc
  ·rw [hfree] at e;cases e
  ·rw [hfree] at hc;cases hc
 rcases hx with hk | hk
 ·refine wpAny_storeName_local hk hn (λh' hn' hs=>?_) hcls
  obtain ⟨oL,_,_,hoL,_⟩:=id hn;refine h _ ⟨I.ok,I.os,I.bare,⟨λb o e n hb hx=>?_,λb o e n hb hx=>?_,I.base.free,λb o e hx=>?_,I.base.tups,I.base.frzs,I.base.tbls⟩,⟨_,hn',λj y v' e1 e2 e3=>?_⟩,λy c e=>?_,I.free,I.freeC,λp hp=>?_,tracked ⟨oL,hoL,I.free⟩ hs,by simpa using I.len⟩ ⟨_,hs,.inl rfl⟩
  ·exact (hs.2 b (Nat.ne_of_lt (q2z (Heap.lt_size e) I.ok.above))).trans (I.base.keep b o e n hb hx)
  ·obtain ⟨sl,e1⟩:=I.base.slot b o e n hb hx
   exact ⟨sl,(hs.2 b (Nat.ne_of_lt (q2z (Heap.lt_size e) I.ok.above))).trans e1⟩
  ·obtain ⟨o',e1⟩:=I.base.there b o e hx
   exact ⟨o',(hs.2 b (Nat.ne_of_lt (q2z (Heap.lt_size e) I.ok.above))).trans e1⟩
  ·by_cases hj:j=i
   ·subst hj
    rw [hi] at e1;cases e1;rw [q3z hiσ] at e2;cases e2;exact ⟨u,r,.inl ⟨hk,by simp⟩⟩
   ·rw [List.getElem?_set_ne (Ne.symm hj)] at e2
    obtain ⟨u',r',q⟩:=hl j y v' e1 e2 e3;refine ⟨u',r',?_⟩;rcases q with ⟨k,e⟩ | ⟨k,c,e,z⟩
    ·refine .inl ⟨k,?_⟩
     have:y≠x:=λe=>hj (zdf hN e1 (e ▸ hi));simp [this,e]
    ·exact .inr ⟨k,c,e,z.sameBut hs (cne y c e)⟩
  ·obtain ⟨w',z⟩:=I.cell y c e
   exact ⟨w',z.sameBut hs (cne y c e)⟩
  ·obtain ⟨e,n,ne,nf,d⟩:=I.pin p hp
   exact ⟨(hs.2 p.1 ne).trans e,n,ne,nf,d⟩
 ·have hfn:X.fn x=true:=by
   rcases hf with z | z
   ·exact z
   ·rw [z] at hk;cases hk
  obtain ⟨c,hc⟩:=I.ok.has x (.inl hk);obtain ⟨w',z⟩:=I.cell x c hc;refine wpAny_storeName_cell I.ok.kind hk hc z (λh' hc' hs=>?_);obtain ⟨oc,hoc,hocd⟩:=id z;refine h { s with heap:=h' } ⟨I.ok,I.os,I.bare,⟨λb o e n hb hx=>?_,λb o e n hb hx=>?_,I.base.free,λb o e hx=>?_,I.base.tups,I.base.frzs,I.base.tbls⟩,⟨m,hn.sameBut hs (Ne.symm (cne x c hc)),λj y v' e1 e2 e3=>?_⟩,λy c' e=>?_,I.free,I.freeC,λp hp=>?_,tracked ⟨oc,hoc,I.freeC x c hc⟩ hs,by simpa using I.len⟩ ⟨c,hs,.inr hc⟩
  ·exact (hs.2 b (Nat.ne_of_lt (q2z (Heap.lt_size e) (I.ok.cab x c hfn hc)))).trans (I.base.keep b o e n hb hx)
  ·obtain ⟨sl,e1⟩:=I.base.slot b o e n hb hx
   exact ⟨sl,(hs.2 b (Nat.ne_of_lt (q2z (Heap.lt_size e) (I.ok.cab x c hfn hc)))).trans e1⟩
  ·obtain ⟨o',e1⟩:=I.base.there b o e hx
   exact ⟨o',(hs.2 b (Nat.ne_of_lt (q2z (Heap.lt_size e) (I.ok.cab x c hfn hc)))).trans e1⟩
  ·by_cases hj:j=i
   ·subst hj
    rw [hi] at e1;cases e1;rw [q3z hiσ] at e2;cases e2;exact ⟨u,r,.inr ⟨.inl hk,c,hc,hc'⟩⟩
   ·rw [List.getElem?_set_ne (Ne.symm hj)] at e2
    obtain ⟨u',r',q⟩:=hl j y v' e1 e2 e3;refine ⟨u',r',?_⟩;rcases q with q | ⟨k,c',e,z'⟩
    ·exact .inl q
    ·refine .inr ⟨k,c',e,z'.sameBut hs ?_⟩
     rintro rfl;exact hj (zdf hN e1 (I.ok.inj _ _ _ e hc ▸ hi))
  ·by_cases hcc:c'=c
   ·subst hcc;exact ⟨_,hc'⟩
   ·obtain ⟨w2,z2⟩:=I.cell y c' e
    exact ⟨w2,z2.sameBut hs hcc⟩
  ·obtain ⟨e,n,ne,nf,d⟩:=I.pin p hp
   refine ⟨(hs.2 p.1 ?_).trans e,n,ne,nf,d⟩;intro q;rw [q,hoc] at e;have q':oc=p.2:=Option.some.inj e;exact d w' (by rw [← q'];exact hocd)
def zcw {M:Model} {A:Around} {E:Ja} {i:Nat} {x:Str} {v:V} {u:Vl} {Q:Unit->Sh->Prop} (I:Inv X pins σ H s) (hN:X.N.Nodup) (hi:X.N[i]?=some x) (hx:Loc X.env.scope x) (r:RelV v u)
  (h:∀ s',Inv X pins (σ.set i (some v)) H s'->Q () s') (hf:X.fn x=true∨X.env.scope.names.lookup x=some .local:=by first | exact .inl rfl | exact .inr rfl | assumption):wpAny M A (storeName X.env x u) Q E s :=
 Y0 I hN hi hx r (λs' I' _=>h s' I') hf
def Inv.call' {s':Sh} {ch:Jg} (I:Inv X pins σ H s) (ho:s'.os=s.os) (u:Un (frs X.stack) ch H H' s.heap s'.heap) (hok:HOk X.prog X.w H' s'.heap) (hg:AllBare s'.gens)
  (hch:∀ b∈ch,(b∈X.ex∨X.s₀.heap.objs.size<=b)/\b≠X.env.locals/\(∀ x c,X.env.cells.lookup x=some c->c≠b)/\∀ p∈X.pn++pins,p.1≠b):Inv X pins σ H' s':=by
 obtain ⟨h',g',d',t',o'⟩:=s';have e:o'=s.os:=ho;subst e;exact I.call (g':=g') (t':=t') (d':=d') u hok hg hch
end
abbrev XK:=Vl->Option Ad->Hp->Prop
abbrev St:=List (Jo)
abbrev VK:=V->Hp->Prop
abbrev TE:=St->Hp->VK->Prop
abbrev TT:=St->Hp->(Bool->Hp->Prop)->Prop
abbrev TA:=St->Hp->(Jn->Hp->Prop)->Prop
structure Ends where
 nx:St->Hp->Prop
 rt:VK
 bk:St->Hp->Prop:=λ_ _=>False
 ct:St->Hp->Prop:=λ_ _=>False
abbrev TS:=Ends->St->Hp->Prop
def EP (X:Cx) (pins:Jc) (σ:St) (Q:VK) (u:Vl) (s':Sh):Prop:=∃ v H',Inv X pins σ H' s'/\RelV v u/\Q v H'
def TP (X:Cx) (pins:Jc) (σ:St) (Q:Bool->Hp->Prop) (b:Bool) (s':Sh):Prop:=∃ H',Inv X pins σ H' s'/\Q b H'
def AP (X:Cx) (pins:Jc) (σ:St) (Q:Jn->Hp->Prop) (us:Jd) (s':Sh):Prop:=∃ vs H',Inv X pins σ H' s'/\Vals vs us/\Q vs H'
def SP (X:Cx) (pins:Jc) (D:Ends) (f:Flow) (s':Sh):Prop :=
 match f with
 | .next=>∃ σ' H',Inv X pins σ' H' s'/\D.nx σ' H'
 | .brk=>∃ σ' H',Inv X pins σ' H' s'/\D.bk σ' H'
 | .cont=>∃ σ' H',Inv X pins σ' H' s'/\D.ct σ' H'
 | .ret u=>∃ v σ' H',Inv X pins σ' H' s'/\RelV v u/\D.rt v H'
def PE (X:Cx) (e:Expr) (t:TE):Prop :=
 ∀ (pins:Jc) (s:Sh) (σ:St) (H:Hp) (Q:VK),Inv X pins σ H s->t σ H Q->wpAny (model X.prog X.w) X.A (eval e X.env) (EP X pins σ Q) X.xe s
def PT (X:Cx) (e:Expr) (t:TT):Prop :=
 ∀ (pins:Jc) (s:Sh) (σ:St) (H:Hp) (Q:Bool->Hp->Prop),Inv X pins σ H s->t σ H Q->wpAny (model X.prog X.w) X.A (isTrue e X.env (eval e X.env)) (TP X pins σ Q) X.xe s
def PW (X:Cx) (e:Expr) (t:TT):Prop :=
 ∀ (whole:Sem Vl) (pins:Jc) (s:Sh) (σ:St) (H:Hp) (Q:Bool->Hp->Prop),Inv X pins σ H s->t σ H Q->wpAny (model X.prog X.w) X.A (isTrue e X.env whole) (TP X pins σ Q) X.xe s
def PW.pt {X:Cx} {e:Expr} {t:TT} (h:PW X e t):PT X e t:=h _
def PA (X:Cx) (es:Jh) (t:TA):Prop :=
 ∀ (pos:Pos) (pins:Jc) (s:Sh) (σ:St) (H:Hp) (Q:Jn->Hp->Prop),Inv X pins σ H s->t σ H Q->wpAny (model X.prog X.w) X.A (spliced (backTo pos (starEach es X.env))) (AP X pins σ Q) X.xe s
def PS (X:Cx) (st:Stmt) (t:TS):Prop :=
 ∀ (pins:Jc) (s:Sh) (σ:St) (H:Hp) (D:Ends),Inv X pins σ H s->t D σ H->wpAny (model X.prog X.w) X.A (exec st X.env) (SP X pins D) X.xe s
def PSs (X:Cx) (st:List Stmt) (t:TS):Prop :=
 ∀ (pins:Jc) (s:Sh) (σ:St) (H:Hp) (D:Ends),Inv X pins σ H s->t D σ H->wpAny (model X.prog X.w) X.A (execs st X.env) (SP X pins D) X.xe s
def thn {α:Type} {t:Sem α} {Q Q':α->Sh->Prop} {M:Model} {A:Around} {E:Ja} {s:Sh} (h:wpAny M A t Q E s) (hQ:∀ a s,Q a s->Q' a s):wpAny M A t Q' E s:=wpAny_mono h hQ λ_ _ x=>x
section
variable {X:Cx}
inductive tVar (i:Nat) (σ:St) (H:Hp) (Q:VK):Prop
 | mk (v:_) (_:σ[i]?=some (some v)) (_:Q v H)
def tC (v:V):TE:=λ_ H Q=>Q v H
def pe_var {i:Nat} {x:Str} {pos:Pos} (hN:X.N[i]?=some x) (hv:Vis X.env.scope x) (hd:(x == ("__debug__":Str))=false:=by decide) (hcd:(x == ("__classdict__":Str))=false:=by decide):PE X (.Name x pos) (tVar i):=by
 intro pins s σ H Q I h;obtain ⟨v,e,h⟩:=h;obtain ⟨m,hn,hl⟩:=I.loc;obtain ⟨u,r,l⟩:=hl i x v hN e hv;have fin:EP X pins σ Q u s:=⟨v,H,I,r,h⟩;rcases l with ⟨hk,hm⟩ | ⟨hk,c,hc,hcell⟩
 ·exact wpAny_Name (wpAny_loadName_local I.ok.kind hk hn hm fin) hd
 ·rcases hk with hk | hk
  ·exact wpAny_Name (wpAny_loadName_cell I.ok.kind hk hc hcell fin) hd
  ·exact wpAny_Name (wpAny_loadName_free I.ok.kind hk hc hcell fin hcd) hd
def ze {i j pos}:PE X (.Constant (.int i) j pos) (tC (.int i)):=λ_ _ _ H _ I h=>wpAny_Constant_int ⟨.int i,H,I.tok _,⟨_,rfl⟩,h⟩
def YK {b j pos}:PE X (.Constant (.bool b) j pos) (tC (.bl b)):=λ_ _ _ H _ I h=>Constant_bool ⟨.bl b,H,I,rfl,h⟩
def yE {j pos}:PE X (.Constant .none j pos) (tC .non):=λ_ _ _ H _ I h=>Constant_none ⟨.non,H,I,rfl,h⟩
def zK {x j pos}:PE X (.Constant (.str x) j pos) (tC (.str x)):=λ_ _ _ H _ I h=>Calls.Constant_str ⟨.str x,H,I.tok _,⟨_,rfl⟩,h⟩
def Gl (X:Cx) (x:Str):Prop:=X.env.kindOf x=some .globalImplicit
def Ya {E:Ja} {pins:Jc} {s:Sh} {σ:St} {H:Hp} {x:Str} {u:Vl} {pos:Pos} {Q:Ja} (I:Inv X pins σ H s) (hg:Gl X x) (hm:X.mg x=some u) (h:Q u s)
  (hd:(x == ("__debug__":Str))=false:=by decide):wpAny (model X.prog X.w) X.A (eval (.Name x pos) X.env) Q E s :=
 Calls.Name_function_global I.ok.kind hg (Calls.loadGlobal_global (by rw [I.ok.glob];exact I.mod.glob.keeps I.bk) hm h) hd
def Zc {E:Ja} {pins:Jc} {s:Sh} {σ:St} {H:Hp} {x:Str} {u:Vl} {pos:Pos} {Q:Ja} (I:Inv X pins σ H s) (hg:Gl X x) (hm:X.mg x=none) (hv:bootBuiltins x=some u) (h:Q u s)
  (hn:x≠"__name__":=by decide) (hd:(x == ("__debug__":Str))=false:=by decide):wpAny (model X.prog X.w) X.A (eval (.Name x pos) X.env) Q E s:=by
 obtain ⟨mb,h1,h2⟩:=I.mod.blt;exact Calls.Name_function_global I.ok.kind hg (Calls.loadGlobal_builtin (by rw [I.ok.glob];exact I.mod.glob.keeps I.bk) hm (by rw [I.ok.blt];exact h1.keeps I.bk) ((h2 x hn).trans hv) h) hd
def pe_glob {x:Str} {v:V} {u:Vl} {pos:Pos} (hg:Gl X x) (hm:X.mg x=some u) (r:RelV v u) (hd:(x == ("__debug__":Str))=false:=by decide):PE X (.Name x pos) (tC v) :=
 λ_ _ _ H _ I h=>Ya I hg hm ⟨v,H,I,r,h⟩ hd
def pe_bltn {x:Str} {v:V} {u:Vl} {pos:Pos} (hg:Gl X x) (hm:X.mg x=none) (hv:bootBuiltins x=some u) (r:RelV v u) (hn:x≠"__name__":=by decide) (hd:(x == ("__debug__":Str))=false:=by decide):PE X (.Name x pos) (tC v) :=
 λ_ _ _ H _ I h=>Zc I hg hm hv ⟨v,H,I,r,h⟩ hn hd
variable {a b:Expr} {ta tb:TE} {pos:Pos}
def PC (X:Cx) (op:CmpOp) (a b:Expr) (t:TE):Prop :=
 ∀ (pins:Jc) (s:Sh) (σ:St) (H:Hp) (Q:VK),Inv X pins σ H s->t σ H Q ->
  wpAny (model X.prog X.w) X.A (eval a X.env) (λv s₁=>wpAny (model X.prog X.w) X.A (eval b X.env) (λu s₂=>wpAny (model X.prog X.w) X.A (compareOp op v u) (EP X pins σ Q) X.xe s₂) X.xe s₁) X.xe s
def nobehind (b:Expr) {op:CmpOp} (h:op≠.In) (h2:op≠.NotIn):behindInMarks op b=false:=by
 have e1:(op == CmpOp.In)=false:=by cases op <;> first | rfl | exact absurd rfl h
 have e2:(op == CmpOp.NotIn)=false:=by cases op <;> first | rfl | exact absurd rfl h2
 cases b <;> simp [behindInMarks,e1,e2]
inductive tB_S (Q:(Bool->Hp->Prop)) (x:V) (H1:Hp):Prop
 | mk (c:_) (_:x=.bl c) (_:Q c H1)
def tB (t:TE):TT:=λσ H Q=>t σ H λx H1=>tB_S Q x H1
def pt_cmp {op:CmpOp} {t:TE} (h:PC X op a b t) (h1:behindInMarks op b=false:=by first | exact nobehind _ (by decide) (by decide) | rfl):PT X (.Compare a [op] [b] pos) (tB t):=by
 intro pins s σ H Q I hw;refine wpAny_isTrue_Compare1 (thn (h pins s σ H _ I hw) λv s1 h1=>thn h1 λu s2 h2=>thn h2 λc s3 ⟨x,H1,I1,r1,q1⟩=>?_) h1;obtain ⟨d,rfl,q⟩:=q1;cases r1;exact wpAny_truthy_bool ⟨H1,I1,q⟩
def Zu {e:Expr} {t:TE} (h:PE X e t) (he:∀ whole,isTrue e X.env whole=(do let v ← whole;standAt e.pos;holding [v] (truthy v)):=by intro _;rfl):PT X e (tB t):=by
 intro pins s σ H Q I hw;refine isTrue_plain (thn (h pins s σ H _ I hw) λv s1 ⟨x,H1,I1,r1,q1⟩=>?_) (he _);obtain ⟨d,rfl,q⟩:=q1;cases r1;exact wpAny_truthy_bool ⟨H1,I1,q⟩
variable {tA tB':TT} {rest:Jh}
def tAnd (t u:TT):TT:=λσ H Q=>t σ H λc H1=>if c=true then u σ H1 Q else Q false H1
def tNot (t:TT):TT:=λσ H Q=>t σ H λc H1=>Q (!c) H1
theorem YD (ha:PT X a tA):PW X (.BoolOp .And [a] pos) tA:=by
 intro wh pins s σ H Q I h;refine isTrue_and (thn (ha pins s σ H Q I h) λc s1 e=>?_)
 cases c with
 | true=>exact isTrue_and_nil e
 | false=>exact e
theorem X1 (ha:PT X a tA) (hb:PW X (.BoolOp .And (b::rest) pos) tB'):PW X (.BoolOp .And (a::b::rest) pos) (tAnd tA tB'):=by
 intro wh pins s σ H Q I h;refine isTrue_and (thn (ha pins s σ H _ I h) λc s1 ⟨H1,I1,q1⟩=>?_)
 cases c with
 | true=>exact hb wh pins s1 σ H1 Q I1 q1
 | false=>exact ⟨H1,I1,q1⟩
def Y5 (ha:PT X a tA):PT X (.UnaryOp .Not a pos) (tNot tA):=by
 intro pins s σ H Q I h;exact isTrue_not (ha pins s σ H (λc H1=>Q (!c) H1) I h)
inductive tAndV_S (tb:TE) (σ:St) (Q:VK) (x:V) (H1:Hp):Prop
 | mk (c:_) (_:x=.bl c) (_:if c=true then tb σ H1 Q else Q (.bl false) H1)
def tAndV (ta tb:TE):TE:=λσ H Q=>ta σ H λx H1=>tAndV_S tb σ Q x H1
inductive tNotV_S (Q:VK) (x:V) (H1:Hp):Prop
 | mk (c:_) (_:x=.bl c) (_:Q (.bl (!c)) H1)
def tNotV (ta:TE):TE:=λσ H Q=>ta σ H λx H1=>tNotV_S Q x H1
def pe_one {op} {t:TE} (h:PE X a t):PE X (.BoolOp op [a] pos) t:=λpins s σ H Q I hw=>BoolOp_one (h pins s σ H Q I hw)
theorem pe_and (ha:PE X a ta) (hb:PE X (.BoolOp .And (b::rest) pos) tb):PE X (.BoolOp .And (a::b::rest) pos) (tAndV ta tb):=by
 intro pins s σ H Q I h;refine BoolOp_and (thn (ha pins s σ H _ I h) λv s1 ⟨x,H1,I1,r1,q1⟩=>?_);obtain ⟨c,rfl,q1⟩:=q1;cases r1;refine wpAny_truthy_bool ?_
 cases c with
 | true=>exact hb pins s1 σ H1 Q I1 q1
 | false=>exact ⟨.bl false,H1,I1,rfl,q1⟩
def pe_not (ha:PE X a ta):PE X (.UnaryOp .Not a pos) (tNotV ta):=by
 intro pins s σ H Q I h;refine UnaryOp_ (thn (ha pins s σ H _ I h) λv s1 ⟨x,H1,I1,r1,q1⟩=>?_);obtain ⟨c,rfl,q1⟩:=q1;cases r1;exact not_of (wpAny_truthy_bool ⟨.bl (!c),H1,I1,rfl,q1⟩)
def tIf (t:TT) (ta tb:TE):TE:=λσ H Q=>t σ H λc H1=>if c=true then ta σ H1 Q else tb σ H1 Q
theorem zc9 {c:Expr} (hc:PT X c tA) (ha:PE X a ta) (hb:PE X b tb):PE X (.IfExp c a b pos) (tIf tA ta tb):=by
 intro pins s σ H Q I h;refine wpAny_IfExp (thn (hc pins s σ H _ I h) λd s1 ⟨H1,I1,q1⟩=>?_)
 cases d with
 | true=>exact ha pins s1 σ H1 Q I1 q1
 | false=>exact hb pins s1 σ H1 Q I1 q1
end
def SqL (K:Fg) (H:Hp) (a:Ad) (xs:Jn):Prop :=
 Rd H a (.lst xs) ∨
  ∃ (o:Obj) (its:Array Vl) (n:Nat),K.lookup a=some o/\o.cls=.type "list"/\o.dict=none/\o.data=.seq its n/\its.size<=sizeLine/\Vals xs its.toList
def SqT (K:Fg) (H:Hp) (a:Ad) (xs:Jn):Prop :=
 Rd H a (.tup xs) ∨
  ∃ (o:Obj) (its:Array Vl) (n:Nat),K.lookup a=some o/\o.cls=.type "tuple"/\o.data=.seq its n/\its.size<=sizeLine/\Vals xs its.toList
def absV:Vl->Jo
 | .none=>some .non
 | .bool b=>some (.bl b)
 | .int i _=>some (.int i)
 | .str x _=>some (.str x)
 | .bytes b _=>some (.byt b)
 | .float b _=>some (.flt b)
 | .ref a=>some (.ref a)
 | .type n=>some (.ty n)
 | _=>none
theorem RelV.abs {x:V} {u:Vl} (r:RelV x u):absV u=some x:=by
 cases x with
 | non=>cases r;rfl
 | bl _=>cases r;rfl
 | int _=>obtain ⟨t,rfl⟩:=r;rfl
 | str _=>obtain ⟨t,rfl⟩:=r;rfl
 | byt _=>obtain ⟨t,rfl⟩:=r;rfl
 | flt _=>obtain ⟨t,rfl⟩:=r;rfl
 | ref _=>cases r;rfl
 | ty _=>cases r;rfl
def RelV.inj {x y:V} {u:Vl} (r:RelV x u) (q:RelV y u):x=y:=Option.some.inj (r.abs.symm.trans q.abs)
theorem Vals.inj:∀ {xs ys:Jn} {us:Jd},Vals xs us->Vals ys us->xs=ys
 | _,_,_,.nil,.nil=>rfl
 | _,_,_,.cons r t,.cons r' t'=>by rw [r.inj r',Vals.inj t t']
section
variable {X:Cx} {pins:Jc} {σ:St} {H:Hp} {s:Sh} {a:Ad} {xs ys:Jn}
def SqL.of {K:Fg} (h:H a=some (.lst xs)):SqL K H a xs:=.inl (.inl h)
def SqT.of {K:Fg} (h:H a=some (.tup xs)):SqT K H a xs:=.inl (.inl h)
def Inv.list (I:Inv X pins σ H s) (h:SqL X.K H a xs):∃ its:Jd,Vals xs its/\PlainL s.heap a its.toArray/\xs.length<=sizeLine:=by
 rcases h with h | ⟨o,its,n,hk,hc,hd,hs,hz,r⟩
 ·obtain ⟨z,its,n,r,e⟩:=h.ok I.hok
  exact ⟨its,r,⟨_,n,e,rfl,rfl,rfl⟩,z⟩
 ·refine ⟨its.toList,r,⟨o,n,I.kIn a o hk,hc,hd,by simpa using hs⟩,?_⟩
  have e:=r.length;simp only [Array.length_toList] at e;omega
def Inv.tuple (I:Inv X pins σ H s) (h:SqT X.K H a xs):∃ its:Jd,Vals xs its/\IsTup s.heap a its.toArray/\xs.length<=sizeLine:=by
 rcases h with h | ⟨o,its,n,hk,hc,hs,hz,r⟩
 ·obtain ⟨z,its,r,p⟩:=h.ok I.hok
  exact ⟨its,r,p,z⟩
 ·refine ⟨its.toList,r,⟨o,I.kIn a o hk,hc,n,by simpa using hs⟩,?_⟩
  have e:=r.length;simp only [Array.length_toList] at e;omega
def Inv.list_inj (I:Inv X pins σ H s) (h:SqL X.K H a xs) (h':SqL X.K H a ys):xs=ys:=by
 obtain ⟨its,r,⟨o,n,e,_,_,d⟩,_⟩:=I.list h;obtain ⟨its',r',⟨o',n',e',_,_,d'⟩,_⟩:=I.list h';rw [e] at e';cases e';rw [d] at d';injection d' with d1 _
 have:its=its':=by simpa using congrArg Array.toList d1
 subst this;exact r.inj r'
def Inv.tuple_inj (I:Inv X pins σ H s) (h:SqT X.K H a xs) (h':SqT X.K H a ys):xs=ys:=by
 obtain ⟨its,r,⟨o,e,_,n,d⟩,_⟩:=I.tuple h;obtain ⟨its',r',⟨o',e',_,n',d'⟩,_⟩:=I.tuple h';rw [e] at e';cases e';rw [d] at d';injection d' with d1 _
 have:its=its':=by simpa using congrArg Array.toList d1
 subst this;exact r.inj r'
end
abbrev Cx.wish (X:Cx) (E:Ja):Cx:={ X with xe:=E }
abbrev Cx.nox (X:Cx):Cx:=X.wish λ_ _=>False
def Cx.Ok.wish {X:Cx} (ok:X.Ok) (E:Ja):(X.wish E).Ok :=
 ⟨ok.mod,ok.kind,ok.glob,ok.blt,ok.above,ok.inj,ok.has,ok.cab,ok.hd,ok.frames,ok.stk,ok.exf,ok.bs,ok.bsz,ok.noex,ok.exfs,ok.funs,ok.frf⟩
def Cx.Ok.unwish {X:Cx} {E:Ja} (ok:(X.wish E).Ok):X.Ok :=
 ⟨ok.mod,ok.kind,ok.glob,ok.blt,ok.above,ok.inj,ok.has,ok.cab,ok.hd,ok.frames,ok.stk,ok.exf,ok.bs,ok.bsz,ok.noex,ok.exfs,ok.funs,ok.frf⟩
section
variable {X:Cx} {pins:Jc} {σ:St} {H:Hp} {s:Sh} {E:Ja}
def Inv.wish (I:Inv X pins σ H s) (E:Ja):Inv (X.wish E) pins σ H s:=⟨I.ok.wish E,I.os,I.bare,I.base,I.loc,I.cell,I.free,I.freeC,I.pin,I.hok,I.len⟩
def Inv.unwish (I:Inv (X.wish E) pins σ H s):Inv X pins σ H s:=⟨I.ok.unwish,I.os,I.bare,I.base,I.loc,I.cell,I.free,I.freeC,I.pin,I.hok,I.len⟩
theorem SP.unwish {D:Ends} {f:Flow} {s':Sh} (h:SP (X.wish E) pins D f s'):SP X pins D f s':=by
 cases f with
 | next=>obtain ⟨σ',H',I,q⟩:=h;exact ⟨σ',H',I.unwish,q⟩
 | brk=>obtain ⟨σ',H',I,q⟩:=h;exact ⟨σ',H',I.unwish,q⟩
 | cont=>obtain ⟨σ',H',I,q⟩:=h;exact ⟨σ',H',I.unwish,q⟩
 | ret u=>obtain ⟨v,σ',H',I,r,q⟩:=h;exact ⟨v,σ',H',I.unwish,r,q⟩
def PSs.nox {st:List Stmt} {t:TS} (h:PSs X.nox st t):PSs X st t:=λpins s σ H D I hw =>
 wpAny_mono (h pins s σ H D (I.wish _) hw) (λ_ _ q=>q.unwish) λ_ _ z=>False.elim z
end
section
variable {X:Cx} {st:Stmt} {rest:List Stmt} {t u:TS} {e:Expr} {te:TE} {pos:Pos}
def tNext:TS:=λD σ H=>D.nx σ H
def tSeq (t u:TS):TS:=λD σ H=>t { D with nx:=u D } σ H
def zv:PSs X [] tNext:=λ_ _ σ H _ I h=>wpAny_execs_nil ⟨σ,H,I,h⟩
theorem zc (h1:PS X st t) (h2:PSs X rest u):PSs X (st::rest) (tSeq t u):=by
 intro pins s σ H D I h;refine wpAny_execs_cons (thn (h1 pins s σ H { D with nx:=u D } I h) λf s1 q=>?_)
 cases f with
 | next =>
  obtain ⟨σ',H',I',q⟩:=q;exact h2 pins s1 σ' H' D I' q
 | ret v=>exact q
 | brk=>exact q
 | cont=>exact q
theorem zg (h1:PS X st t):PSs X [st] t:=by
 intro pins s σ H D I h;refine wpAny_execs_cons (thn (h1 pins s σ H D I h) λf s1 q=>?_)
 cases f with
 | next=>exact wpAny_execs_nil q
 | ret v=>exact q
 | brk=>exact q
 | cont=>exact q
def tBreak:TS:=λD σ H=>D.bk σ H
def tCont:TS:=λD σ H=>D.ct σ H
def ps_break:PS X (.Break pos) tBreak:=λ_ _ σ H _ I h=>wpAny_Break ⟨σ,H,I,h⟩
def zc7:PS X (.Continue pos) tCont:=λ_ _ σ H _ I h=>wpAny_Continue ⟨σ,H,I,h⟩
def Inv.quiet {pins:Jc} {σ:St} {H:Hp} {s:Sh} (I:Inv X pins σ H s):interactive X.env=false:=by simp [interactive,I.ok.kind]
def tDrop (te:TE):TS:=λD σ H=>te σ H λ_ H1=>D.nx σ H1
def yf (he:PE X e te) (hs:swapsWith e none pos.line X.env=pure false:=by rfl):PS X (.Expr e pos) (tDrop te):=by
 intro pins s σ H D I h;exact wpAny_Expr_any (thn (he pins s σ H _ I h) λv s1 ⟨x,H1,I1,r1,q1⟩=>⟨σ,H1,I1,q1⟩) I.quiet hs
def tRet (te:TE):TS:=λD σ H=>te σ H D.rt
def zm (he:PE X e te):PS X (.Return (some e) pos) (tRet te):=by
 intro pins s σ H D I h;exact wpAny_Return_some (thn (he pins s σ H _ I h) λv s1 ⟨x,H1,I1,r1,q1⟩=>⟨x,σ,H1,I1,r1,q1⟩)
def tIfS (c:TT) (t u:TS):TS:=λD σ H=>c σ H λb H1=>if b=true then t D σ H1 else u D σ H1
theorem zQ {c:Expr} {a b:List Stmt} {tc:TT} (hc:PT X c tc) (ha:PSs X a t) (hb:PSs X b u):PS X (.If c a b pos) (tIfS tc t u):=by
 intro pins s σ H D I h;refine wpAny_If (thn (hc pins s σ H _ I h) λd s1 ⟨H1,I1,q1⟩=>?_)
 cases d with
 | true=>exact ha pins s1 σ H1 D I1 q1
 | false=>exact hb pins s1 σ H1 D I1 q1
end
abbrev TG:=V->St->Hp->(St->Hp->Prop)->Prop
abbrev TGs:=Jn->St->Hp->(St->Hp->Prop)->Prop
def PG (X:Cx) (target:Expr) (t:TG):Prop :=
 ∀ (pins:Jc) (s:Sh) (σ:St) (H:Hp) (v:V) (u:Vl) (Q:St->Hp->Prop),Inv X pins σ H s->RelV v u->t v σ H Q ->
  wpAny (model X.prog X.w) X.A (assign target X.env u) (λ_ s'=>∃ σ' H',Inv X pins σ' H' s'/\Q σ' H') X.xe s
def PGs (X:Cx) (ts:Jh) (t:TGs):Prop :=
 ∀ (pins:Jc) (s:Sh) (σ:St) (H:Hp) (vs:Jn) (us:Jd) (Q:St->Hp->Prop),Inv X pins σ H s->Vals vs us->t vs σ H Q ->
  wpAny (model X.prog X.w) X.A (assignInOrder ((assignEach ts X.env).map (·.2)) us) (λ_ s'=>∃ σ' H',Inv X pins σ' H' s'/\Q σ' H') X.xe s
abbrev TSet:=V->V->V->Hp->(Hp->Prop)->Prop
def PSet (X:Cx) (t:TSet):Prop :=
 ∀ (pins:Jc) (s:Sh) (σ:St) (H:Hp) (o i v:V) (ov iv u:Vl) (Q:Hp->Prop),Inv X pins σ H s->RelV o ov->RelV i iv->RelV v u->t o i v H Q ->
  wpAny (model X.prog X.w) X.A (setItem ov iv u) (λ_ s'=>∃ H',Inv X pins σ H' s'/\Q H') X.xe s
abbrev TIp:=V->V->Hp->VK->Prop
section
variable {X:Cx} {pos:Pos}
def Xr (i:Nat):TG:=λv σ H Q=>Q (σ.set i (some v)) H
def zC {i:Nat} {x:Str} (hN:X.N.Nodup) (hi:X.N[i]?=some x) (hx:Loc X.env.scope x) (hf:X.fn x=true∨X.env.scope.names.lookup x=some .local:=by first | exact .inl rfl | exact .inr rfl | assumption):PG X (.Name x pos) (Xr i):=by
 intro pins s σ H v u Q I r h;exact wpAny_assign_Name (zcw I hN hi hx r (λs' I'=>⟨_,H,I',h⟩) hf)
def gNil:TGs:=λvs σ H Q=>vs=[]/\Q σ H
inductive gCons (t:TG) (u:TGs) (vs:Jn) (σ:St) (H:Hp) (Q:(St->Hp->Prop)):Prop
 | mk (v r:_) (_:vs=v::r) (_:t v σ H λσ' H'=>u r σ' H' Q)
def YF:PGs X [] gNil:=by
 intro pins s σ H vs us Q I r h;obtain ⟨e,h⟩:=h;subst e;cases r;exact assignInOrder_nil ⟨σ,H,I,h⟩
theorem yI {e:Expr} {es:Jh} {t:TG} {u:TGs} (h1:PG X e t) (h2:PGs X es u)
  (hs:(assignEach (e::es) X.env).map (·.2)=assign e X.env::(assignEach es X.env).map (·.2):=by rfl):PGs X (e::es) (gCons t u):=by
 intro pins s σ H vs us Q I r h;obtain ⟨v,vr,e1,h⟩:=h;subst e1
 cases r with
 | cons r rr =>
  rw [hs];refine assignInOrder_cons (thn (h1 pins s σ H _ _ _ I r h) λ_ s1 ⟨σ1,H1,I1,q1⟩=>?_);exact h2 pins s1 σ1 H1 _ _ Q I1 rr q1
inductive gTup (K:Fg) (n:Nat) (t:TGs) (v:V) (σ:St) (H:Hp) (Q:(St->Hp->Prop)):Prop
 | mk (a xs:_) (_:v=.ref a) (_:SqT K H a xs) (_:xs.length=n) (_:t xs σ H Q)
def zb7 {es:Jh} {k:Nat} {t:TGs} {n:Nat} (hc:X.calm=true) (h:PGs X es t)
  (hn:(assignEach es X.env).length=n:=by rfl) (hst:(assignEach es X.env).findIdx? (·.1)=none:=by rfl):PG X (.Tuple es k pos) (gTup X.K n t):=by
 intro pins s σ H v u Q I r hw;obtain ⟨a,xs,e1,hq,hl,hw⟩:=hw;subst e1;cases r;obtain ⟨its,rv,ht,hz⟩:=I.tuple hq;refine assign_Tuple_tuple (I.ok.hd hc) ht (by simp [hn,← hl,rv.length]) hst λh' hx=>?_;have I1:Inv X pins σ H { s with heap:=h' }:=I.kept (t':=s.toks) λb o e=>hx b o (Nat.ne_of_lt (Heap.lt_size e)) e;exact h pins _ σ H xs _ Q I1 (by simpa using rv) hw
def gSub (to ti:TE) (t:TSet):TG:=λv σ H Q=>to σ H λo H1=>ti σ H1 λi H2=>t o i v H2 λH3=>Q σ H3
def Y8 {o i:Expr} {to ti:TE} {t:TSet} (ho:PE X o to) (hi:PE X i ti) (hs:PSet X t)
  (ha:∀ v,assign (.Subscript o i pos) X.env v=(do
   let ov ← holding [v] (eval o X.env);let iv ← holding [v,ov] (eval i X.env)
   standAt pos
   holding [v,ov,iv] (setItem ov iv v)
   release [v,ov,iv] []):=by intro _;rfl):PG X (.Subscript o i pos) (gSub to ti t):=by
 intro pins s σ H v u Q I r h;rw [ha];refine q0x (wpAny_holding (thn (ho pins s σ H _ I h) λov s1 ⟨x,H1,I1,r1,q1⟩=>?_));refine q0x (wpAny_holding (thn (hi pins s1 σ H1 _ I1 q1) λiv s2 ⟨y,H2,I2,r2,q2⟩=>?_));refine q0x (wpAny_standAt (q0x (wpAny_holding (thn (hs pins s2 σ H2 x y v ov iv u _ I2 r1 r2 r q2) λ_ s3 ⟨H3,I3,q3⟩=>?_))));exact wpAny_release ⟨σ,H3,I3,q3⟩
def tAsg (te:TE) (g:TG):TS:=λD σ H=>te σ H λx H1=>g x σ H1 D.nx
def Y6 {tg e:Expr} {te:TE} {g:TG} (he:PE X e te) (hg:PG X tg g) (hs:swapsWithSole [tg] e pos.line X.env=pure false:=by rfl) (hw:swappedStores [tg] e X.env=pure none:=by rfl)
  (h1:(assignEach [tg] X.env).map (·.2)=[assign tg X.env]:=by rfl):PS X (.Assign [tg] e pos) (tAsg te g):=by
 intro pins s σ H D I h;refine wpAny_Assign_stores (thn (he pins s σ H _ I h) λv s1 ⟨x,H1,I1,r1,q1⟩=>?_) hs hw;rw [h1];exact thn (hg pins s1 σ H1 x v _ I1 r1 q1) λ_ s2 q=>q
def zu {i:Nat} {x:Str} {e:Expr} {te:TE} {pos':Pos} (hN:X.N.Nodup) (hi:X.N[i]?=some x) (hx:Loc X.env.scope x) (he:PE X e te) (hs:swapsWith e (some (.Name x pos')) pos.line X.env=pure false:=by rfl) (hf:X.fn x=true∨X.env.scope.names.lookup x=some .local:=by first | exact .inl rfl | exact .inr rfl | assumption) :
  PS X (.Assign [.Name x pos'] e pos) (tAsg te (Xr i)):=by
 intro pins s σ H D I h;refine wpAny_Assign_Name (thn (he pins s σ H _ I h) λv s1 ⟨y,H1,I1,r1,q1⟩=>?_) hs;exact zcw I1 hN hi hx r1 (λs2 I2=>⟨_,H1,I2,q1⟩) hf
inductive tWhile (c:TT) (tb:TS) (D:Ends) (σ:St) (H:Hp):Prop
 | mk (W:Nat->St->Hp->Prop) (_:(∃ m,W m σ H)) (_:∀ m σ H,W m σ H->c σ H λb H1=>if b=true then ∃ N:St->Hp->Prop,(∀ σ' H',N σ' H'->∃ m',m'<m/\W m' σ' H')/\tb { D with nx:=N,ct:=N,bk:=D.nx } σ H1 else D.nx σ H1)
theorem ps_while {c:Expr} {body:List Stmt} {tc:TT} {tb:TS} (hp:PassesOwn (model X.prog X.w) X.A X.env X.xe) (hc:PT X c tc) (hb:PSs X body tb):PS X (.While c body [] pos) (tWhile tc tb):=by
 intro pins s σ H D I h;obtain ⟨W,⟨m0,w0⟩,turn⟩:=h;refine wpAny_While (codeAny_whileLoop (λn s'=>∃ σ' H',Inv X pins σ' H' s'/\W n σ' H') ?_ m0 ⟨σ,H,I,w0⟩);rintro n s1 ⟨σ1,H1,I1,w1⟩;refine wpAny_passesOwn hp (thn (hc pins s1 σ1 H1 _ I1 (turn n σ1 H1 w1)) λb s2 ⟨H2,I2,q2⟩=>?_)
 cases b with
 | true =>
  obtain ⟨N,hN,q2⟩:=q2;rw [if_pos rfl];refine wpAny_passesOwn hp (thn (hb pins s2 σ1 H2 _ I2 q2) λf s3 q3=>?_)
  cases f with
  | next =>
   obtain ⟨σ3,H3,I3,n3⟩:=q3;obtain ⟨m',hm,w3⟩:=hN σ3 H3 n3;exact ⟨m',hm,σ3,H3,I3,w3⟩
  | cont =>
   obtain ⟨σ3,H3,I3,n3⟩:=q3;obtain ⟨m',hm,w3⟩:=hN σ3 H3 n3;exact ⟨m',hm,σ3,H3,I3,w3⟩
  | brk=>exact q3
  | ret v=>exact q3
 | false =>
  rw [if_neg q2x];exact wpAny_execs_nil ⟨σ1,H2,I2,q2⟩
end
structure It where
 go:Nat->Hp->Prop
 yld:Nat->Hp->V->Hp->Prop
 stop:Nat->Hp->Prop
def Ze (X:Cx) (pins:Jc) (H:Hp) (b:Ad):Prop :=
 H b=none/\b≠X.env.locals/\b ∉ X.fs/\(b∈X.ex∨X.s₀.heap.objs.size<=b)/\(∀ x c,X.env.cells.lookup x=some c->c≠b)/\∀ p∈X.pn++pins,p.1≠b
def Inv.fpOk {X:Cx} {pins:Jc} {σ:St} {H H':Hp} {s:Sh} {b:Ad} (I:Inv X pins σ H s) (hb:s.heap.objs.size<=b) (hn:H' b=none):Ze X pins H' b:=by
 refine ⟨hn,Nat.ne_of_gt (q2z I.lt hb),I.nofs hb,.inr (Nat.le_trans I.sz hb),λx c e z=>?_,λp hp z=>?_⟩
 ·obtain ⟨v,q⟩:=I.cell x c e
  exact absurd (q2z q.lt (by rw [z];exact hb)) (Nat.lt_irrefl _)
 ·exact absurd (q2z (Heap.lt_size (I.pin p hp).1) (by rw [z];exact hb)) (Nat.lt_irrefl _)
structure Turn (P:Program) (w:World) (K:Fg) (tg:Expr) (J:It) (fp:Jg) (it:Ad) (tn:Nat->Heap->Prop):Prop where
 mem:it∈fp
 obj:∀ i h,tn i h->∀ b∈fp,∃ o,h.get? b=some o/\∀ v,o.data≠.cell v
 keep:∀ i h h',tn i h->(∀ b∈fp,∀ o,h.get? b=some o->h'.get? b=some o)->tn i h'
 item:∀ (X:Cx),X.prog=P->X.w=w->X.K=K->X.calm=true->∀ (i:Nat) (pins:Jc) (s:Sh) (σ:St) (H:Hp) (E:Ja),Inv X pins σ H s->(∀ b∈fp,Ze X pins H b)->tn i s.heap->J.go i H ->
  wpAny (model P w) X.A (pyNext (.ref it)) (λr s1=>∃ u,r=some u /\
   wpAny (model P w) X.A (letOwnedTupleGo tg (.ref it) u) (λ_ s2=>∃ x H',Inv X pins σ H' s2/\RelV x u/\J.yld i H x H'/\tn (i+1) s2.heap/\∀ b∈fp,H' b=none) E s1) E s
 done:∀ (X:Cx),X.prog=P->X.w=w->X.K=K->X.calm=true->∀ (i:Nat) (pins:Jc) (s:Sh) (σ:St) (H:Hp) (E:Ja),Inv X pins σ H s->(∀ b∈fp,Ze X pins H b)->tn i s.heap->J.stop i H ->
  wpAny (model P w) X.A (pyNext (.ref it)) (λr s1=>r=none/\Inv X pins σ H s1) E s
 self:∀ (A:Around) (i:Nat) (s:Sh) (Q:Ja) (E:Ja),tn i s.heap->Q (.ref it) s->wpAny (model P w) A (pyIter (.ref it)) Q E s
abbrev TI:=St->Hp->(It->Hp->Prop)->Prop
def PIE (X:Cx) (pins:Jc) (σ:St) (tg:Expr) (R:It->Hp->Prop) (itv:Vl) (s2:Sh):Prop :=
 ∃ (it:Ad) (fp:Jg) (tn:Nat->Heap->Prop) (J:It) (H':Hp),itv=.ref it/\Inv X pins σ H' s2/\Turn X.prog X.w X.K tg J fp it tn/\tn 0 s2.heap/\(∀ b∈fp,Ze X pins H' b)/\R J H'
def PI (X:Cx) (tg iter:Expr) (wi:TI):Prop :=
 ∀ (pins:Jc) (s:Sh) (σ:St) (H:Hp) (R:It->Hp->Prop),Inv X pins σ H s->wi σ H R ->
  wpAny (model X.prog X.w) X.A (eval iter X.env) (λv s1=>wpAny (model X.prog X.w) X.A (pyIter v) (PIE X pins σ tg R) X.xe s1) X.xe s
theorem go_of {M:Model} {A:Around} {E:Ja} {s:Sh} {tg:Expr} {it:Ad} {u:Vl} {o:Obj} {n:String} {vs:Array Vl} {Q:Unit->Sh->Prop} (ho:s.heap.get? it=some o) (hc:o.cls=.type n) (hd:o.data=.fields vs)
    (hn:["enumerate","zip","dict_itemiterator","dict_reverseitemiterator","odict_iterator","itertools.zip_longest","itertools.pairwise"].contains n=false) (hQ:Q () s):wpAny M A (letOwnedTupleGo tg (.ref it) u) Q E s:=by
  unfold letOwnedTupleGo;cases tg <;> first
    | exact q0y hQ
    | (cases u <;> first
        | exact q0y hQ
        | (refine q0x (wpAny_load ho ?_)
           rw [hc,hd];show wpAny M A (if (["enumerate","zip","dict_itemiterator","dict_reverseitemiterator","odict_iterator","itertools.zip_longest","itertools.pairwise"].contains n && vs[0]? == some (rawInt _))=true then _ else _) Q E s;rw [if_neg (by intro h;rw [hn,Bool.false_and] at h;cases h)];exact q0y hQ))
def Itl (K:Fg) (a:Ad):It :=
 ⟨λi H=>∃ xs x,SqL K H a xs/\xs[i]?=some x,λi H x H'=>H'=H/\∀ xs,SqL K H a xs->xs[i]?=some x,λi H=>∃ xs,SqL K H a xs/\xs.length<=i⟩
def Itt (K:Fg) (a:Ad):It :=
 ⟨λi H=>∃ xs x,SqT K H a xs/\xs[i]?=some x,λi H x H'=>H'=H/\∀ xs,SqT K H a xs->xs[i]?=some x,λi H=>∃ xs,SqT K H a xs/\xs.length<=i⟩
def Itr (lo:Int) (n:Nat):It:=⟨λi _=>i<n,λi H x H'=>H'=H/\x=.int (lo+i),λi _=>n<=i⟩
def turn_list {P:Program} {w:World} {K:Fg} {tg:Expr} (a it:Ad):Turn P w K tg (Itl K a) [it] it (λi h=>h.IsListIter it a i) where
 mem:=by simp
 obj:=λi h st b hb=>by
  have e:b=it:=by simpa using hb
  subst e;obtain ⟨o,e,c,d⟩:=st;exact ⟨o,e,λv z=>by rw [d] at z;cases z⟩
 keep:=λi h h' st k=>st.at λo e=>k it (by simp) o e
 item:=by
  intro X hP hw hK hc i pins s σ H E I hf st hg;subst hP hw hK;obtain ⟨xs,x,hq,hx⟩:=hg;obtain ⟨its,rv,p,hz⟩:=I.list hq;obtain ⟨u,hu,ru⟩:=rv.get hx;obtain ⟨f0,f1,f2,f3,f4,f5⟩:=hf it (by simp);refine wpAny_pyNext_list_item st p.isList (x:=u) (by simpa using hu) λh' st' sb=>?_;have I1:Inv X pins σ H { s with heap:=h' }:=I.turned (t':=s.toks) (λb o hb e=>(sb.2 b hb).trans e) f0 f1 f3 f4 f5;obtain ⟨o,e,c,d⟩:=id st';exact ⟨u,rfl,go_of (s:={ s with heap:=h' }) e c d (by decide) ⟨x,H,I1,ru,⟨rfl,λys hy=>by rw [I.list_inj hy hq];exact hx⟩,st',λb hb=>(hf b hb).1⟩⟩
 done:=by
  intro X hP hw hK hc i pins s σ H E I hf st hg;subst hP hw hK;obtain ⟨xs,hq,hx⟩:=hg;obtain ⟨its,rv,p,hz⟩:=I.list hq;obtain ⟨f0,f1,f2,f3,f4,f5⟩:=hf it (by simp);have hl:=rv.length;exact wpAny_pyNext_list_end (I.ok.hd hc) st p.isList (by simp;omega) λh' eb=>⟨rfl,I.turned (t':=s.toks) (λb o hb e=>eb b o hb e) f0 f1 f3 f4 f5⟩
 self:=λ_ _ _ _ _ st h=>wpAny_pyIter_listiter st h
def zdz {P:Program} {w:World} {K:Fg} {tg:Expr} (it:Ad) (lo:Int) (n:Nat):Turn P w K tg (Itr lo n) [it] it (λi h=>IsRangeIter h it (lo+(i:Nat)*1) ((n:Int)-(i:Nat)) 1) where
 mem:=by simp
 obj:=λi h st b hb=>by
  have e:b=it:=by simpa using hb
  subst e
  exact ⟨_,st,λv z=>by
   have z':Data.fields _=Data.cell v:=z;cases z'⟩
 keep:=λi h h' st k=>k it (by simp) _ st
 item:=by
  intro X hP hw hK hc i pins s σ H E I hf st hg;subst hP hw hK;obtain ⟨f0,f1,f2,f3,f4,f5⟩:=hf it (by simp);have W:=Walks.range (prog:=X.prog) (w:=X.w) (I.ok.hd hc) it lo 1 n;refine W.item i s _ _ hg st λv h' tk hv st' kk=>?_;obtain ⟨t,rfl⟩:=hv;have I1:Inv X pins σ H { s with heap:=h',toks:=tk }:=I.turned (λb o hb e=>kk b o (by simpa using hb) e) f0 f1 f3 f4 f5;refine ⟨_,rfl,go_of (s:={ s with heap:=h',toks:=tk }) (n:="range_iterator") st' rfl rfl (by decide) ⟨.int (lo+i),H,I1,⟨t,?_⟩,⟨rfl,rfl⟩,st',λb hb=>(hf b hb).1⟩⟩;rw [Int.mul_one]
 done:=by
  intro X hP hw hK hc i pins s σ H E I hf st hg;subst hP hw hK;obtain ⟨f0,f1,f2,f3,f4,f5⟩:=hf it (by simp);exact wpAny_pyNext_range_end (I.ok.hd hc) st (by have:n<=i:=hg;omega) λh' eb=>⟨rfl,I.turned (t':=s.toks) (λb o hb e=>eb b o hb e) f0 f1 f3 f4 f5⟩
 self:=λ_ _ _ _ _ st h=>wpAny_pyIter_rangeiter st h
section
variable {X:Cx} {tg:Expr}
inductive iList_S (K:Fg) (R:(It->Hp->Prop)) (x:V) (H1:Hp):Prop
 | mk (a:_) (_:x=.ref a) (_:(∃ xs,SqL K H1 a xs)) (_:R (Itl K a) H1)
def iList (K:Fg) (tl:TE):TI:=λσ H R=>tl σ H λx H1=>iList_S K R x H1
def Z6 {l:Expr} {tl:TE} (hl:PE X l tl):PI X tg l (iList X.K tl):=by
 intro pins s σ H R I h;refine thn (hl pins s σ H _ I h) λv s1 ⟨x,H1,I1,r1,q1⟩=>?_;obtain ⟨a,e,⟨xs,hq⟩,q⟩:=q1;subst e;cases r1;obtain ⟨its,rv,p,hz⟩:=I1.list hq;refine wpAny_pyIter_list p.isList ?_;refine ⟨s1.heap.objs.size,[s1.heap.objs.size],_,_,H1,rfl,I1.kept (t':=s1.toks) λb o e=>Heap.get?_push_of_some _ e,turn_list a _,⟨_,Heap.get?_push_size _ rfl,rfl,rfl⟩,λb hb=>?_,q⟩;have e:b=s1.heap.objs.size:=by simpa using hb
 subst e;exact I1.fpOk (Nat.le_refl _) (I1.hok.fresh (Nat.le_refl _))
def zc5 {pins:Jc} {σ:St} {H:Hp} {s:Sh} {R:It->Hp->Prop} {E:Ja} {lo hi:Int} {t u v:Tok} {tk:Nat} (I:Inv X pins σ H s) (h1:-(2 ^ 62)<=lo) (h2:lo<2 ^ 62) (h3:-(2 ^ 62)<=hi) (h4:hi<2 ^ 62)
  (q:R (Itr lo (hi-lo).toNat) H):wpAny (model X.prog X.w) X.A (pyIter (.ref s.heap.objs.size)) (PIE X pins σ tg R) E { s with heap:=s.heap.push { cls:=.type "range",data:=.fields #[.int lo t,.int hi u,.int 1 v] },toks:=tk }:=by
 refine wpAny_pyIter_range (IsRange.new ..) (small_one h1 h2 h3 h4) ?_;have I1:Inv X pins σ H { s with heap:=s.heap.push { cls:=.type "range",data:=.fields #[.int lo t,.int hi u,.int 1 v] },toks:=tk }:=I.kept λb o e=>Heap.get?_push_of_some _ e
 refine ⟨(s.heap.push { cls:=.type "range",data:=.fields #[.int lo t,.int hi u,.int 1 v] }).objs.size,[(s.heap.push { cls:=.type "range",data:=.fields #[.int lo t,.int hi u,.int 1 v] }).objs.size],_,_,H,rfl,
  I1.kept (t':=tk) λb o e=>Heap.get?_push_of_some _ e,zdz _ lo (hi-lo).toNat,?_,λb hb=>?_,q⟩
 ·have e1:lo+((0:Nat):Int)*1=lo:=by simp
  have e2:(((hi-lo).toNat:Nat):Int)-((0:Nat):Int)=Builtin.Range.rangeSize lo hi 1:=by rw [rangeSize_one];split <;> omega
  show IsRangeIter _ _ (lo+((0:Nat):Int)*1) ((((hi-lo).toNat:Nat):Int)-((0:Nat):Int)) 1;rw [e1,e2];exact Heap.get?_push_size _ rfl
 ·have e:b=(s.heap.push { cls:=.type "range",data:=.fields #[.int lo t,.int hi u,.int 1 v] }).objs.size:=by simpa using hb
  subst e;exact I1.fpOk (Nat.le_refl _) (I1.hok.fresh (Nat.le_refl _))
inductive iRng1_S (R:(It->Hp->Prop)) (vs:Jn) (H1:Hp):Prop
 | mk (j:Int) (_:vs=[.int j]) (_:-(2 ^ 62)<=j) (_:j<2 ^ 62) (_:R (Itr 0 j.toNat) H1)
def iRng1 (ta:TA):TI:=λσ H R=>ta σ H λvs H1=>iRng1_S R vs H1
inductive iRng2_S (R:(It->Hp->Prop)) (vs:Jn) (H1:Hp):Prop
 | mk (i j:Int) (_:vs=[.int i,.int j]) (_:(-(2 ^ 62)<=i/\i<2 ^ 62/\-(2 ^ 62)<=j/\j<2 ^ 62)) (_:R (Itr i (j-i).toNat) H1)
def iRng2 (ta:TA):TI:=λσ H R=>ta σ H λvs H1=>iRng2_S R vs H1
theorem zU {a:Expr} {ta:TA} {p pos:Pos} (hg:Gl X "range") (hm:X.mg "range"=none) (ha:PA X [a] ta) (hs:starEach [a] X.env=[(false,eval a X.env)]:=by rfl):PI X tg (.Call (.Name "range" p) [a] [] pos) (iRng1 ta):=by
 intro pins s σ H R I h;refine Call_ (Zc I hg hm boot_range (PyProof.Rows.callWith_type1 (thn (ha pos pins s σ H _ I h) λus s1 ⟨vs,H1,I1,r1,q1⟩=>?_) hs rfl));obtain ⟨j,e,q1,q2,q⟩:=q1;subst e
 cases r1 with
 | cons r rr =>
  cases rr;obtain ⟨t,rfl⟩:=r;exact call_range_1 (zc5 I1 (by omega) (by omega) q1 q2 (by simpa using q))
theorem za2 {a b:Expr} {ta:TA} {p pos:Pos} (hg:Gl X "range") (hm:X.mg "range"=none) (ha:PA X [a,b] ta) (hs:starEach [a,b] X.env=[(false,eval a X.env),(false,eval b X.env)]:=by rfl) (hs2:starEach [b] X.env=[(false,eval b X.env)]:=by rfl) :
  PI X tg (.Call (.Name "range" p) [a,b] [] pos) (iRng2 ta):=by
 intro pins s σ H R I h;refine Call_ (Zc I hg hm boot_range (PyProof.Rows.callWith_type1 (thn (ha pos pins s σ H _ I h) λus s1 ⟨vs,H1,I1,r1,q1⟩=>?_) (by rw [hs,hs2]) (by rw [hs2];rfl)));obtain ⟨i,j,e,⟨q1,q2,q3,q4⟩,q⟩:=q1;subst e
 cases r1 with
 | cons r rr =>
  cases rr with
  | cons r' rr =>
   cases rr;obtain ⟨t,rfl⟩:=r;obtain ⟨t',rfl⟩:=r';exact call_range_2 (zc5 I1 q1 q2 q3 q4 q)
inductive tFor_S (g:TG) (tb:TS) (D:Ends) (σ:St) (J:It) (H1:Hp):Prop
 | mk (W:Nat->Nat->St->Hp->Prop) (_:(∃ m,W 0 m σ H1)) (_:∀ i m σ H,W i m σ H->(J.stop i H/\D.nx σ H)∨(J.go i H/\∃ N:St->Hp->Prop,(∀ σ' H',N σ' H'->∃ m',m'<m/\W (i+1) m' σ' H')/\∀ x H',J.yld i H x H'->g x σ H' λσ2 H2=>tb { D with nx:=N,ct:=N,bk:=D.nx } σ2 H2))
def tFor (wi:TI) (g:TG) (tb:TS):TS:=λD σ H=>wi σ H λJ H1=>tFor_S g tb D σ J H1
def Y7 (fp:Jg) (h:Heap):Jc:=fp.filterMap λb=>(h.get? b).map λo=>(b,o)
def yL {fp:Jg} {h:Heap} {b:Ad} {o:Obj} (hb:b∈fp) (e:h.get? b=some o):(b,o)∈Y7 fp h:=List.mem_filterMap.mpr ⟨b,hb,by rw [e];rfl⟩
theorem of_pinsAt {fp:Jg} {h:Heap} {p:Ad×Obj} (hp:p∈Y7 fp h):p.1∈fp/\h.get? p.1=some p.2:=by
 obtain ⟨b,hb,e⟩:=List.mem_filterMap.mp hp
 cases q:h.get? b with
 | none=>rw [q] at e;cases e
 | some o =>
  rw [q] at e;have e':(b,o)=p:=Option.some.inj e;subst e';exact ⟨hb,q⟩
def Inv.pinned {pins:Jc} {σ:St} {H:Hp} {s:Sh} {fp:Jg} (I:Inv X pins σ H s) (hf:∀ b∈fp,Ze X pins H b) (ho:∀ b∈fp,∃ o,s.heap.get? b=some o/\∀ v,o.data≠.cell v):Inv X (pins++Y7 fp s.heap) σ H s :=
 I.pins_of λp hp=>(List.mem_append.mp hp).elim (λz=>I.pin p (q2y _ z)) λz=>by
  obtain ⟨hb,e⟩:=of_pinsAt z;obtain ⟨f0,f1,f2,_⟩:=hf p.1 hb;obtain ⟨o,e',d⟩:=ho p.1 hb;rw [e] at e';cases e';exact ⟨e,f0,f1,f2,d⟩
def Inv.unpinned {pins pl:Jc} {σ:St} {H:Hp} {s:Sh} (I:Inv X (pins++pl) σ H s):Inv X pins σ H s:=I.pins_of λp hp=>I.pin p (q2y _ (List.mem_append_left _ hp))
theorem xr {iter:Expr} {body:List Stmt} {wi:TI} {g:TG} {tb:TS} {pos:Pos} (hp:PassesOwn (model X.prog X.w) X.A X.env X.xe) (hc:X.calm=true) (hi:PI X tg iter wi) (hg:PG X tg g) (hb:PSs X body tb)
  (hs:∀ x,foldedSetIterable iter X.env x=pure x:=by intro _;rfl):PS X (.For tg iter body [] pos) (tFor wi g tb):=by
 intro pins s σ H D I h;refine wpAny_For (thn (hi pins s σ H _ I h) λv s1 h1=>thn h1 λitv s2 h2=>?_) hs;obtain ⟨it,fp,tn,J,H2,e,I2,T,st2,f2,W,⟨m0,w0⟩,turn⟩:=h2;subst e;have stat:∀ {H':Hp},(∀ b∈fp,H' b=none)->∀ b∈fp,Ze X pins H' b:=λhn b hb=>⟨hn b hb,(f2 b hb).2⟩;refine codeAny_forLoop_any (λn s'=>∃ i σ' H',Inv X pins σ' H' s'/\tn i s'.heap/\(∀ b∈fp,H' b=none)/\W i n σ' H') ?_ m0 ⟨0,σ,H2,I2,st2,λb hb=>(f2 b hb).1,w0⟩;rintro n s3 ⟨i,σ3,H3,I3,st3,fr3,w3⟩;rcases turn i n σ3 H3 w3 with ⟨stop,qn⟩ | ⟨go,N,hN,step⟩
 ·refine wpAny_passesOwn hp (thn (T.done X rfl rfl rfl hc i pins s3 σ3 H3 X.xe I3 (stat fr3) st3 stop) λr s4 ⟨hr,I4⟩=>?_)
  subst hr;exact wpAny_execs_nil ⟨σ3,H3,I4,qn⟩
 ·refine wpAny_passesOwn hp (thn (T.item X rfl rfl rfl hc i pins s3 σ3 H3 X.xe I3 (stat fr3) st3 go) λr s4 ⟨u,hr,h4⟩=>?_)
  subst hr;refine wpAny_passesOwn hp (thn h4 λ_ s5 ⟨x,H5,I5,r5,y5,st5,fr5⟩=>?_);have I5':=I5.pinned (stat fr5) (T.obj _ _ st5);refine wpAny_passesOwn hp (thn (hg _ s5 σ3 H5 x u _ I5' r5 (step x H5 y5)) λ_ s6 ⟨σ6,H6,I6,q6⟩=>?_);refine wpAny_passesOwn hp (thn (hb _ s6 σ6 H6 _ I6 q6) λf s7 q7=>?_)
  have again:∀ {σ7:St} {H7:Hp},Inv X (pins++Y7 fp s5.heap) σ7 H7 s7->N σ7 H7->∃ m,m<n/\∃ i σ' H',Inv X pins σ' H' s7/\tn i s7.heap/\(∀ b∈fp,H' b=none)/\W i m σ' H':=λ{σ7 H7} I7 n7=>by
   obtain ⟨m',hm,w7⟩:=hN σ7 H7 n7;refine ⟨m',hm,i+1,σ7,H7,I7.unpinned,T.keep _ _ _ st5 λb hb o e=>(I7.pin (b,o) (q2y _ (q2y _ (yL hb e)))).1,λb hb=>?_,w7⟩;obtain ⟨o,e,d⟩:=T.obj _ _ st5 b hb;exact (I7.pin (b,o) (q2y _ (q2y _ (yL hb e)))).2.1
  cases f with
  | next=>obtain ⟨σ7,H7,I7,n7⟩:=q7;exact again I7 n7
  | cont=>obtain ⟨σ7,H7,I7,n7⟩:=q7;exact again I7 n7
  | brk=>obtain ⟨σ7,H7,I7,q7⟩:=q7;exact ⟨σ7,H7,I7.unpinned,q7⟩
  | ret v=>obtain ⟨x7,σ7,H7,I7,r7,q7⟩:=q7;exact ⟨x7,σ7,H7,I7.unpinned,r7,q7⟩
end
def for_list {K:Fg} {a:Ad} {xs:Jn} {g:TG} {tb:TS} {D:Ends} {σ:St} {H:Hp} (Pv:Nat->St->Hp->Prop) (h0:Pv 0 σ H) (hl:∀ i σ H,i<=xs.length->Pv i σ H->SqL K H a xs)
  (hs:∀ i x σ H,xs[i]?=some x->Pv i σ H->g x σ H λσ2 H2=>tb { D with nx:=Pv (i+1),ct:=Pv (i+1),bk:=D.nx } σ2 H2) (hd:∀ σ H,Pv xs.length σ H->D.nx σ H) :
  tFor_S g tb D σ (Itl K a) H:=by
 refine ⟨λi m σ H=>m=xs.length-i/\i<=xs.length/\Pv i σ H,⟨xs.length,by simp,Nat.zero_le _,h0⟩,?_⟩;rintro i m σ H ⟨rfl,hi,p⟩;have q:=hl i σ H hi p;by_cases hlt:i<xs.length
 ·refine .inr ⟨⟨xs,xs[i],q,by simp [hlt]⟩,Pv (i+1),λσ' H' p'=>⟨xs.length-(i+1),by omega,rfl,hlt,p'⟩,λx H' y=>?_⟩
  obtain ⟨e,y⟩:=y;subst e;exact hs i x σ _ (y xs q) p
 ·have e:i=xs.length:=by omega
  subst e;exact .inl ⟨⟨xs,q,Nat.le_refl _⟩,hd σ H p⟩
def xh {lo:Int} {n:Nat} {g:TG} {tb:TS} {D:Ends} {σ:St} {H:Hp} (Pv:Nat->St->Hp->Prop) (h0:Pv 0 σ H)
  (hs:∀ i σ H,i<n->Pv i σ H->g (.int (lo+i)) σ H λσ2 H2=>tb { D with nx:=Pv (i+1),ct:=Pv (i+1),bk:=D.nx } σ2 H2) (hd:∀ σ H,Pv n σ H->D.nx σ H) :
  tFor_S g tb D σ (Itr lo n) H:=by
 refine ⟨λi m σ H=>m=n-i/\i<=n/\Pv i σ H,⟨n,by simp,Nat.zero_le _,h0⟩,?_⟩;rintro i m σ H ⟨rfl,hi,p⟩;by_cases hlt:i<n
 ·refine .inr ⟨hlt,Pv (i+1),λσ' H' p'=>⟨n-(i+1),by omega,rfl,hlt,p'⟩,λx H' y=>?_⟩
  obtain ⟨e,y⟩:=y;subst e y;exact hs i σ _ hlt p
 ·have e:i=n:=by omega
  subst e;exact .inl ⟨Nat.le_refl _,hd σ H p⟩
abbrev R2:=V->V->Hp->VK->Prop
def OpR (X:Cx) (f:Vl->Vl->Sem Vl) (r:R2):Prop :=
 ∀ (pins:Jc) (s:Sh) (σ:St) (H:Hp) (x y:V) (v u:Vl) (Q:VK),Inv X pins σ H s->RelV x v->RelV y u->r x y H Q ->
  wpAny (model X.prog X.w) X.A (f v u) (EP X pins σ Q) X.xe s
def UnR (X:Cx) (f:Vl->Sem Vl) (r:V->Hp->VK->Prop):Prop :=
 ∀ (pins:Jc) (s:Sh) (σ:St) (H:Hp) (x:V) (v:Vl) (Q:VK),Inv X pins σ H s->RelV x v->r x H Q ->
  wpAny (model X.prog X.w) X.A (f v) (EP X pins σ Q) X.xe s
def xq (X:Cx) (f:Vl) (r:Jn->Hp->VK->Prop):Prop :=
 ∀ (pins:Jc) (s:Sh) (σ:St) (H:Hp) (xs:Jn) (us:Jd) (Q:VK),Inv X pins σ H s->Vals xs us->r xs H Q ->
  wpAny (model X.prog X.w) X.A (call f us) (EP X pins σ Q) X.xe s
def tOp (r:R2) (ta tb:TE):TE:=λσ H Q=>ta σ H λx H1=>tb σ H1 λy H2=>r x y H2 Q
def tUn (r:V->Hp->VK->Prop) (ta:TE):TE:=λσ H Q=>ta σ H λx H1=>r x H1 Q
inductive rI (C:Int->Int->Prop) (g:Int->Int->V) (x y:V) (H:Hp) (Q:VK):Prop
 | mk (i j:_) (_:x=.int i) (_:y=.int j) (_:C i j) (_:Q (g i j) H)
inductive rI0 (g:Int->Int->V) (x y:V) (H:Hp) (Q:VK):Prop
 | mk (i j:_) (_:x=.int i) (_:y=.int j) (_:Q (g i j) H)
inductive rU (g:Int->V) (x:V) (H:Hp) (Q:VK):Prop
 | mk (i:_) (_:x=.int i) (_:Q (g i) H)
section
variable {X:Cx} {a b c:Expr} {ta tb tc:TE} {pos:Pos}
def binT (ha:PE X a ta) (hb:PE X b tb) {pins:Jc} {s:Sh} {σ:St} {H:Hp} {R:V->V->Hp->Prop} (I:Inv X pins σ H s)
  (h:ta σ H λx H1=>tb σ H1 λy H2=>R x y H2) {Q:Ja} {f:Vl->Vl->Sem Vl}
  (hf:∀ v u s2 x y H2,Inv X pins σ H2 s2->RelV x v->RelV y u->R x y H2->wpAny (model X.prog X.w) X.A (f v u) Q X.xe s2) :
  wpAny (model X.prog X.w) X.A (eval a X.env) (λv s₁=>wpAny (model X.prog X.w) X.A (eval b X.env) (λu s₂=>wpAny (model X.prog X.w) X.A (f v u) Q X.xe s₂) X.xe s₁) X.xe s:=by
 refine thn (ha pins s σ H _ I h) λv s1 ⟨x,H1,I1,r1,q1⟩=>?_;refine thn (hb pins s1 σ H1 _ I1 q1) λu s2 ⟨y,H2,I2,r2,q2⟩=>?_;exact hf v u s2 x y H2 I2 r1 r2 q2
def zk {op:Operator} {r:R2} (ho:OpR X (binaryOp op) r) (ha:PE X a ta) (hb:PE X b tb):PE X (.BinOp a op b pos) (tOp r ta tb):=by
 intro pins s σ H Q I h;exact wpAny_BinOp (binT ha hb I h λv u s2 x y H2 I2 rx ry q=>ho pins s2 σ H2 x y v u Q I2 rx ry q)
def pe_un {op:UnaryOp} {r:V->Hp->VK->Prop} (ho:UnR X (unaryOp op) r) (ha:PE X a ta):PE X (.UnaryOp op a pos) (tUn r ta):=by
 intro pins s σ H Q I h;exact UnaryOp_ (thn (ha pins s σ H _ I h) λv s1 ⟨x,H1,I1,r1,q1⟩=>ho pins s1 σ H1 x v Q I1 r1 q1)
def opI {f:Vl->Vl->Sem Vl} {C:Int->Int->Prop} {g:Int->Int->Int}
  (rule:∀ (i j:Int) (t u:Tok) (s:Sh) (Q:Ja) (E:Ja),C i j->Q (.int (g i j) s.toks) { s with toks:=s.toks+1 }->wpAny (model X.prog X.w) X.A (f (.int i t) (.int j u)) Q E s) :
  OpR X f (rI C λi j=>.int (g i j)):=by
 intro pins s σ H x y v u Q I rx ry h;obtain ⟨i,j,rfl,rfl,hc,q⟩:=h;obtain ⟨t,rfl⟩:=rx;obtain ⟨t',rfl⟩:=ry;exact rule i j t t' s _ _ hc ⟨.int (g i j),H,I.tok _,⟨_,rfl⟩,q⟩
def opI0 {f:Vl->Vl->Sem Vl} {g:Int->Int->Int}
  (rule:∀ (i j:Int) (t u:Tok) (s:Sh) (Q:Ja) (E:Ja),Q (.int (g i j) s.toks) { s with toks:=s.toks+1 }->wpAny (model X.prog X.w) X.A (f (.int i t) (.int j u)) Q E s) :
  OpR X f (rI0 λi j=>.int (g i j)):=by
 intro pins s σ H x y v u Q I rx ry h;obtain ⟨i,j,rfl,rfl,q⟩:=h;obtain ⟨t,rfl⟩:=rx;obtain ⟨t',rfl⟩:=ry;exact rule i j t t' s _ _ ⟨.int (g i j),H,I.tok _,⟨_,rfl⟩,q⟩
def opB0 {f:Vl->Vl->Sem Vl} {g:Int->Int->Bool}
  (rule:∀ (i j:Int) (t u:Tok) (s:Sh) (Q:Ja) (E:Ja),Q (.bool (g i j)) s->wpAny (model X.prog X.w) X.A (f (.int i t) (.int j u)) Q E s) :
  OpR X f (rI0 λi j=>.bl (g i j)):=by
 intro pins s σ H x y v u Q I rx ry h;obtain ⟨i,j,rfl,rfl,q⟩:=h;obtain ⟨t,rfl⟩:=rx;obtain ⟨t',rfl⟩:=ry;exact rule i j t t' s _ _ ⟨.bl (g i j),H,I,rfl,q⟩
def CDiv (i j:Int):Prop:=0<j/\j<1073741824
def CMul (i j:Int):Prop:=(-(2 ^ 64)<i/\i<2 ^ 64)∨(-(2 ^ 64)<j/\j<2 ^ 64)
def CMul.ok {i j:Int} (h:CMul i j):IntMulOk i j:=by
 rcases h with ⟨h1,h2⟩ | ⟨h1,h2⟩
 ·exact .of_left (intBits_le_64 h1 h2)
 ·exact .of_right (intBits_le_64 h1 h2)
def zF:OpR X (binaryOp .Add) (rI0 λi j=>.int (i+j)):=opI0 λ_ _ _ _ _ _ _ q=>add_int q
def xJ:OpR X (binaryOp .Sub) (rI0 λi j=>.int (i-j)):=opI0 λ_ _ _ _ _ _ _ q=>sub_int q
def yb:OpR X (binaryOp .Mult) (rI CMul λi j=>.int (i*j)):=opI λ_ _ _ _ _ _ _ hc q=>mul_int q hc.ok
def zca:OpR X (binaryOp .FloorDiv) (rI CDiv λi j=>.int (i / j)):=opI λi j _ _ _ _ _ hc q=>by
 have h1:(0:Int)<j:=hc.1;have h2:j<1073741824:=hc.2;exact floordiv_int (by omega) (by rw [Int.fdiv_eq_ediv_of_nonneg i (by omega)];exact q) (.inl (PyProof.noPylong_small (by omega)))
def yK:OpR X (binaryOp .Mod) (rI (λ_ j=>0<j) λi j=>.int (i % j)):=opI λi j _ _ _ _ _ hc q=>by
 have h1:(0:Int)<j:=hc;exact mod_int' (by omega) (by rw [Int.fmod_eq_emod_of_nonneg i (by omega)];exact q)
def op_modN:OpR X (binaryOp .Mod) (rI (λ_ j=>j≠0) λi j=>.int (i.fmod j)):=opI λ_ _ _ _ _ _ _ hc q=>mod_int' hc q
def op_and:OpR X (binaryOp .BitAnd) (rI0 λi j=>.int (Builtin.bitAnd i j)):=opI0 λ_ _ _ _ _ _ _ q=>and_int q
def op_or:OpR X (binaryOp .BitOr) (rI0 λi j=>.int (Builtin.bitOr i j)):=opI0 λ_ _ _ _ _ _ _ q=>or_int q
def op_xor:OpR X (binaryOp .BitXor) (rI0 λi j=>.int (Builtin.bitXor i j)):=opI0 λ_ _ _ _ _ _ _ q=>xor_int q
def unI {f:Vl->Sem Vl} {g:Int->Int}
  (rule:∀ (i:Int) (t:Tok) (s:Sh) (Q:Ja) (E:Ja),Q (.int (g i) s.toks) { s with toks:=s.toks+1 }->wpAny (model X.prog X.w) X.A (f (.int i t)) Q E s) :
  UnR X f (rU λi=>.int (g i)):=by
 intro pins s σ H x v Q I rx h;obtain ⟨i,rfl,q⟩:=h;obtain ⟨t,rfl⟩:=rx;exact rule i t s _ _ ⟨.int (g i),H,I.tok _,⟨_,rfl⟩,q⟩
def un_neg:UnR X (unaryOp .USub) (rU λi=>.int (-i)):=unI λ_ _ _ _ _ q=>neg_int q
end
def scal:V->V->Bool
 | .non,.non=>true | .non,.int _=>true | .int _,.non=>true | .non,.bl _=>true | .bl _,.non=>true | .non,.str _=>true | .str _,.non=>true
 | .int _,.int _=>true | .bl _,.bl _=>true | .str _,.str _=>true | .byt _,.byt _=>true
 | .int _,.str _=>true | .str _,.int _=>true | .bl _,.str _=>true | .str _,.bl _=>true
 | _,_=>false
def rEq:R2:=λx y H Q=>scal x y=true/\Q (.bl (decide (x=y))) H
def rNe:R2:=λx y H Q=>scal x y=true/\Q (.bl (!decide (x=y))) H
def dec_int {i j:Int}:decide (V.int i=V.int j)=(i == j):=by
 rw [Bool.eq_iff_iff];simp
def dec_bl {i j:Bool}:decide (V.bl i=V.bl j)=(i == j):=by
 rw [Bool.eq_iff_iff];simp
def dec_str {i j:Str}:decide (V.str i=V.str j)=(i == j):=by
 rw [Bool.eq_iff_iff];simp
def dec_byt {i j:Array UInt8}:decide (V.byt i=V.byt j)=(i.toList == j.toList):=by
 rw [Bool.eq_iff_iff];cases i;cases j;simp
section
variable {X:Cx} {a b c:Expr} {ta tb tc:TE} {pos:Pos}
def zS {pins:Jc} {σ:St} {H:Hp} {s:Sh} {Q:VK} {k k':Bool} (I:Inv X pins σ H s) (q:Q (.bl k) H) (e:k=k'):EP X pins σ Q (.bool k') s:=by
 subst e;exact ⟨.bl k,H,I,rfl,q⟩
theorem yo:OpR X (compareOp .Eq) rEq:=by
 intro pins s σ H x y v u Q I rx ry h;obtain ⟨hs,q⟩:=h
 cases x with
 | non =>
  cases rx
  cases y with
  | non=>cases ry;exact PySem.EqNone.eq_none_none (zS I q (by simp))
  | bl j=>cases ry;exact PySem.EqNone.eq_none_bool (zS I q (by simp))
  | int j=>obtain ⟨t',rfl⟩:=ry;exact PySem.EqNone.eq_none_int (zS I q (by simp))
  | str j=>obtain ⟨t',rfl⟩:=ry;exact PySem.EqNone.eq_none_str (zS I q (by simp))
  | _=>exact absurd (show false=true from hs) q2x
 | bl i =>
  cases rx
  cases y with
  | non=>cases ry;exact PySem.EqNone.eq_bool_none (zS I q (by simp))
  | bl j=>cases ry;exact eq_bool (zS I q dec_bl)
  | str j=>obtain ⟨t',rfl⟩:=ry;exact PySem.EqMixed.eq_bool_str (zS I q (by simp))
  | _=>exact absurd (show false=true from hs) q2x
 | int i =>
  obtain ⟨t,rfl⟩:=rx
  cases y with
  | non=>cases ry;exact PySem.EqNone.eq_int_none (zS I q (by simp))
  | int j=>obtain ⟨t',rfl⟩:=ry;exact eq_int (zS I q dec_int)
  | str j=>obtain ⟨t',rfl⟩:=ry;exact PySem.EqMixed.eq_int_str (zS I q (by simp))
  | _=>exact absurd (show false=true from hs) q2x
 | str i =>
  obtain ⟨t,rfl⟩:=rx
  cases y with
  | non=>cases ry;exact PySem.EqNone.eq_str_none (zS I q (by simp))
  | bl j=>cases ry;exact PySem.EqMixed.eq_str_bool (zS I q (by simp))
  | int j=>obtain ⟨t',rfl⟩:=ry;exact PySem.EqMixed.eq_str_int (zS I q (by simp))
  | str j=>obtain ⟨t',rfl⟩:=ry;exact eq_str (zS I q dec_str)
  | _=>exact absurd (show false=true from hs) q2x
 | byt i =>
  obtain ⟨t,rfl⟩:=rx
  cases y with
  | byt j=>obtain ⟨t',rfl⟩:=ry;exact PySem.W.eq_bytes (zS I q dec_byt)
  | _=>exact absurd (show false=true from hs) q2x
 | _=>cases y <;> exact absurd (show false=true from hs) q2x
theorem op_ne:OpR X (compareOp .NotEq) rNe:=by
 intro pins s σ H x y v u Q I rx ry h;obtain ⟨hs,q⟩:=h
 cases x with
 | non =>
  cases rx
  cases y with
  | non=>cases ry;exact PySem.EqNone.ne_none_none (zS I q (by simp))
  | bl j=>cases ry;exact PySem.EqNone.ne_none_bool (zS I q (by simp))
  | int j=>obtain ⟨t',rfl⟩:=ry;exact PySem.EqNone.ne_none_int (zS I q (by simp))
  | str j=>obtain ⟨t',rfl⟩:=ry;exact PySem.EqNone.ne_none_str (zS I q (by simp))
  | _=>exact absurd (show false=true from hs) q2x
 | bl i =>
  cases rx
  cases y with
  | non=>cases ry;exact PySem.EqNone.ne_bool_none (zS I q (by simp))
  | bl j=>cases ry;exact ne_bool (zS I q (congrArg not dec_bl))
  | str j=>obtain ⟨t',rfl⟩:=ry;exact PySem.EqMixed.ne_bool_str (zS I q (by simp))
  | _=>exact absurd (show false=true from hs) q2x
 | int i =>
  obtain ⟨t,rfl⟩:=rx
  cases y with
  | non=>cases ry;exact PySem.EqNone.ne_int_none (zS I q (by simp))
  | int j=>obtain ⟨t',rfl⟩:=ry;exact ne_int (zS I q (congrArg not dec_int))
  | str j=>obtain ⟨t',rfl⟩:=ry;exact PySem.EqMixed.ne_int_str (zS I q (by simp))
  | _=>exact absurd (show false=true from hs) q2x
 | str i =>
  obtain ⟨t,rfl⟩:=rx
  cases y with
  | non=>cases ry;exact PySem.EqNone.ne_str_none (zS I q (by simp))
  | bl j=>cases ry;exact PySem.EqMixed.ne_str_bool (zS I q (by simp))
  | int j=>obtain ⟨t',rfl⟩:=ry;exact PySem.EqMixed.ne_str_int (zS I q (by simp))
  | str j=>obtain ⟨t',rfl⟩:=ry;exact ne_str (zS I q (congrArg not dec_str))
  | _=>exact absurd (show false=true from hs) q2x
 | byt i =>
  obtain ⟨t,rfl⟩:=rx
  cases y with
  | byt j=>obtain ⟨t',rfl⟩:=ry;exact PySem.W.ne_bytes (zS I q (congrArg not dec_byt))
  | _=>exact absurd (show false=true from hs) q2x
 | _=>cases y <;> exact absurd (show false=true from hs) q2x
def Yi:OpR X (compareOp .Lt) (rI0 λi j=>.bl (decide (i<j))):=opB0 λ_ _ _ _ _ _ _ q=>lt_int q
def op_le:OpR X (compareOp .LtE) (rI0 λi j=>.bl (decide (i<=j))):=opB0 λ_ _ _ _ _ _ _ q=>le_int q
def op_gt:OpR X (compareOp .Gt) (rI0 λi j=>.bl (decide (j<i))):=opB0 λ_ _ _ _ _ _ _ q=>gt_int q
theorem zb9:OpR X (compareOp .Is) (λx y H Q=>y=.non/\Q (.bl (decide (x=.non))) H):=by
 intro pins s σ H x y v u Q I rx ry h;obtain ⟨rfl,q⟩:=h;cases ry;refine is_none_gen (zS I q ?_);cases x <;> first
  | (cases rx;rfl)
  | (obtain ⟨t,rfl⟩:=rx;rfl)
theorem op_notN:OpR X (compareOp .IsNot) (λx y H Q=>y=.non/\Q (.bl (!decide (x=.non))) H):=by
 intro pins s σ H x y v u Q I rx ry h;obtain ⟨rfl,q⟩:=h;cases ry;refine isnot_none_gen (zS I q ?_);cases x <;> first
  | (cases rx;rfl)
  | (obtain ⟨t,rfl⟩:=rx;rfl)
def zG (b:Expr) {op:CmpOp} (h:op≠.In:=by decide) (h2:op≠.NotIn:=by decide):behindInMarks op b=false:=by
 have e1:(op == CmpOp.In)=false:=by cases op <;> first | rfl | exact absurd rfl h
 have e2:(op == CmpOp.NotIn)=false:=by cases op <;> first | rfl | exact absurd rfl h2
 cases b <;> simp [behindInMarks,e1,e2]
def Zp {op:CmpOp} {r:R2} (ho:OpR X (compareOp op) r) (ha:PE X a ta) (hb:PE X b tb) (hm:behindInMarks op b=false):PE X (.Compare a [op] [b] pos) (tOp r ta tb):=by
 intro pins s σ H Q I h;exact wpAny_Compare1 (binT ha hb I h λv u s2 x y H2 I2 rx ry q=>ho pins s2 σ H2 x y v u Q I2 rx ry q) hm
inductive tTest_S (Q:(Bool->Hp->Prop)) (x:V) (H':Hp):Prop
 | mk (k:_) (_:x=.bl k) (_:Q k H')
def tTest (t:TE):TT:=λσ H Q=>t σ H λx H'=>tTest_S Q x H'
def zB {op:CmpOp} {r:R2} (ho:OpR X (compareOp op) r) (ha:PE X a ta) (hb:PE X b tb) (hm:behindInMarks op b=false):PT X (.Compare a [op] [b] pos) (tTest (tOp r ta tb)):=by
 intro pins s σ H Q I h
 refine wpAny_isTrue_Compare1 (thn (ha pins s σ H _ I h) λv s1 ⟨x,H1,I1,r1,q1⟩=>thn (hb pins s1 σ H1 _ I1 q1) λu s2 ⟨y,H2,I2,r2,q2⟩ =>
  thn (ho pins s2 σ H2 x y v u _ I2 r1 r2 q2) λc s3 ⟨z,H3,I3,r3,k,e,q3⟩=>?_) hm
 subst e;cases r3;exact wpAny_truthy_bool ⟨H3,I3,q3⟩
def tChain (r r':R2) (ta tb tc:TE):TE:=λσ H Q=>ta σ H λx H1=>tb σ H1 λy H2=>r x y H2 λz H3=>∃ k,z=.bl k /\
 (if k=true then tc σ H3 λw' H4=>r' y w' H4 Q else Q (.bl false) H3)
theorem YE {op op':CmpOp} {r r':R2} (ho:OpR X (compareOp op) r) (ho':OpR X (compareOp op') r') (ha:PE X a ta) (hb:PE X b tb) (hc:PE X c tc)
  (hm:lastMarks [op,op'] [b,c]=false:=by with_unfolding_all rfl):PT X (.Compare a [op,op'] [b,c] pos) (tTest (tChain r r' ta tb tc)):=by
 intro pins s σ H Q I h
 refine isTrue_chain (thn (ha pins s σ H _ I h) λv s1 ⟨x,H1,I1,r1,q1⟩=>test_link (thn (hb pins s1 σ H1 _ I1 q1) λu s2 ⟨y,H2,I2,r2,q2⟩ =>
  thn (ho pins s2 σ H2 x y v u _ I2 r1 r2 q2) λd s3 ⟨z,H3,I3,r3,k,e,q3⟩=>?_)) hm
 subst e;cases r3;refine wpAny_truthy_bool ?_
 cases k with
 | false =>
  obtain ⟨k',e',q'⟩:=q3;cases e';exact ite_ff ⟨H3,I3,q'⟩
 | true =>
  refine ite_tt (test_last (thn (hc pins s3 σ H3 _ I3 q3) λw' s4 ⟨z',H4,I4,r4,q4⟩=>thn (ho' pins s4 σ H4 y z' u w' _ I4 r2 r4 q4) λd' s5 ⟨z2,H5,I5,r5,k2,e2,q5⟩=>?_));subst e2;cases r5;exact wpAny_truthy_bool ⟨H5,I5,q5⟩
def zce:(sizeLine:Nat)<2 ^ 63:=by rw [sizeLine_eq];decide
theorem Yu {x:V} {us:Jd} (r:Vals [x] us):∃ u,us=[u]/\RelV x u:=by
 cases r with
 | cons r1 r2=>cases r2;exact ⟨_,rfl,r1⟩
theorem XO {x y:V} {us:Jd} (r:Vals [x,y] us):∃ u w',us=[u,w']/\RelV x u/\RelV y w':=by
 cases r with
 | cons r1 r2 =>
  cases r2 with
  | cons r3 r4=>cases r4;exact ⟨_,_,rfl,r1,r3⟩
def zbk (hc:X.calm=true):xq X (.builtin "max") (λxs H Q=>∃ i j,xs=[.int i,.int j]/\Q (.int (if j > i then j else i)) H):=by
 intro pins s σ H xs us Q I r h;obtain ⟨i,j,rfl,q⟩:=h;obtain ⟨u,w',rfl,⟨t,rfl⟩,⟨t',rfl⟩⟩:=XO r;refine max_two_ints (I.ok.hd hc) λh' tk k=>⟨_,H,I.kept k,?_,q⟩;by_cases hj:j > i
 ·rw [if_pos hj,if_pos hj];exact ⟨_,rfl⟩
 ·rw [if_neg hj,if_neg hj];exact ⟨_,rfl⟩
def ZE (hc:X.calm=true):xq X (.builtin "min") (λxs H Q=>∃ i j,xs=[.int i,.int j]/\Q (.int (if j<i then j else i)) H):=by
 intro pins s σ H xs us Q I r h;obtain ⟨i,j,rfl,q⟩:=h;obtain ⟨u,w',rfl,⟨t,rfl⟩,⟨t',rfl⟩⟩:=XO r;refine min_two_ints (I.ok.hd hc) λh' tk k=>⟨_,H,I.kept k,?_,q⟩;by_cases hj:j<i
 ·rw [if_pos hj,if_pos hj];exact ⟨_,rfl⟩
 ·rw [if_neg hj,if_neg hj];exact ⟨_,rfl⟩
def zbl:xq X (.type "int") (λxs H Q=>(∃ i,xs=[.int i]/\Q (.int i) H)∨∃ k,xs=[.bl k]/\Q (.int (if k then 1 else 0)) H):=by
 intro pins s σ H xs us Q I r h;rcases h with ⟨i,rfl,q⟩ | ⟨k,rfl,q⟩
 ·obtain ⟨u,rfl,t,rfl⟩:=Yu r
  exact call_int_int ⟨.int i,H,I,⟨_,rfl⟩,q⟩
 ·obtain ⟨u,rfl,r1⟩:=Yu r
  cases r1;exact call_int_bool ⟨.int (if k then 1 else 0),H,I.tok _,⟨_,rfl⟩,q⟩
end
structure ObjM (h:Heap) (x dx C:Ad) (mA:J0):Prop where
 obj:h.get? x=some (PySem.W.instObj C dx)
 ns:h.Ns1 dx mA
 ne:dx≠x
def lookIn_ns {h:Heap} {dx:Ad} {mA:J0} (n:h.Ns1 dx mA):∃ od,h.get? dx=some od/\∀ name,PySem.W.lookIn name od=some (mA name):=by
 obtain ⟨o,es,ep,ho,hd,hk,_,hm⟩:=n;refine ⟨o,ho,λname=>?_⟩;have e:=hm name;unfold nsFind findBy at e;rw [← Array.find?_toList] at e;unfold PySem.W.lookIn;rw [hd];dsimp only
 split
 ·rename_i y q
  rw [q] at e;exact congrArg some e
 ·rename_i q
  rw [q] at e
  have a:es.toList.any (·.refKey)=false:=by
   rw [List.any_eq_false];intro y hy;obtain ⟨z,t,hkey⟩:=hk y (Array.mem_toList_iff.mp hy);simp [DictEntry.refKey,hkey]
  have a':¬ es.toList.any (·.refKey)=true:=by rw [a];exact q2x
  rw [if_neg a'];exact congrArg some e
def ObjM.look {h:Heap} {x dx C:Ad} {mA:J0} (I:ObjM h x dx C mA):∃ od,PySem.W.InstAt h x (PySem.W.instObj C dx) C (some od)/\∀ name,PySem.W.lookIn name od=some (mA name) :=
 let ⟨od,ho,hl⟩:=lookIn_ns I.ns
 ⟨od,⟨I.obj,rfl,rfl,ho⟩,hl⟩
section
variable {prog:Program} {w:World} {A:Around} {E:Ja} {s:Sh} {K:Fg} {x dx C f:Ad} {mA:J0} {name:Str} {v:Vl}
def get_map {expr:Bool} {Q:Ja} (X:K.In s.heap) (I:ObjM s.heap x dx C mA) (hg:PySem.W.plainGet K C name=true) (hh:PySem.W.hasDictIn K C=true)
  (ha:PySem.W.findIn K (.ref C) name=some none) (hv:mA name=some v) (hv':PySem.W.handedIn v=true) (h:Q v { s with toks:=s.toks+1 }) :
  wpAny (model prog w) A (getAttr (.ref x) name expr) Q E s:=by
 obtain ⟨od,J,hl⟩:=I.look;exact PySem.W.get_value X J (PySem.W.plainGet_of hg).1 (PySem.W.findObj_own hh ha rfl (by rw [hl,hv])) hv' h
def get_meth {pl:Sem Bool} {Q:Vl×Jd->Sh->Prop} (X:K.In s.heap) (I:ObjM s.heap x dx C mA) (hg:PySem.W.plainGet K C name=true)
  (hf:PySem.W.findIn K (.ref C) name=some (some (.ref f))) (ht:PySem.W.isFn K (.ref f)=true) (hv:mA name=none) (h:Q (.ref f,[.ref x]) s) :
  wpAny (model prog w) A (getMethod (.ref x) name pl) Q E s:=by
 obtain ⟨od,J,hl⟩:=I.look;exact PySem.W.method_fn X J (PySem.W.plainGet_of hg).1 (PySem.W.plainGet_of hg).2 hf (beq_iff_eq.mp ht) (by show (PySem.W.lookIn name od).map (·.isSome)=some false;rw [hl,hv];rfl) h
def set_map {ns:Jf} {Q:Unit->Sh->Prop} (X:K.In s.heap) (I:ObjM s.heap x dx C mA)
  (hs:PySem.W.findIn K (.ref C) "__setattr__"=some (some (.builtin "object.__setattr__"))) (hp:PySem.W.plainOver K C=true) (ht:PySem.W.takerIn K C name=some none) (hh:PySem.W.hasDictIn K C=true)
  (hw:PySem.Within mA ns) (hsz:ns.length<=sizeLine)
  (h:∀ h',ObjM h' x dx C (λy=>if y=name then some v else mA y)->Heap.SameBut dx s.heap h'->Q () { s with heap:=h',toks:=s.toks+2 }) :
  wpAny (model prog w) A (setAttr (.ref x) name v) Q E s:=by
 obtain ⟨od,J,hl⟩:=I.look;refine PySem.W.set_plain X J hs (PySem.W.osa_open (s:={ s with toks:=s.toks+1 }) (r:=none) X J hp ht λb=>?_);obtain ⟨cd,hc,hd'⟩:=PySem.W.any_some hh;have hx:s.heap.get? x=some ⟨.ref C,some dx,.plain,#[]⟩:=I.obj;refine q0x (q0y (q0x (q0x (wpAny_loadPart hx (q0x (PySem.W.Looks.here (s:={ s with toks:=s.toks+1 }) (PySem.W.looks_clsIn X hc) ?_))))));rw [hd'];refine q0y (a:=some dx) (q0x (q0y (q0x ?_)));refine wpAny_nsSet1 (s:={ s with toks:=s.toks+1 }) I.ns λh' hn2 hs2=>?_;obtain ⟨oD,esD,epD,hoD,hdD,hcD⟩:=hn2.count (PySem.Within.cons name v hw);refine q0x (wpAny_lookBehind hoD (by rw [hdD];exact pastItsLine_dict (Nat.le_trans hcD (by rw [q3x];omega))) ?_);exact q0y (h _ ⟨(hs2.2 _ (Ne.symm I.ne)).trans I.obj,hn2,I.ne⟩ hs2)
def make_map {R:Result->Sh->Prop} {vs:Jd} {kw:List (Str×Vl)} (X:K.In s.heap) (hm:PySem.W.makesIn K C=true)
  (hi:PySem.W.findIn K (.ref C) "__init__"=some (some (.ref f))) (hf:PySem.W.typeIn K (.ref f)=some (.type "function"))
  (h:codeAny (model prog w) (A.under (.builtin "type.__call__" ⟨.ref C::vs,kw⟩)) (.call (.ref f) ⟨.ref (s.heap.objs.size+1)::vs,kw⟩) (PySem.W.InitBack (s.heap.objs.size+1) R)
   { s with heap:=(s.heap.push PySem.W.emptyDict).push (PySem.W.instObj C s.heap.objs.size) }) :
  codeAny (model prog w) A (.call (.ref C) ⟨vs,kw⟩) R s:=by
 obtain ⟨hh,g,d,t,os⟩:=s;exact PySem.W.make_core (PySem.W.makes_of X hm) (PySem.W.looks_findIn X hi) (λself=>PySem.W.bind_fn X self hf) (.inl rfl) h
end
def zO (f:Str) (v:V):List (Str×V)->List (Str×V)
 | []=>[(f,v)]
 | (g,x)::r=>if g=f then (g,v)::r else (g,x)::zO f v r
theorem Xo (f g:Str) (v:V):∀ fs:List (Str×V),(zO f v fs).lookup g=if g=f then some v else fs.lookup g
 | []=>by
  show List.lookup g [(f,v)]=_;by_cases h:g=f
  ·have hb:(g == f)=true:=beq_iff_eq.mpr h
   simp only [List.lookup,hb,if_pos h]
  ·have hb:(g == f)=false:=beq_eq_false_iff_ne.mpr h
   simp only [List.lookup,hb,if_neg h]
 | (k,x)::r=>by
  have ih:=Xo f g v r;rw [show zO f v ((k,x)::r)=(if k=f then (k,v)::r else (k,x)::zO f v r) from rfl];by_cases hk:k=f
  ·rw [if_pos hk]
   by_cases h:g=k
   ·have hb:(g == k)=true:=beq_iff_eq.mpr h
    simp only [List.lookup,hb,if_pos (h.trans hk)]
   ·have hb:(g == k)=false:=beq_eq_false_iff_ne.mpr h
    simp only [List.lookup,hb,if_neg (λe:g=f=>h (e.trans hk.symm))]
  ·rw [if_neg hk]
   by_cases h:g=k
   ·have hb:(g == k)=true:=beq_iff_eq.mpr h
    simp only [List.lookup,hb,if_neg (λe:g=f=>hk (h.symm.trans e))]
   ·have hb:(g == k)=false:=beq_eq_false_iff_ne.mpr h
    simp only [List.lookup,hb];exact ih
theorem Xg (f:Str) (v:V):∀ fs:List (Str×V),f∈(zO f v fs).map (·.1)/\∀ g,g∈fs.map (·.1)->g∈(zO f v fs).map (·.1)
 | []=>⟨by simp [zO],λg h=>by simp at h⟩
 | (k,x)::r=>by
  obtain ⟨i1,i2⟩:=Xg f v r;rw [show zO f v ((k,x)::r)=(if k=f then (k,v)::r else (k,x)::zO f v r) from rfl];by_cases hk:k=f
  ·rw [if_pos hk]
   subst hk;exact ⟨by simp,λg h=>by simpa using h⟩
  ·rw [if_neg hk]
   refine ⟨?_,λg h=>?_⟩
   ·rw [List.map_cons]
    exact q1y _ i1
   ·rw [List.map_cons] at h ⊢
    rcases List.mem_cons.mp h with e | e
    ·exact List.mem_cons.mpr (.inl e)
    ·exact q1y _ (i2 g e)
theorem Xp (f:Str) (v:V):∀ fs:List (Str×V),(zO f v fs).length<=fs.length+1
 | []=>by simp [zO]
 | (k,x)::r=>by
  have ih:=Xp f v r;rw [show zO f v ((k,x)::r)=(if k=f then (k,v)::r else (k,x)::zO f v r) from rfl];by_cases hk:k=f
  ·rw [if_pos hk,q3x,q3x];omega
  ·rw [if_neg hk,q3x,q3x];omega
theorem RelO.some_of {v:V} {o:Je} (r:RelO (some v) o):∃ u,o=some u/\RelV v u:=by
 cases o with
 | none=>exact (show False from r).elim
 | some u=>exact ⟨u,rfl,r⟩
theorem RelO.none_of {o:Je} (r:RelO none o):o=none:=by
 cases o with
 | none=>rfl
 | some u=>exact (show False from r).elim
theorem handed_of {v:V} {u:Vl} (r:RelV v u):PySem.W.handedIn u=true:=by
 cases v with
 | non=>cases (show u=Value.none from r);rfl
 | bl b=>cases (show u=Value.bool b from r);rfl
 | int i=>obtain ⟨t,e⟩:=(show ∃ t,u=Value.int i t from r);cases e;rfl
 | str x=>obtain ⟨t,e⟩:=(show ∃ t,u=Value.str x t from r);cases e;rfl
 | byt b=>obtain ⟨t,e⟩:=(show ∃ t,u=Value.bytes b t from r);cases e;rfl
 | flt b=>obtain ⟨t,e⟩:=(show ∃ t,u=Value.float b t from r);cases e;rfl
 | ref a=>cases (show u=Value.ref a from r);rfl
 | ty n=>cases (show u=Value.type n from r);rfl
section
variable {P:Program} {w:World} {H H':Hp} {h h':Heap} {a C dx:Ad} {fs fs':List (Str×V)}
def YS (hok:HOk P w H h) (e:H a=some (.ins C dx fs)):∃ mA,ObjM h a dx C mA/\(∀ f,RelO (fs.lookup f) (mA f))/\PySem.Within mA (fs.map (·.1))/\fs.length<=1000/\H dx=some (.own a):=by
 obtain ⟨d,z,ne,ob,mA,n,r,q⟩:=(show ObjOk P w H h a (.ins C dx fs) from hok a _ e);exact ⟨mA,⟨ob,n,ne⟩,r,q,z,d⟩
end
structure Cls (K:Fg) (C:Ad):Prop where
 pg:PySem.W.plainGet K C Str.empty=true
 hd:PySem.W.hasDictIn K C=true
 po:PySem.W.plainOver K C=true
 sa:PySem.W.findIn K (.ref C) "__setattr__"=some (some (.builtin "object.__setattr__"))
def Cls.get {K:Fg} {C:Ad} (c:Cls K C) (f:Str):PySem.W.plainGet K C f=true:=c.pg
def NoAttr (K:Fg) (C:Ad) (f:Str):Prop:=PySem.W.findIn K (.ref C) f=some none
def NoAttr.taker {K:Fg} {C:Ad} {f:Str} (n:NoAttr K C f):PySem.W.takerIn K C f=some none:=by
 unfold PySem.W.takerIn;rw [show PySem.W.findIn K (.ref C) f=some none from n];rfl
structure Con (K:Fg) (C:Ad) (f:Str) (v:V) (u:Vl):Prop where
 at_:PySem.W.findIn K (.ref C) f=some (some u)
 rel:RelV v u
 get:PySem.W.specialIn K u "__get__"=some none
 cp:PySem.W.copiedNames.contains f=false
structure Meth (K:Fg) (C:Ad) (m:Str) (f:Ad):Prop where
 at_:PySem.W.findIn K (.ref C) m=some (some (.ref f))
 fn:PySem.W.isFn K (.ref f)=true
 kp:PySem.W.keepIn K (.ref f)=true
section
variable {X:Cx} {pins:Jc} {σ:St} {H:Hp} {s:Sh} {a C dx:Ad} {fs:List (Str×V)} {f:Str} {v:V} {A:Around} {E:Ja}
def zem {b:Bool} {Q:Ja} (I:Inv X pins σ H s) (e:H a=some (.ins C dx fs)) (c:Cls X.K C) (n:NoAttr X.K C f) (l:fs.lookup f=some v)
  (h:∀ u s',Inv X pins σ H s'->RelV v u->Q u s'):wpAny (model X.prog X.w) A (getAttr (.ref a) f b) Q E s:=by
 obtain ⟨mA,O,r,_,_,_⟩:=YS I.hok e;obtain ⟨u,hu,ru⟩:=RelO.some_of (v:=v) (o:=mA f) (by rw [← l];exact r f);exact get_map I.kIn O (c.get f) c.hd n hu (handed_of ru) (h u _ (I.tok _) ru)
def zag {m:Str} {g:Ad} {pl:Sem Bool} {Q:Vl×Jd->Sh->Prop} (I:Inv X pins σ H s) (e:H a=some (.ins C dx fs)) (c:Cls X.K C) (k:Meth X.K C m g) (l:fs.lookup m=none)
  (h:Q (.ref g,[.ref a]) s):wpAny (model X.prog X.w) A (getMethod (.ref a) m pl) Q E s:=by
 obtain ⟨mA,O,r,_,_,_⟩:=YS I.hok e;have hn:mA m=none:=RelO.none_of (by rw [← l];exact r m);exact get_meth I.kIn O (c.get m) k.at_ k.fn hn h
def zd3 {y:V} {u:Vl} {Q:Unit->Sh->Prop} (I:Inv X pins σ H s) (e:H a=some (.ins C dx fs)) (c:Cls X.K C) (n:NoAttr X.K C f) (hl:fs.length<1000) (ry:RelV y u)
  (h:∀ s',Inv X pins σ (upd H a (.ins C dx (zO f y fs))) s'->Q () s'):wpAny (model X.prog X.w) A (setAttr (.ref a) f u) Q E s:=by
 obtain ⟨mA,O,r,wi,_,ho⟩:=YS I.hok e;have hz:(fs.map (·.1)).length<=sizeLine:=by rw [Ji,sizeLine_eq];omega
 refine set_map I.kIn O c.sa c.po n.taker c.hd wi hz λh' O' sb=>h _ ?_;have hd:∃ o,h'.get? dx=some o:=let ⟨o,_,_,e',_⟩:=O'.ns;⟨o,e'⟩;refine I.write (x:=a) (e:=dx) (by rw [e];exact True.intro) (.inr ho) (λb q hb z=>(sb.2 b hb).trans z) hd ?_;refine ⟨by rw [zj O.ne];exact ho,?_,O.ne,O'.obj,_,O'.ns,λg=>?_,λg hg=>?_⟩
 ·have:=Xp f y fs;omega
 ·show RelO ((zO f y fs).lookup g) (if g=f then some u else mA g)
  rw [Xo];by_cases q:g=f
  ·rw [if_pos q,if_pos q];exact ry
  ·rw [if_neg q,if_neg q];exact r g
 ·by_cases q:g=f
  ·rw [q];exact (Xg f y fs).1
  ·refine (Xg f y fs).2 g (wi g λz=>hg ?_)
   show (if g=f then some u else mA g)=none;rw [if_neg q];exact z
def Inv.made (I:Inv X pins σ H s):Inv X pins σ (upd (upd H s.heap.objs.size (.own (s.heap.objs.size+1))) (s.heap.objs.size+1) (.ins C s.heap.objs.size []))
  { s with heap:=(s.heap.push PySem.W.emptyDict).push (PySem.W.instObj C s.heap.objs.size) }:=by
 have e1:(s.heap.push PySem.W.emptyDict).get? s.heap.objs.size=some PySem.W.emptyDict:=Heap.get?_push_size s.heap rfl
 have e2:((s.heap.push PySem.W.emptyDict).push (PySem.W.instObj C s.heap.objs.size)).get? (s.heap.objs.size+1)=some (PySem.W.instObj C s.heap.objs.size):=by
  have:=Heap.get?_push_size (s.heap.push PySem.W.emptyDict) (o:=PySem.W.instObj C s.heap.objs.size) rfl
  rwa [Heap.size_push] at this
 have e3:(s.heap.push PySem.W.emptyDict).Ns s.heap.objs.size (λ_=>none):=⟨PySem.W.emptyDict,#[],_,e1,rfl,(λe he=>absurd he (by simp)),λ_=>rfl⟩;have I1:=I.laid (a:=s.heap.objs.size) (o:=.own (s.heap.objs.size+1)) (h':=s.heap.push PySem.W.emptyDict) (t':=s.toks) (λb u q=>Heap.get?_push_of_some _ q) (Nat.le_refl _) ⟨_,e1⟩;refine I1.laid (a:=s.heap.objs.size+1) (o:=.ins C s.heap.objs.size []) (t':=s.toks) (λb u q=>Heap.get?_push_of_some _ q) (Nat.le_of_eq (Heap.size_push _ _)) ?_;have ne:s.heap.objs.size≠s.heap.objs.size+1:=Nat.ne_of_lt (Nat.lt_succ_self _);refine ⟨by rw [zj ne,zf],Nat.zero_le _,ne,e2,λ_=>none,(Heap.Ns1.of_empty e3).at λo q=>Heap.get?_push_of_some _ q,λ_=>True.intro,λy hy=>absurd rfl hy⟩
def attr_of {prog:Program} {w:World} {env:Env} {e:Expr} {f:Str} {pos:Pos} {s:Sh} {Q:Ja} (hb:attributeBase e f env (eval e env)=eval e env)
  (h:wpAny (model prog w) A (eval e env) (λo s₁=>wpAny (model prog w) A (getAttr o f true) Q E s₁) E s):wpAny (model prog w) A (eval (.Attribute e f pos) env) Q E s :=
 Attribute_any_ h (by rw [arm_eval_Attribute,hb])
end
inductive tFld_S (K:Fg) (f:Str) (Q:VK) (x:V) (H1:Hp):Prop
 | mk (a C:_) (dx fs v:_) (_:x=.ref a) (_:H1 a=some (.ins C dx fs)) (_:Cls K C) (_:NoAttr K C f) (_:fs.lookup f=some v) (_:Q v H1)
def tFld (K:Fg) (ta:TE) (f:Str):TE:=λσ H Q=>ta σ H λx H1=>tFld_S K f Q x H1
inductive sFld_S (K:Fg) (f:Str) (D:Ends) (σ:St) (y x:V) (H2:Hp):Prop
 | mk (a C:_) (dx fs:_) (_:x=.ref a) (_:H2 a=some (.ins C dx fs)) (_:Cls K C) (_:NoAttr K C f) (_:fs.length<1000) (_:D.nx σ (upd H2 a (.ins C dx (zO f y fs))))
def sFld (K:Fg) (ta tv:TE) (f:Str):TS:=λD σ H=>tv σ H λy H1=>ta σ H1 λx H2=>sFld_S K f D σ y x H2
section
variable {X:Cx} {o e value:Expr} {f:Str} {pos pos' tpos:Pos} {ta tv:TE}
def zq (he:PE X e ta) (hb:attributeBase e f X.env (eval e X.env)=eval e X.env):PE X (.Attribute e f pos) (tFld X.K ta f):=by
 intro pins s σ H Q I h;refine attr_of hb (thn (he pins s σ H _ I h) λu s1 ⟨x,H1,I1,rx,a,C,dx,fs,v,ex,ea,c,n,l,q⟩=>?_);subst ex;obtain rfl:u=Value.ref a:=rx;exact zem I1 ea c n l λu' s2 I2 ru=>⟨v,H1,I2,ru,q⟩
def zI (ha:PE X o ta) (hv:PE X value tv) (hs:swapsWith value (some (.Attribute o f pos')) pos.line X.env=pure false):PS X (.Assign [.Attribute o f pos'] value pos) (sFld X.K ta tv f):=by
 intro pins s σ H D I h;refine plainObj_wpAny_Assign_Attribute (thn (hv pins s σ H _ I h) λu s1 ⟨y,H1,I1,ry,q⟩=>thn (ha pins s1 σ H1 _ I1 q) λov s2 ⟨x,H2,I2,rx,a,C,dx,fs,ex,ea,c,n,l,q2⟩=>?_) hs;subst ex;obtain rfl:ov=Value.ref a:=rx;exact zd3 I2 ea c n l ry λs3 I3=>⟨σ,_,I3,q2⟩
end
section
variable {X:Cx} {pins:Jc} {σ:St} {H:Hp} {s:Sh} {A:Around} {E:Ja} {Q:Ja} {c:Vl} {b:Bool}
inductive TyOf (K:Fg) (H:Hp):V->Vl->Prop where
 | non:TyOf K H .non (.type "NoneType")
 | bl (x:Bool):TyOf K H (.bl x) (.type "bool")
 | int (i:Int):TyOf K H (.int i) (.type "int")
 | str (x:Str):TyOf K H (.str x) (.type "str")
 | flt (x:UInt64):TyOf K H (.flt x) (.type "float")
 | lst {a:Ad} {xs:Jn} (e:H a=some (.lst xs)):TyOf K H (.ref a) (.type "list")
 | frz {a:Ad} {o:Obj} {xs:Jn} (e:H a=some (.frz o (.lst xs))):TyOf K H (.ref a) (.type "list")
 | tup {a:Ad} {xs:Jn} (e:H a=some (.tup xs)):TyOf K H (.ref a) (.type "tuple")
 | dK {a:Ad} {kvs:Jl} (e:H a=some (.dK kvs)):TyOf K H (.ref a) (.type "dict")
 | dT {a:Ad} {kvs:List (List Key×V)} (e:H a=some (.dT kvs)):TyOf K H (.ref a) (.type "dict")
 | ins {a C dx:Ad} {fs:List (Str×V)} (e:H a=some (.ins C dx fs)) (cl:Cls K C) (ha:PySem.W.findIn K (.ref C) "__class__"=some (some (.builtin "object.__class__")))
   (hn:PySem.W.specialIn K (.builtin "object.__class__") "__get__"=some (some (.builtin "getset_descriptor.__get__"))) (htk:PySem.W.takesIn K (.builtin "object.__class__")=some true)
   (hm:PySem.W.mroIn K C (.type "object")=some true):TyOf K H (.ref a) (.ref C)
theorem isinst_ok {x:V} {u t:Vl} (I:Inv X pins σ H s) (rx:RelV x u) (ty:TyOf X.K H x t) (e:PySem.W.kitOne X.K t c=some b) (h:∀ tk,Q (.bool b) { s with toks:=tk }) :
  wpAny (model X.prog X.w) A (call (.builtin "isinstance") [u,c]) Q E s:=by
 cases ty with
 | non=>cases (show u=Value.none from rx);exact PySem.W.kia_one PySem.W.kitx_none I.kIn True.intro e (λz=>nomatch z) h
 | bl y=>cases (show u=Value.bool y from rx);exact PySem.W.kia_one PySem.W.kitx_bool I.kIn True.intro e (λz=>nomatch z) h
 | int i=>obtain ⟨t,q⟩:=(show ∃ t,u=Value.int i t from rx);cases q;exact PySem.W.kia_one PySem.W.kitx_int I.kIn True.intro e (λz=>nomatch z) h
 | str y=>obtain ⟨t,q⟩:=(show ∃ t,u=Value.str y t from rx);cases q;exact PySem.W.kia_one PySem.W.kitx_str I.kIn True.intro e (λz=>nomatch z) h
 | flt y=>obtain ⟨t,q⟩:=(show ∃ t,u=Value.float y t from rx);cases q;exact PySem.W.kia_one PySem.W.kitx_float I.kIn True.intro e (λz=>nomatch z) h
 | @lst a xs ea =>
  cases (show u=Value.ref a from rx);obtain ⟨_,_,n,_,h1⟩:=(show ObjOk X.prog X.w H s.heap a (.lst xs) from I.hok a _ ea);exact PySem.W.kia_one PySem.W.kitx_list I.kIn ⟨_,h1,rfl⟩ e (λz=>nomatch z) h
 | @frz a ob xs ea =>
  cases (show u=Value.ref a from rx);obtain ⟨_,_,_,n,_,h1⟩:=(show ObjOk X.prog X.w H s.heap a (.frz ob (.lst xs)) from I.hok a _ ea);exact PySem.W.kia_one PySem.W.kitx_list I.kIn ⟨_,h1,rfl⟩ e (λz=>nomatch z) h
 | @tup a xs ea =>
  cases (show u=Value.ref a from rx);obtain ⟨_,_,_,p⟩:=(show ObjOk X.prog X.w H s.heap a (.tup xs) from I.hok a _ ea);obtain ⟨o,h1,h2,_⟩:=p;exact PySem.W.kia_one PySem.W.kitx_tuple I.kIn ⟨o,h1,h2⟩ e (λz=>nomatch z) h
 | @dK a kvs ea =>
  cases (show u=Value.ref a from rx);obtain ⟨_,_,vs,_,p⟩:=(show ObjOk X.prog X.w H s.heap a (.dK kvs) from I.hok a _ ea);obtain ⟨o,es,ep,h1,h2,_⟩:=p;exact PySem.W.kia_one PySem.W.kitx_dict I.kIn ⟨o,h1,h2.1⟩ e (λz=>nomatch z) h
 | @dT a kvs ea =>
  cases (show u=Value.ref a from rx);obtain ⟨_,_,xs,_,o,es,ep,h1,h2,_⟩:=(show ObjOk X.prog X.w H s.heap a (.dT kvs) from I.hok a _ ea);exact PySem.W.kia_one PySem.W.kitx_dict I.kIn ⟨o,h1,h2.1⟩ e (λz=>nomatch z) h
 | @ins a C dx fs ea cl ha hn htk hm =>
  cases (show u=Value.ref a from rx);obtain ⟨mA,O,_⟩:=YS I.hok ea;obtain ⟨od,J,_⟩:=O.look;exact PySem.W.kia_one (PySem.W.kitx_own (cl.get _) cl.hd ha hn htk hm) I.kIn J e (λz=>nomatch z) h
end
structure Room (k:Nat) (A:Around):Prop where
 hd:A.handled=none
 dp:A.depth+3*k+5<recursionLimit
 un:A.units+16*k+200<cLine
def Room.mono {j k:Nat} {A:Around} (r:Room k A) (h:j<=k):Room j A:=⟨r.hd,by have:=r.dp;omega,by have:=r.un;omega⟩
def Room.deeper {k:Nat} {A:Around} (r:Room (k+1) A) (env:Env):Room k (A.deeper env) :=
 ⟨r.hd,by have:=r.dp;show A.depth+1+3*k+5<_;omega,by have:=r.un;show A.units+3+16*k+200<_;omega⟩
def zej {A:Around} {C:Ad} {us:Jd} {kw:List (Str×Vl)}:(A.under (.builtin "type.__call__" ⟨.ref C::us,kw⟩)).depth=A.depth+1:=by
 first | rfl | simp [Around.under,Code.weight,Code.isCreation,Code.isGuard,Code.isCaller,Code.frames,Code.isFrame,guardIds]
def zei {A:Around} {C:Ad} {us:Jd} {kw:List (Str×Vl)}:(A.under (.builtin "type.__call__" ⟨.ref C::us,kw⟩)).units=A.units+1:=by
 first | rfl | simp [Around.under,Code.cUnits,Code.frames,Code.isFrame]
def Room.make {k:Nat} {A:Around} (r:Room (k+1) A) (C:Ad) (us:Jd) (kw:List (Str×Vl)):Room k (A.under (.builtin "type.__call__" ⟨.ref C::us,kw⟩)) :=
 ⟨r.hd,by have:=r.dp;rw [zej];omega,by have:=r.un;rw [zei];omega⟩
def Room.depth {k:Nat} {A:Around} (r:Room k A):A.depth<recursionLimit:=by have:=r.dp;omega
def Room.units {k:Nat} {A:Around} (r:Room k A):A.units+64<cLine:=by have:=r.un;omega
def tNil:TA:=λ_ H Q=>Q [] H
def ZQ (ta:TE) (tr:TA):TA:=λσ H Q=>ta σ H λx H1=>tr σ H1 λxs H2=>Q (x::xs) H2
section
variable {X:Cx} {e:Expr} {es:Jh} {te:TE} {t:TA} {pos:Pos}
def zd:PA X [] tNil:=λ_ _ _ _ H Q I h=>Calls.spliced_nil ⟨[],H,I,.nil,h⟩
def zb (ha:PE X e te) (hr:PA X es t) (hs:starEach (e::es) X.env=(false,eval e X.env)::starEach es X.env:=by rfl):PA X (e::es) (ZQ te t):=by
 intro pos pins s σ H Q I h;rw [hs];show wpAny _ _ (spliced ((false,eval e X.env)::backTo pos (starEach es X.env))) _ _ s;refine Calls.spliced_cons (thn (ha pins s σ H _ I h) λu s1 ⟨x,H1,I1,r1,q1⟩=>?_);exact thn (hr pos pins s1 σ H1 _ I1 q1) λus s2 ⟨xs,H2,I2,r2,q2⟩=>⟨x::xs,H2,I2,.cons r1 r2,q2⟩
def tTup (t:TA):TE:=λσ H Q=>t σ H λxs H1=>xs.length<=sizeLine/\∀ p,H1 p=none->Q (.ref p) (upd H1 p (.tup xs))
def tLst (t:TA):TE:=λσ H Q=>t σ H λxs H1=>xs.length<=sizeLine/\∀ p,H1 p=none->Q (.ref p) (upd H1 p (.lst xs))
def yn {x1} (h:PA X es t):PE X (.Tuple es x1 pos) (tTup t):=by
 intro pins s σ H Q I hq;refine wpAny_Tuple_spliced (thn (h pos pins s σ H _ I hq) λus s1 ⟨xs,H1,I1,r,z,q⟩=>⟨by rw [← r.length];exact z,?_⟩);have hf:H1 s1.heap.objs.size=none:=I1.hok.fresh (Nat.le_refl _);refine ⟨.ref s1.heap.objs.size,upd H1 s1.heap.objs.size (.tup xs),I1.laid (t':=s1.toks) (λb u e=>Heap.get?_push_of_some _ e) (Nat.le_refl _) ?_,rfl,q _ hf⟩;exact ⟨z,us,r,⟨_,Heap.get?_push_size _ rfl,rfl,_,rfl⟩⟩
def yJ (h:PA X es t):PE X (.List es pos) (tLst t):=by
 intro pins s σ H Q I hq;refine wpAny_List_spliced (thn (h pos pins s σ H _ I hq) λus s1 ⟨xs,H1,I1,r,z,q⟩=>⟨by rw [← r.length];exact z,?_⟩);have hf:H1 s1.heap.objs.size=none:=I1.hok.fresh (Nat.le_refl _);refine ⟨.ref s1.heap.objs.size,upd H1 s1.heap.objs.size (.lst xs),I1.laid (t':=s1.toks) (λb u e=>Heap.get?_push_of_some _ e) (Nat.le_refl _) ?_,rfl,q _ hf⟩;exact ⟨z,us,0,r,Heap.get?_push_size _ rfl⟩
end
abbrev Sp:=Jn->Hp->VK->XK->Prop
abbrev CXT:=List Env->Hp->Sh->XK->Ja
structure Env0 (P:Program) (w:World) (K:Fg) (mg:J0) (base:Heap) (A:Around) (outer:List Env) (s:Sh) (H:Hp):Prop where
 frames:A.frames=some outer
 mod:Mod K mg base
 bs:∀ b o,base.get? b=some o->s.heap.get? b=some o/\H b=none
 bsz:base.objs.size<=s.heap.objs.size
 funs:s.heap.FunFrames base outer
 frf:∀ b∈frs outer,H b=none
 hok:HOk P w H s.heap
 bare:AllBare s.gens
def CE (outer:List Env) (P:Program) (w:World) (H:Hp) (s:Sh) (Q:VK) (u:Vl) (s':Sh):Prop :=
 ∃ v H',s'.os=s.os/\AllBare s'.gens/\Un (frs outer) [] H H' s.heap s'.heap/\HOk P w H' s'.heap/\RelV v u/\Q v H'
def CR (CX:CXT) (outer:List Env) (P:Program) (w:World) (H:Hp) (s:Sh) (Q:VK) (E:XK) (r:Result) (s':Sh):Prop :=
 match r with
 | .ok (.ret u)=>CE outer P w H s Q u s'
 | .ok _=>False
 | .error e=>CX outer H s E e s'
structure FnOk (P:Program) (w:World) (K:Fg) (mg:J0) (base:Heap) (CX:CXT) (k:Nat) (f:Ad) (fd:FuncData) (ps:Jf) (sp:Sp):Prop where
 len:∀ vs H Q E,sp vs H Q E->vs.length=ps.length
 run:∀ (A:Around) (outer:List Env) (s:Sh) (H:Hp) (args:Args) (us:Jd) (vs:Jn) (Q:VK) (E:XK),Room k A->Env0 P w K mg base A outer s H->BindsTo s fd args (ps.zip us)->Vals vs us->sp vs H Q E ->
  codeAny (model P w) A (.call (.ref f) args) (CR CX outer P w H s Q E) s
def FnOk.mono {P:Program} {w:World} {K:Fg} {mg:J0} {base:Heap} {CX:CXT} {j k:Nat} {f:Ad} {fd:FuncData} {ps:Jf} {sp:Sp} (F:FnOk P w K mg base CX j f fd ps sp) (h:j<=k) :
  FnOk P w K mg base CX k f fd ps sp:=⟨F.len,λA outer s H args us vs Q E hr=>F.run A outer s H args us vs Q E (hr.mono h)⟩
def Env0.make {P:Program} {w:World} {K:Fg} {mg:J0} {base:Heap} {A:Around} {outer:List Env} {s:Sh} {H:Hp} (e:Env0 P w K mg base A outer s H) (C:Ad) (us:Jd) (kw:List (Str×Vl)) :
  Env0 P w K mg base (A.under (.builtin "type.__call__" ⟨.ref C::us,kw⟩)) outer s H:=⟨by first | exact e.frames | (simpa [Around.under,Code.envs,Code.isFrame,pushEnvs] using e.frames),e.mod,e.bs,e.bsz,e.funs,e.frf,e.hok,e.bare⟩
section
variable {X:Cx} {pins:Jc} {σ:St} {H:Hp} {s s':Sh}
def Inv.env0 (I:Inv X pins σ H s):Env0 X.prog X.w X.K X.mg X.base X.A X.stack s H :=
 ⟨I.ok.frames,I.ok.mod,I.bs,Nat.le_trans I.ok.bsz I.sz,I.stack,I.stkFree,I.hok,I.bare⟩
def Inv.after {Q:VK} {u:Vl} (I:Inv X pins σ H s) (h:CE X.stack X.prog X.w H s Q u s'):EP X pins σ Q u s':=by
 obtain ⟨v,H',os,bare,un,hok,r,q⟩:=h;obtain ⟨hh,g,d,t,os'⟩:=s';obtain rfl:os'=s.os:=os;exact ⟨v,H',I.call (h':=hh) (g':=g) (d':=d) (t':=t) (ch:=[]) un hok bare (λb z=>absurd z (by simp)),r,q⟩
end
def XT (sp:Sp) (dvs:Jn) (E:XK) (t:TA):TE:=λσ H Q=>t σ H λvs H1=>sp (vs++dvs) H1 Q E
inductive tMeth_S (C:Ad) (m:Str) (sp:Sp) (dvs:Jn) (E:XK) (t:TA) (σ:St) (Q:VK) (x:V) (H1:Hp):Prop
 | mk (a dx fs:_) (_:x=.ref a) (_:H1 a=some (.ins C dx fs)) (_:fs.lookup m=none) (_:t σ H1 λvs H2=>sp (x::(vs++dvs)) H2 Q E)
def tMeth (C:Ad) (m:Str) (sp:Sp) (dvs:Jn) (E:XK) (ta:TE) (t:TA):TE:=λσ H Q=>ta σ H λx H1=>tMeth_S C m sp dvs E t σ Q x H1
def tMake (C:Ad) (sp:Sp) (dvs:Jn) (E:XK) (t:TA):TE:=λσ H Q=>t σ H λvs H1=>∀ x dx,H1 x=none->H1 dx=none->dx≠x ->
 sp (.ref x::(vs++dvs)) (upd (upd H1 dx (.own x)) x (.ins C dx [])) (λv H2=>v=.non/\Q (.ref x) H2) E
def Binds (K:Fg) (fd:FuncData) (ps:Jf) (ds:Jd):Prop :=
 ∀ (s:Sh) (us:Jd),K.In s.heap->(us++ds).length=ps.length->BindsTo s fd ⟨us,[]⟩ (ps.zip (us++ds))
def Binds.all {K:Fg} {fd:FuncData} {ps:Jf} (h:∀ us:Jd,us.length=ps.length->bindArgs fd ⟨us,[]⟩=pure (ps.zip us)):Binds K fd ps []:=λs us _ hl=>by
 rw [q3y] at hl ⊢;exact .of_eq (h us hl)
def xx (CX:CXT) (X:Cx) (E:XK):Prop:=∀ (pins:Jc) (σ:St) (H:Hp) (s:Sh) (e:Vl) (s':Sh),Inv X pins σ H s->CX X.stack H s E e s'->X.xe e s'
section
variable {X:Cx} {CX:CXT} {k:Nat} {f C:Ad} {fd:FuncData} {ps:Jf} {sp:Sp} {dvs:Jn} {ds:Jd} {E:XK} {x m:Str} {p pos apos:Pos} {e o:Expr} {es:Jh} {ta:TE} {t:TA}
theorem zb6 {pins:Jc} {σ:St} {H:Hp} {s:Sh} {Q:VK} {us:Jd} {vs:Jn} (F:FnOk X.prog X.w X.K X.mg X.base CX k f fd ps sp) (hr:Room k X.A) (hb:Binds X.K fd ps ds) (hd:Vals dvs ds) (hx:xx CX X E)
  (I:Inv X pins σ H s) (r:Vals vs us) (h:sp (vs++dvs) H Q E):wpAny (model X.prog X.w) X.A (call (.ref f) us) (EP X pins σ Q) X.xe s:=by
 have r2:Vals (vs++dvs) (us++ds):=r.append hd;have hl:(us++ds).length=ps.length:=by rw [← r2.length];exact F.len _ _ _ _ h
 refine wpAny_call (codeAny_mono (F.run X.A X.stack s H ⟨us,[]⟩ (us++ds) (vs++dvs) Q E hr I.env0 (hb s us I.kIn hl) r2 h) λr s' hq=>?_)
 cases r with
 | error e=>exact hx pins σ H s e s' I hq
 | ok fl =>
  cases fl with
  | ret u=>exact I.after hq
  | next=>exact False.elim hq
  | brk=>exact False.elim hq
  | cont=>exact False.elim hq
def pe_call (F:FnOk X.prog X.w X.K X.mg X.base CX k f fd ps sp) (hr:Room k X.A) (hg:Gl X x) (hm:X.mg x=some (.ref f)) (hk:PySem.W.keepIn X.K (.ref f)=true) (hb:Binds X.K fd ps ds) (hd:Vals dvs ds) (hx:xx CX X E)
  (ha:PA X (e::es) t) (hdb:(x == ("__debug__":Str))=false:=by decide) (he:starEach (e::es) X.env=(false,eval e X.env)::starEach es X.env:=by rfl) (hpl:(backTo pos (starEach es X.env)).any (·.1)=false:=by rfl) :
  PE X (.Call (.Name x p) (e::es) [] pos) (XT sp dvs E t):=by
 intro pins s σ H Q I h;refine wpAny_Call_Name_kw (Ya I hg hm ?_ hdb);refine PySem.W.callWith_K (h₀:=X.base) I.ok.mod.kin hk (thn (ha pos pins s σ H _ I h) λus s1 ⟨vs,H1,I1,r,q⟩=>⟨I1.kIn,?_⟩) he hpl;exact zb6 F hr hb hd hx I1 r q
def pe_meth {pl:Sem Bool} (he:PE X o ta) (c:Cls X.K C) (hm:Meth X.K C m f) (F:FnOk X.prog X.w X.K X.mg X.base CX k f fd ps sp) (hr:Room k X.A) (hb:Binds X.K fd ps ds) (hd:Vals dvs ds) (hx:xx CX X E) (ha:PA X (e::es) t)
  (hst:starEach (e::es) X.env=(false,eval e X.env)::starEach es X.env:=by rfl) (hpl:(backTo pos (starEach es X.env)).any (·.1)=false:=by rfl)
  (ht:eval (.Call (.Attribute o m apos) (e::es) [] pos) X.env=(do
   let ov ← eval o X.env
   standAt apos.atName
   let (f,first) ← holding [ov] (getMethod ov m pl)
   callWith pos f first (backTo pos (starEach (e::es) X.env)) (backToKw pos (keywordEach [] X.env))):=by rfl) :
  PE X (.Call (.Attribute o m apos) (e::es) [] pos) (tMeth C m sp dvs E ta t):=by
 intro pins s σ H Q I h;refine PySem.W.methodCall_KW (pl:=pl) (thn (he pins s σ H _ I h) λu s1 ⟨x,H1,I1,rx,a,dx,fs,ex,ea,l,q⟩=>?_) ht;subst ex;obtain rfl:u=Value.ref a:=rx;refine zag I1 ea c hm l ?_;refine PySem.W.callWith_K (first:=[.ref a]) (h₀:=X.base) I.ok.mod.kin hm.kp (thn (ha pos pins s1 σ H1 _ I1 q) λus s2 ⟨vs,H2,I2,r,q2⟩=>⟨I2.kIn,?_⟩) hst hpl;exact zb6 (us:=.ref a::us) (vs:=.ref a::vs) F hr hb hd hx I2 (.cons rfl r) q2
def pe_meth0 {pl:Sem Bool} (he:PE X o ta) (c:Cls X.K C) (hm:Meth X.K C m f) (F:FnOk X.prog X.w X.K X.mg X.base CX k f fd ps sp) (hr:Room k X.A) (hb:Binds X.K fd ps ds) (hd:Vals dvs ds) (hx:xx CX X E)
  (ht:eval (.Call (.Attribute o m apos) [] [] pos) X.env=(do
   let ov ← eval o X.env
   standAt apos.atName
   let (f,first) ← holding [ov] (getMethod ov m pl)
   callWith pos f first (backTo pos (starEach [] X.env)) (backToKw pos (keywordEach [] X.env))):=by rfl) :
  PE X (.Call (.Attribute o m apos) [] [] pos) (tMeth C m sp dvs E ta tNil):=by
 intro pins s σ H Q I h;refine PySem.W.methodCall_KW (pl:=pl) (thn (he pins s σ H _ I h) λu s1 ⟨x,H1,I1,rx,a,dx,fs,ex,ea,l,q⟩=>?_) ht;subst ex;obtain rfl:u=Value.ref a:=rx;refine zag I1 ea c hm l ?_;exact PySem.W.callWith_K0 (first:=[.ref a]) I1.kIn hm.kp (zb6 (us:=[.ref a]) (vs:=[.ref a]) F hr hb hd hx I1 (.cons rfl .nil) q)
structure Mk (K:Fg) (C f:Ad):Prop where
 makes:PySem.W.makesIn K C=true
 init:PySem.W.findIn K (.ref C) "__init__"=some (some (.ref f))
 fn:PySem.W.isFn K (.ref f)=true
 kp:PySem.W.keepIn K (.ref C)=true
theorem run_make {pins:Jc} {σ:St} {H:Hp} {s:Sh} {Q:VK} {us:Jd} {vs:Jn} (M:Mk X.K C f) (F:FnOk X.prog X.w X.K X.mg X.base CX k f fd ps sp) (hr:Room (k+1) X.A) (hb:Binds X.K fd ps ds) (hd:Vals dvs ds)
  (hx:xx CX X E) (I:Inv X pins σ H s) (r:Vals vs us)
  (h:∀ x dx,H x=none->H dx=none->dx≠x->sp (.ref x::(vs++dvs)) (upd (upd H dx (.own x)) x (.ins C dx [])) (λv H2=>v=.non/\Q (.ref x) H2) E) :
  wpAny (model X.prog X.w) X.A (call (.ref C) us) (EP X pins σ Q) X.xe s:=by
 have hq:=h (s.heap.objs.size+1) s.heap.objs.size (I.hok.fresh (Nat.le_succ _)) (I.hok.fresh (Nat.le_refl _)) (Nat.ne_of_lt (Nat.lt_succ_self _));have I2:=Inv.made (C:=C) I;have r2:Vals (V.ref (s.heap.objs.size+1)::(vs++dvs)) (Value.ref (s.heap.objs.size+1)::(us++ds)):=.cons rfl (r.append hd)
 have hl:(Value.ref (s.heap.objs.size+1)::us++ds).length=ps.length:=by
  have e:=r2.length;rw [F.len _ _ _ _ hq] at e;exact e.symm
 refine wpAny_call (make_map (f:=f) I.kIn M.makes M.init (beq_iff_eq.mp M.fn) (codeAny_mono (F.run _ X.stack _ _ ⟨Value.ref (s.heap.objs.size+1)::us,[]⟩ (Value.ref (s.heap.objs.size+1)::(us++ds)) _ _ E (hr.make C us [])
  (I2.env0.make C us []) (hb _ (Value.ref (s.heap.objs.size+1)::us) I2.kIn hl) r2 hq) λr s' hq'=>?_))
 cases r with
 | error e=>exact hx pins σ _ _ e s' I2 hq'
 | ok fl =>
  cases fl with
  | ret u =>
   obtain ⟨v,H',I3,rv,ev,q3⟩:=I2.after hq';subst ev;exact ⟨rv,⟨V.ref (s.heap.objs.size+1),H',I3,rfl,q3⟩⟩
  | next=>exact False.elim hq'
  | brk=>exact False.elim hq'
  | cont=>exact False.elim hq'
def pe_make (M:Mk X.K C f) (F:FnOk X.prog X.w X.K X.mg X.base CX k f fd ps sp) (hr:Room (k+1) X.A) (hg:Gl X x) (hm:X.mg x=some (.ref C)) (hb:Binds X.K fd ps ds) (hd:Vals dvs ds) (hx:xx CX X E)
  (ha:PA X (e::es) t) (hdb:(x == ("__debug__":Str))=false:=by decide) (he:starEach (e::es) X.env=(false,eval e X.env)::starEach es X.env:=by rfl) (hpl:(backTo pos (starEach es X.env)).any (·.1)=false:=by rfl) :
  PE X (.Call (.Name x p) (e::es) [] pos) (tMake C sp dvs E t):=by
 intro pins s σ H Q I h;refine wpAny_Call_Name_kw (Ya I hg hm ?_ hdb);refine PySem.W.callWith_K (h₀:=X.base) I.ok.mod.kin M.kp (thn (ha pos pins s σ H _ I h) λus s1 ⟨vs,H1,I1,r,q⟩=>⟨I1.kIn,?_⟩) he hpl;exact run_make M F hr hb hd hx I1 r q
end
section
variable {X:Cx} {CX:CXT} {k:Nat} {f C:Ad} {fd:FuncData} {ps ks:Jf} {sp:Sp} {E:XK} {x m:Str} {p pos apos kpos:Pos} {e o:Expr} {es:Jh} {kws:List Keyword} {te ta:TE} {t tk:TA} {nm:Option Str}
structure KBinds (K:Fg) (fd:FuncData) (ps ks:Jf) (g:Jd->Jd->Jd) (gV:Jn->Jn->Jn):Prop where
 to:∀ (s:Sh) (us ws:Jd),K.In s.heap->(g us ws).length=ps.length->BindsTo s fd ⟨us,ks.zip ws⟩ (ps.zip (g us ws))
 rel:∀ {vs:Jn} {us:Jd} {zs:Jn} {ws:Jd},Vals vs us->Vals zs ws->Vals (gV vs zs) (g us ws)
variable {g:Jd->Jd->Jd} {gV:Jn->Jn->Jn}
end
structure FnScope (N P:Jf) (sc:Scope):Prop where
 kind:sc.kind=.function
 co:sc.isCoroutine=false
 gen:sc.isGenerator=false
 nd:N.Nodup
 pre:N.take P.length=P
 par:∀ x∈P,sc.names.lookup x=some .local∨sc.names.lookup x=some .cell
 nofree:∀ y∈sc.names,y.2≠.free
theorem zbm {kindOf:Str->Option NameKind} {x:Str}:∀ {binds:List (Str×Vl)} {m:J0},(∀ v,(x,v) ∉ binds)->bindL kindOf binds m x=m x
 | [],_,_=>rfl
 | (n,v)::r,m,h=>by
  unfold bindL;rw [zbm λw hw=>h w (q1y _ hw)]
  split
  ·have:x≠n:=by rintro rfl;exact h v q1z
   simp [this]
  ·rfl
theorem zbo {kindOf:Str->Option NameKind} {x:Str}:∀ {binds:List (Str×Vl)} {m:J0},(∀ v,(x,v) ∉ binds)->bindC kindOf binds m x=m x
 | [],_,_=>rfl
 | (n,v)::r,m,h=>by
  unfold bindC;rw [zbo λw hw=>h w (q1y _ hw)]
  split
  ·rfl
  ·have:x≠n:=by rintro rfl;exact h v q1z
   simp [this]
theorem zbn {kindOf:Str->Option NameKind} {x:Str} {v:Vl}:∀ {P:Jf} {vs:Jd} {i:Nat} {m:J0},P.Nodup->P[i]?=some x->vs[i]?=some v->kindOf x=some .local ->
  bindL kindOf (P.zip vs) m x=some v
 | [],_,_,_,_,h,_,_=>by simp at h
 | _::_,[],_,_,_,_,h,_=>by simp at h
 | p::P,w::vs,0,m,nd,h1,h2,hk=>by
  simp at h1 h2;subst h1;subst h2;show bindL kindOf ((p,w)::P.zip vs) m p=_;unfold bindL;rw [zbm λv hv=>(List.nodup_cons.mp nd).1 (List.of_mem_zip hv).1,if_pos hk];simp
 | p::P,w::vs,i+1,m,nd,h1,h2,hk=>by
  show bindL kindOf ((p,w)::P.zip vs) m x=_;unfold bindL;exact zbn (i:=i) (List.nodup_cons.mp nd).2 (by simpa using h1) (by simpa using h2) hk
theorem zbp {kindOf:Str->Option NameKind} {x:Str} {v:Vl}:∀ {P:Jf} {vs:Jd} {i:Nat} {m:J0},P.Nodup->P[i]?=some x->vs[i]?=some v->kindOf x≠some .local ->
  bindC kindOf (P.zip vs) m x=some v
 | [],_,_,_,_,h,_,_=>by simp at h
 | _::_,[],_,_,_,_,h,_=>by simp at h
 | p::P,w::vs,0,m,nd,h1,h2,hk=>by
  simp at h1 h2;subst h1;subst h2;show bindC kindOf ((p,w)::P.zip vs) m p=_;unfold bindC;rw [zbo λv hv=>(List.nodup_cons.mp nd).1 (List.of_mem_zip hv).1,if_neg hk];simp
 | p::P,w::vs,i+1,m,nd,h1,h2,hk=>by
  show bindC kindOf ((p,w)::P.zip vs) m x=_;unfold bindC;exact zbp (i:=i) (List.nodup_cons.mp nd).2 (by simpa using h1) (by simpa using h2) hk
def Yh (N:Jf) (vs:Jn):St:=vs.map some++List.replicate (N.length-vs.length) none
def yh (CX:CXT) (P:Program) (w:World) (K:Fg) (mg:J0) (base:Heap) (N:Jf) (qual:Str) (scope:Scope) (f:Ad) (cd:Vl) (A:Around) (outer:List Env) (s:Sh) (H:Hp) (E:XK):Cx where
 prog:=P
 w:=w
 K:=K
 mg:=mg
 base:=base
 A:=A.deeper (envOfC qual scope s.heap.objs.size f cd)
 N:=N
 s₀:=s
 H₀:=H
 env:=envOfC qual scope s.heap.objs.size f cd
 outer:=outer
 stack:=envOfC qual scope s.heap.objs.size f cd::outer
 ex:=[]
 calm:=true
 fn:=λ_=>true
 pn:=[]
 xe:=λe s'=>wpAny (model P w) (A.deeper (envOfC qual scope s.heap.objs.size f cd)) (leaving (envOfC qual scope s.heap.objs.size f cd) e) (λ_ s''=>CX outer H s E e s'') (λe' s''=>CX outer H s E e' s'') s'
def zdu {sc:Scope} {n:Nat} {x:Str} (h:sc.names.lookup x=some .cell):∃ c,(cellsFrom n sc.names []).lookup x=some c:=by
 have q:=PySem.W.cellsFrom_some sc.names n [] (.inl h);exact Option.isSome_iff_exists.mp q
theorem inv_start {CX:CXT} {P:Program} {w:World} {K:Fg} {mg:J0} {base:Heap} {N ps:Jf} {qual:Str} {scope:Scope} {f:Ad} {cd:Vl} {A:Around} {outer:List Env} {s s1:Sh} {H:Hp} {E:XK} {us:Jd} {vs:Jn}
  (S:FnScope N ps scope) (hd:A.handled=none) (e0:Env0 P w K mg base A outer s H) (hl:vs.length=ps.length) (r:Vals vs us)
  (x:InCallC s s.heap.objs.size (bindL (envOfC qual scope s.heap.objs.size f cd).kindOf (ps.zip us) λ_=>none) (cellsFrom (s.heap.objs.size+1) scope.names []) (bindC (envOfC qual scope s.heap.objs.size f cd).kindOf (ps.zip us) λ_=>none) s1) :
  Inv (yh CX P w K mg base N qual scope f cd A outer s H E) [] (Yh N vs) H s1:=by
 have hpl:ps.length<=N.length:=by have:=congrArg List.length S.pre;rw [List.length_take] at this;omega
 obtain ⟨h1,tk,rfl,hk⟩:=x.done;have noA:∀ b:Ad,b ∉ (yh CX P w K mg base N qual scope f cd A outer s H E).ex:=λb z=>absurd (show b∈([]:Jg) from z) (by simp)
 refine ⟨⟨e0.mod,S.kind,rfl,rfl,Nat.le_refl _,λy z c h1 h2=>?_,λy hy=>?_,λy c _ h=>?_,λ_=>hd,Around.frames_deeper e0.frames,.inr ⟨rfl,rfl⟩,λb z=>absurd z (noA b),e0.bs,e0.bsz,λb _ _=>noA b,λb z=>absurd z (noA b),e0.funs,e0.frf⟩,
  rfl,e0.bare,Un.kept hk,⟨_,x.toInCall.ns,λi y v h1 h2 h3=>?_⟩,λy c h=>⟨_,x.cell y c h⟩,e0.hok.fresh (Nat.le_refl _),λy c h=>?_,λp hp=>absurd (show p∈([]:Jc) from hp) (by simp),e0.hok.kept hk,?_⟩
 ·exact name_of_addr x.apart (PySem.mem_of_lookup h1) (PySem.mem_of_lookup h2)
 ·have hy:scope.names.lookup y=some .cell∨scope.names.lookup y=some .free:=hy
  rcases hy with hy | hy
  ·exact zdu hy
  ·exact absurd rfl (S.nofree _ (PySem.mem_of_lookup hy))
 ·exact Nat.le_of_lt (x.above y c (PySem.mem_of_lookup h))
 ·have hi:i<vs.length:=by
   unfold Yh at h2;by_cases hi:i<vs.length
   ·exact hi
   ·rw [List.getElem?_append_right (by simpa using hi)] at h2
    rw [List.getElem?_replicate] at h2
    split at h2 <;> cases h2
  have ha:vs[i]?=some v:=by
   unfold Yh at h2;rw [q4x (by simpa using hi),List.getElem?_map] at h2
   cases e:vs[i]? with
   | none=>rw [e] at h2;cases h2
   | some a=>rw [e] at h2;cases h2;rfl
  obtain ⟨u,hu,rv⟩:=r.get ha
  have hp:ps[i]?=some y:=by
   rw [← S.pre,List.getElem?_take_of_lt (by omega)];exact h1
  have ndP:ps.Nodup:=by rw [← S.pre];exact S.nd.sublist (List.take_sublist _ _)
  refine ⟨u,rv,?_⟩;rcases S.par y (List.mem_of_getElem? hp) with k | k
  ·exact .inl ⟨k,zbn ndP hp hu k⟩
  ·obtain ⟨c,e⟩:=zdu (n:=s.heap.objs.size+1) k
   refine .inr ⟨.inl k,c,e,?_⟩;have q:=x.cell y c e;rw [zbp ndP hp hu (by show scope.names.lookup y≠_;rw [k];decide)] at q;exact q
 ·exact e0.hok.fresh (Nat.le_of_lt (x.above y c (PySem.mem_of_lookup h)))
 ·unfold Yh
  show _=N.length;rw [Jj,Ji,List.length_replicate];omega
theorem fn_of {CX:CXT} {P:Program} {w:World} {K:Fg} {mg:J0} {base:Heap} {k:Nat} {f:Ad} {name qual:Str} {params:Arguments} {body:List Stmt} {scope:Scope} {dV kV doc pm cdv ct oc:Vl} {an od:Option Ad}
  {osl:Array (Je)} {N ps:Jf} {sp:Sp} (lk:K.lookup f=some ⟨oc,od,.func (PySem.W.fnOf name qual params body scope dV kV doc pm an cdv ct),osl⟩) (hcd:PySem.W.codeIn K cdv qual=true) (S:FnScope N ps scope)
  (len:∀ vs H Q E,sp vs H Q E->vs.length=ps.length)
  (hbody:∀ (A:Around) (outer:List Env) (s:Sh) (H:Hp) (vs:Jn) (Q:VK) (E:XK),Room k (A.deeper (envOfC qual scope s.heap.objs.size f cdv))->sp vs H Q E ->
   ∃ t,PSs (yh CX P w K mg base N qual scope f cdv A outer s H E) body t/\t { nx:=λ_ H'=>Q .non H',rt:=Q } (Yh N vs) H) :
  FnOk P w K mg base CX (k+1) f (PySem.W.fnOf name qual params body scope dV kV doc pm an cdv ct) ps sp:=by
 refine ⟨len,λA outer s H args us vs Q E hr e0 hb r hsp=>?_⟩;have hl:=len _ _ _ _ hsp;have KX:K.In s.heap:=e0.mod.kin.keeps λb o e=>(e0.bs b o e).1;have lim:s.heap.NoLimit:=e0.mod.nolimit.keeps λb o e=>(e0.bs b o e).1
 have hkind:∀ y∈ps.zip us,scope.names.lookup y.1=some .local∨(scope.names.lookup y.1=some .cell/\((cellsFrom (s.heap.objs.size+1) scope.names []).lookup y.1).isSome=true):=λ⟨n,v⟩ hy=>by
  rcases S.par n (List.of_mem_zip hy).1 with q | q
  ·exact .inl q
  ·exact .inr ⟨q,PySem.W.cellsFrom_some _ _ _ (.inl q)⟩
 refine codeAny_call_function hr.depth (KX _ _ lk) rfl S.co S.gen rfl (PySem.W.codeRec_of KX hcd) (hb _ _ _ _ ?_);refine wpAny_newFunctionEnv_cells S.kind hkind λenv he s1 x=>?_;subst he;refine ⟨lim.keeps x.toInCall.keep,codeAny_func ?_⟩;obtain ⟨t,ht,hq⟩:=hbody A outer s H vs Q E (hr.deeper _) hsp;have I:Inv (yh CX P w K mg base N qual scope f cdv A outer s H E) [] (Yh N vs) H s1:=inv_start S hr.hd e0 hl r x;refine wpAny_mono (ht [] s1 (Yh N vs) H _ I hq) (λfl s' hs=>?_) λe s' hs=>hs
 have fin:∀ {σ':St} {H':Hp} {v:V} {u:Vl},Inv (yh CX P w K mg base N qual scope f cdv A outer s H E) [] σ' H' s'->RelV v u->Q v H'->CE outer P w H s Q u s' :=
  λ{σ' H' v u} J rv q=>⟨v,H',J.os,J.bare,J.base,J.hok,rv,q⟩
 cases fl with
 | ret u =>
  obtain ⟨v,σ',H',J,rv,q⟩:=hs;exact fin J rv q
 | next =>
  obtain ⟨σ',H',J,q⟩:=hs;exact fin (v:=V.non) (u:=Value.none) J rfl q
 | brk =>
  obtain ⟨_,_,_,q⟩:=hs;exact False.elim q
 | cont =>
  obtain ⟨_,_,_,q⟩:=hs;exact False.elim q
section
variable {X:Cx} {x:Str} {p pos:Pos} {e:Expr} {es:Jh} {t:TA} {id T:String} {r:Jn->Hp->VK->Prop}
def tCB (r:Jn->Hp->VK->Prop) (t:TA):TE:=λσ H Q=>t σ H λvs H1=>r vs H1 Q
def zw (hc:xq X (.builtin id) r) (hg:Gl X x) (hm:X.mg x=none) (hv:bootBuiltins x=some (.builtin id)) (ha:PA X (e::es) t) (hn:x≠"__name__":=by decide) (hdb:(x == ("__debug__":Str))=false:=by decide)
  (he:starEach (e::es) X.env=(false,eval e X.env)::starEach es X.env:=by rfl) (hpl:(backTo pos (starEach es X.env)).any (·.1)=false:=by rfl):PE X (.Call (.Name x p) (e::es) [] pos) (tCB r t):=by
 intro pins s σ H Q I h;refine wpAny_Call_Name_kw (Zc I hg hm hv ?_ hn hdb);exact PyProof.Rows.callWith_builtin1 (thn (ha pos pins s σ H _ I h) λus s1 ⟨vs,H1,I1,r1,q1⟩=>hc pins s1 σ H1 vs us Q I1 r1 q1) he hpl
def ya (hc:xq X (.type T) r) (hg:Gl X x) (hm:X.mg x=none) (hv:bootBuiltins x=some (.type T)) (ha:PA X (e::es) t) (hn:x≠"__name__":=by decide) (hdb:(x == ("__debug__":Str))=false:=by decide)
  (he:starEach (e::es) X.env=(false,eval e X.env)::starEach es X.env:=by rfl) (hpl:(backTo pos (starEach es X.env)).any (·.1)=false:=by rfl):PE X (.Call (.Name x p) (e::es) [] pos) (tCB r t):=by
 intro pins s σ H Q I h;refine wpAny_Call_Name_kw (Zc I hg hm hv ?_ hn hdb);exact PyProof.Rows.callWith_type1 (thn (ha pos pins s σ H _ I h) λus s1 ⟨vs,H1,I1,r1,q1⟩=>hc pins s1 σ H1 vs us Q I1 r1 q1) he hpl
end
end L2
namespace HT
open PySem PyProof.Rows
def lexLt:Jb->Jb->Bool
 | [],[]=>false
 | [],_::_=>true
 | _::_,[]=>false
 | x::xs,y::ys=>if x=y then lexLt xs ys else decide (x<y)
section
open PySem.SeqAt
open PySem.AutoSeq1 (wpAny_loadPart')
open PySem.MeetsSeq PySem.MeetsSeq2 PySem.MeetsSeq3
end
section
variable {prog:Program} {w:World} {A:Around} {E:Ja} {s:Sh}
def sIx (n d:Nat):Option Int->Nat
 | none=>d
 | some v=>if v<0 then (v+(n:Int)).toNat else min v.toNat n
def sIx_none (n d:Nat):sIx n d none=d:=rfl
end
end HT
namespace L2
open PySem PySem.Spec PyProof.Rows
abbrev TO:=St->Hp->(Option Int->Hp->Prop)->Prop
def PO (X:Cx) (e:Option Expr) (t:TO):Prop :=
 ∀ (pins:Jc) (s:Sh) (σ:St) (H:Hp) (Q:Option Int->Hp->Prop),Inv X pins σ H s->t σ H Q ->
  wpAny (model X.prog X.w) X.A (evalPart e X.env) (λu s'=>∃ o H',Inv X pins σ H' s'/\IsPart u o/\Q o H') X.xe s
def tNoPart:TO:=λ_ H Q=>Q none H
inductive tPart_S (Q:(Option Int->Hp->Prop)) (x:V) (H1:Hp):Prop
 | mk (i:_) (_:x=.int i) (_:Q (some i) H1)
def tPart (t:TE):TO:=λσ H Q=>t σ H λx H1=>tPart_S Q x H1
section
variable {X:Cx} {e:Expr} {te:TE} {lo hi:Option Expr} {tl th:TO} {pos p2:Pos}
def XC:PO X none tNoPart:=by
 intro pins s σ H Q I h;rw [evalPart_none];exact q0y ⟨none,H,I,.none,h⟩
def XB (h:PE X e te):PO X (some e) (tPart te):=by
 intro pins s σ H Q I hw;rw [evalPart_some];refine thn (h pins s σ H _ I hw) λu s1 ⟨x,H1,I1,r1,q1⟩=>?_;obtain ⟨i,rfl,q⟩:=q1;obtain ⟨t,rfl⟩:=r1;exact ⟨some i,H1,I1,.int i t,q⟩
def SlR (X:Cx) (r:V->Option Int->Option Int->Hp->VK->Prop):Prop :=
 ∀ (pins:Jc) (s:Sh) (σ:St) (H:Hp) (x:V) (v vl vu:Vl) (lo hi:Option Int) (sl:Ad) (Q:VK),Inv X pins σ H s->RelV x v->s.heap.IsSliceOf sl vl vu .none->IsPart vl lo->IsPart vu hi->r x lo hi H Q ->
  ∃ T id,typeLookup (.type T) "__getitem__"=pure (some (.builtin id))/\s.TypeIs v T/\wpAny (model X.prog X.w) X.A (getItem v (.ref sl)) (EP X pins σ Q) X.xe s
def tSl (r:V->Option Int->Option Int->Hp->VK->Prop) (te:TE) (tl th:TO):TE:=λσ H Q=>te σ H λx H1=>tl σ H1 λl H2=>th σ H2 λu H3=>r x l u H3 Q
def YG {r:V->Option Int->Option Int->Hp->VK->Prop} (hr:SlR X r) (he:PE X e te) (hl:PO X lo tl) (hu:PO X hi th):PE X (.Subscript e (.Slice lo hi none p2) pos) (tSl r te tl th):=by
 intro pins s σ H Q I h;refine Subscript_ (thn (he pins s σ H _ I h) λv s1 ⟨x,H1,I1,r1,q1⟩=>?_);refine wpAny_Slice (thn (hl pins s1 σ H1 _ I1 q1) λvl s2 ⟨l,H2,I2,pl,q2⟩=>thn (hu pins s2 σ H2 _ I2 q2) λvu s3 ⟨u,H3,I3,pu,q3⟩=>?_);rw [evalPart_none];refine q0y ?_;have I4:Inv X pins σ H3 { s3 with heap:=s3.heap.push { cls:=.type "slice",data:=.fields #[vl,vu,.none] } }:=I3.kept (t':=s3.toks) λb ob q=>Heap.get?_push_of_some _ q;obtain ⟨T,id,hT,ht,hg⟩:=hr pins { s3 with heap:=s3.heap.push { cls:=.type "slice",data:=.fields #[vl,vu,.none] } } σ H3 x v vl vu l u s3.heap.objs.size Q I4 r1 (Heap.IsSliceOf.new ..) pl pu q3;show wpAny (model X.prog X.w) X.A (subscriptTail e (.Slice lo hi none p2) v (.ref s3.heap.objs.size)) (EP X pins σ Q) X.xe { s3 with heap:=s3.heap.push { cls:=.type "slice",data:=.fields #[vl,vu,.none] } };exact tail_any (ops:=[.ref s3.heap.objs.size,v]) ht hT hg (by with_unfolding_all rfl)
def cutV (xs:Jn) (lo hi:Option Int):Jn:=(xs.drop (HT.sIx xs.length 0 lo)).take (HT.sIx xs.length xs.length hi-HT.sIx xs.length 0 lo)
def zdr (xs:Jn) (lo hi:Option Int):(cutV xs lo hi).length<=xs.length:=by
 unfold cutV;rw [List.length_take,List.length_drop];omega
end
def ixN (n:Nat) (i:Int):Option Nat:=if 0<=i then (if i<n then some i.toNat else none) else if -(n:Int)<=i then some (i+n).toNat else none
def atI {α:Type} (xs:List α) (i:Int):Option α:=(ixN xs.length i).bind λj=>xs[j]?
def ixN_seq {n:Nat} {i:Int} {j:Nat} (h:ixN n i=some j):seqIndex? i n=some j/\j<n/\-(n:Int)<=i/\i<n:=by
 unfold ixN at h;by_cases h0:0<=i
 ·rw [if_pos h0] at h
  by_cases h1:i<n
  ·rw [if_pos h1] at h
   have e:i.toNat=j:=Option.some.inj h;exact ⟨by rw [seqIndex_of h0 h1,e],by omega,by omega,h1⟩
  ·rw [if_neg h1] at h;cases h
 ·rw [if_neg h0] at h
  by_cases h1:-(n:Int)<=i
  ·rw [if_pos h1] at h
   have e:(i+n).toNat=j:=Option.some.inj h;exact ⟨by rw [seqIndex_neg (by omega) h1,e],by omega,h1,by omega⟩
  ·rw [if_neg h1] at h;cases h
theorem atI_get {α:Type} {xs:List α} {i:Int} {v:α} (h:atI xs i=some v):∃ j,seqIndex? i xs.length=some j/\xs[j]?=some v/\j<xs.length/\-(xs.length:Int)<=i/\i<xs.length:=by
 unfold atI at h
 cases e:ixN xs.length i with
 | none=>rw [e] at h;cases h
 | some j =>
  rw [e] at h;obtain ⟨h1,h2,h3,h4⟩:=ixN_seq e;exact ⟨j,h1,h,h2,h3,h4⟩
def zJ {α:Type} {xs:List α} {j:Nat} {v:α} (h:xs[j]?=some v):atI xs (j:Int)=some v:=by
 have hj:j<xs.length:=(List.getElem?_eq_some_iff.mp h).1
 have e:ixN xs.length (j:Int)=some j:=by
  unfold ixN;rw [if_pos (by omega),if_pos (by omega)];simp
 unfold atI;rw [e];exact h
def atI_last {α:Type} (xs:List α) (v:α):atI (xs++[v]) (-1)=some v:=by
 have hl:(xs++[v]).length=xs.length+1:=by simp
 have e:ixN (xs++[v]).length (-1)=some xs.length:=by
  unfold ixN;rw [hl,if_neg (by decide),if_pos (by omega)];congr 1;omega
 unfold atI;rw [e];show (xs++[v])[xs.length]?=some v;simp
def PlainIx (b:Expr):Prop:=∀ o i,subscripted b false o i=operate [o,i] (getItem o i)
def IxR (X:Cx) (r:R2):Prop :=
 ∀ (value slice:Expr) (pins:Jc) (s:Sh) (σ:St) (H:Hp) (x y:V) (v u:Vl) (Q:VK),Inv X pins σ H s->RelV x v->RelV y u->r x y H Q ->
  subscripted slice false v u=operate [v,u] (getItem v u)->wpAny (model X.prog X.w) X.A (subscriptTail value slice v u) (EP X pins σ Q) X.xe s
def MtR (X:Cx) (id:String) (r:V->Jn->Hp->VK->Prop):Prop :=
 ∀ (pins:Jc) (s:Sh) (σ:St) (H:Hp) (x:V) (xs:Jn) (v:Vl) (us:Jd) (Q:VK),Inv X pins σ H s->RelV x v->Vals xs us->r x xs H Q ->
  wpAny (model X.prog X.w) X.A (call (.builtin id) (v::us)) (EP X pins σ Q) X.xe s
section
variable {X:Cx} {a b:Expr} {ta tb:TE} {pos:Pos}
def zr {r:R2} (hr:IxR X r) (ha:PE X a ta) (hb:PE X b tb) (hs:PlainIx b):PE X (.Subscript a b pos) (tOp r ta tb):=by
 intro pins s σ H Q I h;exact Subscript_ (binT ha hb I h λv u s2 x y H2 I2 rx ry q=>hr a b pins s2 σ H2 x y v u Q I2 rx ry q (hs _ _))
inductive rIxL (K:Fg) (x y:V) (H:Hp) (Q:VK):Prop
 | mk (p xs:_) (i v:_) (_:x=.ref p) (_:y=.int i) (_:SqL K H p xs) (_:atI xs i=some v) (_:Q v H)
inductive rIxT (K:Fg) (x y:V) (H:Hp) (Q:VK):Prop
 | mk (p xs:_) (i v:_) (_:x=.ref p) (_:y=.int i) (_:SqT K H p xs) (_:atI xs i=some v) (_:Q v H)
def zE:IxR X (rIxL X.K):=by
 intro value slice pins s σ H x y v u Q I rx ry h hs;obtain ⟨p,xs,i,z,rfl,rfl,hq,he,q⟩:=h;cases rx;obtain ⟨t,rfl⟩:=ry;obtain ⟨its,r,pl,hz⟩:=I.list hq;obtain ⟨j,h1,h2,h3,h4,h5⟩:=atI_get he;obtain ⟨w,ew,rw'⟩:=r.get h2;have hl:=r.length;have hn:=zce;have fin:EP X pins σ Q w s:=⟨z,H,I,rw',q⟩;by_cases h0:0<=i
 ·have hj:i.toNat=j:=by
   rw [seqIndex_of h0 h5] at h1;exact Option.some.inj h1
  exact item_listR pl.isList h0 (by omega) (by rw [hj];simpa using ew) fin hs
 ·have hj:(i+(its.toArray.size:Int)).toNat=j:=by
   rw [seqIndex_neg (by omega) h4] at h1;rw [List.size_toArray,← hl];exact Option.some.inj h1
  exact subscriptTail_builtinR (x:=w) pl.isList.typeIs slot_list_getitem.lookup
   (wpAny_getItem_list_neg (Q:=λr s'=>r=w/\EP X pins σ Q r s') pl.isList (by omega) (by rw [List.size_toArray] <;> omega) (by omega) (by rw [hj];simpa using ew) ⟨rfl,fin⟩) hs
def zR:IxR X (rIxT X.K):=by
 intro value slice pins s σ H x y v u Q I rx ry h hs;obtain ⟨p,xs,i,z,rfl,rfl,hq,he,q⟩:=h;cases rx;obtain ⟨t,rfl⟩:=ry;obtain ⟨its,r,pl,hz⟩:=I.tuple hq;obtain ⟨j,h1,h2,h3,h4,h5⟩:=atI_get he;obtain ⟨w,ew,rw'⟩:=r.get h2;have hl:=r.length;have hn:=zce;have fin:EP X pins σ Q w s:=⟨z,H,I,rw',q⟩;exact subscriptTail_builtinR (x:=w) pl.typeIs slot_tuple_getitem.lookup
  (getItem_tuple (j:=j) (Q:=λr s'=>r=w/\EP X pins σ Q r s') pl (by omega) (by omega) (by rw [List.size_toArray,← hl];exact h1) (by simpa using ew) ⟨rfl,fin⟩) hs
def zeh (its:Jd) (n j:Nat) (u:Vl):Obj.mapSeq (·.setIfInBounds j u) { cls:=.type "list",data:=.seq its.toArray n }={ cls:=.type "list",data:=.seq (its.set j u).toArray n }:=by
 simp [Obj.mapSeq]
def Inv.lst {pins:Jc} {σ:St} {H:Hp} {s:Sh} {p:Ad} {xs:Jn} (I:Inv X pins σ H s) (h:H p=some (.lst xs)) :
  ∃ (its:Jd) (n:Nat),Vals xs its/\s.heap.get? p=some { cls:=.type "list",data:=.seq its.toArray n }/\xs.length<=sizeLine:=by
 obtain ⟨z,its,n,r,e⟩:=I.hok p _ h;exact ⟨its,n,r,e,z⟩
def Inv.lstUpd {pins:Jc} {σ:St} {H:Hp} {s:Sh} {p:Ad} {xs ys:Jn} {its its':Jd} {n n':Nat} {f:Obj->Obj} (I:Inv X pins σ H s) (h:H p=some (.lst xs))
  (ho:s.heap.get? p=some { cls:=.type "list",data:=.seq its.toArray n }) (hf:f { cls:=.type "list",data:=.seq its.toArray n }={ cls:=.type "list",data:=.seq its'.toArray n' }) (r:Vals ys its') (hz:ys.length<=sizeLine) (t:Nat) :
  Inv X pins σ (upd H p (.lst ys)) { s with heap:=s.heap.update p f,toks:=t }:=by
 have e:(s.heap.update p f).get? p=some { cls:=.type "list",data:=.seq its'.toArray n' }:=by
  rw [Heap.get?_update_self f ho (by rw [hf] <;> rfl),hf]
 refine I.write (x:=p) (e:=p) (by rw [h];trivial) (.inl rfl) (λb u hb q=>(Heap.get?_update_other _ _ (Ne.symm hb)).trans q) ⟨_,e⟩ ?_;exact ⟨hz,its',n',r,e⟩
inductive rSetL (o i v:V) (H:Hp) (Q:(Hp->Prop)):Prop
 | mk (p xs:_) (k j:_) (_:o=.ref p) (_:i=.int k) (_:H p=some (.lst xs)) (_:ixN xs.length k=some j) (_:Q (upd H p (.lst (xs.set j v))))
def ZA:PSet X rSetL:=by
 intro pins s σ H o i v ov iv u Q I ro ri rv h;obtain ⟨p,xs,k,j,rfl,rfl,hp,hj,q⟩:=h;cases ro;obtain ⟨t,rfl⟩:=ri;obtain ⟨its,n,r,ho,hz⟩:=I.lst hp;obtain ⟨h1,h2,h3,h4⟩:=ixN_seq hj;have hl:=r.length;have hn:=zce
 have I':Inv X pins σ (upd H p (.lst (xs.set j v))) { s with heap:=s.heap.update p (Obj.mapSeq (·.setIfInBounds j u)) } :=
  I.lstUpd hp ho (zeh its n j u) (r.set rv j) (by rw [List.length_set];exact hz) s.toks
 by_cases h0:0<=k
 ·have hk:k.toNat=j:=by
   rw [seqIndex_of h0 h4] at h1;exact Option.some.inj h1
  exact PySem.W.ki_setAt ho h0 (by omega) (by rw [List.size_toArray,← hl];exact h4) (by rw [hk];exact ⟨_,I',q⟩)
 ·have hk:(k+(its.toArray.size:Int)).toNat=j:=by
   rw [seqIndex_neg (by omega) h3] at h1;rw [List.size_toArray,← hl];exact Option.some.inj h1
  exact PySem.W.ki_setBack ho (by omega) (by rw [List.size_toArray,← hl];exact h3) (by omega) (by rw [hk];exact ⟨_,I',q⟩)
theorem zbv (lo hi:Option Int) (n:Nat):(sliceBounds lo hi none n).1=((HT.sIx n 0 lo:Nat):Int)/\(sliceBounds lo hi none n).2.1=((HT.sIx n n hi:Nat):Int)/\(sliceBounds lo hi none n).2.2=1:=by
 refine ⟨?_,?_,rfl⟩
 ·cases lo with
  | none=>simp [sliceBounds,HT.sIx]
  | some i =>
   simp only [sliceBounds,HT.sIx,Option.getD_none,show (1:Int) > 0 by decide,if_true];by_cases h:i<0
   ·simp only [h,if_true] <;> omega
   ·simp only [h,if_false] <;> omega
 ·cases hi with
  | none=>simp [sliceBounds,HT.sIx]
  | some i =>
   simp only [sliceBounds,HT.sIx,Option.getD_none,show (1:Int) > 0 by decide,if_true];by_cases h:i<0
   ·simp only [h,if_true] <;> omega
   ·simp only [h,if_false] <;> omega
def zat (its:Jd) (lo hi:Option Int):slicePick its.toArray lo hi none=((its.drop (HT.sIx its.length 0 lo)).take (HT.sIx its.length its.length hi-HT.sIx its.length 0 lo)).toArray:=by
 obtain ⟨h1,h2,h3⟩:=zbv lo hi its.toArray.size;unfold slicePick;rw [h1,h2,h3];simp only [sliceRange_one,pick_run,List.size_toArray] <;> rfl
inductive rSlL (K:Fg) (x:V) (lo hi:Option Int) (H:Hp) (Q:VK):Prop
 | mk (a xs:_) (_:x=.ref a) (_:SqL K H a xs) (_:∀ p,H p=none->Q (.ref p) (upd H p (.lst (cutV xs lo hi))))
def Xv:SlR X (rSlL X.K):=by
 intro pins s σ H x v vl vu lo hi sl Q I rx hs pl pu h;obtain ⟨a,xs,rfl,hx,q⟩:=h;cases rx;obtain ⟨its,r,ht,hz⟩:=I.list hx;have hlen:=r.length;refine ⟨"list",_,slot_list_getitem.lookup,ht.isList.typeIs,?_⟩;refine wpAny_getItem_list_slice ht.isList hs pl pu .none (by simp) ?_ (by rw [List.size_toArray] <;> omega);rw [zat,← hlen];refine ⟨.ref s.heap.objs.size,_,I.laid (t':=s.toks) (o:=.lst (cutV xs lo hi)) (λb ob q=>Heap.get?_push_of_some _ q) (Nat.le_refl _) ?_,rfl,q _ (I.hok.fresh (Nat.le_refl _))⟩;exact ⟨Nat.le_trans (zdr xs lo hi) hz,_,0,(r.drop (HT.sIx xs.length 0 lo)).take (HT.sIx xs.length xs.length hi-HT.sIx xs.length 0 lo),Heap.get?_push_size _ rfl⟩
def Yk:V->Bool
 | .non=>true
 | .bl _=>true
 | .int _=>true
 | .str _=>true
 | _=>false
def eqV:V->V->Bool
 | .non,.non=>true
 | .bl a,.bl b=>a == b
 | .bl a,.int b=>(if a then 1 else 0) == b
 | .int a,.bl b=>a == (if b then 1 else 0)
 | .int a,.int b=>a == b
 | .str a,.str b=>a == b
 | _,_=>false
theorem eqAt_V {A:Around} {s:Sh} {y x:V} {u v:Vl} (ry:RelV y u) (rx:RelV x v) (fy:Yk y=true) (fx:Yk x=true):SeqAt.EqAt A s u v (eqV y x):=by
 cases y with
 | non =>
  cases ry
  cases x with
  | non=>cases rx;exact SeqAt.EqAt.same _
  | bl b=>cases rx;exact SeqAt.EqAt.none_bool b
  | int b=>obtain ⟨t,rfl⟩:=rx;exact SeqAt.EqAt.none_int b t
  | str b=>obtain ⟨t,rfl⟩:=rx;exact SeqAt.EqAt.none_str b t
  | _=>exact absurd (show false=true from fx) q2x
 | bl a =>
  cases ry
  cases x with
  | non=>cases rx;exact SeqAt.EqAt.bool_none a
  | bl b=>cases rx;exact SeqAt.EqAt.bool_bool a b
  | int b=>obtain ⟨t,rfl⟩:=rx;exact SeqAt.EqAt.bool_int a b t
  | str b=>obtain ⟨t,rfl⟩:=rx;exact SeqAt.EqAt.bool_str a b t
  | _=>exact absurd (show false=true from fx) q2x
 | int a =>
  obtain ⟨t',rfl⟩:=ry
  cases x with
  | non=>cases rx;exact SeqAt.EqAt.int_none a t'
  | bl b=>cases rx;exact SeqAt.EqAt.int_bool a t' b
  | int b=>obtain ⟨t,rfl⟩:=rx;exact SeqAt.EqAt.int_int a t' b t
  | str b=>obtain ⟨t,rfl⟩:=rx;exact SeqAt.EqAt.int_str a t' b t
  | _=>exact absurd (show false=true from fx) q2x
 | str a =>
  obtain ⟨t',rfl⟩:=ry
  cases x with
  | non=>cases rx;exact SeqAt.EqAt.str_none a t'
  | bl b=>cases rx;exact SeqAt.EqAt.str_bool a t' b
  | int b=>obtain ⟨t,rfl⟩:=rx;exact SeqAt.EqAt.str_int a t' b t
  | str b=>obtain ⟨t,rfl⟩:=rx;exact SeqAt.EqAt.str_str a t' b t
  | _=>exact absurd (show false=true from fx) q2x
 | _=>exact absurd (show false=true from fy) q2x
def eqU (x:V) (u:Vl):Bool:=match u with
 | .none=>eqV .non x
 | .bool b=>eqV (.bl b) x
 | .int i _=>eqV (.int i) x
 | .str z _=>eqV (.str z) x
 | _=>false
theorem eqU_of {x y:V} {u:Vl} (r:RelV y u) (f:Yk y=true):eqU x u=eqV y x:=by
 cases y with
 | non=>cases r;rfl
 | bl b=>cases r;rfl
 | int i=>obtain ⟨t,rfl⟩:=r;rfl
 | str z=>obtain ⟨t,rfl⟩:=r;rfl
 | _=>exact absurd (show false=true from f) q2x
theorem zcp {x:V}:∀ {xs:Jn} {us:Jd},Vals xs us->xs.all Yk=true->us.any (eqU x)=xs.any λy=>eqV y x
 | _,_,.nil,_=>rfl
 | y::xs,u::us,.cons r t,f=>by
  rw [List.all_cons,Bool.and_eq_true] at f;rw [List.any_cons,List.any_cons,eqU_of r f.1,zcp t f.2]
theorem zab {A:Around} {s:Sh} {x:V} {v:Vl} (rx:RelV x v) (fx:Yk x=true):∀ {xs:Jn} {us:Jd},Vals xs us->xs.all Yk=true->∀ u∈us,SeqAt.EqAt A s u v (eqU x u)
 | _,_,.nil,_=>λu hu=>by cases hu
 | y::xs,u::us,.cons r t,f=>λu' hu=>by
  rw [List.all_cons,Bool.and_eq_true] at f;rcases List.mem_cons.mp hu with rfl | hu
  ·rw [eqU_of r f.1];exact eqAt_V r rx f.1 fx
  ·exact zab rx fx t f.2 u' hu
def inV (x:V) (xs:Jn):Bool:=xs.any λy=>eqV y x
inductive rIn (K:Fg) (neg:Bool) (x y:V) (H:Hp) (Q:VK):Prop
 | mk (p xs:_) (_:y=.ref p) (_:(SqL K H p xs∨SqT K H p xs)) (_:Yk x=true) (_:xs.all Yk=true) (_:Q (.bl (if neg then !inV x xs else inV x xs)) H)
def op_in_seq:OpR X (compareOp .In) (rIn X.K false):=by
 intro pins s σ H x y v u Q I rx ry h;obtain ⟨p,xs,rfl,hq,fx,fs,q⟩:=h;cases ry;rcases hq with hq | hq
 ·obtain ⟨its,r,pl,hz⟩:=I.list hq
  refine SeqAt.in_listAt (eqU x) pl.isList (λw hw=>zab rx fx r fs w (by simpa using hw)) ⟨.bl _,H,I,rfl,?_⟩;rw [show its.toArray.any (eqU x)=its.any (eqU x) by simp,zcp r fs];exact q
 ·obtain ⟨its,r,pl,hz⟩:=I.tuple hq
  refine SeqAt.in_tupleAt (eqU x) pl (λw hw=>zab rx fx r fs w (by simpa using hw)) ⟨.bl _,H,I,rfl,?_⟩;rw [show its.toArray.any (eqU x)=its.any (eqU x) by simp,zcp r fs];exact q
def zP:xq X (.builtin "len") (λxs H Q=>∃ p ys,xs=[.ref p]/\(SqL X.K H p ys∨SqT X.K H p ys)/\Q (.int ys.length) H):=by
 intro pins s σ H xs us Q I r h;obtain ⟨p,ys,rfl,hq,q⟩:=h;obtain ⟨u,rfl,rx⟩:=Yu r;cases rx;have hn:=zce;rcases hq with hq | hq
 ·obtain ⟨its,r',pl,hz⟩:=I.list hq
  have hlen:=r'.length;exact Calls.call_len_list pl.isList (by simp only [List.size_toArray] <;> omega) ⟨.int ys.length,H,I.tok _,⟨s.toks+1,by rw [List.size_toArray,hlen]⟩,q⟩
 ·obtain ⟨its,r',pl,hz⟩:=I.tuple hq
  have hlen:=r'.length;exact len_tuple pl (by simp only [List.size_toArray] <;> omega) ⟨.int ys.length,H,I.tok _,⟨s.toks+1,by rw [List.size_toArray,hlen]⟩,q⟩
def yc:xq X (.type "list") (λxs H Q=>∃ p ys,xs=[.ref p]/\(SqL X.K H p ys∨SqT X.K H p ys)/\∀ l,H l=none->Q (.ref l) (upd H l (.lst ys))):=by
 intro pins s σ H xs us Q I r h;obtain ⟨p,ys,rfl,hq,q⟩:=h;obtain ⟨u,rfl,rx⟩:=Yu r;cases rx
 have fin:∀ (its:Jd),Vals ys its->ys.length<=sizeLine->∀ (h':Heap) (c':Nat),(∀ b o',s.heap.get? b=some o'->h'.get? b=some o') ->
   h'.get? s.heap.objs.size=some { cls:=.type "list",dict:=none,data:=.seq its.toArray c',slots:=#[] }->EP X pins σ Q (.ref s.heap.objs.size) { s with heap:=h' }:=λits r' hz h' c' kp e =>
  ⟨.ref s.heap.objs.size,_,I.laid (t':=s.toks) kp (Nat.le_refl _) (show ObjOk X.prog X.w _ h' _ (.lst ys) from ⟨hz,its,c',r',e⟩),rfl,q _ (I.hok.fresh (Nat.le_refl _))⟩
 rcases hq with hq | hq
 ·obtain ⟨its,r',pl,hz⟩:=I.list hq
  have hlen:=r'.length;obtain ⟨o,ho,hc,n,hd⟩:=pl.isList;exact call_list_seq p (.inl rfl) ho hc hd (λh' c' kp e=>fin its r' hz h' c' kp e) (by simp only [List.size_toArray] <;> omega)
 ·obtain ⟨its,r',pl,hz⟩:=I.tuple hq
  have hlen:=r'.length;obtain ⟨o,ho,hc,n,hd⟩:=pl;exact call_list_seq p (.inr rfl) ho hc hd (λh' c' kp e=>fin its r' hz h' c' kp e) (by simp only [List.size_toArray] <;> omega)
def tyV (K:Fg) (T:String) (x:V) (H:Hp):Prop:=match x with
 | .str _=>T="str"
 | .int _=>T="int"
 | .ref p=>(T="list"/\∃ xs,SqL K H p xs)∨(T="tuple"/\∃ o,K.lookup p=some o/\o.cls=.type "tuple"/\o.dict=none) ∨
   (T="dict"/\((∃ kvs,H p=some (.dK kvs))∨∃ kvs,H p=some (.dT kvs)))∨(T="set"/\∃ S n,H p=some (.set S n))
 | _=>False
theorem tyV_is {pins:Jc} {σ:St} {H:Hp} {s:Sh} {T:String} {x:V} {v:Vl} (I:Inv X pins σ H s) (r:RelV x v) (ty:tyV X.K T x H) :
  s.TypeIs v T/\∀ a,v=.ref a->∃ ob,s.heap.get? a=some ob/\ob.dict=none:=by
 cases x with
 | str z =>
  obtain ⟨t,rfl⟩:=r;cases (show T="str" from ty);exact ⟨typeIs_str s z t,λ_ e=>nomatch e⟩
 | int i =>
  obtain ⟨t,rfl⟩:=r;cases (show T="int" from ty);exact ⟨typeIs_int s i t,λ_ e=>nomatch e⟩
 | ref p =>
  cases r;rcases ty with ⟨rfl,xs,hq⟩ | ⟨rfl,o,hk,hc,hd⟩ | ⟨rfl,hk⟩ | ⟨rfl,S,n,hk⟩
  ·obtain ⟨its,_,pl,_⟩:=I.list hq
   refine ⟨pl.isList.typeIs,λa e=>?_⟩;cases e;obtain ⟨o,n,e,c,hd,_⟩:=pl;exact ⟨o,e,hd⟩
  ·refine ⟨⟨o,I.kIn p o hk,hc⟩,λa e=>?_⟩
   cases e;exact ⟨o,I.kIn _ o hk,hd⟩
  ·have z:∃ o,s.heap.get? p=some o/\o.ExactDict:=by
    rcases hk with ⟨kvs,hk⟩ | ⟨kvs,hk⟩
    ·obtain ⟨_,_,_,_,o,_,_,e,ex,_⟩:=I.hok p _ hk
     exact ⟨o,e,ex⟩
    ·obtain ⟨_,_,_,_,o,_,_,e,ex,_⟩:=I.hok p _ hk
     exact ⟨o,e,ex⟩
   obtain ⟨o,e,ex⟩:=z;refine ⟨⟨o,e,ex.1⟩,λa e2=>?_⟩;cases e2;exact ⟨o,e,ex.2.1⟩
  ·obtain ⟨o,_,_,_,e,ex,_⟩:=I.hok p _ hk
   refine ⟨⟨o,e,ex.1⟩,λa e2=>?_⟩;cases e2;exact ⟨o,e,ex.2.1⟩
 | _=>exact False.elim ty
def tBM (K:Fg) (T:String) (r:V->Jn->Hp->VK->Prop) (to:TE) (t:TA):TE:=λσ H Q=>to σ H λx H1=>tyV K T x H1/\t σ H1 λxs H2=>r x xs H2 Q
variable {o e:Expr} {es:Jh} {to:TE} {t:TA} {name:Str} {apos cpos:Pos} {T id:String} {r:V->Jn->Hp->VK->Prop}
def pe_bm (pa:PlainAttrs T) (slot:Slot T name id) (hty:typeOf (.builtin id)=pure (.type "method_descriptor")) (hm:MtR X id r) (ho:PE X o to) (ha:PA X (e::es) t)
  (hbase:attributeBase o name X.env (eval o X.env)=eval o X.env:=by rfl)
  (hfew:((backTo cpos (starEach (e::es) X.env)).all (λx=>!x.1) && (backToKw cpos (keywordEach [] X.env)).all (λx=>x.1.isSome)
   && decide ((e::es).length+([]:List Keyword).length+(if ([]:List Keyword).isEmpty then 0 else 1)<30))=true:=by rfl)
  (hline:(apos.endLine == cpos.line)=true:=by rfl) (hs:starEach (e::es) X.env=(false,eval e X.env)::starEach es X.env:=by rfl) (hplain:(backTo cpos (starEach es X.env)).any (·.1)=false:=by rfl) :
  PE X (.Call (.Attribute o name apos) (e::es) [] cpos) (tBM X.K T r to t):=by
 intro pins s σ H Q I h;refine wpAny_Call_method_late hbase hfew hline rfl (thn (ho pins s σ H _ I h) λv s1 ⟨x,H1,I1,r1,ty,q1⟩=>?_);obtain ⟨h1,h2⟩:=tyV_is I1 r1 ty;refine ⟨T,id,pa,slot,hty,h1,h2,?_⟩;have hA:=ha cpos pins s1 σ H1 _ I1 q1;rw [hs] at hA ⊢;refine Calls.callWith_builtin (by show (false || (backTo cpos (starEach es X.env)).any (·.1))=false;rw [hplain] <;> rfl) (Calls.evalArgs_plain ?_);exact thn hA λus s2 ⟨vs,H2,I2,r2,q2⟩=>hm pins s2 σ H2 x vs v us Q I2 r1 r2 q2
/- xs.append(e),list.index on a module's tuple .. are MtR facts of 06m -/
end
def MtM (X:Cx) (id:String) (r:V->Jn->Hp->VK->Prop):Prop :=
 ∀ (pins:Jc) (s:Sh) (σ:St) (H:Hp) (x:V) (xs:Jn) (v:Vl) (us:Jd) (Q:VK),Inv X pins σ H s->RelV x v->Vals xs us->r x xs H Q ->
  wpAny (model X.prog X.w) X.A (call (.builtin id) (v::us)) (EP X pins σ Q) X.xe s
theorem Vals.one:∀ {x:V} {us:Jd},Vals [x] us->∃ u,us=[u]/\RelV x u
 | _,_,.cons r .nil=>⟨_,rfl,r⟩
theorem Vals.rep {xs:Jn} {us:Jd} (h:Vals xs us):∀ k:Nat,Vals (List.replicate k xs).flatten (List.replicate k us).flatten
 | 0=>.nil
 | k+1=>by
  rw [List.replicate_succ,List.replicate_succ,List.flatten_cons,List.flatten_cons];exact Vals.append h (Vals.rep h k)
theorem zbb (its:Jd):∀ (k:Nat) (acc:Jd),
  List.foldl (λx1 x2=>x1++x2) acc.toArray (List.replicate k its.toArray)=(acc++(List.replicate k its).flatten).toArray
 | 0,acc=>by simp
 | k+1,acc=>by
  have e:acc.toArray++its.toArray=(acc++its).toArray:=by simp
  have e2:(acc++its)++(List.replicate k its).flatten=acc++(List.replicate (k+1) its).flatten:=by
   rw [List.replicate_succ,List.flatten_cons,List.append_assoc]
  rw [← e2,← zbb its k (acc++its),← e,List.replicate_succ,List.foldl_cons]
section
variable {X:Cx} {pins:Jc} {σ:St} {H:Hp} {s:Sh} {l b:Ad} {xs ys zs:Jn}
def Inv.lset {its its':Jd} {n:Nat} {f:Array Vl->Array Vl} {t':Nat} (I:Inv X pins σ H s) (hH:H l=some (.lst xs))
  (e:s.heap.get? l=some { cls:=.type "list",data:=.seq its.toArray n }) (hf:f its.toArray=its'.toArray) (hv:Vals ys its') (hz:ys.length<=sizeLine) :
  Inv X pins σ (upd H l (.lst ys)) { s with heap:=s.heap.update l (Obj.mapSeq f),toks:=t' }:=by
 have q:=PySem.IsL.update e f;rw [hf] at q;refine I.write (x:=l) (e:=l) (by rw [hH];exact trivial) (.inl rfl) (λb' u hb hu=>(Heap.get?_update_other s.heap (Obj.mapSeq f) (Ne.symm hb)).trans hu) ⟨_,q⟩ ?_;exact ⟨hz,its',_,hv,q⟩
def Inv.lnew {its:Jd} {t':Nat} (I:Inv X pins σ H s) (hv:Vals ys its) (hz:ys.length<=sizeLine) :
  Inv X pins σ (upd H s.heap.objs.size (.lst ys)) { s with heap:=s.heap.push { cls:=.type "list",data:=.seq its.toArray },toks:=t' } :=
 I.laid (λ_ _ q=>Heap.get?_push_of_some _ q) (Nat.le_refl _) ⟨hz,its,0,hv,Heap.get?_push_size _ rfl⟩
def Inv.fresh (I:Inv X pins σ H s):H s.heap.objs.size=none:=I.hok.fresh (Nat.le_refl _)
def Inv.lstM (I:Inv X pins σ H s) (hH:H l=some (.lst xs)):xs.length<=sizeLine/\∃ (its:Jd) (n:Nat),Vals xs its/\xs.length=its.length/\s.heap.get? l=some { cls:=.type "list",data:=.seq its.toArray n }:=by
 obtain ⟨z,its,n,r,e⟩:=I.hok l _ hH;exact ⟨z,its,n,r,r.length,e⟩
def notLongL {n:Nat} (h:n<=sizeLine):Builtin.List.listTooLong n=false:=by
 unfold Builtin.List.listTooLong;exact decide_eq_false (by omega)
end
section
variable {X:Cx}
inductive rAppend (x:V) (vs:Jn) (H:Hp) (Q:VK):Prop
 | mk (l xs y:_) (_:x=.ref l) (_:vs=[y]) (_:H l=some (.lst xs)) (_:xs.length<sizeLine) (_:Q .non (upd H l (.lst (xs++[y]))))
def xv:MtM X "list.append" rAppend:=by
 intro pins s σ H x vs v us Q I rx rv h;obtain ⟨l,xs,y,rfl,rfl,hH,hz,q⟩:=h;cases rx;obtain ⟨u,rfl,ru⟩:=rv.one;obtain ⟨z,its,n,r,hl,e⟩:=I.lstM hH;refine call_meets F.slot_list_append ⟨_,e,rfl⟩ F.entry_list_append (F.args_list_append_2 _ _) (PySem.list_append l its.toArray n u (by rw [List.size_toArray];omega)) ⟨e,?_⟩;refine ⟨.non,_,I.lset (its':=its++[u]) hH e (by simp) (r.append (.cons ru .nil)) ?_,rfl,q⟩;rw [Jj,List.length_singleton];omega
inductive rCat (x y:V) (H:Hp) (Q:VK):Prop
 | mk (l b:_) (xs zs:_) (_:x=.ref l) (_:y=.ref b) (_:H l=some (.lst xs)) (_:H b=some (.lst zs)) (_:xs.length+zs.length<=sizeLine) (_:∀ p,H p=none->Q (.ref p) (upd H p (.lst (xs++zs))))
def ZN:OpR X (binaryOp .Add) rCat:=by
 intro pins s σ H x y v u Q I rx ry h;obtain ⟨l,b,xs,zs,rfl,rfl,hH,hB,hz,q⟩:=h;cases rx;cases ry;obtain ⟨z,its,n,r,hl,e⟩:=I.lstM hH;obtain ⟨z2,its2,n2,r2,hl2,e2⟩:=I.lstM hB;refine PySem.P.add_list e e2 ?_ (by rw [List.size_toArray,List.size_toArray];omega);have ea:its.toArray++its2.toArray=(its++its2).toArray:=by simp
 rw [ea];exact ⟨.ref _,_,I.lnew (t':=s.toks) (r.append r2) (by rw [Jj];omega),rfl,q _ I.fresh⟩
inductive rRep (x y:V) (H:Hp) (Q:VK):Prop
 | mk (l k xs:_) (_:x=.ref l) (_:y=.int k) (_:H l=some (.lst xs)) (_:-(2 ^ 63)<=k) (_:k<2 ^ 63) (_:xs.length*k.toNat<=sizeLine) (_:∀ p,H p=none->Q (.ref p) (upd H p (.lst (List.replicate k.toNat xs).flatten)))
theorem len_rep {α:Type} (xs:List α) (k:Nat):(List.replicate k xs).flatten.length=k*xs.length:=by
 induction k with
 | zero=>simp
 | succ k ih=>rw [List.replicate_succ,List.flatten_cons,Jj,ih,Nat.succ_mul,Nat.add_comm]
theorem op_rep:OpR X (binaryOp .Mult) rRep:=by
 intro pins s σ H x y v u Q I rx ry h;obtain ⟨l,k,xs,rfl,rfl,hH,h1,h2,hz,q⟩:=h;cases rx;obtain ⟨t,rfl⟩:=ry;obtain ⟨z,its,n,r,hl,e⟩:=I.lstM hH;have hlen:its.toArray.size*k.toNat<=sizeLine:=by rw [List.size_toArray,← hl];exact hz
 have hcap:¬ its.toArray.size*k.toNat > (2 ^ 63-1) / 8:=by
  have:(sizeLine:Nat)<=(2 ^ 63-1) / 8:=by decide
  omega
 have hfit:¬ (!Builtin.List.listFitsIndex k)=true:=by
  rw [fitsIndex_both h1 h2];exact q2x
 have hlong:¬ Builtin.List.listTooLong (its.toArray.size*k.toNat)=true:=by
  rw [notLongL hlen];exact q2x
 have hnew:List.foldl (λx1 x2=>x1++x2) #[] (List.replicate (if its.toArray.isEmpty=true then 0 else k.toNat) its.toArray)=(List.replicate k.toNat its).flatten.toArray:=by
  have f0:∀ m:Nat,List.foldl (λx1 x2=>x1++x2) #[] (List.replicate m its.toArray)=(List.replicate m its).flatten.toArray:=λm=>by
   have:=zbb its m [];rw [List.nil_append] at this;exact this
  rw [f0]
  cases its with
  | nil=>simp
  | cons a r'=>rw [if_neg (by simp)]
 refine wpAny_binaryOp_repeat_ref (T:="list") (U:="int") (by decide) ⟨_,e,rfl⟩ (λs'=>typeIs_int s' k t) noFill_list_mul F.fills_int_mul F.slot_int_rmul repeat_list F.slot_int_index.lookup
  (call_meets F.slot_int_rmul (typeIs_int s k t) F.entry_int_rmul (F.args_int_rmul_2 _ _) (int___rmul___int_list k t l its.toArray n)
   ⟨e,rfl,⟨_,e,rfl⟩,call_meets F.slot_list_mul ⟨_,e,rfl⟩ F.entry_list_mul (F.args_list_mul_2 _ _) (AutoListH.list___mul___list_int_3 l its.toArray n k t hfit hcap hlong) ⟨e,?_⟩⟩)
 rw [hnew];exact ⟨.ref _,_,I.lnew (t':=s.toks) (r.rep k.toNat) (by rw [len_rep,Nat.mul_comm];exact hz),rfl,q _ I.fresh⟩
end
section
variable {prog:Program} {w:World} {A:Around} {E:Ja} {s:Sh}
set_option maxRecDepth 100000 in
end
section
variable {X:Cx}
end
end L2
namespace Att
open PySem PySem.W PySem.Calls PyProof.Rows
theorem Xu {P:Params} {h:Heap}:∀ (ns:Jb) (vs:Jd),WellAll P h vs (ns.map WData.int)->IntsAre vs ns:=by
 intro ns
 induction ns with
 | nil =>
  intro vs w;rw [List.map_nil] at w;cases w;exact .nil
 | cons n ns ih =>
  intro vs w;rw [List.map_cons] at w
  cases w with
  | cons a b =>
   cases a;exact .cons _ _ (ih _ b)
theorem script_of {l:OpenLaw} {n:Nat} (hn:l.most=some n) {P:Params} {h:Heap} {args:List WData} {vals:Jd}
  (hpre:l.row.toRowW.claim.pre args=true) (hwl:WellAll P h vals args) :
  ∃ a vs ns,vals=[Value.ref a]/\args=[WData.list (ns.map WData.int)]/\h.get? a=some { cls:=.type "list",data:=.seq vs.toArray }/\IntsAre vs ns/\ns.length<=n:=by
 have hsh:WShape.hasAll [] args [.list .int]=true:=(pre_splitW hpre).1;have hc:l.pre.holds [] { args:=args }=true:=(pre_splitW hpre).2;obtain ⟨d,r,rfl,h1,h2⟩:=hasAllW_cons hsh;obtain rfl:=hasAllW_nil h2;obtain ⟨xs,rfl,h3⟩:=hasW_list h1;obtain ⟨ns,rfl⟩:=items_int h3
 have hlen:ns.length<=n:=by
  unfold OpenLaw.pre at hc
  have h4:(WTm.not (.lt (.lit (.int (n:Int))) (.len (.arg 0)))).holds [] { args:=[.list (ns.map .int)] }=true:=by
   have h4:=(holds_andW hc).1;rw [hn] at h4;exact h4
  have h5:=condW_of h4 (w_not (w_lt w_lit (w_len_list (w_arg rfl))));rw [Ji] at h5;refine Nat.le_of_not_lt λq=>?_;have q':(n:Int)<((ns.length:Nat):Int):=by omega
  first
   | (rw [decide_eq_true q'] at h5;exact absurd h5 (by decide))
   | (simp at h5;omega)
 cases hwl with
 | cons w1 w2 =>
  cases w2
  cases w1 with
  | list ho hall=>exact ⟨_,_,ns,rfl,rfl,ho,Xu ns _ hall,hlen⟩
def post_true (l:OpenLaw) (args:List WData):l.row.toRowW.claim.post args (.bool true) args=true :=
 postW_of (r:=l.row.toRowW) (X:=(true == true))
  (show WShape.has [] (.bool true) .bool=true by first | rfl | decide | simp [WShape.has,WShape.arms,WShape.armsAll])
  (show (WTm.eq .res (.lit (.bool true))).value [] { args:=args,res:=some (.bool true),after:=args }=some (.bool (true == true)) from w_eq_bool (w_res rfl) w_lit) rfl
def attach_call {l:OpenLaw} {n:Nat} {q:Program} {loose:Jf} {XP:(J0)->Heap->Prop} {YP:World->Heap->Prop} {d:DefRec}
  (hn:l.most=some n) (hdf:d.params.defaults=[])
  (call:∀ (w:World) (s₀ s₁:Sh) (mg mb:J0) (fa:Ad) (o:Obj) (pm cd doc:Vl) (a:Ad) (vs:Jd) (ns:Jb),
   Ground q loose [] XP w s₀ mg mb s₁.heap->YP w s₁.heap ->
   s₁.heap.get? fa=some o->o.data=.func (docDef d.name d.params d.body d.scope pm cd doc)->s₁.heap.CodeRec cd d.name->mg d.name=some (.ref fa) ->
   s₁.heap.get? a=some { cls:=.type "list",data:=.seq vs.toArray }->IntsAre vs ns->ns.length<=n->s₁.gens=#[] ->
   codeAny (model l.prog w) callerA (.call (.ref fa) ⟨[.ref a],[]⟩) (λr s'=>r=.ok (.ret (.bool true))/\OldK s₁.heap s'.heap/\s'.os=s₁.os/\AllBare s'.gens) s₁) :
  WalkO q loose XP YP l.row.toRowW d [] (λf vs=>PySem.call f vs):=by
 intro w s₀ s₁ mg mb G Y fa o pm cd doc dV kV ho hd hcd hD hmg hg args vals as hpre hlay hrd hwl hlo;obtain rfl:dV=.none:=Dflts.none hD hdf;obtain rfl:kV=.none:=Dflts.noKw hD;obtain ⟨a,vs,ns,rfl,rfl,hobj,hints,hlen⟩:=script_of hn hpre hwl;refine enter_call (codeAny_mono (call w s₀ s₁ mg mb fa o pm cd doc a vs ns G Y ho (fd_plain hd) hcd hmg hobj hints hlen hg) λr s' hq=>?_);obtain ⟨rfl,h2,h3,h4⟩:=hq;exact ⟨.inl ⟨.bool true,.bool true,[],rfl,λ_=>rfl,.bool true,post_true l _,λ_=>⟨List.Pairwise.nil,λ_ hm=>(nomatch hm)⟩⟩,h2,h3,h4⟩
section
variable {prog:Program} {w:World} {A:Around} {E:Ja} {s:Sh} {K:Frag}
def noObjs (h:Heap):Heap:={ h with objs:=#[] }
theorem zeg (h:Heap) (b:Ad):(noObjs h).get? b=none:=by
 cases e:(noObjs h).get? b with
 | none=>rfl
 | some o=>exact absurd (Heap.lt_size e) (Nat.not_lt_zero _)
def ledger (h:Heap) (L d:Ad):Jc:=(List.range h.objs.size).filterMap λa=>if a=L∨a=d then none else (h.get? a).map λo=>(a,o)
def fr_all {h:Heap} {L:Ad} {m:J0} (n:h.Ns L m):Fr (noObjs h) L h m :=
 ⟨n,λb o e=>(by rw [zeg] at e;cases e),Nat.zero_le _⟩
end
end Att
namespace L2
open PySem PySem.Spec PyProof.Rows
theorem zaz:∀ {vs:Jd} {ns:Jb},IntsAre vs ns->Vals (ns.map V.int) vs
 | _,_,.nil=>.nil
 | _,_,.cons n t h=>.cons ⟨t,rfl⟩ (zaz h)
def Only (H:Hp):Prop:=∀ b,H b=none∨∃ o xs,H b=some (.frz o (.lst xs))
theorem law_call {P:Program} {w:World} {K:Fg} {mg mb:J0} {CX:CXT} {k:Nat} {fa a:Ad} {fd:FuncData} {x:Str} {sp:Sp} {s₁:Sh} {vs:Jd} {ns:Jb}
  (KX:K.In s₁.heap) (hns:s₁.heap.Ns mainGlobals mg) (hb:s₁.heap.Ns builtinsNs mb) (hbb:∀ x:Str,x≠"__name__"->mb x=bootBuiltins x) (hlim:s₁.heap.NoLimit) (hg:s₁.gens=#[])
  (ha:s₁.heap.get? a=some { cls:=.type "list",data:=.seq vs.toArray }) (hi:IntsAre vs ns) (hl:ns.length<=sizeLine) (hr:Room k callerA)
  (F:∀ base:Heap,K.In base->base.Ns mainGlobals mg->FnOk P w K mg base CX k fa fd [x] sp) (hbind:∀ (s:Sh) (u:Vl),BindsTo s fd ⟨[u],[]⟩ [(x,u)])
  (hsp:∀ H:Hp,Only H->SqL K H a (ns.map V.int)->sp [.ref a] H (λv _=>v=.bl true) λ_ _ _=>False)
  (hCX:∀ H e s',CX [] H s₁ (λ_ _ _=>False) e s'->False) :
  codeAny (model P w) callerA (.call (.ref fa) ⟨[.ref a],[]⟩) (λr s'=>r=.ok (.ret (.bool true))/\OldK s₁.heap s'.heap/\s'.os=s₁.os/\AllBare s'.gens) s₁:=by
 have rv:=zaz hi;have lenV:=hi.length
 have core:∀ H:Hp,Only H->SqL K H a (ns.map V.int)->HOk P w H s₁.heap->(∀ b,H b≠none->b=a)->(H a≠none->K.lookup a=none) ->
   codeAny (model P w) callerA (.call (.ref fa) ⟨[.ref a],[]⟩) (λr s'=>r=.ok (.ret (.bool true))/\OldK s₁.heap s'.heap/\s'.os=s₁.os/\AllBare s'.gens) s₁:=by
  intro H hO hS hok hA hK;have base_of:∀ {b:Ad} {o:Obj},s₁.heap.get? b=some o->H b=none->(hidT s₁.heap H).get? b=some o:=λe n=>hidT_get e n
  have noA:∀ {b:Ad} {o:Obj} {es:Array DictEntry} {ep:Nat},s₁.heap.get? b=some o->o.data=.dict es ep->H b=none:=λ{b o es ep} e d=>by
   cases q:H b with
   | none=>rfl
   | some u =>
    have e':b=a:=hA b (by rw [q];simp);subst e';rw [ha] at e;cases e;have d':Data.seq vs.toArray _=Data.dict es ep:=d;cases d'
  have nsK:∀ {b:Ad} {m:J0},s₁.heap.Ns b m->(hidT s₁.heap H).Ns b m:=λ{b m} ⟨o,es,ep,e,d,r⟩=>⟨o,es,ep,base_of e (noA e d),d,r⟩
  have hKb:K.In (hidT s₁.heap H):=λb o e=>base_of (KX b o e) (by
   cases q:H b with
   | none=>rfl
   | some u =>
    have e':b=a:=hA b (by rw [q];simp);subst e';rw [hK (by rw [q];simp)] at e;cases e)
  have hM:Mod K mg (hidT s₁.heap H):=⟨hKb,nsK hns,⟨mb,nsK hb,hbb⟩,let ⟨mc,h1,h2⟩:=hlim;⟨mc,nsK h1,h2⟩⟩;have e0:Env0 P w K mg (hidT s₁.heap H) callerA [] s₁ H:=⟨rfl,hM,λb o e=>of_hidT e,Nat.le_of_eq (hidT_size _ _),trivial,λb hb=>absurd (show b∈([]:Jg) from hb) (by simp),hok,.of_eq hg⟩;refine codeAny_mono ((F _ hKb (nsK hns)).run callerA [] s₁ H ⟨[.ref a],[]⟩ [.ref a] [.ref a] _ _ hr e0 (hbind s₁ (.ref a)) (.cons rfl .nil) (hsp H hO hS)) λr s' h=>?_
  cases r with
  | error e=>exact (hCX H e s' h).elim
  | ok fl =>
   cases fl with
   | next=>exact False.elim h
   | brk=>exact False.elim h
   | cont=>exact False.elim h
   | ret u =>
    obtain ⟨v,H',os,bare,un,hok',r',q⟩:=h;have q':v=.bl true:=q;subst q';obtain rfl:u=Value.bool true:=r';refine ⟨rfl,OldK.of_keep λb o e=>?_,os,bare⟩
    cases q:H b with
    | none=>exact un.keep b o e q (by intro z;exact absurd (show b∈([]:Jg) from z) (by simp)) (by simp)
    | some u =>
     rcases hO b with z | ⟨ob,xs,z⟩
     ·rw [q] at z;cases z
     ·have z2:=un.frzs b ob _ z
      obtain ⟨e1,_⟩:=hok b _ z;obtain ⟨e2,_⟩:=hok' b _ z2;rw [e] at e1;cases e1;exact e2
 cases hk:K.lookup a with
 | some o =>
  have e:=KX a o hk;rw [ha] at e;cases e;refine core (λ_=>none) (λ_=>.inl rfl) (.inr ⟨_,vs.toArray,_,hk,rfl,rfl,rfl,by rw [List.size_toArray,lenV];exact hl,by simpa using rv⟩) (λb u z=>by have z':(none:Option HO)=some u:=z;cases z') (λb z=>absurd rfl z) λz=>absurd rfl z
 | none =>
  refine core (λb=>if b=a then some (.frz { cls:=.type "list",data:=.seq vs.toArray } (.lst (ns.map V.int))) else none) (λb=>?_) (.inl (.inr ⟨{ cls:=.type "list",data:=.seq vs.toArray },if_pos rfl⟩)) (λb u z=>?_) (λb z=>?_) λ_=>hk
  ·by_cases hb:b=a
   ·exact .inr ⟨_,_,if_pos hb⟩
   ·exact .inl (if_neg hb)
  ·by_cases hb:b=a
   ·have z':=(if_pos hb).symm.trans z
    cases z';subst hb;exact ⟨ha,by rw [Ji];exact hl,vs,_,rv,ha⟩
   ·have z':=(if_neg hb).symm.trans z
    cases z'
  ·by_cases hb:b=a
   ·exact hb
   ·exact absurd (if_neg hb) z
def walk_of {l:PySem.W.OpenLaw} {n k:Nat} {q:Program} {loose:Jf} {XP:(J0)->Heap->Prop} {YP:World->Heap->Prop} {d:DefRec} {K:Params->Fg} {CX:World->CXT} {sp:World->Sp} {x:Str}
  (hn:l.most=some n) (hn2:n<=sizeLine) (hdf:d.params.defaults=[]) (hr:Room k callerA)
  (hY:∀ (w:World) (h:Heap),YP w h->(K w.params).In h)
  (F:∀ (w:World) (mg:J0) (fa:Ad) (h:Heap),(K w.params).In h->h.Ns mainGlobals mg->mg d.name=some (.ref fa) ->
   ∃ fd:FuncData,(∀ (s:Sh) (u:Vl),BindsTo s fd ⟨[u],[]⟩ [(x,u)]) /\
    ∀ base:Heap,(K w.params).In base->base.Ns mainGlobals mg->FnOk l.prog w (K w.params) mg base (CX w) k fa fd [x] (sp w))
  (hsp:∀ (w:World) (H:Hp) (a:Ad) (ns:Jb),ns.length<=n->Only H->SqL (K w.params) H a (ns.map V.int)->sp w [.ref a] H (λv _=>v=.bl true) λ_ _ _=>False)
  (hCX:∀ (w:World) (H:Hp) (s:Sh) (e:Vl) (s':Sh),CX w [] H s (λ_ _ _=>False) e s'->False) :
  PySem.W.WalkO q loose XP YP l.row.toRowW d [] (λf vs=>PySem.call f vs):=by
 refine Att.attach_call hn hdf λw s₀ s₁ mg mb fa o pm cd doc a vs ns G Y ho hd hcd hmg hobj hints hlen hg=>?_;have KX:=hY w _ Y;obtain ⟨fd,hb,hF⟩:=F w mg fa _ KX G.T.g hmg;exact law_call KX G.T.g G.T.b G.T.builtins G.T.nolimit hg hobj hints (Nat.le_trans hlen hn2) hr hF hb (λH hO hS=>hsp w H a ns hlen hO hS) λH e s'=>hCX w H s₁ e s'
end L2
/- THE LAST THEOREM (shape;LID,My.* are yours):
   My.Adr: a structure of the addresses that your layer names (classes,functions);My.Txt K t: a structure (Prop) of the equations over K;
   My.txt_mk:{K} {implicit addresses ..} (e1:nsIn K mainGlobals "law"=some (some (.ref f))) (e2:K.lookup f=some ⟨oc,od,.func (fnOf "law" "law" params body scope dV kV doc pm an cdv ct),sl⟩) (e3:codeIn K cdv "law"=true) ..:∃ t,My.Txt K t
set_option maxRecDepth 100000 in
set_option maxHeartbeats 0 in
(the tactic k_is has no namespace: write k_is) -/
namespace L2
open PySem PySem.Spec PyProof.Rows
def yt (s:Stmt) (j:Nat):Stmt:=match s with
 | .ClassDef _ _ _ body _ _ _ _ _ _ _=>body.getD j (.Pass ⟨0,0,0,0⟩)
 | _=>.Pass ⟨0,0,0,0⟩
def yW (s:Stmt):Arguments:=match s with
 | .FunctionDef _ a _ _ _ _ _ _ _ _=>a
 | _=>{ posonlyargs:=[],args:=[],vararg:=none,kwonlyargs:=[],kw_defaults:=[],kwarg:=none,defaults:=[] }
def yu (s:Stmt):List Stmt:=match s with
 | .FunctionDef _ _ b _ _ _ _ _ _ _=>b
 | _=>[]
def zh (s:Stmt):Scope:=match s with
 | .FunctionDef _ _ _ _ _ _ sc _ _ _=>sc
 | _=>{ kind:=.function,names:=[],isGenerator:=false,isCoroutine:=false }
abbrev CX0:CXT:=λ_ _ _ _ _ _=>False
abbrev E0:XK:=λ_ _ _=>False
def zt {X:Cx}:xx CX0 X E0:=λ_ _ _ _ _ _ _ h=>h.elim
structure Fun (K:Fg) (x qual:Str) (st:Stmt) (f:Ad) (fd:FuncData):Prop where
 ex:∃ (oc:Vl) (od:Option Ad) (kV doc pm:Vl) (an:Option Ad) (cdv ct:Vl) (osl:Array (Je)),
  fd=PySem.W.fnOf x qual (yW st) (yu st) (zh st) .none kV doc pm an cdv ct/\K.lookup f=some ⟨oc,od,.func fd,osl⟩/\PySem.W.codeIn K cdv qual=true
 kp:PySem.W.keepIn K (.ref f)=true
section
variable {P:Program} {w:World} {K:Fg} {mg:J0} {base:Heap}
def Fun.ok {x qual:Str} {st:Stmt} {f:Ad} {fd:FuncData} {N ps:Jf} {k:Nat} {sp:Sp} (F:Fun K x qual st f fd) (S:FnScope N ps (zh st)) (len:∀ vs H Q E,sp vs H Q E->vs.length=ps.length)
  (hbody:∀ (cdv:Vl) (A:Around) (outer:List Env) (s:Sh) (H:Hp) (vs:Jn) (Q:VK) (E:XK),Room k (A.deeper (envOfC qual (zh st) s.heap.objs.size f cdv))->sp vs H Q E ->
   ∃ t,PSs (yh CX0 P w K mg base N qual (zh st) f cdv A outer s H E).nox (yu st) t/\t { nx:=λ_ H'=>Q .non H',rt:=Q } (Yh N vs) H):FnOk P w K mg base CX0 (k+1) f fd ps sp:=by
 obtain ⟨oc,od,kV,doc,pm,an,cdv,ct,osl,rfl,lk,hcd⟩:=F.ex;refine fn_of lk hcd S len λA outer s H vs Q E hr hsp=>?_;obtain ⟨t,h,q⟩:=hbody cdv A outer s H vs Q E hr hsp;exact ⟨t,h.nox,q⟩
def Fun.binds {x qual:Str} {st:Stmt} {f:Ad} {fd:FuncData} {ps:Jf} (F:Fun K x qual st f fd)
  (h:∀ (kV doc pm:Vl) (an:Option Ad) (cdv ct:Vl) (us:Jd),us.length=ps.length->bindArgs (PySem.W.fnOf x qual (yW st) (yu st) (zh st) .none kV doc pm an cdv ct) ⟨us,[]⟩=pure (ps.zip us)):Binds K fd ps []:=by
 obtain ⟨oc,od,kV,doc,pm,an,cdv,ct,osl,rfl,lk,hcd⟩:=F.ex;exact .all (h kV doc pm an cdv ct)
def Ys {x qual:Str} {st:Stmt} {f:Ad} {oc:Vl} {od an:Option Ad} {osl:Array (Je)} {kV doc pm cdv ct:Vl} (l:K.lookup f=some ⟨oc,od,.func (PySem.W.fnOf x qual (yW st) (yu st) (zh st) .none kV doc pm an cdv ct),osl⟩)
  (c:PySem.W.codeIn K cdv qual=true) (k:PySem.W.keepIn K (.ref f)=true):Fun K x qual st f (PySem.W.fnOf x qual (yW st) (yu st) (zh st) .none kV doc pm an cdv ct):=⟨⟨oc,od,kV,doc,pm,an,cdv,ct,osl,rfl,l,c⟩,k⟩
end
section
variable {X:Cx}
def pv (i:Nat) {x:Str} {pos:Pos} (hN:X.N[i]?=some x:=by rfl) (hv:Vis X.env.scope x:=by first | exact Or.inl rfl | exact Or.inr (Or.inl rfl) | exact Or.inr (Or.inr rfl)) (hd:(x == ("__debug__":Str))=false:=by decide)
  (hcd:(x == ("__classdict__":Str))=false:=by decide):PE X (.Name x pos) (tVar i):=pe_var hN hv hd hcd
end
def yw {A B:Prop} (h:B):if false=true then A else B:=by
 rw [if_neg q2x];exact h
def xG {A B:Prop} (h:A):if true=true then A else B:=by
 rw [if_pos rfl];exact h
def yU {c A B:Prop} [Decidable c] (h1:c->A) (h2:¬ c->B):if c then A else B:=by
 by_cases h:c
 ·rw [if_pos h]
  exact h1 h
 ·rw [if_neg h]
  exact h2 h
def Same (H H':Hp):Prop:=∀ b o,H b=some o->H' b=some o
def Same.refl (H:Hp):Same H H:=λ_ _ h=>h
def Same.trans {H H1 H2:Hp} (a:Same H H1) (b:Same H1 H2):Same H H2:=λc o h=>b c o (a c o h)
theorem Same.free {H H':Hp} (e:Same H H') {l:Ad} (h:H' l=Option.none):H l=Option.none:=by
 cases q:H l with
 | none=>rfl
 | some o =>
  rw [e l o q] at h;cases h
theorem ObjOk.here {P:Program} {w:World} {H:Hp} {h:Heap} {a:Ad} {o:HO} (x:ObjOk P w H h a o):∃ ob,h.get? a=some ob:=by
 cases o with
 | lst xs=>obtain ⟨_,_,_,_,e⟩:=x;exact ⟨_,e⟩
 | tup xs=>obtain ⟨_,_,_,ob,e,_⟩:=x;exact ⟨_,e⟩
 | dK kvs=>obtain ⟨_,_,_,_,ob,_,_,e,_⟩:=x;exact ⟨_,e⟩
 | dT kvs=>obtain ⟨_,_,_,_,ob,_,_,e,_⟩:=x;exact ⟨_,e⟩
 | set S n=>obtain ⟨ob,_,_,_,e,_⟩:=x;exact ⟨_,e⟩
 | ins C dx fs=>obtain ⟨_,_,_,e,_⟩:=x;exact ⟨_,e⟩
 | own y=>exact x
 | xd fs=>obtain ⟨_,⟨_,_,_,e,_⟩,_⟩:=x;exact ⟨_,e⟩
 | rng lo hi=>obtain ⟨_,_,_,e⟩:=x;exact ⟨_,e⟩
 | frz ob u=>obtain ⟨e,_⟩:=x;exact ⟨_,e⟩
 | tbl ps=>exact ⟨_,x⟩
 | met f y=>exact ⟨_,x⟩
 | ext φ=>obtain ⟨_,e,_⟩:=x;exact e
def mem_frs {env:Env} {l:List Env} {L:Ad} (hf:env.frame=some L):L∈frs (env::l):=by
 unfold frs;rw [List.filterMap_cons,hf];exact q1z
def xZ {env:Env} {l:List Env} {L b:Ad} (hf:env.frame=some L) (hb:b∈frs l):b∈frs (env::l):=by
 unfold frs at *;rw [List.filterMap_cons,hf];exact q1y _ hb
theorem xg {h base base':Heap}:∀ {l:List Env},h.FunFrames base l->(∀ b∈frs l,base'.get? b=none)->h.FunFrames base' l
 | [],_,_=>trivial
 | _::_,⟨hk,⟨L,o,hf,_,ho,hd⟩,hr⟩,k=>⟨hk,⟨L,o,hf,k L (mem_frs hf),ho,hd⟩,xg hr λb hb=>k b (xZ hf hb)⟩
structure Fly (base:Heap) (outer:List Env) (H:Hp) (s h:Heap) (e:Ad) (cls:Vl):Prop where
 stays:base.StaysIn h
 frames:h.FunFrames base outer
 baseE:base.get? e=none
 newE:s.get? e=none
 freeE:H e=none
 tr:∃ oe vs T oT ts,h.get? e=some oe/\oe.cls=cls/\oe.data=.fields vs/\vs[1]?=some (.ref T)/\T≠e/\h.get? T=some oT/\oT.data=.fields ts/\ts[3]?=some .none/\base.get? T=none/\s.get? T=none/\H T=none
def CXe (P:Program) (w:World) (base:Heap):CXT:=λouter H s E e s' =>
 ∃ (ea C:Ad) (H':Hp),e=.ref ea/\s'.os=s.os/\AllBare s'.gens/\Un (frs outer) [] H H' s.heap s'.heap/\HOk P w H' s'.heap/\Fly base outer H' s.heap s'.heap ea (.ref C)/\E (.ref C) none H'
section
variable {X:Cx} {pins:Jc} {σ:St} {H:Hp} {s:Sh} {e:Ad} {cls:Vl}
theorem lv_new {h1:Heap} {vs:Jd} {Q:Unit->Sh->Prop} {E:Ja} (I:Inv X pins σ H s) (hst:X.stack=X.env::X.outer) (hf:X.env.frame=some X.env.locals) (hex:X.ex=[])
  (hx:Heap.MadeExcOf s.heap h1 e cls vs)
  (hQ:∀ h',Un X.fs [] X.H₀ H X.s₀.heap h'->HOk X.prog X.w H h'->Fly X.base X.outer H X.s₀.heap h' e cls->Q () { s with heap:=h' }) :
  wpAny (model X.prog X.w) X.A (leaving X.env (.ref e)) Q E { s with heap:=h1 }:=by
 have hfs:=I.stack;rw [hst] at hfs;have hfr:X.A.frames=some (X.env::X.outer):=by rw [← hst];exact I.ok.frames
 have fmem:∀ b∈frs (X.env::X.outer),X.base.get? b=none/\∃ o,s.heap.get? b=some o/\∀ vs,o.data≠.fields vs:=λb hb=>hfs.mem hb;have funt:∀ b∈frs (X.env::X.outer),H b=none:=λb hb=>I.stkFree b (by rw [hst];exact hb);have bget:∀ b o,b ∉ frs (X.env::X.outer)->s.heap.get? b=some o->(PySem.W.hideAll s.heap (frs (X.env::X.outer))).get? b=some o:=λb o n q=>PySem.W.hideAll_get _ q n;have bof:∀ b o,(PySem.W.hideAll s.heap (frs (X.env::X.outer))).get? b=some o->s.heap.get? b=some o:=λb o q=>PySem.W.of_hideAll _ q;have bno:∀ b∈frs (X.env::X.outer),(PySem.W.hideAll s.heap (frs (X.env::X.outer))).get? b=none:=λb hb=>PySem.W.hideAll_none _ hb
 have none_of:∀ b,s.heap.get? b=none->(PySem.W.hideAll s.heap (frs (X.env::X.outer))).get? b=none:=λb q=>by
  cases r:(PySem.W.hideAll s.heap (frs (X.env::X.outer))).get? b with
  | none=>rfl
  | some o=>rw [bof b o r] at q;cases q
 obtain ⟨t,he,_,_⟩:=hx.there;refine wpAny_leaving_first (base:=PySem.W.hideAll s.heap (frs (X.env::X.outer))) hfr (xg (hfs.of_keeps λb o hb _=>⟨o,hx.keeps b o hb,rfl⟩) bno) hf he (λb o q=>hx.keeps b o (bof b o q)) (none_of e hx.new) rfl rfl λh' hL=>?_;obtain ⟨k1,k2,k3,k4⟩:=hL;have neL:∀ b o,X.s₀.heap.get? b=some o->b≠X.env.locals:=λb o q=>Nat.ne_of_lt (q2z (Heap.lt_size q) I.ok.above)
 have inS:∀ b,b∈frs (X.env::X.outer)->b=X.env.locals∨b∈X.fs:=λb hb=>by
  rcases List.mem_cons.mp (I.stkSub b (by rw [hst];exact hb)) with z | z
  ·exact .inl z
  ·exact .inr z
 have keep:∀ b o,b ∉ frs (X.env::X.outer)->s.heap.get? b=some o->h'.get? b=some o:=λb o n q=>k1 b o (bget b o n q)
 have slot:∀ b o,b∈frs (X.env::X.outer)->s.heap.get? b=some o->∃ sl,h'.get? b=some { o with slots:=sl }:=λb o hb q=>by
  obtain ⟨_,o',q',nf⟩:=fmem b hb;rw [q] at q';cases q';exact k4 b o (hx.keeps b o q) nf
 have there0:∀ b,s.heap.get? b=none->X.s₀.heap.get? b=none:=λb q=>by
  cases r:X.s₀.heap.get? b with
  | none=>rfl
  | some o =>
   obtain ⟨o',z⟩:=I.base.there b o r (by rw [hex];simp);rw [z] at q;cases q
 have trk:∀ b o,H b=some o->b ∉ frs (X.env::X.outer):=λb o q hb=>by rw [funt b hb] at q;cases q
 refine hQ h' ⟨λb o q n hb _=>?_,λb o q n hb _=>?_,λb o q n _=>I.base.free b o q n (by rw [hex];simp),λb o q _=>?_,I.base.tups,I.base.frzs,I.base.tbls⟩ (λb o q=>?_) ⟨λb o q=>?_,?_,?_,there0 e hx.new,?_,?_⟩
 ·refine keep b o (λz=>?_) (I.base.keep b o q n hb (by rw [hex];simp))
  rcases inS b z with z | z
  ·exact neL b o q z
  ·exact hb z
 ·obtain ⟨sl,q1⟩:=I.base.slot b o q n hb (by rw [hex];simp)
  obtain ⟨sl',q2⟩:=slot b _ (xZ hf hb) q1;exact ⟨sl',q2⟩
 ·obtain ⟨o',q1⟩:=I.base.there b o q (by rw [hex];simp)
  by_cases hb:b∈frs (X.env::X.outer)
  ·obtain ⟨sl,q2⟩:=slot b o' hb q1
   exact ⟨_,q2⟩
  ·exact ⟨_,keep b o' hb q1⟩
 ·exact (I.hok b o q).stay (λc u hc r=>keep c u (by
   rcases hc with rfl | hc
   ·exact trk _ _ q
   ·exact trk _ _ hc) r) (λ_ z=>z) λ_ _ z=>z
 ·refine keep b o (λz=>?_) (I.bk b o q)
  rw [(fmem b z).1] at q;cases q
 ·obtain ⟨_,_,k2⟩:=xg k2 (base':=X.base) λb hb=>(fmem b hb).1
  exact k2
 ·cases r:X.base.get? e with
  | none=>rfl
  | some o=>have:=I.bk e o r;rw [hx.new] at this;cases this
 ·cases r:H e with
  | none=>rfl
  | some o=>obtain ⟨ob,z⟩:=(I.hok e o r).here;rw [hx.new] at z;cases z
 ·obtain ⟨oe,ws,T,oT,ts,t1,t2,t3,t4,t5,t6,t7,t8,t9⟩:=k3
  have tf:T ∉ frs (X.env::X.outer):=λz=>by
   obtain ⟨_,o',q',nf⟩:=k2.mem z;rw [t7] at q';cases q';exact nf ts t8
  have tn:s.heap.get? T=none:=by
   cases r:s.heap.get? T with
   | none=>rfl
   | some o=>rw [bget T o tf r] at t5;cases t5
  refine ⟨oe,ws,T,oT,ts,t1,t2,t3,t4,t6,t7,t8,t9,?_,there0 T tn,?_⟩
  ·cases r:X.base.get? T with
   | none=>rfl
   | some o=>have:=I.bk T o r;rw [tn] at this;cases this
  ·cases r:H T with
   | none=>rfl
   | some o=>obtain ⟨ob,z⟩:=(I.hok T o r).here;rw [tn] at z;cases z
end
section
variable {X:Cx} {pins:Jc} {σ:St} {H H':Hp} {s s':Sh} {e:Ad} {cls:Vl}
theorem lv_on {Q:Unit->Sh->Prop} {E:Ja} (I:Inv X pins σ H s) (hst:X.stack=X.env::X.outer) (hf:X.env.frame=some X.env.locals) (hex:X.ex=[])
  (u:Un (frs X.stack) [] H H' s.heap s'.heap) (hok:HOk X.prog X.w H' s'.heap) (fl:Fly X.base X.stack H' s.heap s'.heap e cls)
  (hQ:∀ h',Un X.fs [] X.H₀ H' X.s₀.heap h'->HOk X.prog X.w H' h'->Fly X.base X.outer H' X.s₀.heap h' e cls->Q () { s' with heap:=h' }) :
  wpAny (model X.prog X.w) X.A (leaving X.env (.ref e)) Q E s':=by
 obtain ⟨y1,y2,y3,y4,y5,oe,ws,T,oT,ts,t1,t2,t3,t4,t6,t7,t8,t9,t10,t11,t12⟩:=fl;rw [hst] at y2 u;have hfs:=I.stack;rw [hst] at hfs;have hfr:X.A.frames=some (X.env::X.outer):=by rw [← hst];exact I.ok.frames
 have fbase:∀ b∈frs (X.env::X.outer),X.base.get? b=none:=λb hb=>(hfs.mem hb).1;have fdat:∀ b∈frs (X.env::X.outer),∃ o,s'.heap.get? b=some o/\∀ vs,o.data≠.fields vs:=λb hb=>(y2.mem hb).2
 have funt:∀ b∈frs (X.env::X.outer),H' b=none:=λb hb=>by
  obtain ⟨_,o,ho,_⟩:=hfs.mem hb;exact u.free b o ho (I.stkFree b (by rw [hst];exact hb)) (by simp)
 have bget:∀ b o,b ∉ e::T::frs (X.env::X.outer)->s'.heap.get? b=some o->(PySem.W.hideAll s'.heap (e::T::frs (X.env::X.outer))).get? b=some o:=λb o n q=>PySem.W.hideAll_get _ q n;have bof:∀ b o,(PySem.W.hideAll s'.heap (e::T::frs (X.env::X.outer))).get? b=some o->s'.heap.get? b=some o:=λb o q=>PySem.W.of_hideAll _ q;have bno:∀ b∈e::T::frs (X.env::X.outer),(PySem.W.hideAll s'.heap (e::T::frs (X.env::X.outer))).get? b=none:=λb hb=>PySem.W.hideAll_none _ hb;refine wpAny_leaving_next (base:=PySem.W.hideAll s'.heap (e::T::frs (X.env::X.outer))) (cls:=cls) hfr (xg y2 λb hb=>bno b (by simp [hb])) hf
  ⟨oe,ws,T,oT,ts,t1,t2,t3,t4,bno T (by simp),t6,t7,t8,t9⟩ (λb o q=>bof b o q) (bno e (by simp)) λh' hL=>?_
 obtain ⟨k1,k2,k3,k4⟩:=hL;have neL:∀ b o,X.s₀.heap.get? b=some o->b≠X.env.locals:=λb o q=>Nat.ne_of_lt (q2z (Heap.lt_size q) I.ok.above)
 have inS:∀ b,b∈frs (X.env::X.outer)->b=X.env.locals∨b∈X.fs:=λb hb=>by
  rcases List.mem_cons.mp (I.stkSub b (by rw [hst];exact hb)) with z | z
  ·exact .inl z
  ·exact .inr z
 have keep:∀ b o,b ∉ frs (X.env::X.outer)->b≠e->b≠T->s'.heap.get? b=some o->h'.get? b=some o:=λb o n n1 n2 q=>k1 b o (bget b o (by simp [n,n1,n2]) q)
 have slot:∀ b o,b∈frs (X.env::X.outer)->s'.heap.get? b=some o->∃ sl,h'.get? b=some { o with slots:=sl }:=λb o hb q=>by
  obtain ⟨o',q',nf⟩:=fdat b hb;rw [q] at q';cases q';exact k4 b o q nf
 have old:∀ b o,s.heap.get? b=some o->b≠e/\b≠T:=λb o q=>⟨λz=>(by rw [z,y4] at q;cases q),λz=>(by rw [z,t11] at q;cases q)⟩
 have there0:∀ b,s.heap.get? b=none->X.s₀.heap.get? b=none:=λb q=>by
  cases r:X.s₀.heap.get? b with
  | none=>rfl
  | some o =>
   obtain ⟨o',z⟩:=I.base.there b o r (by rw [hex];simp);rw [z] at q;cases q
 have trk:∀ b o,H' b=some o->b ∉ frs (X.env::X.outer)/\b≠e/\b≠T:=λb o q=>⟨λhb=>(by rw [funt b hb] at q;cases q),λz=>(by rw [z,y5] at q;cases q),λz=>(by rw [z,t12] at q;cases q)⟩;refine hQ h' ⟨λb o q n hb _=>?_,λb o q n hb _=>?_,λb o q n _=>?_,λb o q _=>?_,λb xs q=>u.tups b xs (I.base.tups b xs q),λb o x q=>u.frzs b o x (I.base.frzs b o x q),λb ps q=>?_⟩ (λb o q=>?_) ⟨λb o q=>?_,?_,y3,there0 e y4,y5,?_⟩
 ·have q1:=I.base.keep b o q n hb (by rw [hex];simp)
  have n1:=I.base.free b o q n (by rw [hex];simp)
  have nf:b ∉ frs (X.env::X.outer):=λz=>by
   rcases inS b z with z | z
   ·exact neL b o q z
   ·exact hb z
  exact keep b o nf (old b o q1).1 (old b o q1).2 (u.keep b o q1 n1 nf (by simp))
 ·obtain ⟨sl,q1⟩:=I.base.slot b o q n hb (by rw [hex];simp)
  have n1:=I.base.free b o q n (by rw [hex];simp);obtain ⟨sl2,q2⟩:=u.slot b _ q1 n1 (xZ hf hb) (by simp);obtain ⟨sl',q3⟩:=slot b _ (xZ hf hb) q2;exact ⟨sl',q3⟩
 ·obtain ⟨o',q1⟩:=I.base.there b o q (by rw [hex];simp)
  exact u.free b o' q1 (I.base.free b o q n (by rw [hex];simp)) (by simp)
 ·obtain ⟨o',q1⟩:=I.base.there b o q (by rw [hex];simp)
  obtain ⟨o2,q2⟩:=u.there b o' q1 (by simp);by_cases hb:b∈frs (X.env::X.outer)
  ·obtain ⟨sl,q3⟩:=slot b o2 hb q2
   exact ⟨_,q3⟩
  ·exact ⟨_,keep b o2 hb (old b o' q1).1 (old b o' q1).2 q2⟩
 ·obtain ⟨m1,e1⟩:=I.base.tbls b ps q
  obtain ⟨m2,e2⟩:=u.tbls b _ e1;exact ⟨m1++m2,by rw [e2,Array.append_assoc]⟩
 ·exact (hok b o q).stay (λc v hc r=>by
   have z:c ∉ frs (X.env::X.outer)/\c≠e/\c≠T:=by
    rcases hc with rfl | hc
    ·exact trk _ _ q
    ·exact trk _ _ hc
   exact keep c v z.1 z.2.1 z.2.2 r) (λ_ z=>z) λ_ _ z=>z
 ·refine keep b o (λz=>by rw [fbase b z] at q;cases q) (λz=>by rw [z,y3] at q;cases q) (λz=>by rw [z,t10] at q;cases q) (y1 b o q)
 ·obtain ⟨_,_,k2⟩:=xg k2 (base':=X.base) λb hb=>fbase b hb
  exact k2
 ·obtain ⟨oe',ws',T',oT',ts',r1,r2,r3,r4,r5,r6,r7,r8,r9⟩:=k3
  by_cases hT:T'=T
  ·subst hT
   exact ⟨oe',ws',T',oT',ts',r1,r2,r3,r4,r6,r7,r8,r9,t10,there0 T' t11,t12⟩
  ·have tf:T' ∉ frs (X.env::X.outer):=λz=>by
    obtain ⟨_,o',q',nf⟩:=k2.mem z;rw [r7] at q';cases q';exact nf ts' r8
   have tn:s'.heap.get? T'=none:=by
    cases r:s'.heap.get? T' with
    | none=>rfl
    | some o=>rw [bget T' o (by simp [tf,r6,hT]) r] at r5;cases r5
   have tn0:s.heap.get? T'=none:=by
    cases r:s.heap.get? T' with
    | none=>rfl
    | some o =>
     obtain ⟨o',z⟩:=u.there T' o r (by simp);rw [tn] at z;cases z
   refine ⟨oe',ws',T',oT',ts',r1,r2,r3,r4,r6,r7,r8,r9,?_,there0 T' tn0,?_⟩
   ·cases r:X.base.get? T' with
    | none=>rfl
    | some o=>have:=y1 T' o r;rw [tn] at this;cases this
   ·cases r:H' T' with
    | none=>rfl
    | some o=>obtain ⟨ob,z⟩:=(hok T' o r).here;rw [tn] at z;cases z
end
section
variable {P:Program} {w:World} {K:Fg} {mg:J0} {base:Heap} {N:Jf} {qual:Str} {scope:Scope} {f:Ad} {cd:Vl} {A:Around} {outer:List Env} {s:Sh} {H:Hp} {E:XK}
def X6:xx (CXe P w base) (yh (CXe P w base) P w K mg base N qual scope f cd A outer s H E) E:=by
 intro pins σ H1 s1 e s' I h;obtain ⟨ea,C,H',rfl,os,bare,un,hok,fl,q⟩:=h;exact lv_on I rfl rfl rfl un hok fl λh' u' hok' fl'=>⟨ea,C,H',rfl,os.trans I.os,bare,u',hok',fl',q⟩
def Throws (X:Cx) (E:XK):Prop:=∀ (pins:Jc) (σ:St) (H:Hp) (s:Sh) (h':Heap) (e C:Ad) (vs:Jd),Inv X pins σ H s->Heap.MadeExcOf s.heap h' e (.ref C) vs->E (.ref C) none H->X.xe (.ref e) { s with heap:=h' }
def throwE:Throws (yh (CXe P w base) P w K mg base N qual scope f cd A outer s H E) E:=by
 intro pins σ H1 s1 h1 e C vs I hx q;exact lv_new I rfl rfl rfl hx λh' u' hok' fl'=>⟨e,C,H1,rfl,I.os,I.bare,u',hok',fl',q⟩
end
end L2
namespace My
open PySem PySem.Spec PySem.Calls PySem.W PyProof.Rows PySem.Builtin PySem.Builtin.ObjectAttr PySem.Builtin.Getset_descriptor
def ClsAt (x D:Ad) (h:Heap):Prop:=∃ o,h.get? x=some o/\o.cls=.ref D
def clsAt_ty {x D:Ad} (M:Model) (h:Heap) (p:ClsAt x D h):Looks M h (typeOf (.ref x)) (.ref D):=by
 obtain ⟨o,a,b⟩:=p;exact b ▸ (Looks.ld a).andThen .now
def find_data {K:Frag} {M:Model} {h:Heap} (X:K.In h) {x D:Ad} {name:Str} {g a:Vl} (ha:findIn K (.ref D) name=some (some a)) (hn:specialIn K a "__get__"=some (some g)) (htk:takesIn K a=some true) :
  Looks M h (find (.ref x) (.ref D) name) (.bind g a) :=
 (looks_findIn X ha).andThen ((show Looks M h (getOf (some a)) (some g) from looks_specialIn X hn).andThen ((show Looks M h (dataDescriptor? (some a) (some g)) (some (g,a)) from (looks_takesIn X htk).andThen .now).andThen (Looks.tag .now)))
section
variable {prog:Program} {w:World} {A:Around} {E:Ja} {s:Sh} {K:Frag} {x D:Ad} {R:Result->Sh->Prop}
def class_of {tp:Vl} (X:K.In s.heap) (p:ClsAt x D s.heap) (hm:mroIn K D (.type "object")=some true) (h:R (.ok (.ret (.ref D))) s) :
  codeAny (model prog w) A (.call (.builtin "getset_descriptor.__get__") ⟨[.builtin "object.__class__",.ref x,tp],[]⟩) R s:=by
 obtain ⟨h0,g0,d0,t0,o0⟩:=s;have T0:=clsAt_ty (model prog w) h0 p;have T1:=looks_mroIn (M:=model prog w) X hm;refine codeAny_call_builtin KF.slot_gs.plain KF.entry_gs (KF.slot_gs.check _ _ _ _ _ _ _ _ KF.type_class (KF.args_gs _ _ _) ?_);unfold Builtin.«getset_descriptor.__get__» descrGet;rw [dga_obj];refine q0x (q0y ?_);unfold descrGetter descrCheckInstance descrNameAndClass isInstance;simp only [KF.owner_class]
 repeat lk
 refine ⟨Code.quiet_builtin _ (by decide +kernel),codeAny_builtin KF.entry_class ?_⟩;unfold Builtin.«object.__class__» shownTypeOf
 repeat lk
 exact h
def ga_check {M:Model} {Q:Unit->Sh->Prop} {nameV:Vl} {h0:Heap} {g0:Array GenState} {d0:Drawn} {t0:Nat} {o0:OsState} (T0:Looks M h0 (typeOf (.ref x)) (.ref D)) (TS:Looks M h0 (isSubtype (.ref D) (.type "BaseException")) true) (hq:Q () ⟨h0,g0,d0,t0,o0⟩) :
  wpAny M A (checkBuiltinCall "BaseException.__getattribute__" ⟨[.ref x,nameV],[]⟩) Q E ⟨h0,g0,d0,t0,o0⟩:=by
 have e1:builtinKind "BaseException.__getattribute__"=some .slot:=by decide +kernel
 have e2:splitId "BaseException.__getattribute__"=some ("BaseException","__getattribute__"):=by decide +kernel
 have e3:=F.args_bexc_ga (.ref x) nameV;simp only [checkBuiltinCall,e1,e2];refine q0x ?_;unfold isInstance
 repeat (first | lk | wp_step)
 exact hq
def ga_entry {Q:Fin->Sh->Prop} {tk:Tok} {h0:Heap} {g0:Array GenState} {d0:Drawn} {t0:Nat} {o0:OsState} (X:K.In h0) (p:ClsAt x D h0) (ha:findIn K (.ref D) "__class__"=some (some (.builtin "object.__class__")))
  (hn:specialIn K (.builtin "object.__class__") "__get__"=some (some (.builtin "getset_descriptor.__get__"))) (htk:takesIn K (.builtin "object.__class__")=some true) (hm:mroIn K D (.type "object")=some true) (hq:Q (.done (.ret (.ref D))) ⟨h0,g0,d0,t0,o0⟩) :
  wpAny (model prog w) A (Builtin.«object.__getattribute__» ⟨[.ref x,.str "__class__" tk],[]⟩) Q E ⟨h0,g0,d0,t0,o0⟩:=by
 have T0:=clsAt_ty (model prog w) h0 p;have T2:=find_data (M:=model prog w) X (x:=x) ha hn htk;unfold Builtin.«object.__getattribute__»;refine q0x (q0y ?_)
 repeat (first | (with_reducible refine q0x (T0.at ?_)) | (with_reducible refine q0x (T2.at ?_)) | wp_step)
 refine class_of (s:=⟨h0,g0,d0,t0,o0⟩) X p hm ?_
 repeat (any_goals (first | assumption | wp_step))
def zev {Q:Je->Sh->Prop} (hg:findIn K (.ref D) "__getattribute__"=some (some (.builtin "BaseException.__getattribute__"))) (hgg:findIn K (.ref D) "__getattr__"=some none) (hsb:subIn K (.ref D) (.type "BaseException")=some true) (ha:findIn K (.ref D) "__class__"=some (some (.builtin "object.__class__")))
  (hn:specialIn K (.builtin "object.__class__") "__get__"=some (some (.builtin "getset_descriptor.__get__"))) (htk:takesIn K (.builtin "object.__class__")=some true) (hm:mroIn K D (.type "object")=some true)
  (X:K.In s.heap) (p:ClsAt x D s.heap) (h:Q (some (.ref D)) { s with toks:=s.toks+1 }):wpAny (model prog w) A (getAttr? (.ref x) "__class__") Q E s:=by
 obtain ⟨h0,g0,d0,t0,o0⟩:=s;have T0:=clsAt_ty (model prog w) h0 p;have T1:=looks_findIn (M:=model prog w) X hg;have T3:=looks_findIn (M:=model prog w) X hgg;have TS:=looks_subIn (M:=model prog w) X hsb;have f3:=F.excAttr_ValueError.ga.bind (.ref x);have hx2:(Value.builtin "BaseException.__getattribute__" == Value.builtin "object.__getattribute__")=false:=by decide +kernel
 have hx1:(onTheHeap (Value.ref D) && Value.builtin "BaseException.__getattribute__" == Value.builtin "object.__getattribute__")=false:=by rw [hx2];rfl
 unfold getAttr? getAttrBy? getAttrBy;refine q0x (wpAny_mkText (q0x (wpAny_attempt (wpAny_holding (q0x (T0.at (q0x (T1.at ?_))))))));dsimp only;rw [if_neg (by rw [hx1];exact q2x)];unfold getAttrByItsOwn hookBefore;rw [if_pos (show onTheHeap (Value.ref D)=true from rfl)];refine q0x (T3.at ?_)
 repeat (any_goals (first | assumption | wp_step | lk))
 refine codeAny_call_builtin F.excAttr_ValueError.ga.plain F.entry_bexc_ga (ga_check T0 TS (ga_entry (K:=K) X p ha hn htk hm ?_))
 repeat (any_goals (first | assumption | wp_step))
def kitx_exc (hg:findIn K (.ref D) "__getattribute__"=some (some (.builtin "BaseException.__getattribute__"))) (hgg:findIn K (.ref D) "__getattr__"=some none) (hsb:subIn K (.ref D) (.type "BaseException")=some true) (hd:hasDictIn K D=true) (ha:findIn K (.ref D) "__class__"=some (some (.builtin "object.__class__")))
  (hn:specialIn K (.builtin "object.__class__") "__get__"=some (some (.builtin "getset_descriptor.__get__"))) (htk:takesIn K (.builtin "object.__class__")=some true) (hm:mroIn K D (.type "object")=some true) :
  KitX K (.ref x) (.ref D) (ClsAt x D) where
 ty:=λM h _ p=>clsAt_ty M h p
 it:=λM h X _=>by
  obtain ⟨c,hc,_⟩:=any_some hd;unfold clsIn at hc
  split at hc
  ·rename_i u1 u2 u3 u4 ho
   intro A' Q' E' s' k q;unfold isType loadHead;exact q0x (wpAny_loadPart (k _ _ (X _ _ ho)) (q0y q))
  ·cases hc
 ne:=λh tp dd its n sl X e=>by
  obtain ⟨c,hc,_⟩:=any_some hd;refine Bool.eq_false_iff.mpr λq=>?_;obtain rfl:D=tp:=Value.ref.inj (beq_iff_eq.mp q);unfold clsIn at hc
  split at hc
  ·rename_i u1 u2 u3 u4 ho
   have z:=(X _ _ ho).symm.trans e;cases z
  ·cases hc
 ca:=λX p k=>zev hg hgg hsb ha hn htk hm X p k
end
end My
namespace L2
open PySem PySem.Spec PyProof.Rows
section
variable {X:Cx} {pins:Jc} {σ:St} {H H':Hp} {s s':Sh} {e C:Ad}
structure Mid (X:Cx) (H':Hp) (s:Heap) (s':Heap) (e C:Ad) (B:Heap) (a0:Vl) (T:Ad) (h:Heap):Prop where
 fly:Heap.FlyingW B (X.env::X.outer) e (.ref C) a0 h
 slots:s'.UpToSlots h
def mid_inv {B h:Heap} {a0:Vl} {T:Ad} (I:Inv X pins σ H s) (hst:X.stack=X.env::X.outer)
  (u:Un (frs X.stack) [] H H' s.heap s'.heap) (hok:HOk X.prog X.w H' s'.heap) (bare:AllBare s'.gens) (os:s'.os=s.os) (fl:Fly X.base X.stack H' s.heap s'.heap e (.ref C))
  (nT:s.heap.get? T=none) (fT:H' T=none) (hB:∀ b o,b ∉ e::T::frs X.stack->s'.heap.get? b=some o->B.get? b=some o) (hfl:B.StaysIn h) (hsl:s'.heap.UpToSlots h) :
  Inv X pins σ H' { s' with heap:=h }:=by
 obtain ⟨y1,y2,y3,y4,y5,_⟩:=fl;have fdat:∀ b∈frs X.stack,∃ o,s'.heap.get? b=some o/\∀ vs,o.data≠.fields vs:=λb hb=>(y2.mem hb).2;have keep:∀ b o,b ∉ frs X.stack->b≠e->b≠T->s'.heap.get? b=some o->h.get? b=some o:=λb o n n1 n2 q=>hfl b o (hB b o (by simp [n,n1,n2]) q)
 have slot:∀ b o,b∈frs X.stack->s'.heap.get? b=some o->∃ sl,h.get? b=some { o with slots:=sl }:=λb o hb q=>by
  obtain ⟨o',q',nf⟩:=fdat b hb;rw [q] at q';cases q';exact hsl b o q nf
 have old:∀ b o,s.heap.get? b=some o->b≠e/\b≠T:=λb o q=>⟨λz=>(by rw [z,y4] at q;cases q),λz=>(by rw [z,nT] at q;cases q)⟩
 have funt:∀ b∈frs X.stack,H' b=none:=λb hb=>by
  obtain ⟨_,o,ho,_⟩:=I.stack.mem hb;exact u.free b o ho (I.stkFree b hb) (by simp)
 have trk:∀ b o,H' b=some o->b ∉ frs X.stack/\b≠e/\b≠T:=λb o q=>⟨λhb=>(by rw [funt b hb] at q;cases q),λz=>(by rw [z,y5] at q;cases q),λz=>(by rw [z,fT] at q;cases q)⟩;refine I.call' (s':={ s' with heap:=h }) (ch:=[]) os ⟨λb o q n hb _=>?_,λb o q n hb _=>?_,u.free,λb o q _=>?_,u.tups,u.frzs,u.tbls⟩ (λb o q=>?_) bare (λb z=>absurd z (by simp))
 ·exact keep b o hb (old b o q).1 (old b o q).2 (u.keep b o q n hb (by simp))
 ·obtain ⟨sl,q1⟩:=u.slot b o q n hb (by simp)
  obtain ⟨sl',q2⟩:=slot b _ hb q1;exact ⟨sl',q2⟩
 ·obtain ⟨o',q1⟩:=u.there b o q (by simp)
  by_cases hb:b∈frs X.stack
  ·obtain ⟨sl,q2⟩:=slot b o' hb q1
   exact ⟨_,q2⟩
  ·exact ⟨_,keep b o' hb (old b o q).1 (old b o q).2 q1⟩
 ·exact (hok b o q).stay (λc v hc r=>by
   have z:c ∉ frs X.stack/\c≠e/\c≠T:=by
    rcases hc with rfl | hc
    ·exact trk _ _ q
    ·exact trk _ _ hc
   exact keep c v z.1 z.2.1 z.2.2 r) (λ_ z=>z) λ_ _ z=>z
def Landed (X:Cx) (pins:Jc) (σ:St) (H':Hp) (e C:Ad) (s1:Sh):Prop :=
 ∃ (H:Hp) (s s':Sh) (B:Heap) (a0:Vl) (T:Ad),Inv X pins σ H s/\Un (frs X.stack) [] H H' s.heap s'.heap/\HOk X.prog X.w H' s'.heap/\AllBare s'.gens/\s'.os=s.os/\Fly X.base X.stack H' s.heap s'.heap e (.ref C) /\
  s.heap.get? T=none/\H' T=none/\(∀ b o,b ∉ e::T::frs X.stack->s'.heap.get? b=some o->B.get? b=some o)/\Heap.FlyingW B (X.env::X.outer) e (.ref C) a0 s1.heap/\s'.heap.UpToSlots s1.heap/\s1={ s' with heap:=s1.heap }
def Landed.inv {s1:Sh} (l:Landed X pins σ H' e C s1) (hst:X.stack=X.env::X.outer):Inv X pins σ H' s1:=by
 obtain ⟨H,s,s',B,a0,T,I,u,hok,bare,os,fl,nT,fT,hB,hfl,hsl,es⟩:=l;rw [es];exact mid_inv (a0:=a0) I hst u hok bare os fl nT fT hB hfl.1 hsl
def Landed.cls {s1:Sh} (l:Landed X pins σ H' e C s1):My.ClsAt e C s1.heap:=by
 obtain ⟨H,s,s',B,a0,T,I,u,hok,bare,os,fl,nT,fT,hB,hfl,hsl,es⟩:=l;exact hfl.there
def Landed.free {s1:Sh} (l:Landed X pins σ H' e C s1):H' e=none:=by
 obtain ⟨H,s,s',B,a0,T,I,u,hok,bare,os,fl,_⟩:=l;exact fl.freeE
def Landed.again {s1:Sh} {M:Model} {A:Around} {E:Ja} {Q:Unit->Sh->Prop} (l:Landed X pins σ H' e C s1) (h:∀ s2,Landed X pins σ H' e C s2->Q () s2):wpAny M A (setFlight (.ref e) none) Q E s1:=by
 obtain ⟨H,s,s',B,a0,T,I,u,hok,bare,os,fl,nT,fT,hB,hfl,hsl,es⟩:=l;refine lands_againW hfl λh' f2 u2=>h _ ⟨H,s,s',B,a0,T,I,u,hok,bare,os,fl,nT,fT,hB,f2,hsl.trans u2,?_⟩;show ({ s1 with heap:=h' }:Sh)={ s' with heap:=h' };rw [es]
def land {E:XK} {ev:Vl} {E':Ja} {F:Sh->Prop} (I:Inv X pins σ H s) (hst:X.stack=X.env::X.outer) (hf:X.env.frame=some X.env.locals) (h:CXe X.prog X.w X.base X.stack H s E ev s')
  (k:∀ e C H' s1,ev=.ref e->E (.ref C) none H'->Landed X pins σ H' e C s1->F s1) :
  wpAny (model X.prog X.w) X.A (noteFrame ev X.env) (λ_ s2=>wpAny (model X.prog X.w) X.A (setFlight ev none) (λ_ s3=>F s3) E' s2) E' s':=by
 obtain ⟨e,C,H',rfl,os,bare,u,hok,fl,q⟩:=h;obtain ⟨y1,y2,y3,y4,y5,oe,ws,T,oT,ts,t1,t2,t3,t4,t6,t7,t8,t9,t10,t11,t12⟩:=id fl;have hfr:X.A.frames=some (X.env::X.outer):=by rw [← hst];exact I.ok.frames
 have bno:∀ b∈e::T::frs (X.env::X.outer),(PySem.W.hideAll s'.heap (e::T::frs (X.env::X.outer))).get? b=none:=λb hb=>PySem.W.hideAll_none _ hb;have bof:∀ b o,(PySem.W.hideAll s'.heap (e::T::frs (X.env::X.outer))).get? b=some o->s'.heap.get? b=some o:=λb o q=>PySem.W.of_hideAll _ q;have sz:1<ws.size:=(Array.getElem?_eq_some_iff.mp t4).1
 have fw:Heap.FlyingW (PySem.W.hideAll s'.heap (e::T::frs (X.env::X.outer))) (X.env::X.outer) e (.ref C) ws[0] s'.heap :=
  ⟨λb o q=>bof b o q,bno e (by simp),xg (hst ▸ y2) (λb hb=>bno b (by simp [hb])),oe,ws,T,oT,ts,t1,⟨t2,by simp⟩,t3,t4,bno T (by simp),t6,t7,t8,t9⟩
 refine wpAny_looks_onW hfr hf fw λh1 k1 u1=>?_;refine wpAny_landsW k1 λh2 k2 u2=>?_;refine k e C H' _ rfl q ⟨H,s,s',_,_,T,I,u,hok,bare,os,fl,t11,t12,λb o hb r=>?_,k2,u1.trans u2,rfl⟩;rw [hst] at hb;exact PySem.W.hideAll_get _ r hb
end
abbrev Cx.exc (X:Cx) (e:Ad):Cx:={ X with A:=X.A.mark (some (.ref e)),calm:=false,xe:=λ_ _=>False }
def Cx.Ok.exc {X:Cx} (ok:X.Ok) (e:Ad):(X.exc e).Ok :=
 ⟨ok.mod,ok.kind,ok.glob,ok.blt,ok.above,ok.inj,ok.has,ok.cab,(λz=>nomatch z),ok.frames,ok.stk,ok.exf,ok.bs,ok.bsz,ok.noex,ok.exfs,ok.funs,ok.frf⟩
section
variable {X:Cx} {pins:Jc} {σ:St} {H H':Hp} {s s':Sh} {e C:Ad}
def Inv.exc (I:Inv X pins σ H s) (e:Ad):Inv (X.exc e) pins σ H s:=⟨I.ok.exc e,I.os,I.bare,I.base,I.loc,I.cell,I.free,I.freeC,I.pin,I.hok,I.len⟩
def Inv.unexc (I:Inv (X.exc e) pins σ H s) (ok:X.Ok):Inv X pins σ H s:=⟨ok,I.os,I.bare,I.base,I.loc,I.cell,I.free,I.freeC,I.pin,I.hok,I.len⟩
def excO (e C:Ad):HO:=.ext (My.ClsAt e C)
def Landed.held {s1:Sh} (l:Landed X pins σ H' e C s1) (hst:X.stack=X.env::X.outer):Inv X pins σ (upd H' e (excO e C)) s1:=by
 have J:=l.inv hst;have fe:=l.free;obtain ⟨oe,he,hc⟩:=l.cls;obtain ⟨H,s,s',B,a0,T,I,u,hok,bare,os,fl,_⟩:=l;have ne:∀ b o,s.heap.get? b=some o->b≠e:=λb o q z=>by rw [z,fl.newE] at q;cases q
 have ne0:∀ b o,X.s₀.heap.get? b=some o->b ∉ X.ex->b≠e:=λb o q hx=>by
  obtain ⟨o',q1⟩:=I.base.there b o q hx;exact ne b o' q1
 have neH:∀ b o,H' b=some o->b≠e:=λb o q z=>by rw [z,fe] at q;cases q
 refine ⟨J.ok,J.os,J.bare,⟨J.base.keep,J.base.slot,λb o q n hx=>?_,J.base.there,λb xs q=>?_,λb o x q=>?_,λb ps q=>?_⟩,J.loc,J.cell,?_,λx c q=>?_,λp hp=>?_,λb o q=>?_,J.len⟩
 ·rw [zj (ne0 b o q hx)];exact J.base.free b o q n hx
 ·have z:=J.base.tups b xs q
  rw [zj (neH _ _ z)];exact z
 ·have z:=J.base.frzs b o x q
  rw [zj (neH _ _ z)];exact z
 ·obtain ⟨m,z⟩:=J.base.tbls b ps q
  exact ⟨m,by rw [zj (neH _ _ z)];exact z⟩
 ·obtain ⟨m,⟨o,_,_,ho,_⟩,_⟩:=I.loc
  rw [zj (ne _ o ho)];exact J.free
 ·obtain ⟨v,o,ho,_⟩:=I.cell x c q
  rw [zj (ne _ o ho)];exact J.freeC x c q
 ·obtain ⟨q1,q2,q3,q4,q5⟩:=J.pin p hp
  obtain ⟨r1,_⟩:=I.pin p hp;exact ⟨q1,by rw [zj (ne _ _ r1)];exact q2,q3,q4,q5⟩
 ·by_cases hb:b=e
  ·subst hb
   rw [zf] at q;cases q;refine ⟨⟨oe,he,hc⟩,⟨oe,he⟩,λh1 h2 p k=>?_⟩;obtain ⟨o1,p1,p2⟩:=p;exact ⟨o1,k o1 p1,p2⟩
  ·rw [zj hb] at q
   exact (J.hok b o q).stay (λc v _ r=>r) (λc r=>by rw [zj (neH _ _ r)];exact r) λc xs r=>by rw [zj (neH _ _ r)];exact r
def PH (X:Cx) (hs:List ExceptHandler) (th:Ad->Ad->TS):Prop :=
 ∀ (pins:Jc) (s1:Sh) (σ:St) (H':Hp) (e C:Ad) (D:Ends),Landed X pins σ H' e C s1->th e C D σ H'->wpAny (model X.prog X.w) X.A (handleBy (.ref e) X.env hs) (SP X pins D) X.xe s1
def ph_nil:PH X [] (λ_ _ _ _ _=>False):=λ_ _ _ _ _ _ _ _ h=>h.elim
def hNo (K:Fg) (B:Ad) (t:Ad->TS) (tr:Ad->Ad->TS):Ad->Ad->TS:=λe C D σ H'=>∃ b,PySem.W.exmOne K (.ref C) (.ref B)=some b /\
 if b=true then t e D σ (upd H' e (excO e C)) else tr e C D σ H'
theorem ph_no {x:Str} {B:Ad} {np pos:Pos} {b₀:Stmt} {suite:List Stmt} {rest:List ExceptHandler} {t:Ad->TS} {tr:Ad->Ad->TS} (hst:X.stack=X.env::X.outer) (hg:Gl X x) (hm:X.mg x=some (.ref B))
  (hs:∀ e,PSs (X.exc e) (b₀::suite) (t e)) (hr:PH X rest tr) (hd:(x == ("__debug__":Str))=false:=by decide) :
  PH X (.ExceptHandler (some (.Name x np)) none (b₀::suite) pos::rest) (hNo X.K B t tr):=by
 intro pins s1 σ H' e C D l h;obtain ⟨b,hx,h⟩:=h;have J:=l.inv hst;refine wpAny_handleBy_cons (codeAny_handlers_test (Ya (J.exc e) hg hm ?_ hd)) (λz=>nomatch z);refine PySem.W.exm_one J.kIn (My.clsAt_ty _ _ l.cls) hx _ _ _ _ (λ_ _ z=>z) ?_
 cases b with
 | false=>exact hr pins s1 σ H' e C D l (by simpa using h)
 | true =>
  rw [if_pos rfl] at h;refine codeAny_handlers_suite (l.again λs2 l2=>?_);have I2:=(l2.held hst).exc e;refine wpAny_mono (hs e pins s2 _ _ _ I2 h) (λf s4 q=>?_) λ_ _ z=>z.elim
  cases f with
  | next=>obtain ⟨σ',H2,I4,q⟩:=q;exact ⟨_,_,I4.unexc J.ok,q⟩
  | brk=>obtain ⟨σ',H2,I4,q⟩:=q;exact ⟨_,_,I4.unexc J.ok,q⟩
  | cont=>obtain ⟨σ',H2,I4,q⟩:=q;exact ⟨_,_,I4.unexc J.ok,q⟩
  | ret u=>obtain ⟨v,σ',H2,I4,r,q⟩:=q;exact ⟨v,_,_,I4.unexc J.ok,r,q⟩
end
def trX (X:Cx) (pins:Jc) (σ₀:St) (R:Ad->Hp->Prop):Ja:=λev s' =>
 ∃ (H:Hp) (s:Sh) (E:XK),Inv X pins σ₀ H s/\CXe X.prog X.w X.base X.stack H s E ev s'/\∀ C H',E (.ref C) none H'->R C H'
abbrev Cx.tr (X:Cx) (pins:Jc) (σ₀:St) (R:Ad->Hp->Prop):Cx:={ X with pn:=X.pn++pins,xe:=trX X pins σ₀ R }
def XE (R:Ad->Hp->Prop):XK:=λc _ H'=>∃ C,c=.ref C/\R C H'
section
variable {X:Cx} {pins:Jc} {σ σ₀:St} {H H':Hp} {s s':Sh} {R:Ad->Hp->Prop}
def Cx.Ok.tr (ok:X.Ok):(X.tr pins σ₀ R).Ok :=
 ⟨ok.mod,ok.kind,ok.glob,ok.blt,ok.above,ok.inj,ok.has,ok.cab,ok.hd,ok.frames,ok.stk,ok.exf,ok.bs,ok.bsz,ok.noex,ok.exfs,ok.funs,ok.frf⟩
def Inv.tr (I:Inv X pins σ H s):Inv (X.tr pins σ₀ R) [] σ H s :=
 ⟨I.ok.tr,I.os,I.bare,I.base,I.loc,I.cell,I.free,I.freeC,λp hp=>I.pin p (by simpa using hp),I.hok,I.len⟩
def Inv.untr {ps:Jc} (I:Inv (X.tr pins σ₀ R) ps σ H s) (ok:X.Ok):Inv X pins σ H s :=
 ⟨ok,I.os,I.bare,I.base,I.loc,I.cell,I.free,I.freeC,λp hp=>I.pin p (List.mem_append_left _ hp),I.hok,I.len⟩
def PS1 (X:Cx) (σ₀:St) (st:Stmt) (t:TS):Prop :=
 ∀ (pins:Jc) (s:Sh) (H:Hp) (D:Ends),Inv X pins σ₀ H s->t D σ₀ H->wpAny (model X.prog X.w) X.A (exec st X.env) (SP X pins D) X.xe s
def PE1 (X:Cx) (σ₀:St) (e:Expr) (t:TE):Prop :=
 ∀ (pins:Jc) (s:Sh) (H:Hp) (Q:VK),Inv X pins σ₀ H s->t σ₀ H Q->wpAny (model X.prog X.w) X.A (eval e X.env) (EP X pins σ₀ Q) X.xe s
def XM (CX:CXT) (X:Cx) (σ₀:St) (E:XK):Prop:=∀ (pins:Jc) (H:Hp) (s:Sh) (e:Vl) (s':Sh),Inv X pins σ₀ H s->CX X.stack H s E e s'->X.xe e s'
def pass_tr (ok:X.Ok):XM (CXe X.prog X.w X.base) (X.tr pins σ₀ R) σ₀ (XE R):=λps H s e s' I q=>⟨H,s,XE R,I.untr ok,q,λC H' ⟨C',z,r⟩=>by cases z;exact r⟩
theorem run_fn1 {CX:CXT} {k:Nat} {f:Ad} {fd:FuncData} {ps:Jf} {sp:Sp} {dvs:Jn} {ds:Jd} {E:XK} {Q:VK} {us:Jd} {vs:Jn} (F:FnOk X.prog X.w X.K X.mg X.base CX k f fd ps sp) (hr:Room k X.A) (hb:Binds X.K fd ps ds) (hd:Vals dvs ds) (hx:XM CX X σ₀ E)
  (I:Inv X pins σ₀ H s) (r:Vals vs us) (h:sp (vs++dvs) H Q E):wpAny (model X.prog X.w) X.A (call (.ref f) us) (EP X pins σ₀ Q) X.xe s:=by
 have r2:Vals (vs++dvs) (us++ds):=r.append hd;have hl:(us++ds).length=ps.length:=by rw [← r2.length];exact F.len _ _ _ _ h
 refine wpAny_call (codeAny_mono (F.run X.A X.stack s H ⟨us,[]⟩ (us++ds) (vs++dvs) Q E hr I.env0 (hb s us I.kIn hl) r2 h) λr s' hq=>?_)
 cases r with
 | error e=>exact hx pins H s e s' I hq
 | ok fl =>
  cases fl with
  | ret u=>exact I.after hq
  | next=>exact False.elim hq
  | brk=>exact False.elim hq
  | cont=>exact False.elim hq
def pe1_call {CX:CXT} {k:Nat} {f:Ad} {fd:FuncData} {ps:Jf} {sp:Sp} {E:XK} {x:Str} {p pos:Pos} {e:Expr} {es:Jh} {t:TA} (F:FnOk X.prog X.w X.K X.mg X.base CX k f fd ps sp) (hr:Room k X.A) (hg:Gl X x) (hm:X.mg x=some (.ref f)) (hk:PySem.W.keepIn X.K (.ref f)=true) (hb:Binds X.K fd ps []) (hx:XM CX X σ₀ E)
  (ha:PA X (e::es) t) (hdb:(x == ("__debug__":Str))=false:=by decide) (he:starEach (e::es) X.env=(false,eval e X.env)::starEach es X.env:=by rfl) (hpl:(backTo pos (starEach es X.env)).any (·.1)=false:=by rfl) :
  PE1 X σ₀ (.Call (.Name x p) (e::es) [] pos) (XT sp [] E t):=by
 intro pins s H Q I h;refine wpAny_Call_Name_kw (Ya I hg hm ?_ hdb);refine PySem.W.callWith_K (h₀:=X.base) I.ok.mod.kin hk (thn (ha pos pins s σ₀ H _ I h) λus s1 ⟨vs,H1,I1,r,q⟩=>⟨I1.kIn,?_⟩) he hpl;exact run_fn1 F hr hb .nil hx I1 r q
structure Disp (P:Program) (w:World) (K:Fg) (mg:J0) (base:Heap) (CX:CXT) (k:Nat) (m:Str) (ps:Jf) (sp:Sp) (C:Ad):Prop where
 cl:Cls K C
 to:∃ (f:Ad) (fd:FuncData),Meth K C m f/\FnOk P w K mg base CX k f fd ps sp/\Binds K fd ps []
inductive tTry (t:(Ad->Hp->Prop)->TS) (th:Ad->Ad->TS) (D:Ends) (σ:St) (H:Hp):Prop
 | mk (R:Ad->Hp->Prop) (_:t R D σ H) (_:∀ e C H',H' e=none->R C H'->th e C D σ H')
theorem ps_try {st:Stmt} {h₀:ExceptHandler} {hs:List ExceptHandler} {pos:Pos} {t:(Ad->Hp->Prop)->TS} {th:Ad->Ad->TS} (hst:X.stack=X.env::X.outer) (hf:X.env.frame=some X.env.locals)
  (hb:∀ pins σ₀ R,X.Ok->PS1 (X.tr pins σ₀ R) σ₀ st (t R)) (hh:PH X (h₀::hs) th):PS X (.Try [st] (h₀::hs) [] [] pos) (tTry t th):=by
 intro pins s σ H D I h;obtain ⟨R,h,k⟩:=h;refine wpAny_Try_except (wpAny_execs_cons (wpAny_mono (hb pins σ R I.ok [] s H D I.tr h) (λf s1 q=>?_) λev s1 q=>?_))
 ·cases f with
  | next =>
   obtain ⟨σ',H2,I4,q⟩:=q;exact wpAny_execs_nil (wpAny_execs_nil ⟨_,_,I4.untr I.ok,q⟩)
  | brk=>obtain ⟨σ',H2,I4,q⟩:=q;exact ⟨_,_,I4.untr I.ok,q⟩
  | cont=>obtain ⟨σ',H2,I4,q⟩:=q;exact ⟨_,_,I4.untr I.ok,q⟩
  | ret u=>obtain ⟨v,σ',H2,I4,r,q⟩:=q;exact ⟨v,_,_,I4.untr I.ok,r,q⟩
 ·obtain ⟨H1,s0,E,I1,c,z⟩:=q
  exact land I1 hst hf c λe C H' s2 ee q l=>(by subst ee;exact hh pins s2 σ H' e C D l (k e C H' l.free (z C H' q)))
def ps_raise {x:Str} {C:Ad} {bm:Jd} {B newId initId:String} {np cpos pos:Pos} {e₀:Expr} {rest:Jh} {ta:TA} {E:XK} (O:OwnCls x C bm newId X.mg X.base) (FB:ExcBaseFacts B newId initId bm) (hc:X.calm=true) (hg:Gl X x) (ht:Throws X E) (ha:PA X (e₀::rest) ta)
  (he:starEach (e₀::rest) X.env=(false,eval e₀ X.env)::starEach rest X.env:=by rfl) (hplain:(backTo cpos (starEach rest X.env)).any (·.1)=false:=by rfl) (hd:(x == ("__debug__":Str))=false:=by decide) :
  PS X (.Raise (some (.Call (.Name x np) (e₀::rest) [] cpos)) none pos) (λ_ σ H=>ta σ H λvs H1=>vs.length<=sizeLine/\E (.ref C) none H1):=by
 intro pins s σ H D I h;obtain ⟨tl,N,nm,q,bs,hdct,sn,sub,ab,col,dd,k0,k1,k2,k3,k5,mN,hC,hN,hni,T⟩:=O.obj;refine wpAny_Raise_call_subT (C:=C) (nm:=nm) (q:=q) (N:=N) (bs:=bs) (bm:=tl) (hdct:=hdct) (sn:=sn) (sub:=sub) (ab:=ab) (col:=col) (dd:=dd) (k0:=k0) (k1:=k1) (k2:=k2) (k3:=k3) (k5:=k5)
  FB (mN:=mN) (T.hasType FB.hasBase) (I.ok.hd hc) (by rw [he];show (false || (backTo cpos (starEach rest X.env)).any (·.1))=false;rw [hplain];rfl) hni (Ya I hg O.bound ⟨rfl,?_⟩ hd)
 have h1:=ha cpos pins s σ H _ I h;rw [he] at h1 ⊢;refine Calls.evalArgs_plain (wpAny_mono h1 (λvs s2 hq=>?_) λ_ _ z=>z);obtain ⟨us,H1,I1,r,hl,q⟩:=hq;exact ⟨rfl,by rw [← r.length];exact hl,I1.bk _ _ hC,hN.keeps I1.bk,T.keeps I1.bk,λh' e m=>ht pins σ H1 s2 h' e C _ I1 m q⟩
end
def xD (w:World) (K:Fg) (a:Ad):Prop:=∃ es n,K.lookup a=some ⟨.type "dict",none,.dict es n,#[]⟩/\PySem.W.KeysLit w.params es.toList
section
variable {X:Cx} {a:Ad} {ke:Expr} {tk:TE} {p pos:Pos} {D:Str}
def top_item {pins:Jc} {σ:St} {H:Hp} {s:Sh} {x:Str} {t:Tok} {u:Vl} {A:Around} {E:Ja} {Q:Ja} (I:Inv X pins σ H s) (T:xD X.w X.K a) (e:PySem.W.nsIn X.K a x=some (some u)) (h:Q u { s with toks:=s.toks+1 }) :
  wpAny (model X.prog X.w) A (getItem (.ref a) (.str x t)) Q E s:=by
 obtain ⟨es,n,hl,hk⟩:=T;exact wpAny_getItem_of (strKind_is X.prog X.w x t) (PySem.W.mapOf_K (prog:=X.prog) I.kIn hl hk) (PySem.W.find_K hl e) h
def top_in {pins:Jc} {σ:St} {H:Hp} {s:Sh} {x:Str} {t:Tok} {r:Je} {A:Around} {E:Ja} {Q:Ja} (I:Inv X pins σ H s) (T:xD X.w X.K a) (e:PySem.W.nsIn X.K a x=some r) (lo:(a == sysModules)=false) (h:Q (.bool r.isSome) { s with toks:=s.toks+1 }) :
  wpAny (model X.prog X.w) A (compareOp .In (.str x t) (.ref a)) Q E s:=by
 obtain ⟨es,n,hl,hk⟩:=T;exact wpAny_in_of (strKind_is X.prog X.w x t) lo (PySem.W.mapOf_K (prog:=X.prog) I.kIn hl hk) (by rw [PySem.W.find_K hl e];exact h)
inductive rTopIn (w:World) (K:Fg) (x y:V) (H:Hp) (Q:VK):Prop
 | mk (k:Str) (a:Ad) (r:Je) (_:x=.str k) (_:y=.ref a) (_:xD w K a) (_:(a == sysModules)=false) (_:PySem.W.nsIn K a k=some r) (_:Q (.bl r.isSome) H)
def za5:OpR X (compareOp .In) (rTopIn X.w X.K):=by
 intro pins s σ H x y v u Q I rx ry h;obtain ⟨k,a,r,rfl,rfl,T,lo,e,q⟩:=h;obtain ⟨t,rfl⟩:=(show ∃ t,v=Value.str k t from rx);cases (show u=Value.ref a from ry);exact top_in I T e lo ⟨.bl r.isSome,H,I.tok _,rfl,q⟩
inductive tCallV_S (P:Program) (w:World) (K:Fg) (mg:J0) (base:Heap) (CX:CXT) (k:Nat) (E:XK) (t:TA) (σ:St) (Q:VK) (x:V) (H1:Hp):Prop
 | mk (f:Ad) (fd:FuncData) (ps:Jf) (sp:Sp) (_:x=.ref f) (_:FnOk P w K mg base CX k f fd ps sp) (_:PySem.W.keepIn K (.ref f)=true) (_:Binds K fd ps []) (_:t σ H1 λvs H2=>sp vs H2 Q E)
def tCallV (P:Program) (w:World) (K:Fg) (mg:J0) (base:Heap) (CX:CXT) (k:Nat) (E:XK) (tf:TE) (t:TA):TE:=λσ H Q=>tf σ H λx H1=>tCallV_S P w K mg base CX k E t σ Q x H1
def YJ {CX:CXT} {k:Nat} {E:XK} {func e:Expr} {es:Jh} {tf:TE} {t:TA} (hf:PE X func tf) (hr:Room k X.A) (hx:xx CX X E) (ha:PA X (e::es) t)
  (he:starEach (e::es) X.env=(false,eval e X.env)::starEach es X.env:=by rfl) (hpl:(backTo pos (starEach es X.env)).any (·.1)=false:=by rfl)
  (hc:eval (.Call func (e::es) [] pos) X.env=(do callWith pos (← eval func X.env) [] (backTo pos (starEach (e::es) X.env)) (backToKw pos (keywordEach [] X.env))):=by rfl) :
  PE X (.Call func (e::es) [] pos) (tCallV X.prog X.w X.K X.mg X.base CX k E tf t):=by
 intro pins s σ H Q I h;refine Call_ (thn (hf pins s σ H _ I h) λu s1 ⟨x,H1,I1,rx,f,fd,ps,sp,ex,F,hk,hb,q⟩=>?_) hc;subst ex;obtain rfl:u=Value.ref f:=rx;refine PySem.W.callWith_K (h₀:=X.base) I.ok.mod.kin hk (thn (ha pos pins s1 σ H1 _ I1 q) λus s2 ⟨vs,H2,I2,r,q2⟩=>⟨I2.kIn,?_⟩) he hpl;exact zb6 (dvs:=[]) (ds:=[]) F hr hb .nil hx I2 r (by simpa using q2)
end
section
variable {X:Cx}
inductive rIxTop (w:World) (K:Fg) (x y:V) (H:Hp) (Q:VK):Prop
 | mk (a:Ad) (k:Str) (u:Vl) (v:V) (_:x=.ref a) (_:y=.str k) (_:xD w K a) (_:PySem.W.nsIn K a k=some (some u)) (_:RelV v u) (_:Q v H)
def zch:IxR X (rIxTop X.w X.K):=by
 intro value slice pins s σ H x y v u Q I rx ry h hs;obtain ⟨a,k,u',z,rfl,rfl,T,e,r,q⟩:=h;cases (show v=Value.ref a from rx);obtain ⟨t,rfl⟩:=(show ∃ t,u=Value.str k t from ry);have T':=T;obtain ⟨es,n,hl,hk⟩:=T';exact tail_any (PySem.W.mapOf_K (prog:=X.prog) I.kIn hl hk).typeIs slot_dict_getitem.lookup (top_item I T e ⟨z,H,I.tok _,r,q⟩) hs
structure ExcCls (K:Fg) (C:Ad):Prop where
 hg:PySem.W.findIn K (.ref C) "__getattribute__"=some (some (.builtin "BaseException.__getattribute__"))
 hgg:PySem.W.findIn K (.ref C) "__getattr__"=some none
 hsb:PySem.W.subIn K (.ref C) (.type "BaseException")=some true
 hd:PySem.W.hasDictIn K C=true
 ha:PySem.W.findIn K (.ref C) "__class__"=some (some (.builtin "object.__class__"))
 hn:PySem.W.specialIn K (.builtin "object.__class__") "__get__"=some (some (.builtin "getset_descriptor.__get__"))
 ht:PySem.W.takesIn K (.builtin "object.__class__")=some true
 hm:PySem.W.mroIn K C (.type "object")=some true
def TyX (K:Fg) (H:Hp) (x:V) (t:Vl):Prop:=TyOf K H x t∨∃ e C,x=.ref e/\H e=some (excO e C)/\t=.ref C/\ExcCls K C
inductive rIsi (K:Fg) (vs:Jn) (H:Hp) (Q:VK):Prop
 | mk (x c:V) (cv t:Vl) (b:Bool) (_:vs=[x,c]) (_:RelV c cv) (_:(∀ u,RelV c u->u=cv)) (_:TyX K H x t) (_:PySem.W.kitOne K t cv=some b) (_:Q (.bl b) H)
def yx:xq X (.builtin "isinstance") (rIsi X.K):=by
 intro pins s σ H xs us Q I r h;obtain ⟨x,c,cv,t,b,rfl,rc,ic,ty,e,q⟩:=h;obtain ⟨u,w',rfl,ru,rw'⟩:=XO r;cases ic w' rw';rcases ty with ty | ⟨ea,C,rfl,he,rfl,ec⟩
 ·exact isinst_ok I ru ty e λtk=>⟨.bl b,H,I.tok _,rfl,q⟩
 ·cases (show u=Value.ref ea from ru)
  obtain ⟨p,_⟩:=(show ObjOk X.prog X.w H s.heap ea (excO ea C) from I.hok ea _ he);exact PySem.W.kia_one (My.kitx_exc ec.hg ec.hgg ec.hsb ec.hd ec.ha ec.hn ec.ht ec.hm) I.kIn p e (λz=>nomatch z) λtk=>⟨.bl b,H,I.tok _,rfl,q⟩
end
section
variable {P:Program} {w:World} {K:Fg} {mg:J0} {base:Heap}
def Fun.okE {x qual:Str} {st:Stmt} {f:Ad} {fd:FuncData} {N ps:Jf} {k:Nat} {sp:Sp} (F:Fun K x qual st f fd) (S:FnScope N ps (zh st)) (len:∀ vs H Q E,sp vs H Q E->vs.length=ps.length)
  (hbody:∀ (cdv:Vl) (A:Around) (outer:List Env) (s:Sh) (H:Hp) (vs:Jn) (Q:VK) (E:XK),Room k (A.deeper (envOfC qual (zh st) s.heap.objs.size f cdv))->sp vs H Q E ->
   ∃ t,PSs (yh (CXe P w base) P w K mg base N qual (zh st) f cdv A outer s H E) (yu st) t/\t { nx:=λ_ H'=>Q .non H',rt:=Q } (Yh N vs) H):FnOk P w K mg base (CXe P w base) (k+1) f fd ps sp:=by
 obtain ⟨oc,od,kV,doc,pm,an,cdv,ct,osl,rfl,lk,hcd⟩:=F.ex;exact fn_of lk hcd S len λA outer s H vs Q E hr hsp=>hbody cdv A outer s H vs Q E hr hsp
def zn (K:Fg) (mg:J0) (x:Str) (st:Stmt) (ps:Jf):Prop:=∃ (f:Ad) (fd:FuncData),mg x=some (.ref f)/\Fun K x x st f fd/\Binds K fd ps []
def defIn_mk {h:Heap} {x:Str} {st:Stmt} {ps:Jf} {f:Ad} {oc:Vl} {od an:Option Ad} {osl:Array (Je)} {kV doc pm cdv ct:Vl} (X:K.In h) (G:h.Ns mainGlobals mg)
  (a:PySem.W.nsIn K mainGlobals x=some (some (.ref f))) (l:K.lookup f=some ⟨oc,od,.func (PySem.W.fnOf x x (yW st) (yu st) (zh st) .none kV doc pm an cdv ct),osl⟩)
  (c:PySem.W.codeIn K cdv x=true) (k:PySem.W.keepIn K (.ref f)=true)
  (b:∀ (kV doc pm:Vl) (an:Option Ad) (cdv ct:Vl) (us:Jd),us.length=ps.length->bindArgs (PySem.W.fnOf x x (yW st) (yu st) (zh st) .none kV doc pm an cdv ct) ⟨us,[]⟩=pure (ps.zip us)):zn K mg x st ps :=
 ⟨f,_,PySem.W.mg_of X G a,Ys l c k,(Ys l c k).binds b⟩
def Ok (P:Program) (w:World) (K:Fg) (mg:J0) (base:Heap) (CX:CXT) (k:Nat) (x:Str) (ps:Jf) (sp:Sp):Prop :=
 ∃ (f:Ad) (fd:FuncData),mg x=some (.ref f)/\PySem.W.keepIn K (.ref f)=true/\Binds K fd ps []/\FnOk P w K mg base CX k f fd ps sp
def Ok.mono {CX:CXT} {j k:Nat} {x:Str} {ps:Jf} {sp:Sp} (o:Ok P w K mg base CX j x ps sp) (h:j<=k):Ok P w K mg base CX k x ps sp:=by
 obtain ⟨f,fd,a,b,c,d⟩:=o;exact ⟨f,fd,a,b,c,d.mono h⟩
end
def zL {X:Cx} {CX:CXT} {k:Nat} {x:Str} {ps:Jf} {sp:Sp} {E:XK} {p pos:Pos} {e:Expr} {es:Jh} {t:TA} (o:Ok X.prog X.w X.K X.mg X.base CX k x ps sp) (hr:Room k X.A) (hg:Gl X x) (hx:xx CX X E) (ha:PA X (e::es) t)
  (hdb:(x == ("__debug__":Str))=false:=by decide) (he:starEach (e::es) X.env=(false,eval e X.env)::starEach es X.env:=by rfl) (hpl:(backTo pos (starEach es X.env)).any (·.1)=false:=by rfl) :
  PE X (.Call (.Name x p) (e::es) [] pos) (XT sp [] E t):=by
 obtain ⟨f,fd,a,b,c,d⟩:=o;exact pe_call d hr hg a b c .nil hx ha hdb he hpl
def pe1_ok {X:Cx} {σ₀:St} {CX:CXT} {k:Nat} {x:Str} {ps:Jf} {sp:Sp} {E:XK} {p pos:Pos} {e:Expr} {es:Jh} {t:TA} (o:Ok X.prog X.w X.K X.mg X.base CX k x ps sp) (hr:Room k X.A) (hg:Gl X x) (hx:XM CX X σ₀ E) (ha:PA X (e::es) t)
  (hdb:(x == ("__debug__":Str))=false:=by decide) (he:starEach (e::es) X.env=(false,eval e X.env)::starEach es X.env:=by rfl) (hpl:(backTo pos (starEach es X.env)).any (·.1)=false:=by rfl) :
  PE1 X σ₀ (.Call (.Name x p) (e::es) [] pos) (XT sp [] E t):=by
 obtain ⟨f,fd,a,b,c,d⟩:=o;exact pe1_call d hr hg a b c hx ha hdb he hpl
theorem zci:∀ {ns:Jb} {us:Jd},Vals (ns.map V.int) us->IntsAre us ns
 | [],_,.nil=>.nil
 | n::ns,_,.cons ⟨t,e⟩ r=>by subst e;exact .cons n t (zci r)
section
variable {X:Cx}
def ZB:OpR X (binaryOp .FloorDiv) (rI (λ_ j=>j≠0/\-18446744073709551616<j/\j<18446744073709551616) λi j=>.int (i.fdiv j)):=opI λi j _ _ _ _ _ hc q=>floordiv_int hc.1 q (.inl (PyProof.noPylong_of_log2 (by
 have h64:j.natAbs<2 ^ 65:=by omega
 have:=(Nat.log2_lt (by omega:j.natAbs≠0)).mpr h64;omega)))
end
inductive sp1 (g:Int->V) (vs:Jn) (H:Hp) (Q:VK) (_:XK):Prop
 | mk (n:_) (_:vs=[.int n]) (_:Q (g n) H)
inductive sp2 (C:Int->Int->Prop) (g:Int->Int->Int) (vs:Jn) (H:Hp) (Q:VK) (_:XK):Prop
 | mk (a b:_) (_:vs=[.int a,.int b]) (_:C a b) (_:Q (.int (g a b)) H)
def len1 {g:Int->V}:∀ vs H Q E,sp1 g vs H Q E->vs.length=1:=by rintro vs H Q E ⟨n,e,_⟩;rw [e];rfl
def len2 {C:Int->Int->Prop} {g:Int->Int->Int}:∀ vs H Q E,sp2 C g vs H Q E->vs.length=2:=by rintro vs H Q E ⟨a,b,e,_⟩;rw [e];rfl
def Z8 {X:Cx} {x:Str} {i:Int} {t:Tok} {pos:Pos} (hm:X.mg x=some (.int i t)) (hg:Gl X x:=by rfl) (hd:(x == ("__debug__":Str))=false:=by decide):PE X (.Name x pos) (tC (.int i)):=pe_glob hg hm (v:=.int i) ⟨_,rfl⟩ hd
def Z7 {X:Cx} {x:Str} {a:Ad} {pos:Pos} (hm:X.mg x=some (.ref a)) (hg:Gl X x:=by rfl) (hd:(x == ("__debug__":Str))=false:=by decide):PE X (.Name x pos) (tC (.ref a)):=pe_glob hg hm (v:=.ref a) rfl hd
def Zv {X:Cx} {x:Str} {n:String} {pos:Pos} (hm:X.mg x=none) (hv:bootBuiltins x=some (.type n)) (hg:Gl X x:=by rfl) (hn:x≠"__name__":=by decide) (hd:(x == ("__debug__":Str))=false:=by decide):PE X (.Name x pos) (tC (.ty n)):=pe_bltn hg hm hv (v:=.ty n) rfl hn hd
abbrev Cx.comp (X:Cx) (scope:Scope) (cl:List (Str×Ad)) (NY:Jf) (s3:Sh) (H3:Hp) (fp:Jg):Cx :=
 { X with N:=NY,s₀:=s3,H₀:=H3,env:=compEnvC scope cl s3.heap.objs.size X.env,outer:=X.stack,ex:=fp,fn:=λ_=>false,pn:=[],xe:=λ_ _=>False }
abbrev Lz:Obj:={ cls:=.type "list",data:=.seq ([]:Jd).toArray }
abbrev pz (s:Sh):Sh:={ s with heap:=s.heap.push Lz }
abbrev Xz (X:Cx) (scope:Scope) (cl:List (Str×Ad)) (NY:Jf) (s2:Sh) (H2:Hp) (fp:Jg):Cx:=X.comp scope cl NY (pz s2) (upd H2 s2.heap.objs.size (.lst [])) fp
structure Sees (X:Cx) (scope:Scope) (cl:List (Str×Ad)):Prop where
 kind:scope.kind=.function
 clos:closureFor scope X.env=pure cl
 nocell:∀ y∈scope.names,y.2≠.cell
 names:∀ y∈scope.names,y.2=.local->scope.names.lookup y.1=some .local
 sub:∀ x c,cl.lookup x=some c->X.env.cells.lookup x=some c
 has:∀ x,((compEnvC scope cl 0 X.env).kindOf x=some .cell∨(compEnvC scope cl 0 X.env).kindOf x=some .free)->∃ c,cl.lookup x=some c
section
variable {X:Cx} {pins:Jc} {σ:St} {H3:Hp} {s3:Sh} {scope:Scope} {cl:List (Str×Ad)} {NY:Jf} {fp:Jg}
def comp_ok (I:Inv X pins σ H3 s3) (S:Sees X scope cl) (hfp:∀ b∈fp,Ze X pins H3 b) (hob:∀ b∈fp,∃ o,s3.heap.get? b=some o):(X.comp scope cl NY s3 H3 fp).Ok where
 mod:=I.ok.mod
 kind:=S.kind
 glob:=I.ok.glob
 blt:=I.ok.blt
 above:=Nat.le_refl _
 inj:=λx y c a b=>I.ok.inj x y c (S.sub _ _ a) (S.sub _ _ b)
 has:=λx h=>S.has x h
 cab:=λ_ _ h=>nomatch h
 hd:=I.ok.hd
 frames:=I.ok.frames
 stk:=.inl rfl
 exf:=λb hb=>⟨λz=>by
  obtain ⟨o,q⟩:=hob b hb;exact absurd (Heap.lt_size q) (by rw [z];exact Nat.lt_irrefl _),λx c q=>(hfp b hb).2.2.2.2.1 x c (S.sub _ _ q)⟩
 bs:=I.bs
 bsz:=Nat.le_trans I.ok.bsz I.sz
 noex:=λb o q hb=>by
  rcases (hfp b hb).2.2.2.1 with z | z
  ·exact I.ok.noex b o q z
  ·exact absurd (q2z (Heap.lt_size q) (Nat.le_trans I.ok.bsz z)) (Nat.lt_irrefl _)
 exfs:=λb hb z=>by
  rcases List.mem_cons.mp (I.stkSub b z) with y | y
  ·exact (hfp b hb).2.1 y
  ·exact (hfp b hb).2.2.1 y
 funs:=I.stack
 frf:=I.stkFree
def zan {h1:Heap} {t:Nat} {σY:St} (I:Inv X pins σ H3 s3) (S:Sees X scope cl) (hfp:∀ b∈fp,Ze X pins H3 b) (hob:∀ b∈fp,∃ o,s3.heap.get? b=some o)
  (hn:h1.Ns s3.heap.objs.size λ_=>none) (hk:∀ b o,s3.heap.get? b=some o->h1.get? b=some o) (hl:σY.length=NY.length)
  (hσ:∀ (i:Nat) (x:Str) (v:V),NY[i]?=some x->σY[i]?=some (some v)->∃ c u,(((compEnvC scope cl 0 X.env).kindOf x=some .cell∨(compEnvC scope cl 0 X.env).kindOf x=some .free))/\cl.lookup x=some c/\RelV v u/\s3.heap.IsCell c (some u)) :
  Inv (X.comp scope cl NY s3 H3 fp) [] σY H3 { s3 with heap:=h1,toks:=t } where
 ok:=comp_ok I S hfp hob
 os:=rfl
 bare:=I.bare
 base:=Un.kept hk
 loc:=⟨_,hn,λi x v e1 e2 _=>by
  obtain ⟨c,u,k,q,r,z⟩:=hσ i x v e1 e2;obtain ⟨o,z1,z2⟩:=z;exact ⟨u,r,.inr ⟨k,c,q,o,hk _ _ z1,z2⟩⟩⟩
 cell:=λx c q=>by
  obtain ⟨v,o,z1,z2⟩:=I.cell x c (S.sub _ _ q);exact ⟨v,o,hk _ _ z1,z2⟩
 free:=I.hok.fresh (Nat.le_refl _)
 freeC:=λx c q=>I.freeC x c (S.sub _ _ q)
 pin:=λp hp=>absurd hp (by simp)
 hok:=I.hok.kept hk
 len:=hl
def Xj {Y:Jc} {σY:St} {H':Hp} {s':Sh} {h':Heap} (I:Inv X pins σ H3 s3) (hfp:∀ b∈fp,Ze X pins H3 b) (J:Inv (X.comp scope cl NY s3 H3 fp) Y σY H' s') (hs:Heap.SameBut s3.heap.objs.size s'.heap h') :
  Inv X pins σ H' { s' with heap:=h' }:=by
 have ne:∀ b o,s3.heap.get? b=some o->b≠s3.heap.objs.size:=λb o q=>Nat.ne_of_lt (Heap.lt_size q);have B:=J.base;refine I.call' (s':={ s' with heap:=h' }) (ch:=fp) J.os ⟨λb o q n hb hx=>?_,λb o q n hb hx=>?_,B.free,λb o q hx=>?_,B.tups,B.frzs,B.tbls⟩ (λb o q=>?_) J.bare λb hb=>?_
 ·exact (hs.2 b (ne b o q)).trans (B.keep b o q n hb hx)
 ·obtain ⟨sl,z⟩:=B.slot b o q n hb hx
  exact ⟨sl,(hs.2 b (ne b o q)).trans z⟩
 ·obtain ⟨o',z⟩:=B.there b o q hx
  exact ⟨o',(hs.2 b (ne b o q)).trans z⟩
 ·have hf:H' s3.heap.objs.size=none:=J.free
  refine (J.hok b o q).stay (λc v hc r=>(hs.2 c ?_).trans r) (λ_ z=>z) λ_ _ z=>z;rintro rfl;rcases hc with z | z
  ·rw [← z,hf] at q;cases q
  ·rw [hf] at z;cases z
 ·obtain ⟨_,f2,_,f4,f5,f6⟩:=hfp b hb
  exact ⟨f4,f2,f5,f6⟩
end
section
variable {prog:Program} {w:World} {A:Around} {R:Result->Sh->Prop} {s:Sh}
theorem zbg {elt target iter:Expr} {scope:Scope} {pos:Pos} {it acc:Vl} {env:Env} (I:Nat->Sh->Prop)
  (turn:∀ n s,I n s->wpAny (model prog w) A (pyNext it) (λr s₁=>match r with
   | none=>R (.ok .next) s₁
   | some v=>wpAny (model prog w) A (letOwnedTupleGo target it v) (λ_ s₂=>wpAny (model prog w) A (assign target env v) (λ_ s₃=>wpAny (model prog w) A (eval elt env) (λx s₄ =>
     wpAny (model prog w) A (call (.builtin "list.append") [acc,x]) (λ_ s₅=>∃ m,m<n/\I m s₅) (λ_ _=>False) s₄) (λ_ _=>False) s₃) (λ_ _=>False) s₂) (λ_ _=>False) s₁) (λ_ _=>False) s)
  (n:Nat) (h:I n s):codeAny (model prog w) A (.compLoop (.ListComp elt [⟨target,iter,[],0⟩] scope pos) 0 it acc env) R s:=by
 refine codeAny_loop rfl I (λn s hI=>?_) n h;show wpAny _ _ ((compTurn (.ListComp elt [⟨target,iter,[],0⟩] scope pos) 0 it acc env).onRaise (λx=>do noteFrame x env;theTreesLotGoes x)) _ _ s;refine wpAny_noted ?_;rw [compTurn_list1];refine q0x (wpAny_standAt (q0x (wpAny_mono (turn n s hI) (λr s₁ h₁=>?_) λ_ _ z=>z.elim)))
 cases r with
 | none=>exact q0y h₁
 | some v =>
  refine q0x (wpAny_mono h₁ (λ_ s₂ h₂=>?_) λ_ _ z=>z.elim);refine q0x (wpAny_mono h₂ (λ_ s₃ h₃=>?_) λ_ _ z=>z.elim);refine q0x (q0x (wpAny_mono h₃ (λx s₄ h₄=>?_) λ_ _ z=>z.elim));exact q0x (wpAny_mono h₄ (λ_ s₅ h₅=>q0y (q0y ⟨rfl,h₅⟩)) λ_ _ z=>z.elim)
end
inductive CompW (J:It) (g:TG) (te:TE) (σY:St) (H1:Hp) (D:Ad) (Q:VK):Prop
 | mk (W:Nat->Nat->St->Hp->Prop) (_:(∃ m,W 0 m σY H1)) (_:∀ i m σ' H',W i m σ' H'->(J.stop i H'/\Q (.ref D) H')∨(J.go i H'/\∃ N:St->Hp->Prop,(∀ σ2 H2,N σ2 H2->∃ m',m'<m/\W (i+1) m' σ2 H2)/\∀ x H2,J.yld i H' x H2->g x σ' H2 λσ3 H3=>te σ3 H3 λv H4=>∃ xs,H4 D=some (.lst xs)/\xs.length<sizeLine/\N σ3 (upd H4 D (.lst (xs++[v]))))):CompW J g te σY H1 D Q
inductive tComp_S (g:TG) (te:TE) (σ0:St->Hp->St->Prop) (σ:St) (Q:VK) (J:It) (H1:Hp):Prop
 | mk (σY:_) (_:σ0 σ H1 σY) (_:∀ D,H1 D=none->CompW J g te σY (upd H1 D (.lst [])) D Q)
def tComp (wi:TI) (g:TG) (te:TE) (σ0:St->Hp->St->Prop):TE:=λσ H Q=>wi σ H λJ H1=>tComp_S g te σ0 σ Q J H1
section
variable {X:Cx} {tg:Expr}
structure CompEnd (X:Cx) (pins:Jc) (σ:St) (H5:Hp) (s6:Sh) (C:Ad):Prop where
 ns:∃ m,s6.heap.Ns C m
 hn:H5 C=none
 hL:C≠X.env.locals
 h1:X.s₀.heap.objs.size<=C
 h2:∀ x c,X.env.cells.lookup x=some c->c≠C
 h3:∀ p∈X.pn++pins,p.1≠C
 inv:∀ h',Heap.SameBut C s6.heap h'->Inv X pins σ H5 { s6 with heap:=h' }
def zbh {iter elt:Expr} {scope:Scope} {pos pos':Pos} {cl:List (Str×Ad)} {NY:Jf} {wi:TI} {g:TG} {te:TE} {σ0:St->Hp->St->Prop} (hc:X.calm=true) (S:Sees X scope cl) (hi:PI X tg iter wi)
  (hY:∀ (s3:Sh) (H3:Hp) (fp:Jg),PG (X.comp scope cl NY s3 H3 fp) tg g/\PE (X.comp scope cl NY s3 H3 fp) elt te)
  (h0:∀ (pins:Jc) (σ:St) (H:Hp) (s3:Sh) (σY:St),Inv X pins σ H s3->σ0 σ H σY->σY.length=NY.length/\∀ (i:Nat) (x:Str) (v:V),NY[i]?=some x->σY[i]?=some (some v) ->
   ∃ c u,(((compEnvC scope cl 0 X.env).kindOf x=some .cell∨(compEnvC scope cl 0 X.env).kindOf x=some .free))/\cl.lookup x=some c/\RelV v u/\s3.heap.IsCell c (some u))
  (hs:∀ x,foldedSetIterable iter X.env x=pure x) {use:Option (Vl->Sem Unit)} {R:Ja} {pins:Jc} {s:Sh} {σ:St} {H:Hp} {Q:VK} (I:Inv X pins σ H s) (h:tComp wi g te σ0 σ H Q)
  (fin:∀ (C D:Ad) (H5:Hp) (s6:Sh),CompEnd X pins σ H5 s6 C->Q (.ref D) H5->compPost (model X.prog X.w) X.A X.xe use R (.ref D) C (.ok .next) s6) :
  wpAny (model X.prog X.w) X.A (comprehension (.ListComp elt [⟨tg,iter,[],0⟩] scope pos) scope X.env pos' (newList []) (firstAsync [⟨tg,iter,[],0⟩]) (firstIter [⟨tg,iter,[],0⟩] X.env) use) R X.xe s:=by
 refine wpAny_comprehension_free rfl hs S.clos S.kind S.names (thn (hi pins s σ H _ I h) λv s1 h1=>thn h1 λitv s2 h2=>?_);obtain ⟨it,fp,tn,J,H2,e,I2,T,st2,f2,σY,hσ,hW⟩:=h2;subst e;refine wpAny_newObj_type ?_;have I3:Inv X pins σ (upd H2 s2.heap.objs.size (.lst [])) (pz s2):=I2.lnew (t':=s2.toks) (its:=[]) .nil (Nat.zero_le _);obtain ⟨W,⟨m0,w0⟩,turn⟩:=hW s2.heap.objs.size (I2.hok.fresh (Nat.le_refl _));have ob2:=T.obj _ _ st2
 have hfp:∀ b∈fp,Ze X pins (upd H2 s2.heap.objs.size (.lst [])) b:=λb hb=>by
  obtain ⟨o,q,_⟩:=ob2 b hb;exact ⟨by rw [zj (Nat.ne_of_lt (Heap.lt_size q))];exact (f2 b hb).1,(f2 b hb).2⟩
 have hob:∀ b∈fp,∃ o,(s2.heap.push Lz).get? b=some o:=λb hb=>by
  obtain ⟨o,q,_⟩:=ob2 b hb;exact ⟨o,Heap.get?_push_of_some _ q⟩
 refine wpAny_newFunctionEnv S.nocell (λy hy=>absurd hy (by simp)) (λh1 hn1 hs1=>?_) S.kind;obtain ⟨hl,hY0⟩:=h0 pins σ H2 s2 σY I2 hσ;have k23:∀ b o,s2.heap.get? b=some o->(s2.heap.push Lz).get? b=some o:=λb o q=>Heap.get?_push_of_some _ q;have k34:∀ b o,(s2.heap.push Lz).get? b=some o->h1.get? b=some o:=λb o q=>(hs1.2 b (Nat.ne_of_lt (Heap.lt_size q))).trans (Heap.get?_push_of_some _ q)
 have I4:=zan (scope:=scope) (cl:=cl) (NY:=NY) (fp:=fp) (h1:=h1) (t:=s2.toks) (σY:=σY) I3 S hfp hob hn1 k34 hl λi x v e1 e2=>by
  obtain ⟨c,u,k,q,r,o,z1,z2⟩:=hY0 i x v e1 e2;exact ⟨c,u,k,q,r,o,k23 _ _ z1,z2⟩
 have st4:tn 0 h1:=T.keep _ _ _ st2 λb hb o q=>k34 _ _ (k23 _ _ q);have fr4:∀ b∈fp,(upd H2 s2.heap.objs.size (.lst [])) b=none:=λb hb=>(hfp b hb).1;obtain ⟨hg,he⟩:=hY (pz s2) (upd H2 s2.heap.objs.size (.lst [])) fp;have okY:=I4.ok
 have statY:∀ {H':Hp},(∀ b∈fp,H' b=none)->∀ b∈fp,Ze (Xz X scope cl NY s2 H2 fp) [] H' b :=
  λhn b hb=>⟨hn b hb,(okY.exf b hb).1,okY.exfs b hb,.inl hb,(okY.exf b hb).2,λp hp=>absurd hp (by simp)⟩
 have loop:codeAny (model X.prog X.w) X.A (.compLoop (.ListComp elt [⟨tg,iter,[],0⟩] scope pos) 0 (.ref it) (.ref s2.heap.objs.size) (compEnvC scope cl (s2.heap.push Lz).objs.size X.env))
   (compPost (model X.prog X.w) X.A X.xe use R (.ref s2.heap.objs.size) (s2.heap.push Lz).objs.size) { s2 with heap:=h1,toks:=s2.toks }:=by
  refine zbg (λn s'=>∃ i σ' H',Inv (Xz X scope cl NY s2 H2 fp) [] σ' H' s'/\tn i s'.heap/\(∀ b∈fp,H' b=none)/\W i n σ' H') ?_ m0 ⟨0,σY,_,I4,st4,fr4,w0⟩;rintro n s5 ⟨i,σ5,H5,I5,st5,fr5,w5⟩;rcases turn i n σ5 H5 w5 with ⟨stop,q⟩ | ⟨go,N,hN,step⟩
  ·refine thn (T.done (Xz X scope cl NY s2 H2 fp) rfl rfl rfl hc i [] s5 σ5 H5 _ I5 (statY fr5) st5 stop) λr s6 ⟨hr,I6⟩=>?_
   subst hr;obtain ⟨m,hm,_⟩:=I6.loc;refine fin _ _ H5 s6 ⟨⟨m,hm⟩,I6.free,Ne.symm (Nat.ne_of_lt I3.lt),I3.sz,λx c z=>?_,λp hp=>?_,λh' hs'=>Xj I3 hfp I6 hs'⟩ q
   ·obtain ⟨_,o,z1,_⟩:=I3.cell x c z
    exact Nat.ne_of_lt (Heap.lt_size z1)
   ·exact Nat.ne_of_lt (Heap.lt_size (I3.pin p hp).1)
  ·refine thn (T.item (Xz X scope cl NY s2 H2 fp) rfl rfl rfl hc i [] s5 σ5 H5 _ I5 (statY fr5) st5 go) λr s6 ⟨u,hr,h6⟩=>?_
   subst hr;refine thn h6 λ_ s7 ⟨x,H7,I7,r7,y7,st7,fr7⟩=>?_;have I7':=I7.pinned (statY fr7) (T.obj _ _ st7);refine thn (hg _ s7 σ5 H7 x u _ I7' r7 (step x H7 y7)) λ_ s8 ⟨σ8,H8,I8,q8⟩=>?_;refine thn (he _ s8 σ8 H8 _ I8 q8) λz s9 ⟨v9,H9,I9,r9,xs,hx9,hz9,n9⟩=>?_;refine thn (xv _ s9 σ8 H9 (.ref s2.heap.objs.size) [v9] (.ref s2.heap.objs.size) [z] (λ_ H'=>H'=upd H9 s2.heap.objs.size (.lst (xs++[v9]))) I9 rfl (.cons r9 .nil) ⟨s2.heap.objs.size,xs,v9,rfl,rfl,hx9,hz9,rfl⟩) λy s10 ⟨v10,H10,I10,_,e10⟩=>?_;subst e10;obtain ⟨m',hm,w10⟩:=hN _ _ n9;refine ⟨m',hm,i+1,σ8,_,I10.unpinned,T.keep _ _ _ st7 λb hb o q=>(I10.pin (b,o) (q2y _ (q2y _ (yL hb q)))).1,λb hb=>?_,w10⟩;obtain ⟨o,q,d⟩:=T.obj _ _ st7 b hb;exact (I10.pin (b,o) (q2y _ (q2y _ (yL hb q)))).2.1
 exact codeAny_compStart_list loop (T.self _ 0 _ _ _ st4 loop)
def pe_comp {iter elt:Expr} {scope:Scope} {pos:Pos} {cl:List (Str×Ad)} {NY:Jf} {wi:TI} {g:TG} {te:TE} {σ0:St->Hp->St->Prop} (hc:X.calm=true) (S:Sees X scope cl) (hi:PI X tg iter wi)
  (hY:∀ (s3:Sh) (H3:Hp) (fp:Jg),PG (X.comp scope cl NY s3 H3 fp) tg g/\PE (X.comp scope cl NY s3 H3 fp) elt te)
  (h0:∀ (pins:Jc) (σ:St) (H:Hp) (s3:Sh) (σY:St),Inv X pins σ H s3->σ0 σ H σY->σY.length=NY.length/\∀ (i:Nat) (x:Str) (v:V),NY[i]?=some x->σY[i]?=some (some v) ->
   ∃ c u,(((compEnvC scope cl 0 X.env).kindOf x=some .cell∨(compEnvC scope cl 0 X.env).kindOf x=some .free))/\cl.lookup x=some c/\RelV v u/\s3.heap.IsCell c (some u))
  (hs:∀ x,foldedSetIterable iter X.env x=pure x:=by intro _;rfl) :
  PE X (.ListComp elt [⟨tg,iter,[],0⟩] scope pos) (tComp wi g te σ0):=by
 intro pins s σ H Q I h;rw [eval_ListComp];refine zbh (use:=none) hc S hi hY h0 hs I h λC D H5 s6 e q=>?_;obtain ⟨m,hm⟩:=e.ns;exact ⟨m,hm,λh' hs'=>⟨.ref D,H5,e.inv h' hs',rfl,q⟩⟩
def ps_comp {iter elt:Expr} {scope:Scope} {pos pos' spos:Pos} {cl:List (Str×Ad)} {NY:Jf} {wi:TI} {g:TG} {te:TE} {σ0:St->Hp->St->Prop} {i:Nat} {y:Str} (hc:X.calm=true) (S:∀ {pins σ H s},Inv X pins σ H s->Sees X scope cl) (hi:PI X tg iter wi)
  (hY:∀ (s3:Sh) (H3:Hp) (fp:Jg),PG (X.comp scope cl NY s3 H3 fp) tg g/\PE (X.comp scope cl NY s3 H3 fp) elt te)
  (h0:∀ (pins:Jc) (σ:St) (H:Hp) (s3:Sh) (σY:St),Inv X pins σ H s3->σ0 σ H σY->σY.length=NY.length/\∀ (i:Nat) (x:Str) (v:V),NY[i]?=some x->σY[i]?=some (some v) ->
   ∃ c u,(((compEnvC scope cl 0 X.env).kindOf x=some .cell∨(compEnvC scope cl 0 X.env).kindOf x=some .free))/\cl.lookup x=some c/\RelV v u/\s3.heap.IsCell c (some u))
  (hs:∀ x,foldedSetIterable iter X.env x=pure x) (hN:X.N.Nodup) (hi':X.N[i]?=some y) (hx:Loc X.env.scope y) (hf:X.fn y=true∨X.env.scope.names.lookup y=some .local)
  (hw:swapsWith (.ListComp elt [⟨tg,iter,[],0⟩] scope pos) (some (.Name y pos')) spos.line X.env=pure true):PS X (.Assign [.Name y pos'] (.ListComp elt [⟨tg,iter,[],0⟩] scope pos) spos) (tAsg (tComp wi g te σ0) (Xr i)):=by
 intro pins s σ H D I h;rw [exec_Assign_Name_used _ _ _ _ hw,arm_evalThenUse_ListComp];refine q0x (wpAny_standAt (q0x (q0x (wpAny_mono (zbh (use:=some (assign (.Name y pos') X.env)) (R:=λ_ s'=>SP X pins D .next s') hc (S I) hi hY h0 hs I h λC L H5 s6 e q=>?_) (λ_ s' z=>q0y (q0y z)) λ_ _ z=>z))));obtain ⟨m,hm⟩:=e.ns;have I6:Inv X pins σ H5 s6:=e.inv s6.heap ⟨rfl,λ_ _=>rfl⟩;refine wpAny_assign_Name (Y0 I6 hN hi' hx (v:=.ref L) rfl (λs' I' ⟨a,sb,ha⟩=>?_) hf)
 have ne:C≠a:=by
  rintro rfl;rcases ha with z | z
  ·exact e.hL z
  ·exact e.h2 _ _ z rfl
 refine ⟨m,?_,λh' hs'=>?_⟩
 ·obtain ⟨o,es,ep,z,r⟩:=hm
  exact ⟨o,es,ep,(sb.2 _ ne).trans z,r⟩
 ·exact ⟨_,H5,I'.turned (t':=s'.toks) (it:=C) (λb o nb z=>(hs'.2 b nb).trans z) e.hn e.hL (.inr e.h1) e.h2 e.h3,q⟩
end
def ZD {K:Fg} {a D:Ad} {xs:Jn} {g:TG} {te:TE} {σY:St} {H1:Hp} {Q:VK} (Pv:Nat->St->Hp->Prop) (h0:Pv 0 σY H1) (hl:∀ i σ H,i<=xs.length->Pv i σ H->SqL K H a xs)
  (hs:∀ i x σ H,xs[i]?=some x->Pv i σ H->g x σ H λσ3 H3=>te σ3 H3 λv H4=>∃ ys,H4 D=some (.lst ys)/\ys.length<sizeLine/\Pv (i+1) σ3 (upd H4 D (.lst (ys++[v])))) (hd:∀ σ H,Pv xs.length σ H->Q (.ref D) H) :
  CompW (Itl K a) g te σY H1 D Q:=by
 refine ⟨λi m σ H=>m=xs.length-i/\i<=xs.length/\Pv i σ H,⟨xs.length,by simp,Nat.zero_le _,h0⟩,?_⟩;rintro i m σ H ⟨rfl,hi,p⟩;have q:=hl i σ H hi p;by_cases hlt:i<xs.length
 ·refine .inr ⟨⟨xs,xs[i],q,by simp [hlt]⟩,Pv (i+1),λσ' H' p'=>⟨xs.length-(i+1),by omega,rfl,hlt,p'⟩,λx H' y=>?_⟩
  obtain ⟨e,y⟩:=y;subst e;exact hs i x σ _ (y xs q) p
 ·have e:i=xs.length:=by omega
  subst e;exact .inl ⟨⟨xs,q,Nat.le_refl _⟩,hd σ H p⟩
def xf {lo:Int} {n:Nat} {D:Ad} {g:TG} {te:TE} {σY:St} {H1:Hp} {Q:VK} (Pv:Nat->St->Hp->Prop) (h0:Pv 0 σY H1)
  (hs:∀ i σ H,i<n->Pv i σ H->g (.int (lo+i)) σ H λσ3 H3=>te σ3 H3 λv H4=>∃ ys,H4 D=some (.lst ys)/\ys.length<sizeLine/\Pv (i+1) σ3 (upd H4 D (.lst (ys++[v])))) (hd:∀ σ H,Pv n σ H->Q (.ref D) H) :
  CompW (Itr lo n) g te σY H1 D Q:=by
 refine ⟨λi m σ H=>m=n-i/\i<=n/\Pv i σ H,⟨n,by simp,Nat.zero_le _,h0⟩,?_⟩;rintro i m σ H ⟨rfl,hi,p⟩;by_cases hlt:i<n
 ·refine .inr ⟨hlt,Pv (i+1),λσ' H' p'=>⟨n-(i+1),by omega,rfl,hlt,p'⟩,λx H' y=>?_⟩
  obtain ⟨e,y⟩:=y;subst e y;exact hs i σ _ hlt p
 ·have e:i=n:=by omega
  subst e;exact .inl ⟨Nat.le_refl _,hd σ H p⟩
def clGo (env:Env):List (Str×NameKind)->List (Str×Ad)->List (Str×Ad)
 | [],cs=>cs
 | y::r,cs=>clGo env r (if y.2 == .free then (y.1,(env.cells.lookup y.1).getD 0)::cs else cs)
abbrev Zf (env:Env) (scope:Scope):List (Str×Ad):=clGo env scope.names []
theorem zeu {scope:Scope} {env:Env} (h:∀ y∈scope.names,y.2=.free->∃ c,env.cells.lookup y.1=some c):closureFor scope env=pure (Zf env scope):=by
 rw [closureFor.eq_1]
 suffices q:∀ (names:List (Str×NameKind)) (cs:List (Str×Ad)),(∀ y∈names,y.2=.free->∃ c,env.cells.lookup y.1=some c) ->
   (do
    let s ← forIn names cs λx __s =>
     have cs:=__s
     match x with
     | (name,kind) =>
      if (kind == NameKind.free)=true then do
       let l ← cellOf env name;have cs:List (Str×Ad):=(name,l)::cs
       pure (ForInStep.yield cs)
      else pure (ForInStep.yield cs)
    pure s:Sem (List (Str×Ad)))=pure (clGo env names cs) from (congrArg (λ(m:Sem (List (Str×Ad)))=>m >>= λs=>(pure s:Sem (List (Str×Ad)))) (q scope.names [] h)).trans rfl
 intro names
 induction names with
 | nil=>intro cs _;rfl
 | cons y r ih =>
  intro cs h;obtain ⟨n,k⟩:=y;have hr:=λy hy=>h y (q1y _ hy);rw [List.forIn_cons];show _=pure (clGo env r (if k == .free then (n,(env.cells.lookup n).getD 0)::cs else cs));by_cases e:k=.free
  ·subst e
   obtain ⟨c,hc⟩:=h (n,.free) q1z rfl;have e1:cellOf env n=pure c:=by unfold cellOf;rw [show env.cells.lookup n=some c from hc]
   simp only [e1,show env.cells.lookup n=some c from hc,Option.getD_some,beq_self_eq_true,if_true];exact ih _ hr
  ·have e0:(k == NameKind.free)=false:=by simp [e]
   simp only [e0,Bool.false_eq_true,if_false];exact ih _ hr
theorem zdt {env:Env} {x:Str} {c:Ad}:∀ {names:List (Str×NameKind)} {cs:List (Str×Ad)},(∀ y∈names,y.2=.free->∃ c,env.cells.lookup y.1=some c)->(∀ x c,cs.lookup x=some c->env.cells.lookup x=some c)->(clGo env names cs).lookup x=some c->env.cells.lookup x=some c
 | [],cs,_,hc,h=>hc _ _ h
 | (n,k)::r,cs,hn,hc,h=>by
  refine zdt (λy hy=>hn y (q1y _ hy)) (λx c q=>?_) h;by_cases e:k=.free
  ·subst e
   obtain ⟨c',hc'⟩:=hn (n,.free) q1z rfl;simp only [beq_self_eq_true,if_true,show env.cells.lookup n=some c' from hc',Option.getD_some,List.lookup_cons] at q;by_cases z:x=n
   ·subst z;simp at q;rw [← q];exact hc'
   ·have z':(x == n)=false:=by simp [z]
    rw [z'] at q;exact hc _ _ q
  ·have e0:(k == NameKind.free)=false:=by simp [e]
   rw [e0] at q;exact hc _ _ q
theorem zbi {env:Env} {x:Str}:∀ {names:List (Str×NameKind)} {cs:List (Str×Ad)},(∃ c,cs.lookup x=some c)->∃ c,(clGo env names cs).lookup x=some c
 | [],_,h=>h
 | (n,k)::r,cs,h=>by
  refine zbi (names:=r) ?_;by_cases e:(k == NameKind.free)=true
  ·simp only [e,if_true,List.lookup_cons]
   cases hx:x == n with
   | true=>exact ⟨_,rfl⟩
   | false=>exact h
  ·simp only [e,if_false];exact h
theorem zap {env:Env} {x:Str}:∀ {names:List (Str×NameKind)} {cs:List (Str×Ad)},(x,NameKind.free)∈names->∃ c,(clGo env names cs).lookup x=some c
 | (n,k)::r,cs,h=>by
  rcases List.mem_cons.mp h with e | e
  ·cases e
   refine zbi (names:=r) ⟨(env.cells.lookup x).getD 0,?_⟩;simp
  ·show ∃ c,(clGo env r _).lookup x=some c
   exact zap e
def Yo (X:Cx) (scope:Scope):Bool :=
 (match scope.kind with | .function=>true | _=>false) && scope.names.all λy=>match y.2 with
  | .cell=>false
  | .free=>(match X.env.kindOf y.1 with | some .cell=>true | some .free=>true | _=>false)
  | .local=>(match scope.names.lookup y.1 with | some .local=>true | _=>false)
  | _=>true
theorem xQ {X:Cx} {scope:Scope} (ok:X.Ok) (h:Yo X scope=true):Sees X scope (Zf X.env scope):=by
 unfold Yo at h;rw [Bool.and_eq_true,List.all_eq_true] at h;obtain ⟨hk,hn⟩:=h
 have fr:∀ y∈scope.names,y.2=.free->∃ c,X.env.cells.lookup y.1=some c:=λy hy e=>by
  have q:=hn y hy;rw [e] at q;refine ok.has y.1 ?_;revert q;dsimp only
  split
  ·rename_i z;intro _;exact .inl z
  ·rename_i z;intro _;exact .inr z
  ·intro q;cases q
 refine ⟨?_,zeu fr,λy hy e=>?_,λy hy e=>?_,λx c q=>zdt fr (λ_ _ z=>by cases z) q,λx q=>?_⟩
 ·revert hk
  cases scope.kind <;> simp
 ·have q:=hn y hy
  rw [e] at q;exact q2x q
 ·have q:=hn y hy
  rw [e] at q;revert q;dsimp only
  split
  ·rename_i z;intro _;exact z
  ·intro q;cases q
 ·have key:∀ k,(compEnvC scope (Zf X.env scope) 0 X.env).kindOf x=some k->(k=.cell∨k=.free)->(x,NameKind.free)∈scope.names:=by
   intro k hk' hkk;have q:((scope.names.map λy=>match y with | (n,k)=>if (k == NameKind.free && X.env.scope.kind == ScopeKind.function && X.env.kindOf n == some NameKind.cell)=true then (n,NameKind.cell) else (n,k))).lookup x=some k:=hk'
   obtain ⟨n,k',e1,e2⟩:∃ n k',(n,k')∈scope.names/\(match (n,k') with | (n,k)=>if (k == NameKind.free && X.env.scope.kind == ScopeKind.function && X.env.kindOf n == some NameKind.cell)=true then (n,NameKind.cell) else (n,k))=(x,k):=by
    have m:(x,k)∈(scope.names.map λy=>match y with | (n,k)=>if (k == NameKind.free && X.env.scope.kind == ScopeKind.function && X.env.kindOf n == some NameKind.cell)=true then (n,NameKind.cell) else (n,k)):=by
     revert q;generalize (scope.names.map λy=>match y with | (n,k)=>if (k == NameKind.free && X.env.scope.kind == ScopeKind.function && X.env.kindOf n == some NameKind.cell)=true then (n,NameKind.cell) else (n,k))=l
     induction l with
     | nil=>intro q;cases q
     | cons a l ih =>
      intro q;obtain ⟨a1,a2⟩:=a;rw [List.lookup_cons] at q
      cases hx:x == a1 with
      | true=>rw [hx] at q;cases q;have:=beq_iff_eq.mp hx;subst this;exact q1z
      | false=>rw [hx] at q;exact q1y _ (ih q)
    obtain ⟨⟨n,k'⟩,h1,h2⟩:=List.mem_map.mp m;exact ⟨n,k',h1,h2⟩
   dsimp only at e2
   split at e2
   ·rename_i z
    cases e2;simp only [Bool.and_eq_true,beq_iff_eq] at z;rw [z.1.1] at e1;exact e1
   ·cases e2
    rcases hkk with rfl | rfl
    ·have z:=hn _ e1
     exact absurd z q2x
    ·exact e1
  rcases q with q | q
  ·exact zap (key _ q (.inl rfl))
  ·exact zap (key _ q (.inr rfl))
def YV (X:Cx) (scope:Scope):Jf->List (Option Nat)->Bool
 | [],[]=>true
 | _::r,none::c=>YV X scope r c
 | x::r,some j::c=>(match X.N[j]? with | some y=>x == y | none=>false) && (match (compEnvC scope (Zf X.env scope) 0 X.env).kindOf x with | some .cell=>true | some .free=>true | _=>false)
   && (match X.env.kindOf x with | some .cell=>true | some .free=>true | _=>false) && YV X scope r c
 | _,_=>false
def capt (cap:List (Option Nat)) (σ:St):St:=cap.map λo=>o.bind λj=>(σ[j]?).join
theorem ZP {X:Cx} {scope:Scope} {pins:Jc} {σ:St} {H:Hp} {s:Sh} (I:Inv X pins σ H s) (S:Sees X scope (Zf X.env scope)):∀ {NY:Jf} {cap:List (Option Nat)},YV X scope NY cap=true->(capt cap σ).length=NY.length/\∀ (i:Nat) (x:Str) (v:V),NY[i]?=some x->(capt cap σ)[i]?=some (some v) ->
   ∃ c u,(((compEnvC scope (Zf X.env scope) 0 X.env).kindOf x=some .cell∨(compEnvC scope (Zf X.env scope) 0 X.env).kindOf x=some .free))/\(Zf X.env scope).lookup x=some c/\RelV v u/\s.heap.IsCell c (some u)
 | [],[],_=>⟨rfl,λi x v e _=>by cases e⟩
 | [],_::_,h=>by cases h
 | y::r,[],h=>by cases h
 | y::r,none::c,h=>by
  obtain ⟨l,q⟩:=ZP I S (NY:=r) (cap:=c) h;refine ⟨by rw [q3x,← l];rfl,λi x v e1 e2=>?_⟩
  cases i with
  | zero=>cases e2
  | succ i=>exact q i x v e1 e2
 | y::r,some j::c,h=>by
  unfold YV at h;rw [Bool.and_eq_true,Bool.and_eq_true,Bool.and_eq_true] at h;obtain ⟨⟨⟨h1,h2⟩,h3⟩,h4⟩:=h;obtain ⟨l,q⟩:=ZP I S (NY:=r) (cap:=c) h4;refine ⟨by rw [q3x,← l];rfl,λi x v e1 e2=>?_⟩
  cases i with
  | succ i=>exact q i x v e1 e2
  | zero =>
   have ey:y=x:=Option.some.inj e1;subst ey;have ev:(σ[j]?).join=some v:=Option.some.inj e2
   have hσ:σ[j]?=some (some v):=by
    cases z:σ[j]? with
    | none=>rw [z] at ev;cases ev
    | some o=>rw [z] at ev;rw [show o=some v from ev]
   have hN:X.N[j]?=some y:=by
    cases z:X.N[j]? with
    | none=>rw [z] at h1;cases h1
    | some y'=>rw [z] at h1;rw [beq_iff_eq.mp h1]
   have hK:(compEnvC scope (Zf X.env scope) 0 X.env).kindOf y=some .cell∨(compEnvC scope (Zf X.env scope) 0 X.env).kindOf y=some .free:=by
    revert h2
    split
    ·rename_i z;intro _;exact .inl z
    ·rename_i z;intro _;exact .inr z
    ·intro q;cases q
   have hV:X.env.kindOf y=some .cell∨X.env.kindOf y=some .free:=by
    revert h3
    split
    ·rename_i z;intro _;exact .inl z
    ·rename_i z;intro _;exact .inr z
    ·intro q;cases q
   obtain ⟨c',hc'⟩:=S.has y hK;obtain ⟨m,_,hl⟩:=I.loc;obtain ⟨u,ru,lk⟩:=hl j y v hN hσ (.inr hV);refine ⟨c',u,hK,hc',ru,?_⟩;rcases lk with ⟨k,_⟩ | ⟨_,c2,e3,e4⟩
   ·have k':X.env.kindOf y=some .local:=k
    rcases hV with z | z <;> rw [z] at k' <;> cases k'
   ·have e5:=S.sub _ _ hc'
    rw [e3] at e5;cases e5;exact e4
abbrev tCompC (wi:TI) (g:TG) (te:TE) (cap:List (Option Nat)):TE:=tComp wi g te λσ _ σY=>σY=capt cap σ
section
variable {X:Cx} {tg:Expr}
def yk {iter elt:Expr} {scope:Scope} {pos:Pos} {wi:TI} {g:TG} {te:TE} (NY:Jf) (cap:List (Option Nat)) (hc:X.calm=true) (hk:Yo X scope=true) (hcap:YV X scope NY cap=true) (hi:PI X tg iter wi)
  (hY:∀ (s3:Sh) (H3:Hp) (fp:Jg),PG (X.comp scope (Zf X.env scope) NY s3 H3 fp) tg g/\PE (X.comp scope (Zf X.env scope) NY s3 H3 fp) elt te)
  (hs:∀ x,foldedSetIterable iter X.env x=pure x:=by intro _;rfl):PE X (.ListComp elt [⟨tg,iter,[],0⟩] scope pos) (tCompC wi g te cap):=by
 intro pins s σ H Q I h;have S:=xQ I.ok hk;refine pe_comp (NY:=NY) hc S hi hY (λpins σ H s3 σY I3 e=>?_) hs pins s σ H Q I h;subst e;exact ZP I3 S hcap
def X4 {iter elt:Expr} {scope:Scope} {pos pos' spos:Pos} {wi:TI} {g:TG} {te:TE} {i:Nat} {y:Str} (NY:Jf) (cap:List (Option Nat)) (hc:X.calm=true) (hk:Yo X scope=true) (hcap:YV X scope NY cap=true) (hi:PI X tg iter wi)
  (hY:∀ (s3:Sh) (H3:Hp) (fp:Jg),PG (X.comp scope (Zf X.env scope) NY s3 H3 fp) tg g/\PE (X.comp scope (Zf X.env scope) NY s3 H3 fp) elt te) (hN:X.N.Nodup) (hi':X.N[i]?=some y) (hx:Loc X.env.scope y)
  (hf:X.fn y=true∨X.env.scope.names.lookup y=some .local:=by first | exact .inl rfl | exact .inr rfl) (hw:swapsWith (.ListComp elt [⟨tg,iter,[],0⟩] scope pos) (some (.Name y pos')) spos.line X.env=pure true:=by rfl)
  (hs:∀ x,foldedSetIterable iter X.env x=pure x:=by intro _;rfl):PS X (.Assign [.Name y pos'] (.ListComp elt [⟨tg,iter,[],0⟩] scope pos) spos) (tAsg (tCompC wi g te cap) (Xr i)):=by
 refine ps_comp (NY:=NY) hc (λI=>xQ I.ok hk) hi hY (λpins σ H s3 σY I3 e=>?_) hs hN hi' hx hf hw;subst e;exact ZP I3 (xQ I3.ok hk) hcap
end
section
variable {X:Cx}
def rLenS (K:Fg):Jn->Hp->VK->Prop:=λxs H Q=>∃ p ys,xs=[.ref p]/\(SqL K H p ys∨SqT K H p ys)/\Q (.int ys.length) H
def call_lenK {K:Fg} (e:X.K=K):xq X (.builtin "len") (rLenS K):=by subst e;exact zP
def YQ {K:Fg} (e:X.K=K):IxR X (rIxL K):=by subst e;exact zE
end
def xM {ns:Jb} {j:Int} (i:Nat) (h:i<ns.length) (e:j=i):atI (ns.map V.int) j=some (.int (ns.getD i 0)):=by
 subst e;refine zJ ?_;rw [List.getElem?_map,List.getElem?_eq_getElem h];simp [List.getD,h]
def getD_mem {ns:Jb} {i:Nat} (h:i<ns.length):ns.getD i 0∈ns:=by
 rw [q1x,List.getElem?_eq_getElem h];exact List.getElem_mem h
theorem Yr {ns:Jb} {i:Nat} {x:V} (h:(ns.map V.int)[i]?=some x):i<ns.length/\x=.int (ns.getD i 0):=by
 rw [List.getElem?_map] at h
 cases e:ns[i]? with
 | none=>rw [e] at h;cases h
 | some n =>
  rw [e] at h;refine ⟨(List.getElem?_eq_some_iff.mp e).1,?_⟩;rw [q1x,e];exact (Option.some.inj h).symm
section
variable {X:Cx} {pins:Jc} {σ:St} {H:Hp} {s:Sh}
def Inv.keptL {h':Heap} {t':Nat} (I:Inv X pins σ H s) {m:J0} (hl:∀ (i:Nat) (x:Str) (v:V),X.N[i]?=some x->σ[i]?=some (some v)->Vis X.env.scope x->∃ u,RelV v u/\Look X.env s.heap m x u)
  (k:∀ b o,b≠X.env.locals->s.heap.get? b=some o->h'.get? b=some o) (hn:h'.Ns X.env.locals m):Inv X pins σ H { s with heap:=h',toks:=t' }:=by
 have B:=I.base
 have ne0:∀ b o,X.s₀.heap.get? b=some o->b≠X.env.locals:=λb o q z=>by
  have h1:b<X.s₀.heap.objs.size:=Heap.lt_size q;have h2:X.s₀.heap.objs.size<=X.env.locals:=I.ok.above;rw [z] at h1;exact absurd (q2z h1 h2) (Nat.lt_irrefl _)
 refine ⟨I.ok,I.os,I.bare,⟨λb o q n hb hx=>?_,λb o q n hb hx=>?_,B.free,λb o q hx=>?_,B.tups,B.frzs,B.tbls⟩,⟨m,hn,λi x v e1 e2 vs=>?_⟩,λx c q=>?_,I.free,I.freeC,λp hp=>?_,λb o q=>?_,I.len⟩
 ·exact k _ _ (ne0 _ _ q) (B.keep b o q n hb hx)
 ·obtain ⟨sl,z⟩:=B.slot b o q n hb hx
  exact ⟨sl,k _ _ (ne0 _ _ q) z⟩
 ·obtain ⟨o',z⟩:=B.there b o q hx
  exact ⟨o',k _ _ (ne0 _ _ q) z⟩
 ·obtain ⟨u,r,lk⟩:=hl i x v e1 e2 vs
  refine ⟨u,r,?_⟩;rcases lk with z | ⟨z1,c,z2,o,z3,z4⟩
  ·exact .inl z
  ·exact .inr ⟨z1,c,z2,o,k _ _ (I.cne _ _ z2) z3,z4⟩
 ·obtain ⟨v,o,z1,z2⟩:=I.cell x c q
  exact ⟨v,o,k _ _ (I.cne _ _ q) z1,z2⟩
 ·obtain ⟨z1,z2,z3,z4⟩:=I.pin p hp
  exact ⟨k _ _ z3 z1,z2,z3,z4⟩
 ·refine (I.hok b o q).stay (λc v hc r=>k _ _ ?_ r) (λ_ z=>z) λ_ _ z=>z
  rintro rfl;rcases hc with z | z
  ·rw [← z,I.free] at q;cases q
  ·rw [I.free] at z;cases z
def fr_all (I:Inv X pins σ H s) {m:J0} (hm:s.heap.Ns X.env.locals m):Fr X.base X.env.locals s.heap m:=⟨hm,I.bk,Nat.le_trans I.ok.bsz I.ok.above⟩
theorem kept_all {h':Heap} {m:J0} (F:Fr X.base X.env.locals h' m) (N:News X.base X.env.locals h' (YW X.base s.heap X.env.locals)) (I:Inv X pins σ H s):∀ b o,b≠X.env.locals->s.heap.get? b=some o->h'.get? b=some o:=λb o n q=>by
 cases e:X.base.get? b with
 | none=>exact (N (b,o) (zdk n e q)).1
 | some o' =>
  have z:=I.bk b o' e;rw [q] at z;cases z;exact F.keep b o e
end
section
variable {X:Cx}
inductive rSum (K:Fg) (xs:Jn) (H:Hp) (Q:VK):Prop
 | mk (p:Ad) (ns:Jb) (_:xs=[.ref p]) (_:SqL K H p (ns.map V.int)) (_:Q (.int ns.sum) H)
def zdv (hc:X.calm=true):xq X (.builtin "sum") (rSum X.K):=by
 intro pins s σ H xs us Q I r h;obtain ⟨p,ns,rfl,hp,q⟩:=h;obtain ⟨u,rfl,ru⟩:=r.one;cases (show u=Value.ref p from ru);obtain ⟨its,rv,pl,_⟩:=I.list hp;obtain ⟨m,hm,hl⟩:=I.loc
 exact LSm.sum_ints (fr_all I hm) news_all (I.ok.hd hc) pl.isList (zci rv) λh' tk t' F N =>
  ⟨.int ns.sum,H,I.keptL hl (kept_all F N I) F.ns,⟨_,rfl⟩,q⟩
end
mutual
inductive DV (K:Fg) (H:Hp):V->PyData->Prop
 | non:DV K H .non .none
 | bl (b:Bool):DV K H (.bl b) (.bool b)
 | int (i:Int):DV K H (.int i) (.int i)
 | str (x:Str):DV K H (.str x) (.str x)
 | lst {a:Ad} {xs:Jn} {ds:List PyData}:SqL K H a xs->DVs K H xs ds->DV K H (.ref a) (.list ds)
 | tup {a:Ad} {xs:Jn} {ds:List PyData}:SqT K H a xs->DVs K H xs ds->DV K H (.ref a) (.tuple ds)
inductive DVs (K:Fg) (H:Hp):Jn->List PyData->Prop
 | nil:DVs K H [] []
 | cons {v:V} {vs:Jn} {d:PyData} {ds:List PyData}:DV K H v d->DVs K H vs ds->DVs K H (v::vs) (d::ds)
end
section
variable {X:Cx} {pins:Jc} {σ:St} {H:Hp} {s:Sh}
mutual
theorem zai (I:Inv X pins σ H s):∀ {v:V} {d:PyData} {u:Vl},DV X.K H v d->RelV v u->∃ as,Reads s.heap u d as
 | _,_,u,.non,r=>by cases (show u=Value.none from r);exact ⟨_,.none⟩
 | _,_,u,.bl b,r=>by cases (show u=Value.bool b from r);exact ⟨_,.bool b⟩
 | _,_,u,.int i,r=>by obtain ⟨t,rfl⟩:=(show ∃ t,u=Value.int i t from r);exact ⟨_,.int i t⟩
 | _,_,u,.str x,r=>by obtain ⟨t,rfl⟩:=(show ∃ t,u=Value.str x t from r);exact ⟨_,.str x t⟩
 | _,_,u,.lst (a:=a) h q,r=>by
  cases (show u=Value.ref a from r);obtain ⟨its,rv,⟨o,n,e,c,d,f⟩,_⟩:=I.list h;obtain ⟨as,ra⟩:=Xi I q rv;exact ⟨_,.list e c f ra⟩
 | _,_,u,.tup (a:=a) h q,r=>by
  cases (show u=Value.ref a from r);obtain ⟨its,rv,⟨o,e,c,n,f⟩,_⟩:=I.tuple h;obtain ⟨as,ra⟩:=Xi I q rv;exact ⟨_,.tuple e c f ra⟩
theorem Xi (I:Inv X pins σ H s):∀ {vs:Jn} {ds:List PyData} {us:Jd},DVs X.K H vs ds->Vals vs us->∃ as,ReadsAll s.heap us ds as
 | _,_,_,.nil,.nil=>⟨_,.nil⟩
 | _,_,_,.cons h q,.cons r rr=>by
  obtain ⟨as,ra⟩:=zai I h r;obtain ⟨bs,rb⟩:=Xi I q rr;exact ⟨_,.cons ra rb⟩
end
end
section
variable {X:Cx}
inductive rEqD (K:Fg) (f:Bool->Bool) (x y:V) (H:Hp) (Q:VK):Prop
 | mk (d e:_) (_:DV K H x d) (_:DV K H y e) (_:d.canLay0=true) (_:e.canLay0=true) (_:d.depth<=64) (_:Q (.bl (f (d.eqv e))) H)
def op_neD (hu:X.A.units+64<cLine):OpR X (compareOp .NotEq) (rEqD X.K not):=by
 intro pins s σ H x y v u Q I rx ry h;obtain ⟨d,e,hd,he,c1,c2,dp,q⟩:=h;obtain ⟨as,ra⟩:=zai I hd rx;obtain ⟨bs,rb⟩:=zai I he ry;exact SeqAt.compareNe_reads ra rb c1 c2 (by omega) ⟨.bl _,H,I,rfl,q⟩
end
def dI (ns:Jb):PyData:=.list (ns.map PyData.int)
theorem zdn {K:Fg} {H:Hp}:∀ {ns:Jb},DVs K H (ns.map V.int) (ns.map PyData.int)
 | []=>.nil
 | n::ns=>.cons (.int n) zdn
def Zt {K:Fg} {H:Hp} {a:Ad} {ns:Jb} (h:SqL K H a (ns.map V.int)):DV K H (.ref a) (dI ns):=.lst h zdn
theorem Zr:∀ {ns:Jb},PyData.canLayAll0 (ns.map PyData.int)=true
 | []=>rfl
 | n::ns=>by
  rw [List.map_cons];show (PyData.canLay0 (.int n) && PyData.canLayAll0 (ns.map PyData.int))=true;rw [Zr];rfl
def YN {ns:Jb}:(dI ns).canLay0=true:=Zr
theorem Ym:∀ {ns:Jb},PyData.depthAll (ns.map PyData.int)<=1
 | []=>by decide
 | n::ns=>by
  have:=Ym (ns:=ns);rw [List.map_cons];show max (PyData.depth (.int n)) (PyData.depthAll (ns.map PyData.int))<=1;have e:PyData.depth (.int n)<=1:=by show _<=_;simp [PyData.depth]
  omega
end L2
namespace L2
open PySem
def zal {xs:List PyData} {n:Nat} (h:PyData.depthAll xs<=n):(PyData.list xs).depth<=n+1:=by
 have e:(PyData.list xs).depth=PyData.depthAll xs+1:=by first | rfl | (simp [PyData.depth];done) | (simp [PyData.depth];omega)
 omega
def dep_tup {xs:List PyData} {n:Nat} (h:PyData.depthAll xs<=n):(PyData.tuple xs).depth<=n+1:=by
 have e:(PyData.tuple xs).depth=PyData.depthAll xs+1:=by first | rfl | (simp [PyData.depth];done) | (simp [PyData.depth];omega)
 omega
def XJ {n:Nat}:PyData.depthAll []<=n:=by
 have e:PyData.depthAll []=0:=by first | rfl | simp [PyData.depthAll]
 omega
def ym {x:PyData} {xs:List PyData} {n:Nat} (h:x.depth<=n) (h':PyData.depthAll xs<=n):PyData.depthAll (x::xs)<=n:=by
 have e:PyData.depthAll (x::xs)=max x.depth (PyData.depthAll xs):=by first | rfl | simp [PyData.depthAll]
 omega
def YT {ns:Jb}:(dI ns).depth<=2:=zal Ym
end L2
namespace L2
open PySem PySem.Spec PyProof.Rows
def zo {K:Fg} {H H':Hp} {a:Ad} {xs:Jn} (h:SqL K H a xs) (s:Same H H'):SqL K H' a xs:=by
 rcases h with h | h
 ·exact .inl (h.imp (λz=>s _ _ z) λ⟨o,z⟩=>⟨o,s _ _ z⟩)
 ·exact .inr h
def zi {H H':Hp} {a:Ad} {o:HO} (s:Same H H') (h:H a=none):Same H (upd H' a o):=λc x z=>by rw [zj (zp z h)];exact s _ _ z
def zb5 {n d:Nat} {a:Int} (h:0<=a):HT.sIx n d (some a)=min a.toNat n:=by
 show (if a<0 then (a+(n:Int)).toNat else min a.toNat n)=min a.toNat n;rw [if_neg (by omega)]
def zbf {cs:Jb} {b:Int} (hb:0<=b):cutV (cs.map V.int) none (some b)=(cs.take b.toNat).map V.int:=by
 unfold cutV;rw [HT.sIx_none,zb5 hb,Ji,List.drop_zero,Nat.sub_zero,← List.map_take];congr 1;rw [List.take_eq_take_iff];omega
section
variable {P:Program} {w:World} {K:Fg} {mg:J0} {base:Heap}
def zZ (K:Fg) (C:Ad) (x qual:Str) (st:Stmt) (ps:Jf):Prop:=∃ (f:Ad) (fd:FuncData),Meth K C x f/\Fun K x qual st f fd/\Binds K fd ps []
def OkM (P:Program) (w:World) (K:Fg) (mg:J0) (base:Heap) (CX:CXT) (k:Nat) (C:Ad) (x:Str) (ps:Jf) (sp:Sp):Prop :=
 ∃ (f:Ad) (fd:FuncData),Meth K C x f/\Binds K fd ps []/\FnOk P w K mg base CX k f fd ps sp
def Yt (K:Fg) (C:Ad) (qual:Str) (st:Stmt) (ps:Jf):Prop:=∃ (f:Ad) (fd:FuncData),Mk K C f/\Fun K "__init__" qual st f fd/\Binds K fd ps []
def OkI (P:Program) (w:World) (K:Fg) (mg:J0) (base:Heap) (CX:CXT) (k:Nat) (C:Ad) (ps:Jf) (sp:Sp):Prop :=
 ∃ (f:Ad) (fd:FuncData),Mk K C f/\Binds K fd ps []/\FnOk P w K mg base CX k f fd ps sp
end
section
variable {X:Cx} {CX:CXT} {k:Nat} {C:Ad} {ps:Jf} {sp:Sp} {E:XK} {x m:Str} {p pos apos:Pos} {e o:Expr} {es:Jh} {ta:TE} {t:TA}
def yg (h:OkM X.prog X.w X.K X.mg X.base CX k C m ps sp) (c:Cls X.K C) (hr:Room k X.A) (hx:xx CX X E) {pl:Sem Bool} (he:PE X o ta) (ha:PA X (e::es) t)
  (hst:starEach (e::es) X.env=(false,eval e X.env)::starEach es X.env:=by rfl) (hpl:(backTo pos (starEach es X.env)).any (·.1)=false:=by rfl)
  (ht:eval (.Call (.Attribute o m apos) (e::es) [] pos) X.env=(do
   let ov ← eval o X.env
   standAt apos.atName
   let (f,first) ← holding [ov] (getMethod ov m pl)
   callWith pos f first (backTo pos (starEach (e::es) X.env)) (backToKw pos (keywordEach [] X.env))):=by rfl) :
  PE X (.Call (.Attribute o m apos) (e::es) [] pos) (tMeth C m sp [] E ta t):=by
 obtain ⟨f,fd,a,b,d⟩:=h;exact pe_meth he c a d hr b .nil hx ha hst hpl ht
def pe_okM0 (h:OkM X.prog X.w X.K X.mg X.base CX k C m ps sp) (c:Cls X.K C) (hr:Room k X.A) (hx:xx CX X E) {pl:Sem Bool} (he:PE X o ta)
  (ht:eval (.Call (.Attribute o m apos) [] [] pos) X.env=(do
   let ov ← eval o X.env
   standAt apos.atName
   let (f,first) ← holding [ov] (getMethod ov m pl)
   callWith pos f first (backTo pos (starEach [] X.env)) (backToKw pos (keywordEach [] X.env))):=by rfl) :
  PE X (.Call (.Attribute o m apos) [] [] pos) (tMeth C m sp [] E ta tNil):=by
 obtain ⟨f,fd,a,b,d⟩:=h;exact pe_meth0 he c a d hr b .nil hx ht
def zb8 (h:OkI X.prog X.w X.K X.mg X.base CX k C ps sp) (hm:X.mg x=some (.ref C)) (hr:Room (k+1) X.A) (hg:Gl X x) (hx:xx CX X E) (ha:PA X (e::es) t) (hdb:(x == ("__debug__":Str))=false:=by decide)
  (he:starEach (e::es) X.env=(false,eval e X.env)::starEach es X.env:=by rfl) (hpl:(backTo pos (starEach es X.env)).any (·.1)=false:=by rfl):PE X (.Call (.Name x p) (e::es) [] pos) (tMake C sp [] E t):=by
 obtain ⟨f,fd,a,b,d⟩:=h;exact pe_make a d hr hg hm b .nil hx ha hdb he hpl
end
theorem rep_ints (n:Nat):(List.replicate n [V.int 0]).flatten=(List.replicate n (0:Int)).map V.int:=by
 induction n with
 | zero=>rfl
 | succ n ih=>rw [List.replicate_succ,List.flatten_cons,ih];rfl
def zcx {ns:Jb} {j:Nat} {n:Int}:(ns.map V.int).set j (.int n)=(ns.set j n).map V.int:=by rw [List.map_set]
def ixN_nat {n:Nat} {i:Int} (h0:0<=i) (h1:i<n):ixN n i=some i.toNat:=by
 unfold ixN;rw [if_pos h0,if_pos h1]
def FH (K:Fg) (x qual:Str) (st:Stmt) (f:Ad):Prop:=∃ (oc:Vl) (od:Option Ad) (kV dc pm:Vl) (an:Option Ad) (cd ct:Vl) (sl:Array (Je)),K.lookup f=some ⟨oc,od,.func (PySem.W.fnOf x qual (yW st) (yu st) (zh st) .none kV dc pm an cd ct),sl⟩/\PySem.W.codeIn K cd qual=true/\PySem.W.keepIn K (.ref f)=true
def DH (K:Fg) (x:Str) (st:Stmt) (f:Ad):Prop:=PySem.W.nsIn K mainGlobals x=some (some (.ref f))/\FH K x x st f
def MH (K:Fg) (C:Ad) (x qual:Str) (st:Stmt):Prop:=∃ f:Ad,(PySem.W.findIn K (.ref C) x=some (some (.ref f))/\PySem.W.isFn K (.ref f)=true)/\FH K x qual st f
def CH (K:Fg) (C:Ad):Prop:=PySem.W.plainGet K C Str.empty=true/\PySem.W.hasDictIn K C=true/\PySem.W.plainOver K C=true/\PySem.W.findIn K (.ref C) "__setattr__"=some (some (.builtin "object.__setattr__"))
def FN (K:Fg) (C:Ad):Jf->Prop
 | []=>True
 | f::r=>PySem.W.findIn K (.ref C) f=some none/\FN K C r
section
variable {K:Fg} {mg:J0} {x qual:Str} {st:Stmt} {f C:Ad} {h:Heap} {ps:Jf}
def DH.d (d:DH K x st f) (X:K.In h) (G:h.Ns mainGlobals mg)
  (b:∀ (kV doc pm:Vl) (an:Option Ad) (cdv ct:Vl) (us:Jd),us.length=ps.length->bindArgs (PySem.W.fnOf x x (yW st) (yu st) (zh st) .none kV doc pm an cdv ct) ⟨us,[]⟩=pure (ps.zip us)):zn K mg x st ps :=
 let ⟨a,_,_,_,_,_,_,_,_,_,l,c,k⟩:=d;defIn_mk X G a l c k b
def MH.m (d:MH K C x qual st)
  (b:∀ (kV doc pm:Vl) (an:Option Ad) (cdv ct:Vl) (us:Jd),us.length=ps.length->bindArgs (PySem.W.fnOf x qual (yW st) (yu st) (zh st) .none kV doc pm an cdv ct) ⟨us,[]⟩=pure (ps.zip us)):zZ K C x qual st ps :=
 let ⟨f,⟨a,n⟩,_,_,_,_,_,_,_,_,_,l,c,k⟩:=d;⟨f,_,⟨a,n,k⟩,Ys l c k,(Ys l c k).binds b⟩
def MH.i (d:MH K C "__init__" qual st) (mk:PySem.W.makesIn K C=true) (kC:PySem.W.keepIn K (.ref C)=true)
  (b:∀ (kV doc pm:Vl) (an:Option Ad) (cdv ct:Vl) (us:Jd),us.length=ps.length->bindArgs (PySem.W.fnOf "__init__" qual (yW st) (yu st) (zh st) .none kV doc pm an cdv ct) ⟨us,[]⟩=pure (ps.zip us)):Yt K C qual st ps :=
 let ⟨f,⟨a,n⟩,_,_,_,_,_,_,_,_,_,l,c,k⟩:=d;⟨f,_,⟨mk,a,n,kC⟩,Ys l c k,(Ys l c k).binds b⟩
def CH.c (d:CH K C):Cls K C:=⟨d.1,d.2.1,d.2.2.1,d.2.2.2⟩
end
end L2
namespace L2
open PySem
def DH.mk {K:Fg} {x:Str} {st:Stmt} {f:Ad} {oc:Vl} {od an:Option Ad} {kV dc pm cd ct:Vl} {sl:Array (Je)} (a:PySem.W.nsIn K mainGlobals x=some (some (.ref f))) (l:K.lookup f=some ⟨oc,od,.func (PySem.W.fnOf x x (yW st) (yu st) (zh st) .none kV dc pm an cd ct),sl⟩) (c:PySem.W.codeIn K cd x=true) (k:PySem.W.keepIn K (.ref f)=true):DH K x st f:=⟨a,_,_,_,_,_,_,_,_,_,l,c,k⟩
def MH.mk {K:Fg} {C:Ad} {x qual:Str} {st:Stmt} {f:Ad} {oc:Vl} {od an:Option Ad} {kV dc pm cd ct:Vl} {sl:Array (Je)} (a:PySem.W.findIn K (.ref C) x=some (some (.ref f))) (n:PySem.W.isFn K (.ref f)=true) (l:K.lookup f=some ⟨oc,od,.func (PySem.W.fnOf x qual (yW st) (yu st) (zh st) .none kV dc pm an cd ct),sl⟩) (c:PySem.W.codeIn K cd qual=true) (k:PySem.W.keepIn K (.ref f)=true):MH K C x qual st:=⟨f,⟨a,n⟩,_,_,_,_,_,_,_,_,_,l,c,k⟩
def scK {N P:Jf} {sc:Scope} (h:(decide (sc.kind=.function) && (!sc.isCoroutine && (!sc.isGenerator && (decide N.Nodup && (decide (N.take P.length=P) && ((P.all λx=>decide (sc.names.lookup x=some .local∨sc.names.lookup x=some .cell)) && sc.names.all λy=>decide (y.2≠.free)))))))=true:=by decide +kernel):FnScope N P sc:=by
 simp only [Bool.and_eq_true,decide_eq_true_eq,Bool.not_eq_true',List.all_eq_true] at h;obtain ⟨h1,h2,h3,h4,h5,h6,h7⟩:=h;exact ⟨h1,h2,h3,h4,h5,h6,h7⟩
def TB (K:Fg) (T:Ad):List (Str×Ad)->Prop
 | []=>True
 | p::r=>PySem.W.nsIn K T p.1=some (some (.ref p.2))/\TB K T r
def TN (K:Fg) (T:Ad):Jf->Prop
 | []=>True
 | x::r=>PySem.W.nsIn K T x=some none/\TN K T r
end L2
namespace L2
open PySem PySem.Spec PyProof.Rows
structure Hd (B:Hp) (L:Jm) (H:Hp):Prop where
 nd:(L.map Prod.fst).Nodup
 nw:∀ p∈L,B p.1=none
 st:∀ p∈L,H p.1=some p.2
 sm:Same B H
namespace Hd
variable {B:Hp} {L:Jm} {H H':Hp} {a b:Ad} {o o':HO}
def base:Hd B [] B:=⟨List.nodup_nil,(λ_ h=>nomatch h),(λ_ h=>nomatch h),Same.refl B⟩
def get (h:Hd B L H) (i:Nat) (e:L[i]?=some (a,o)):H a=some o:=h.st _ (List.mem_of_getElem? e)
def same (h:Hd B L H) (s:Same H H'):Hd B L H':=⟨h.nd,h.nw,λp m=>s _ _ (h.st p m),h.sm.trans s⟩
def new (h:Hd B L H) (n:H a=none):Hd B ((a,o)::L) (upd H a o):=by
 have ne:∀ p∈L,p.1≠a:=λp m=>zp (h.st p m) n;refine ⟨List.nodup_cons.mpr ⟨λm=>?_,h.nd⟩,λp m=>?_,λp m=>?_,zi h.sm (h.sm.free n)⟩
 ·obtain ⟨p,mp,e⟩:=List.mem_map.mp m
  exact ne p mp e
 ·rcases List.mem_cons.mp m with rfl | m
  ·exact h.sm.free n
  ·exact h.nw p m
 ·rcases List.mem_cons.mp m with rfl | m
  ·exact zf
  ·rw [zj (ne p m)];exact h.st p m
def fst_set (i:Nat) (e:L[i]?=some (a,o)):(L.set i (a,o')).map Prod.fst=L.map Prod.fst:=by
 rw [List.map_set];apply List.ext_getElem?;intro j;rw [List.getElem?_set]
 split
 ·rename_i q
  subst q
  split
  ·rw [List.getElem?_map,e];rfl
  ·rename_i q
   rw [List.getElem?_eq_none (by omega)]
 ·rfl
theorem ne (h:Hd B L H) (i j:Nat) (ei:L[i]?=some (a,o)) (ej:L[j]?=some (b,o')) (hij:i≠j):a≠b:=λe=>by
 subst e;have h1:(L.map Prod.fst)[i]?=some a:=by rw [List.getElem?_map,ei];rfl
 have h2:(L.map Prod.fst)[j]?=some a:=by rw [List.getElem?_map,ej];rfl
 obtain ⟨b1,e1⟩:=List.getElem?_eq_some_iff.mp h1;obtain ⟨b2,e2⟩:=List.getElem?_eq_some_iff.mp h2
 have key:∀ (l:Jg),l.Nodup->∀ (i j:Nat) (b1:i<l.length) (b2:j<l.length),l[i]=l[j]->i=j:=by
  intro l hl
  induction l with
  | nil=>intro i j b1;cases b1
  | cons x r ih =>
   intro i j b1 b2 q;have nr:=List.nodup_cons.mp hl
   cases i with
   | zero =>
    cases j with
    | zero=>rfl
    | succ j=>exact absurd (by rw [List.getElem_cons_zero,List.getElem_cons_succ] at q;rw [q];exact List.getElem_mem _) nr.1
   | succ i =>
    cases j with
    | zero=>exact absurd (by rw [List.getElem_cons_zero,List.getElem_cons_succ] at q;rw [← q];exact List.getElem_mem _) nr.1
    | succ j=>rw [List.getElem_cons_succ,List.getElem_cons_succ] at q;rw [ih nr.2 i j _ _ q]
 exact hij (key _ h.nd i j b1 b2 (e1.trans e2.symm))
def chg (h:Hd B L H) (i:Nat) (e:L[i]?=some (a,o)) (k:∀ c u,c≠a->H c=some u->H' c=some u) (q:H' a=some o'):Hd B (L.set i (a,o')) H':=by
 have nb:B a=none:=h.nw _ (List.mem_of_getElem? e);refine ⟨by rw [fst_set i e];exact h.nd,λp m=>?_,λp m=>?_,λc u z=>k c u (zp z nb) (h.sm c u z)⟩
 ·rcases List.mem_or_eq_of_mem_set m with m | rfl
  ·exact h.nw p m
  ·exact nb
 ·obtain ⟨j,lt,ej⟩:=List.getElem_of_mem m
  have ej:(L.set i (a,o'))[j]?=some p:=by rw [List.getElem?_eq_getElem lt,ej]
  rw [List.getElem?_set] at ej
  split at ej
  ·split at ej
   ·cases ej;exact q
   ·cases ej
  ·rename_i hij
   obtain ⟨c,u⟩:=p;exact k c u (Ne.symm (h.ne i j e ej hij)) (h.get j ej)
def put (h:Hd B L H) (i:Nat) (e:L[i]?=some (a,o)):Hd B (L.set i (a,o')) (upd H a o'):=h.chg i e (λc u n z=>by rw [zj n];exact z) zf
def sql (h:Hd B L H) {K:Fg} {xs:Jn} (q:SqL K B a xs):SqL K H a xs:=zo q h.sm
def sqt (h:Hd B L H) {K:Fg} {xs:Jn} (q:SqT K B a xs):SqT K H a xs:=by
 rcases q with (q | ⟨o,q⟩) | q
 ·exact .inl (.inl (h.sm _ _ q))
 ·exact .inl (.inr ⟨o,h.sm _ _ q⟩)
 ·exact .inr q
def lst (h:Hd B L H) {K:Fg} {xs:Jn} (i:Nat) (e:L[i]?=some (a,.lst xs)):SqL K H a xs:=SqL.of (h.get i e)
def tup (h:Hd B L H) {K:Fg} {xs:Jn} (i:Nat) (e:L[i]?=some (a,.tup xs)):SqT K H a xs:=SqT.of (h.get i e)
def sub {L':Jm} (h:Hd B L H) (s:List.Sublist L' L):Hd B L' H:=⟨h.nd.sublist (s.map _),λp m=>h.nw p (s.subset m),λp m=>h.st p (s.subset m),h.sm⟩
def tl {p:Ad×HO} (h:Hd B (p::L) H):Hd B L H:=h.sub (List.sublist_cons_self _ _)
def free (h:Hd B L H) (n:H a=none):B a=none:=h.sm.free n
def add (h:Hd B L H) (n:∀ p∈L,p.1≠a) (nb:B a=none) (e:H a=some o):Hd B ((a,o)::L) H:=by
 refine ⟨List.nodup_cons.mpr ⟨λm=>?_,h.nd⟩,λp m=>?_,λp m=>?_,h.sm⟩
 ·obtain ⟨p,mp,e⟩:=List.mem_map.mp m
  exact n p mp e
 ·rcases List.mem_cons.mp m with rfl | m
  ·exact nb
  ·exact h.nw p m
 ·rcases List.mem_cons.mp m with rfl | m
  ·exact e
  ·exact h.st p m
def made {C x dx l:Ad} {ox ol:HO} (h:Hd B L H) (nx:H x=none) (ndx:H dx=none) (ne:dx≠x) (k:∀ b u,b≠x->upd (upd H dx (.own x)) x (.ins C dx []) b=some u->H' b=some u)
  (nl:upd (upd H dx (.own x)) x (.ins C dx []) l=none) (ex:H' x=some ox) (el:H' l=some ol):Hd B ((l,ol)::(x,ox)::(dx,.own x)::L) H':=by
 have h1:Hd B ((dx,.own x)::L) (upd H dx (.own x)):=h.new ndx;have h2:Hd B ((x,.ins C dx [])::(dx,.own x)::L) (upd (upd H dx (.own x)) x (.ins C dx [])):=h1.new (by rw [zj (Ne.symm ne)];exact nx);have h3:Hd B ((x,ox)::(dx,.own x)::L) H':=h2.chg 0 rfl k ex;refine h3.add (λp m=>?_) (h2.free nl) el;rcases List.mem_cons.mp m with rfl | m
 ·exact zp (h2.get 0 rfl) nl
 ·exact zp (h2.st p (q1y _ m)) nl
def perm {B:Hp} {L L':Jm} {H:Hp} (h:Hd B L H) (p:L.Perm L'):Hd B L' H:=⟨(p.map Prod.fst).nodup h.nd,λq m=>h.nw q (p.mem_iff.mpr m),λq m=>h.st q (p.mem_iff.mpr m),h.sm⟩
end Hd
section
variable {X:Cx} {st:Stmt} {t:TS} {e:Expr} {te:TE}
inductive tMid (t:TS) (D:Ends) (σ:St) (H:Hp):Prop
 | mk (M:St->Hp->Prop) (_:t { D with nx:=M } σ H) (_:∀ σ' H',M σ' H'->D.nx σ' H')
theorem ZV (h:PS X st t):PS X st (tMid t):=by
 intro pins s σ H D I q;obtain ⟨M,q,k⟩:=q;refine thn (h pins s σ H _ I q) λf s1 z=>?_
 cases f with
 | next=>exact let ⟨σ',H',I',z⟩:=z;⟨σ',H',I',k _ _ z⟩
 | ret v=>exact z
 | brk=>exact z
 | cont=>exact z
end
def but (H:Hp) (ls:Jg):Hp:=λb=>if b∈ls then none else H b
def Zd {H:Hp} {ls:Jg} {b:Ad} (h:b∈ls):but H ls b=none:=by unfold but;rw [if_pos h]
def yZ {H:Hp} {ls:Jg} {b:Ad} {o:HO} (h:H b=some o) (n:b ∉ ls):but H ls b=some o:=by unfold but;rw [if_neg n];exact h
def but_sub {H:Hp} {ls:Jg}:Same (but H ls) H:=λb o z=>by
 unfold but at z
 split at z
 ·cases z
 ·exact z
namespace Hd
variable {B B':Hp} {L:Jm} {H H':Hp} {a:Ad} {o:HO}
def into (h:Hd B [(a,o)] H):Same B (but H [a]):=λb u z=>yZ (h.sm _ _ z) (by
 intro q;have q:=List.mem_singleton.mp q;subst q;rw [h.nw _ (List.mem_singleton.mpr rfl)] at z;cases z)
def weak (h:Hd B' L H) (s:Same B B'):Hd B L H:=⟨h.nd,λp m=>s.free (h.nw p m),h.st,s.trans h.sm⟩
def back {L:Jm} {o':HO} (h:Hd B L H) (i:Nat) (e:L[i]?=some (a,o)) (k:Hd (but H [a]) [(a,o')] H'):Hd B (L.set i (a,o')) H' :=
 h.chg i e (λc u n z=>k.sm _ _ (yZ z (by simp [n]))) (k.get 0 rfl)
end Hd
def but_inv {H:Hp} {a b:Ad} {o:HO} (h:but H [a] b=some o):b≠a/\H b=some o:=by
 unfold but at h
 split at h
 ·cases h
 ·rename_i z;exact ⟨λe=>z (by rw [e];exact List.mem_singleton_self a),h⟩
def zdx {H:Hp} {a b:Ad} (n:but H [a] b=none) (ne:b≠a):H b=none:=by
 unfold but at n;rw [if_neg (by simp [ne])] at n;exact n
section
variable {X:Cx} {pins:Jc} {σ σ':St} {H H':Hp} {s s':Sh} {a:Ad} {xs:Jn}
end
namespace Hd
variable {B:Hp} {L L':Jm} {H:Hp}
def split (h:Hd B L H) (s:List.Sublist L' L):Same B (but H (L'.map Prod.fst))/\Hd (but H (L'.map Prod.fst)) L' H:=by
 refine ⟨λb o z=>yZ (h.sm _ _ z) λm=>?_,(h.sub s).nd,λp m=>Zd (List.mem_map_of_mem m),(h.sub s).st,but_sub⟩;obtain ⟨p,mp,e⟩:=List.mem_map.mp m;have:=h.nw p (s.subset mp);rw [e] at this;rw [this] at z;cases z
end Hd
def ItS (lo c:Int) (n:Nat):It:=⟨λi _=>i<n,λi H x H'=>H'=H/\x=.int (lo+i*c),λi _=>n<=i⟩
def zbt {P:Program} {w:World} {K:Fg} {tg:Expr} (it:Ad) (lo c:Int) (n:Nat) :
  Turn P w K tg (ItS lo c n) [it] it (λi h=>IsRangeIter h it (lo+(i:Nat)*c) ((n:Int)-(i:Nat)) c) where
 mem:=List.mem_singleton_self it
 obj:=λi h st b hb=>by
  cases List.mem_singleton.mp hb;refine ⟨_,st,λv z=>?_⟩;have y:Data.fields _=Data.cell v:=z;cases y
 keep:=λi h h' st k=>k it (List.mem_singleton_self it) _ st
 item:=by
  intro X hP hw hK hc i pins s σ H E I hf st hg;subst hP;subst hw;subst hK;obtain ⟨a0,a1,a2,a3,a4,a5⟩:=hf it (List.mem_singleton_self it);refine (Walks.range (prog:=X.prog) (w:=X.w) (I.ok.hd hc) it lo c n).item i s _ _ hg st λv h' tk hv st' kk=>?_;obtain ⟨t,rfl⟩:=hv;have J:Inv X pins σ H { s with heap:=h',toks:=tk }:=I.turned (λb o hb e=>kk b o (by simpa using hb) e) a0 a1 a3 a4 a5;exact ⟨_,rfl,go_of (s:={ s with heap:=h',toks:=tk }) (n:="range_iterator") st' rfl rfl (by decide) ⟨.int (lo+i*c),H,J,⟨t,rfl⟩,⟨rfl,rfl⟩,st',λb hb=>(hf b hb).1⟩⟩
 done:=by
  intro X hP hw hK hc i pins s σ H E I hf st hg;subst hP;subst hw;subst hK;obtain ⟨a0,a1,a2,a3,a4,a5⟩:=hf it (List.mem_singleton_self it);have hn:n<=i:=hg;exact wpAny_pyNext_range_end (I.ok.hd hc) st (by omega) λh' eb=>⟨rfl,I.turned (t':=s.toks) (λb o hb e=>eb b o hb e) a0 a1 a3 a4 a5⟩
 self:=λ_ _ _ _ _ st h=>wpAny_pyIter_rangeiter st h
def zd2 {a b c:Int} (ha:0<=a) (ha':a<2 ^ 40) (hb:0<=b) (hb':b<2 ^ 40) (h0:0<c) (h1:c<2 ^ 20):Builtin.Range.small a b c=true:=by
 unfold Builtin.Range.small
 have q:Builtin.Range.rangeSize a b c<=2 ^ 40/\0<=Builtin.Range.rangeSize a b c:=by
  unfold Builtin.Range.rangeSize;rw [if_pos (show c > 0 from h0)]
  split
  ·have z:=Int.ediv_le_self (b:=c) (show 0<=b-a-1 by omega)
   have y:=Int.ediv_nonneg (show 0<=b-a-1 by omega) (show 0<=c by omega);omega
  ·omega
 simp only [Builtin.Range.rangeFitsLong,Bool.and_eq_true,Bool.or_eq_true,decide_eq_true_eq,beq_iff_eq];refine ⟨⟨⟨⟨⟨by omega,by omega⟩,by omega,by omega⟩,by omega,by omega⟩,by omega,by omega⟩,.inr ?_⟩;rw [if_pos (show c > 0 from h0),decide_eq_true (show -2 ^ 63<=b+(c-1) by omega),decide_eq_true (show b+(c-1)<2 ^ 63 by omega)];rfl
section
variable {X:Cx} {tg:Expr}
inductive iRngS_S (R:(It->Hp->Prop)) (vs:Jn) (H1:Hp):Prop
 | mk (i j c:Int) (n:Nat) (_:vs=[.int i,.int j,.int c]) (_:(0<=i/\i<2 ^ 40/\0<=j/\j<2 ^ 40/\0<c/\c<2 ^ 20)) (_:Builtin.Range.rangeSize i j c=n) (_:R (ItS i c n) H1)
def iRngS (ta:TA):TI:=λσ H R=>ta σ H λvs H1=>iRngS_S R vs H1
def zd0 {pins:Jc} {σ:St} {H:Hp} {s:Sh} {R:It->Hp->Prop} {E:Ja} {lo hi c:Int} {n:Nat} {t u v:Tok} {tk:Nat} (I:Inv X pins σ H s) (hs:Builtin.Range.small lo hi c=true) (hn:Builtin.Range.rangeSize lo hi c=n)
  (q:R (ItS lo c n) H):wpAny (model X.prog X.w) X.A (pyIter (.ref s.heap.objs.size)) (PIE X pins σ tg R) E { s with heap:=s.heap.push { cls:=.type "range",data:=.fields #[.int lo t,.int hi u,.int c v] },toks:=tk }:=by
 refine wpAny_pyIter_range (IsRange.new ..) hs ?_;have J:Inv X pins σ H { s with heap:=s.heap.push { cls:=.type "range",data:=.fields #[.int lo t,.int hi u,.int c v] },toks:=tk }:=I.kept λb o e=>Heap.get?_push_of_some _ e;generalize hh:s.heap.push { cls:=.type "range",data:=.fields #[.int lo t,.int hi u,.int c v] }=h1 at J ⊢;refine ⟨h1.objs.size,[h1.objs.size],_,_,H,rfl,J.kept (t':=tk) λb o e=>Heap.get?_push_of_some _ e,zbt _ lo c n,?_,λb hb=>?_,q⟩
 ·show IsRangeIter _ _ (lo+((0:Nat):Int)*c) ((n:Int)-((0:Nat):Int)) c
  rw [show lo+((0:Nat):Int)*c=lo by simp,show (n:Int)-((0:Nat):Int)=Builtin.Range.rangeSize lo hi c by rw [hn];simp];exact Heap.get?_push_size _ rfl
 ·cases List.mem_singleton.mp hb
  exact J.fpOk (Nat.le_refl _) (J.hok.fresh (Nat.le_refl _))
theorem pi_range3 {a b c:Expr} {ta:TA} {p pos:Pos} (hg:Gl X "range") (hm:X.mg "range"=none) (ha:PA X [a,b,c] ta) (hs:starEach [a,b,c] X.env=[(false,eval a X.env),(false,eval b X.env),(false,eval c X.env)]:=by rfl)
  (hs2:starEach [b,c] X.env=[(false,eval b X.env),(false,eval c X.env)]:=by rfl):PI X tg (.Call (.Name "range" p) [a,b,c] [] pos) (iRngS ta):=by
 intro pins s σ H R I h;refine Call_ (Zc I hg hm boot_range (PyProof.Rows.callWith_type1 (thn (ha pos pins s σ H _ I h) λus s1 ⟨vs,H1,I1,r1,q1⟩=>?_) (by rw [hs,hs2]) (by rw [hs2];rfl)));obtain ⟨i,j,k,n,e,⟨b1,b2,b3,b4,b5,b6⟩,en,q⟩:=q1;subst e
 cases r1 with
 | cons r rr =>
  cases rr with
  | cons r' rr =>
   cases rr with
   | cons r'' rr =>
    cases rr;obtain ⟨t,rfl⟩:=r;obtain ⟨t',rfl⟩:=r';obtain ⟨t'',rfl⟩:=r'';refine call_range_3 (by omega) (zd0 I1 (zd2 b1 b2 b3 b4 b5 b6) en q) (.inl ?_);exact PyProof.noPylong_small (by omega)
end
section
variable {X:Cx}
def for_step {lo c:Int} {n:Nat} {g:TG} {tb:TS} {D:Ends} {σ:St} {H:Hp} (Pv:Nat->St->Hp->Prop) (h0:Pv 0 σ H)
  (hs:∀ i σ H,i<n->Pv i σ H->g (.int (lo+i*c)) σ H λσ2 H2=>tb { D with nx:=Pv (i+1),ct:=Pv (i+1),bk:=D.nx } σ2 H2) (hd:∀ σ H,Pv n σ H->D.nx σ H) :
  tFor_S g tb D σ (ItS lo c n) H:=by
 refine ⟨λi m σ H=>m=n-i/\i<=n/\Pv i σ H,⟨n,by simp,Nat.zero_le _,h0⟩,?_⟩;rintro i m σ H ⟨rfl,hi,p⟩;by_cases hlt:i<n
 ·refine .inr ⟨hlt,Pv (i+1),λσ' H' p'=>⟨n-(i+1),by omega,rfl,hlt,p'⟩,λx H' y=>?_⟩
  obtain ⟨e,y⟩:=y;subst e y;exact hs i σ _ hlt p
 ·have e:i=n:=by omega
  subst e;exact .inl ⟨Nat.le_refl _,hd σ H p⟩
end
section
variable {X:Cx} {pins:Jc} {σ σ':St} {H H':Hp} {s s':Sh} {a:Ad} {xs:Jn}
def Part (H H':Hp):Prop:=∀ b o,(∀ x u,o≠.frz x u)->H b=some o->H' b=some o
def lsts (L:List (Ad×Jn)):Jm:=L.map λp=>(p.1,.lst p.2)
end
theorem ints_at {ns:Jb} {us:Jd} (h:Vals (ns.map V.int) us) (i:Nat) (v:Vl) (e:us[i]?=some v):∃ n t,ns[i]?=some n/\v=.int n t:=by
 induction ns generalizing us i with
 | nil=>cases h;cases e
 | cons n ns ih =>
  cases h with
  | cons r rr =>
   cases i with
   | zero=>obtain ⟨t,rfl⟩:=r;cases (show some _=some v from e);exact ⟨n,t,rfl,rfl⟩
   | succ i=>exact ih rr i e
theorem vals_len {vs:Jn} {us:Jd} (h:Vals vs us):us.length=vs.length:=by
 induction h with
 | nil=>rfl
 | cons _ _ ih=>rw [q3x,q3x,ih]
section
variable {X:Cx}
end
section
variable {X:Cx} {pins:Jc} {σ:St} {H:Hp} {s:Sh}
theorem kit_of {x:V} {u t:Vl} (I:Inv X pins σ H s) (rx:RelV x u) (ty:TyOf X.K H x t):∃ Z:Heap->Prop,PySem.W.KitX X.K u t Z/\Z s.heap/\u≠.builtin "__main__.__loader__#opaque":=by
 cases ty with
 | non=>cases (show u=Value.none from rx);exact ⟨_,PySem.W.kitx_none,True.intro,λz=>nomatch z⟩
 | bl y=>cases (show u=Value.bool y from rx);exact ⟨_,PySem.W.kitx_bool,True.intro,λz=>nomatch z⟩
 | int i=>obtain ⟨t,q⟩:=(show ∃ t,u=Value.int i t from rx);cases q;exact ⟨_,PySem.W.kitx_int,True.intro,λz=>nomatch z⟩
 | str y=>obtain ⟨t,q⟩:=(show ∃ t,u=Value.str y t from rx);cases q;exact ⟨_,PySem.W.kitx_str,True.intro,λz=>nomatch z⟩
 | flt y=>obtain ⟨t,q⟩:=(show ∃ t,u=Value.float y t from rx);cases q;exact ⟨_,PySem.W.kitx_float,True.intro,λz=>nomatch z⟩
 | @lst a xs ea =>
  cases (show u=Value.ref a from rx);obtain ⟨_,_,n,_,e1⟩:=(show ObjOk X.prog X.w H s.heap a (.lst xs) from I.hok a _ ea);exact ⟨_,PySem.W.kitx_list,⟨_,e1,rfl⟩,λz=>nomatch z⟩
 | @frz a ob xs ea =>
  cases (show u=Value.ref a from rx);obtain ⟨_,_,_,n,_,e1⟩:=(show ObjOk X.prog X.w H s.heap a (.frz ob (.lst xs)) from I.hok a _ ea);exact ⟨_,PySem.W.kitx_list,⟨_,e1,rfl⟩,λz=>nomatch z⟩
 | @tup a xs ea =>
  cases (show u=Value.ref a from rx);obtain ⟨_,_,_,p⟩:=(show ObjOk X.prog X.w H s.heap a (.tup xs) from I.hok a _ ea);obtain ⟨o,e1,e2,_⟩:=p;exact ⟨_,PySem.W.kitx_tuple,⟨o,e1,e2⟩,λz=>nomatch z⟩
 | @dK a kvs ea =>
  cases (show u=Value.ref a from rx);obtain ⟨_,_,vs,_,p⟩:=(show ObjOk X.prog X.w H s.heap a (.dK kvs) from I.hok a _ ea);obtain ⟨o,es,ep,e1,e2,_⟩:=p;exact ⟨_,PySem.W.kitx_dict,⟨o,e1,e2.1⟩,λz=>nomatch z⟩
 | @dT a kvs ea =>
  cases (show u=Value.ref a from rx);obtain ⟨_,_,xs,_,p⟩:=(show ObjOk X.prog X.w H s.heap a (.dT kvs) from I.hok a _ ea);obtain ⟨o,es,ep,e1,e2,_⟩:=p;exact ⟨_,PySem.W.kitx_dict,⟨o,e1,e2.1⟩,λz=>nomatch z⟩
 | @ins a C dx fs ea cl ha hn htk hm =>
  cases (show u=Value.ref a from rx);obtain ⟨mA,O,_⟩:=YS I.hok ea;obtain ⟨od,J,_⟩:=O.look;exact ⟨_,PySem.W.kitx_own (cl.get _) cl.hd ha hn htk hm,J,λz=>nomatch z⟩
def clsV:V->Vl
 | .ref a=>.ref a
 | .ty n=>.type n
 | _=>.none
def isClsV:V->Bool
 | .ref _=>true
 | .ty _=>true
 | _=>false
theorem zcs:∀ {cs:Jn} {us:Jd},cs.all isClsV=true->Vals cs us->us=cs.map clsV
 | [],_,_,.nil=>rfl
 | c::cs,_,h,.cons r rr=>by
  rw [List.all_cons,Bool.and_eq_true] at h;rw [zcs h.2 rr]
  cases c with
  | ref a=>cases (show _=Value.ref a from r);rfl
  | ty n=>cases (show _=Value.type n from r);rfl
  | _=>cases h.1
inductive rIsiT (K:Fg) (vs:Jn) (H:Hp) (Q:VK):Prop
 | mk (x:V) (tp:Ad) (cs:Jn) (t:Vl) (b:Bool) (_:vs=[x,.ref tp]) (_:H tp=some (.tup cs)) (_:cs.all isClsV=true) (_:TyOf K H x t) (_:PySem.W.kitAny K t (cs.map clsV)=some b) (_:Q (.bl b) H)
def zco:xq X (.builtin "isinstance") (rIsiT X.K):=by
 intro pins s σ H xs us Q I r h;obtain ⟨x,tp,cs,t,b,rfl,et,hc,ty,e,q⟩:=h;obtain ⟨u,w',rfl,ru,rw'⟩:=XO r;cases (show w'=Value.ref tp from rw');obtain ⟨Z,kx,hz,nl⟩:=kit_of I ru ty;obtain ⟨_,its,rv,⟨cls,dd,data,sl⟩,e1,e2,n,e3⟩:=(show ObjOk X.prog X.w H s.heap tp (.tup cs) from I.hok tp _ et);simp only at e2 e3;subst e2 e3;rw [← zcs hc rv] at e;exact PySem.W.kia_tup kx I.kIn hz e1 e nl λtk=>⟨.bl b,H,I.tok _,rfl,q⟩
end
section
variable {prog:Program} {w:World} {A:Around} {E:Ja} {s:Sh}
end
section
variable {X:Cx} {pos:Pos}
end
section
variable {X:Cx} {pins:Jc} {σ:St} {H:Hp} {s:Sh} {h':Heap}
def Inv.turnedT {its:Jg} {T:Ad} {o:HO} {t':Nat} (I:Inv X pins σ H s) (k:∀ b u,b ∉ its->s.heap.get? b=some u->h'.get? b=some u) (hf:∀ b∈its,Ze X pins H b) (hT:s.heap.objs.size<=T) (new:ObjOk X.prog X.w (upd H T o) h' T o) :
  Inv X pins σ (upd H T o) { s with heap:=h',toks:=t' }:=by
 have fr:=I.hok.fresh hT;have neT:∀ {b:Ad} {u:Obj},s.heap.get? b=some u->b≠T:=λe=>Nat.ne_of_lt (q2z (Heap.lt_size e) hT);have ni:∀ {b:Ad} {u:HO},H b=some u->b ∉ its:=λe m=>by rw [(hf _ m).1] at e;cases e
 refine I.step (g':=s.gens) (d':=s.drawn) (ch:=its) (λb hb=>?_) (λb u _ _ hc e _=>k b u hc e) (λb u _ _ hc e _=>⟨u.slots,k b u hc e⟩) (λb u _ e n=>by rw [zj (neT e)];exact n)
  (λb u hc e=>⟨u,k b u hc e⟩) (λb ys e=>by rw [zj (zp e fr)];exact e) (λb u v e=>by rw [zj (zp e fr)];exact e) (λb ps e=>⟨#[],by rw [zj (zp e fr),e];simp⟩) (λm hm=>?_) (λb u e=>?_) I.bare
 ·obtain ⟨_,f1,_,f3,f4,f5⟩:=hf b hb
  exact ⟨f3,f1,f4,f5⟩
 ·obtain ⟨ob,es,ep,ho,r⟩:=hm
  exact ⟨ob,es,ep,k _ ob (λm=>(hf _ m).2.1 rfl) ho,r⟩
 ·by_cases hb:b=T
  ·subst hb;rw [zf] at e;cases e;exact new
  ·rw [zj hb] at e
   refine (I.hok b u e).stay (λc v hc q=>k c v ?_ q) (λc q=>by rw [zj (zp q fr)];exact q) λc ys q=>by rw [zj (zp q fr)];exact q
   rcases hc with z | z
   ·rw [z];exact ni e
   ·exact ni z
def Inv.turnedL {its:Jg} {t':Nat} (I:Inv X pins σ H s) (k:∀ b u,b ∉ its->s.heap.get? b=some u->h'.get? b=some u) (hf:∀ b∈its,Ze X pins H b):Inv X pins σ H { s with heap:=h',toks:=t' }:=by
 have ni:∀ {b:Ad} {u:HO},H b=some u->b ∉ its:=λe m=>by rw [(hf _ m).1] at e;cases e
 refine I.step (g':=s.gens) (d':=s.drawn) (ch:=its) (λb hb=>?_) (λb u _ _ hc e _=>k b u hc e) (λb u _ _ hc e _=>⟨u.slots,k b u hc e⟩) (λ_ _ _ _ n=>n)
  (λb u hc e=>⟨u,k b u hc e⟩) (λ_ _ e=>e) (λ_ _ _ e=>e) (λb ps e=>⟨#[],by rw [e];simp⟩) (λm hm=>?_) (λb u e=>?_) I.bare
 ·obtain ⟨_,f1,_,f3,f4,f5⟩:=hf b hb
  exact ⟨f3,f1,f4,f5⟩
 ·obtain ⟨ob,es,ep,ho,r⟩:=hm
  exact ⟨ob,es,ep,k _ ob (λm=>(hf _ m).2.1 rfl) ho,r⟩
 ·refine (I.hok b u e).stay (λc v hc q=>k c v ?_ q) (λ_ q=>q) λ_ _ q=>q
  rcases hc with z | z
  ·rw [z];exact ni e
  ·exact ni z
end
def Itz (K:Fg) (l1 l2:Ad):It :=
  ⟨λi H=>∃ xs ys x y,SqL K H l1 xs/\SqL K H l2 ys/\xs[i]?=some x/\ys[i]?=some y,
   λi H x H'=>∃ T u v,x=.ref T/\H T=none/\H'=upd H T (.tup [u,v])/\∀ xs ys,SqL K H l1 xs->SqL K H l2 ys->xs[i]?=some u/\ys[i]?=some v,
   λi H=>∃ xs ys,SqL K H l1 xs/\SqL K H l2 ys/\(xs.length<=i∨ys.length<=i)⟩
def zcu {P:Program} {w:World} {K:Fg} {es:Jh} {kt:Nat} {pos:Pos} {z TI TO i1 i2 l1 l2:Ad} (D:ZipApart z TI TO i1 i2 l1 l2) :
  Turn P w K (.Tuple es kt pos) (Itz K l1 l2) [z,TI,TO,i1,i2] z (λi h=>IsZip h z TI TO .none/\IsPair h TI (.ref i1) (.ref i2)/\(∃ a b,IsPair h TO a b)/\h.IsListIter i1 l1 i/\h.IsListIter i2 l2 i) where
 mem:=by simp
 obj:=λi h st b hb=>by
  obtain ⟨hz,hI,⟨a,b',hO⟩,⟨o1,e1,c1,d1⟩,⟨o2,e2,c2,d2⟩⟩:=st;simp at hb;rcases hb with rfl | rfl | rfl | rfl | rfl
  ·exact ⟨_,hz,λv q=>by cases q⟩
  ·exact ⟨_,hI,λv q=>by cases q⟩
  ·exact ⟨_,hO,λv q=>by cases q⟩
  ·exact ⟨_,e1,λv q=>by rw [d1] at q;cases q⟩
  ·exact ⟨_,e2,λv q=>by rw [d2] at q;cases q⟩
 keep:=λi h h' st k=>by
  obtain ⟨hz,hI,⟨a,b',hO⟩,h1,h2⟩:=st;exact ⟨k z (by simp) _ hz,k TI (by simp) _ hI,⟨a,b',k TO (by simp) _ hO⟩,h1.at λo e=>k i1 (by simp) o e,h2.at λo e=>k i2 (by simp) o e⟩
 item:=by
  intro X hP hw hK hc i pins s σ H E I hf st hg;subst hP hw hK;obtain ⟨hz,hI,⟨a,b',hO⟩,h1,h2⟩:=st;obtain ⟨xs,ys,x,y,q1,q2,ex,ey⟩:=hg;obtain ⟨is1,r1,p1,_⟩:=I.list q1;obtain ⟨is2,r2,p2,_⟩:=I.list q2;obtain ⟨u,hu,ru⟩:=r1.get ex;obtain ⟨v,hv,rv⟩:=r2.get ey;refine wpAny_pyNext_zip_item D hz hI hO h1 h2 p1.isList p2.isList (x:=u) (y:=v) (by simpa using hu) (by simpa using hv) λh1' a1 a2 a3 a4 a5 a6 hk=>?_;refine ⟨_,rfl,wpAny_letOwnedTupleGo_zip (s:={ s with heap:=h1' }) a1 λh2' z' sb=>?_⟩;have lt:∀ {c:Ad} {o:Obj},s.heap.get? c=some o->c≠s.heap.objs.size:=λe=>Nat.ne_of_lt (Heap.lt_size e);have Tz:s.heap.objs.size≠z:=(lt hz).symm;have fr:=I.hok.fresh (Nat.le_refl _);refine ⟨.ref s.heap.objs.size,upd H s.heap.objs.size (.tup [x,y]),I.turnedT (its:=[z,TI,TO,i1,i2]) (t':=s.toks) (λb o nb e=>?_) hf (Nat.le_refl _) ⟨by show 2<=sizeLine;decide,[u,v],.cons ru (.cons rv .nil),_,sb.extBut _ _ Tz a5,rfl,_,rfl⟩,rfl,⟨s.heap.objs.size,x,y,rfl,fr,rfl,λxs' ys' q1' q2'=>?_⟩,?_,λb hb=>?_⟩
  ·have nb':b≠z/\b≠TI/\b≠TO/\b≠i1/\b≠i2:=by simpa using nb
   exact sb.extBut _ _ nb'.1 (hk b o nb'.1 nb'.2.2.1 nb'.2.2.2.1 nb'.2.2.2.2 e)
  ·rw [I.list_inj q1' q1,I.list_inj q2' q2];exact ⟨ex,ey⟩
  ·exact ⟨z',sb.extBut _ _ D.TIz (hk _ _ D.TIz D.TITO D.TIi1 D.TIi2 hI),⟨_,_,sb.extBut _ _ D.TOz a2⟩,a3.extBut sb.extBut D.i1z,a4.extBut sb.extBut D.i2z⟩
  ·have e:=(hf b hb).1
   have:∃ o,s.heap.get? b=some o:=by
    simp at hb;rcases hb with rfl | rfl | rfl | rfl | rfl
    ·exact ⟨_,hz⟩
    ·exact ⟨_,hI⟩
    ·exact ⟨_,hO⟩
    ·obtain ⟨o,e,_⟩:=h1;exact ⟨o,e⟩
    ·obtain ⟨o,e,_⟩:=h2;exact ⟨o,e⟩
   obtain ⟨o,eo⟩:=this;rw [zj (lt eo)];exact e
 done:=by
  intro X hP hw hK hc i pins s σ H E I hf st hg;subst hP hw hK;obtain ⟨hz,hI,⟨a,b',hO⟩,h1,h2⟩:=st;obtain ⟨xs,ys,q1,q2,le⟩:=hg;obtain ⟨is1,r1,p1,_⟩:=I.list q1;obtain ⟨is2,r2,p2,_⟩:=I.list q2;have g1:=r1.length;have g2:=r2.length;refine wpAny_pyNext_zip_end (I.ok.hd hc) D hz hI hO h1 h2 p1.isList p2.isList (by rcases le with le | le;exact .inl (by simp;omega);exact .inr (by simp;omega)) λh1' hk=>⟨rfl,I.turnedL (its:=[z,TI,TO,i1,i2]) (t':=s.toks) (λb o nb e=>?_) hf⟩;have nb':b≠z/\b≠TI/\b≠TO/\b≠i1/\b≠i2:=by simpa using nb
  exact hk b o nb'.1 nb'.2.2.1 nb'.2.2.2.1 nb'.2.2.2.2 e
 self:=λ_ _ _ _ _ st h=>wpAny_pyIter_zip st.1 h
section
variable {X:Cx} {es:Jh} {kt:Nat} {tp:Pos}
inductive iZip_S (K:Fg) (R:(It->Hp->Prop)) (vs:Jn) (H1:Hp):Prop
 | mk (l1 l2:_) (_:vs=[.ref l1,.ref l2]) (_:(∃ xs,SqL K H1 l1 xs)) (_:(∃ ys,SqL K H1 l2 ys)) (_:R (Itz K l1 l2) H1)
def iZip (K:Fg) (ta:TA):TI:=λσ H R=>ta σ H λvs H1=>iZip_S K R vs H1
def pi_zip {a b:Expr} {ta:TA} {p pos:Pos} (hg:Gl X "zip") (hm:X.mg "zip"=none) (ha:PA X [a,b] ta) (hs:starEach [a,b] X.env=[(false,eval a X.env),(false,eval b X.env)]:=by rfl)
  (hs2:starEach [b] X.env=[(false,eval b X.env)]:=by rfl):PI X (.Tuple es kt tp) (.Call (.Name "zip" p) [a,b] [] pos) (iZip X.K ta):=by
 intro pins s σ H R I h;refine Call_ (Zc I hg hm boot_zip (PyProof.Rows.callWith_type1 (thn (ha pos pins s σ H _ I h) λus s1 ⟨vs,H1,I1,r1,q1⟩=>?_) (by rw [hs,hs2]) (by rw [hs2];rfl)));obtain ⟨l1,l2,e,⟨xs,x1⟩,⟨ys,x2⟩,q⟩:=q1;subst e;obtain ⟨u,v,rfl,ru,rv⟩:=XO r1;cases (show u=Value.ref l1 from ru);cases (show v=Value.ref l2 from rv);obtain ⟨is1,g1,p1,_⟩:=I1.list x1;obtain ⟨is2,g2,p2,_⟩:=I1.list x2;have L1:l1<s1.heap.objs.size:=by obtain ⟨_,e,_⟩:=p1.isList;exact Heap.lt_size e
 have L2:l2<s1.heap.objs.size:=by obtain ⟨_,e,_⟩:=p2.isList;exact Heap.lt_size e
 refine call_zip_2 p1.isList p2.isList λh' a1 a2 a3 a4 a5 a6 hk=>?_;refine wpAny_pyIter_zip (s:={ s1 with heap:=h' }) a1 ?_;have J:Inv X pins σ H1 { s1 with heap:=h' }:=I1.kept (t':=s1.toks) λb o e=>hk b o e;have fp:∀ n,Ze X pins H1 (s1.heap.objs.size+n):=λn=>I1.fpOk (Nat.le_add_right _ _) (I1.hok.fresh (Nat.le_add_right _ _));refine ⟨_,_,_,_,H1,rfl,J,zcu (zipApart_new L1 L2),⟨a1,a2,⟨_,_,a3⟩,a4,a5⟩,λb hb=>?_,q⟩;simp at hb;rcases hb with rfl | rfl | rfl | rfl | rfl
 ·exact fp 4
 ·exact fp 2
 ·exact fp 3
 ·exact fp 0
 ·exact fp 1
end
def zck {K:Fg} {l1 l2:Ad} {xs ys:Jn} {g:TG} {tb:TS} {D:Ends} {σ:St} {H:Hp} (Pv:Nat->St->Hp->Prop) (h0:Pv 0 σ H) (hl:∀ i σ H,i<=xs.length->Pv i σ H->SqL K H l1 xs/\SqL K H l2 ys) (he:ys.length=xs.length)
  (hs:∀ i x y σ H T,xs[i]?=some x->ys[i]?=some y->Pv i σ H->H T=none->g (.ref T) σ (upd H T (.tup [x,y])) λσ2 H2=>tb { D with nx:=Pv (i+1),ct:=Pv (i+1),bk:=D.nx } σ2 H2) (hd:∀ σ H,Pv xs.length σ H->D.nx σ H) :
  tFor_S g tb D σ (Itz K l1 l2) H:=by
 refine ⟨λi m σ H=>m=xs.length-i/\i<=xs.length/\Pv i σ H,⟨xs.length,by simp,Nat.zero_le _,h0⟩,?_⟩;rintro i m σ H ⟨rfl,hi,p⟩;obtain ⟨q1,q2⟩:=hl i σ H hi p;by_cases hlt:i<xs.length
 ·refine .inr ⟨⟨xs,ys,xs[i],ys[i],q1,q2,by simp [hlt],by simp [he,hlt]⟩,Pv (i+1),λσ' H' p'=>⟨xs.length-(i+1),by omega,rfl,hlt,p'⟩,λx H' y=>?_⟩
  obtain ⟨T,u,v,e,nT,e',y⟩:=y;subst e e';obtain ⟨y1,y2⟩:=y xs ys q1 q2;exact hs i u v σ H T y1 y2 p nT
 ·have e:i=xs.length:=by omega
  subst e;exact .inl ⟨⟨xs,ys,q1,q2,.inl (Nat.le_refl _)⟩,hd σ H p⟩
section
variable (P:Program) (w:World)
end
section
variable {P:Program} {w:World} {H H':Hp} {h h':Heap} {a:Ad} {o:HO}
end
section
variable {P:Program} {w:World} {H:Hp} {h h':Heap} {x e:Ad} {o':HO}
end
section
variable {fs fs' ex ex':Jg} {H H1 H2:Hp} {h h1 h2 h':Heap} {a x e:Ad} {o:HO}
end
section
variable {X:Cx} {pins:Jc} {σ:List (Jo)} {H H':Hp} {s:Sh} {h':Heap}
end
section
variable {X:Cx}
variable {a b:Expr} {ta tb:TE} {pos:Pos}
variable {tA tB':TT} {rest:Jh}
end
section
variable {X:Cx} {pins:Jc} {σ:St} {H:Hp} {s:Sh} {a:Ad} {xs ys:Jn}
end
section
variable {X:Cx} {pins:Jc} {σ:St} {H:Hp} {s:Sh} {E:Ja}
end
section
variable {X:Cx} {st:Stmt} {rest:List Stmt} {t u:TS} {e:Expr} {te:TE} {pos:Pos}
end
section
variable {X:Cx} {pos:Pos}
end
section
variable {X:Cx} {tg:Expr}
end
section
variable {X:Cx} {a b c:Expr} {ta tb tc:TE} {pos:Pos}
end
section
variable {prog:Program} {w:World} {A:Around} {E:Ja} {s:Sh} {K:Fg} {x dx C f:Ad} {mA:J0} {name:Str} {v:Vl}
end
section
variable {P:Program} {w:World} {H H':Hp} {h h':Heap} {a C dx:Ad} {fs fs':List (Str×V)}
end
section
variable {X:Cx} {pins:Jc} {σ:St} {H:Hp} {s:Sh} {a C dx:Ad} {fs:List (Str×V)} {f:Str} {v:V} {A:Around} {E:Ja}
end
section
variable {X:Cx} {o e value:Expr} {f:Str} {pos pos' tpos:Pos} {ta tv:TE}
end
section
variable {X:Cx} {pins:Jc} {σ:St} {H:Hp} {s:Sh} {A:Around} {E:Ja} {Q:Ja} {c:Vl} {b:Bool}
end
section
variable {X:Cx} {e:Expr} {es:Jh} {te:TE} {t:TA} {pos:Pos}
end
section
variable {X:Cx} {pins:Jc} {σ:St} {H:Hp} {s s':Sh}
end
section
variable {X:Cx} {CX:CXT} {k:Nat} {f C:Ad} {fd:FuncData} {ps:Jf} {sp:Sp} {dvs:Jn} {ds:Jd} {E:XK} {x m:Str} {p pos apos:Pos} {e o:Expr} {es:Jh} {ta:TE} {t:TA}
end
section
variable {X:Cx} {CX:CXT} {k:Nat} {f C:Ad} {fd:FuncData} {ps ks:Jf} {sp:Sp} {E:XK} {x m:Str} {p pos apos kpos:Pos} {e o:Expr} {es:Jh} {kws:List Keyword} {te ta:TE} {t tk:TA} {nm:Option Str}
variable {g:Jd->Jd->Jd} {gV:Jn->Jn->Jn}
end
section
variable {X:Cx} {x:Str} {p pos:Pos} {e:Expr} {es:Jh} {t:TA} {id T:String} {r:Jn->Hp->VK->Prop}
end
section
variable {κ:Type} [DecidableEq κ]
def zN (kvs:List (κ×V)) (k:κ):Jo:=(kvs.find? λkv=>decide (kv.1=k)).map (·.2)
def zW (kvs:List (κ×V)) (k:κ) (v:V):List (κ×V) :=
 if (kvs.any λkv=>decide (kv.1=k))=true then kvs.map (λkv=>if kv.1=k then (kv.1,v) else kv) else kvs++[(k,v)]
def dropK (kvs:List (κ×V)) (k:κ):List (κ×V):=kvs.filter λkv=>decide (kv.1≠k)
def ye {p:κ×V} {r:List (κ×V)} {k:κ} (e:p.1=k):zN (p::r) k=some p.2:=by simp [zN,List.find?_cons,e]
def yi {p:κ×V} {r:List (κ×V)} {k:κ} (e:¬ p.1=k):zN (p::r) k=zN r k:=by simp [zN,List.find?_cons,e]
theorem xE (k:κ):∀ kvs:List (κ×V),(kvs.any λkv=>decide (kv.1=k))=(zN kvs k).isSome
 | []=>rfl
 | p::r=>by
  rw [List.any_cons];by_cases e:p.1=k
  ·simp only [ye e,decide_eq_true e,Bool.true_or,Option.isSome_some]
  ·rw [yi e,decide_eq_false e,Bool.false_or];exact xE k r
theorem zct (k j:κ) (y:V):∀ kvs:List (κ×V),zN (kvs.map λkv=>if kv.1=k then (kv.1,y) else kv) j=(zN kvs j).map λx=>if j=k then y else x
 | []=>rfl
 | p::r=>by
  have ih:=zct k j y r;rw [List.map_cons];by_cases h:p.1=k
  ·rw [if_pos h]
   by_cases e:p.1=j
   ·rw [ye (p:=(p.1,y)) e,ye e,Option.map_some,if_pos (e.symm.trans h)]
   ·rw [yi (p:=(p.1,y)) e,yi e,ih]
  ·rw [if_neg h]
   by_cases e:p.1=j
   ·rw [ye (p:=p) e,ye e,Option.map_some,if_neg (λz=>h (e.trans z))]
   ·rw [yi (p:=p) e,yi e,ih]
theorem za0 (k j:κ) (y:V):∀ kvs:List (κ×V),zN kvs k=none->zN (kvs++[(k,y)]) j=if j=k then some y else zN kvs j
 | [],_=>by
  by_cases e:k=j
  ·rw [if_pos e.symm];exact ye (p:=(k,y)) e
  ·rw [if_neg (λz=>e z.symm)];exact yi (p:=(k,y)) e
 | p::r,hn=>by
  rw [List.cons_append];have hk:¬ p.1=k:=λz=>by rw [ye z] at hn;cases hn
  rw [yi hk] at hn;have ih:=za0 k j y r hn;by_cases e:p.1=j
  ·rw [ye e,ye e,if_neg (λz=>hk (e.trans z))]
  ·rw [yi e,yi e,ih]
theorem Zw (kvs:List (κ×V)) (k j:κ) (y:V):zN (zW kvs k y) j=if j=k then some y else zN kvs j:=by
 unfold zW;by_cases a:(kvs.any λkv=>decide (kv.1=k))=true
 ·rw [if_pos a,zct]
  rw [xE] at a;by_cases e:j=k
  ·obtain ⟨x,hx⟩:=Option.isSome_iff_exists.mp a
   rw [if_pos e,e,hx,Option.map_some,if_pos rfl]
  ·rw [if_neg e]
   cases zN kvs j with
   | none=>rfl
   | some x=>rw [Option.map_some,if_neg e]
 ·rw [if_neg a]
  refine za0 k j y kvs ?_;rw [xE] at a
  cases q:zN kvs k with
  | none=>rfl
  | some x=>rw [q] at a;exact (a rfl).elim
def yl (kvs:List (κ×V)) (k:κ) (v:V):(zW kvs k v).length<=kvs.length+1:=by
 unfold zW
 split
 ·rw [Ji];omega
 ·rw [Jj,q3x,List.length_nil];omega
theorem RelO.isSome_eq {o:Jo} {u:Je} (r:RelO o u):o.isSome=u.isSome:=by
 cases o with
 | none=>cases u with
  | none=>rfl
  | some _=>exact (show False from r).elim
 | some _=>cases u with
  | none=>exact (show False from r).elim
  | some _=>rfl
theorem RelO.getD {o:Jo} {u:Je} {d:V} {d':Vl} (r:RelO o u) (rd:RelV d d'):RelV (o.getD d) (u.getD d'):=by
 cases o with
 | none=>cases u with
  | none=>exact rd
  | some _=>exact (show False from r).elim
 | some _=>cases u with
  | none=>exact (show False from r).elim
  | some _=>exact r
theorem KV.val {kvs:List (κ×V)} {vs:List (κ×Vl)} (r:KV kvs vs) (k:κ):RelO (zN kvs k) (valueAt vs k):=by
 unfold KV at r
 induction r with
 | nil=>exact True.intro
 | @cons p q ps qs h t ih =>
  obtain ⟨h1,h2⟩:=h;by_cases e:p.1=k
  ·have e':q.1=k:=h1.symm.trans e
   have b:valueAt (q::qs) k=some q.2:=by simp [valueAt,List.find?_cons,e']
   rw [ye e,b];exact h2
  ·have e':¬ q.1=k:=λz=>e (h1.trans z)
   have b:valueAt (q::qs) k=valueAt qs k:=by simp [valueAt,List.find?_cons,e']
   rw [yi e,b];exact ih
theorem KV.any {kvs:List (κ×V)} {vs:List (κ×Vl)} (r:KV kvs vs) (k:κ):(kvs.any λkv=>decide (kv.1=k))=vs.any λkv=>decide (kv.1=k):=by
 unfold KV at r
 induction r with
 | nil=>rfl
 | cons h t ih=>rw [List.any_cons,List.any_cons,ih,h.1]
theorem KV.repl {kvs:List (κ×V)} {vs:List (κ×Vl)} (r:KV kvs vs) (k:κ) {y:V} {u:Vl} (ry:RelV y u) :
  KV (kvs.map λkv=>if kv.1=k then (kv.1,y) else kv) (vs.map λkv=>if kv.1=k then (kv.1,u) else kv):=by
 unfold KV at r ⊢
 induction r with
 | nil=>exact .nil
 | @cons p q ps qs h t ih =>
  rw [List.map_cons,List.map_cons];refine .cons ?_ ih;obtain ⟨h1,h2⟩:=h;by_cases e:p.1=k
  ·rw [if_pos e,if_pos (h1.symm.trans e)];exact ⟨h1,ry⟩
  ·rw [if_neg e,if_neg (λz=>e (h1.trans z))];exact ⟨h1,h2⟩
def KV.put {kvs:List (κ×V)} {vs:List (κ×Vl)} (r:KV kvs vs) (k:κ) {y:V} {u:Vl} (ry:RelV y u):KV (zW kvs k y) (stored vs k u):=by
 unfold zW stored;rw [r.any k];by_cases e:(vs.any λkv=>decide (kv.1=k))=true
 ·rw [if_pos e,if_pos e];exact r.repl k ry
 ·rw [if_neg e,if_neg e];exact Paired.snoc r ⟨rfl,ry⟩
theorem KV.keys {kvs:List (κ×V)} {vs:List (κ×Vl)} (r:KV kvs vs):kvs.map (·.1)=vs.map (·.1):=by
 unfold KV at r
 induction r with
 | nil=>rfl
 | cons h t ih=>rw [List.map_cons,List.map_cons,ih,h.1]
def KV.length {kvs:List (κ×V)} {vs:List (κ×Vl)} (r:KV kvs vs):kvs.length=vs.length:=Paired.length r
end
theorem zaf {P:Program} {w:World} {k:Key} {u:Vl} (r:RelV (kV k) u):(zD P w).is k u=true:=by
 cases k with
 | inl i=>obtain ⟨t,e⟩:=(show ∃ t,u=Value.int i t from r);subst e;exact zdj P w i t
 | inr x=>obtain ⟨t,e⟩:=(show ∃ t,u=Value.str x t from r);subst e;exact zdi P w x t
theorem za9 {P:Program} {w:World}:∀ {ks:List Key} {us:Jd},Vals (ks.map kV) us->ItemsAre (zD P w) ks us
 | [],_,r=>by rw [List.map_nil] at r;cases r;exact .nil
 | k::ks,_,r=>by
  rw [List.map_cons] at r
  cases r with
  | cons h t=>exact .cons (zaf h) (za9 t)
abbrev KT (H:Hp):List (List Key×V)->List (List Key×Ad×Vl)->Prop:=Paired λp q=>p.1=q.1/\H q.2.1=some (.tup (p.1.map kV))/\RelV p.2 q.2.2
theorem KT.val {H:Hp} {kvs:List (List Key×V)} {xs:List (List Key×Ad×Vl)} (r:KT H kvs xs) (k:List Key):RelO (zN kvs k) ((atKey xs k).map (·.2)):=by
 induction r with
 | nil=>exact True.intro
 | @cons p q ps qs h t ih =>
  obtain ⟨h1,_,h2⟩:=h;by_cases e:p.1=k
  ·have e':q.1=k:=h1.symm.trans e
   have b:atKey (q::qs) k=some q.2:=by simp [atKey,List.find?_cons,e']
   rw [ye e,b];exact h2
  ·have e':¬ q.1=k:=λz=>e (h1.trans z)
   have b:atKey (q::qs) k=atKey qs k:=by simp [atKey,List.find?_cons,e']
   rw [yi e,b];exact ih
theorem KT.repl {H:Hp} {kvs:List (List Key×V)} {xs:List (List Key×Ad×Vl)} (r:KT H kvs xs) (k:List Key) {y:V} {u:Vl} (ry:RelV y u) :
  KT H (kvs.map λkv=>if kv.1=k then (kv.1,y) else kv) (xs.map (putAt k u)):=by
 induction r with
 | nil=>exact .nil
 | @cons p q ps qs h t ih =>
  rw [List.map_cons,List.map_cons];refine .cons ?_ ih;obtain ⟨h1,h2,h3⟩:=h;unfold putAt;by_cases e:p.1=k
  ·rw [if_pos e,if_pos (h1.symm.trans e)];exact ⟨h1,h2,ry⟩
  ·rw [if_neg e,if_neg (λz=>e (h1.trans z))];exact ⟨h1,h2,h3⟩
def KT.put {H:Hp} {kvs:List (List Key×V)} {xs:List (List Key×Ad×Vl)} (r:KT H kvs xs) (k:List Key) {b:Ad} {y:V} {u:Vl} (hb:H b=some (.tup (k.map kV))) (ry:RelV y u) :
  KT H (zW kvs k y) (storedH xs k b u):=by
 have e:(kvs.any λkv=>decide (kv.1=k))=(atKey xs k).isSome:=by
  rw [xE,(r.val k).isSome_eq,Option.isSome_map]
 unfold zW storedH;rw [e];by_cases q:(atKey xs k).isSome=true
 ·rw [if_pos q,if_pos q];exact r.repl k ry
 ·rw [if_neg q,if_neg q];exact Paired.snoc r ⟨rfl,hb,ry⟩
def KT.keeps {H H':Hp} {kvs:List (List Key×V)} {xs:List (List Key×Ad×Vl)} (r:KT H kvs xs) (ht:∀ b ys,H b=some (.tup ys)->H' b=some (.tup ys)):KT H' kvs xs :=
 Paired.mapP r λ_ _ z=>⟨z.1,ht _ _ z.2.1,z.2.2⟩
section
variable {P:Program} {w:World} {H:Hp} {h:Heap} {a:Ad}
def rd_of {u:HO} (ok:HOk P w H h) (e:Rd H a u):ObjOk P w H h a u:=e.ok ok
def zaj {kvs:Jl} (ok:HOk P w H h) (e:Rd H a (.dK kvs)):kvs.length<=sizeLine/\(a == sysModules)=false/\∃ vs,KV kvs vs/\h.DictOf (zD P w) a vs :=
 show ObjOk P w H h a (.dK kvs) from rd_of ok e
def dk_of {kvs:Jl} (ok:HOk P w H h) (e:H a=some (.dK kvs)):kvs.length<=sizeLine/\(a == sysModules)=false/\∃ vs,KV kvs vs/\h.DictOf (zD P w) a vs:=zaj ok (.inl e)
def zae {ks:List Key} (ok:HOk P w H h) (e:H a=some (.tup (ks.map kV))):(tupleKind (zD P w)).is h ks a:=by
 obtain ⟨_,its,r,o,h1,h2,n,h3⟩:=(show ObjOk P w H h a (.tup (ks.map kV)) from ok a _ e);exact ⟨o,its.toArray,n,h1,h2,h3,by simpa using za9 r⟩
theorem zbd {kvs:List (List Key×V)} (ok:HOk P w H h) (e:Rd H a (.dT kvs)):kvs.length<=sizeLine/\(a == sysModules)=false /\
  ∃ xs,KT H kvs xs/\h.DictOfH (tupleKind (zD P w)) a xs:=by
 obtain ⟨z,y,xs,r,o,es,ep,h1,h2,h3,h4,h5⟩:=(show ObjOk P w H h a (.dT kvs) from rd_of ok e);refine ⟨z,y,xs,r,o,es,ep,h1,h2,h3,h4,λx hx=>?_,h5⟩
 have all:∀ {l:List (List Key×V)} {m:List (List Key×Ad×Vl)},KT H l m->∀ x∈m,(tupleKind (zD P w)).is h x.1 x.2.1:=by
  intro l m q
  induction q with
  | nil=>intro x hx;exact nomatch hx
  | @cons p q ps qs hq t ih =>
   intro x hx;rcases List.mem_cons.mp hx with e | hx
   ·subst e
    exact zae ok (by rw [← hq.1];exact hq.2.1)
   ·exact ih x hx
 exact all r x hx
def dt_of {kvs:List (List Key×V)} (ok:HOk P w H h) (e:H a=some (.dT kvs)):kvs.length<=sizeLine/\(a == sysModules)=false /\
  ∃ xs,KT H kvs xs/\h.DictOfH (tupleKind (zD P w)) a xs:=zbd ok (.inl e)
end
def DGet (H:Hp) (a:Ad) (y:V) (r:Jo):Prop :=
 (∃ kvs k,Rd H a (.dK kvs)/\y=kV k/\r=zN kvs k)∨∃ kvs k b,Rd H a (.dT kvs)/\y=.ref b/\H b=some (.tup (k.map kV))/\r=zN kvs k
def DPut (H:Hp) (a:Ad) (y v:V) (H':Hp):Prop :=
 (∃ kvs k,H a=some (.dK kvs)/\y=kV k/\kvs.length<sizeLine/\H'=upd H a (.dK (zW kvs k v))) ∨
 ∃ kvs k b,H a=some (.dT kvs)/\y=.ref b/\H b=some (.tup (k.map kV))/\kvs.length<sizeLine/\H'=upd H a (.dT (zW kvs k v))
def DGet.k {H:Hp} {a:Ad} {kvs:Jl} {k:Key} (e:H a=some (.dK kvs)):DGet H a (kV k) (zN kvs k):=.inl ⟨kvs,k,.inl e,rfl,rfl⟩
def DPut.k {H:Hp} {a:Ad} {kvs:Jl} {k:Key} {v:V} (e:H a=some (.dK kvs)) (hl:kvs.length<sizeLine):DPut H a (kV k) v (upd H a (.dK (zW kvs k v))):=.inl ⟨kvs,k,e,rfl,hl,rfl⟩
section
variable {X:Cx} {pins:Jc} {σ:St} {H:Hp} {s:Sh} {a:Ad} {y v:V} {u r:Vl} {o:Jo} {A:Around} {E:Ja}
def Inv.big (I:Inv X pins σ H s):sysModules<s.heap.objs.size:=by
 have h:mainGlobals<s.heap.objs.size:=(I.mod.glob.keeps I.bk).lt;exact Nat.lt_trans (by decide) h
def d_getItem {Q:Ja} (hu:A.units+1<cLine) (I:Inv X pins σ H s) (g:DGet H a y (some v)) (ry:RelV y u) (h:∀ w' s',Inv X pins σ H s'->RelV v w'->Q w' s') :
  wpAny (model X.prog X.w) A (getItem (.ref a) u) Q E s:=by
 rcases g with ⟨kvs,k,e,ey,l⟩ | ⟨kvs,k,b,e,ey,eb,l⟩
 ·subst ey
  obtain ⟨z,hd,vs,rel,dd⟩:=zaj I.hok e;obtain ⟨w',hw,rw'⟩:=RelO.some_of (v:=v) (o:=valueAt vs k) (by rw [l];exact rel.val k);exact wpAny_getItem_of (zaf ry) dd.mapOf hw (h w' _ (I.tok _) rw')
 ·subst ey
  cases (show u=Value.ref b from ry);obtain ⟨z,hd,xs,rel,dd⟩:=zbd I.hok e;obtain ⟨w',hw,rw'⟩:=RelO.some_of (v:=v) (o:=(atKey xs k).map (·.2)) (by rw [l];exact rel.val k);obtain ⟨p,hp,hp2⟩:=Option.map_eq_some_iff.mp hw;refine wpAny_getItem_heap (tupleKind_room_in1 hu) (zae I.hok eb) dd hp ?_;rw [hp2];exact h w' _ (I.tok _) rw'
def d_notIn {Q:Ja} (hu:A.units+1<cLine) (I:Inv X pins σ H s) (g:DGet H a y o) (ry:RelV y u) (h:∀ s',Inv X pins σ H s'->Q (.bool (!o.isSome)) s') :
  wpAny (model X.prog X.w) A (compareOp .NotIn u (.ref a)) Q E s:=by
 rcases g with ⟨kvs,k,e,ey,l⟩ | ⟨kvs,k,b,e,ey,eb,l⟩
 ·subst ey
  obtain ⟨z,hd,vs,rel,dd⟩:=zaj I.hok e;refine wpAny_notIn_of (zaf ry) hd dd.mapOf ?_;rw [← (rel.val k).isSome_eq,← l];exact h _ (I.tok _)
 ·subst ey
  cases (show u=Value.ref b from ry);obtain ⟨z,hd,xs,rel,dd⟩:=zbd I.hok e;refine wpAny_notIn_heap (tupleKind_room_in1 hu) (zae I.hok eb) hd dd ?_;have q:=(rel.val k).isSome_eq;rw [Option.isSome_map] at q;rw [← q,← l];exact h _ (I.tok _)
def zcn {h':Heap} {t':Nat} {ob:HO} (I:Inv X pins σ H s) (mu:Mut (H a)) (hs:Heap.SameBut a s.heap h') (he:∃ q,h'.get? a=some q) (new:ObjOk X.prog X.w (upd H a ob) h' a ob) :
  Inv X pins σ (upd H a ob) { s with heap:=h',toks:=t' } :=
 I.write (x:=a) (e:=a) mu (.inl rfl) (λb q hb z=>(hs.2 b hb).trans z) he new
def dk_new {P:Program} {w:World} {H':Hp} {h':Heap} {kvs:Jl} {vs:List (Key×Vl)} (z:kvs.length<=sizeLine) (hd:(a == sysModules)=false) (rel:KV kvs vs) (dd:h'.DictOf (zD P w) a vs) :
  ObjOk P w H' h' a (.dK kvs):=⟨z,hd,vs,rel,dd⟩
def d_setItem {H':Hp} {Q:Unit->Sh->Prop} (hu:A.units+1<cLine) (I:Inv X pins σ H s) (g:DPut H a y v H') (ry:RelV y u) (rv:RelV v r) (h:∀ s',Inv X pins σ H' s'->Q () s') :
  wpAny (model X.prog X.w) A (setItem (.ref a) u r) Q E s:=by
 rcases g with ⟨kvs,k,e,ey,l,eH⟩ | ⟨kvs,k,b,e,ey,eb,l,eH⟩
 ·subst ey eH
  obtain ⟨z,hd,vs,rel,dd⟩:=dk_of I.hok e;have hz:vs.length<=sizeLine:=by rw [← rel.length];exact z
  have hl:(zW kvs k v).length<=sizeLine:=by have:=yl kvs k v;omega
  refine wpAny_setItem_pairs (hsz:=hz) (zaf ry) dd λh' dd' hs=>h _ ?_;have he:∃ q,h'.get? a=some q:=let ⟨q,_,_,hq,_⟩:=dd';⟨q,hq⟩;exact zcn I (by rw [e];exact True.intro) hs he (dk_new hl hd (rel.put k rv) dd')
 ·subst ey eH
  cases (show u=Value.ref b from ry);obtain ⟨z,hd,xs,rel,dd⟩:=dt_of I.hok e;have hz:xs.length<=sizeLine:=by rw [← Paired.length rel];exact z
  have hl:(zW kvs k v).length<=sizeLine:=by have:=yl kvs k v;omega
  refine wpAny_setItem_heap (hsz:=hz) (tupleKind_room_in1 hu) (zae I.hok eb) dd λh' dd' hs=>h _ ?_;obtain ⟨q,es,ep,hq,h2,h3,h4,_,h5⟩:=dd';refine zcn I (by rw [e];exact True.intro) hs ⟨q,hq⟩ ⟨hl,hd,_,(rel.put k eb rv).keeps λc ys ec=>?_,q,es,ep,hq,h2,h3,h4,h5⟩;rw [zj (ne_of ec e (λz=>nomatch z))];exact ec
end
section
variable {X:Cx} {pins:Jc} {σ:St} {H:Hp} {s:Sh} {a:Ad} {kvs:Jl} {k:Key} {u:Vl} {A:Around} {E:Ja}
def d_len {Q:Ja} (I:Inv X pins σ H s) (e:Rd H a (.dK kvs)) (h:∀ t s',Inv X pins σ H s'->Q (.int kvs.length t) s'):wpAny (model X.prog X.w) A (call (.builtin "len") [.ref a]) Q E s:=by
 obtain ⟨z,hd,vs,rel,dd⟩:=zaj I.hok e;refine call_len_dict hd dd (by rw [← rel.length];rw [sizeLine_eq] at z;omega) ?_;rw [← rel.length];exact h _ _ (I.tok _)
end
def NoSl (i:Expr):Prop:=∀ ov iv,subscripted i false ov iv=operate [ov,iv] (getItem ov iv)
theorem subD_of {prog:Program} {w:World} {A:Around} {E:Ja} {s:Sh} {env:Env} {value slice:Expr} {pos:Pos} {T id:String} {Q:Ja}
  (hl:typeLookup (.type T) "__getitem__"=pure (some (.builtin id))) (hs:NoSl slice)
  (h:wpAny (model prog w) A (eval value env) (λo s₁=>wpAny (model prog w) A (eval slice env) (λi s₂=>s₂.TypeIs o T/\wpAny (model prog w) A (getItem o i) Q E s₂) E s₁) E s) :
  wpAny (model prog w) A (eval (.Subscript value slice pos) env) Q E s:=by
 refine Subscript_ (wpAny_mono h (λo s₁ h₁=>wpAny_mono h₁ (λi s₂ h₂=>?_) λ_ _ x=>x) λ_ _ x=>x);obtain ⟨hT,h₂⟩:=h₂;unfold subscriptTail;refine q0x ?_;rw [getitemInPython_of_ne hT.not_modules];refine q0x (wpAny_specialOf hT hl ?_)
 have fin:wpAny (model prog w) A (subscripted slice false o i) (λr s₃=>wpAny (model prog w) A (letTemporaryGo value o r >>= λ_=>pure r) Q E s₃) E s₂:=by
  rw [hs o i];exact wpAny_operating (wpAny_mono h₂ (λr s₃ h₃=>q0x (wpAny_letTemporaryGo (q0y h₃))) λ_ _ x=>x)
 first
  | exact q0y (q0x fin)
  | exact q0x (q0y (q0x fin))
  | exact q0x fin
def zdq {X:Cx} {pins:Jc} {σ:St} {H:Hp} {s:Sh} {a:Ad} {y:V} {o:Jo} (I:Inv X pins σ H s) (g:DGet H a y o):s.TypeIs (.ref a) "dict":=by
 rcases g with ⟨kvs,k,e,_,_⟩ | ⟨kvs,k,b,e,_,_,_⟩
 ·obtain ⟨_,_,vs,_,dd⟩:=zaj I.hok e
  exact dd.typeIs
 ·obtain ⟨_,_,xs,_,dd⟩:=zbd I.hok e
  exact dd.typeIs
inductive tDGet_S (Q:VK) (x y:V) (H2:Hp):Prop
 | mk (a v:_) (_:x=.ref a) (_:DGet H2 a y (some v)) (_:Q v H2)
def tDGet (td ty:TE):TE:=λσ H Q=>td σ H λx H1=>ty σ H1 λy H2=>tDGet_S Q x y H2
inductive tDNotIn_S (Q:VK) (y x:V) (H2:Hp):Prop
 | mk (a o:_) (_:x=.ref a) (_:DGet H2 a y o) (_:Q (.bl (!o.isSome)) H2)
def tDNotIn (ty td:TE):TE:=λσ H Q=>ty σ H λy H1=>td σ H1 λx H2=>tDNotIn_S Q y x H2
inductive sDPut_S (D:Ends) (σ:St) (v x y:V) (H3:Hp):Prop
 | mk (a H4:_) (_:x=.ref a) (_:DPut H3 a y v H4) (_:D.nx σ H4)
def sDPut (td ty tv:TE):TS:=λD σ H=>tv σ H λv H1=>td σ H1 λx H2=>ty σ H2 λy H3=>sDPut_S D σ v x y H3
section
variable {X:Cx} {o i e value:Expr} {pos pos' tpos:Pos} {td ty tv:TE}
def ZM (hu:X.A.units+1<cLine) (ho:PE X o td) (hi:PE X i ty) (hs:NoSl i):PE X (.Subscript o i pos) (tDGet td ty):=by
 intro pins s σ H Q I h;refine subD_of PySem.F.slot_dict_getitem.lookup hs (thn (ho pins s σ H _ I h) λu s1 ⟨x,H1,I1,rx,q1⟩=>thn (hi pins s1 σ H1 _ I1 q1) λiv s2 ⟨y,H2,I2,ry,a,v,ex,g,q2⟩=>?_);subst ex;obtain rfl:u=Value.ref a:=rx;exact ⟨zdq I2 g,d_getItem hu I2 g ry λw' s3 I3 rw'=>⟨v,H2,I3,rw',q2⟩⟩
def za3 (hu:X.A.units+1<cLine) (hi:PE X i ty) (ho:PE X o td):PC X .NotIn i o (tDNotIn ty td):=by
 intro pins s σ H Q I h;refine thn (hi pins s σ H _ I h) λiv s1 ⟨y,H1,I1,ry,q1⟩=>thn (ho pins s1 σ H1 _ I1 q1) λu s2 ⟨x,H2,I2,rx,a,ov,ex,g,q2⟩=>?_;subst ex;obtain rfl:u=Value.ref a:=rx;exact d_notIn hu I2 g ry λs3 I3=>⟨.bl (!ov.isSome),H2,I3,rfl,q2⟩
def Z5 (hu:X.A.units+1<cLine) (ho:PE X o td) (hi:PE X i ty) (hv:PE X value tv) (hs:swapsWith value (some (.Subscript o i pos')) pos.line X.env=pure false) :
  PS X (.Assign [.Subscript o i pos'] value pos) (sDPut td ty tv):=by
 intro pins s σ H D I h;refine wpAny_Assign_Subscript (thn (hv pins s σ H _ I h) λr s1 ⟨v,H1,I1,rv,q1⟩=>thn (ho pins s1 σ H1 _ I1 q1) λu s2 ⟨x,H2,I2,rx,q2⟩=>thn (hi pins s2 σ H2 _ I2 q2) λiv s3 ⟨y,H3,I3,ry,a,H4,ex,g,q3⟩=>?_) hs;subst ex;obtain rfl:u=Value.ref a:=rx;exact d_setItem hu I3 g ry rv λs4 I4=>⟨σ,H4,I4,q3⟩
end
def zdp {P:Program} {w:World} {H:Hp} (h:Heap) (hb:sysModules<h.objs.size):ObjOk P w H (h.push { cls:=.type "dict",data:=.dict #[] }) h.objs.size (.dK []) :=
 ⟨Nat.zero_le _,beq_eq_false_iff_ne.mpr (Ne.symm (Nat.ne_of_lt hb)),[],.nil,Heap.DictOf.new h⟩
def tDNewK:TE:=λ_ H Q=>∀ p,H p=none->Q (.ref p) (upd H p (.dK []))
section
variable {X:Cx} {pos:Pos}
def YI:PE X (.Dict [] [] pos) tDNewK:=λpins s σ H Q I h =>
 wpAny_Dict_empty ⟨.ref s.heap.objs.size,_,I.laid (a:=s.heap.objs.size) (o:=.dK []) (t':=s.toks) (λ_ _ q=>Heap.get?_push_of_some _ q) (Nat.le_refl _) (zdp s.heap I.big),rfl,h _ (I.hok.fresh (Nat.le_refl _))⟩
end
def tPairs:List (TE×TE)->St->Hp->(List (V×V)->Hp->Prop)->Prop
 | [],_,H,Q=>Q [] H
 | (tk,tv)::r,σ,H,Q=>tk σ H λx H1=>tv σ H1 λy H2=>tPairs r σ H2 λps H3=>Q ((x,y)::ps) H3
abbrev VV:List (V×V)->List (Vl×Vl)->Prop:=Paired λp q=>RelV p.1 q.1/\RelV p.2 q.2
def PPs (X:Cx) (pos:Pos) (keys:List (Option Expr)) (values:Jh) (trs:List (TE×TE)):Prop :=
 ∀ (pins:Jc) (s:Sh) (σ:St) (H:Hp) (Q:List (V×V)->Hp->Prop),Inv X pins σ H s->tPairs trs σ H Q ->
  wpAny (model X.prog X.w) X.A (evalPairs (pairTrees keys values X.env pos)) (λvs s'=>∃ ps H',Inv X pins σ H' s'/\VV ps vs/\Q ps H') X.xe s
def pps_nil {X:Cx} {pos:Pos}:PPs X pos [] [] []:=λpins s σ H Q I h=>pairTrees_nil_walk ⟨[],H,I,.nil,h⟩
def zc8 {X:Cx} {pos:Pos} {k v:Expr} {ks:List (Option Expr)} {vs:Jh} {tk tv:TE} {trs:List (TE×TE)} (hk:PE X k tk) (hv:PE X v tv) (hr:PPs X pos ks vs trs) :
  PPs X pos (some k::ks) (v::vs) ((tk,tv)::trs):=λpins s σ H Q I h =>
 pairTrees_cons_walk (thn (hk pins s σ H _ I h) λu s1 ⟨x,H1,I1,rx,q1⟩=>thn (hv pins s1 σ H1 _ I1 q1) λw2 s2 ⟨y,H2,I2,ry,q2⟩ =>
  thn (hr pins s2 σ H2 _ I2 q2) λws s3 ⟨ps,H3,I3,rel,q3⟩=>⟨(x,y)::ps,H3,I3,.cons ⟨rx,ry⟩ rel,q3⟩)
def Xa (kvs more:Jl):Jl:=more.foldl (λacc kv=>zW acc kv.1 kv.2) kvs
theorem KV.merge:∀ {more:Jl} {rs:List (Key×Vl)} {kvs:Jl} {vs:List (Key×Vl)},KV more rs->KV kvs vs->KV (Xa kvs more) (merged vs rs):=by
 intro more rs kvs vs r;unfold KV at r
 induction r generalizing kvs vs with
 | nil=>intro q;exact q
 | @cons p q ps qs h t ih =>
  intro r0
  have e:KV (zW kvs p.1 p.2) (stored vs q.1 q.2):=by
   have:=r0.put p.1 h.2;rw [← h.1];exact this
  exact ih e
theorem Yj:∀ (more kvs:Jl),(Xa kvs more).length<=kvs.length+more.length
 | [],kvs=>by show kvs.length<=kvs.length+0;omega
 | p::r,kvs=>by
  have h1:=Yj r (zW kvs p.1 p.2);have h2:=yl kvs p.1 p.2;show (Xa (zW kvs p.1 p.2) r).length<=_;rw [q3x];omega
theorem zaq {P:Program} {w:World}:∀ {kvs:Jl} {ws:List (Vl×Vl)},VV (kvs.map λkv=>(kV kv.1,kv.2)) ws->∃ rs,Carries (zD P w) ws rs/\KV kvs rs
 | [],_,r=>by rw [List.map_nil] at r;cases r;exact ⟨[],True.intro,.nil⟩
 | p::kvs,_,r=>by
  rw [List.map_cons] at r
  cases r with
  | @cons a b as bs h t =>
   obtain ⟨rs,c,q⟩:=zaq (P:=P) (w:=w) t;obtain ⟨b1,b2⟩:=b;exact ⟨(p.1,b2)::rs,⟨zaf h.1,rfl,c⟩,.cons ⟨rfl,h.2⟩ q⟩
def tDisp (trs:List (TE×TE)):TE:=λσ H Q=>∀ p,H p=none->tPairs trs σ (upd H p (.dK [])) λps H2=>H2 p=some (.dK [])/\∃ kvs:Jl,ps=kvs.map (λkv=>(kV kv.1,kv.2))/\kvs.length<=15/\Q (.ref p) (upd H2 p (.dK (Xa [] kvs)))
def pe_disp {X:Cx} {pos:Pos} {keys:List (Option Expr)} {values:Jh} {trs:List (TE×TE)} (h:PPs X pos keys values trs) (hall:keys.all (·.isSome)=true) (hl:keys.length=values.length) (h0:keys≠[])
  (h15:keys.length<=15):PE X (.Dict keys values pos) (tDisp trs):=by
 intro pins s σ H Q I q;have hn:=I.hok.fresh (Nat.le_refl s.heap.objs.size);have I1:=I.laid (a:=s.heap.objs.size) (o:=.dK []) (h':=s.heap.push { cls:=.type "dict",data:=.dict #[] }) (t':=s.toks) (λ_ _ q=>Heap.get?_push_of_some _ q) (Nat.le_refl _) (zdp s.heap I.big);refine wpAny_Dict_walk (knd:=zD X.prog X.w) hall hl h0 h15 (thn (h pins _ σ _ _ I1 (q _ hn)) λws s2 ⟨ps,H2,I2,rel,e,kvs,ep,lk,q2⟩=>?_);subst ep;obtain ⟨rs,c,rk⟩:=zaq (P:=X.prog) (w:=X.w) rel;obtain ⟨z,hd,vs0,r0,dd⟩:=dk_of I2.hok e;cases r0;refine ⟨rs,c,dd,λh' dd' hs=>⟨.ref s.heap.objs.size,_,?_,rfl,q2⟩⟩
 have hz:(Xa [] kvs).length<=sizeLine:=by
  have h1:=Yj kvs [];rw [List.length_nil] at h1;rw [sizeLine_eq];omega
 have he:∃ q,h'.get? s.heap.objs.size=some q:=let ⟨q,_,_,hq,_⟩:=dd';⟨q,hq⟩;exact zcn I2 (by rw [e];exact True.intro) hs he (dk_new hz hd (rk.merge .nil) dd')
structure M1 (X:Cx) (o:Expr) (m:Str) (apos:Pos) (e:Expr) (cpos:Pos):Prop where
 base:attributeBase o m X.env (eval o X.env)=eval o X.env
 few:((backTo cpos (starEach [e] X.env)).all (λx=>!x.1) && (backToKw cpos (keywordEach [] X.env)).all (λx=>x.1.isSome)
  && decide (([e]:Jh).length+([]:List Keyword).length+(if ([]:List Keyword).isEmpty then 0 else 1)<30))=true
 line:(apos.endLine == cpos.line)=true
 trees:backTo cpos (starEach [e] X.env)=[(false,eval e X.env)]
structure M2 (X:Cx) (o:Expr) (m:Str) (apos:Pos) (e f:Expr) (cpos:Pos):Prop where
 base:attributeBase o m X.env (eval o X.env)=eval o X.env
 few:((backTo cpos (starEach [e,f] X.env)).all (λx=>!x.1) && (backToKw cpos (keywordEach [] X.env)).all (λx=>x.1.isSome)
  && decide (([e,f]:Jh).length+([]:List Keyword).length+(if ([]:List Keyword).isEmpty then 0 else 1)<30))=true
 line:(apos.endLine == cpos.line)=true
 trees:backTo cpos (starEach [e,f] X.env)=[(false,eval e X.env),(false,eval f X.env)]
def IsD (H:Hp) (a:Ad):Prop:=(∃ kvs,Rd H a (.dK kvs))∨∃ kvs,Rd H a (.dT kvs)
def isD_at {X:Cx} {pins:Jc} {σ:St} {H:Hp} {s:Sh} {a:Ad} (I:Inv X pins σ H s) (d:IsD H a) :
  s.TypeIs (.ref a) "dict"/\(∀ b,Value.ref a=.ref b->∃ ob,s.heap.get? b=some ob/\ob.dict=none)/\(a == sysModules)=false:=by
 rcases d with ⟨kvs,e⟩ | ⟨kvs,e⟩
 ·obtain ⟨_,hd,vs,_,dd⟩:=zaj I.hok e
  refine ⟨dd.typeIs,λb q=>?_,hd⟩;cases q;obtain ⟨ob,_,_,h1,h2,_⟩:=dd;exact ⟨ob,h1,h2.2.1⟩
 ·obtain ⟨_,hd,xs,_,dd⟩:=zbd I.hok e
  refine ⟨dd.typeIs,λb q=>?_,hd⟩;cases q;obtain ⟨ob,_,_,h1,h2,_⟩:=dd;exact ⟨ob,h1,h2.2.1⟩
section
variable {X:Cx} {pins:Jc} {σ:St} {H:Hp} {s:Sh} {a:Ad} {y d:V} {u r:Vl} {o:Jo} {A:Around} {E:Ja}
def d_get1 {Q:Ja} (hu:A.units+1<cLine) (I:Inv X pins σ H s) (g:DGet H a y o) (ry:RelV y u) (h:∀ w' s',Inv X pins σ H s'->RelV (o.getD .non) w'->Q w' s') :
  wpAny (model X.prog X.w) A (call (.builtin "dict.get") [.ref a,u]) Q E s:=by
 rcases g with ⟨kvs,k,e,ey,l⟩ | ⟨kvs,k,b,e,ey,eb,l⟩
 ·subst ey
  obtain ⟨z,hd,vs,rel,dd⟩:=zaj I.hok e;refine call_meetsIn PySem.F.slot_dict_get dd.typeIs PySem.F.entry_dict_get (PySem.F.args_dict_get_2 _ _) (meets_dict_get (zD X.prog X.w) a (zaf ry) hd) ⟨_,dd.mapOf,h _ _ (I.tok _) ?_⟩;rw [l];exact (rel.val k).getD rfl
 ·subst ey
  cases (show u=Value.ref b from ry);obtain ⟨z,hd,xs,rel,dd⟩:=zbd I.hok e;refine call_meetsIn PySem.F.slot_dict_get dd.typeIs PySem.F.entry_dict_get (PySem.F.args_dict_get_2 _ _) (meetsH_dict_get (tupleKind (zD X.prog X.w)) a b hd) ⟨tupleKind_room_in1 hu,k,xs,zae I.hok eb,dd,h _ _ (I.tok _) ?_⟩;rw [l];exact (rel.val k).getD rfl
end
inductive tDGet1_S (ty:TE) (σ:St) (Q:VK) (x:V) (H1:Hp):Prop
 | mk (a:_) (_:x=.ref a) (_:IsD H1 a) (_:ty σ H1 λy H2=>∃ o,DGet H2 a y o/\Q (o.getD .non) H2)
def tDGet1 (td ty:TE):TE:=λσ H Q=>td σ H λx H1=>tDGet1_S ty σ Q x H1
section
variable {X:Cx} {o e f:Expr} {apos cpos:Pos} {td ty tx:TE}
def pe_dget1 (hu:X.A.units+1<cLine) (ho:PE X o td) (he:PE X e ty) (m:M1 X o "get" apos e cpos):PE X (.Call (.Attribute o "get" apos) [e] [] cpos) (tDGet1 td ty):=by
 intro pins s σ H Q I h;refine wpAny_Call_method m.base m.few m.line PySem.F.plainAttrs_dict PySem.F.slot_dict_get PySem.F.type_dict_get (thn (ho pins s σ H _ I h) λu s1 ⟨x,H1,I1,rx,a,ex,d,q1⟩=>?_);subst ex;obtain rfl:u=Value.ref a:=rx;obtain ⟨t1,t2,_⟩:=isD_at I1 d;refine ⟨t1,t2,?_⟩;rw [m.trees];refine Calls.callWith_builtin rfl (Calls.evalArgs_plain (Calls.spliced_cons (thn (he pins s1 σ H1 _ I1 q1) λiv s2 ⟨y,H2,I2,ry,ov,g,q2⟩=>Calls.spliced_nil ?_)));exact d_get1 hu I2 g ry λw' s3 I3 rw'=>⟨_,H2,I3,rw',q2⟩
end
section
variable {X:Cx} {pins:Jc} {σ:St} {H:Hp} {s:Sh} {a:Ad} {kvs:Jl} {A:Around} {E:Ja}
end
section
variable {X:Cx} {pins:Jc} {σ:St} {H:Hp} {s:Sh} {a:Ad} {y:V} {u:Vl} {A:Around} {E:Ja}
end
end L2
namespace Att
open PySem PySem.W PySem.Calls PyProof.Rows
section
variable {prog:Program} {w:World} {A:Around} {E:Ja} {s:Sh} {K:Frag}
end
end Att
namespace L2
open PySem PySem.Spec PyProof.Rows
section
variable {P:Program} {w:World} {K:Fg} {mg:J0} {base:Heap}
end
section
variable {X:Cx}
def call_lenD:xq X (.builtin "len") (λxs H Q=>∃ a kvs,xs=[V.ref a]/\H a=some (.dK kvs)/\Q (.int kvs.length) H):=by
 intro pins s σ H xs us Q I r h;obtain ⟨a,kvs,rfl,ha,q⟩:=h;obtain ⟨u,rfl,ru⟩:=Yu r;cases ru;exact d_len I (.inl ha) λt s' I'=>⟨.int kvs.length,H,I',⟨t,rfl⟩,q⟩
end
section
variable {κ:Type} [DecidableEq κ]
def valV_not {kvs:List (κ×V)} {k:κ} (h:zN kvs k=none):¬ k∈kvs.map (·.1):=by
 intro m;obtain ⟨p,hp,e⟩:=List.mem_map.mp m;have q:(kvs.any λkv=>decide (kv.1=k))=true:=List.any_eq_true.mpr ⟨p,hp,decide_eq_true e⟩;rw [xE,h] at q;exact absurd q (by simp)
def valV_in {kvs:List (κ×V)} {k:κ} {v:V} (h:zN kvs k=some v):k∈kvs.map (·.1):=by
 have q:(kvs.any λkv=>decide (kv.1=k))=true:=by
  rw [xE,h]
  all_goals rfl
 obtain ⟨p,hp,e⟩:=List.any_eq_true.mp q;exact List.mem_map.mpr ⟨p,hp,of_decide_eq_true e⟩
end
abbrev Xm (h:Heap) (z TI TO T:Ad) (f1:Vl):Prop :=
 h.get? z=some { cls:=.type "zip",dict:=none,data:=.fields #[rawInt T,f1,.bool false,.ref TI,.ref TO],slots:=#[] }
section
variable {prog:Program} {w:World} {A:Around} {E:Ja} {s:Sh}
def alive_at {a:Ad} {Q:Option Obj->Sh->Prop} (h:Q (s.heap.get? a) s):wpAny (model prog w) A (loadIfAlive a) Q E s:=λ_ _ _=>h
theorem Yf {z TI TO T:Ad} {b1:Bool} {Q:Bool->Sh->Prop} (zz:Xm s.heap z TI TO T (.bool b1)) (al:∃ o,s.heap.get? T=some o)
  (q:∀ h2,Xm h2 z TI TO T (.bool true)->Heap.SameBut z s.heap h2->Q false { s with heap:=h2 }):wpAny (model prog w) A (Builtin.SmallTypes.ownedTupleIsFree (.ref z)) Q E s:=by
 obtain ⟨o,eo⟩:=al;unfold Builtin.SmallTypes.ownedTupleIsFree;refine q0x (wpAny_field zz rfl (x:=rawInt T) rfl ?_);show wpAny _ _ (loadIfAlive (T:Int).toNat >>= _) _ _ _;refine q0x (alive_at ?_);rw [q0z,eo];simp only [Option.isNone_some,Bool.false_eq_true,if_false];refine q0x (wpAny_field zz rfl (x:=.bool b1) rfl ?_)
 cases b1 with
 | true =>
  rw [if_neg (by decide)];exact q0y (q s.heap zz (Heap.SameBut.refl ..))
 | false =>
  rw [if_pos (by decide)];refine q0x (wpAny_setField_rec zz (by simp) λh2 z2 sb=>q0y (q h2 z2 sb))
def zas {z TI TO T i1 i2 l1 l2:Ad} {b1:Bool} {k:Nat} {xs ys:Array Vl} {x y:Vl} {Q:Je->Sh->Prop} (D:ZipApart z TI TO i1 i2 l1 l2) (zz:Xm s.heap z TI TO T (.bool b1)) (al:∃ o,s.heap.get? T=some o)
  (pI:IsPair s.heap TI (.ref i1) (.ref i2)) (h1:s.heap.IsListIter i1 l1 k) (h2:s.heap.IsListIter i2 l2 k) (hl1:s.heap.IsList l1 xs) (hl2:s.heap.IsList l2 ys) (ex:xs[k]?=some x) (ey:ys[k]?=some y)
  (q:∀ h',Xm h' z TI TO T (.bool true)->h'.IsListIter i1 l1 (k+1)->h'.IsListIter i2 l2 (k+1)->IsPair h' s.heap.objs.size x y->(∀ c o,c≠z->c≠i1->c≠i2->s.heap.get? c=some o->h'.get? c=some o)->h'.objs.size=s.heap.objs.size+1->Q (some (.ref s.heap.objs.size)) { s with heap:=h' }) :
  wpAny (model prog w) A (pyNext (.ref z)) Q E s:=by
 have ty:s.TypeIs (.ref z) "zip":=⟨_,zz,rfl⟩;unfold pyNext;refine q0x (wpAny_attempt (wpAny_callSpecial?_slot (name:=Str.ofString "__next__") ty F.slot_zip_next (wpAny_call_entry F.slot_zip_next ty F.entry_zip_next ?_ (F.args_zip_next_1 _))));show wpAny _ _ (field (.ref z) 2 >>= _) _ _ _;refine q0x (wpAny_field zz rfl (x:=.bool false) rfl ?_);show wpAny _ _ (field (.ref z) 3 >>= _) _ _ _;refine q0x (wpAny_field zz rfl (x:=.ref TI) rfl ?_);refine q0x (wpAny_seqItems pI rfl ?_);show wpAny _ _ (Builtin.SmallTypes.ownedTupleIsFree (.ref z) >>= _) _ _ _;refine q0x (Yf zz al λh3 z3 sb=>?_);simp only [Bool.false_eq_true,if_false];rw [show (forIn (#[Value.ref i1,Value.ref i2]:Array Vl):(Option Fin×Array Vl)->_->Sem _)=forIn [Value.ref i1,Value.ref i2] from funext λ_=>funext λ_=>by simp];simp only [List.forIn_cons,List.forIn_nil];have h13:=h1.extBut sb.extBut D.i1z;have h23:=h2.extBut sb.extBut D.i2z;have hl13:=hl1.extBut sb.extBut D.l1z;have hl23:=hl2.extBut sb.extBut D.l2z;refine q0x (q0x (q0x (wpAny_holding ?_)));show wpAny _ _ (Builtin.SmallTypes.nextOf (.ref i1) >>= _) _ _ _;refine q0x (wpAny_nextOf_list_item h13 hl13 ex λh4 a4 sb4=>q0y (q0y ?_));refine q0x (q0x (wpAny_holding ?_));show wpAny _ _ (Builtin.SmallTypes.nextOf (.ref i2) >>= _) _ _ _;refine q0x (wpAny_nextOf_list_item (h23.extBut sb4.extBut D.i12.symm) (hl23.extBut sb4.extBut D.l2i1) ey λh5 a5 sb5=>q0y (q0y (q0y ?_)));show wpAny _ _ (newTuple [x,y] >>= _) _ _ _;refine q0x (wpAny_newTuple ?_);have sz:h5.objs.size=s.heap.objs.size:=by rw [sb5.1,sb4.1,sb.1]
 have up:∀ c o,c≠z->c≠i1->c≠i2->s.heap.get? c=some o->(h5.push { cls:=.type "tuple",data:=.seq #[x,y] }).get? c=some o:=λc o c1 c2 c3 e=>Heap.get?_push_of_some _ (sb5.extBut _ _ c3 (sb4.extBut _ _ c2 (sb.extBut _ _ c1 e)));refine q0y ⟨_,rfl,q0y ?_⟩;show Q (some (.ref h5.objs.size)) _;rw [sz];have fin:=q (h5.push { cls:=.type "tuple",data:=.seq #[x,y] }) (Heap.get?_push_of_some _ (sb5.extBut _ _ D.i2z.symm (sb4.extBut _ _ D.i1z.symm z3))) ((a4.extBut sb5.extBut D.i12).at λo e=>Heap.get?_push_of_some _ e) (a5.at λo e=>Heap.get?_push_of_some _ e) (by rw [← sz];exact Heap.get?_push_size _ rfl) up (by rw [Heap.size_push,sz]);exact fin
def zbr {z TI TO T i1 i2 l1 l2:Ad} {b1:Bool} {k:Nat} {xs ys:Array Vl} {Q:Je->Sh->Prop} (hd:A.handled=none) (D:ZipApart z TI TO i1 i2 l1 l2) (zz:Xm s.heap z TI TO T (.bool b1)) (al:∃ o,s.heap.get? T=some o)
  (pI:IsPair s.heap TI (.ref i1) (.ref i2)) (h1:s.heap.IsListIter i1 l1 k) (hl1:s.heap.IsList l1 xs) (ex:xs[k]?=none)
  (q:∀ h',(∀ c o,c≠z->c≠i1->c≠i2->s.heap.get? c=some o->h'.get? c=some o)->Q none { s with heap:=h' }) :
  wpAny (model prog w) A (pyNext (.ref z)) Q E s:=by
 have ty:s.TypeIs (.ref z) "zip":=⟨_,zz,rfl⟩;unfold pyNext;refine q0x (wpAny_attempt (wpAny_callSpecial?_slot (name:=Str.ofString "__next__") ty F.slot_zip_next (wpAny_call_entry F.slot_zip_next ty F.entry_zip_next ?_ (F.args_zip_next_1 _))));show wpAny _ _ (field (.ref z) 2 >>= _) _ _ _;refine q0x (wpAny_field zz rfl (x:=.bool false) rfl ?_);show wpAny _ _ (field (.ref z) 3 >>= _) _ _ _;refine q0x (wpAny_field zz rfl (x:=.ref TI) rfl ?_);refine q0x (wpAny_seqItems pI rfl ?_);show wpAny _ _ (Builtin.SmallTypes.ownedTupleIsFree (.ref z) >>= _) _ _ _;refine q0x (Yf zz al λh3 z3 sb=>?_);simp only [Bool.false_eq_true,if_false];rw [show (forIn (#[Value.ref i1,Value.ref i2]:Array Vl):(Option Fin×Array Vl)->_->Sem _)=forIn [Value.ref i1,Value.ref i2] from funext λ_=>funext λ_=>by simp];simp only [List.forIn_cons,List.forIn_nil];refine q0x (q0x (q0x (wpAny_holding ?_)));show wpAny _ _ (Builtin.SmallTypes.nextOf (.ref i1) >>= _) _ _ _;refine q0x (wpAny_nextOf_list_end hd (h1.extBut sb.extBut D.i1z) (hl1.extBut sb.extBut D.l1z) ex λh4 e sb4 he=>?_);obtain ⟨o,ho,hc⟩:=he;refine q0x (wpAny_isInstance (T:="StopIteration") (b:=true) ⟨o,ho,hc⟩ isSubtype_stop ?_);exact q0y (q _ λc o c1 c2 c3 e=>sb4 c o c2 (sb.extBut _ _ c1 e))
end
end L2
namespace PySem
open Sem (wp)
namespace F
def my_entry_zip_ga:entryFor table "zip.__getattribute__"=some Builtin.«object.__getattribute__» :=
 entryFor_alias (id':="object.__getattribute__") (by kernel_rfl) (by first | rfl | decide +kernel) (by decide +kernel) (by kernel_rfl)
def my_lk_zip_keys:typeLookup (.type "zip") "keys"=pure none:=by rw [typeLookup_type,builtinLookup_eq_fast];kernel_rfl
def my_lk_zip_hook:typeLookup (.type "zip") "__getattr__"=pure none:=by rw [typeLookup_type,builtinLookup_eq_fast];kernel_rfl
end F
def Y9 (a:Ad) (fs:Array Vl) (u:Tok) :
  Meets (Builtin.«object.__getattribute__» ⟨[.ref a,.str "keys" u],[]⟩) (λA R s=>s.heap.get? a=some { cls:=.type "zip",dict:=none,data:=.fields fs,slots:=#[] }/\raisesAttr (.ref a) "keys" A R s) :=
 Meets.of_wp λprog w A R s z=>by
  obtain ⟨hp,g,d,tk,os⟩:=s;obtain ⟨zx,zs⟩:=z;have zT:(⟨hp,g,d,tk,os⟩:Sh).TypeIs (.ref a) "zip":=⟨_,zx,rfl⟩;have f4:=F.my_lk_zip_keys;unfold Builtin.«object.__getattribute__»;repeat (any_goals (first | assumption | wp_step | fail))
  exact wpAny_raiseAttrError zs.1 zs.2 (attrMsg_fits (by decide +kernel) (by decide +kernel))
def zaa {prog:Program} {w:World} {A:Around} {E:Ja} {s:Sh} {a:Ad} {fs:Array Vl} {Q:Je->Sh->Prop} (zx:s.heap.get? a=some { cls:=.type "zip",dict:=none,data:=.fields fs,slots:=#[] }) (zA:A.handled=none)
  (q:∀ h' tk e,Heap.NewExcOf s.heap h' e "AttributeError"->Q none { s with heap:=h',toks:=tk }):wpAny (model prog w) A (getAttr? (.ref a) "keys") Q E s:=by
 obtain ⟨hp,g,d,tk,os⟩:=s;have zT:∀ tk',(⟨hp,g,d,tk',os⟩:Sh).TypeIs (.ref a) "zip":=λ_=>⟨_,zx,rfl⟩;have f1:=sub_AttributeError;have f3:=F.slot_zip_getattribute.lookup;have f4:=F.slot_zip_getattribute.bind (.ref a);have f5:=F.my_lk_zip_hook;unfold getAttr? getAttrBy? getAttrBy
 repeat (any_goals (first | assumption | exact zT _ | ((with_reducible show wpAny _ _ (call (Value.builtin "zip.__getattribute__") _ _) _ _ _);refine call_meets F.slot_zip_getattribute (zT _) F.my_entry_zip_ga (F.args_zip_getattribute_2 _ _) (Y9 a fs _) ⟨zx,zA,λh9 k9 e9 n9=>?_⟩) | wp_step))
 obtain ⟨t9,u9,x9⟩:=n9.there;show wpAny _ _ (getattributeRaised _ _ _ _ _ _ _) _ _ _;unfold getattributeRaised
 repeat (any_goals (first | assumption | wp_step | fail))
 exact q _ _ _ n9.of
end PySem
namespace L2
open PySem PySem.Spec PyProof.Rows
def ZT:entryFor table "dict.update.loop"=some Builtin.«dict.update.loop»:=entryFor_of_tree (by kernel_rfl)
def ZS (z TI TO i1 i2 l1 l2:Ad) (k:Nat) (h:Heap):Prop :=
 (IsZip h z TI TO .none∨∃ T b,Xm h z TI TO T (.bool b)/\(∃ o,h.get? T=some o)/\T≠z/\T≠TO/\T≠i1/\T≠i2)/\IsPair h TI (.ref i1) (.ref i2)/\(∃ a b,IsPair h TO a b)/\h.IsListIter i1 l1 k/\h.IsListIter i2 l2 k
section
variable {prog:Program} {w:World} {A:Around} {E:Ja} {s:Sh} {z TI TO i1 i2 l1 l2 d:Ad} {xs ys:Array Vl}
def zs_item {k:Nat} {x y:Vl} {Q:Je->Sh->Prop} (D:ZipApart z TI TO i1 i2 l1 l2) (st:ZS z TI TO i1 i2 l1 l2 k s.heap) (hl1:s.heap.IsList l1 xs) (hl2:s.heap.IsList l2 ys) (ex:xs[k]?=some x) (ey:ys[k]?=some y)
  (q:∀ h',ZS z TI TO i1 i2 l1 l2 (k+1) h'->IsPair h' s.heap.objs.size x y->(∀ c o,c≠z->c≠TO->c≠i1->c≠i2->s.heap.get? c=some o->h'.get? c=some o)->Q (some (.ref s.heap.objs.size)) { s with heap:=h' }) :
  wpAny (model prog w) A (pyNext (.ref z)) Q E s:=by
 obtain ⟨zz,pI,⟨a,b,pO⟩,h1,h2⟩:=st;have lt:∀ {c:Ad} {o:Obj},s.heap.get? c=some o->s.heap.objs.size≠c:=λe=>Nat.ne_of_gt (Heap.lt_size e);have n1:s.heap.objs.size≠i1:=by obtain ⟨o,e,_⟩:=h1;exact lt e
 have n2:s.heap.objs.size≠i2:=by obtain ⟨o,e,_⟩:=h2;exact lt e
 rcases zz with zz | ⟨T,b1,zz,al,t1,t2,t3,t4⟩
 ·refine wpAny_pyNext_zip_item D zz pI pO h1 h2 hl1 hl2 ex ey λh' a1 a2 a3 a4 a5 a6 hk=>?_
  exact q h' ⟨.inr ⟨_,_,a1,⟨_,a5⟩,lt zz,lt pO,n1,n2⟩,hk _ _ D.TIz D.TITO D.TIi1 D.TIi2 pI,⟨_,_,a2⟩,a3,a4⟩ a5 hk
 ·obtain ⟨o,eo⟩:=al
  refine zas D zz ⟨o,eo⟩ pI h1 h2 hl1 hl2 ex ey λh' a1 a3 a4 a5 hk _=>?_;exact q h' ⟨.inr ⟨T,true,a1,⟨o,hk _ _ t1 t3 t4 eo⟩,t1,t2,t3,t4⟩,hk _ _ D.TIz D.TIi1 D.TIi2 pI,⟨_,_,hk _ _ D.TOz D.TOi1 D.TOi2 pO⟩,a3,a4⟩ a5 λc o c1 _ c3 c4 e=>hk c o c1 c3 c4 e
def zs_end {k:Nat} {Q:Je->Sh->Prop} (hd:A.handled=none) (D:ZipApart z TI TO i1 i2 l1 l2) (st:ZS z TI TO i1 i2 l1 l2 k s.heap) (hl1:s.heap.IsList l1 xs) (hl2:s.heap.IsList l2 ys) (ex:xs[k]?=none)
  (q:∀ h',(∀ c o,c≠z->c≠TO->c≠i1->c≠i2->s.heap.get? c=some o->h'.get? c=some o)->Q none { s with heap:=h' }):wpAny (model prog w) A (pyNext (.ref z)) Q E s:=by
 obtain ⟨zz,pI,⟨a,b,pO⟩,h1,h2⟩:=st;rcases zz with zz | ⟨T,b1,zz,al,_⟩
 ·exact wpAny_pyNext_zip_end hd D zz pI pO h1 h2 hl1 hl2 (.inl ex) λh' hk=>q h' hk
 ·exact zbr (ys:=ys) hd D zz al pI h1 hl1 ex λh' hk=>q h' λc o c1 _ c3 c4 e=>hk c o c1 c3 c4 e
def zac (kvs:List (Key×Vl)):List (Key×Vl)->List (Key×Vl)
 | []=>kvs
 | p::r=>zac (stored kvs p.1 p.2) r
def ZS.same {k:Nat} {h h2:Heap} (st:ZS z TI TO i1 i2 l1 l2 k h) (dz:d≠z) (dI:d≠TI) (dO:d≠TO) (d1:d≠i1) (d2:d≠i2) (kp:∀ c o,c≠d->h.get? c=some o->h2.get? c=some o) (hd:∃ o,h2.get? d=some o):ZS z TI TO i1 i2 l1 l2 k h2:=by
 obtain ⟨zz,pI,⟨a,b,pO⟩,h1,h2'⟩:=st;refine ⟨?_,kp _ _ dI.symm pI,⟨a,b,kp _ _ dO.symm pO⟩,h1.at λo e=>kp _ o d1.symm e,h2'.at λo e=>kp _ o d2.symm e⟩;rcases zz with zz | ⟨T,b1,zz,⟨o,eo⟩,t⟩
 ·exact .inl (kp _ _ dz.symm zz)
 ·refine .inr ⟨T,b1,kp _ _ dz.symm zz,?_,t⟩
  by_cases e:T=d
  ·rw [e];exact hd
  ·exact ⟨o,kp _ _ e eo⟩
theorem dz_loop (hd:A.handled=none) (D:ZipApart z TI TO i1 i2 l1 l2) (dz:d≠z) (dI:d≠TI) (dO:d≠TO) (d1:d≠i1) (d2:d≠i2) (dl1:d≠l1) (dl2:d≠l2) :
  ∀ (ps:List (Key×Vl)) (k:Nat) (s:Sh) (kvs:List (Key×Vl)) (i:Int) (t:Tok) (R:Result->Sh->Prop),ZS z TI TO i1 i2 l1 l2 k s.heap->s.heap.IsList l1 xs->s.heap.IsList l2 ys->s.heap.DictOf (zD prog w) d kvs->kvs.length+ps.length<=sizeLine ->
   xs.size=k+ps.length->(∀ j (p:Key×Vl),ps[j]?=some p->∃ u,xs[k+j]?=some u/\(zD prog w).is p.1 u=true/\ys[k+j]?=some p.2) ->
   (∀ h' tk,h'.DictOf (zD prog w) d (zac kvs ps)->(∀ c o,c≠z->c≠TO->c≠i1->c≠i2->c≠d->s.heap.get? c=some o->h'.get? c=some o)->R (.ok (.ret .none)) { s with heap:=h',toks:=tk }) ->
   codeAny (model prog w) A (.builtin "dict.update.loop" ⟨[.ref d,.ref z,.int i t,.none],[]⟩) R s
 | [],k,s,kvs,i,t,R,st,hl1,hl2,hm,hz,hn,hp,q=>by
  refine codeAny_builtin ZT ?_;show wpAny _ _ (pyNext (.ref z) >>= _) _ _ _;refine q0x (zs_end hd D st hl1 hl2 (Array.getElem?_eq_none (by rw [hn];exact Nat.le_refl _)) λh' hk=>?_);show wpAny _ _ (Builtin.Dict.addKeywords d [] >>= _) _ _ _;refine q0x (q0y (q0y ?_))
  have hd':h'.DictOf (zD prog w) d kvs:=by
   obtain ⟨o,es,ep,ho,r⟩:=hm;exact ⟨o,es,ep,hk _ _ dz dO d1 d2 ho,r⟩
  exact q h' s.toks hd' λc o c1 c2 c3 c4 _ e=>hk c o c1 c2 c3 c4 e
 | p::ps,k,s,kvs,i,t,R,st,hl1,hl2,hm,hz,hn,hp,q=>by
  refine codeAny_builtin ZT ?_;obtain ⟨u,eu,ku,ev⟩:=hp 0 p rfl;show wpAny _ _ (pyNext (.ref z) >>= _) _ _ _;refine q0x (zs_item D st hl1 hl2 eu ev λh' st' pT hk=>?_)
  have hm':h'.DictOf (zD prog w) d kvs:=by
   obtain ⟨o,es,ep,ho,r⟩:=hm;exact ⟨o,es,ep,hk _ _ dz dO d1 d2 ho,r⟩
  have hl1':h'.IsList l1 xs:=hl1.at λo e=>hk _ o D.l1z D.l1TO D.l1i1 D.l1i2 e;have hl2':h'.IsList l2 ys:=hl2.at λo e=>hk _ o D.l2z D.l2TO D.l2i1 D.l2i2 e;refine q0x (wpAny_holding ?_);refine q0x (wpAny_tryCatch ?_);unfold Builtin.Dict.pairItems;refine q0x (wpAny_typeOf (T:="tuple") ⟨_,pT,rfl⟩ ?_);rw [if_pos (by decide)];refine q0x (wpAny_seqItems pT rfl (q0y ?_));show wpAny _ _ (holding [u,p.2] (dictSet d u p.2)) _ _ _;refine wpAny_holding (wpAny_dictSet_pairs (hsz:=by rw [q3x] at hz;omega) ku hm' λh2 hm2 sb=>?_);refine q0y ⟨Code.quiet_builtin _ (by decide +kernel),?_⟩;have nd:∃ o,h2.get? d=some o:=by obtain ⟨o,_,_,e,_⟩:=hm2;exact ⟨o,e⟩
  have ls:(stored kvs p.1 p.2).length<=kvs.length+1:=by
   unfold stored;split
   ·rw [Ji];omega
   ·rw [Jj];exact Nat.le_refl _
  refine dz_loop hd D dz dI dO d1 d2 dl1 dl2 ps (k+1) { s with heap:=h2,toks:=s.toks+1 } (stored kvs p.1 p.2) (i+1) 0 R (st'.same dz dI dO d1 d2 (λc o n e=>sb.extBut _ _ n e) nd) (hl1'.extBut sb.extBut dl1.symm) (hl2'.extBut sb.extBut dl2.symm) hm2 (by rw [q3x] at hz;omega) (by rw [hn,q3x];omega) (λj r hj=>?_) (λh3 tk hm3 hk3=>?_)
  ·have:=hp (j+1) r hj
   rw [show k+1+j=k+(j+1) by omega];exact this
  ·exact q h3 tk hm3 λc o c1 c2 c3 c4 c5 e=>hk3 c o c1 c2 c3 c4 c5 (sb.extBut _ _ c5 (hk c o c1 c2 c3 c4 e))
end
def putAll (kvs:Jl):Jl->Jl
 | []=>kvs
 | p::r=>putAll (zW kvs p.1 p.2) r
theorem KV.putAll:∀ {ps:Jl} {qs:List (Key×Vl)} {kvs:Jl} {vs:List (Key×Vl)},KV ps qs->KV kvs vs->KV (L2.putAll kvs ps) (zac vs qs)
 | [],_,_,_,.nil,h=>h
 | p::ps,_,_,_,.cons (b:=q) r rr,h=>by
  have e:q.1=p.1:=r.1.symm;show KV (L2.putAll (zW _ p.1 p.2) ps) (zac (stored _ q.1 q.2) _);rw [e];exact KV.putAll rr (h.put p.1 r.2)
theorem X3:∀ (ps:Jl) (kvs:Jl),(putAll kvs ps).length<=kvs.length+ps.length
 | [],_=>Nat.le_refl _
 | p::ps,kvs=>by
  have:=X3 ps (zW kvs p.1 p.2);have:=yl kvs p.1 p.2;show (putAll (zW kvs p.1 p.2) ps).length<=kvs.length+(ps.length+1);omega
section
variable {prog:Program} {w:World} {A:Around} {E:Ja} {s:Sh} {z TI TO i1 i2 l1 l2:Ad} {xs ys:Array Vl}
def ZS.keeps {k:Nat} {h h2:Heap} (st:ZS z TI TO i1 i2 l1 l2 k h) (kp:∀ c o,h.get? c=some o->h2.get? c=some o):ZS z TI TO i1 i2 l1 l2 k h2:=by
 obtain ⟨zz,pI,⟨a,b,pO⟩,h1,h2'⟩:=st;refine ⟨?_,kp _ _ pI,⟨a,b,kp _ _ pO⟩,h1.at λo e=>kp _ o e,h2'.at λo e=>kp _ o e⟩;rcases zz with zz | ⟨T,b1,zz,⟨o,eo⟩,t⟩
 ·exact .inl (kp _ _ zz)
 ·exact .inr ⟨T,b1,kp _ _ zz,⟨o,kp _ _ eo⟩,t⟩
def zax {ps:List (Key×Vl)} {Q:Ja} (hd:A.handled=none) (D:ZipApart z TI TO i1 i2 l1 l2) (zz:IsZip s.heap z TI TO .none) (st:ZS z TI TO i1 i2 l1 l2 0 s.heap) (hl1:s.heap.IsList l1 xs) (hl2:s.heap.IsList l2 ys) (hz:ps.length<=sizeLine) (hn:xs.size=ps.length)
  (hp:∀ (j:Nat) (p:Key×Vl),ps[j]?=some p->∃ u,xs[j]?=some u/\(zD prog w).is p.1 u=true/\ys[j]?=some p.2)
  (q:∀ h' tk,h'.DictOf (zD prog w) s.heap.objs.size (zac [] ps)->(∀ c o,c≠z->c≠TO->c≠i1->c≠i2->s.heap.get? c=some o->h'.get? c=some o)->Q (.ref s.heap.objs.size) { s with heap:=h',toks:=tk }):wpAny (model prog w) A (call (.type "dict") [.ref z]) Q E s:=by
 refine callType_codes (Q₁:=λobj s₁=>obj=.ref s.heap.objs.size/\s₁={ s with heap:=s.heap.push { cls:=.type "dict",data:=.dict #[] } }) F.kt_called_dict (F.kt_typeCall_dict_1 _) F.entry_dict_init (kt_code_dict_new _ ⟨rfl,rfl⟩) λobj s1 y=>?_;obtain ⟨rfl,rfl⟩:=y;have nw:(s.heap.push { cls:=.type "dict",data:=.dict #[] }).DictOf (zD prog w) s.heap.objs.size []:=Heap.DictOf.new s.heap;have kp:∀ c o,s.heap.get? c=some o->(s.heap.push { cls:=.type "dict",data:=.dict #[] }).get? c=some o:=λc o e=>Heap.get?_push_of_some _ e;have lt:∀ {c:Ad} {o:Obj},s.heap.get? c=some o->s.heap.objs.size≠c:=λe=>Nat.ne_of_gt (Heap.lt_size e);obtain ⟨_,pI,⟨a,b,pO⟩,g1,g2⟩:=id st;have e1:s.heap.objs.size≠i1:=by obtain ⟨o,e,_⟩:=g1;exact lt e
 have e2:s.heap.objs.size≠i2:=by obtain ⟨o,e,_⟩:=g2;exact lt e
 have e3:s.heap.objs.size≠l1:=by obtain ⟨o,e,_⟩:=hl1;exact lt e
 have e4:s.heap.objs.size≠l2:=by obtain ⟨o,e,_⟩:=hl2;exact lt e
 refine ⟨nw.typeIs,F.args_dict_init_2 _ _,?_⟩;unfold Builtin.«dict.__init__»;refine q0x ?_;unfold Builtin.Dict.selfAndRest;refine q0x (wpAny_notOrdered_dict nw.typeIs ?_);show wpAny _ _ (pure (s.heap.objs.size,[Value.ref z])) _ _ _;refine q0y ?_;show wpAny _ _ (Builtin.Dict.updateFrom "dict.__init__" s.heap.objs.size (.ref z) [] .none) _ _ _;unfold Builtin.Dict.updateFrom;refine q0x (wpAny_typeOf (T:="zip") ⟨_,kp _ _ zz,rfl⟩ ?_);rw [if_pos (by decide)];refine q0x (zaa (kp _ _ zz) hd λh3 tk e ne=>?_);simp only [Option.isNone_none,if_true];have k3:∀ c o,s.heap.get? c=some o->h3.get? c=some o:=λc o e=>ne.keeps c o (kp c o e);refine q0x (wpAny_rule (q0x (wpAny_pyIter_zip (f0:=.none) (k3 _ _ zz) ?_)));refine q0y ⟨Code.quiet_builtin _ (by decide +kernel),?_⟩
 have d3:h3.DictOf (zD prog w) s.heap.objs.size []:=by
  obtain ⟨o,es,ep,ho,r⟩:=nw;exact ⟨o,es,ep,ne.keeps _ _ ho,r⟩
 refine dz_loop (A:=A.in1) (xs:=xs) (ys:=ys) hd D (lt zz) (lt pI) (lt pO) e1 e2 e3 e4 ps 0 { s with heap:=h3,toks:=tk } [] 0 0 _ (st.keeps k3) (hl1.at λo e=>k3 _ o e) (hl2.at λo e=>k3 _ o e) d3 (by show 0+ps.length<=_;omega) (by rw [hn,Nat.zero_add]) (λj r hj=>by rw [Nat.zero_add];exact hp j r hj) λh4 tk4 d4 k4=>?_;exact ⟨rfl,q h4 tk4 d4 λc o c1 c2 c3 c4 e=>k4 c o c1 c2 c3 c4 (lt e).symm (k3 c o e)⟩
end
theorem kv_zip:∀ (ks:List Key) {ys:Jn} {us:Jd},Vals ys us->ks.length=ys.length->KV (ks.zip ys) (ks.zip us)
 | [],_,_,_,_=>.nil
 | k::ks,_,_,.nil,h=>by cases h
 | k::ks,_,_,.cons r rr,h=>.cons ⟨rfl,r⟩ (kv_zip ks rr (by simpa using h))
section
variable {X:Cx}
inductive tDictZip_S (K:Fg) (Q:VK) (vs:Jn) (H1:Hp):Prop
 | mk (l1 l2:Ad) (ks:List Key) (ys:Jn) (_:vs=[.ref l1,.ref l2]) (_:SqL K H1 l1 (ks.map kV)) (_:SqL K H1 l2 ys) (_:ks.length=ys.length) (_:∀ d,H1 d=none->Q (.ref d) (upd H1 d (.dK (putAll [] (ks.zip ys)))))
def tDictZip (K:Fg) (ta:TA):TE:=λσ H Q=>ta σ H λvs H1=>tDictZip_S K Q vs H1
def zea {a b:Expr} {ta:TA} {p p2 pos pos2:Pos} (hc:X.calm=true) (hg:Gl X "dict") (hm:X.mg "dict"=none) (hg2:Gl X "zip") (hm2:X.mg "zip"=none) (ha:PA X [a,b] ta)
  (hs:starEach [a,b] X.env=[(false,eval a X.env),(false,eval b X.env)]:=by rfl) (hs2:starEach [b] X.env=[(false,eval b X.env)]:=by rfl)
  (hs3:starEach [Expr.Call (.Name "zip" p2) [a,b] [] pos2] X.env=[(false,eval (.Call (.Name "zip" p2) [a,b] [] pos2) X.env)]:=by rfl):PE X (.Call (.Name "dict" p) [.Call (.Name "zip" p2) [a,b] [] pos2] [] pos) (tDictZip X.K ta):=by
 intro pins s σ H Q I h;refine wpAny_Call_Name_kw (Zc I hg hm boot_dict (PyProof.Rows.callWith_type1 ?_ (by rw [hs3];rfl) (by rfl)));rw [hs3];show wpAny _ _ (spliced [(false,eval (.Call (.Name "zip" p2) [a,b] [] pos2) X.env)]) _ _ s;refine Calls.spliced_cons (Call_ (Zc I hg2 hm2 boot_zip (PyProof.Rows.callWith_type1 (thn (ha pos2 pins s σ H _ I h) λus s1 ⟨vs,H1,I1,r1,q1⟩=>?_) (by rw [hs,hs2]) (by rw [hs2];rfl))));obtain ⟨l1,l2,ks,ys,e,x1,x2,le,q⟩:=q1;subst e;obtain ⟨u,v,rfl,ru,rv⟩:=XO r1;cases (show u=Value.ref l1 from ru);cases (show v=Value.ref l2 from rv);obtain ⟨is1,g1,p1,z1⟩:=I1.list x1;obtain ⟨is2,g2,p2',z2⟩:=I1.list x2;have L1:l1<s1.heap.objs.size:=by obtain ⟨_,e,_⟩:=p1.isList;exact Heap.lt_size e
 have L2:l2<s1.heap.objs.size:=by obtain ⟨_,e,_⟩:=p2'.isList;exact Heap.lt_size e
 have n1:=g1.length;have n2:=g2.length;rw [Ji] at n1;refine call_zip_2 p1.isList p2'.isList λh' a1 a2 a3 a4 a5 a6 hk=>Calls.spliced_nil ?_;have J:Inv X pins σ H1 { s1 with heap:=h' }:=I1.kept (t':=s1.toks) λb o e=>hk b o e;have fp:∀ n,Ze X pins H1 (s1.heap.objs.size+n):=λn=>I1.fpOk (Nat.le_add_right _ _) (I1.hok.fresh (Nat.le_add_right _ _));have rel:KV (ks.zip ys) (ks.zip is2):=kv_zip ks g2 le;have lz:(ks.zip is2).length=ks.length:=by rw [List.length_zip,Nat.min_eq_left];omega
 rw [Ji] at z1;refine zax (s:={ s1 with heap:=h' }) (xs:=is1.toArray) (ys:=is2.toArray) (ps:=ks.zip is2) (I1.ok.hd hc) (zipApart_new L1 L2) a1 ⟨.inl a1,a2,⟨_,_,a3⟩,a4,a5⟩ (p1.isList.at λo e=>hk _ o e) (p2'.isList.at λo e=>hk _ o e) (by omega) (by rw [lz,List.size_toArray];omega) (λj r hj=>?_) λh3 tk d3 k3=>?_
 ·obtain ⟨ek,ev⟩:ks[j]?=some r.1/\is2[j]?=some r.2:=by
   rw [List.getElem?_zip_eq_some] at hj;exact hj
  obtain ⟨u,eu,ru⟩:=g1.get (show (ks.map kV)[j]?=some (kV r.1) by rw [List.getElem?_map,ek];rfl);exact ⟨u,by simpa using eu,zaf ru,by simpa using ev⟩
 ·have fr:H1 h'.objs.size=none:=I1.hok.fresh (by rw [a6];omega)
  have b4:=fp 4;have b3:=fp 3;have b0:=fp 0;have b1:=fp 1;have b2:=fp 2
  have lay:ObjOk X.prog X.w (upd H1 h'.objs.size (.dK (putAll [] (ks.zip ys)))) h3 h'.objs.size (.dK (putAll [] (ks.zip ys))):=by
   refine ⟨?_,?_,_,KV.putAll rel .nil,d3⟩
   ·have:=X3 (ks.zip ys) []
    rw [List.length_zip] at this;have:([]:Jl).length=0:=rfl;omega
   ·have:=J.big
    exact beq_eq_false_iff_ne.mpr (Nat.ne_of_gt this)
  refine ⟨.ref h'.objs.size,upd H1 h'.objs.size (.dK (putAll [] (ks.zip ys))),?_,rfl,q _ fr⟩
  exact J.turnedT (its:=[s1.heap.objs.size+4,s1.heap.objs.size+2,s1.heap.objs.size+3,s1.heap.objs.size,s1.heap.objs.size+1]) (λc o nc e=>by
   have nc':c≠s1.heap.objs.size+4/\c≠s1.heap.objs.size+2/\c≠s1.heap.objs.size+3/\c≠s1.heap.objs.size/\c≠s1.heap.objs.size+1:=by simpa using nc
   exact k3 c o nc'.1 nc'.2.2.1 nc'.2.2.2.1 nc'.2.2.2.2 e) (λc hc'=>by
   simp at hc';rcases hc' with rfl | rfl | rfl | rfl | rfl
   ·exact b4
   ·exact b2
   ·exact b3
   ·exact b0
   ·exact b1) (Nat.le_refl _) lay
end
section
variable {prog:Program} {w:World} {A:Around} {R:Result->Sh->Prop} {s:Sh}
theorem zam {elt target iter tst:Expr} {scope:Scope} {pos:Pos} {it acc:Vl} {env:Env} (I:Nat->Sh->Prop)
  (turn:∀ n s,I n s->wpAny (model prog w) A (pyNext it) (λr s₁=>match r with
   | none=>R (.ok .next) s₁
   | some v=>wpAny (model prog w) A (letOwnedTupleGo target it v) (λ_ s₂=>wpAny (model prog w) A (assign target env v) (λ_ s₃=>wpAny (model prog w) A (isTrue tst env (eval tst env)) (λok t₃=>match ok with
     | true=>wpAny (model prog w) A (eval elt env) (λx s₄=>wpAny (model prog w) A (call (.builtin "list.append") [acc,x]) (λ_ s₅=>∃ m,m<n/\I m s₅) (λ_ _=>False) s₄) (λ_ _=>False) t₃
     | false=>∃ m,m<n/\I m t₃) (λ_ _=>False) s₃) (λ_ _=>False) s₂) (λ_ _=>False) s₁) (λ_ _=>False) s)
  (n:Nat) (h:I n s):codeAny (model prog w) A (.compLoop (.ListComp elt [⟨target,iter,[tst],0⟩] scope pos) 0 it acc env) R s:=by
 refine codeAny_loop rfl I (λn s hI=>?_) n h;show wpAny _ _ ((compTurn (.ListComp elt [⟨target,iter,[tst],0⟩] scope pos) 0 it acc env).onRaise (λx=>do noteFrame x env;theTreesLotGoes x)) _ _ s;refine wpAny_noted ?_;rw [compTurn_list];refine q0x (wpAny_standAt (q0x (wpAny_mono (turn n s hI) (λr s₁ h₁=>?_) λ_ _ z=>z.elim)))
 cases r with
 | none=>exact q0y h₁
 | some v =>
  refine q0x (wpAny_mono h₁ (λ_ s₂ h₂=>?_) λ_ _ z=>z.elim);refine q0x (wpAny_mono h₂ (λ_ s₃ h₃=>?_) λ_ _ z=>z.elim);refine q0x (wpAny_tests_one (wpAny_mono h₃ (λok t₃ h₃=>?_) λ_ _ z=>z.elim))
  cases ok with
  | false=>exact q0y ⟨rfl,h₃⟩
  | true =>
   refine q0x (q0x (wpAny_mono h₃ (λx s₄ h₄=>?_) λ_ _ z=>z.elim));exact q0x (wpAny_mono h₄ (λ_ s₅ h₅=>q0y (q0y ⟨rfl,h₅⟩)) λ_ _ z=>z.elim)
end
inductive CompWF (J:It) (g:TG) (tt:TT) (te:TE) (σY:St) (H1:Hp) (D:Ad) (Q:VK):Prop
 | mk (W:Nat->Nat->St->Hp->Prop) (_:(∃ m,W 0 m σY H1)) (_:∀ i m σ' H',W i m σ' H'->(J.stop i H'/\Q (.ref D) H')∨(J.go i H'/\∃ N:St->Hp->Prop,(∀ σ2 H2,N σ2 H2->∃ m',m'<m/\W (i+1) m' σ2 H2)/\∀ x H2,J.yld i H' x H2->g x σ' H2 λσ3 H3=>tt σ3 H3 λb H4=>if b=true then te σ3 H4 λv H5=>∃ xs,H5 D=some (.lst xs)/\xs.length<sizeLine/\N σ3 (upd H5 D (.lst (xs++[v]))) else N σ3 H4)):CompWF J g tt te σY H1 D Q
inductive tCompF_S (g:TG) (tt:TT) (te:TE) (σ0:St->Hp->St->Prop) (σ:St) (Q:VK) (J:It) (H1:Hp):Prop
 | mk (σY:_) (_:σ0 σ H1 σY) (_:∀ D,H1 D=none->CompWF J g tt te σY (upd H1 D (.lst [])) D Q)
def tCompF (wi:TI) (g:TG) (tt:TT) (te:TE) (σ0:St->Hp->St->Prop):TE:=λσ H Q=>wi σ H λJ H1=>tCompF_S g tt te σ0 σ Q J H1
section
variable {X:Cx} {tg:Expr}
theorem zes {iter elt tst:Expr} {scope:Scope} {pos pos':Pos} {cl:List (Str×Ad)} {NY:Jf} {wi:TI} {g:TG} {tt:TT} {te:TE} {σ0:St->Hp->St->Prop} (hc:X.calm=true) (S:Sees X scope cl) (hi:PI X tg iter wi)
  (hY:∀ (s3:Sh) (H3:Hp) (fp:Jg),PG (X.comp scope cl NY s3 H3 fp) tg g/\PT (X.comp scope cl NY s3 H3 fp) tst tt/\PE (X.comp scope cl NY s3 H3 fp) elt te)
  (h0:∀ (pins:Jc) (σ:St) (H:Hp) (s3:Sh) (σY:St),Inv X pins σ H s3->σ0 σ H σY->σY.length=NY.length/\∀ (i:Nat) (x:Str) (v:V),NY[i]?=some x->σY[i]?=some (some v) ->
   ∃ c u,(((compEnvC scope cl 0 X.env).kindOf x=some .cell∨(compEnvC scope cl 0 X.env).kindOf x=some .free))/\cl.lookup x=some c/\RelV v u/\s3.heap.IsCell c (some u))
  (hs:∀ x,foldedSetIterable iter X.env x=pure x) {use:Option (Vl->Sem Unit)} {R:Ja} {pins:Jc} {s:Sh} {σ:St} {H:Hp} {Q:VK} (I:Inv X pins σ H s) (h:tCompF wi g tt te σ0 σ H Q)
  (fin:∀ (C D:Ad) (H5:Hp) (s6:Sh),CompEnd X pins σ H5 s6 C->Q (.ref D) H5->compPost (model X.prog X.w) X.A X.xe use R (.ref D) C (.ok .next) s6) :
  wpAny (model X.prog X.w) X.A (comprehension (.ListComp elt [⟨tg,iter,[tst],0⟩] scope pos) scope X.env pos' (newList []) (firstAsync [⟨tg,iter,[tst],0⟩]) (firstIter [⟨tg,iter,[tst],0⟩] X.env) use) R X.xe s:=by
 refine wpAny_comprehension_free rfl hs S.clos S.kind S.names (thn (hi pins s σ H _ I h) λv s1 h1=>thn h1 λitv s2 h2=>?_);obtain ⟨it,fp,tn,J,H2,e,I2,T,st2,f2,σY,hσ,hW⟩:=h2;subst e;refine wpAny_newObj_type ?_;have I3:Inv X pins σ (upd H2 s2.heap.objs.size (.lst [])) (pz s2):=I2.lnew (t':=s2.toks) (its:=[]) .nil (Nat.zero_le _);obtain ⟨W,⟨m0,w0⟩,turn⟩:=hW s2.heap.objs.size (I2.hok.fresh (Nat.le_refl _));have ob2:=T.obj _ _ st2
 have hfp:∀ b∈fp,Ze X pins (upd H2 s2.heap.objs.size (.lst [])) b:=λb hb=>by
  obtain ⟨o,q,_⟩:=ob2 b hb;exact ⟨by rw [zj (Nat.ne_of_lt (Heap.lt_size q))];exact (f2 b hb).1,(f2 b hb).2⟩
 have hob:∀ b∈fp,∃ o,(s2.heap.push Lz).get? b=some o:=λb hb=>by
  obtain ⟨o,q,_⟩:=ob2 b hb;exact ⟨o,Heap.get?_push_of_some _ q⟩
 refine wpAny_newFunctionEnv S.nocell (λy hy=>absurd hy (by simp)) (λh1 hn1 hs1=>?_) S.kind;obtain ⟨hl,hY0⟩:=h0 pins σ H2 s2 σY I2 hσ;have k23:∀ b o,s2.heap.get? b=some o->(s2.heap.push Lz).get? b=some o:=λb o q=>Heap.get?_push_of_some _ q;have k34:∀ b o,(s2.heap.push Lz).get? b=some o->h1.get? b=some o:=λb o q=>(hs1.2 b (Nat.ne_of_lt (Heap.lt_size q))).trans (Heap.get?_push_of_some _ q)
 have I4:=zan (scope:=scope) (cl:=cl) (NY:=NY) (fp:=fp) (h1:=h1) (t:=s2.toks) (σY:=σY) I3 S hfp hob hn1 k34 hl λi x v e1 e2=>by
  obtain ⟨c,u,k,q,r,o,z1,z2⟩:=hY0 i x v e1 e2;exact ⟨c,u,k,q,r,o,k23 _ _ z1,z2⟩
 have st4:tn 0 h1:=T.keep _ _ _ st2 λb hb o q=>k34 _ _ (k23 _ _ q);have fr4:∀ b∈fp,(upd H2 s2.heap.objs.size (.lst [])) b=none:=λb hb=>(hfp b hb).1;obtain ⟨hg,ht,he⟩:=hY (pz s2) (upd H2 s2.heap.objs.size (.lst [])) fp;have okY:=I4.ok
 have statY:∀ {H':Hp},(∀ b∈fp,H' b=none)->∀ b∈fp,Ze (Xz X scope cl NY s2 H2 fp) [] H' b :=
  λhn b hb=>⟨hn b hb,(okY.exf b hb).1,okY.exfs b hb,.inl hb,(okY.exf b hb).2,λp hp=>absurd hp (by simp)⟩
 have loop:codeAny (model X.prog X.w) X.A (.compLoop (.ListComp elt [⟨tg,iter,[tst],0⟩] scope pos) 0 (.ref it) (.ref s2.heap.objs.size) (compEnvC scope cl (s2.heap.push Lz).objs.size X.env))
   (compPost (model X.prog X.w) X.A X.xe use R (.ref s2.heap.objs.size) (s2.heap.push Lz).objs.size) { s2 with heap:=h1,toks:=s2.toks }:=by
  refine zam (λn s'=>∃ i σ' H',Inv (Xz X scope cl NY s2 H2 fp) [] σ' H' s'/\tn i s'.heap/\(∀ b∈fp,H' b=none)/\W i n σ' H') ?_ m0 ⟨0,σY,_,I4,st4,fr4,w0⟩;rintro n s5 ⟨i,σ5,H5,I5,st5,fr5,w5⟩;rcases turn i n σ5 H5 w5 with ⟨stop,q⟩ | ⟨go,N,hN,step⟩
  ·refine thn (T.done (Xz X scope cl NY s2 H2 fp) rfl rfl rfl hc i [] s5 σ5 H5 _ I5 (statY fr5) st5 stop) λr s6 ⟨hr,I6⟩=>?_
   subst hr;obtain ⟨m,hm,_⟩:=I6.loc;refine fin _ _ H5 s6 ⟨⟨m,hm⟩,I6.free,Ne.symm (Nat.ne_of_lt I3.lt),I3.sz,λx c z=>?_,λp hp=>?_,λh' hs'=>Xj I3 hfp I6 hs'⟩ q
   ·obtain ⟨_,o,z1,_⟩:=I3.cell x c z
    exact Nat.ne_of_lt (Heap.lt_size z1)
   ·exact Nat.ne_of_lt (Heap.lt_size (I3.pin p hp).1)
  ·refine thn (T.item (Xz X scope cl NY s2 H2 fp) rfl rfl rfl hc i [] s5 σ5 H5 _ I5 (statY fr5) st5 go) λr s6 ⟨u,hr,h6⟩=>?_
   subst hr;refine thn h6 λ_ s7 ⟨x,H7,I7,r7,y7,st7,fr7⟩=>?_;have I7':=I7.pinned (statY fr7) (T.obj _ _ st7);refine thn (hg _ s7 σ5 H7 x u _ I7' r7 (step x H7 y7)) λ_ s8 ⟨σ8,H8,I8,q8⟩=>?_
   have pk:∀ {H':Hp} {s':Sh} {σ':St},Inv (Xz X scope cl NY s2 H2 fp) ([]++Y7 fp s7.heap) σ' H' s'->tn (i+1) s'.heap/\∀ b∈fp,H' b=none:=λI'=>by
    refine ⟨T.keep _ _ _ st7 λb hb o q=>(I'.pin (b,o) (q2y _ (q2y _ (yL hb q)))).1,λb hb=>?_⟩;obtain ⟨o,q,d⟩:=T.obj _ _ st7 b hb;exact (I'.pin (b,o) (q2y _ (q2y _ (yL hb q)))).2.1
   refine thn (ht _ s8 σ8 H8 _ I8 q8) λbb s8' ⟨H8',I8',q8'⟩=>?_
   cases bb with
   | false =>
    have q8':=(show N σ8 H8' by simpa using q8');obtain ⟨m',hm,w10⟩:=hN _ _ q8';exact ⟨m',hm,i+1,σ8,_,I8'.unpinned,(pk I8').1,(pk I8').2,w10⟩
   | true =>
    have q8':=(show te σ8 H8' _ by simpa using q8');refine thn (he _ s8' σ8 H8' _ I8' q8') λz s9 ⟨v9,H9,I9,r9,xs,hx9,hz9,n9⟩=>?_;refine thn (xv _ s9 σ8 H9 (.ref s2.heap.objs.size) [v9] (.ref s2.heap.objs.size) [z] (λ_ H'=>H'=upd H9 s2.heap.objs.size (.lst (xs++[v9]))) I9 rfl (.cons r9 .nil) ⟨s2.heap.objs.size,xs,v9,rfl,rfl,hx9,hz9,rfl⟩) λy s10 ⟨v10,H10,I10,_,e10⟩=>?_;subst e10;obtain ⟨m',hm,w10⟩:=hN _ _ n9;exact ⟨m',hm,i+1,σ8,_,I10.unpinned,(pk I10).1,(pk I10).2,w10⟩
 exact codeAny_compStart_list loop (T.self _ 0 _ _ _ st4 loop)
def pe_compF0 {iter elt tst:Expr} {scope:Scope} {pos:Pos} {cl:List (Str×Ad)} {NY:Jf} {wi:TI} {g:TG} {tt:TT} {te:TE} {σ0:St->Hp->St->Prop} (hc:X.calm=true) (S:Sees X scope cl) (hi:PI X tg iter wi)
  (hY:∀ (s3:Sh) (H3:Hp) (fp:Jg),PG (X.comp scope cl NY s3 H3 fp) tg g/\PT (X.comp scope cl NY s3 H3 fp) tst tt/\PE (X.comp scope cl NY s3 H3 fp) elt te)
  (h0:∀ (pins:Jc) (σ:St) (H:Hp) (s3:Sh) (σY:St),Inv X pins σ H s3->σ0 σ H σY->σY.length=NY.length/\∀ (i:Nat) (x:Str) (v:V),NY[i]?=some x->σY[i]?=some (some v) ->
   ∃ c u,(((compEnvC scope cl 0 X.env).kindOf x=some .cell∨(compEnvC scope cl 0 X.env).kindOf x=some .free))/\cl.lookup x=some c/\RelV v u/\s3.heap.IsCell c (some u))
  (hs:∀ x,foldedSetIterable iter X.env x=pure x:=by intro _;rfl) :
  PE X (.ListComp elt [⟨tg,iter,[tst],0⟩] scope pos) (tCompF wi g tt te σ0):=by
 intro pins s σ H Q I h;rw [eval_ListComp];refine zes (use:=none) hc S hi hY h0 hs I h λC D H5 s6 e q=>?_;obtain ⟨m,hm⟩:=e.ns;exact ⟨m,hm,λh' hs'=>⟨.ref D,H5,e.inv h' hs',rfl,q⟩⟩
end
abbrev tCompFC (wi:TI) (g:TG) (tt:TT) (te:TE) (cap:List (Option Nat)):TE:=tCompF wi g tt te λσ _ σY=>σY=capt cap σ
section
variable {X:Cx} {tg:Expr}
def pe_compF {iter elt tst:Expr} {scope:Scope} {pos:Pos} {wi:TI} {g:TG} {tt:TT} {te:TE} (NY:Jf) (cap:List (Option Nat)) (hc:X.calm=true) (hk:Yo X scope=true) (hcap:YV X scope NY cap=true) (hi:PI X tg iter wi)
  (hY:∀ (s3:Sh) (H3:Hp) (fp:Jg),PG (X.comp scope (Zf X.env scope) NY s3 H3 fp) tg g/\PT (X.comp scope (Zf X.env scope) NY s3 H3 fp) tst tt/\PE (X.comp scope (Zf X.env scope) NY s3 H3 fp) elt te)
  (hs:∀ x,foldedSetIterable iter X.env x=pure x:=by intro _;rfl):PE X (.ListComp elt [⟨tg,iter,[tst],0⟩] scope pos) (tCompFC wi g tt te cap):=by
 intro pins s σ H Q I h;have S:=xQ I.ok hk;refine pe_compF0 (NY:=NY) hc S hi hY (λpins σ H s3 σY I3 e=>?_) hs pins s σ H Q I h;subst e;exact ZP I3 (xQ I3.ok hk) hcap
end
def zds {lo:Int} {n:Nat} {D:Ad} {g:TG} {tt:TT} {te:TE} {σY:St} {H1:Hp} {Q:VK} (Pv:Nat->St->Hp->Prop) (h0:Pv 0 σY H1)
  (hs:∀ i σ H,i<n->Pv i σ H->g (.int (lo+i)) σ H λσ3 H3=>tt σ3 H3 λb H4=>if b=true then te σ3 H4 λv H5=>∃ ys,H5 D=some (.lst ys)/\ys.length<sizeLine/\Pv (i+1) σ3 (upd H5 D (.lst (ys++[v]))) else Pv (i+1) σ3 H4) (hd:∀ σ H,Pv n σ H->Q (.ref D) H) :
  CompWF (Itr lo n) g tt te σY H1 D Q:=by
 refine ⟨λi m σ H=>m=n-i/\i<=n/\Pv i σ H,⟨n,by simp,Nat.zero_le _,h0⟩,?_⟩;rintro i m σ H ⟨rfl,hi,p⟩;by_cases hlt:i<n
 ·refine .inr ⟨hlt,Pv (i+1),λσ' H' p'=>⟨n-(i+1),by omega,rfl,hlt,p'⟩,λx H' y=>?_⟩
  obtain ⟨e,y⟩:=y;subst e y;exact hs i σ _ hlt p
 ·have e:i=n:=by omega
  subst e;exact .inl ⟨Nat.le_refl _,hd σ H p⟩
section
variable {prog:Program} {w:World} {A:Around} {s:Sh}
end
section
variable {prog:Program} {w:World} {A:Around} {E:Ja} {s:Sh}
end
section
variable {X:Cx} {e:Expr} {te:TE} {p p' pos pos':Pos}
end
end L2
namespace L2
open PySem PySem.Spec PyProof.Rows PyProof
section
variable {X:Cx}
def zdw:xq X (.type "range") (λxs H Q=>∃ j:Int,xs=[.int j]/\∀ l,H l=none->Q (.ref l) (upd H l (.rng 0 j))):=by
 intro pins s σ H xs us Q I r h;obtain ⟨j,rfl,q⟩:=h;obtain ⟨u,rfl,rx⟩:=Yu r;obtain ⟨t,rfl⟩:=rx;refine call_range_1 ?_;exact ⟨.ref s.heap.objs.size,_,I.laid (λb o e=>Heap.get?_push_of_some _ e) (Nat.le_refl _) (show ObjOk X.prog X.w _ _ _ (.rng 0 j) from ⟨_,_,_,Heap.get?_push_size _ rfl⟩),rfl,q _ (I.hok.fresh (Nat.le_refl _))⟩
def zM (n:Nat):Jb:=(List.range n).map Int.ofNat
theorem vals_upto:∀ (n:Nat) (us:Jd),us.length=n->(∀ (i:Nat) (v:Vl),us[i]?=some v->∃ t,v=Value.int (0+(i:Nat)*1) t)->Vals ((zM n).map V.int) us:=by
 intro n
 induction n with
 | zero=>intro us hl _;cases us with
  | nil=>exact .nil
  | cons _ _=>cases hl
 | succ n ih =>
  intro us hl h;obtain ⟨ini,last,rfl⟩:∃ ini last,us=ini++[last]:=⟨us.dropLast,us.getLast (by intro e;rw [e] at hl;cases hl),(List.dropLast_concat_getLast _).symm⟩;have hi:ini.length=n:=by rw [Jj] at hl;simpa using hl
  have e:zM (n+1)=zM n++[(n:Int)]:=by unfold zM;rw [List.range_succ,Jk];rfl
  rw [e,Jk];refine (ih ini hi λi v hv=>?_).append (.cons ?_ .nil)
  ·have:i<ini.length:=(List.getElem?_eq_some_iff.mp hv).1
   exact h i v (by rw [q4x this];exact hv)
  ·obtain ⟨t,rfl⟩:=h n last (by rw [List.getElem?_append_right (by omega),hi,Nat.sub_self];rfl)
   exact ⟨t,by show Value.int (0+(n:Int)*1) t=Value.int n t;congr 1;omega⟩
def zay (hc:X.calm=true):xq X (.type "list") (λxs H Q=>∃ (p:Ad) (n:Nat),xs=[.ref p]/\H p=some (.rng 0 n)/\n<=1000/\∀ l,H l=none->Q (.ref l) (upd H l (.lst ((zM n).map V.int)))):=by
 intro pins s σ H xs us Q I r h;obtain ⟨p,n,rfl,hp,hn,q⟩:=h;obtain ⟨u,rfl,rx⟩:=Yu r;cases rx;obtain ⟨t,u,v,e⟩:=I.hok p _ hp;have hs:Builtin.Range.small 0 (n:Int) 1=true:=small_one (by omega) (by omega) (by omega) (by omega);have hz:Builtin.Range.rangeSize 0 (n:Int) 1=n:=by rw [rangeSize_one];split <;> omega
 have SL:(1000:Nat)<=sizeLine:=by decide
 refine call_list_range (I.ok.hd hc) e hs hz (by omega) λh' tk acc c' hk hS ha=>?_;refine ⟨.ref s.heap.objs.size,_,I.laid (t':=tk) hk (Nat.le_refl _) (show ObjOk X.prog X.w _ h' _ (.lst ((zM n).map V.int)) from ⟨?_,acc.toList,c',vals_upto n acc.toList ?_ ?_,?_⟩),rfl,q _ (I.hok.fresh (Nat.le_refl _))⟩
 ·rw [Ji];unfold zM;rw [Ji,List.length_range];omega
 ·simpa using ha.1
 ·intro i v hv
  exact ha.2 i v (by simpa using hv)
 ·simpa using hS
end
end L2
namespace L2
open PySem PySem.Spec PyProof.Rows
section
variable {X:Cx}
end
def zep {xs:Jn} {b:Int} (hb:0<=b):cutV xs none (some b)=xs.take b.toNat:=by
 unfold cutV;rw [HT.sIx_none,zb5 hb,List.drop_zero,Nat.sub_zero];rw [List.take_eq_take_iff];omega
def zeq {xs:Jn} {a:Int} (ha:0<=a):cutV xs (some a) none=xs.drop a.toNat:=by
 unfold cutV;rw [HT.sIx_none,zb5 ha];by_cases h:a.toNat<=xs.length
 ·rw [Nat.min_eq_left h]
  exact List.take_of_length_le (by rw [List.length_drop];omega)
 ·have e1:xs.drop xs.length=[]:=List.drop_length
  have e2:xs.drop a.toNat=[]:=List.drop_eq_nil_of_le (by omega);rw [Nat.min_eq_right (by omega),e1,e2];simp
def ps1_ret {X:Cx} {σ₀:St} {e:Expr} {te:TE} {pos:Pos} (he:PE1 X σ₀ e te):PS1 X σ₀ (.Return (some e) pos) (tRet te):=by
 intro pins s H D I h;exact wpAny_Return_some (thn (he pins s H _ I h) λv s1 ⟨x,H1,I1,r1,q1⟩=>⟨x,σ₀,H1,I1,r1,q1⟩)
end L2
namespace L2
open PySem
namespace Hd
variable {B:Hp} {L:Jm} {H H' J:Hp} {a b:Ad} {o o':HO}
def grow (h:Hd B L H) (n:H a=none):Hd (upd B a o) L (upd H a o):=by
 refine ⟨h.nd,λp q=>?_,λp q=>?_,λb u z=>?_⟩
 ·rw [zj (zp (h.st p q) n)];exact h.nw p q
 ·rw [zj (zp (h.st p q) n)];exact h.st p q
 ·by_cases e:b=a
  ·subst e;rw [zf] at z ⊢;exact z
  ·rw [zj e] at z ⊢;exact h.sm _ _ z
def adopt (m:Hd B L H) (h:Hd H [(a,o)] J):Hd (upd B a o) L J:=by
 have na:H a=none:=h.nw _ (List.mem_singleton.mpr rfl);refine ⟨m.nd,λp q=>?_,λp q=>h.sm _ _ (m.st p q),λb u z=>?_⟩
 ·rw [zj (zp (m.st p q) na)];exact m.nw p q
 ·by_cases e:b=a
  ·subst e;rw [zf] at z;cases z;exact h.get 0 rfl
  ·rw [zj e] at z;exact h.sm _ _ (m.sm _ _ z)
def settle (m:Hd B ((a,o)::L) H):Hd (upd B a o) L H:=by
 have h:=m.tl;have na:a ∉ L.map Prod.fst:=(List.nodup_cons.mp m.nd).1;refine ⟨h.nd,λp q=>?_,h.st,λb u z=>?_⟩
 ·rw [zj (λe=>na (by rw [← e];exact List.mem_map_of_mem q))];exact h.nw p q
 ·by_cases e:b=a
  ·subst e;rw [zf] at z;cases z;exact m.get 0 rfl
  ·rw [zj e] at z;exact m.sm _ _ z
def settled (m:Hd B ((a,o)::L) H):Same B (upd B a o):=zi (Same.refl _) (m.nw (a,o) (q1z ..))
def waste (h:Hd B L H) (n:H a=none):Hd B L (upd H a o):=h.same (zi (Same.refl _) n)
def fnew {p:Ad×HO} (h:Hd B (p::L) H) (n:H a=none):Hd B (p::(a,o)::L) (upd H a o):=(h.new n).perm (List.Perm.swap _ _ _)
def fput (h:Hd B ((a,o)::L) H):Hd B ((a,o')::L) (upd H a o'):=h.put 0 rfl
end Hd
namespace Hd
variable {B:Hp} {L L2:Jm} {H H' J:Hp} {a b:Ad} {o o':HO}
def join (m:Hd B L H) (h:Hd H L2 J):Hd B (L++L2) J:=by
 refine ⟨?_,λp q=>?_,λp q=>?_,λb u z=>h.sm _ _ (m.sm _ _ z)⟩
 ·rw [Jk]
  refine List.nodup_append.mpr ⟨m.nd,h.nd,λx hx y hy e=>?_⟩;obtain ⟨p,hp,rfl⟩:=List.mem_map.mp hx;obtain ⟨q,hq,rfl⟩:=List.mem_map.mp hy;have:=m.st p hp;rw [e,h.nw q hq] at this;cases this
 ·rcases List.mem_append.mp q with q | q
  ·exact m.nw p q
  ·exact m.free (h.nw p q)
 ·rcases List.mem_append.mp q with q | q
  ·exact h.sm _ _ (m.st p q)
  ·exact h.st p q
theorem settles {S:Jm}:∀ {B:Hp},Hd B (S++L) H->∃ B',Same B B'/\(∀ p∈S,B' p.1=some p.2)/\Hd B' L H:=by
 induction S with
 | nil=>exact λ{B} h=>⟨B,Same.refl _,(λp m=>by cases m),h⟩
 | cons p S ih =>
  intro B h;obtain ⟨a,o⟩:=p;obtain ⟨B',s,e,h'⟩:=ih (Hd.settle h);refine ⟨B',(Hd.settled h).trans s,λp m=>?_,h'⟩;rcases List.mem_cons.mp m with rfl | m
  ·exact s _ _ zf
  ·exact e p m
end Hd
end L2
namespace L2
open PySem PySem.Spec PyProof.Rows
open Sem (wp)
section
variable {prog:Program} {w:World} {A:Around} {E:Ja} {s:Sh}
def nxt_tup {j t:Ad} {k:Nat} {us:Array Vl} {v:Vl} {Q:Ja} (hj:s.heap.IsTupleIter j t k) (ht:s.heap.IsTuple t us) (hv:us[k]?=some v)
  (q:∀ g,g.IsTupleIter j t (k+1)->Heap.SameBut j s.heap g->Q v { s with heap:=g }):wpAny (model prog w) A (Builtin.SmallTypes.nextOf (.ref j)) Q E s:=by
 have ty:=hj.typeIs;obtain ⟨o,eo,ec,ed⟩:=hj;obtain ⟨o2,eo2,_,m,ed2⟩:=ht;unfold Builtin.SmallTypes.nextOf;refine q0x (wpAny_callSpecial?_slot (name:=Str.ofString "__next__") ty F.slot_tuple_iterator_next (wpAny_call_entry F.slot_tuple_iterator_next ty F.entry_tuple_iterator_next ?_ (F.args_tuple_iterator_next_1 _)));refine q0x (m:=field (.ref j) 0) (wpAny_field eo ed (x:=.ref t) rfl ?_);show wpAny _ _ (if (Value.ref t == Value.none)=true then _ else _) _ _ s;rw [if_neg (show ¬ ((Value.ref t == Value.none)=true) from nofun)];refine q0x (m:=field (.ref j) 1) (wpAny_field eo ed (x:=.int k 0) rfl ?_);refine q0x (m:=seqItems? (.ref t)) (wpAny_seqItems eo2 ed2 ?_);simp only [q0z,hv];refine q0x (wpAny_setField eo ed (by simp) (q0y ⟨v,rfl,q0y (q _ ?_ (Heap.SameBut.update ..))⟩));exact ⟨_,Heap.get?_update_self _ eo (Obj.isFreed_of_fields (Obj.data_mapFields ed _)),(Obj.cls_mapFields ..).trans ec,by rw [Obj.data_mapFields ed];simp [rawInt]⟩
def zde {j t:Ad} {k:Nat} {us:Array Vl} {Q:Ja} (hh:A.handled=none) (hj:s.heap.IsTupleIter j t k) (ht:s.heap.IsTuple t us) (hv:us[k]?=none)
  (q:∀ g e,Heap.ExtBut j s.heap g->(∃ o,g.get? e=some o/\o.cls=.type "StopIteration")->E (.ref e) { s with heap:=g }):wpAny (model prog w) A (Builtin.SmallTypes.nextOf (.ref j)) Q E s:=by
 have ty:=hj.typeIs;obtain ⟨o,eo,ec,ed⟩:=hj;obtain ⟨o2,eo2,_,m,ed2⟩:=ht;unfold Builtin.SmallTypes.nextOf;refine q0x (wpAny_callSpecial?_slot (name:=Str.ofString "__next__") ty F.slot_tuple_iterator_next (wpAny_call_entry F.slot_tuple_iterator_next ty F.entry_tuple_iterator_next ?_ (F.args_tuple_iterator_next_1 _)));refine q0x (m:=field (.ref j) 0) (wpAny_field eo ed (x:=.ref t) rfl ?_);show wpAny _ _ (if (Value.ref t == Value.none)=true then _ else _) _ _ s;rw [if_neg (show ¬ ((Value.ref t == Value.none)=true) from nofun)];refine q0x (m:=field (.ref j) 1) (wpAny_field eo ed (x:=.int k 0) rfl ?_);refine q0x (m:=seqItems? (.ref t)) (wpAny_seqItems eo2 ed2 ?_);simp only [q0z,hv];refine q0x (wpAny_rule (q0x (wpAny_setField eo ed (by simp) (q0x (m:=newExc (.type "StopIteration") []) ?_))));simp only [newExc,newTuple];refine q0x (wpAny_newObj_type (q0x (m:=firstArgMember _ _) (wpAny_of_eq (a:=Value.none) (by first | rfl | (simp only [firstArgMember];rfl)) (wpAny_newObj_type ?_ (by size_fits)))) (by size_fits));simp only [raiseNew];refine q0x (wpAny_handled ?_)
 first | rw [show A.in1.handled=none from hh] | rw [hh]
 refine q0x (q0y (wpAny_throw ?_));exact q _ _ (((Heap.SameBut.update ..).extBut.push _).push _) ⟨_,Heap.get?_push_size _ rfl,rfl⟩
def zt_item {z TI TO j1 j2 t1 t2:Ad} {k1 k2:Nat} {us vs:Array Vl} {u v a b:Vl} {Q:Ja} (D:ZipApart z TI TO j1 j2 t1 t2) (hz:IsZip s.heap z TI TO .none) (hI:IsPair s.heap TI (.ref j1) (.ref j2)) (hO:IsPair s.heap TO a b)
  (i1:s.heap.IsTupleIter j1 t1 k1) (i2:s.heap.IsTupleIter j2 t2 k2) (e1:s.heap.IsTuple t1 us) (e2:s.heap.IsTuple t2 vs) (hu:us[k1]?=some u) (hv:vs[k2]?=some v)
  (q:∀ g,IsZip g z TI TO (rawInt s.heap.objs.size)->IsPair g TO u v->g.IsTupleIter j1 t1 (k1+1)->g.IsTupleIter j2 t2 (k2+1)->IsPair g s.heap.objs.size u v->g.objs.size=s.heap.objs.size+1->(∀ c o,c≠z->c≠TO->c≠j1->c≠j2->s.heap.get? c=some o->g.get? c=some o)->Q (.ref s.heap.objs.size) { s with heap:=g }) :
  wpAny (model prog w) A (Builtin.«zip.__next__» ⟨[.ref z],[]⟩) (λfin s'=>∃ v,fin=.done (.ret v)/\Q v s') E s:=by
 refine q0x (m:=field (.ref z) 2) (wpAny_field hz rfl (x:=.bool false) rfl ?_);refine q0x (m:=field (.ref z) 3) (wpAny_field hz rfl (x:=.ref TI) rfl (q0x (wpAny_seqItems hI rfl ?_)));refine q0x (m:=Builtin.SmallTypes.ownedTupleIsFree (.ref z)) ?_;unfold Builtin.SmallTypes.ownedTupleIsFree;refine q0x (wpAny_field hz rfl (x:=.none) rfl (q0y ?_));simp only [if_true];refine q0x (wpAny_rule (q0x (wpAny_field hz rfl (x:=.ref TO) rfl ?_)));refine q0x (wpAny_setField_rec hz (by simp) λg1 z1 c1=>q0x ?_);replace z1:IsZip g1 z TI TO .ellipsis:=z1;simp only [List.zipIdx_cons,List.zipIdx_nil,List.forIn_cons,List.forIn_nil];refine q0x (q0x (wpAny_onRaise ?_));refine q0x (m:=Builtin.SmallTypes.nextOf (.ref j1)) (nxt_tup (i1.extBut c1.extBut D.i1z) (e1.extBut c1.extBut D.l1z) hu λg2 n1 c2=>q0y ?_);have o2:IsPair g2 TO a b:=c2.extBut _ _ D.TOi1 (c1.extBut _ _ D.TOz hO);refine q0x (wpAny_seqItems o2 rfl (q0x (wpAny_updateSeq_pair o2 λg3 o3 c3=>?_)));replace o3:IsPair g3 TO u b:=o3;refine q0x (wpAny_letGo (q0y (q0x (q0x (wpAny_onRaise ?_)))));refine q0x (m:=Builtin.SmallTypes.nextOf (.ref j2)) (nxt_tup (((i2.extBut c1.extBut D.i2z).extBut c2.extBut D.i12.symm).extBut c3.extBut D.TOi2.symm) (((e2.extBut c1.extBut D.l2z).extBut c2.extBut D.l2i1).extBut c3.extBut D.l2TO) hv λg4 n2 c4=>q0y ?_);have o4:IsPair g4 TO u b:=c4.extBut _ _ D.TOi2 o3;refine q0x (wpAny_seqItems o4 rfl (q0x (wpAny_updateSeq_pair o4 λg5 o5 c5=>?_)));replace o5:IsPair g5 TO u v:=o5;refine q0x (wpAny_letGo (q0y (q0y (q0x (wpAny_seqItems o5 rfl (q0x (wpAny_newTuple ?_)))))));have sz:g5.objs.size=s.heap.objs.size:=by rw [c5.1,c4.1,c3.1,c2.1,c1.1]
 have z5:IsZip g5 z TI TO .ellipsis:=c5.extBut _ _ D.TOz.symm (c4.extBut _ _ D.i2z.symm (c3.extBut _ _ D.TOz.symm (c2.extBut _ _ D.i1z.symm z1)));have k5:∀ c o,c≠z->c≠TO->c≠j1->c≠j2->s.heap.get? c=some o->g5.get? c=some o:=λc o d1 d2 d3 d4 e=>c5.extBut _ _ d2 (c4.extBut _ _ d4 (c3.extBut _ _ d2 (c2.extBut _ _ d3 (c1.extBut _ _ d1 e))));have m1:g5.IsTupleIter j1 t1 (k1+1):=((n1.extBut c3.extBut D.TOi1.symm).extBut c4.extBut D.i12).extBut c5.extBut D.TOi1.symm;have m2:g5.IsTupleIter j2 t2 (k2+1):=n2.extBut c5.extBut D.TOi2.symm;have zl:z<g5.objs.size:=Heap.lt_size z5;refine q0x (m:=Builtin.SmallTypes.ownedTupleHandOut (.ref z) (.ref g5.objs.size)) ?_;unfold Builtin.SmallTypes.ownedTupleHandOut;have z6:IsZip (g5.push { cls:=.type "tuple",data:=.seq #[u,v] }) z TI TO .ellipsis:=Heap.get?_push_of_some _ z5;refine q0x (wpAny_setField_rec z6 (by simp) λg7 z7 c7=>?_);replace z7:IsZip g7 z TI TO (rawInt g5.objs.size):=z7;refine wpAny_setField_rec z7 (by simp) λg8 z8 c8=>?_;replace z8:IsZip g8 z TI TO (rawInt g5.objs.size):=z8;have up:∀ c o,c≠z->g5.get? c=some o->g8.get? c=some o:=λc o d e=>c8.extBut _ _ d (c7.extBut _ _ d (Heap.get?_push_of_some _ e));have T8:IsPair g8 g5.objs.size u v:=c8.extBut _ _ (Nat.ne_of_gt zl) (c7.extBut _ _ (Nat.ne_of_gt zl) (Heap.get?_push_size _ rfl));have s8:g8.objs.size=g5.objs.size+1:=by rw [c8.1,c7.1,Heap.size_push]
 rw [sz] at z8 T8 s8;refine q0y ⟨_,rfl,?_⟩;show Q (.ref g5.objs.size) _;rw [sz];exact q g8 z8 (up _ _ D.TOz o5) (m1.at λo e=>up _ o D.i1z e) (m2.at λo e=>up _ o D.i2z e) T8 s8 λc o d1 d2 d3 d4 e=>up c o d1 (k5 c o d1 d2 d3 d4 e)
def zt_end {z TI TO j1 j2 t1 t2:Ad} {k1 k2:Nat} {us vs:Array Vl} {a b:Vl} {Q:Fin->Sh->Prop} (hh:A.handled=none) (D:ZipApart z TI TO j1 j2 t1 t2) (hz:IsZip s.heap z TI TO .none) (hI:IsPair s.heap TI (.ref j1) (.ref j2)) (hO:IsPair s.heap TO a b)
  (i1:s.heap.IsTupleIter j1 t1 k1) (i2:s.heap.IsTupleIter j2 t2 k2) (e1:s.heap.IsTuple t1 us) (e2:s.heap.IsTuple t2 vs) (he:us[k1]?=none)
  (q:∀ g e,(∀ c o,c≠z->c≠TO->c≠j1->c≠j2->s.heap.get? c=some o->g.get? c=some o)->(∃ o,g.get? e=some o/\o.cls=.type "StopIteration")->E (.ref e) { s with heap:=g }) :
  wpAny (model prog w) A (Builtin.«zip.__next__» ⟨[.ref z],[]⟩) Q E s:=by
 refine q0x (m:=field (.ref z) 2) (wpAny_field hz rfl (x:=.bool false) rfl ?_);refine q0x (m:=field (.ref z) 3) (wpAny_field hz rfl (x:=.ref TI) rfl (q0x (wpAny_seqItems hI rfl ?_)));refine q0x (m:=Builtin.SmallTypes.ownedTupleIsFree (.ref z)) ?_;unfold Builtin.SmallTypes.ownedTupleIsFree;refine q0x (wpAny_field hz rfl (x:=.none) rfl (q0y ?_));simp only [if_true];refine q0x (wpAny_rule (q0x (wpAny_field hz rfl (x:=.ref TO) rfl ?_)));refine q0x (wpAny_setField_rec hz (by simp) λg1 z1 c1=>q0x ?_);replace z1:IsZip g1 z TI TO .ellipsis:=z1;simp only [List.zipIdx_cons,List.zipIdx_nil,List.forIn_cons,List.forIn_nil];refine q0x (q0x (wpAny_onRaise ?_));refine q0x (m:=Builtin.SmallTypes.nextOf (.ref j1)) (zde hh (i1.extBut c1.extBut D.i1z) (e1.extBut c1.extBut D.l1z) he λg2 e c2 ⟨oe,ho,hc⟩=>?_);have z2:IsZip g2 z TI TO .ellipsis:=c2 _ _ D.i1z.symm z1;have ne:e≠z:=λx=>by subst x;rw [z2] at ho;cases ho;simp at hc
 exact wpAny_setField_rec z2 (by simp) λg3 _ c3=>q g3 e (λc o d1 _ d3 _ x=>c3.extBut _ _ d1 (c2 _ _ d3 (c1.extBut _ _ d1 x))) ⟨oe,c3.extBut _ _ ne ho,hc⟩
def next_zt {z TI TO j1 j2 t1 t2:Ad} {k1 k2:Nat} {us vs:Array Vl} {u v a b:Vl} {Q:Je->Sh->Prop} (D:ZipApart z TI TO j1 j2 t1 t2) (hz:IsZip s.heap z TI TO .none) (hI:IsPair s.heap TI (.ref j1) (.ref j2)) (hO:IsPair s.heap TO a b)
  (i1:s.heap.IsTupleIter j1 t1 k1) (i2:s.heap.IsTupleIter j2 t2 k2) (e1:s.heap.IsTuple t1 us) (e2:s.heap.IsTuple t2 vs) (hu:us[k1]?=some u) (hv:vs[k2]?=some v)
  (q:∀ g,IsZip g z TI TO (rawInt s.heap.objs.size)->IsPair g TO u v->g.IsTupleIter j1 t1 (k1+1)->g.IsTupleIter j2 t2 (k2+1)->IsPair g s.heap.objs.size u v->g.objs.size=s.heap.objs.size+1->(∀ c o,c≠z->c≠TO->c≠j1->c≠j2->s.heap.get? c=some o->g.get? c=some o)->Q (some (.ref s.heap.objs.size)) { s with heap:=g }) :
  wpAny (model prog w) A (pyNext (.ref z)) Q E s:=by
 have ty:s.TypeIs (.ref z) "zip":=⟨_,hz,rfl⟩;unfold pyNext;exact q0x (wpAny_attempt (wpAny_callSpecial?_slot (name:=Str.ofString "__next__") ty F.slot_zip_next (wpAny_call_entry F.slot_zip_next ty F.entry_zip_next (zt_item D hz hI hO i1 i2 e1 e2 hu hv λg a1 a2 a3 a4 a5 a6 a7=>q0y (q g a1 a2 a3 a4 a5 a6 a7)) (F.args_zip_next_1 _))))
def zdg {z TI TO j1 j2 t1 t2:Ad} {k1 k2:Nat} {us vs:Array Vl} {a b:Vl} {Q:Je->Sh->Prop} (hh:A.handled=none) (D:ZipApart z TI TO j1 j2 t1 t2) (hz:IsZip s.heap z TI TO .none) (hI:IsPair s.heap TI (.ref j1) (.ref j2)) (hO:IsPair s.heap TO a b)
  (i1:s.heap.IsTupleIter j1 t1 k1) (i2:s.heap.IsTupleIter j2 t2 k2) (e1:s.heap.IsTuple t1 us) (e2:s.heap.IsTuple t2 vs) (he:us[k1]?=none)
  (q:∀ g,(∀ c o,c≠z->c≠TO->c≠j1->c≠j2->s.heap.get? c=some o->g.get? c=some o)->Q none { s with heap:=g }):wpAny (model prog w) A (pyNext (.ref z)) Q E s:=by
 have ty:s.TypeIs (.ref z) "zip":=⟨_,hz,rfl⟩;unfold pyNext;refine q0x (wpAny_attempt (wpAny_callSpecial?_slot (name:=Str.ofString "__next__") ty F.slot_zip_next (wpAny_call_entry F.slot_zip_next ty F.entry_zip_next (zt_end hh D hz hI hO i1 i2 e1 e2 he λg e hk ⟨o,ho,hc⟩=>?_) (F.args_zip_next_1 _))));exact q0x (wpAny_isInstance (T:="StopIteration") (b:=true) ⟨o,ho,hc⟩ isSubtype_stop (q0y (q _ hk)))
abbrev zt1 (h:Heap) (t1:Ad):Heap:=h.push { cls:=.type "tuple_iterator",data:=.fields #[.ref t1,.int 0 0] }
abbrev zt2 (h:Heap) (t1 t2:Ad):Heap:=(zt1 h t1).push { cls:=.type "tuple_iterator",data:=.fields #[.ref t2,.int 0 0] }
abbrev zt3 (h:Heap) (t1 t2:Ad):Heap:=(zt2 h t1 t2).push { cls:=.type "tuple",data:=.seq #[.ref h.objs.size,.ref (zt1 h t1).objs.size] }
abbrev zt4 (h:Heap) (t1 t2:Ad):Heap:=(zt3 h t1 t2).push { cls:=.type "tuple",data:=.seq #[.none,.none] }
abbrev zt5 (h:Heap) (t1 t2:Ad):Heap:=(zt4 h t1 t2).push { cls:=.type "zip",data:=.fields #[.none,.bool false,.bool false,.ref (zt2 h t1 t2).objs.size,.ref (zt3 h t1 t2).objs.size] }
def meets_zt (t1 t2:Ad) (us vs:Array Vl):Meets (Builtin.«zip.__new__» ⟨[.type "zip",.ref t1,.ref t2],[]⟩) (λ_ R s=>s.heap.IsTuple t1 us/\s.heap.IsTuple t2 vs/\R (.ok (.ret (.ref (zt4 s.heap t1 t2).objs.size))) { s with heap:=zt5 s.heap t1 t2 }) :=
 .of_wp λprog w A R s h=>by
  obtain ⟨hp,g,d,tk,os⟩:=s;obtain ⟨x1,x2,h⟩:=h;have hsub:=sub_zip;have y1:Heap.IsTuple (Shared.heap ⟨hp,g,d,tk,os⟩) t1 us:=x1;have y2:Heap.IsTuple (Shared.heap ⟨hp.push { cls:=.type "tuple_iterator",data:=.fields #[.ref t1,.int 0 0] },g,d,tk,os⟩) t2 vs:=Heap.IsTuple.push x2 _
  wp_walk using wpAny_pyIter_tuple y1,wpAny_pyIter_tuple y2
  exact ⟨_,rfl,h⟩
def call_zt {t1 t2:Ad} {us vs:Array Vl} {Q:Ja} (x1:s.heap.IsTuple t1 us) (x2:s.heap.IsTuple t2 vs)
  (q:∀ g,IsZip g (s.heap.objs.size+4) (s.heap.objs.size+2) (s.heap.objs.size+3) .none->IsPair g (s.heap.objs.size+2) (.ref s.heap.objs.size) (.ref (s.heap.objs.size+1))->IsPair g (s.heap.objs.size+3) .none .none->g.IsTupleIter s.heap.objs.size t1 0->g.IsTupleIter (s.heap.objs.size+1) t2 0->(∀ c o,s.heap.get? c=some o->g.get? c=some o)->Q (.ref (s.heap.objs.size+4)) { s with heap:=g }) :
  wpAny (model prog w) A (call (.type "zip") [.ref t1,.ref t2]) Q E s:=by
 refine callType_new F.called_zip (by decide) (F.typeCall_zip_2 _ _) (F.newCall_zip_2 _ _) (λobj=>F.args_object_init_3 obj _ _) F.entry_zip_new (meets_zt t1 t2 us vs) ⟨x1,x2,?_⟩;have z1:(zt1 s.heap t1).objs.size=s.heap.objs.size+1:=Heap.size_push ..;have z2:(zt2 s.heap t1 t2).objs.size=s.heap.objs.size+2:=by rw [Heap.size_push,z1]
 have z3:(zt3 s.heap t1 t2).objs.size=s.heap.objs.size+3:=by rw [Heap.size_push,z2]
 have z4:(zt4 s.heap t1 t2).objs.size=s.heap.objs.size+4:=by rw [Heap.size_push,z3]
 have up:∀ {h:Heap} {c:Ad} {o o':Obj},h.get? c=some o->(h.push o').get? c=some o:=λe=>Heap.get?_push_of_some _ e;have g5:(zt5 s.heap t1 t2).get? (zt4 s.heap t1 t2).objs.size=some _:=Heap.get?_push_size _ rfl;have g4:(zt5 s.heap t1 t2).get? (zt3 s.heap t1 t2).objs.size=some _:=up (Heap.get?_push_size _ rfl);have g3:(zt5 s.heap t1 t2).get? (zt2 s.heap t1 t2).objs.size=some _:=up (up (Heap.get?_push_size _ rfl));have g2:(zt5 s.heap t1 t2).get? (zt1 s.heap t1).objs.size=some _:=up (up (up (Heap.get?_push_size _ rfl)));have g1:(zt5 s.heap t1 t2).get? s.heap.objs.size=some _:=up (up (up (up (Heap.get?_push_size _ rfl))));show _/\_;rw [z2,z3,z4] at g5;rw [z1,z2] at g3;rw [z3] at g4;rw [z1] at g2;rw [z4];exact ⟨⟨_,g5,rfl⟩,q _ g5 g3 g4 ⟨_,g1,rfl,rfl⟩ ⟨_,g2,rfl,rfl⟩ λc o x=>up (up (up (up (up x))))⟩
end
def Itzt (K:Fg) (l1 l2:Ad):It :=
  ⟨λi H=>∃ xs ys x y,SqT K H l1 xs/\SqT K H l2 ys/\xs[i]?=some x/\ys[i]?=some y,
   λi H x H'=>∃ T u v,x=.ref T/\H T=none/\H'=upd H T (.tup [u,v])/\∀ xs ys,SqT K H l1 xs->SqT K H l2 ys->xs[i]?=some u/\ys[i]?=some v,
   λi H=>∃ xs ys,SqT K H l1 xs/\SqT K H l2 ys/\xs.length<=i⟩
def turn_zt {P:Program} {w:World} {K:Fg} {es:Jh} {kt:Nat} {pos:Pos} {z TI TO i1 i2 l1 l2:Ad} (D:ZipApart z TI TO i1 i2 l1 l2) :
  Turn P w K (.Tuple es kt pos) (Itzt K l1 l2) [z,TI,TO,i1,i2] z (λi h=>IsZip h z TI TO .none/\IsPair h TI (.ref i1) (.ref i2)/\(∃ a b,IsPair h TO a b)/\h.IsTupleIter i1 l1 i/\h.IsTupleIter i2 l2 i) where
 mem:=by simp
 obj:=λi h st b hb=>by
  obtain ⟨hz,hI,⟨a,b',hO⟩,⟨o1,e1,c1,d1⟩,⟨o2,e2,c2,d2⟩⟩:=st;simp at hb;rcases hb with rfl | rfl | rfl | rfl | rfl
  ·exact ⟨_,hz,λv q=>by cases q⟩
  ·exact ⟨_,hI,λv q=>by cases q⟩
  ·exact ⟨_,hO,λv q=>by cases q⟩
  ·exact ⟨_,e1,λv q=>by rw [d1] at q;cases q⟩
  ·exact ⟨_,e2,λv q=>by rw [d2] at q;cases q⟩
 keep:=λi h h' st k=>by
  obtain ⟨hz,hI,⟨a,b',hO⟩,h1,h2⟩:=st;exact ⟨k z (by simp) _ hz,k TI (by simp) _ hI,⟨a,b',k TO (by simp) _ hO⟩,h1.at λo e=>k i1 (by simp) o e,h2.at λo e=>k i2 (by simp) o e⟩
 item:=by
  intro X hP hw hK hc i pins s σ H E I hf st hg;subst hP hw hK;obtain ⟨hz,hI,⟨a,b',hO⟩,h1,h2⟩:=st;obtain ⟨xs,ys,x,y,q1,q2,ex,ey⟩:=hg;obtain ⟨is1,r1,p1,_⟩:=I.tuple q1;obtain ⟨is2,r2,p2,_⟩:=I.tuple q2;obtain ⟨u,hu,ru⟩:=r1.get ex;obtain ⟨v,hv,rv⟩:=r2.get ey;refine next_zt D hz hI hO h1 h2 (show s.heap.IsTuple l1 is1.toArray from p1) (show s.heap.IsTuple l2 is2.toArray from p2) (u:=u) (v:=v) (by simpa using hu) (by simpa using hv) λh1' a1 a2 a3 a4 a5 a6 hk=>?_;refine ⟨_,rfl,wpAny_letOwnedTupleGo_zip (s:={ s with heap:=h1' }) a1 λh2' z' sb=>?_⟩;have lt:∀ {c:Ad} {o:Obj},s.heap.get? c=some o->c≠s.heap.objs.size:=λe=>Nat.ne_of_lt (Heap.lt_size e);have Tz:s.heap.objs.size≠z:=(lt hz).symm;have fr:=I.hok.fresh (Nat.le_refl _);refine ⟨.ref s.heap.objs.size,upd H s.heap.objs.size (.tup [x,y]),I.turnedT (its:=[z,TI,TO,i1,i2]) (t':=s.toks) (λb o nb e=>?_) hf (Nat.le_refl _) ⟨by show 2<=sizeLine;decide,[u,v],.cons ru (.cons rv .nil),_,sb.extBut _ _ Tz a5,rfl,_,rfl⟩,rfl,⟨s.heap.objs.size,x,y,rfl,fr,rfl,λxs' ys' q1' q2'=>?_⟩,?_,λb hb=>?_⟩
  ·have nb':b≠z/\b≠TI/\b≠TO/\b≠i1/\b≠i2:=by simpa using nb
   exact sb.extBut _ _ nb'.1 (hk b o nb'.1 nb'.2.2.1 nb'.2.2.2.1 nb'.2.2.2.2 e)
  ·rw [I.tuple_inj q1' q1,I.tuple_inj q2' q2];exact ⟨ex,ey⟩
  ·exact ⟨z',sb.extBut _ _ D.TIz (hk _ _ D.TIz D.TITO D.TIi1 D.TIi2 hI),⟨_,_,sb.extBut _ _ D.TOz a2⟩,a3.extBut sb.extBut D.i1z,a4.extBut sb.extBut D.i2z⟩
  ·have e:=(hf b hb).1
   have:∃ o,s.heap.get? b=some o:=by
    simp at hb;rcases hb with rfl | rfl | rfl | rfl | rfl
    ·exact ⟨_,hz⟩
    ·exact ⟨_,hI⟩
    ·exact ⟨_,hO⟩
    ·obtain ⟨o,e,_⟩:=h1;exact ⟨o,e⟩
    ·obtain ⟨o,e,_⟩:=h2;exact ⟨o,e⟩
   obtain ⟨o,eo⟩:=this;rw [zj (lt eo)];exact e
 done:=by
  intro X hP hw hK hc i pins s σ H E I hf st hg;subst hP hw hK;obtain ⟨hz,hI,⟨a,b',hO⟩,h1,h2⟩:=st;obtain ⟨xs,ys,q1,q2,le⟩:=hg;obtain ⟨is1,r1,p1,_⟩:=I.tuple q1;obtain ⟨is2,r2,p2,_⟩:=I.tuple q2;have g1:=r1.length;have g2:=r2.length;refine zdg (I.ok.hd hc) D hz hI hO h1 h2 (show s.heap.IsTuple l1 is1.toArray from p1) (show s.heap.IsTuple l2 is2.toArray from p2) (by simp;omega) λh1' hk=>⟨rfl,I.turnedL (its:=[z,TI,TO,i1,i2]) (t':=s.toks) (λb o nb e=>?_) hf⟩;have nb':b≠z/\b≠TI/\b≠TO/\b≠i1/\b≠i2:=by simpa using nb
  exact hk b o nb'.1 nb'.2.2.1 nb'.2.2.2.1 nb'.2.2.2.2 e
 self:=λ_ _ _ _ _ st h=>wpAny_pyIter_zip st.1 h
section
variable {X:Cx} {es:Jh} {kt:Nat} {tp:Pos}
end
def for_zt {K:Fg} {l1 l2:Ad} {xs ys:Jn} {g:TG} {tb:TS} {D:Ends} {σ:St} {H:Hp} (Pv:Nat->St->Hp->Prop) (h0:Pv 0 σ H) (hl:∀ i σ H,i<=xs.length->Pv i σ H->SqT K H l1 xs/\SqT K H l2 ys) (he:ys.length=xs.length)
  (hs:∀ i x y σ H T,xs[i]?=some x->ys[i]?=some y->Pv i σ H->H T=none->g (.ref T) σ (upd H T (.tup [x,y])) λσ2 H2=>tb { D with nx:=Pv (i+1),ct:=Pv (i+1),bk:=D.nx } σ2 H2) (hd:∀ σ H,Pv xs.length σ H->D.nx σ H) :
  tFor_S g tb D σ (Itzt K l1 l2) H:=by
 refine ⟨λi m σ H=>m=xs.length-i/\i<=xs.length/\Pv i σ H,⟨xs.length,by simp,Nat.zero_le _,h0⟩,?_⟩;rintro i m σ H ⟨rfl,hi,p⟩;obtain ⟨q1,q2⟩:=hl i σ H hi p;by_cases hlt:i<xs.length
 ·refine .inr ⟨⟨xs,ys,xs[i],ys[i],q1,q2,by simp [hlt],by simp [he,hlt]⟩,Pv (i+1),λσ' H' p'=>⟨xs.length-(i+1),by omega,rfl,hlt,p'⟩,λx H' y=>?_⟩
  obtain ⟨T,u,v,e,nT,e',y⟩:=y;subst e e';obtain ⟨y1,y2⟩:=y xs ys q1 q2;exact hs i u v σ H T y1 y2 p nT
 ·have e:i=xs.length:=by omega
  subst e;exact .inl ⟨⟨xs,ys,q1,q2,Nat.le_refl _⟩,hd σ H p⟩
section
variable {X:Cx} {es:Jh} {kt:Nat} {tp:Pos}
inductive iZb_S (K:Fg) (R:(It->Hp->Prop)) (vs:Jn) (H1:Hp):Prop
 | mk (l1 l2:_) (_:vs=[.ref l1,.ref l2]) (_:(((∃ xs,SqL K H1 l1 xs)/\(∃ ys,SqL K H1 l2 ys)/\R (Itz K l1 l2) H1)∨((∃ xs,SqT K H1 l1 xs)/\(∃ ys,SqT K H1 l2 ys)/\R (Itzt K l1 l2) H1)))
def iZb (K:Fg) (ta:TA):TI:=λσ H R=>ta σ H λvs H1=>iZb_S K R vs H1
def pi_zb {a b:Expr} {ta:TA} {p pos:Pos} (hg:Gl X "zip") (hm:X.mg "zip"=none) (ha:PA X [a,b] ta) (hs:starEach [a,b] X.env=[(false,eval a X.env),(false,eval b X.env)]:=by rfl)
  (hs2:starEach [b] X.env=[(false,eval b X.env)]:=by rfl):PI X (.Tuple es kt tp) (.Call (.Name "zip" p) [a,b] [] pos) (iZb X.K ta):=by
 intro pins s σ H R I h;refine Call_ (Zc I hg hm boot_zip (PyProof.Rows.callWith_type1 (thn (ha pos pins s σ H _ I h) λus s1 ⟨vs,H1,I1,r1,q1⟩=>?_) (by rw [hs,hs2]) (by rw [hs2];rfl)));obtain ⟨l1,l2,e,q1⟩:=q1;subst e;obtain ⟨u,v,rfl,ru,rv⟩:=XO r1;cases (show u=Value.ref l1 from ru);cases (show v=Value.ref l2 from rv);have fp:∀ n,Ze X pins H1 (s1.heap.objs.size+n):=λn=>I1.fpOk (Nat.le_add_right _ _) (I1.hok.fresh (Nat.le_add_right _ _))
 have fps:∀ b∈[s1.heap.objs.size+4,s1.heap.objs.size+2,s1.heap.objs.size+3,s1.heap.objs.size,s1.heap.objs.size+1],Ze X pins H1 b:=λb hb=>by
  simp at hb;rcases hb with rfl | rfl | rfl | rfl | rfl
  ·exact fp 4
  ·exact fp 2
  ·exact fp 3
  ·exact fp 0
  ·exact fp 1
 rcases q1 with ⟨⟨xs,x1⟩,⟨ys,x2⟩,q⟩ | ⟨⟨xs,x1⟩,⟨ys,x2⟩,q⟩
 ·obtain ⟨is1,g1,p1,_⟩:=I1.list x1
  obtain ⟨is2,g2,p2,_⟩:=I1.list x2;have L1:l1<s1.heap.objs.size:=by obtain ⟨_,e,_⟩:=p1.isList;exact Heap.lt_size e
  have L2:l2<s1.heap.objs.size:=by obtain ⟨_,e,_⟩:=p2.isList;exact Heap.lt_size e
  refine call_zip_2 p1.isList p2.isList λh' a1 a2 a3 a4 a5 a6 hk=>wpAny_pyIter_zip (s:={ s1 with heap:=h' }) a1 ?_;exact ⟨_,_,_,_,H1,rfl,I1.kept (t':=s1.toks) λb o e=>hk b o e,zcu (zipApart_new L1 L2),⟨a1,a2,⟨_,_,a3⟩,a4,a5⟩,fps,q⟩
 ·obtain ⟨is1,g1,p1,_⟩:=I1.tuple x1
  obtain ⟨is2,g2,p2,_⟩:=I1.tuple x2;have L1:l1<s1.heap.objs.size:=by obtain ⟨_,e,_⟩:=p1;exact Heap.lt_size e
  have L2:l2<s1.heap.objs.size:=by obtain ⟨_,e,_⟩:=p2;exact Heap.lt_size e
  refine call_zt (show s1.heap.IsTuple l1 is1.toArray from p1) (show s1.heap.IsTuple l2 is2.toArray from p2) λh' a1 a2 a3 a4 a5 hk=>wpAny_pyIter_zip (s:={ s1 with heap:=h' }) a1 ?_;exact ⟨_,_,_,_,H1,rfl,I1.kept (t':=s1.toks) λb o e=>hk b o e,turn_zt (zipApart_new L1 L2),⟨a1,a2,⟨_,_,a3⟩,a4,a5⟩,fps,q⟩
end
end L2
namespace L2
open PySem
def pg_tupK {X:Cx} {K:Fg} {es:Jh} {k:Nat} {t:TGs} {n:Nat} {pos:Pos} (e:X.K=K) (hc:X.calm=true) (h:PGs X es t) (hn:(assignEach es X.env).length=n:=by rfl) (hst:(assignEach es X.env).findIdx? (·.1)=none:=by rfl):PG X (.Tuple es k pos) (gTup K n t):=e ▸ zb7 hc h hn hst
def comp_zip {K:Fg} {l1 l2 D:Ad} {xs ys:Jn} {g:TG} {te:TE} {σY:St} {H1:Hp} {Q:VK} (Pv:Nat->St->Hp->Prop) (h0:Pv 0 σY H1) (hl:∀ i σ H,i<=xs.length->Pv i σ H->SqL K H l1 xs/\SqL K H l2 ys) (he:ys.length=xs.length)
  (hs:∀ i x y σ H T,xs[i]?=some x->ys[i]?=some y->Pv i σ H->H T=none->g (.ref T) σ (upd H T (.tup [x,y])) λσ3 H3=>te σ3 H3 λv H4=>∃ zs,H4 D=some (.lst zs)/\zs.length<sizeLine/\Pv (i+1) σ3 (upd H4 D (.lst (zs++[v])))) (hd:∀ σ H,Pv xs.length σ H->Q (.ref D) H) :
  CompW (Itz K l1 l2) g te σY H1 D Q:=by
 refine ⟨λi m σ H=>m=xs.length-i/\i<=xs.length/\Pv i σ H,⟨xs.length,by simp,Nat.zero_le _,h0⟩,?_⟩;rintro i m σ H ⟨rfl,hi,p⟩;obtain ⟨q1,q2⟩:=hl i σ H hi p;by_cases hlt:i<xs.length
 ·refine .inr ⟨⟨xs,ys,xs[i],ys[i],q1,q2,by simp [hlt],by simp [he,hlt]⟩,Pv (i+1),λσ' H' p'=>⟨xs.length-(i+1),by omega,rfl,hlt,p'⟩,λx H' y=>?_⟩
  obtain ⟨T,u,v,e,nT,e',y⟩:=y;subst e e';obtain ⟨y1,y2⟩:=y xs ys q1 q2;exact hs i u v σ H T y1 y2 p nT
 ·have e:i=xs.length:=by omega
  subst e;exact .inl ⟨⟨xs,ys,q1,q2,.inl (Nat.le_refl _)⟩,hd σ H p⟩
end L2
namespace L2
open PySem PySem.Spec PyProof.Rows
section
variable {X:Cx} {pins:Jc} {σ σ':St} {H H':Hp} {s s':Sh} {a:Ad} {kvs:Jl}
def Inv.hideD (I:Inv X pins σ H s) (e:H a=some (.dK kvs)):∃ (ob:Obj) (es:Array DictEntry) (ep:Nat) (vs:List (Key×Vl)),KV kvs vs/\(ob.ExactDict/\ob.data=.dict es ep/\PySem.KeysOf (zD X.prog X.w) es/\PySem.Pairs (zD X.prog X.w) es.toList vs/\(vs.map (λx=>x.fst)).Nodup)/\s.heap.get? a=some ob/\(a == sysModules)=false/\kvs.length<=sizeLine/\Inv X ((a,ob)::pins) σ (but H [a]) s:=by
 obtain ⟨hz,hS,vs,r,ob,es,ep,ea,c1,c2,c3⟩:=I.hok a _ e
 have ne:∀ {b:Ad} {o:HO},H b=some o->o≠.dK kvs->b ∉ [a]:=λ{b o} z y m=>by
  cases List.mem_singleton.mp m;rw [e] at z;injection z with z;exact y z.symm
 have nn:∀ {b:Ad},H b=none->but H [a] b=none:=λ{b} z=>by
  unfold but;split
  ·rfl
  ·exact z
 refine ⟨ob,es,ep,vs,r,⟨c1,c2,c3⟩,ea,hS,hz,I.ok,I.os,I.bare,⟨I.base.keep,I.base.slot,λb o q m x=>nn (I.base.free b o q m x),I.base.there,λb ys q=>yZ (I.base.tups b ys q) (ne (I.base.tups b ys q) (λz=>by cases z)),λb o u q=>yZ (I.base.frzs b o u q) (ne (I.base.frzs b o u q) (λz=>by cases z)),λb ps q=>let ⟨more,z⟩:=I.base.tbls b ps q;⟨more,yZ z (ne z (λz=>by cases z))⟩⟩,I.loc,I.cell,nn I.free,λx c q=>nn (I.freeC x c q),λp m=>?_,λb u q=>?_,I.len⟩
 ·rcases List.mem_append.mp m with m | m
  ·have q:=I.pin p (List.mem_append_left _ m)
   exact ⟨q.1,nn q.2.1,q.2.2⟩
  ·rcases List.mem_cons.mp m with rfl | m
   ·refine ⟨ea,Zd (List.mem_singleton_self a),λz=>?_,λz=>?_,λv z=>by rw [c2] at z;cases z⟩
    ·have:=I.free
     rw [← z] at this;have e':H a=some (.dK kvs):=e;rw [e'] at this;cases this
    ·obtain ⟨_,o,q,_⟩:=I.ok.funs.mem z
     have:=I.base.free a o q (I.ok.frf a z) (λy=>I.ok.exfs a y z);rw [e] at this;cases this
   ·have q:=I.pin p (q2y _ m)
    exact ⟨q.1,nn q.2.1,q.2.2⟩
 ·obtain ⟨nb,q⟩:=but_inv q
  exact (I.hok b u q).stay (λ_ _ _ z=>z) (λc z=>yZ z (ne z (λy=>by cases y))) (λc ys z=>yZ z (ne z (λy=>by cases y)))
def Inv.backD {ob:Obj} {es:Array DictEntry} {ep:Nat} {vs:List (Key×Vl)} (I:Inv X pins σ H s) (e:H a=some (.dK kvs)) (r:KV kvs vs) (c:ob.ExactDict/\ob.data=.dict es ep/\PySem.KeysOf (zD X.prog X.w) es/\PySem.Pairs (zD X.prog X.w) es.toList vs/\(vs.map (λx=>x.fst)).Nodup) (hS:(a == sysModules)=false) (hz:kvs.length<=sizeLine) (J:Inv X ((a,ob)::pins) σ' H' s'):H' a=none/\Inv X pins σ' (upd H' a (.dK kvs)) s':=by
 have ea:=J.pin (a,ob) (q2y _ q1z);have na:∀ {b:Ad},H b=none->b≠a:=λ{b} z y=>by subst y;rw [e] at z;cases z
 have st:∀ {b:Ad} {o:HO},H' b=some o->upd H' a (.dK kvs) b=some o:=λ{b o} z=>by rw [zj (zp z ea.2.1)];exact z
 refine ⟨ea.2.1,J.ok,J.os,J.bare,⟨J.base.keep,J.base.slot,λb o q m x=>?_,J.base.there,λb ys q=>st (J.base.tups b ys q),λb o u q=>st (J.base.frzs b o u q),λb ps q=>let ⟨more,z⟩:=J.base.tbls b ps q;⟨more,st z⟩⟩,J.loc,J.cell,?_,λx c q=>?_,λp m=>?_,λb u q=>?_,J.len⟩
 ·rw [zj (na (I.base.free b o q m x))];exact J.base.free b o q m x
 ·rw [zj (na I.free)];exact J.free
 ·rw [zj (na (I.freeC x c q))];exact J.freeC x c q
 ·have q:=J.pin p (by
   rcases List.mem_append.mp m with m | m
   ·exact List.mem_append_left _ m
   ·exact q2y _ (q1y _ m))
  exact ⟨q.1,by rw [zj (na (I.pin p m).2.1)];exact q.2.1,q.2.2⟩
 ·by_cases hb:b=a
  ·subst hb
   rw [zf] at q;cases q;exact ⟨hz,hS,vs,r,ob,es,ep,ea.1,c⟩
  ·rw [zj hb] at q
   exact (J.hok b u q).stay (λ_ _ _ z=>z) (λc z=>st z) (λc ys z=>st z)
end
def kV_rel {P:Program} {w:World} {k:Key} {u:Vl} (h:(zD P w).is k u=true):RelV (kV k) u:=by
 rcases yd h with ⟨i,t,rfl,rfl⟩ | ⟨x,t,rfl,rfl⟩
 ·exact ⟨t,rfl⟩
 ·exact ⟨t,rfl⟩
def Itk (kvs:Jl):It:=⟨λi _=>i<kvs.length,λi H x H'=>H'=H/\∃ p,kvs[i]?=some p/\x=kV p.1,λi _=>kvs.length<=i⟩
def za1:TT:=λ_ H Q=>Q true H
def Ifs (X:Cx) (ifs:Jh) (tt:TT):Prop:=(ifs=[]/\tt=za1)∨∃ tst,ifs=[tst]/\PT X tst tt
def Ifs.len {X:Cx} {ifs:Jh} {tt:TT} (h:Ifs X ifs tt):ifs.length<=1:=by
 rcases h with ⟨rfl,_⟩ | ⟨_,rfl,_⟩
 ·exact Nat.zero_le _
 ·exact Nat.le_refl _
def testW (M:Model) (A:Around) (env:Env) (ifs:Jh) (K:Bool->Sh->Prop) (E:Ja) (s:Sh):Prop:=match ifs with
 | [t]=>wpAny M A (isTrue t env (eval t env)) K E s
 | _=>K true s
def ifs_ok {X:Cx} {ifs:Jh} {tt:TT} {pins:Jc} {σ:St} {H:Hp} {s:Sh} {Q:Bool->Hp->Prop} {K:Bool->Sh->Prop} (h:Ifs X ifs tt) (I:Inv X pins σ H s) (q:tt σ H Q) (k:∀ b H' s',Inv X pins σ H' s'->Q b H'->K b s'):testW (model X.prog X.w) X.A X.env ifs K X.xe s:=by
 rcases h with ⟨rfl,rfl⟩ | ⟨_,rfl,ht⟩
 ·exact k true H s I q
 ·exact thn (ht pins s σ H Q I q) λb s' ⟨H',I',q'⟩=>k b H' s' I' q'
theorem zer {prog:Program} {w:World} {A:Around} {R:Result->Sh->Prop} {s:Sh} {elt target iter:Expr} {ifs:Jh} {scope:Scope} {pos:Pos} {it acc:Vl} {env:Env} (hi:ifs.length<=1) (I:Nat->Sh->Prop)
  (turn:∀ n s,I n s->wpAny (model prog w) A (pyNext it) (λr s₁=>match r with
   | none=>R (.ok .next) s₁
   | some v=>wpAny (model prog w) A (letOwnedTupleGo target it v) (λ_ s₂=>wpAny (model prog w) A (assign target env v) (λ_ s₃=>testW (model prog w) A env ifs (λok t₃=>match ok with
     | true=>wpAny (model prog w) A (eval elt env) (λx s₄=>wpAny (model prog w) A (call (.builtin "list.append") [acc,x]) (λ_ s₅=>∃ m,m<n/\I m s₅) (λ_ _=>False) s₄) (λ_ _=>False) t₃
     | false=>∃ m,m<n/\I m t₃) (λ_ _=>False) s₃) (λ_ _=>False) s₂) (λ_ _=>False) s₁) (λ_ _=>False) s)
  (n:Nat) (h:I n s):codeAny (model prog w) A (.compLoop (.ListComp elt [⟨target,iter,ifs,0⟩] scope pos) 0 it acc env) R s:=by
 match ifs,hi with
 | [],_=>exact zbg I turn n h
 | [t],_=>exact zam I turn n h
inductive tCompD_S (g:TG) (tt:TT) (te:TE) (σ0:St->Hp->St->Prop) (σ:St) (Q:VK) (x:V) (H1:Hp):Prop
 | mk (d kvs:_) (_:x=.ref d) (_:H1 d=some (.dK kvs)) (σY:_) (_:σ0 σ (but H1 [d]) σY) (_:∀ D,but H1 [d] D=none->D≠d->CompWF (Itk kvs) g tt te σY (upd (but H1 [d]) D (.lst [])) D λv H'=>H' d=none->Q v (upd H' d (.dK kvs)))
def zbu (td:TE) (g:TG) (tt:TT) (te:TE) (σ0:St->Hp->St->Prop):TE:=λσ H Q=>td σ H λx H1=>tCompD_S g tt te σ0 σ Q x H1
section
variable {X:Cx} {tg:Expr}
theorem zao {iter elt:Expr} {ifs:Jh} {scope:Scope} {pos pos':Pos} {cl:List (Str×Ad)} {NY:Jf} {td:TE} {g:TG} {tt:TT} {te:TE} {σ0:St->Hp->St->Prop} (hc:X.calm=true) (S:Sees X scope cl) (hi:PE X iter td)
  (hY:∀ (s3:Sh) (H3:Hp) (fp:Jg),PG (X.comp scope cl NY s3 H3 fp) tg g/\Ifs (X.comp scope cl NY s3 H3 fp) ifs tt/\PE (X.comp scope cl NY s3 H3 fp) elt te)
  (h0:∀ (pins:Jc) (σ:St) (H:Hp) (s3:Sh) (σY:St),Inv X pins σ H s3->σ0 σ H σY->σY.length=NY.length/\∀ (i:Nat) (x:Str) (v:V),NY[i]?=some x->σY[i]?=some (some v) ->
   ∃ c u,(((compEnvC scope cl 0 X.env).kindOf x=some .cell∨(compEnvC scope cl 0 X.env).kindOf x=some .free))/\cl.lookup x=some c/\RelV v u/\s3.heap.IsCell c (some u))
  (hs:∀ x,foldedSetIterable iter X.env x=pure x) {use:Option (Vl->Sem Unit)} {R:Ja} {pins:Jc} {s:Sh} {σ:St} {H:Hp} {Q:VK} (I:Inv X pins σ H s) (h:zbu td g tt te σ0 σ H Q)
  (fin:∀ (C D:Ad) (H5:Hp) (s6:Sh),CompEnd X pins σ H5 s6 C->Q (.ref D) H5->compPost (model X.prog X.w) X.A X.xe use R (.ref D) C (.ok .next) s6) :
  wpAny (model X.prog X.w) X.A (comprehension (.ListComp elt [⟨tg,iter,ifs,0⟩] scope pos) scope X.env pos' (newList []) (firstAsync [⟨tg,iter,ifs,0⟩]) (firstIter [⟨tg,iter,ifs,0⟩] X.env) use) R X.xe s:=by
 refine wpAny_comprehension_free rfl hs S.clos S.kind S.names (thn (hi pins s σ H _ I h) λv s1 h1=>?_);obtain ⟨x,H1,I1,r1,d,kvs,ex,ed,σY,hσ,hW⟩:=h1;subst ex;cases r1;obtain ⟨ob,es,ep,vs,rk,cc,eob,hS,hz,J1⟩:=I1.hideD ed;have lk:kvs.length=vs.length:=rk.length;have DA:∀ {h:Heap},h.get? d=some ob->Heap.DictAt (zD X.prog X.w) h d vs ep:=λ{h} q=>⟨ob,es,q,cc⟩;refine wpAny_pyIter_dict hS (DA eob) ?_;generalize hH2:but H1 [d]=H2 at *;have nd2:H2 d=none:=by rw [← hH2];exact Zd (List.mem_singleton_self d)
 let it:Ad:=s1.heap.objs.size;generalize hs2:({ s1 with heap:=s1.heap.push { cls:=.type "dict_keyiterator",data:=.fields #[.ref d,.int 0 0,.int (vs.length:Nat) 0,.int (ep:Nat) 0] } }:Sh)=s2;have k12:∀ b o,s1.heap.get? b=some o->s2.heap.get? b=some o:=λb o q=>by rw [← hs2];exact Heap.get?_push_of_some _ q
 have I2:Inv X ((d,ob)::pins) σ H2 s2:=by rw [← hs2];exact J1.kept (t':=s1.toks) λb o e=>Heap.get?_push_of_some _ e
 let fp:Jg:=[it];let tn:Nat->Heap->Prop:=λi h=>h.IsKeyIter it d i vs.length ep;have st2:tn 0 s2.heap:=by rw [← hs2];exact ⟨_,Heap.get?_push_size _ rfl,rfl,rfl⟩
 have f2:∀ b∈fp,Ze X ((d,ob)::pins) H2 b:=λb hb=>by
  have e:b=it:=List.mem_singleton.mp hb;subst e;exact J1.fpOk (Nat.le_refl _) (J1.hok.fresh (Nat.le_refl _))
 have Tobj:∀ i h,tn i h->∀ b∈fp,∃ o,h.get? b=some o/\∀ v,o.data≠.cell v:=λi h st b hb=>by
  have e:b=it:=List.mem_singleton.mp hb;subst e;obtain ⟨o,e,c,d⟩:=st;exact ⟨o,e,λv z=>by rw [d] at z;cases z⟩
 have Tkeep:∀ i h h',tn i h->(∀ b∈fp,∀ o,h.get? b=some o->h'.get? b=some o)->tn i h':=λi h h' st k=>st.at λo e=>k it (List.mem_singleton.mpr rfl) o e;refine wpAny_newObj_type ?_;have I3:Inv X ((d,ob)::pins) σ (upd H2 s2.heap.objs.size (.lst [])) (pz s2):=I2.lnew (t':=s2.toks) (its:=[]) .nil (Nat.zero_le _);have eob2:s2.heap.get? d=some ob:=k12 _ _ eob;have dlt:d≠s2.heap.objs.size:=Nat.ne_of_lt (Heap.lt_size eob2);obtain ⟨W,⟨m0,w0⟩,turn⟩:=hW s2.heap.objs.size (I2.hok.fresh (Nat.le_refl _)) (Ne.symm dlt);have ob2:=Tobj _ _ st2
 have hfp:∀ b∈fp,Ze X ((d,ob)::pins) (upd H2 s2.heap.objs.size (.lst [])) b:=λb hb=>by
  obtain ⟨o,q,_⟩:=ob2 b hb;exact ⟨by rw [zj (Nat.ne_of_lt (Heap.lt_size q))];exact (f2 b hb).1,(f2 b hb).2⟩
 have hob:∀ b∈fp,∃ o,(s2.heap.push Lz).get? b=some o:=λb hb=>by
  obtain ⟨o,q,_⟩:=ob2 b hb;exact ⟨o,Heap.get?_push_of_some _ q⟩
 refine wpAny_newFunctionEnv S.nocell (λy hy=>absurd hy (by simp)) (λh1 hn1 hs1=>?_) S.kind;obtain ⟨hl,hY0⟩:=h0 _ σ H2 s2 σY I2 hσ;have k23:∀ b o,s2.heap.get? b=some o->(s2.heap.push Lz).get? b=some o:=λb o q=>Heap.get?_push_of_some _ q;have k34:∀ b o,(s2.heap.push Lz).get? b=some o->h1.get? b=some o:=λb o q=>(hs1.2 b (Nat.ne_of_lt (Heap.lt_size q))).trans (Heap.get?_push_of_some _ q)
 have I4:=zan (scope:=scope) (cl:=cl) (NY:=NY) (fp:=fp) (h1:=h1) (t:=s2.toks) (σY:=σY) I3 S hfp hob hn1 k34 hl λi x v e1 e2=>by
  obtain ⟨c,u,k,q,r,o,z1,z2⟩:=hY0 i x v e1 e2;exact ⟨c,u,k,q,r,o,k23 _ _ z1,z2⟩
 have st4:tn 0 h1:=Tkeep _ _ _ st2 λb hb o q=>k34 _ _ (k23 _ _ q);have fr4:∀ b∈fp,(upd H2 s2.heap.objs.size (.lst [])) b=none:=λb hb=>(hfp b hb).1;obtain ⟨hg,ht,he⟩:=hY (pz s2) (upd H2 s2.heap.objs.size (.lst [])) fp;have okY:=I4.ok
 have statY:∀ {H':Hp},(∀ b∈fp,H' b=none)->∀ b∈fp,Ze (Xz X scope cl NY s2 H2 fp) [] H' b :=
  λhn b hb=>⟨hn b hb,(okY.exf b hb).1,okY.exfs b hb,.inl hb,(okY.exf b hb).2,λp hp=>absurd hp (by simp)⟩
 have pinD:=I3.pin (d,ob) (q2y _ q1z)
 have dfs:d ∉ (Xz X scope cl NY s2 H2 fp).fs:=λz=>by
  rcases List.mem_cons.mp (I3.stkSub d z) with y | y
  ·exact pinD.2.2.1 y
  ·exact pinD.2.2.2.1 y
 have dex:d ∉ fp:=λz=>by
  have e:d=it:=List.mem_singleton.mp z;exact absurd (Heap.lt_size eob) (by rw [e];exact Nat.lt_irrefl _)
 have stay:∀ {pp:Jc} {σ':St} {H':Hp} {s':Sh},Inv (Xz X scope cl NY s2 H2 fp) pp σ' H' s'->s'.heap.get? d=some ob:=λI' =>
  I'.base.keep d ob (k23 _ _ eob2) (show upd H2 s2.heap.objs.size (.lst []) d=none by rw [zj dlt];exact nd2) dfs dex
 have loop:codeAny (model X.prog X.w) X.A (.compLoop (.ListComp elt [⟨tg,iter,ifs,0⟩] scope pos) 0 (.ref it) (.ref s2.heap.objs.size) (compEnvC scope cl (s2.heap.push Lz).objs.size X.env))
   (compPost (model X.prog X.w) X.A X.xe use R (.ref s2.heap.objs.size) (s2.heap.push Lz).objs.size) { s2 with heap:=h1,toks:=s2.toks }:=by
  refine zer ht.len (λn s'=>∃ i σ' H',Inv (Xz X scope cl NY s2 H2 fp) [] σ' H' s'/\tn i s'.heap/\(∀ b∈fp,H' b=none)/\W i n σ' H') ?_ m0 ⟨0,σY,_,I4,st4,fr4,w0⟩;rintro n s5 ⟨i,σ5,H5,I5,st5,fr5,w5⟩;obtain ⟨g0,g1,g2,g3,g4,g5⟩:=statY fr5 it (List.mem_singleton.mpr rfl);rcases turn i n σ5 H5 w5 with ⟨stop,q⟩ | ⟨go,N,hN,step⟩
  ·have stop:kvs.length<=i:=stop
   refine wpAny_pyNext_dict_end (I5.ok.hd hc) st5 (DA (stay I5)) (List.getElem?_eq_none (by omega)) λh' eb=>?_;have I6:Inv (Xz X scope cl NY s2 H2 fp) [] σ5 H5 { s5 with heap:=h' }:=I5.turned (t':=s5.toks) (λb o hb e=>eb b o hb e) g0 g1 g3 g4 g5;obtain ⟨m,hm,_⟩:=I6.loc;have back:=λ(h2:Heap) (hs':Heap.SameBut (s2.heap.push Lz).objs.size h' h2)=>I1.backD ed rk cc hS hz (Xj I3 hfp I6 hs');have nd5:=(back h' ⟨rfl,λ_ _=>rfl⟩).1;have dC:(s2.heap.push Lz).objs.size≠d:=Ne.symm (Nat.ne_of_lt (Heap.lt_size (k23 _ _ eob2)));refine fin _ _ (upd H5 d (.dK kvs)) _ ⟨⟨m,hm⟩,by rw [zj dC];exact I6.free,Ne.symm (Nat.ne_of_lt I3.lt),I3.sz,λx c z=>?_,λp hp=>?_,λh2 hs'=>(back h2 hs').2⟩ (q nd5)
   ·obtain ⟨_,o,z1,_⟩:=I3.cell x c z
    exact Nat.ne_of_lt (Heap.lt_size z1)
   ·exact Nat.ne_of_lt (Heap.lt_size (I3.pin p (by
     rcases List.mem_append.mp hp with hp | hp
     ·exact List.mem_append_left _ hp
     ·exact q2y _ (q1y _ hp))).1)
  ·have go:i<kvs.length:=go
   obtain ⟨pv,hpv⟩:∃ p,vs[i]?=some p:=⟨vs[i]'(by omega),List.getElem?_eq_getElem _⟩;obtain ⟨pk',hpk⟩:∃ p,kvs[i]?=some p:=⟨kvs[i],List.getElem?_eq_getElem go⟩
   have ek:pk'.1=pv.1:=by
    have:=rk.keys;have e1:(kvs.map (·.1))[i]?=some pk'.1:=by rw [List.getElem?_map,hpk];rfl
    rw [this,List.getElem?_map,hpv] at e1;exact (Option.some.inj e1).symm
   refine wpAny_pyNext_dict_item st5 (DA (stay I5)) (k:=pv.1) (v:=pv.2) hpv λkey h' hkey st' sb=>?_;have I6:Inv (Xz X scope cl NY s2 H2 fp) [] σ5 H5 { s5 with heap:=h' }:=I5.turned (t':=s5.toks) (λb o hb e=>(sb.2 b hb).trans e) g0 g1 g3 g4 g5;obtain ⟨oi,ei,ci,di⟩:=id st'
   have rkey:RelV (kV pk'.1) key:=by
    rw [ek];exact kV_rel hkey
   show wpAny (model X.prog X.w) X.A (letOwnedTupleGo tg (.ref it) key) _ _ { s5 with heap:=h' };refine go_of (s:={ s5 with heap:=h' }) ei ci di (by decide) ?_;have I7':=I6.pinned (statY fr5) (Tobj _ _ st');refine thn (hg _ _ σ5 H5 (kV pk'.1) key _ I7' rkey (step (kV pk'.1) H5 ⟨rfl,pk',hpk,rfl⟩)) λ_ s8 ⟨σ8,H8,I8,q8⟩=>?_
   have pk:∀ {H':Hp} {s':Sh} {σ':St},Inv (Xz X scope cl NY s2 H2 fp) ([]++Y7 fp h') σ' H' s'->tn (i+1) s'.heap/\∀ b∈fp,H' b=none:=λI'=>by
    refine ⟨Tkeep _ _ _ st' λb hb o q=>(I'.pin (b,o) (q2y _ (q2y _ (yL hb q)))).1,λb hb=>?_⟩;obtain ⟨o,q,d⟩:=Tobj _ _ st' b hb;exact (I'.pin (b,o) (q2y _ (q2y _ (yL hb q)))).2.1
   refine ifs_ok ht I8 q8 λbb H8' s8' I8' q8'=>?_
   cases bb with
   | false =>
    have q8':=(show N σ8 H8' by simpa using q8');obtain ⟨m',hm,w10⟩:=hN _ _ q8';exact ⟨m',hm,i+1,σ8,_,I8'.unpinned,(pk I8').1,(pk I8').2,w10⟩
   | true =>
    have q8':=(show te σ8 H8' _ by simpa using q8');refine thn (he _ s8' σ8 H8' _ I8' q8') λz s9 ⟨v9,H9,I9,r9,xs,hx9,hz9,n9⟩=>?_;refine thn (xv _ s9 σ8 H9 (.ref s2.heap.objs.size) [v9] (.ref s2.heap.objs.size) [z] (λ_ H'=>H'=upd H9 s2.heap.objs.size (.lst (xs++[v9]))) I9 rfl (.cons r9 .nil) ⟨s2.heap.objs.size,xs,v9,rfl,rfl,hx9,hz9,rfl⟩) λy s10 ⟨v10,H10,I10,_,e10⟩=>?_;subst e10;obtain ⟨m',hm,w10⟩:=hN _ _ n9;exact ⟨m',hm,i+1,σ8,_,I10.unpinned,(pk I10).1,(pk I10).2,w10⟩
 exact codeAny_compStart_list loop (wpAny_pyIter_keyiter st4 loop)
def ps_compD {iter elt tst:Expr} {scope:Scope} {pos pos' spos:Pos} {td:TE} {g:TG} {tt:TT} {te:TE} {i:Nat} {y:Str} (NY:Jf) (cap:List (Option Nat)) (hc:X.calm=true) (hk:Yo X scope=true) (hcap:YV X scope NY cap=true) (hi:PE X iter td)
  (hY:∀ (s3:Sh) (H3:Hp) (fp:Jg),PG (X.comp scope (Zf X.env scope) NY s3 H3 fp) tg g/\PT (X.comp scope (Zf X.env scope) NY s3 H3 fp) tst tt/\PE (X.comp scope (Zf X.env scope) NY s3 H3 fp) elt te) (hN:X.N.Nodup) (hi':X.N[i]?=some y) (hx:Loc X.env.scope y)
  (hf:X.fn y=true∨X.env.scope.names.lookup y=some .local:=by first | exact .inl rfl | exact .inr rfl) (hw:swapsWith (.ListComp elt [⟨tg,iter,[tst],0⟩] scope pos) (some (.Name y pos')) spos.line X.env=pure true:=by rfl)
  (hs:∀ x,foldedSetIterable iter X.env x=pure x:=by intro _;rfl):PS X (.Assign [.Name y pos'] (.ListComp elt [⟨tg,iter,[tst],0⟩] scope pos) spos) (tAsg (zbu td g tt te λσ _ σY=>σY=capt cap σ) (Xr i)):=by
 intro pins s σ H D I h;rw [exec_Assign_Name_used _ _ _ _ hw,arm_evalThenUse_ListComp]
 refine q0x (wpAny_standAt (q0x (q0x (wpAny_mono (zao (NY:=NY) (use:=some (assign (.Name y pos') X.env)) (R:=λ_ s'=>SP X pins D .next s') hc (xQ I.ok hk) hi (λs3 H3 fp=>⟨(hY s3 H3 fp).1,.inr ⟨_,rfl,(hY s3 H3 fp).2.1⟩,(hY s3 H3 fp).2.2⟩) (λpins σ H s3 σY I3 e=>by
  subst e;exact ZP I3 (xQ I3.ok hk) hcap) hs I h λC L H5 s6 e q=>?_) (λ_ s' z=>q0y (q0y z)) λ_ _ z=>z))))
 obtain ⟨m,hm⟩:=e.ns;have I6:Inv X pins σ H5 s6:=e.inv s6.heap ⟨rfl,λ_ _=>rfl⟩;refine wpAny_assign_Name (Y0 I6 hN hi' hx (v:=.ref L) rfl (λs' I' ⟨a,sb,ha⟩=>?_) hf)
 have ne:C≠a:=by
  rintro rfl;rcases ha with z | z
  ·exact e.hL z
  ·exact e.h2 _ _ z rfl
 refine ⟨m,?_,λh' hs'=>?_⟩
 ·obtain ⟨o,es,ep,z,r⟩:=hm
  exact ⟨o,es,ep,(sb.2 _ ne).trans z,r⟩
 ·exact ⟨_,H5,I'.turned (t':=s'.toks) (it:=C) (λb o nb z=>(hs'.2 b nb).trans z) e.hn e.hL (.inr e.h1) e.h2 e.h3,q⟩
def zet {kvs:Jl} {D:Ad} {g:TG} {tt:TT} {te:TE} {σY:St} {H1:Hp} {Q:VK} (Pv:Nat->St->Hp->Prop) (h0:Pv 0 σY H1)
  (hs:∀ i p σ H,kvs[i]?=some p->Pv i σ H->g (kV p.1) σ H λσ3 H3=>tt σ3 H3 λb H4=>if b=true then te σ3 H4 λv H5=>∃ ys,H5 D=some (.lst ys)/\ys.length<sizeLine/\Pv (i+1) σ3 (upd H5 D (.lst (ys++[v]))) else Pv (i+1) σ3 H4) (hd:∀ σ H,Pv kvs.length σ H->Q (.ref D) H) :
  CompWF (Itk kvs) g tt te σY H1 D Q:=by
 refine ⟨λi m σ H=>m=kvs.length-i/\i<=kvs.length/\Pv i σ H,⟨kvs.length,by simp,Nat.zero_le _,h0⟩,?_⟩;rintro i m σ H ⟨rfl,hi,p⟩;by_cases hlt:i<kvs.length
 ·refine .inr ⟨hlt,Pv (i+1),λσ' H' p'=>⟨kvs.length-(i+1),by omega,rfl,hlt,p'⟩,λx H' y=>?_⟩
  obtain ⟨e,q,hq,ex⟩:=y;subst e ex;exact hs i q σ _ hq p
 ·have e:i=kvs.length:=by omega
  subst e;exact .inl ⟨Nat.le_refl _,hd σ H p⟩
end
section
variable {X:Cx}
def Xk (hc:X.calm=true):xq X (.builtin "min") (λxs H Q=>∃ (p:Ad) (ns:Jb),xs=[.ref p]/\SqL X.K H p (ns.map V.int)/\0<ns.length/\∀ m,m∈ns->(∀ v∈ns,m<=v)->Q (.int m) H):=by
 intro pins s σ H xs us Q I r h;obtain ⟨p,ns,rfl,hp,h0,q⟩:=h;obtain ⟨u,rfl,ru⟩:=r.one;cases (show u=Value.ref p from ru);obtain ⟨its,rv,pl,_⟩:=I.list hp;obtain ⟨ys,hy⟩:=(zci rv).allInts.items;have hl:s.heap.IsList p (intItems ys):=hy ▸ pl.isList;have e1:=vals_len rv;rw [Ji] at e1
 have hsz:ys.size=ns.length:=by
  have z:its.toArray.size=(intItems ys).size:=by rw [hy]
  simp [intItems] at z;omega
 have hne:0<ys.size:=by omega
 refine min_intList (I.ok.hd hc) hl hne λv h' tk hv hk=>?_
 have z:its[argBest (λi j=>decide (numAt ys i<numAt ys j)) (ys.size-1)]?=some v:=by
  rw [← hy] at hv;simpa using hv
 obtain ⟨n,t,en,rfl⟩:=ints_at rv _ v z
 have nu:∀ (j:Nat) (n':Int),ns[j]?=some n'->n'=numAt ys j:=λj n' e=>by
  obtain ⟨u,eu,ru⟩:=rv.get (show (ns.map V.int)[j]?=some (.int n') by rw [List.getElem?_map,e];rfl);obtain ⟨t',rfl⟩:=(show ∃ t',u=Value.int n' t' from ru);obtain ⟨t2,e2⟩:=intItems_at (xs:=ys) (i:=j) (v:=.int n' t') (by rw [← hy];simpa using eu);injection e2
 refine ⟨.int n,H,I.kept hk,⟨_,rfl⟩,q n (List.mem_of_getElem? en) λv' hv'=>?_⟩;obtain ⟨j,hj,ej⟩:=List.getElem_of_mem hv';have a1:=nu j v' (by rw [List.getElem?_eq_getElem hj,ej]);have a2:=nu _ n en;have a3:=(argBest_lt (numAt ys) (ys.size-1)).2 j (by omega);rw [a1,a2];exact a3
end
end L2
namespace L2
open PySem PySem.Spec PyProof.Rows
open Sem (wp)
@[reducible] def IsTrip (h:Heap) (T:Ad) (a b c:Vl):Prop:=h.get? T=some { cls:=.type "tuple",data:=.seq #[a,b,c] }
structure Apart3 (z TI TO i1 i2 i3 l1 l2 l3:Ad):Prop where
 TIz:TI≠z
 TOz:TO≠z
 TITO:TI≠TO
 i1z:i1≠z
 i2z:i2≠z
 i3z:i3≠z
 TIi1:TI≠i1
 TIi2:TI≠i2
 TIi3:TI≠i3
 TOi1:TO≠i1
 TOi2:TO≠i2
 TOi3:TO≠i3
 i12:i1≠i2
 i13:i1≠i3
 i23:i2≠i3
 l1z:l1≠z
 l2z:l2≠z
 l3z:l3≠z
 l2i1:l2≠i1
 l2TO:l2≠TO
 l3i1:l3≠i1
 l3i2:l3≠i2
 l3TO:l3≠TO
section
variable {prog:Program} {w:World} {A:Around} {E:Ja} {s:Sh}
def XQ {T:Ad} {a b c x:Vl} {k:Nat} {Q:Unit->Sh->Prop} (h:IsTrip s.heap T a b c) (q:∀ h',h'.get? T=some { cls:=.type "tuple",data:=.seq (#[a,b,c].setIfInBounds k x) }->Heap.SameBut T s.heap h'->Q () { s with heap:=h' }) :
  wpAny (model prog w) A (updateSeq T λy=>y.setIfInBounds k x) Q E s:=by
 refine wpAny_updateSeq h rfl (q _ ?_ (Heap.SameBut.update ..)) (by show 3<=sizeLine;decide) (by rw [Array.size_setIfInBounds];show 3<=sizeLine+1;decide);rw [Heap.get?_update_self _ h (by simp [Obj.mapSeq,Obj.isFreed])];simp [Obj.mapSeq]
def z3_item {z TI TO j1 j2 j3 t1 t2 t3:Ad} {k:Nat} {us vs ws:Array Vl} {u v y a b c:Vl} {Q:Ja} (D:Apart3 z TI TO j1 j2 j3 t1 t2 t3) (hz:IsZip s.heap z TI TO .none) (hI:IsTrip s.heap TI (.ref j1) (.ref j2) (.ref j3)) (hO:IsTrip s.heap TO a b c)
  (i1:s.heap.IsListIter j1 t1 k) (i2:s.heap.IsListIter j2 t2 k) (i3:s.heap.IsListIter j3 t3 k) (e1:s.heap.IsList t1 us) (e2:s.heap.IsList t2 vs) (e3:s.heap.IsList t3 ws) (hu:us[k]?=some u) (hv:vs[k]?=some v) (hy:ws[k]?=some y)
  (q:∀ g,IsZip g z TI TO (rawInt s.heap.objs.size)->IsTrip g TO u v y->g.IsListIter j1 t1 (k+1)->g.IsListIter j2 t2 (k+1)->g.IsListIter j3 t3 (k+1)->IsTrip g s.heap.objs.size u v y->g.objs.size=s.heap.objs.size+1->(∀ c o,c≠z->c≠TO->c≠j1->c≠j2->c≠j3->s.heap.get? c=some o->g.get? c=some o)->Q (.ref s.heap.objs.size) { s with heap:=g }) :
  wpAny (model prog w) A (Builtin.«zip.__next__» ⟨[.ref z],[]⟩) (λfin s'=>∃ v,fin=.done (.ret v)/\Q v s') E s:=by
 refine q0x (m:=field (.ref z) 2) (wpAny_field hz rfl (x:=.bool false) rfl ?_);refine q0x (m:=field (.ref z) 3) (wpAny_field hz rfl (x:=.ref TI) rfl (q0x (wpAny_seqItems hI rfl ?_)));refine q0x (m:=Builtin.SmallTypes.ownedTupleIsFree (.ref z)) ?_;unfold Builtin.SmallTypes.ownedTupleIsFree;refine q0x (wpAny_field hz rfl (x:=.none) rfl (q0y ?_));simp only [if_true];refine q0x (wpAny_rule (q0x (wpAny_field hz rfl (x:=.ref TO) rfl ?_)));refine q0x (wpAny_setField_rec hz (by simp) λg1 z1 c1=>q0x ?_);replace z1:IsZip g1 z TI TO .ellipsis:=z1;simp only [List.zipIdx_cons,List.zipIdx_nil,List.forIn_cons,List.forIn_nil];refine q0x (q0x (wpAny_onRaise ?_));refine q0x (m:=Builtin.SmallTypes.nextOf (.ref j1)) (wpAny_nextOf_list_item (i1.extBut c1.extBut D.i1z) (e1.extBut c1.extBut D.l1z) hu λg2 n1 c2=>q0y ?_);have o2:IsTrip g2 TO a b c:=c2.extBut _ _ D.TOi1 (c1.extBut _ _ D.TOz hO);refine q0x (wpAny_seqItems o2 rfl (q0x (XQ o2 λg3 o3 c3=>?_)));replace o3:IsTrip g3 TO u b c:=o3;refine q0x (wpAny_letGo (q0y (q0x (q0x (wpAny_onRaise ?_)))));have k13:∀ {x:Ad},x≠z->x≠j1->x≠TO->∀ o,s.heap.get? x=some o->g3.get? x=some o:=λd1 d2 d3 o e=>c3.extBut _ _ d3 (c2.extBut _ _ d2 (c1.extBut _ _ d1 e));refine q0x (m:=Builtin.SmallTypes.nextOf (.ref j2)) (wpAny_nextOf_list_item (((i2.extBut c1.extBut D.i2z).extBut c2.extBut D.i12.symm).extBut c3.extBut D.TOi2.symm) (((e2.extBut c1.extBut D.l2z).extBut c2.extBut D.l2i1).extBut c3.extBut D.l2TO) hv λg4 n2 c4=>q0y ?_);have o4:IsTrip g4 TO u b c:=c4.extBut _ _ D.TOi2 o3;refine q0x (wpAny_seqItems o4 rfl (q0x (XQ o4 λg5 o5 c5=>?_)));replace o5:IsTrip g5 TO u v c:=o5;refine q0x (wpAny_letGo (q0y (q0x (q0x (wpAny_onRaise ?_)))));refine q0x (m:=Builtin.SmallTypes.nextOf (.ref j3)) (wpAny_nextOf_list_item (((((i3.extBut c1.extBut D.i3z).extBut c2.extBut D.i13.symm).extBut c3.extBut D.TOi3.symm).extBut c4.extBut D.i23.symm).extBut c5.extBut D.TOi3.symm) (((((e3.extBut c1.extBut D.l3z).extBut c2.extBut D.l3i1).extBut c3.extBut D.l3TO).extBut c4.extBut D.l3i2).extBut c5.extBut D.l3TO) hy λg6 n3 c6=>q0y ?_);have o6:IsTrip g6 TO u v c:=c6.extBut _ _ D.TOi3 o5;refine q0x (wpAny_seqItems o6 rfl (q0x (XQ o6 λg7 o7 c7=>?_)));replace o7:IsTrip g7 TO u v y:=o7;refine q0x (wpAny_letGo (q0y (q0y (q0x (wpAny_seqItems o7 rfl (q0x (wpAny_newTuple ?_)))))));have sz:g7.objs.size=s.heap.objs.size:=by rw [c7.1,c6.1,c5.1,c4.1,c3.1,c2.1,c1.1]
 have z7:IsZip g7 z TI TO .ellipsis:=c7.extBut _ _ D.TOz.symm (c6.extBut _ _ D.i3z.symm (c5.extBut _ _ D.TOz.symm (c4.extBut _ _ D.i2z.symm (c3.extBut _ _ D.TOz.symm (c2.extBut _ _ D.i1z.symm z1)))));have k7:∀ c o,c≠z->c≠TO->c≠j1->c≠j2->c≠j3->s.heap.get? c=some o->g7.get? c=some o:=λc o d1 d2 d3 d4 d5 e=>c7.extBut _ _ d2 (c6.extBut _ _ d5 (c5.extBut _ _ d2 (c4.extBut _ _ d4 (c3.extBut _ _ d2 (c2.extBut _ _ d3 (c1.extBut _ _ d1 e))))));have m1:g7.IsListIter j1 t1 (k+1):=((((n1.extBut c3.extBut D.TOi1.symm).extBut c4.extBut D.i12).extBut c5.extBut D.TOi1.symm).extBut c6.extBut D.i13).extBut c7.extBut D.TOi1.symm;have m2:g7.IsListIter j2 t2 (k+1):=((n2.extBut c5.extBut D.TOi2.symm).extBut c6.extBut D.i23).extBut c7.extBut D.TOi2.symm;have m3:g7.IsListIter j3 t3 (k+1):=n3.extBut c7.extBut D.TOi3.symm;have zl:z<g7.objs.size:=Heap.lt_size z7;refine q0x (m:=Builtin.SmallTypes.ownedTupleHandOut (.ref z) (.ref g7.objs.size)) ?_;unfold Builtin.SmallTypes.ownedTupleHandOut;have z8:IsZip (g7.push { cls:=.type "tuple",data:=.seq #[u,v,y] }) z TI TO .ellipsis:=Heap.get?_push_of_some _ z7;refine q0x (wpAny_setField_rec z8 (by simp) λg9 z9 c9=>?_);replace z9:IsZip g9 z TI TO (rawInt g7.objs.size):=z9;refine wpAny_setField_rec z9 (by simp) λga za ca=>?_;replace za:IsZip ga z TI TO (rawInt g7.objs.size):=za;have up:∀ c o,c≠z->g7.get? c=some o->ga.get? c=some o:=λc o d e=>ca.extBut _ _ d (c9.extBut _ _ d (Heap.get?_push_of_some _ e));have T8:IsTrip ga g7.objs.size u v y:=ca.extBut _ _ (Nat.ne_of_gt zl) (c9.extBut _ _ (Nat.ne_of_gt zl) (Heap.get?_push_size _ rfl));have s8:ga.objs.size=g7.objs.size+1:=by rw [ca.1,c9.1,Heap.size_push]
 rw [sz] at za T8 s8;refine q0y ⟨_,rfl,?_⟩;show Q (.ref g7.objs.size) _;rw [sz];exact q ga za (up _ _ D.TOz o7) (m1.at λo e=>up _ o D.i1z e) (m2.at λo e=>up _ o D.i2z e) (m3.at λo e=>up _ o D.i3z e) T8 s8 λc o d1 d2 d3 d4 d5 e=>up c o d1 (k7 c o d1 d2 d3 d4 d5 e)
def z3_end {z TI TO j1 j2 j3 t1 t2 t3:Ad} {k:Nat} {us:Array Vl} {a b c:Vl} {Q:Fin->Sh->Prop} (hh:A.handled=none) (D:Apart3 z TI TO j1 j2 j3 t1 t2 t3) (hz:IsZip s.heap z TI TO .none) (hI:IsTrip s.heap TI (.ref j1) (.ref j2) (.ref j3)) (hO:IsTrip s.heap TO a b c)
  (i1:s.heap.IsListIter j1 t1 k) (e1:s.heap.IsList t1 us) (he:us[k]?=none)
  (q:∀ g e,(∀ c o,c≠z->c≠TO->c≠j1->c≠j2->c≠j3->s.heap.get? c=some o->g.get? c=some o)->(∃ o,g.get? e=some o/\o.cls=.type "StopIteration")->E (.ref e) { s with heap:=g }) :
  wpAny (model prog w) A (Builtin.«zip.__next__» ⟨[.ref z],[]⟩) Q E s:=by
 refine q0x (m:=field (.ref z) 2) (wpAny_field hz rfl (x:=.bool false) rfl ?_);refine q0x (m:=field (.ref z) 3) (wpAny_field hz rfl (x:=.ref TI) rfl (q0x (wpAny_seqItems hI rfl ?_)));refine q0x (m:=Builtin.SmallTypes.ownedTupleIsFree (.ref z)) ?_;unfold Builtin.SmallTypes.ownedTupleIsFree;refine q0x (wpAny_field hz rfl (x:=.none) rfl (q0y ?_));simp only [if_true];refine q0x (wpAny_rule (q0x (wpAny_field hz rfl (x:=.ref TO) rfl ?_)));refine q0x (wpAny_setField_rec hz (by simp) λg1 z1 c1=>q0x ?_);replace z1:IsZip g1 z TI TO .ellipsis:=z1;simp only [List.zipIdx_cons,List.zipIdx_nil,List.forIn_cons,List.forIn_nil];refine q0x (q0x (wpAny_onRaise ?_));refine q0x (m:=Builtin.SmallTypes.nextOf (.ref j1)) (wpAny_nextOf_list_end hh (i1.extBut c1.extBut D.i1z) (e1.extBut c1.extBut D.l1z) he λg2 e c2 ⟨oe,ho,hc⟩=>?_);have z2:IsZip g2 z TI TO .ellipsis:=c2 _ _ D.i1z.symm z1;have ne:e≠z:=λx=>by subst x;rw [z2] at ho;cases ho;simp at hc
 exact wpAny_setField_rec z2 (by simp) λg3 _ c3=>q g3 e (λc o d1 _ d3 _ _ x=>c3.extBut _ _ d1 (c2 _ _ d3 (c1.extBut _ _ d1 x))) ⟨oe,c3.extBut _ _ ne ho,hc⟩
def next_z3 {z TI TO j1 j2 j3 t1 t2 t3:Ad} {k:Nat} {us vs ws:Array Vl} {u v y a b c:Vl} {Q:Je->Sh->Prop} (D:Apart3 z TI TO j1 j2 j3 t1 t2 t3) (hz:IsZip s.heap z TI TO .none) (hI:IsTrip s.heap TI (.ref j1) (.ref j2) (.ref j3)) (hO:IsTrip s.heap TO a b c)
  (i1:s.heap.IsListIter j1 t1 k) (i2:s.heap.IsListIter j2 t2 k) (i3:s.heap.IsListIter j3 t3 k) (e1:s.heap.IsList t1 us) (e2:s.heap.IsList t2 vs) (e3:s.heap.IsList t3 ws) (hu:us[k]?=some u) (hv:vs[k]?=some v) (hy:ws[k]?=some y)
  (q:∀ g,IsZip g z TI TO (rawInt s.heap.objs.size)->IsTrip g TO u v y->g.IsListIter j1 t1 (k+1)->g.IsListIter j2 t2 (k+1)->g.IsListIter j3 t3 (k+1)->IsTrip g s.heap.objs.size u v y->g.objs.size=s.heap.objs.size+1->(∀ c o,c≠z->c≠TO->c≠j1->c≠j2->c≠j3->s.heap.get? c=some o->g.get? c=some o)->Q (some (.ref s.heap.objs.size)) { s with heap:=g }) :
  wpAny (model prog w) A (pyNext (.ref z)) Q E s:=by
 have ty:s.TypeIs (.ref z) "zip":=⟨_,hz,rfl⟩;unfold pyNext;exact q0x (wpAny_attempt (wpAny_callSpecial?_slot (name:=Str.ofString "__next__") ty F.slot_zip_next (wpAny_call_entry F.slot_zip_next ty F.entry_zip_next (z3_item D hz hI hO i1 i2 i3 e1 e2 e3 hu hv hy λg a1 a2 a3 a4 a5 a6 a7 a8=>q0y (q g a1 a2 a3 a4 a5 a6 a7 a8)) (F.args_zip_next_1 _))))
def zdh {z TI TO j1 j2 j3 t1 t2 t3:Ad} {k:Nat} {us:Array Vl} {a b c:Vl} {Q:Je->Sh->Prop} (hh:A.handled=none) (D:Apart3 z TI TO j1 j2 j3 t1 t2 t3) (hz:IsZip s.heap z TI TO .none) (hI:IsTrip s.heap TI (.ref j1) (.ref j2) (.ref j3)) (hO:IsTrip s.heap TO a b c)
  (i1:s.heap.IsListIter j1 t1 k) (e1:s.heap.IsList t1 us) (he:us[k]?=none)
  (q:∀ g,(∀ c o,c≠z->c≠TO->c≠j1->c≠j2->c≠j3->s.heap.get? c=some o->g.get? c=some o)->Q none { s with heap:=g }):wpAny (model prog w) A (pyNext (.ref z)) Q E s:=by
 have ty:s.TypeIs (.ref z) "zip":=⟨_,hz,rfl⟩;unfold pyNext;refine q0x (wpAny_attempt (wpAny_callSpecial?_slot (name:=Str.ofString "__next__") ty F.slot_zip_next (wpAny_call_entry F.slot_zip_next ty F.entry_zip_next (z3_end hh D hz hI hO i1 e1 he λg e hk ⟨o,ho,hc⟩=>?_) (F.args_zip_next_1 _))));exact q0x (wpAny_isInstance (T:="StopIteration") (b:=true) ⟨o,ho,hc⟩ isSubtype_stop (q0y (q _ hk)))
abbrev z31 (h:Heap) (t1:Ad):Heap:=h.push { cls:=.type "list_iterator",data:=.fields #[.ref t1,.int 0 0] }
abbrev z32 (h:Heap) (t1 t2:Ad):Heap:=(z31 h t1).push { cls:=.type "list_iterator",data:=.fields #[.ref t2,.int 0 0] }
abbrev z33 (h:Heap) (t1 t2 t3:Ad):Heap:=(z32 h t1 t2).push { cls:=.type "list_iterator",data:=.fields #[.ref t3,.int 0 0] }
abbrev z34 (h:Heap) (t1 t2 t3:Ad):Heap:=(z33 h t1 t2 t3).push { cls:=.type "tuple",data:=.seq #[.ref h.objs.size,.ref (z31 h t1).objs.size,.ref (z32 h t1 t2).objs.size] }
abbrev z35 (h:Heap) (t1 t2 t3:Ad):Heap:=(z34 h t1 t2 t3).push { cls:=.type "tuple",data:=.seq #[.none,.none,.none] }
abbrev z36 (h:Heap) (t1 t2 t3:Ad):Heap:=(z35 h t1 t2 t3).push { cls:=.type "zip",data:=.fields #[.none,.bool false,.bool false,.ref (z33 h t1 t2 t3).objs.size,.ref (z34 h t1 t2 t3).objs.size] }
def meets_z3 (t1 t2 t3:Ad) (us vs ws:Array Vl):Meets (Builtin.«zip.__new__» ⟨[.type "zip",.ref t1,.ref t2,.ref t3],[]⟩) (λ_ R s=>s.heap.IsList t1 us/\s.heap.IsList t2 vs/\s.heap.IsList t3 ws/\R (.ok (.ret (.ref (z35 s.heap t1 t2 t3).objs.size))) { s with heap:=z36 s.heap t1 t2 t3 }) :=
 .of_wp λprog w A R s h=>by
  obtain ⟨hp,g,d,tk,os⟩:=s;obtain ⟨x1,x2,x3,h⟩:=h;have hsub:=sub_zip;have y1:Heap.IsList (Shared.heap ⟨hp,g,d,tk,os⟩) t1 us:=x1;have y2:Heap.IsList (Shared.heap ⟨hp.push { cls:=.type "list_iterator",data:=.fields #[.ref t1,.int 0 0] },g,d,tk,os⟩) t2 vs:=Heap.IsList.push x2 _;have y3:Heap.IsList (Shared.heap ⟨(hp.push { cls:=.type "list_iterator",data:=.fields #[.ref t1,.int 0 0] }).push { cls:=.type "list_iterator",data:=.fields #[.ref t2,.int 0 0] },g,d,tk,os⟩) t3 ws:=Heap.IsList.push (Heap.IsList.push x3 _) _
  wp_walk using wpAny_pyIter_list y1,wpAny_pyIter_list y2,wpAny_pyIter_list y3
  exact ⟨_,rfl,h⟩
def call_z3 {t1 t2 t3:Ad} {us vs ws:Array Vl} {Q:Ja} (x1:s.heap.IsList t1 us) (x2:s.heap.IsList t2 vs) (x3:s.heap.IsList t3 ws)
  (q:∀ g,IsZip g (s.heap.objs.size+5) (s.heap.objs.size+3) (s.heap.objs.size+4) .none->IsTrip g (s.heap.objs.size+3) (.ref s.heap.objs.size) (.ref (s.heap.objs.size+1)) (.ref (s.heap.objs.size+2))->IsTrip g (s.heap.objs.size+4) .none .none .none->g.IsListIter s.heap.objs.size t1 0->g.IsListIter (s.heap.objs.size+1) t2 0->g.IsListIter (s.heap.objs.size+2) t3 0->(∀ c o,s.heap.get? c=some o->g.get? c=some o)->Q (.ref (s.heap.objs.size+5)) { s with heap:=g }) :
  wpAny (model prog w) A (call (.type "zip") [.ref t1,.ref t2,.ref t3]) Q E s:=by
 refine callType_new F.called_zip (by decide) (by rfl) (by with_unfolding_all rfl) (λobj=>by rfl) F.entry_zip_new (meets_z3 t1 t2 t3 us vs ws) ⟨x1,x2,x3,?_⟩;have z1:(z31 s.heap t1).objs.size=s.heap.objs.size+1:=Heap.size_push ..;have z2:(z32 s.heap t1 t2).objs.size=s.heap.objs.size+2:=by rw [Heap.size_push,z1]
 have z3:(z33 s.heap t1 t2 t3).objs.size=s.heap.objs.size+3:=by rw [Heap.size_push,z2]
 have z4:(z34 s.heap t1 t2 t3).objs.size=s.heap.objs.size+4:=by rw [Heap.size_push,z3]
 have z5:(z35 s.heap t1 t2 t3).objs.size=s.heap.objs.size+5:=by rw [Heap.size_push,z4]
 have up:∀ {h:Heap} {c:Ad} {o o':Obj},h.get? c=some o->(h.push o').get? c=some o:=λe=>Heap.get?_push_of_some _ e;have g6:(z36 s.heap t1 t2 t3).get? (z35 s.heap t1 t2 t3).objs.size=some _:=Heap.get?_push_size _ rfl;have g5:(z36 s.heap t1 t2 t3).get? (z34 s.heap t1 t2 t3).objs.size=some _:=up (Heap.get?_push_size _ rfl);have g4:(z36 s.heap t1 t2 t3).get? (z33 s.heap t1 t2 t3).objs.size=some _:=up (up (Heap.get?_push_size _ rfl));have g3:(z36 s.heap t1 t2 t3).get? (z32 s.heap t1 t2).objs.size=some _:=up (up (up (Heap.get?_push_size _ rfl)));have g2:(z36 s.heap t1 t2 t3).get? (z31 s.heap t1).objs.size=some _:=up (up (up (up (Heap.get?_push_size _ rfl))));have g1:(z36 s.heap t1 t2 t3).get? s.heap.objs.size=some _:=up (up (up (up (up (Heap.get?_push_size _ rfl)))));show _/\_;rw [z3,z4,z5] at g6;rw [z1,z2,z3] at g4;rw [z4] at g5;rw [z2] at g3;rw [z1] at g2;rw [z5];exact ⟨⟨_,g6,rfl⟩,q _ g6 g4 g5 ⟨_,g1,rfl,rfl⟩ ⟨_,g2,rfl,rfl⟩ ⟨_,g3,rfl,rfl⟩ λc o x=>up (up (up (up (up (up x)))))⟩
end
def Itz3 (K:Fg) (l1 l2 l3:Ad):It :=
  ⟨λi H=>∃ xs ys zs x y z,SqL K H l1 xs/\SqL K H l2 ys/\SqL K H l3 zs/\xs[i]?=some x/\ys[i]?=some y/\zs[i]?=some z,
   λi H x H'=>∃ T u v w,x=.ref T/\H T=none/\H'=upd H T (.tup [u,v,w])/\∀ xs ys zs,SqL K H l1 xs->SqL K H l2 ys->SqL K H l3 zs->xs[i]?=some u/\ys[i]?=some v/\zs[i]?=some w,
   λi H=>∃ xs,SqL K H l1 xs/\xs.length<=i⟩
def zek {P:Program} {w:World} {A:Around} {E:Ja} {s:Sh} {es:Jh} {kt:Nat} {pos:Pos} {z TI TO T:Ad} {Q:Unit->Sh->Prop} (hz:IsZip s.heap z TI TO (rawInt T)) (q:∀ h',IsZip h' z TI TO .none->Heap.SameBut z s.heap h'->Q () { s with heap:=h' }) :
  wpAny (model P w) A (letOwnedTupleGo (.Tuple es kt pos) (.ref z) (.ref T)) Q E s:=wpAny_letOwnedTupleGo_zip hz q
def turn_z3 {P:Program} {w:World} {K:Fg} {es:Jh} {kt:Nat} {pos:Pos} {z TI TO i1 i2 i3 l1 l2 l3:Ad} (D:Apart3 z TI TO i1 i2 i3 l1 l2 l3) :
  Turn P w K (.Tuple es kt pos) (Itz3 K l1 l2 l3) [z,TI,TO,i1,i2,i3] z (λi h=>IsZip h z TI TO .none/\IsTrip h TI (.ref i1) (.ref i2) (.ref i3)/\(∃ a b c,IsTrip h TO a b c)/\h.IsListIter i1 l1 i/\h.IsListIter i2 l2 i/\h.IsListIter i3 l3 i) where
 mem:=by simp
 obj:=λi h st b hb=>by
  obtain ⟨hz,hI,⟨a,b',c',hO⟩,⟨o1,e1,c1,d1⟩,⟨o2,e2,c2,d2⟩,⟨o3,e3,c3,d3⟩⟩:=st;simp at hb;rcases hb with rfl | rfl | rfl | rfl | rfl | rfl
  ·exact ⟨_,hz,λv q=>by cases q⟩
  ·exact ⟨_,hI,λv q=>by cases q⟩
  ·exact ⟨_,hO,λv q=>by cases q⟩
  ·exact ⟨_,e1,λv q=>by rw [d1] at q;cases q⟩
  ·exact ⟨_,e2,λv q=>by rw [d2] at q;cases q⟩
  ·exact ⟨_,e3,λv q=>by rw [d3] at q;cases q⟩
 keep:=λi h h' st k=>by
  obtain ⟨hz,hI,⟨a,b',c',hO⟩,h1,h2,h3⟩:=st;exact ⟨k z (by simp) _ hz,k TI (by simp) _ hI,⟨a,b',c',k TO (by simp) _ hO⟩,h1.at λo e=>k i1 (by simp) o e,h2.at λo e=>k i2 (by simp) o e,h3.at λo e=>k i3 (by simp) o e⟩
 item:=by
  intro X hP hw hK hc i pins s σ H E I hf st hg;subst hP hw hK;obtain ⟨hz,hI,⟨a,b',c',hO⟩,h1,h2,h3⟩:=st;obtain ⟨xs,ys,zs,x,y,z',q1,q2,q3,ex,ey,ez⟩:=hg;obtain ⟨is1,r1,p1,_⟩:=I.list q1;obtain ⟨is2,r2,p2,_⟩:=I.list q2;obtain ⟨is3,r3,p3,_⟩:=I.list q3;obtain ⟨u,hu,ru⟩:=r1.get ex;obtain ⟨v,hv,rv⟩:=r2.get ey;obtain ⟨t,ht,rt⟩:=r3.get ez;refine next_z3 D hz hI hO h1 h2 h3 p1.isList p2.isList p3.isList (u:=u) (v:=v) (y:=t) (by simpa using hu) (by simpa using hv) (by simpa using ht) λh1' a1 a2 a3 a4 a4' a5 a6 hk=>?_;refine ⟨_,rfl,zek (s:={ s with heap:=h1' }) a1 λh2' z'' sb=>?_⟩;have lt:∀ {c:Ad} {o:Obj},s.heap.get? c=some o->c≠s.heap.objs.size:=λe=>Nat.ne_of_lt (Heap.lt_size e);have Tz:s.heap.objs.size≠z:=(lt hz).symm;have fr:=I.hok.fresh (Nat.le_refl _);refine ⟨.ref s.heap.objs.size,upd H s.heap.objs.size (.tup [x,y,z']),I.turnedT (its:=[z,TI,TO,i1,i2,i3]) (t':=s.toks) (λb o nb e=>?_) hf (Nat.le_refl _) ⟨by show 3<=sizeLine;decide,[u,v,t],.cons ru (.cons rv (.cons rt .nil)),_,sb.extBut _ _ Tz a5,rfl,_,rfl⟩,rfl,⟨s.heap.objs.size,x,y,z',rfl,fr,rfl,λxs' ys' zs' q1' q2' q3'=>?_⟩,?_,λb hb=>?_⟩
  ·have nb':b≠z/\b≠TI/\b≠TO/\b≠i1/\b≠i2/\b≠i3:=by simpa using nb
   exact sb.extBut _ _ nb'.1 (hk b o nb'.1 nb'.2.2.1 nb'.2.2.2.1 nb'.2.2.2.2.1 nb'.2.2.2.2.2 e)
  ·rw [I.list_inj q1' q1,I.list_inj q2' q2,I.list_inj q3' q3];exact ⟨ex,ey,ez⟩
  ·exact ⟨z'',sb.extBut _ _ D.TIz (hk _ _ D.TIz D.TITO D.TIi1 D.TIi2 D.TIi3 hI),⟨_,_,_,sb.extBut _ _ D.TOz a2⟩,a3.extBut sb.extBut D.i1z,a4.extBut sb.extBut D.i2z,a4'.extBut sb.extBut D.i3z⟩
  ·have e:=(hf b hb).1
   have:∃ o,s.heap.get? b=some o:=by
    simp at hb;rcases hb with rfl | rfl | rfl | rfl | rfl | rfl
    ·exact ⟨_,hz⟩
    ·exact ⟨_,hI⟩
    ·exact ⟨_,hO⟩
    ·obtain ⟨o,e,_⟩:=h1;exact ⟨o,e⟩
    ·obtain ⟨o,e,_⟩:=h2;exact ⟨o,e⟩
    ·obtain ⟨o,e,_⟩:=h3;exact ⟨o,e⟩
   obtain ⟨o,eo⟩:=this;rw [zj (lt eo)];exact e
 done:=by
  intro X hP hw hK hc i pins s σ H E I hf st hg;subst hP hw hK;obtain ⟨hz,hI,⟨a,b',c',hO⟩,h1,h2,h3⟩:=st;obtain ⟨xs,q1,le⟩:=hg;obtain ⟨is1,r1,p1,_⟩:=I.list q1;have g1:=r1.length;refine zdh (I.ok.hd hc) D hz hI hO h1 p1.isList (by simp;omega) λh1' hk=>⟨rfl,I.turnedL (its:=[z,TI,TO,i1,i2,i3]) (t':=s.toks) (λb o nb e=>?_) hf⟩;have nb':b≠z/\b≠TI/\b≠TO/\b≠i1/\b≠i2/\b≠i3:=by simpa using nb
  exact hk b o nb'.1 nb'.2.2.1 nb'.2.2.2.1 nb'.2.2.2.2.1 nb'.2.2.2.2.2 e
 self:=λ_ _ _ _ _ st h=>wpAny_pyIter_zip st.1 h
section
variable {X:Cx} {es:Jh} {kt:Nat} {tp:Pos}
inductive iZip3_S (K:Fg) (R:(It->Hp->Prop)) (vs:Jn) (H1:Hp):Prop
 | mk (l1 l2 l3:_) (_:vs=[.ref l1,.ref l2,.ref l3]) (_:(∃ xs,SqL K H1 l1 xs)) (_:(∃ ys,SqL K H1 l2 ys)) (_:(∃ zs,SqL K H1 l3 zs)) (_:R (Itz3 K l1 l2 l3) H1)
def iZip3 (K:Fg) (ta:TA):TI:=λσ H R=>ta σ H λvs H1=>iZip3_S K R vs H1
theorem vals3 {x y z:V} {us:Jd} (r:Vals [x,y,z] us):∃ u v t,us=[u,v,t]/\RelV x u/\RelV y v/\RelV z t:=by
 cases r with
 | cons ru r =>
  cases r with
  | cons rv r =>
   cases r with
   | cons rt r=>cases r;exact ⟨_,_,_,rfl,ru,rv,rt⟩
def zex {n l1 l2 l3:Nat} (h1:l1<n) (h2:l2<n) (h3:l3<n):Apart3 (n+5) (n+3) (n+4) n (n+1) (n+2) l1 l2 l3 :=
 have lt:∀ {a b:Nat},a<b->n+a≠n+b:=λh=>Nat.ne_of_lt (Nat.add_lt_add_left h n);have gt:∀ {a b:Nat},b<a->n+a≠n+b:=λh=>Nat.ne_of_gt (Nat.add_lt_add_left h n);have l:∀ {a:Nat},a<n->∀ k,a≠n+k:=λh k=>Nat.ne_of_lt (q2z h (Nat.le_add_right _ _))
 ⟨lt (by decide),lt (by decide),lt (by decide),lt (a:=0) (by decide),lt (by decide),lt (by decide),gt (b:=0) (by decide),gt (by decide),gt (by decide),gt (b:=0) (by decide),gt (by decide),gt (by decide),lt (a:=0) (by decide),lt (a:=0) (by decide),lt (by decide),l h1 5,l h2 5,l h3 5,l h2 0,l h2 4,l h3 0,l h3 1,l h3 4⟩
def pi_zip3 {a b c:Expr} {ta:TA} {p pos:Pos} (hg:Gl X "zip") (hm:X.mg "zip"=none) (ha:PA X [a,b,c] ta) (hs:starEach [a,b,c] X.env=[(false,eval a X.env),(false,eval b X.env),(false,eval c X.env)]:=by rfl)
  (hs2:starEach [b,c] X.env=[(false,eval b X.env),(false,eval c X.env)]:=by rfl):PI X (.Tuple es kt tp) (.Call (.Name "zip" p) [a,b,c] [] pos) (iZip3 X.K ta):=by
 intro pins s σ H R I h;refine Call_ (Zc I hg hm boot_zip (PyProof.Rows.callWith_type1 (thn (ha pos pins s σ H _ I h) λus s1 ⟨vs,H1,I1,r1,q1⟩=>?_) (by rw [hs,hs2]) (by rw [hs2];rfl)));obtain ⟨l1,l2,l3,e,⟨xs,x1⟩,⟨ys,x2⟩,⟨zs,x3⟩,q⟩:=q1;subst e;obtain ⟨u,v,t,rfl,ru,rv,rt⟩:=vals3 r1;cases (show u=Value.ref l1 from ru);cases (show v=Value.ref l2 from rv);cases (show t=Value.ref l3 from rt);obtain ⟨is1,g1,p1,_⟩:=I1.list x1;obtain ⟨is2,g2,p2,_⟩:=I1.list x2;obtain ⟨is3,g3,p3,_⟩:=I1.list x3;have L1:l1<s1.heap.objs.size:=by obtain ⟨_,e,_⟩:=p1.isList;exact Heap.lt_size e
 have L2:l2<s1.heap.objs.size:=by obtain ⟨_,e,_⟩:=p2.isList;exact Heap.lt_size e
 have L3:l3<s1.heap.objs.size:=by obtain ⟨_,e,_⟩:=p3.isList;exact Heap.lt_size e
 refine call_z3 p1.isList p2.isList p3.isList λh' a1 a2 a3 a4 a5 a6 hk=>?_;refine wpAny_pyIter_zip (s:={ s1 with heap:=h' }) a1 ?_;have J:Inv X pins σ H1 { s1 with heap:=h' }:=I1.kept (t':=s1.toks) λb o e=>hk b o e;have fp:∀ n,Ze X pins H1 (s1.heap.objs.size+n):=λn=>I1.fpOk (Nat.le_add_right _ _) (I1.hok.fresh (Nat.le_add_right _ _));refine ⟨_,_,_,_,H1,rfl,J,turn_z3 (zex L1 L2 L3),⟨a1,a2,⟨_,_,_,a3⟩,a4,a5,a6⟩,λb hb=>?_,q⟩;simp at hb;rcases hb with rfl | rfl | rfl | rfl | rfl | rfl
 ·exact fp 5
 ·exact fp 3
 ·exact fp 4
 ·exact fp 0
 ·exact fp 1
 ·exact fp 2
end
def comp_zip3 {K:Fg} {l1 l2 l3 D:Ad} {xs ys zs:Jn} {g:TG} {te:TE} {σY:St} {H1:Hp} {Q:VK} (Pv:Nat->St->Hp->Prop) (h0:Pv 0 σY H1) (hl:∀ i σ H,i<=xs.length->Pv i σ H->SqL K H l1 xs/\SqL K H l2 ys/\SqL K H l3 zs) (he:ys.length=xs.length) (he3:zs.length=xs.length)
  (hs:∀ i x y z σ H T,xs[i]?=some x->ys[i]?=some y->zs[i]?=some z->Pv i σ H->H T=none->g (.ref T) σ (upd H T (.tup [x,y,z])) λσ3 H3=>te σ3 H3 λv H4=>∃ ws,H4 D=some (.lst ws)/\ws.length<sizeLine/\Pv (i+1) σ3 (upd H4 D (.lst (ws++[v])))) (hd:∀ σ H,Pv xs.length σ H->Q (.ref D) H) :
  CompW (Itz3 K l1 l2 l3) g te σY H1 D Q:=by
 refine ⟨λi m σ H=>m=xs.length-i/\i<=xs.length/\Pv i σ H,⟨xs.length,by simp,Nat.zero_le _,h0⟩,?_⟩;rintro i m σ H ⟨rfl,hi,p⟩;obtain ⟨q1,q2,q3⟩:=hl i σ H hi p;by_cases hlt:i<xs.length
 ·refine .inr ⟨⟨xs,ys,zs,xs[i],ys[i],zs[i],q1,q2,q3,by simp [hlt],by simp [he,hlt],by simp [he3,hlt]⟩,Pv (i+1),λσ' H' p'=>⟨xs.length-(i+1),by omega,rfl,hlt,p'⟩,λx H' y=>?_⟩
  obtain ⟨T,u,v,w,e,nT,e',y⟩:=y;subst e e';obtain ⟨y1,y2,y3⟩:=y xs ys zs q1 q2 q3;exact hs i u v w σ H T y1 y2 y3 p nT
 ·have e:i=xs.length:=by omega
  subst e;exact .inl ⟨⟨xs,q1,Nat.le_refl _⟩,hd σ H p⟩
end L2
namespace My
open PySem PySem.W PyProof.Rows
def and_half (x y:Int):Builtin.bitAnd x y / 2=Builtin.bitAnd (x / 2) (y / 2)/\Builtin.bitAnd x y % 2=(x % 2)*(y % 2):=by
 have h:=kbt_halves x y;rcases (by omega:x % 2=0∨x % 2=1) with a | a <;> rcases (by omega:y % 2=0∨y % 2=1) with b | b <;>
  (rw [a,b] at h ⊢;simp at h ⊢;omega)
def or_half (x y:Int):Builtin.bitOr x y / 2=Builtin.bitOr (x / 2) (y / 2)/\Builtin.bitOr x y % 2=max (x % 2) (y % 2):=by
 rw [bitOr_and,bitOr_and];have h:=kbt_halves x y;rcases (by omega:x % 2=0∨x % 2=1) with a | a <;> rcases (by omega:y % 2=0∨y % 2=1) with b | b <;>
  (rw [a,b] at h ⊢;simp at h;omega)
def xor_half (x y:Int):Builtin.bitXor x y / 2=Builtin.bitXor (x / 2) (y / 2)/\Builtin.bitXor x y % 2=(x % 2+y % 2) % 2:=by
 rw [bitXor_and,bitXor_and];have h:=kbt_halves x y;rcases (by omega:x % 2=0∨x % 2=1) with a | a <;> rcases (by omega:y % 2=0∨y % 2=1) with b | b <;>
  (rw [a,b] at h ⊢;simp at h;omega)
def In (n:Nat) (x:Int):Prop:=-(2 ^ n)<=x/\x<2 ^ n
def zcj {n:Nat} {x:Int}:In (n+1) x↔In n (x / 2):=by
 unfold In;rw [Int.pow_succ];constructor
 ·intro h;omega
 ·intro h;omega
def Yc {x:Int} (h:In 0 x):x=0∨x=-1:=by
 unfold In at h;omega
theorem and_in (n:Nat):∀ x y:Int,In n x->In n y->In n (Builtin.bitAnd x y):=by
 induction n with
 | zero =>
  intro x y hx hy;rcases Yc hx with a | a <;> rcases Yc hy with b | b <;> (subst a;subst b;unfold In;decide)
 | succ n ih=>intro x y hx hy;rw [zcj] at *;rw [(and_half x y).1];exact ih _ _ hx hy
theorem or_in (n:Nat):∀ x y:Int,In n x->In n y->In n (Builtin.bitOr x y):=by
 induction n with
 | zero =>
  intro x y hx hy;rcases Yc hx with a | a <;> rcases Yc hy with b | b <;> (subst a;subst b;unfold In;decide)
 | succ n ih=>intro x y hx hy;rw [zcj] at *;rw [(or_half x y).1];exact ih _ _ hx hy
theorem xor_in (n:Nat):∀ x y:Int,In n x->In n y->In n (Builtin.bitXor x y):=by
 induction n with
 | zero =>
  intro x y hx hy;rcases Yc hx with a | a <;> rcases Yc hy with b | b <;> (subst a;subst b;unfold In;decide)
 | succ n ih=>intro x y hx hy;rw [zcj] at *;rw [(xor_half x y).1];exact ih _ _ hx hy
def kept (n:Int):Int:=Int.fmod (n+9223372036854775808) 18446744073709551616-9223372036854775808
def Kin (x:Int):Prop:=-9223372036854775808<=x/\x<=9223372036854775807
structure Free (op:Int->Int->Int):Prop where
 cl:∀ a b,Kin a->Kin b->Kin (op a b)
 cm:∀ a b,Kin a->Kin b->op a b=op b a
 as:∀ a b c,Kin a->Kin b->Kin c->op (op a b) c=op a (op b c)
end My
namespace My
def pairs (op:Int->Int->Int) (ns:Jb) (j:Nat):Jb:=(List.range j).map λi=>op (ns.getD (2*i) 0) (ns.getD (2*i+1) 0)
end My
namespace L2
open PySem
def Zs {x:V} {A B:Prop} (h:A):if decide (x=x)=true then A else B:=by
 rw [decide_eq_true rfl];exact xG h
def xc {s t:Str} {A B:Prop} (n:s≠t) (h:B):if decide (V.str s=V.str t)=true then A else B:=by
 rw [decide_eq_false (λe=>n (by injection e))];exact yw h
end L2
namespace L2
open PySem PySem.Spec PyProof.Rows
def constV:Expr->Jo
 | .Constant (.str x) _ _=>some (.str x)
 | .Constant (.int i) _ _=>some (.int i)
 | _=>none
def XL:Jh->Option (Jn)
 | []=>some []
 | e::es=>match constV e with
  | some v=>(match XL es with
   | some vs=>some (v::vs)
   | none=>none)
  | none=>none
def tKs (vs:Jn):TA:=λ_ H Q=>Q vs H
theorem pa_ks {X:Cx}:∀ {es:Jh} {vs:Jn},XL es=some vs->PA X es (tKs vs)
 | [],vs,h=>by cases h;exact zd
 | e::es,vs,h=>by
  unfold XL at h
  split at h
  ·rename_i v hv
   split at h
   ·rename_i ws hw
    cases h;have ih:=pa_ks (X:=X) hw;unfold constV at hv
    split at hv
    ·cases hv;exact zb zK ih rfl
    ·cases hv;exact zb ze ih rfl
    ·cases hv
   ·cases h
  ·cases h
structure PB (X:Cx) (sts:List Stmt) (t:TS):Prop where
 h:PSs X sts t
structure PW1 (X:Cx) (st:Stmt) (t:TS):Prop where
 h:PS X st t
section
variable {X:Cx} {st:Stmt} {rest:List Stmt} {t u:TS}
def Zq (h1:PW1 X st t) (h2:PB X rest u):PB X (st::rest) (tSeq t u):=⟨zc h1.h h2.h⟩
def pb_one (h1:PW1 X st t):PB X [st] t:=⟨zg h1.h⟩
def pw_ks {i:Nat} {x:Str} {es:Jh} {vs:Jn} {p pos pos':Pos} (hN:X.N.Nodup) (hi:X.N[i]?=some x) (hx:Loc X.env.scope x) (h:XL es=some vs) (hf:X.fn x=true∨X.env.scope.names.lookup x=some .local:=by first | exact .inl rfl | exact .inr rfl | assumption) :
  PW1 X (.Assign [.Name x pos'] (.List es p) pos) (tAsg (tLst (tKs vs)) (Xr i)):=⟨zu hN hi hx (yJ (pa_ks h)) rfl hf⟩
end
section
variable {P:Program} {w:World} {K:Fg} {mg:J0} {base:Heap}
def Fun.okB {x qual:Str} {st:Stmt} {f:Ad} {fd:FuncData} {N ps:Jf} {k:Nat} {sp:Sp} (F:Fun K x qual st f fd) (S:FnScope N ps (zh st)) (len:∀ vs H Q E,sp vs H Q E->vs.length=ps.length)
  (hbody:∀ (cdv:Vl) (A:Around) (outer:List Env) (s:Sh) (H:Hp) (vs:Jn) (Q:VK) (E:XK),Room k (A.deeper (envOfC qual (zh st) s.heap.objs.size f cdv))->sp vs H Q E ->
   ∃ t,PB (yh CX0 P w K mg base N qual (zh st) f cdv A outer s H E).nox (yu st) t/\t { nx:=λ_ H'=>Q .non H',rt:=Q } (Yh N vs) H):FnOk P w K mg base CX0 (k+1) f fd ps sp :=
 F.ok S len λcdv A outer s H vs Q E hr h=>let ⟨t,q,z⟩:=hbody cdv A outer s H vs Q E hr h;⟨t,q.h,z⟩
end
inductive tCompE_S (g:TG) (te:TE) (σ0:St->Hp->St->Prop) (σ:St) (Q:VK) (x:V) (H1:Hp):Prop
 | mk (d kvs:_) (_:x=.ref d) (_:H1 d=some (.dK kvs)) (σY:_) (_:σ0 σ (but H1 [d]) σY) (_:∀ D,but H1 [d] D=none->D≠d->CompW (Itk kvs) g te σY (upd (but H1 [d]) D (.lst [])) D λv H'=>H' d=none->Q v (upd H' d (.dK kvs)))
def tCompE (td:TE) (g:TG) (te:TE) (σ0:St->Hp->St->Prop):TE:=λσ H Q=>td σ H λx H1=>tCompE_S g te σ0 σ Q x H1
section
variable {X:Cx} {tg:Expr}
def cw_eq {J:It} {g:TG} {te:TE} {σY:St} {H1:Hp} {D:Ad} {Q:VK}:CompWF J g za1 te σY H1 D Q=CompW J g te σY H1 D Q:=propext ⟨λ⟨W,a,b⟩=>⟨W,a,by simpa only [za1,reduceIte] using b⟩,λ⟨W,a,b⟩=>⟨W,a,by simpa only [za1,reduceIte] using b⟩⟩
def tCompE_eq {td:TE} {g:TG} {te:TE} {σ0:St->Hp->St->Prop}:zbu td g za1 te σ0=tCompE td g te σ0:=by
 unfold zbu tCompE;funext σ H Q;congr 1;funext x H1;exact propext ⟨λ⟨d,kvs,e1,e2,σY,h2,h3⟩=>⟨d,kvs,e1,e2,σY,h2,λD n m=>by rw [← cw_eq];exact h3 D n m⟩,λ⟨d,kvs,e1,e2,σY,h2,h3⟩=>⟨d,kvs,e1,e2,σY,h2,λD n m=>by rw [cw_eq];exact h3 D n m⟩⟩
def pe_compD {iter elt:Expr} {scope:Scope} {pos:Pos} {td:TE} {g:TG} {te:TE} (NY:Jf) (cap:List (Option Nat)) (hc:X.calm=true) (hk:Yo X scope=true) (hcap:YV X scope NY cap=true) (hi:PE X iter td)
  (hY:∀ (s3:Sh) (H3:Hp) (fp:Jg),PG (X.comp scope (Zf X.env scope) NY s3 H3 fp) tg g/\PE (X.comp scope (Zf X.env scope) NY s3 H3 fp) elt te)
  (hs:∀ x,foldedSetIterable iter X.env x=pure x:=by intro _;rfl):PE X (.ListComp elt [⟨tg,iter,[],0⟩] scope pos) (tCompE td g te λσ _ σY=>σY=capt cap σ):=by
 intro pins s σ H Q I h;rw [eval_ListComp]
 refine zao (NY:=NY) (use:=none) (tt:=za1) (σ0:=λσ _ σY=>σY=capt cap σ) hc (xQ I.ok hk) hi (λs3 H3 fp=>⟨(hY s3 H3 fp).1,.inl ⟨rfl,rfl⟩,(hY s3 H3 fp).2⟩) (λpins σ H s3 σY I3 e=>by
  subst e;exact ZP I3 (xQ I3.ok hk) hcap) hs I (by rw [tCompE_eq];exact h) λC D H5 s6 e q=>?_
 obtain ⟨m,hm⟩:=e.ns;exact ⟨m,hm,λh' hs'=>⟨.ref D,H5,e.inv h' hs',rfl,q⟩⟩
def comp_keys {kvs:Jl} {D:Ad} {g:TG} {te:TE} {σY:St} {H1:Hp} {Q:VK} (Pv:Nat->St->Hp->Prop) (h0:Pv 0 σY H1)
  (hs:∀ i p σ H,kvs[i]?=some p->Pv i σ H->g (kV p.1) σ H λσ3 H3=>te σ3 H3 λv H5=>∃ ys,H5 D=some (.lst ys)/\ys.length<sizeLine/\Pv (i+1) σ3 (upd H5 D (.lst (ys++[v])))) (hd:∀ σ H,Pv kvs.length σ H->Q (.ref D) H) :
  CompW (Itk kvs) g te σY H1 D Q:=by
 refine ⟨λi m σ H=>m=kvs.length-i/\i<=kvs.length/\Pv i σ H,⟨kvs.length,by simp,Nat.zero_le _,h0⟩,?_⟩;rintro i m σ H ⟨rfl,hi,p⟩;by_cases hlt:i<kvs.length
 ·refine .inr ⟨hlt,Pv (i+1),λσ' H' p'=>⟨kvs.length-(i+1),by omega,rfl,hlt,p'⟩,λx H' y=>?_⟩
  obtain ⟨e,q,hq,ex⟩:=y;subst e ex;exact hs i q σ _ hq p
 ·have e:i=kvs.length:=by omega
  subst e;exact .inl ⟨Nat.le_refl _,hd σ H p⟩
end
end L2
namespace L2
open PySem
def sl_listK {X:Cx} {K:Fg} (e:X.K=K):SlR X (rSlL K):=by subst e;exact Xv
def call_sumK {X:Cx} {K:Fg} (e:X.K=K) (hc:X.calm=true):xq X (.builtin "sum") (rSum K):=by subst e;exact zdv hc
namespace Hd
def over {B J J2:Hp} {L:Jm} (h:Hd B L J) (s:Same J J2):∃ B2,Same B B2/\Hd B2 L J2/\∀ a o,J2 a=some o->a ∉ L.map Prod.fst->B2 a=some o:=by
 classical
 refine ⟨λa=>if a∈L.map Prod.fst then none else J2 a,λa o e=>?_,⟨h.nd,λp q=>?_,λp q=>s _ _ (h.st p q),λa o e=>?_⟩,λa o e n=>?_⟩
 ·have na:a ∉ L.map Prod.fst:=λm=>by
   obtain ⟨p,hp,rfl⟩:=List.mem_map.mp m;rw [h.nw p hp] at e;cases e
  show (if _ then _ else _)=_;rw [if_neg na];exact s _ _ (h.sm _ _ e)
 ·show (if _ then _ else _)=_
  rw [if_pos (List.mem_map_of_mem q)]
 ·have e:(if a∈L.map Prod.fst then none else J2 a)=some o:=e
  split at e
  ·cases e
  ·exact e
 ·show (if _ then _ else _)=_
  rw [if_neg n];exact e
end Hd
end L2
namespace L2
open PySem PySem.Spec PyProof.Rows
section
variable {X:Cx}
theorem XN:∀ {xs:Jn} {us:Jd},xs.length=us.length->(∀ (i:Nat) x v,xs[i]?=some x->us[i]?=some v->RelV x v)->Vals xs us
 | [],[],_,_=>.nil
 | x::xs,u::us,hl,h=>.cons (h 0 x u rfl rfl) (XN (Nat.succ.inj hl) λi a b ea eb=>h (i+1) a b ea eb)
def keyI:Key->Int
 | .inl j=>j
 | .inr _=>0
def zbj (hc:X.calm=true):xq X (.builtin "min") (λxs H Q=>∃ (p:Ad) (kvs:Jl),xs=[.ref p]/\H p=some (.dK kvs)/\(∀ q∈kvs,∃ j,q.1=.inl j)/\0<kvs.length/\∀ m:Int,(.inl m:Key)∈kvs.map (·.1)->(∀ v:Int,(.inl v:Key)∈kvs.map (·.1)->m<=v)->Q (.int m) H):=by
 intro pins s σ H xs us Q I r h;obtain ⟨d,kvs,rfl,hd,ik,h0,q⟩:=h;obtain ⟨u,rfl,ru⟩:=Yu r;cases ru;obtain ⟨ob,es,ep,vs,rk,cc,eob,hS,hz,_⟩:=I.hideD hd;have lk:kvs.length=vs.length:=rk.length;have DA:∀ {h:Heap},h.get? d=some ob->Heap.DictAt (zD X.prog X.w) h d vs ep:=λ{h} q=>⟨ob,es,q,cc⟩;have hne:d≠s.heap.objs.size:=Nat.ne_of_lt (Heap.lt_size eob);have ek:∀ i k x,vs[i]?=some (k,x)->(kvs.map (·.1))[i]?=some k:=λi k x e=>by rw [rk.keys,List.getElem?_map,e];rfl
 have kin:∀ k:Key,k∈kvs.map (·.1)->∃ j,k=.inl j:=λk hk=>by
  obtain ⟨p,hp,rfl⟩:=List.mem_map.mp hk;exact ik p hp
 let val:Nat->Int:=λi=>keyI ((kvs.map (·.1)).getD i (.inl 0))
 have hval:∀ i v,(∃ k x,vs[i]?=some (k,x)/\(zD X.prog X.w).is k v=true)->∃ t,v=.int (val i) t:=λi v ⟨k,x,e,hk⟩=>by
  have e1:=ek i k x e;obtain ⟨j,rfl⟩:=kin k (List.mem_of_getElem? e1);obtain ⟨t,rfl⟩:=(show ∃ t,v=Value.int j t from kV_rel hk);refine ⟨t,?_⟩;show Value.int j t=Value.int (keyI ((kvs.map (·.1)).getD i (.inl 0))) t;rw [q1x,e1];rfl
 refine call_min_walk (wpAny_pyIter_dict hS (DA eob) ?_);refine ⟨s.heap.objs.size,_,_,_,_,_,_,rfl,Walks.dictKeys (knd:=zD X.prog X.w) (A:=X.A.in1) (I.ok.hd hc) s.heap.objs.size d hne vs ep,⟨⟨_,Heap.get?_push_size _ rfl,rfl,rfl⟩,DA (Heap.get?_push_of_some _ eob)⟩,λb hb=>?_,by omega,CmpOf.ints_lt val hval,λv h' tk hP hk=>?_⟩
 ·show b<(s.heap.push _).objs.size
  rw [Heap.size_push];have z:=Heap.lt_size eob;rcases List.mem_cons.mp hb with rfl | hb
  ·exact Nat.lt_succ_self _
  ·cases List.mem_singleton.mp hb;exact Nat.lt_succ_of_lt z
 ·have hk':∀ b o,s.heap.get? b=some o->h'.get? b=some o:=λb o e=>hk b o (λhb=>by
   have z:=Heap.lt_size e;cases List.mem_singleton.mp hb;exact Nat.lt_irrefl _ z) (Heap.get?_push_of_some _ e)
  obtain ⟨k,x,ev,hkk⟩:=hP;obtain ⟨t,rfl⟩:=hval _ _ ⟨k,x,ev,hkk⟩;have e1:=ek _ k x ev;obtain ⟨j,rfl⟩:=kin k (List.mem_of_getElem? e1)
  have ej:val (argBest (λi j=>decide (val i<val j)) (vs.length-1))=j:=by
   show keyI ((kvs.map (·.1)).getD _ (.inl 0))=j;rw [q1x,e1];rfl
  rw [ej];refine ⟨.int j,H,I.kept hk',⟨_,rfl⟩,q j (List.mem_of_getElem? e1) λv' hv'=>?_⟩;obtain ⟨i,hi,ei⟩:=List.getElem_of_mem hv';rw [Ji] at hi;have a3:=(argBest_lt val (vs.length-1)).2 i (by omega);rw [ej] at a3
  have:val i=v':=by
   show keyI ((kvs.map (·.1)).getD i (.inl 0))=v';rw [q1x,List.getElem?_eq_getElem (by rw [Ji];exact hi),ei];rfl
  omega
theorem zew (hc:X.calm=true):xq X (.type "list") (λxs H Q=>∃ (p:Ad) (kvs:Jl),xs=[.ref p]/\H p=some (.dK kvs)/\kvs.length<=sizeLine/\∀ D,H D=none->Q (.ref D) (upd H D (.lst (kvs.map λq=>kV q.1)))):=by
 intro pins s σ H xs us Q I r h;obtain ⟨d,kvs,rfl,hd,hl,q⟩:=h;obtain ⟨u,rfl,ru⟩:=Yu r;cases ru;obtain ⟨ob,es,ep,vs,rk,cc,eob,hS,hz,_⟩:=I.hideD hd;have lk:kvs.length=vs.length:=rk.length;have DA:Heap.DictAt (zD X.prog X.w) s.heap d vs ep:=⟨ob,es,eob,cc⟩;refine PySem.W.kdl_call (PySem.W.kdl_dict (knd:=zD X.prog X.w) (kvs:=vs) (ep:=ep) hS) (I.ok.hd hc) DA (by omega) λh' tk acc c' hk hD ha=>?_;refine ⟨.ref s.heap.objs.size,_,I.laid (t':=tk) hk (Nat.le_refl _) (show ObjOk X.prog X.w _ h' _ (.lst (kvs.map λq=>kV q.1)) from ⟨by rw [Ji];exact hl,acc.toList,c',?_,by simpa using hD⟩),rfl,q _ (I.hok.fresh (Nat.le_refl _))⟩;refine XN (by rw [Ji];exact lk.trans (ha.1.symm.trans Array.length_toList.symm)) λi x v hx hv=>?_;obtain ⟨k,y,e1,e2⟩:=ha.2 i v (by rw [← Array.getElem?_toList];exact hv);have e3:(kvs.map (·.1))[i]?=some k:=by rw [rk.keys,List.getElem?_map,e1];rfl
 rw [List.getElem?_map] at e3 hx
 cases e4:kvs[i]? with
 | none=>rw [e4] at hx;cases hx
 | some p =>
  rw [e4] at e3 hx;cases hx;have e3:p.1=k:=Option.some.inj e3;show RelV (kV p.1) v;rw [e3];exact kV_rel e2
end
end L2
namespace L2
open PySem PySem.Spec PyProof.Rows PyProof
section
variable {X:Cx}
end
end L2
namespace K36
open PySem L2
abbrev rq (a:Ad):Jo:=some (.ref a)
abbrev iq (n:Int):Jo:=some (.int n)
def top (i:Nat):Stmt:=PySem.Challenge.pw_rowbreadth_k36_first_faults.main.body.getD i (.Pass ⟨0,0,0,0⟩)
abbrev ZG:Stmt:=top 6
def zc0:FnScope ["lengths","row"] ["lengths","row"] (zh ZG):=scK
abbrev zb3:Stmt:=top 17
def sc_kept:FnScope ["number"] ["number"] (zh zb3):=scK
abbrev zb2:Stmt:=top 18
def sc_plus:FnScope ["left","right"] ["left","right"] (zh zb2):=scK
abbrev Xy:Stmt:=top 19
def sc_minus:FnScope ["left","right"] ["left","right"] (zh Xy):=scK
abbrev Xx:Stmt:=top 20
def sc_times:FnScope ["left","right"] ["left","right"] (zh Xx):=scK
abbrev y8:Stmt:=top 21
def Y1:FnScope ["right"] ["right"] (zh y8):=scK
abbrev ZH:Stmt:=top 22
def zc1:FnScope ["left","right"] ["left","right"] (zh ZH):=scK
abbrev Zh:Stmt:=top 23
def zbx:FnScope ["left","right"] ["left","right"] (zh Zh):=scK
abbrev Yw:Stmt:=top 24
def sc_lesser:FnScope ["left","right"] ["left","right"] (zh Yw):=scK
abbrev Z4:Stmt:=top 25
def zd7:FnScope ["left","right"] ["left","right"] (zh Z4):=scK
abbrev Z3:Stmt:=top 26
def zd6:FnScope ["left","right"] ["left","right"] (zh Z3):=scK
abbrev ZK:Stmt:=top 27
def zc3:FnScope ["left","right"] ["left","right"] (zh ZK):=scK
abbrev xo:Stmt:=top 28
def Xt:FnScope ["left","right"] ["left","right"] (zh xo):=scK
abbrev yR:Stmt:=top 29
def Yv:FnScope ["left","right"] ["left","right"] (zh yR):=scK
abbrev xz:Stmt:=top 30
def XW:FnScope ["left","right"] ["left","right"] (zh xz):=scK
abbrev zb4:Stmt:=top 36
def sc_done:FnScope ["sign","left","right"] ["sign","left","right"] (zh zb4):=scK
abbrev xT:Stmt:=top 44
def sc_play_reach:FnScope ["bench","step","active","lane","number"] ["bench","step"] (zh xT):=scK
abbrev Zi:Stmt:=top 45
def sc_play_trim:FnScope ["bench","step","faulted","lane"] ["bench","step"] (zh Zi):=scK
abbrev Zj:Stmt:=top 46
def sc_play_stop:FnScope ["bench","step"] ["bench","step"] (zh Zj):=scK
abbrev xR:Stmt:=top 51
def sc_play_store:FnScope ["bench","step","active","lane","number"] ["bench","step"] (zh xR):=scK
abbrev xV:Stmt:=top 60
def zav:FnScope ["word"] ["word"] (zh xV):=scK
abbrev xy:Stmt:=top 61
def XV:FnScope ["bench","step"] ["bench","step"] (zh xy):=scK
abbrev yP:Stmt:=top 65
def sc_numbers_loaded:FnScope ["bench","step","active","lane"] ["bench","step","active"] (zh yP):=scK
abbrev yF:Stmt:=top 69
def Yp:FnScope ["bench","row","place","lane"] ["bench","row","place","lane"] (zh yF):=scK
abbrev yy:Stmt:=top 70
def sc_numbers_gathered:FnScope ["bench","step","active","places","place","lane"] ["bench","step","active"] (zh yy):=scK
abbrev y9:Stmt:=top 71
def Y2:FnScope ["bench","sign","left","right","lane"] ["bench","sign","left","right","lane"] (zh y9):=scK
abbrev yQ:Stmt:=top 72
def sc_numbers_joined:FnScope ["bench","step","active","lefts","rights","left","right","lane"] ["bench","step","active"] (zh yQ):=scK
abbrev Zl:Stmt:=top 77
def zby:FnScope ["word"] ["word"] (zh Zl):=scK
abbrev yO:Stmt:=top 78
def sc_play_seat_step:FnScope ["bench","step","active"] ["bench","step"] (zh yO):=scK
abbrev xU:Stmt:=top 80
def zau:FnScope ["bench","step"] ["bench","step"] (zh xU):=scK
abbrev Zk:Stmt:=top 81
def sc_play_next:FnScope ["bench","step","base"] ["bench","step"] (zh Zk):=scK
abbrev xn:Stmt:=top 86
def Xs:FnScope ["bench","step"] ["bench","step"] (zh xn):=scK
abbrev s_ran:Stmt:=top 87
def sc_ran:FnScope ["code","lengths","cells","lanes","dust","picks","bench"] ["code","lengths","cells","lanes","dust","picks"] (zh s_ran):=scK
abbrev Zm:Stmt:=top 89
def zbz:FnScope ["_law_script","_law_k"] ["_law_script","_law_k"] (zh Zm):=scK
abbrev Yy:Stmt:=top 90
def sc_l_some:FnScope ["_law_script","_law_k","_law_salt","_law_many","_law_cell","_law_mixed"] ["_law_script","_law_k","_law_salt","_law_many"] (zh Yy):=scK
abbrev ZJ:Stmt:=top 91
def sc_l_number:FnScope ["_law_script","_law_k","_law_cell","_law_mixed"] ["_law_script","_law_k"] (zh ZJ):=scK
abbrev x8:Stmt:=top 92
def sc_l_alike:FnScope ["_law_found","_law_due","_law_one","_law_other"] ["_law_found","_law_due"] (zh x8):=scK
abbrev Z1:Stmt:=top 93
def zd4:FnScope ["_law_cell"] ["_law_cell"] (zh Z1):=scK
abbrev Z2:Stmt:=top 94
def zd5:FnScope ["_law_script","_law_k","_law_salt"] ["_law_script","_law_k","_law_salt"] (zh Z2):=scK
abbrev YB:Stmt:=top 95
def sc_l_dust:FnScope ["_law_script","_law_k","_law_salt","_law_j"] ["_law_script","_law_k","_law_salt"] (zh YB):=scK
abbrev XA:Stmt:=top 96
def sc_l_ran:FnScope ["_law_code","_law_lengths","_law_cells","_law_lanes_here","_law_dust_here","_law_picks","_law_handed","_law_found"] ["_law_code","_law_lengths","_law_cells","_law_lanes_here","_law_dust_here","_law_picks"] (zh XA):=scK
abbrev YA:Stmt:=top 97
def sc_l_kept:FnScope ["_law_number_here"] ["_law_number_here"] (zh YA):=scK
abbrev ZI:Stmt:=top 98
def zc2:FnScope ["_law_sign","_law_left","_law_right"] ["_law_sign","_law_left","_law_right"] (zh ZI):=scK
abbrev Yx:Stmt:=top 99
def sc_l_step:FnScope ["_law_script","_law_k","_law_seats","_law_row","_law_word","_law_p","_law_q","_law_r","_law_signs"] ["_law_script","_law_k","_law_seats","_law_row"] (zh Yx):=scK
abbrev Yz:Stmt:=top 100
def sc_l_lane:FnScope ["_law_step_here","_law_numbers","_law_place","_law_source","_law_start","_law_touches","_law_at","_law_left","_law_right"] ["_law_step_here","_law_numbers","_law_place","_law_source","_law_start","_law_touches"] (zh Yz):=scK
abbrev Z0:Stmt:=top 101
def sc_l_strip:FnScope ["_law_steps","_law_rows","_law_base","_law_width","_law_source","_law_start","_law_touches","_law_row","_law_lane_here","_law_faults","_law_k","_law_fault"] ["_law_steps","_law_rows","_law_base","_law_width","_law_source","_law_start","_law_touches"] (zh Z0):=scK
abbrev XY:Stmt:=top 102
def sc_law:FnScope ["_law_script","_law_many","_law_ones","_law_k","_law_others","_law_number_here","_law_source","_law_turn","_law_parts","_law_lengths","_law_part","_law_cells","_law_row","_law_start","_law_lanes_here","_law_group_here","_law_p","_law_q","_law_steps","_law_n","_law_code","_law_due","_law_touches","_law_refusal","_law_seats","_law_base","_law_width","_law_faults","_law_lane_here"] ["_law_script"] (zh XY):=scK
abbrev xX:Stmt:=yt (top 2) 0
def zaw:FnScope ["self","lanes"] ["self","lanes"] (zh xX):=scK
abbrev xa:Stmt:=yt (top 2) 1
def Y3:FnScope ["self","group","seat","lane"] ["self","group","seat","lane"] (zh xa):=scK
abbrev Zo:Stmt:=yt (top 2) 2
def zb1:FnScope ["self","group","seat","lane","number"] ["self","group","seat","lane","number"] (zh Zo):=scK
abbrev yG:Stmt:=yt (top 2) 3
def Yq:FnScope ["self","group","seat","lane"] ["self","group","seat","lane"] (zh yG):=scK
abbrev Zn:Stmt:=yt (top 4) 0
def zb0:FnScope ["self","numbers"] ["self","numbers"] (zh Zn):=scK
abbrev xW:Stmt:=yt (top 4) 1
def sc_Feed_taken:FnScope ["self","number"] ["self"] (zh xW):=scK
abbrev xY:Stmt:=yt (top 10) 0
def sc_Bench_init:FnScope ["self","lengths","cells","lanes","dust","picks","row","mask"] ["self","lengths","cells","lanes","dust","picks"] (zh xY):=scK
abbrev yA:Stmt:=yt (top 10) 1
def sc_Bench_open_round:FnScope ["self","many","group"] ["self","many","group"] (zh yA):=scK
abbrev yr:Stmt:=yt (top 10) 2
def sc_Bench_begin_strip:FnScope ["self","base"] ["self","base"] (zh yr):=scK
abbrev yj:Stmt:=yt (top 10) 3
def sc_Bench_active_under:FnScope ["self","mask","truths","lane"] ["self","mask"] (zh yj):=scK
abbrev yB:Stmt:=yt (top 10) 4
def sc_Bench_numbers_in:FnScope ["self","seat","active","lane"] ["self","seat","active"] (zh yB):=scK
abbrev yS:Stmt:=yt (top 10) 5
def sc_Bench_lay_seat:FnScope ["self","seat","active","numbers","told","lane","number"] ["self","seat","active","numbers"] (zh yS):=scK
abbrev yT:Stmt:=yt (top 10) 6
def sc_Bench_lay_mask:FnScope ["self","mask","chosen","truths","lane"] ["self","mask","chosen"] (zh yT):=scK
abbrev xA:Stmt:=yt (top 10) 7
def XX:FnScope ["self","kind","address"] ["self","kind","address"] (zh xA):=scK
abbrev yH:Stmt:=yt (top 10) 8
def sc_Bench_read_cell:FnScope ["self","row","place","address"] ["self","row","place"] (zh yH):=scK
abbrev yz:Stmt:=yt (top 10) 9
def sc_Bench_write_cell:FnScope ["self","row","place","number","address"] ["self","row","place","number"] (zh yz):=scK
section
variable {P:Program} {w:World} {K:Fg} {mg:J0} {base:Heap}
abbrev Kin (x:Int):Prop:=-9223372036854775808<=x/\x<=9223372036854775807
def kept (n:Int):Int:=(n+9223372036854775808) % (2*9223372036854775808)-9223372036854775808
def ok_kept {t:Tok} (d:zn K mg "kept" zb3 ["number"]) (hH:mg "HALF"=some (.int 9223372036854775808 t)):Ok P w K mg base (CXe P w base) 1 "kept" ["number"] (sp1 λn=>.int (kept n)):=by
 obtain ⟨f,fd,m,F,b⟩:=d;refine ⟨f,fd,m,F.kp,b,F.okE sc_kept len1 λcdv A outer s H vs Q E hr h=>?_⟩;obtain ⟨n,rfl,k⟩:=h;refine ⟨_,zg (zm (zk xJ (zk yK (zk zF (pv 0) (Z8 hH)) (zk yb ze (Z8 hH))) (Z8 hH))),?_⟩;exact ⟨_,rfl,_,_,rfl,rfl,_,_,rfl,rfl,.inl ⟨by decide,by decide⟩,_,_,rfl,rfl,(by show (0:Int)<2*9223372036854775808;decide),_,_,rfl,rfl,k⟩
abbrev GK (P:Program) (w:World) (K:Fg) (mg:J0) (base:Heap):Prop:=Ok P w K mg base (CXe P w base) 1 "kept" ["number"] (sp1 λn=>.int (kept n))
def ok_plus (d:zn K mg "plus" zb2 ["left","right"]) (G:GK P w K mg base):Ok P w K mg base (CXe P w base) 2 "plus" ["left","right"] (sp2 (λ_ _=>True) λa b=>kept (a+b)):=by
 obtain ⟨f,fd,m,F,b⟩:=d;refine ⟨f,fd,m,F.kp,b,F.okE sc_plus len2 λcdv A outer s H vs Q E hr h=>?_⟩;obtain ⟨x,y,rfl,_,k⟩:=h;refine ⟨_,zg (zm (zL G hr rfl X6 (zb (zk zF (pv 0) (pv 1)) zd))),?_⟩;exact ⟨_,rfl,_,rfl,_,_,rfl,rfl,_,rfl,k⟩
def ok_minus (d:zn K mg "minus" Xy ["left","right"]) (G:GK P w K mg base):Ok P w K mg base (CXe P w base) 2 "minus" ["left","right"] (sp2 (λ_ _=>True) λa b=>kept (a-b)):=by
 obtain ⟨f,fd,m,F,b⟩:=d;refine ⟨f,fd,m,F.kp,b,F.okE sc_minus len2 λcdv A outer s H vs Q E hr h=>?_⟩;obtain ⟨x,y,rfl,_,k⟩:=h;refine ⟨_,zg (zm (zL G hr rfl X6 (zb (zk xJ (pv 0) (pv 1)) zd))),?_⟩;exact ⟨_,rfl,_,rfl,_,_,rfl,rfl,_,rfl,k⟩
def ok_times (d:zn K mg "times" Xx ["left","right"]) (G:GK P w K mg base):Ok P w K mg base (CXe P w base) 2 "times" ["left","right"] (sp2 (λa _=>Kin a) λa b=>kept (a*b)):=by
 obtain ⟨f,fd,m,F,b⟩:=d;refine ⟨f,fd,m,F.kp,b,F.okE sc_times len2 λcdv A outer s H vs Q E hr h=>?_⟩;obtain ⟨x,y,rfl,c,k⟩:=h;refine ⟨_,zg (zm (zL G hr rfl X6 (zb (zk yb (pv 0) (pv 1)) zd))),?_⟩;exact ⟨_,rfl,_,rfl,_,_,rfl,rfl,.inl ⟨by omega,by omega⟩,_,rfl,k⟩
inductive spNo (CN:Ad) (vs:Jn) (H:Hp) (Q:VK) (E:XK):Prop
 | mk (b:_) (_:vs=[.int b]) (_:(b=0->E (.ref CN) none H)) (_:(b≠0->Q .non H))
def ok_refuse {CN:Ad} {bm:Jd} {B newId initId:String} (d:zn K mg "refuse_nought" y8 ["right"]) (O:PyProof.Rows.OwnCls "ByNought" CN bm newId mg base) (FB:ExcBaseFacts B newId initId bm) :
  Ok P w K mg base (CXe P w base) 1 "refuse_nought" ["right"] (spNo CN):=by
 obtain ⟨f,fd,m,F,b⟩:=d;refine ⟨f,fd,m,F.kp,b,F.okE Y1 (by rintro vs H Q E ⟨b,e,_⟩;rw [e];rfl) λcdv A outer s H vs Q E hr h=>?_⟩;obtain ⟨y,rfl,k0,k1⟩:=h;refine ⟨_,zg (zQ (zB yo (pv 0) ze (zG _)) (zg (ps_raise O FB rfl rfl throwE (zb zK zd))) zv),?_⟩;refine ⟨_,rfl,rfl,_,rfl,?_⟩;by_cases z:y=0
 ·rw [decide_eq_true (by rw [z])]
  exact xG ⟨by show 1<=sizeLine;decide,k0 z⟩
 ·rw [decide_eq_false (by intro q;cases q;exact z rfl)]
  exact yw (k1 z)
inductive spQ (CN:Ad) (g:Int->Int->Int) (vs:Jn) (H:Hp) (Q:VK) (E:XK):Prop
 | mk (a b:_) (_:vs=[.int a,.int b]) (_:Kin b) (_:(b=0->E (.ref CN) none H)) (_:(b≠0->Q (.int (g a b)) H))
def zdb {CN:Ad} (d:zn K mg "quotient" ZH ["left","right"]) (G:GK P w K mg base) (GN:Ok P w K mg base (CXe P w base) 1 "refuse_nought" ["right"] (spNo CN)) :
  Ok P w K mg base (CXe P w base) 2 "quotient" ["left","right"] (spQ CN λa b=>kept (a.fdiv b)):=by
 obtain ⟨f,fd,m,F,b⟩:=d;refine ⟨f,fd,m,F.kp,b,F.okE zc1 (by rintro vs H Q E ⟨a,b,e,_⟩;rw [e];rfl) λcdv A outer s H vs Q E hr h=>?_⟩;obtain ⟨x,y,rfl,hb,k0,k1⟩:=h;refine ⟨_,zc (yf (zL GN hr rfl X6 (zb (pv 1) zd))) (zg (zm (zL G hr rfl X6 (zb (zk ZB (pv 0) (pv 1)) zd)))),?_⟩;refine ⟨_,rfl,y,rfl,k0,λz=>?_⟩;exact ⟨_,rfl,_,rfl,_,_,rfl,rfl,⟨z,by omega,by omega⟩,_,rfl,k1 z⟩
def zcc {CN:Ad} (d:zn K mg "remainder" Zh ["left","right"]) (GN:Ok P w K mg base (CXe P w base) 1 "refuse_nought" ["right"] (spNo CN)) :
  Ok P w K mg base (CXe P w base) 2 "remainder" ["left","right"] (spQ CN λa b=>a.fmod b):=by
 obtain ⟨f,fd,m,F,b⟩:=d;refine ⟨f,fd,m,F.kp,b,F.okE zbx (by rintro vs H Q E ⟨a,b,e,_⟩;rw [e];rfl) λcdv A outer s H vs Q E hr h=>?_⟩;obtain ⟨x,y,rfl,hb,k0,k1⟩:=h;refine ⟨_,zc (yf (zL GN hr rfl X6 (zb (pv 1) zd))) (zg (zm (zk op_modN (pv 0) (pv 1)))),?_⟩;refine ⟨_,rfl,y,rfl,k0,λz=>?_⟩;exact ⟨_,rfl,_,rfl,_,_,rfl,rfl,z,k1 z⟩
def ok_lesser (d:zn K mg "lesser" Yw ["left","right"]) (hm:mg "min"=none):Ok P w K mg base (CXe P w base) 2 "lesser" ["left","right"] (sp2 (λ_ _=>True) λa b=>if b<a then b else a):=by
 obtain ⟨f,fd,m,F,b⟩:=d;refine ⟨f,fd,m,F.kp,b,F.okE sc_lesser len2 λcdv A outer s H vs Q E hr h=>?_⟩;obtain ⟨x,y,rfl,_,k⟩:=h;refine ⟨_,zg (zm (zw (ZE rfl) rfl hm PyProof.Rows.boot_min (zb (pv 0) (zb (pv 1) zd)))),?_⟩;exact ⟨_,rfl,_,rfl,_,_,rfl,k⟩
def zee (d:zn K mg "greater" Z4 ["left","right"]) (hm:mg "max"=none):Ok P w K mg base (CXe P w base) 2 "greater" ["left","right"] (sp2 (λ_ _=>True) λa b=>if b > a then b else a):=by
 obtain ⟨f,fd,m,F,b⟩:=d;refine ⟨f,fd,m,F.kp,b,F.okE zd7 len2 λcdv A outer s H vs Q E hr h=>?_⟩;obtain ⟨x,y,rfl,_,k⟩:=h;refine ⟨_,zg (zm (zw (zbk rfl) rfl hm PyProof.Rows.boot_max (zb (pv 0) (zb (pv 1) zd)))),?_⟩;exact ⟨_,rfl,_,rfl,_,_,rfl,k⟩
def zed (d:zn K mg "is_less" Z3 ["left","right"]):Ok P w K mg base (CXe P w base) 2 "is_less" ["left","right"] (sp2 (λ_ _=>True) λa b=>if a<b then 1 else 0):=by
 obtain ⟨f,fd,m,F,b⟩:=d;refine ⟨f,fd,m,F.kp,b,F.okE zd6 len2 λcdv A outer s H vs Q E hr h=>?_⟩;obtain ⟨x,y,rfl,_,k⟩:=h;refine ⟨_,zg (zm (zc9 (zB Yi (pv 0) (pv 1) (zG _)) ze ze)),?_⟩;refine ⟨_,rfl,_,rfl,_,_,rfl,rfl,_,rfl,?_⟩;dsimp only at k ⊢;by_cases z:x<y
 ·rw [if_pos z] at k;rw [decide_eq_true z];exact xG k
 ·rw [if_neg z] at k;rw [decide_eq_false z];exact yw k
def zdc (d:zn K mg "is_equal" ZK ["left","right"]):Ok P w K mg base (CXe P w base) 2 "is_equal" ["left","right"] (sp2 (λ_ _=>True) λa b=>if a=b then 1 else 0):=by
 obtain ⟨f,fd,m,F,b⟩:=d;refine ⟨f,fd,m,F.kp,b,F.okE zc3 len2 λcdv A outer s H vs Q E hr h=>?_⟩;obtain ⟨x,y,rfl,_,k⟩:=h;refine ⟨_,zg (zm (zc9 (zB yo (pv 0) (pv 1) (zG _)) ze ze)),?_⟩;refine ⟨_,rfl,_,rfl,rfl,_,rfl,?_⟩;dsimp only at k ⊢;by_cases z:x=y
 ·rw [if_pos z] at k;rw [decide_eq_true (by rw [z])];exact xG k
 ·rw [if_neg z] at k;rw [decide_eq_false (by intro q;cases q;exact z rfl)];exact yw k
def ok_both (d:zn K mg "bits_of_both" xo ["left","right"]):Ok P w K mg base (CXe P w base) 2 "bits_of_both" ["left","right"] (sp2 (λ_ _=>True) Builtin.bitAnd):=by
 obtain ⟨f,fd,m,F,b⟩:=d;refine ⟨f,fd,m,F.kp,b,F.okE Xt len2 λcdv A outer s H vs Q E hr h=>?_⟩;obtain ⟨x,y,rfl,_,k⟩:=h;exact ⟨_,zg (zm (zk op_and (pv 0) (pv 1))),_,rfl,_,rfl,_,_,rfl,rfl,k⟩
def ok_either (d:zn K mg "bits_of_either" yR ["left","right"]):Ok P w K mg base (CXe P w base) 2 "bits_of_either" ["left","right"] (sp2 (λ_ _=>True) Builtin.bitOr):=by
 obtain ⟨f,fd,m,F,b⟩:=d;refine ⟨f,fd,m,F.kp,b,F.okE Yv len2 λcdv A outer s H vs Q E hr h=>?_⟩;obtain ⟨x,y,rfl,_,k⟩:=h;exact ⟨_,zg (zm (zk op_or (pv 0) (pv 1))),_,rfl,_,rfl,_,_,rfl,rfl,k⟩
def ok_one (d:zn K mg "bits_of_one" xz ["left","right"]):Ok P w K mg base (CXe P w base) 2 "bits_of_one" ["left","right"] (sp2 (λ_ _=>True) Builtin.bitXor):=by
 obtain ⟨f,fd,m,F,b⟩:=d;refine ⟨f,fd,m,F.kp,b,F.okE XW len2 λcdv A outer s H vs Q E hr h=>?_⟩;obtain ⟨x,y,rfl,_,k⟩:=h;exact ⟨_,zg (zm (zk op_xor (pv 0) (pv 1))),_,rfl,_,rfl,_,_,rfl,rfl,k⟩
def yX:Jf:=["+","-","*","/","rest","least","most","<","=","&","|","^"]
def zV (sg:Str) (a b:Int):Option Int :=
 if sg="+" then some (kept (a+b)) else if sg="-" then some (kept (a-b)) else if sg="*" then some (kept (a*b))
 else if sg="/" then (if b=0 then none else some (kept (a.fdiv b))) else if sg="rest" then (if b=0 then none else some (a.fmod b))
 else if sg="least" then some (if b<a then b else a) else if sg="most" then some (if b > a then b else a)
 else if sg="<" then some (if a<b then 1 else 0) else if sg="=" then some (if a=b then 1 else 0)
 else if sg="&" then some (Builtin.bitAnd a b) else if sg="|" then some (Builtin.bitOr a b) else some (Builtin.bitXor a b)
inductive spDone (CN:Ad) (vs:Jn) (H:Hp) (Q:VK) (E:XK):Prop
 | mk (sg a b:_) (_:vs=[.str sg,.int a,.int b]) (_:sg∈yX) (_:Kin a) (_:Kin b) (_:(∀ r,zV sg a b=some r->Q (.int r) H)) (_:(zV sg a b=none->E (.ref CN) none H))
def zH (K:Fg) (mg:J0) (aS:Ad) (sg nm:Str):Prop:=∃ f,PySem.W.nsIn K aS sg=some (some (.ref f))/\mg nm=some (.ref f)
structure Signs (K:Fg) (mg:J0) (aS:Ad):Prop where
 s1:zH K mg aS "+" "plus"
 s2:zH K mg aS "-" "minus"
 s3:zH K mg aS "*" "times"
 s4:zH K mg aS "/" "quotient"
 s5:zH K mg aS "rest" "remainder"
 s6:zH K mg aS "least" "lesser"
 s7:zH K mg aS "most" "greater"
 s8:zH K mg aS "<" "is_less"
 s9:zH K mg aS "=" "is_equal"
 s10:zH K mg aS "&" "bits_of_both"
 s11:zH K mg aS "|" "bits_of_either"
 s12:zH K mg aS "^" "bits_of_one"
abbrev O2 (P:Program) (w:World) (K:Fg) (mg:J0) (base:Heap) (nm:Str) (sp:Sp):Prop:=Ok P w K mg base (CXe P w base) 2 nm ["left","right"] sp
structure Fns (P:Program) (w:World) (K:Fg) (mg:J0) (base:Heap) (CN:Ad):Prop where
 f1:O2 P w K mg base "plus" (sp2 (λ_ _=>True) λa b=>kept (a+b))
 f2:O2 P w K mg base "minus" (sp2 (λ_ _=>True) λa b=>kept (a-b))
 f3:O2 P w K mg base "times" (sp2 (λa _=>Kin a) λa b=>kept (a*b))
 f4:O2 P w K mg base "quotient" (spQ CN λa b=>kept (a.fdiv b))
 f5:O2 P w K mg base "remainder" (spQ CN λa b=>a.fmod b)
 f6:O2 P w K mg base "lesser" (sp2 (λ_ _=>True) λa b=>if b<a then b else a)
 f7:O2 P w K mg base "greater" (sp2 (λ_ _=>True) λa b=>if b > a then b else a)
 f8:O2 P w K mg base "is_less" (sp2 (λ_ _=>True) λa b=>if a<b then 1 else 0)
 f9:O2 P w K mg base "is_equal" (sp2 (λ_ _=>True) λa b=>if a=b then 1 else 0)
 f10:O2 P w K mg base "bits_of_both" (sp2 (λ_ _=>True) Builtin.bitAnd)
 f11:O2 P w K mg base "bits_of_either" (sp2 (λ_ _=>True) Builtin.bitOr)
 f12:O2 P w K mg base "bits_of_one" (sp2 (λ_ _=>True) Builtin.bitXor)
def ok_done {CN aS:Ad} (d:zn K mg "done" zb4 ["sign","left","right"]) (hS:mg "SIGNS"=some (.ref aS)) (T:xD w K aS) (S:Signs K mg aS) (f:Fns P w K mg base CN) :
  Ok P w K mg base (CXe P w base) 3 "done" ["sign","left","right"] (spDone CN):=by
 obtain ⟨g,fd,m,F,b⟩:=d;refine ⟨g,fd,m,F.kp,b,F.okE sc_done (by rintro vs H Q E ⟨_,_,_,e,_⟩;rw [e];rfl) λcdv A outer s H vs Q E hr h=>?_⟩;obtain ⟨sg,x,y,rfl,hs,hx,hy,k1,k2⟩:=h;refine ⟨_,zg (zm (YJ (CX:=CXe P w base) (k:=2) (zr zch (Z7 hS) (pv 0) (λ_ _=>rfl)) hr X6 (zb (pv 1) (zb (pv 2) zd)))),?_⟩
 have use:∀ (nm:Str) (sp:Sp),zH K mg aS sg nm->O2 P w K mg base nm sp->sp [.int x,.int y] H Q E ->
   ∃ (a:Ad) (k:Str) (u:Vl) (v:V),V.ref aS=.ref a/\V.str sg=.str k/\xD w K a/\PySem.W.nsIn K a k=some (some u)/\RelV v u /\
    ∃ (f:Ad) (fd:FuncData) (ps:Jf) (sp:Sp),v=.ref f/\FnOk P w K mg base (CXe P w base) 2 f fd ps sp/\PySem.W.keepIn K (.ref f)=true/\Binds K fd ps []/\sp [.int x,.int y] H Q E:=by
  intro nm sp ⟨f1,e1,m1⟩ ⟨f2,fd2,m2,kp,bb,ok⟩ q;have e:=m1.symm.trans m2;cases e;exact ⟨aS,sg,.ref f1,.ref f1,rfl,rfl,T,e1,rfl,f1,fd2,_,sp,rfl,ok,kp,bb,q⟩
 suffices h:∃ (nm:Str) (sp:Sp),zH K mg aS sg nm/\O2 P w K mg base nm sp/\sp [.int x,.int y] H Q E by
  obtain ⟨nm,sp,a1,a2,a3⟩:=h;obtain ⟨a,k,u,v,e1,e2,t,e3,r,f,fd,ps,sp',e4,ok,kp,bb,q⟩:=use nm sp a1 a2 a3;exact ⟨_,rfl,a,k,u,v,e1,e2,t,e3,r,f,fd,ps,sp',e4,ok,kp,bb,_,rfl,_,rfl,q⟩
 simp only [yX,List.mem_cons,List.not_mem_nil,or_false] at hs;rcases hs with rfl | rfl | rfl | rfl | rfl | rfl | rfl | rfl | rfl | rfl | rfl | rfl
 ·exact ⟨_,_,S.s1,f.f1,x,y,rfl,trivial,k1 _ rfl⟩
 ·exact ⟨_,_,S.s2,f.f2,x,y,rfl,trivial,k1 _ rfl⟩
 ·exact ⟨_,_,S.s3,f.f3,x,y,rfl,hx,k1 _ rfl⟩
 ·exact ⟨_,_,S.s4,f.f4,x,y,rfl,hy,λz=>k2 (by show (if y=0 then none else some _)=none;rw [if_pos z]),λz=>k1 _ (by show (if y=0 then none else some _)=some _;rw [if_neg z])⟩
 ·exact ⟨_,_,S.s5,f.f5,x,y,rfl,hy,λz=>k2 (by show (if y=0 then none else some _)=none;rw [if_pos z]),λz=>k1 _ (by show (if y=0 then none else some _)=some _;rw [if_neg z])⟩
 ·exact ⟨_,_,S.s6,f.f6,x,y,rfl,trivial,k1 _ rfl⟩
 ·exact ⟨_,_,S.s7,f.f7,x,y,rfl,trivial,k1 _ rfl⟩
 ·exact ⟨_,_,S.s8,f.f8,x,y,rfl,trivial,k1 _ rfl⟩
 ·exact ⟨_,_,S.s9,f.f9,x,y,rfl,trivial,k1 _ rfl⟩
 ·exact ⟨_,_,S.s10,f.f10,x,y,rfl,trivial,k1 _ rfl⟩
 ·exact ⟨_,_,S.s11,f.f11,x,y,rfl,trivial,k1 _ rfl⟩
 ·exact ⟨_,_,S.s12,f.f12,x,y,rfl,trivial,k1 _ rfl⟩
structure Ints (K:Fg) (mg:J0):Prop where
 isi:mg "isinstance"=none
 int:mg "int"=none
 bool:mg "bool"=none
 ii:PySem.W.kitOne K (.type "int") (.type "int")=some true
 ib:PySem.W.kitOne K (.type "int") (.type "bool")=some false
structure FCls (K:Fg) (C:Ad):Prop where
 c:Cls K C
 n1:NoAttr K C "numbers"
 n2:NoAttr K C "at"
abbrev Yl (C dx:Ad) (l:Ad) (p:Int):HO:=.ins C dx [("numbers",.ref l),("at",.int p)]
def fAt (ns:Jb) (q:Nat):Int:=if ns.length=0 then 0 else ((q % ns.length:Nat):Int)
def fVal (ns:Jb) (q:Nat):Int:=ns.getD (q % ns.length) 0
inductive spInitF (K:Fg) (C:Ad) (vs:Jn) (H:Hp) (Q:VK) (_:XK):Prop
 | mk (x dx a:Ad) (ns:Jb) (_:vs=[.ref x,.ref a]) (_:H x=some (.ins C dx [])) (_:SqL K H a (ns.map V.int)) (_:∀ (H':Hp) (l:Ad),(∀ b o,b≠x->H b=some o->H' b=some o)->H l=none->H' x=some (Yl C dx l 0)->H' l=some (.lst (ns.map V.int))->Q .non H')
def ok_initF {C:Ad} (d:Yt K C "Feed.__init__" Zn ["self","numbers"]) (b:FCls K C) (hlist:mg "list"=none):OkI P w K mg base CX0 1 C ["self","numbers"] (spInitF K C):=by
 obtain ⟨f,fd,m,F,bd⟩:=d;refine ⟨f,fd,m,bd,F.ok zb0 (by rintro vs H Q E ⟨_,_,_,_,e,_⟩;rw [e];rfl) λcdv A outer s H vs Q E hr h=>?_⟩;obtain ⟨x,dx,a,ns,rfl,hx,hS,k⟩:=h;refine ⟨_,(zc (zI (pv 0) (ya yc (by rfl) hlist PyProof.Rows.boot_list (zb (pv 1) zd)) rfl)
   (zg (zI (pv 0) ze rfl))),?_⟩
 dsimp only [yh,Cx.nox,Cx.wish];refine ⟨_,rfl,a,_,rfl,.inl hS,λl nl=>?_⟩;have nx:x≠l:=zp hx nl;refine ⟨_,rfl,x,C,dx,[],rfl,by rw [zj nx];exact hx,b.c,b.n1,by decide,?_⟩;refine ⟨_,rfl,x,C,dx,[("numbers",.ref l)],rfl,zf,b.c,b.n2,(by show 1<1000;decide),?_⟩;refine k _ l (λc o nc z=>?_) nl zf ?_
 ·rw [zj nc,zj nc,zj (zp z nl)]
  exact z
 ·rw [zj (Ne.symm nx),zj (Ne.symm nx),zf]
inductive spTaken (C:Ad) (vs:Jn) (H:Hp) (Q:VK) (_:XK):Prop
 | mk (x dx l:Ad) (ns:Jb) (q:Nat) (_:vs=[.ref x]) (_:H x=some (Yl C dx l (fAt ns q))) (_:H l=some (.lst (ns.map V.int))) (_:∀ H',(∀ b o,b≠x->H b=some o->H' b=some o)->H' x=some (Yl C dx l (fAt ns (q+1)))->Q (.int (fVal ns q)) H')
def ok_taken {C:Ad} (d:zZ K C "taken" "Feed.taken" xW ["self"]) (b:FCls K C) (hlen:mg "len"=none):OkM P w K mg base CX0 1 C "taken" ["self"] (spTaken C):=by
 obtain ⟨f,fd,m,F,bd⟩:=d;refine ⟨f,fd,m,bd,F.ok sc_Feed_taken (by rintro vs H Q E ⟨_,_,_,_,_,e,_⟩;rw [e];rfl) λcdv A outer s H vs Q E hr h=>?_⟩;obtain ⟨x,dx,l,ns,q,rfl,hx,hl,k⟩:=h;have nd:=sc_Feed_taken.nd;refine ⟨_,(zc (zQ (zB yo (zw zP (by rfl) hlen PySem.boot_len (zb (zq (pv 0) rfl) zd)) ze (zG _)) (zg (zm ze)) zv)
   (zc (zu (i:=1) nd rfl (Or.inl rfl) (zr zE (zq (pv 0) rfl) (zq (pv 0) rfl) (λ_ _=>rfl)))
   (zc (zI (pv 0) (zk yK (zk zF (zq (pv 0) rfl) ze) (zw zP (by rfl) hlen PySem.boot_len (zb (zq (pv 0) rfl) zd))) rfl)
   (zg (zm (pv 1)))))),?_⟩
 dsimp only [yh,Cx.nox,Cx.wish];show (let s1:L2.TS:=_;let s2:L2.TS:=L2.tSeq _ s1;let s3:L2.TS:=L2.tSeq _ s2;L2.tSeq _ s3 _ _ _);intro s1 s2 s3;refine ⟨_,rfl,x,C,dx,_,.ref l,rfl,hx,b.c,b.n1,rfl,l,_,rfl,.inl (SqL.of hl),rfl,_,rfl,?_⟩;rw [Ji];refine yU (λz=>?_) (λz=>?_)
 ·have z:(ns.length:Int)=0:=by simpa using z
  have e:ns=[]:=List.length_eq_zero_iff.mp (by omega);subst e;exact k H (λb o _ z=>z) hx
 ·have z:ns.length≠0:=by simpa using z
  have lt:q % ns.length<ns.length:=Nat.mod_lt _ (by omega);have e1:fAt ns q=((q % ns.length:Nat):Int):=if_neg z;have e2:fAt ns (q+1)=(((q+1) % ns.length:Nat):Int):=if_neg z;have nx:x≠l:=ne_of hx hl (by intro y;cases y);refine ⟨_,rfl,x,C,dx,_,.ref l,rfl,hx,b.c,b.n1,rfl,_,rfl,x,C,dx,_,.int (fAt ns q),rfl,hx,b.c,b.n2,rfl,l,_,_,_,rfl,rfl,SqL.of hl,xM (q % ns.length) lt e1,?_⟩;refine ⟨_,rfl,x,C,dx,_,.int (fAt ns q),rfl,hx,b.c,b.n2,rfl,_,_,rfl,rfl,_,rfl,x,C,dx,_,.ref l,rfl,hx,b.c,b.n1,rfl,l,_,rfl,.inl (SqL.of hl),_,_,rfl,rfl,(by rw [Ji];omega),?_⟩;refine ⟨_,rfl,x,C,dx,_,rfl,hx,b.c,b.n2,(by show 2<1000;decide),?_⟩;refine ⟨_,rfl,k _ (λc o nc z=>by rw [zj nc];exact z) ?_⟩
  have e3:(fAt ns q+1) % ((ns.map V.int).length:Int)=fAt ns (q+1):=by
   rw [e1,e2,Ji];have h1:(((q % ns.length:Nat):Int)+1)=((q % ns.length+1:Nat):Int):=by omega
   rw [h1,← Int.natCast_emod,Nat.mod_add_mod]
  rw [zf,← e3];rfl
structure BCls (K:Fg) (C:Ad):Prop where
 c:Cls K C
 n1:NoAttr K C "lanes"
 n2:NoAttr K C "numbers"
abbrev boxO (C dx:Ad) (L:Int) (l:Ad):HO:=.ins C dx [("lanes",.int L),("numbers",.ref l)]
inductive spInitB (C:Ad) (vs:Jn) (H:Hp) (Q:VK) (_:XK):Prop
 | mk (x dx:Ad) (L:Int) (_:vs=[.ref x,.int L]) (_:H x=some (.ins C dx [])) (_:1<=L) (_:L<=64) (_:∀ (H':Hp) (l:Ad),(∀ b o,b≠x->H b=some o->H' b=some o)->H l=none->H' x=some (boxO C dx L l)->H' l=some (.lst ((List.replicate (8*L).toNat (0:Int)).map V.int))->Q .non H')
def ok_initB {C:Ad} {t:Tok} (d:Yt K C "Boxes.__init__" xX ["self","lanes"]) (b:BCls K C) (hMB:mg "MANY_BOXES"=some (.int 8 t)):OkI P w K mg base CX0 1 C ["self","lanes"] (spInitB C):=by
 obtain ⟨f,fd,m,F,bd⟩:=d;refine ⟨f,fd,m,bd,F.ok zaw (by rintro vs H Q E ⟨_,_,_,e,_⟩;rw [e];rfl) λcdv A outer s H vs Q E hr h=>?_⟩;obtain ⟨x,dx,L,rfl,hx,h1,h2,k⟩:=h;refine ⟨_,zc (zI (pv 0) (pv 1) rfl) (zg (zI (pv 0) (zk op_rep (yJ (zb ze zd)) (zk yb (Z8 hMB) (pv 1))) rfl)),?_⟩;refine ⟨_,rfl,_,rfl,x,C,dx,[],rfl,hx,b.c,b.n1,by decide,?_⟩;refine ⟨(by show 1<=sizeLine;decide),λt nt=>⟨_,rfl,_,_,rfl,rfl,.inl ⟨by decide,by decide⟩,t,_,_,rfl,rfl,zf,by omega,by omega,?_,λl nl=>?_⟩⟩
 ·show 1*(8*L).toNat<=sizeLine
  have:(600:Nat)<=sizeLine:=by decide
  omega
 have nx:x≠t:=zp (o:=.ins C dx [("lanes",.int L)]) zf nt;have nl':x≠l:=zp (o:=.ins C dx [("lanes",.int L)]) (by rw [zj nx,zf];rfl) nl;refine ⟨_,rfl,x,C,dx,[("lanes",.int L)],rfl,?_,b.c,b.n2,(by show 1<1000;decide),?_⟩
 ·rw [zj nl',zj nx,zf];rfl
 rw [rep_ints];have lt:l≠t:=Ne.symm (zp (o:=.lst [.int 0]) zf nl)
 have hl:H l=none:=by
  have z:=nl;rw [zj lt,zj (Ne.symm nl')] at z;exact z
 have ht:H t=none:=by
  have z:=nt;rw [zj (Ne.symm nx)] at z;exact z
 refine k _ l (λc o nc z=>?_) hl zf ?_
 ·rw [zj nc,zj (zp z hl),zj (zp z ht),zj nc]
  exact z
 ·rw [zj (Ne.symm nl'),zf]
inductive spSpot (C:Ad) (vs:Jn) (H:Hp) (Q:VK) (_:XK):Prop
 | mk (x dx l:Ad) (L g p j:Int) (_:vs=[.ref x,.int g,.int p,.int j]) (_:H x=some (boxO C dx L l)) (_:1<=L) (_:L<=64) (_:1<=g) (_:g<=4) (_:Q (.int (p*g*L+j)) H)
def ok_spot {C:Ad} (d:zZ K C "spot_of" "Boxes.spot_of" xa ["self","group","seat","lane"]) (b:BCls K C):OkM P w K mg base CX0 1 C "spot_of" ["self","group","seat","lane"] (spSpot C):=by
 obtain ⟨f,fd,m,F,bd⟩:=d;refine ⟨f,fd,m,bd,F.ok Y3 (by rintro vs H Q E ⟨_,_,_,_,_,_,_,e,_⟩;rw [e];rfl) λcdv A outer s H vs Q E hr h=>?_⟩;obtain ⟨x,dx,l,L,g,p,j,rfl,hx,h1,h2,h3,h4,k⟩:=h;refine ⟨_,(zg (zm (zk zF (zk yb (zk yb (pv 2) (pv 1)) (zq (pv 0) rfl)) (pv 3)))),?_⟩;dsimp only [yh,Cx.nox,Cx.wish];exact ⟨_,rfl,_,rfl,_,_,rfl,rfl,.inr ⟨by omega,by omega⟩,_,rfl,x,C,dx,_,.int L,rfl,hx,b.c,b.n1,rfl,_,_,rfl,rfl,.inr ⟨by omega,by omega⟩,_,rfl,_,_,rfl,rfl,k⟩
inductive spLay (C:Ad) (vs:Jn) (H:Hp) (Q:VK) (_:XK):Prop
 | mk (x dx l:Ad) (L g p j n:Int) (nums:Jb) (_:vs=[.ref x,.int g,.int p,.int j,.int n]) (_:H x=some (boxO C dx L l)) (_:H l=some (.lst (nums.map V.int))) (_:1<=L) (_:L<=64) (_:1<=g) (_:g<=4) (_:0<=p*g*L+j) (_:p*g*L+j<nums.length) (_:Q .non (upd H l (.lst ((nums.set (p*g*L+j).toNat n).map V.int))))
def ok_lay {C:Ad} (d:zZ K C "lay" "Boxes.lay" Zo ["self","group","seat","lane","number"]) (b:BCls K C) (SO:OkM P w K mg base CX0 1 C "spot_of" ["self","group","seat","lane"] (spSpot C)):OkM P w K mg base CX0 2 C "lay" ["self","group","seat","lane","number"] (spLay C):=by
 obtain ⟨f,fd,m,F,bd⟩:=d;refine ⟨f,fd,m,bd,F.ok zb1 (by rintro vs H Q E ⟨_,_,_,_,_,_,_,_,_,e,_⟩;rw [e];rfl) λcdv A outer s H vs Q E hr h=>?_⟩;obtain ⟨x,dx,l,L,g,p,j,n,nums,rfl,hx,hl,h1,h2,h3,h4,h5,h6,k⟩:=h;have hr1:=hr;have cC:=b.c;refine ⟨_,(zg (Y6 (pv 4) (Y8 (zq (pv 0) rfl) (yg SO cC hr1 zt (pv 0) (zb (pv 1) (zb (pv 2) (zb (pv 3) zd)))) ZA))),?_⟩;dsimp only [yh,Cx.nox,Cx.wish];refine ⟨_,rfl,_,rfl,x,C,dx,_,.ref l,rfl,hx,b.c,b.n2,rfl,_,rfl,x,dx,_,rfl,hx,rfl,_,rfl,_,rfl,_,rfl,x,dx,l,L,g,p,j,rfl,hx,h1,h2,h3,h4,?_⟩;refine ⟨l,_,_,_,rfl,rfl,hl,ixN_nat h5 (by rw [Ji];exact h6),?_⟩;rw [zcx];exact k
inductive spNum (C:Ad) (vs:Jn) (H:Hp) (Q:VK) (_:XK):Prop
 | mk (x dx l:Ad) (L g p j:Int) (nums:Jb) (_:vs=[.ref x,.int g,.int p,.int j]) (_:H x=some (boxO C dx L l)) (_:H l=some (.lst (nums.map V.int))) (_:1<=L) (_:L<=64) (_:1<=g) (_:g<=4) (_:0<=p*g*L+j) (_:p*g*L+j<nums.length) (_:Q (.int (nums.getD (p*g*L+j).toNat 0)) H)
def ok_num {C:Ad} (d:zZ K C "number_at" "Boxes.number_at" yG ["self","group","seat","lane"]) (b:BCls K C) (SO:OkM P w K mg base CX0 1 C "spot_of" ["self","group","seat","lane"] (spSpot C)):OkM P w K mg base CX0 2 C "number_at" ["self","group","seat","lane"] (spNum C):=by
 obtain ⟨f,fd,m,F,bd⟩:=d;refine ⟨f,fd,m,bd,F.ok Yq (by rintro vs H Q E ⟨_,_,_,_,_,_,_,_,e,_⟩;rw [e];rfl) λcdv A outer s H vs Q E hr h=>?_⟩;obtain ⟨x,dx,l,L,g,p,j,nums,rfl,hx,hl,h1,h2,h3,h4,h5,h6,k⟩:=h;have hr1:=hr;have cC:=b.c;refine ⟨_,(zg (zm (zr zE (zq (pv 0) rfl) (yg SO cC hr1 zt (pv 0) (zb (pv 1) (zb (pv 2) (zb (pv 3) zd)))) (λ_ _=>rfl)))),?_⟩;dsimp only [yh,Cx.nox,Cx.wish];exact ⟨_,rfl,x,C,dx,_,.ref l,rfl,hx,b.c,b.n2,rfl,_,rfl,x,dx,_,rfl,hx,rfl,_,rfl,_,rfl,_,rfl,x,dx,l,L,g,p,j,rfl,hx,h1,h2,h3,h4,l,_,_,_,rfl,rfl,SqL.of hl,xM (p*g*L+j).toNat (by omega) (by omega),k⟩
end
end K36
namespace L2
open PySem
def YH {X:Cx} {K:Fg} {e:Expr} {f:Str} {pos:Pos} {ta:TE} (h:X.K=K) (he:PE X e ta) (hb:attributeBase e f X.env (eval e X.env)=eval e X.env):PE X (.Attribute e f pos) (tFld K ta f):=h ▸ zq he hb
end L2
namespace K36
open PySem L2
variable {P:Program} {w:World} {K:Fg} {mg:J0} {base:Heap}
structure MCs where
 bx:Ad
 fe:Ad
 bn:Ad
structure Mc where
 lens:Jb
 starts:Jb
 cells:Jb
 lq:Nat
 nums:Jb
 mq:List (List Bool)
 slots:Jl
 dust:Jb
 dq:Nat
 picks:Jb
 pq:Nat
 tq:List (Int×Str×Int)
 pc:Int
 oq:Int
 mn_:Int
 group:Int
 base:Int
 bq:Int
 wq:Int
 fq:Jl
 cut:Option Int
 cq:Option Int
 raised:Bool
 turns:List (Int×Int)
 rq_:Option (Int×Int×Str)
structure Ma where
 b:Ad
 db:Ad
 aL:Ad
 aS:Ad
 aC:Ad
 bx:Ad
 dbx:Ad
 aN:Ad
 aM:Ad
 aSl:Ad
 fd:Ad
 dfd:Ad
 aD:Ad
 fp:Ad
 dfp:Ad
 aP:Ad
 aT:Ad
 aF:Ad
 aU:Ad
 ms:Jg
 ts:Jg
 us:Jg
 rf:V
def oV:Option Int->V
 | none=>.non
 | some n=>.int n
def xi (A:Ma) (M:Mc):List (Str×V):=[("lengths",.ref A.aL),("starts",.ref A.aS),("cells",.ref A.aC),("lanes",.int M.lq),("boxes",.ref A.bx),("masks",.ref A.aM),("slots",.ref A.aSl),("dust",.ref A.fd),("picks",.ref A.fp),("touches",.ref A.aT),("at",.int M.pc),("opened",.int M.oq),("many",.int M.mn_),("group",.int M.group),("base",.int M.base),("begun",.int M.bq),("width",.int M.wq),("faults",.ref A.aF),("cut",oV M.cut),("carried",oV M.cq),("raised",.bl M.raised),("turns",.ref A.aU),("refusal",A.rf)]
def ZC (A:Ma) (M:Mc):Jm:=(A.ms.zip M.mq).map λp=>(p.1,.lst (p.2.map V.bl))
def objs (c:MCs) (A:Ma) (M:Mc) (R:Jm):Jm :=
 (A.b,.ins c.bn A.db (xi A M))::(A.aC,.lst (M.cells.map V.int))::(A.aN,.lst (M.nums.map V.int))::(A.aSl,.dK M.slots)::(A.fd,Yl c.fe A.dfd A.aD (fAt M.dust M.dq))::(A.fp,Yl c.fe A.dfp A.aP (fAt M.picks M.pq))::(A.aT,.lst (A.ts.map V.ref))::(A.aF,.dK M.fq)::(A.aU,.lst (A.us.map V.ref))::(ZC A M++R)
structure BenchB (c:MCs) (B:Hp) (A:Ma) (M:Mc):Prop where
 lens:B A.aL=some (.lst (M.lens.map V.int))
 starts:B A.aS=some (.lst (M.starts.map V.int))
 bx:B A.bx=some (boxO c.bx A.dbx M.lq A.aN)
 msk:B A.aM=some (.lst (A.ms.map V.ref))
 ml:A.ms.length=M.mq.length
 dl:B A.aD=some (.lst (M.dust.map V.int))
 pl:B A.aP=some (.lst (M.picks.map V.int))
 tl:A.ts.length=M.tq.length
 tt:∀ (i:Nat) (t:Ad) (p:Int×Str×Int),A.ts[i]?=some t->M.tq[i]?=some p->B t=some (.tup [.int p.1,.str p.2.1,.int p.2.2])
 ul:A.us.length=M.turns.length
 uu:∀ (i:Nat) (t:Ad) (p:Int×Int),A.us[i]?=some t->M.turns[i]?=some p->B t=some (.tup [.int p.1,.int p.2])
 rf:match M.rq_ with
  | none=>A.rf=.non
  | some r=>∃ t,A.rf=.ref t/\B t=some (.tup [.int r.1,.int r.2.1,.str r.2.2])
theorem BenchB.same {c:MCs} {B B':Hp} {A:Ma} {M:Mc} (h:BenchB c B A M) (s:Same B B'):BenchB c B' A M:=by
 refine ⟨s _ _ h.lens,s _ _ h.starts,s _ _ h.bx,s _ _ h.msk,h.ml,s _ _ h.dl,s _ _ h.pl,h.tl,λi t p a b=>s _ _ (h.tt i t p a b),h.ul,λi t p a b=>s _ _ (h.uu i t p a b),?_⟩;have:=h.rf;revert this
 cases M.rq_ with
 | none=>exact λz=>z
 | some r=>exact λ⟨t,a,b⟩=>⟨t,a,s _ _ b⟩
structure NCls (K:Fg) (C:Ad):Prop where
 c:Cls K C
 lengths:NoAttr K C "lengths"
 starts:NoAttr K C "starts"
 cells:NoAttr K C "cells"
 lq:NoAttr K C "lanes"
 boxes:NoAttr K C "boxes"
 mq:NoAttr K C "masks"
 slots:NoAttr K C "slots"
 dust:NoAttr K C "dust"
 picks:NoAttr K C "picks"
 tq:NoAttr K C "touches"
 pc:NoAttr K C "at"
 oq:NoAttr K C "opened"
 mn_:NoAttr K C "many"
 group:NoAttr K C "group"
 base:NoAttr K C "base"
 bq:NoAttr K C "begun"
 wq:NoAttr K C "width"
 fq:NoAttr K C "faults"
 cut:NoAttr K C "cut"
 cq:NoAttr K C "carried"
 raised:NoAttr K C "raised"
 turns:NoAttr K C "turns"
 rq_:NoAttr K C "refusal"
structure MCls (K:Fg) (c:MCs):Prop where
 b:BCls K c.bx
 f:FCls K c.fe
 n:NCls K c.bn
structure MAt (c:MCs) (B:Hp) (A:Ma) (M:Mc) (R:Jm) (H:Hp):Prop where
 bb:BenchB c B A M
 h:Hd B (objs c A M R) H
def MAt.b {c:MCs} {B:Hp} {A:Ma} {M:Mc} {R:Jm} {H:Hp} (m:MAt c B A M R H):H A.b=some (.ins c.bn A.db (xi A M)):=m.h.get 0 rfl
def MAt.grow {c:MCs} {B:Hp} {A:Ma} {M:Mc} {R:Jm} {H:Hp} {t:Ad} {o:HO} (m:MAt c B A M R H) (n:H t=none):MAt c (upd B t o) A M R (upd H t o):=by
 have sB:Same B (upd B t o):=zi (Same.refl _) (m.h.free n);refine ⟨m.bb.same sB,m.h.nd,λp q=>?_,λp q=>?_,λb u z=>?_⟩
 ·rw [zj (zp (m.h.st p q) n)];exact m.h.nw p q
 ·rw [zj (zp (m.h.st p q) n)];exact m.h.st p q
 ·by_cases e:b=t
  ·subst e;rw [zf] at z ⊢;exact z
  ·rw [zj e] at z ⊢;exact m.h.sm _ _ z
def Mc.touched (M:Mc) (kind:Str) (a:Int):Mc:={ M with tq:=M.tq++[(M.pc,kind,a)] }
inductive spTouch (c:MCs) (vs:Jn) (H:Hp) (Q:VK) (_:XK):Prop
 | mk (B:Hp) (A:Ma) (M:Mc) (R:Jm) (kind:Str) (a:Int) (_:vs=[.ref A.b,.str kind,.int a]) (_:MAt c B A M R H) (_:M.tq.length<100000) (_:∀ B' A' H',Same B B'->A'.b=A.b->MAt c B' A' (M.touched kind a) R H'->Q .non H')
theorem ok_touch {c:MCs} (d:zZ K c.bn "touch" "Bench.touch" xA ["self","kind","address"]) (CN:NCls K c.bn):OkM P w K mg base CX0 1 c.bn "touch" ["self","kind","address"] (spTouch c):=by
 obtain ⟨f,fd,m,F,bd⟩:=d;refine ⟨f,fd,m,bd,F.ok XX (by rintro vs H Q E ⟨_,_,_,_,_,_,e,_⟩;rw [e];rfl) λcdv A outer s H vs Q E hr h=>?_⟩;obtain ⟨B,A,M,R,kind,a,rfl,m,hl,k⟩:=h;refine ⟨_,(zg (yf (pe_bm PySem.F.plainAttrs_list PySem.F.slot_list_append PySem.F.type_list_append xv (zq (pv 0) rfl) (zb (yn (zb (zq (pv 0) rfl) (zb (pv 1) (zb (pv 2) zd)))) zd)))),?_⟩;dsimp only [yh,Cx.nox,Cx.wish];refine ⟨_,rfl,A.b,_,_,_,.ref A.aT,rfl,m.b,CN.c,CN.tq,rfl,.inl ⟨rfl,_,m.h.lst 6 rfl⟩,_,rfl,A.b,_,_,_,.int M.pc,rfl,m.b,CN.c,CN.pc,rfl,_,rfl,_,rfl,(by show 3<=sizeLine;decide),λt nt=>?_⟩;have sB:Same B (upd B t (.tup [.int M.pc,.str kind,.int a])):=zi (Same.refl _) (m.h.free nt);have m1:=m.grow (o:=.tup [.int M.pc,.str kind,.int a]) nt;have e1:upd B t (.tup [.int M.pc,.str kind,.int a]) t=some (.tup [.int M.pc,.str kind,.int a]):=zf;generalize upd B t (.tup [.int M.pc,.str kind,.int a])=B1 at sB m1 e1;have tl:=m.bb.tl;refine ⟨A.aT,_,_,rfl,rfl,m1.h.get 6 rfl,(by rw [Ji];exact Nat.lt_of_le_of_lt (show A.ts.length<=100000 by omega) (by decide)),?_⟩;have h2:=m1.h.put (o':=.lst ((A.ts++[t]).map V.ref)) 6 rfl;rw [Jk] at h2;refine k B1 { A with ts:=A.ts++[t] } _ sB rfl ⟨⟨m1.bb.lens,m1.bb.starts,m1.bb.bx,m1.bb.msk,m1.bb.ml,m1.bb.dl,m1.bb.pl,?_,λi t' p a1 a2=>?_,m1.bb.ul,m1.bb.uu,m1.bb.rf⟩,?_⟩
 ·show (A.ts++[t]).length=(M.tq++[_]).length
  rw [Jj,Jj,tl];rfl
 ·have a1:(A.ts++[t])[i]?=some t':=a1
  have a2:(M.tq++[(M.pc,kind,a)])[i]?=some p:=a2;by_cases z:i<A.ts.length
  ·rw [q4x z] at a1
   rw [q4x (by omega)] at a2;exact m1.bb.tt i t' p a1 a2
  ·rw [List.getElem?_append_right (by omega)] at a1 a2
   rw [tl] at a1
   cases e:i-M.tq.length with
   | zero=>rw [e] at a1 a2;cases a1;cases a2;exact e1
   | succ j=>rw [e] at a1;cases a1
 ·show Hd B1 (objs c { A with ts:=A.ts++[t] } (M.touched kind a) R) _
  have e:(A.ts++[t]).map V.ref=A.ts.map V.ref++[V.ref t]:=by rw [Jk];rfl
  unfold objs;rw [e];exact h2
section
variable {c:MCs} {B:Hp} {A:Ma} {M:Mc} {R:Jm} {H J:Hp} {a:Ad} {o o':HO}
def MAt.adopt (m:MAt c B A M R H) (h:Hd H [(a,o)] J):MAt c (upd B a o) A M R J:=by
 have na:H a=none:=h.nw _ (List.mem_singleton.mpr rfl);have nb:B a=none:=m.h.free na;have sB:Same B (upd B a o):=zi (Same.refl _) nb;refine ⟨m.bb.same sB,m.h.nd,λp q=>?_,λp q=>h.sm _ _ (m.h.st p q),λb u z=>?_⟩
 ·rw [zj (zp (m.h.st p q) na)];exact m.h.nw p q
 ·by_cases e:b=a
  ·subst e;rw [zf] at z;cases z;exact h.get 0 rfl
  ·rw [zj e] at z;exact h.sm _ _ (m.h.sm _ _ z)
def MAt.newR (m:MAt c B A M R H) (n:H a=none):MAt c B A M ((a,o)::R) (upd H a o):=by
 refine ⟨m.bb,(m.h.new (o:=o) n).perm ?_⟩;unfold objs;rw [← List.cons_append,← List.cons_append,← List.cons_append,← List.cons_append,← List.cons_append,← List.cons_append,← List.cons_append,← List.cons_append,← List.cons_append];rw [← List.cons_append,← List.cons_append,← List.cons_append,← List.cons_append,← List.cons_append,← List.cons_append,← List.cons_append,← List.cons_append,← List.cons_append];exact (List.perm_middle (a:=(a,o)) (l₁:=_::_::_::_::_::_::_::_::_::ZC A M) (l₂:=R)).symm
def atR:(objs c A M ((a,o)::R))[9+(ZC A M).length]?=some (a,o):=by
 unfold objs;rw [show 9+(ZC A M).length=(ZC A M).length+1+1+1+1+1+1+1+1+1 by omega];simp only [List.getElem?_cons_succ];rw [List.getElem?_append_right (Nat.le_refl _),Nat.sub_self];rfl
def setR:(objs c A M ((a,o)::R)).set (9+(ZC A M).length) (a,o')=objs c A M ((a,o')::R):=by
 unfold objs;rw [show 9+(ZC A M).length=(ZC A M).length+1+1+1+1+1+1+1+1+1 by omega];simp only [List.set_cons_succ];rw [List.set_append_right _ _ (Nat.le_refl _),Nat.sub_self];rfl
def MAt.getR (m:MAt c B A M ((a,o)::R) H):H a=some o:=m.h.get _ atR
def MAt.putR (m:MAt c B A M ((a,o)::R) H):MAt c B A M ((a,o')::R) (upd H a o'):=by
 have h:=m.h.put (o':=o') _ atR;rw [setR] at h;exact ⟨m.bb,h⟩
def MAt.settle (m:MAt c B A M ((a,o)::R) H):MAt c (upd B a o) A M R H:=by
 have nb:B a=none:=m.h.nw (a,o) (List.mem_of_getElem? atR);have sB:Same B (upd B a o):=zi (Same.refl _) nb
 have sub:List.Sublist (objs c A M R) (objs c A M ((a,o)::R)):=by
  unfold objs;exact .cons₂ _ (.cons₂ _ (.cons₂ _ (.cons₂ _ (.cons₂ _ (.cons₂ _ (.cons₂ _ (.cons₂ _ (.cons₂ _ (List.Sublist.append (List.Sublist.refl _) (List.sublist_cons_self _ _))))))))))
 have h:=m.h.sub sub;refine ⟨m.bb.same sB,h.nd,λp q=>?_,h.st,λb u z=>?_⟩
 ·rw [zj ?_]
  ·exact h.nw p q
  ·intro e
   have nd:=m.h.nd;have p1:p∈objs c A M ((a,o)::R):=sub.subset q
   have:((a,o)::objs c A M R).Perm (objs c A M ((a,o)::R)):=by
    unfold objs;exact (List.perm_middle (a:=(a,o)) (l₁:=_::_::_::_::_::_::_::_::_::ZC A M) (l₂:=R)).symm
   have nd2:=(this.map Prod.fst).symm.nodup nd;exact (List.nodup_cons.mp nd2).1 (by have:=List.mem_map_of_mem (f:=Prod.fst) q;rw [e] at this;exact this)
 ·by_cases e:b=a
  ·subst e;rw [zf] at z;cases z;exact m.getR
  ·rw [zj e] at z;exact m.h.sm _ _ z
def MAt.mask (m:MAt c B A M R H) {k:Nat} (hk:k<M.mq.length):∃ x,A.ms[k]?=some x/\H x=some (.lst ((M.mq.getD k []).map V.bl)):=by
 have ml:=m.bb.ml;refine ⟨A.ms[k],by rw [List.getElem?_eq_getElem (by omega)],?_⟩;refine m.h.get (9+k) ?_;unfold objs;rw [show 9+k=k+1+1+1+1+1+1+1+1+1 by omega];simp only [List.getElem?_cons_succ];have lm:(ZC A M).length=A.ms.length:=by unfold ZC;rw [Ji,List.length_zip];omega
 rw [q4x (by omega)];unfold ZC;have e:(A.ms.zip M.mq)[k]?=some (A.ms[k],M.mq[k]):=by rw [List.getElem?_zip_eq_some];exact ⟨by rw [List.getElem?_eq_getElem (by omega)],by rw [List.getElem?_eq_getElem hk]⟩
 rw [List.getElem?_map,e];show some _=some _;rw [q1x,List.getElem?_eq_getElem hk];rfl
end
def Mc.adr (M:Mc) (row:Nat) (place:Int):Int:=M.starts.getD row 0+place
inductive spRead (c:MCs) (vs:Jn) (H:Hp) (Q:VK) (_:XK):Prop
 | mk (B:Hp) (A:Ma) (M:Mc) (R:Jm) (row:Nat) (place:Int) (_:vs=[.ref A.b,.int row,.int place]) (_:MAt c B A M R H) (_:M.tq.length<100000) (_:row<M.starts.length) (_:0<=M.adr row place) (_:(M.adr row place).toNat<M.cells.length) (_:∀ B' A' H',Same B B'->A'.b=A.b->MAt c B' A' (M.touched "read" (M.adr row place)) R H'->Q (.int (M.cells.getD (M.adr row place).toNat 0)) H')
def ok_read {c:MCs} (d:zZ K c.bn "read_cell" "Bench.read_cell" yH ["self","row","place"]) (CN:NCls K c.bn) (TO:OkM P w K mg base CX0 1 c.bn "touch" ["self","kind","address"] (spTouch c)):OkM P w K mg base CX0 2 c.bn "read_cell" ["self","row","place"] (spRead c):=by
 obtain ⟨f,fd,m,F,bd⟩:=d;refine ⟨f,fd,m,bd,F.ok sc_Bench_read_cell (by rintro vs H Q E ⟨_,_,_,_,_,_,e,_⟩;rw [e];rfl) λcdv A outer s H vs Q E hr h=>?_⟩;obtain ⟨B,A,M,R,row,place,rfl,m,hl,h0,h1,h2,k⟩:=h;have nd:=sc_Bench_read_cell.nd;have hr1:=hr;refine ⟨_,(zc (zu (i:=3) nd rfl (Or.inl rfl) (zk zF (zr zE (zq (pv 0) rfl) (pv 1) (λ_ _=>rfl)) (pv 2)))
   (zc (yf (yg TO CN.c hr1 zt (pv 0) (zb zK (zb (pv 3) zd))))
   (zg (zm (zr zE (zq (pv 0) rfl) (pv 3) (λ_ _=>rfl)))))),?_⟩
 dsimp only [yh,Cx.nox,Cx.wish];refine ⟨_,rfl,A.b,_,_,_,.ref A.aS,rfl,m.b,CN.c,CN.starts,rfl,_,rfl,A.aS,_,_,_,rfl,rfl,SqL.of (m.h.sm _ _ m.bb.starts),xM row h0 rfl,_,rfl,_,_,rfl,rfl,?_⟩;refine ⟨_,rfl,A.b,_,_,rfl,m.b,rfl,_,rfl,B,A,M,R,"read",M.adr row place,rfl,m,hl,λB1 A1 H1 s1 eb m1=>?_⟩;refine ⟨_,rfl,A1.b,_,_,_,.ref A1.aC,by rw [eb],m1.b,CN.c,CN.cells,rfl,_,rfl,A1.aC,_,_,_,rfl,rfl,m1.h.lst 1 rfl,xM (M.adr row place).toNat h2 (show M.adr row place=_ by omega),?_⟩;exact k B1 A1 H1 s1 eb m1
def Mc.wrote (M:Mc) (row:Nat) (place n:Int):Mc:={ M.touched "write" (M.adr row place) with cells:=M.cells.set (M.adr row place).toNat n }
inductive spWrite (c:MCs) (vs:Jn) (H:Hp) (Q:VK) (_:XK):Prop
 | mk (B:Hp) (A:Ma) (M:Mc) (R:Jm) (row:Nat) (place n:Int) (_:vs=[.ref A.b,.int row,.int place,.int n]) (_:MAt c B A M R H) (_:M.tq.length<100000) (_:row<M.starts.length) (_:0<=M.adr row place) (_:(M.adr row place).toNat<M.cells.length) (_:∀ B' A' H',Same B B'->A'.b=A.b->MAt c B' A' (M.wrote row place n) R H'->Q .non H')
def ok_write {c:MCs} (d:zZ K c.bn "write_cell" "Bench.write_cell" yz ["self","row","place","number"]) (CN:NCls K c.bn) (TO:OkM P w K mg base CX0 1 c.bn "touch" ["self","kind","address"] (spTouch c)):OkM P w K mg base CX0 2 c.bn "write_cell" ["self","row","place","number"] (spWrite c):=by
 obtain ⟨f,fd,m,F,bd⟩:=d;refine ⟨f,fd,m,bd,F.ok sc_Bench_write_cell (by rintro vs H Q E ⟨_,_,_,_,_,_,_,e,_⟩;rw [e];rfl) λcdv A outer s H vs Q E hr h=>?_⟩;obtain ⟨B,A,M,R,row,place,n,rfl,m,hl,h0,h1,h2,k⟩:=h;have nd:=sc_Bench_write_cell.nd;have hr1:=hr;refine ⟨_,(zc (zu (i:=4) nd rfl (Or.inl rfl) (zk zF (zr zE (zq (pv 0) rfl) (pv 1) (λ_ _=>rfl)) (pv 2)))
   (zc (yf (yg TO CN.c hr1 zt (pv 0) (zb zK (zb (pv 4) zd))))
   (zg (Y6 (pv 3) (Y8 (zq (pv 0) rfl) (pv 4) ZA))))),?_⟩
 dsimp only [yh,Cx.nox,Cx.wish];refine ⟨_,rfl,A.b,_,_,_,.ref A.aS,rfl,m.b,CN.c,CN.starts,rfl,_,rfl,A.aS,_,_,_,rfl,rfl,SqL.of (m.h.sm _ _ m.bb.starts),xM row h0 rfl,_,rfl,_,_,rfl,rfl,?_⟩;refine ⟨_,rfl,A.b,_,_,rfl,m.b,rfl,_,rfl,B,A,M,R,"write",M.adr row place,rfl,m,hl,λB1 A1 H1 s1 eb m1=>?_⟩;refine ⟨_,rfl,_,rfl,A1.b,_,_,_,.ref A1.aC,by rw [eb],m1.b,CN.c,CN.cells,rfl,_,rfl,A1.aC,_,_,(M.adr row place).toNat,rfl,rfl,m1.h.get 1 rfl,?_,?_⟩
 ·show ixN (M.cells.map V.int).length (M.adr row place)=_
  unfold ixN;rw [if_pos h1,if_pos (by rw [Ji];omega)]
 ·have h:=m1.h.put (o':=.lst ((M.cells.set (M.adr row place).toNat n).map V.int)) 1 rfl
  rw [List.map_set] at h;refine k B1 A1 _ s1 eb ⟨⟨m1.bb.lens,m1.bb.starts,m1.bb.bx,m1.bb.msk,m1.bb.ml,m1.bb.dl,m1.bb.pl,m1.bb.tl,m1.bb.tt,m1.bb.ul,m1.bb.uu,m1.bb.rf⟩,?_⟩;show Hd B1 (objs c A1 (M.wrote row place n) R) _;unfold objs;rw [show ((M.wrote row place n).cells.map V.int)=(M.cells.map V.int).set (M.adr row place).toNat (.int n) from List.map_set ..];exact h
def at_bl {bs:List Bool} {j:Int} (i:Nat) (h:i<bs.length) (e:j=i):atI (bs.map V.bl) j=some (.bl (bs.getD i false)):=by
 subst e;refine zJ ?_;rw [List.getElem?_map,List.getElem?_eq_getElem h,q1x,List.getElem?_eq_getElem h];rfl
def Mc.isAct (M:Mc) (k j:Nat):Bool:=(M.mq.getD k []).getD j false && !(zN M.fq (.inl (j:Int))).isSome
def Mc.actTo (M:Mc) (k n:Nat):Jb:=((List.range n).filter (M.isAct k)).map λj:Nat=>(j:Int)
def Mc.act (M:Mc) (k:Nat):Jb:=M.actTo k M.wq.toNat
def Mc.actTo_succ (M:Mc) (k n:Nat):M.actTo k (n+1)=M.actTo k n++if M.isAct k n then [(n:Int)] else []:=by
 unfold Mc.actTo;rw [List.range_succ,List.filter_append,Jk];congr 1;by_cases z:M.isAct k n=true
 ·rw [List.filter_cons_of_pos z,if_pos z];rfl
 ·rw [List.filter_cons_of_neg z,if_neg z];rfl
def Mc.actTo_len (M:Mc) (k n:Nat):(M.actTo k n).length<=n:=by
 unfold Mc.actTo;rw [Ji];have:=List.length_filter_le (M.isAct k) (List.range n);rw [List.length_range] at this;exact this
def Mc.act_mem {M:Mc} {k:Nat} {j:Int} (h:j∈M.act k):0<=j/\j.toNat<M.wq.toNat/\M.isAct k j.toNat=true:=by
 obtain ⟨i,hi,rfl⟩:=List.mem_map.mp h;obtain ⟨a,b⟩:=List.mem_filter.mp hi;have:=List.mem_range.mp a;exact ⟨by omega,by omega,b⟩
inductive spAct (c:MCs) (vs:Jn) (H:Hp) (Q:VK) (_:XK):Prop
 | mk (B:Hp) (A:Ma) (M:Mc) (R:Jm) (k:Nat) (_:vs=[.ref A.b,.int k]) (_:MAt c B A M R H) (_:k<M.mq.length) (_:0<=M.wq) (_:M.wq.toNat<=(M.mq.getD k []).length) (_:M.wq.toNat<=1000) (_:∀ B' H' l,Same B B'->MAt c B' A M R H'->B' l=some (.lst ((M.act k).map V.int))->Q (.ref l) H')
def ok_act {c:MCs} (d:zZ K c.bn "active_under" "Bench.active_under" yj ["self","mask"]) (hrg:mg "range"=none) (CN:NCls K c.bn):OkM P w K mg base CX0 1 c.bn "active_under" ["self","mask"] (spAct c):=by
 obtain ⟨f,fd,m,F,bd⟩:=d;refine ⟨f,fd,m,bd,F.ok sc_Bench_active_under (by rintro vs H Q E ⟨_,_,_,_,_,e,_⟩;rw [e];rfl) λcdv A outer s H vs Q E hr h=>?_⟩;obtain ⟨B,A,M,R,k,rfl,m,hk,w0,w1,w2,q⟩:=h;have nd:=sc_Bench_active_under.nd;have hu:=Nat.lt_of_le_of_lt (Nat.add_le_add_left (show 1<=64 by decide) _) hr.units;obtain ⟨x,ex,hx⟩:=m.mask hk;have SL:(3000:Nat)<sizeLine:=by decide
 refine ⟨_,(zc (zu (i:=2) nd rfl (Or.inr rfl) (zr zE (zq (pv 0) rfl) (pv 1) (λ_ _=>rfl)))
   (zg (zm (pe_compF ["lane","truths","self"] [none,some 2,some 0] rfl rfl rfl (zU rfl hrg (zb (zq (pv 0) rfl) zd)) (λs3 H3 fp=>⟨zC (i:=0) (Jp ["lane","truths","self"]) rfl (Or.inl rfl),(PW.pt (X1 (Zu (zr (YQ (K:=K) rfl) (pv 1) (pv 0) (λ_ _=>rfl))) (YD (pt_cmp (za3 hu (pv 0) (YH (K:=K) rfl (pv 2) rfl)) rfl)))),(pv 0)⟩))))),?_⟩
 dsimp only [yh,Cx.nox,Cx.wish];refine ⟨_,rfl,A.b,_,_,_,.ref A.aM,rfl,m.b,CN.c,CN.mq,rfl,_,rfl,A.aM,_,_,.ref x,rfl,rfl,SqL.of (m.h.sm _ _ m.bb.msk),zJ (by rw [List.getElem?_map,ex];rfl),?_⟩;refine ⟨_,rfl,A.b,_,_,_,.int M.wq,rfl,m.b,CN.c,CN.wq,rfl,_,rfl,(by show -(2 ^ 62)<=M.wq;omega),(by show M.wq<2 ^ 62;omega),_,rfl,λD nD=>?_⟩;have h0:Hd H [(D,.lst ((M.actTo k 0).map V.int))] (upd H D (.lst [])):=Hd.base.new nD;generalize upd H D (.lst [])=H1 at h0 ⊢;refine zds (n:=M.wq.toNat) (λi σ J=>∃ u,σ=[u,rq x,rq A.b]/\Hd H [(D,.lst ((M.actTo k i).map V.int))] J) ⟨none,rfl,h0⟩ ?_ ?_
 ·clear h0
  rintro i σ J hi ⟨u,rfl,h⟩;have la:=M.actTo_len k i;rw [M.actTo_succ k i];have fin:M.isAct k i=false->∃ u,[some (V.int (0+(i:Int))),some (.ref x),some (.ref A.b)]=[u,rq x,rq A.b]/\Hd H [(D,.lst ((M.actTo k i++if M.isAct k i=true then [(i:Int)] else []).map V.int))] J:=λe=>⟨_,rfl,by rw [e,if_neg (by decide),q3y];exact h⟩;refine ⟨_,rfl,_,rfl,x,_,_,_,rfl,rfl,SqL.of (h.sm _ _ hx),at_bl i (by omega) (by omega),_,rfl,?_⟩;refine yU (λz1=>?_) (λz1=>yw (fin (by unfold Mc.isAct;rw [Bool.eq_false_iff.mpr z1,Bool.false_and])));refine ⟨_,rfl,_,rfl,A.b,_,_,_,.ref A.aF,rfl,h.sm _ _ m.b,CN.c,CN.fq,rfl,A.aF,_,rfl,DGet.k (k:=.inl (0+(i:Int))) (h.sm _ _ (m.h.get 7 rfl)),_,rfl,?_⟩;rw [Int.zero_add] at *;refine yU (λz2=>?_) (λz2=>fin (by unfold Mc.isAct;rw [z1,Bool.eq_false_iff.mpr z2];rfl));refine ⟨_,rfl,_,h.get 0 rfl,(by rw [Ji];omega),_,rfl,?_⟩;have e:M.isAct k i=true:=by unfold Mc.isAct;rw [z1,z2];rfl
  rw [e,if_pos rfl,Jk];exact h.put 0 rfl
 ·rintro σ J ⟨u,rfl,h⟩
  exact q _ J D (zi (Same.refl _) (m.h.free (h.nw _ (List.mem_singleton.mpr rfl)))) (m.adopt h) zf
def Mc.nq (M:Mc) (p:Nat) (j:Int):Int:=M.nums.getD ((p:Int)*M.group*M.lq+j).toNat 0
structure MOk (M:Mc):Prop where
 l1:1<=M.lq
 l64:M.lq<=64
 g:M.group=1∨M.group=2∨M.group=4
 nl:M.nums.length=8*M.lq
 ml:M.mq.length=16
 mm:∀ m∈M.mq,m.length=4*M.lq
 w0:0<=M.wq
 w1:M.wq<=M.group*M.lq
inductive spNums (c:MCs) (K:Fg) (vs:Jn) (H:Hp) (Q:VK) (_:XK):Prop
 | mk (B:Hp) (A:Ma) (M:Mc) (R:Jm) (p:Nat) (aa:Ad) (js:Jb) (_:vs=[.ref A.b,.int p,.ref aa]) (_:MAt c B A M R H) (_:MOk M) (_:((p:Int)+1)*M.group<=8) (_:B aa=some (.lst (js.map V.int))) (_:(∀ j∈js,0<=j/\j<M.group*M.lq)) (_:js.length<=1000) (_:∀ B' H' l,Same B B'->MAt c B' A M R H'->B' l=some (.lst ((js.map (M.nq p)).map V.int))->Q (.ref l) H')
def zbw {g L p j:Int} (hg:g=1∨g=2∨g=4) (h1:1<=L) (hp:0<=p) (h8:(p+1)*g<=8) (j0:0<=j) (j1:j<g*L):0<=p*g*L+j/\p*g*L+j<8*L:=by
 have e:(p+1)*g*L<=8*L:=Int.mul_le_mul_of_nonneg_right h8 (by omega);have e2:(p+1)*g*L=p*g*L+g*L:=by rw [Int.add_mul,Int.add_mul,Int.one_mul]
 have e3:0<=p*g*L:=Int.mul_nonneg (Int.mul_nonneg hp (by omega)) (by omega);omega
def ok_nums {c:MCs} (d:zZ K c.bn "numbers_in" "Bench.numbers_in" yB ["self","seat","active"]) (CC:MCls K c) (NA:OkM P w K mg base CX0 2 c.bx "number_at" ["self","group","seat","lane"] (spNum c.bx)):OkM P w K mg base CX0 3 c.bn "numbers_in" ["self","seat","active"] (spNums c K):=by
 obtain ⟨f,fd,m,F,bd⟩:=d;refine ⟨f,fd,m,bd,F.ok sc_Bench_numbers_in (by rintro vs H Q E ⟨_,_,_,_,_,_,_,e,_⟩;rw [e];rfl) λcdv A outer s H vs Q E hr h=>?_⟩;obtain ⟨B,A,M,R,p,aa,js,rfl,m,ok,h8,ea,hj,hl,q⟩:=h;have nd:=sc_Bench_numbers_in.nd;have hr2:=hr;have CN:=CC.n;have SL:(3000:Nat)<sizeLine:=by decide
 have l1:=ok.l1;have l64:=ok.l64;have hg:=ok.g;refine ⟨_,(zg (zm (yk ["lane","seat","self"] [none,some 1,some 0] rfl rfl rfl (Z6 (pv 2)) (λs3 H3 fp=>⟨zC (i:=0) (Jp ["lane","seat","self"]) rfl (Or.inl rfl),(yg NA CC.b.c hr2 zt (YH (K:=K) rfl (pv 2) rfl) (zb (YH (K:=K) rfl (pv 2) rfl) (zb (pv 1) (zb (pv 0) zd))))⟩)))),?_⟩;dsimp only [yh,Cx.nox,Cx.wish];refine ⟨_,rfl,aa,rfl,⟨_,SqL.of (m.h.sm _ _ ea)⟩,_,rfl,λD nD=>?_⟩;have h0:Hd H [(D,.lst (((js.take 0).map (M.nq p)).map V.int))] (upd H D (.lst [])):=Hd.base.new nD;generalize upd H D (.lst [])=H1 at h0 ⊢;refine ZD (K:=K) (a:=aa) (D:=D) (xs:=js.map V.int) (λi σ J=>∃ u,σ=[u,iq p,rq A.b]/\Hd H [(D,.lst (((js.take i).map (M.nq p)).map V.int))] J) ⟨none,rfl,h0⟩ (λi σ J _ ⟨_,_,h⟩=>SqL.of (h.sm _ _ (m.h.sm _ _ ea))) ?_ ?_
 ·clear h0
  rintro i y σ J hy ⟨u,rfl,h⟩;obtain ⟨hlt,rfl⟩:=Yr hy;have mj:=L2.getD_mem hlt;have e9:js[i]?=some (js.getD i 0):=by rw [q1x,List.getElem?_eq_getElem hlt];rfl
  generalize js.getD i 0=j at mj e9;obtain ⟨j0,j1⟩:=hj j mj;obtain ⟨s0,s1⟩:=zbw hg (show (1:Int)<=M.lq by omega) (show (0:Int)<=p by omega) h8 j0 j1;refine ⟨_,rfl,A.b,_,_,_,.ref A.bx,rfl,h.sm _ _ m.b,CN.c,CN.boxes,rfl,A.bx,_,_,rfl,h.sm _ _ (m.h.sm _ _ m.bb.bx),rfl,_,rfl,A.b,_,_,_,.int M.group,rfl,h.sm _ _ m.b,CN.c,CN.group,rfl,_,rfl,_,rfl,A.bx,A.dbx,A.aN,M.lq,M.group,p,j,M.nums,rfl,h.sm _ _ (m.h.sm _ _ m.bb.bx),h.sm _ _ (m.h.get 2 rfl),by omega,by omega,by omega,by omega,s0,by rw [ok.nl];omega,?_⟩;refine ⟨_,h.get 0 rfl,(by rw [Ji,Ji,List.length_take];omega),_,rfl,?_⟩;have h3:=h.put (o':=.lst (((js.take (i+1)).map (M.nq p)).map V.int)) 0 rfl
  have e:(((js.take (i+1)).map (M.nq p)).map V.int)=(((js.take i).map (M.nq p)).map V.int)++[V.int (M.nq p j)]:=by
   rw [List.take_add_one,e9,Jk,Jk];rfl
  rw [e] at h3 ⊢;exact h3
 ·rintro σ J ⟨u,rfl,h⟩
  rw [Ji,List.take_length] at h;exact q _ J D (zi (Same.refl _) (m.h.free (h.nw _ (List.mem_singleton.mpr rfl)))) (m.adopt h) zf
section
variable {c:MCs} {B:Hp} {A:Ma} {M:Mc} {R:Jm} {H H':Hp}
def mskO_len (m:MAt c B A M R H):(ZC A M).length=A.ms.length:=by
 unfold ZC;rw [Ji,List.length_zip,m.bb.ml];omega
theorem MAt.putMask (m:MAt c B A M R H) {k:Nat} {x:Ad} (ex:A.ms[k]?=some x) (hk:k<M.mq.length) (b:List Bool):MAt c B A { M with mq:=M.mq.set k b } R (upd H x (.lst (b.map V.bl))):=by
 have lm:=mskO_len m;have ml:=m.bb.ml;have lk:k<A.ms.length:=(List.getElem?_eq_some_iff.mp ex).1;have e0:(A.ms.zip M.mq)[k]?=some (x,M.mq[k]):=by rw [List.getElem?_zip_eq_some];exact ⟨ex,by rw [List.getElem?_eq_getElem hk]⟩
 have e:(objs c A M R)[9+k]?=some (x,.lst ((M.mq[k]).map V.bl)):=by
  unfold objs;rw [show 9+k=k+1+1+1+1+1+1+1+1+1 by omega];simp only [List.getElem?_cons_succ];rw [q4x (by omega)];unfold ZC;rw [List.getElem?_map,e0];rfl
 have h:=m.h.put (o':=.lst (b.map V.bl)) _ e;refine ⟨⟨m.bb.lens,m.bb.starts,m.bb.bx,m.bb.msk,by show A.ms.length=(M.mq.set k b).length;rw [List.length_set,ml],m.bb.dl,m.bb.pl,m.bb.tl,m.bb.tt,m.bb.ul,m.bb.uu,m.bb.rf⟩,?_⟩
 have es:(objs c A M R).set (9+k) (x,.lst (b.map V.bl))=objs c A { M with mq:=M.mq.set k b } R:=by
  unfold objs;rw [show 9+k=k+1+1+1+1+1+1+1+1+1 by omega];simp only [List.set_cons_succ];rw [List.set_append_left _ _ (by omega)]
  have:(ZC A M).set k (x,.lst (b.map V.bl))=ZC A { M with mq:=M.mq.set k b }:=by
   unfold ZC;show ((A.ms.zip M.mq).map _).set k _=(A.ms.zip (M.mq.set k b)).map _
   have ez:A.ms.zip (M.mq.set k b)=(A.ms.zip M.mq).set k (x,b):=by
    apply List.ext_getElem?;intro j;rw [List.getElem?_set]
    split
    ·rename_i e
     subst e;rw [if_pos (by rw [List.length_zip];omega),List.getElem?_zip_eq_some];exact ⟨ex,by rw [q3z hk]⟩
    ·rename_i ne
     cases hz:(A.ms.zip M.mq)[j]? with
     | none =>
      rw [List.getElem?_eq_none_iff] at hz ⊢;rw [List.length_zip] at hz ⊢;rw [List.length_set];exact hz
     | some q =>
      rw [List.getElem?_zip_eq_some] at hz ⊢;exact ⟨hz.1,by rw [List.getElem?_set_ne ne];exact hz.2⟩
   rw [ez,List.map_set]
  rw [this];rfl
 rw [es] at h;exact h
def MAt.mask' (m:MAt c B A M R H) {k:Nat} {x:Ad} (ex:A.ms[k]?=some x) (hk:k<M.mq.length):H x=some (.lst ((M.mq.getD k []).map V.bl)):=by
 obtain ⟨y,ey,hy⟩:=m.mask hk;rw [ex] at ey;cases ey;exact hy
def MAt.took (m:MAt c B A M R H) (k:∀ b o,b≠A.fd->H b=some o->H' b=some o) (e:H' A.fd=some (Yl c.fe A.dfd A.aD (fAt M.dust (M.dq+1)))):MAt c B A { M with dq:=M.dq+1 } R H' :=
 ⟨⟨m.bb.lens,m.bb.starts,m.bb.bx,m.bb.msk,m.bb.ml,m.bb.dl,m.bb.pl,m.bb.tl,m.bb.tt,m.bb.ul,m.bb.uu,m.bb.rf⟩,m.h.chg 4 rfl k e⟩
end
def clr (m:List Bool) (n:Nat):List Bool:=(List.range n).foldl (λm j=>m.set j false) m
def sel (m:List Bool) (js:Jb):List Bool:=js.foldl (λm j=>m.set j.toNat true) m
def dst (d:Jb) (q:Nat) (m:List Bool) (lo k:Nat):List Bool:=(List.range k).foldl (λm t=>m.set (lo+t) (decide (fVal d (q+t) % 2=1))) m
theorem Yd (m:List Bool):∀ n,(clr m n).length=m.length
 | 0=>rfl
 | n+1=>by unfold clr;rw [List.range_succ,List.foldl_append];show (List.set _ _ _).length=_;rw [List.length_set];exact Yd m n
theorem Xw:∀ (js:Jb) (m:List Bool),(sel m js).length=m.length
 | [],_=>rfl
 | j::js,m=>by show (sel (m.set j.toNat true) js).length=_;rw [Xw js,List.length_set]
theorem zcl (d:Jb) (q:Nat) (m:List Bool) (lo:Nat):∀ k,(dst d q m lo k).length=m.length
 | 0=>rfl
 | n+1=>by unfold dst;rw [List.range_succ,List.foldl_append];show (List.set _ _ _).length=_;rw [List.length_set];exact zcl d q m lo n
def clr_succ (m:List Bool) (n:Nat):clr m (n+1)=(clr m n).set n false:=by unfold clr;rw [List.range_succ,List.foldl_append];rfl
def zdo (d:Jb) (q:Nat) (m:List Bool) (lo n:Nat):dst d q m lo (n+1)=(dst d q m lo n).set (lo+n) (decide (fVal d (q+n) % 2=1)):=by unfold dst;rw [List.range_succ,List.foldl_append];rfl
def sel_snoc (m:List Bool) (js:Jb) (j:Int):sel m (js++[j])=(sel m js).set j.toNat true:=by unfold sel;rw [List.foldl_append];rfl
def Mc.room (M:Mc):Nat:=(M.group*M.lq).toNat
def Mc.maskOf (M:Mc) (k:Nat) (js:Jb):List Bool:=dst M.dust M.dq (sel (clr (M.mq.getD k []) M.wq.toNat) js) M.wq.toNat (M.room-M.wq.toNat)
def Mc.laidMask (M:Mc) (k:Nat) (js:Jb):Mc:={ M with mq:=M.mq.set k (M.maskOf k js),dq:=M.dq+(M.room-M.wq.toNat) }
inductive spMask (c:MCs) (K:Fg) (vs:Jn) (H:Hp) (Q:VK) (_:XK):Prop
 | mk (B:Hp) (A:Ma) (M:Mc) (R:Jm) (k:Nat) (aa:Ad) (js:Jb) (_:vs=[.ref A.b,.int k,.ref aa]) (_:MAt c B A M R H) (_:MOk M) (_:k<16) (_:B aa=some (.lst (js.map V.int))) (_:(∀ j∈js,0<=j/\j<M.group*M.lq)) (_:∀ H',MAt c B A (M.laidMask k js) R H'->Q .non H')
def ok_mask {c:MCs} (d:zZ K c.bn "lay_mask" "Bench.lay_mask" yT ["self","mask","chosen"]) (hrg:mg "range"=none) (CC:MCls K c) (TK:OkM P w K mg base CX0 1 c.fe "taken" ["self"] (spTaken c.fe)):OkM P w K mg base CX0 2 c.bn "lay_mask" ["self","mask","chosen"] (spMask c K):=by
 obtain ⟨f,fd,m,F,bd⟩:=d;refine ⟨f,fd,m,bd,F.ok sc_Bench_lay_mask (by rintro vs H Q E ⟨_,_,_,_,_,_,_,e,_⟩;rw [e];rfl) λcdv A outer s H vs Q E hr h=>?_⟩;obtain ⟨B,A,M,R,k,aa,js,rfl,m,ok,hk,ea,hj,q⟩:=h;have nd:=sc_Bench_lay_mask.nd;have hr1:=hr;have CN:=CC.n;have ml:=ok.ml;have hk':k<M.mq.length:=by omega
 have l1:=ok.l1;have l64:=ok.l64;have hg:=ok.g;have w0:=ok.w0;have w1:=ok.w1;have rb:M.group*M.lq<=4*M.lq/\1<=M.group*M.lq:=by rcases hg with e | e | e <;> rw [e] <;> omega
 have lm:(M.mq.getD k []).length=4*M.lq:=by
  rw [q1x,List.getElem?_eq_getElem hk'];exact ok.mm _ (List.getElem_mem hk')
 obtain ⟨x,ex,hx⟩:=m.mask hk';refine ⟨_,(zc (zu (i:=3) nd rfl (Or.inl rfl) (zr zE (zq (pv 0) rfl) (pv 1) (λ_ _=>rfl)))
   (zc (xr PassesOwn.never rfl (zU rfl hrg (zb (zq (pv 0) rfl) zd)) (zC (i:=4) nd rfl (Or.inl rfl)) (zg (Y6 YK (Y8 (pv 3) (pv 4) ZA))))
   (zc (xr PassesOwn.never rfl (Z6 (pv 2)) (zC (i:=4) nd rfl (Or.inl rfl)) (zg (Y6 YK (Y8 (pv 3) (pv 4) ZA))))
   (zg (xr PassesOwn.never rfl (za2 rfl hrg (zb (zq (pv 0) rfl) (zb (zk yb (zq (pv 0) rfl) (zq (pv 0) rfl)) zd))) (zC (i:=4) nd rfl (Or.inl rfl)) (zg (Y6 (Zp yo (zk yK (pe_okM0 TK CC.f.c hr1 zt (zq (pv 0) rfl)) ze) ze (zG _)) (Y8 (pv 3) (pv 4) ZA)))))))),?_⟩
 dsimp only [yh,Cx.nox,Cx.wish];show (let s1:L2.TS:=_;let s2:L2.TS:=L2.tSeq _ s1;let s3:L2.TS:=L2.tSeq _ s2;L2.tSeq _ s3 _ _ _);intro s1 s2 s3;refine ⟨_,rfl,A.b,_,_,_,.ref A.aM,rfl,m.b,CN.c,CN.mq,rfl,_,rfl,A.aM,_,_,.ref x,rfl,rfl,SqL.of (m.h.sm _ _ m.bb.msk),zJ (by rw [List.getElem?_map,ex];rfl),?_⟩
 have set_one:∀ {n:Nat} {bs:List Bool} {i:Int},i=(n:Int)->n<bs.length->ixN (bs.map V.bl).length i=some n:=λ{n bs i} e h=>by
  subst e;unfold ixN;rw [if_pos (by omega),if_pos (by rw [Ji];omega)];congr 1
 have st:∀ (b:List Bool),({ M with mq:=M.mq.set k b }:Mc).mq.getD k []=b:=λb=>by
  show (M.mq.set k b).getD k []=b;rw [q1x,q3z hk'];rfl
 have ss:∀ (b b':List Bool),({ ({ M with mq:=M.mq.set k b }:Mc) with mq:=(M.mq.set k b).set k b' }:Mc)={ M with mq:=M.mq.set k b' }:=λb b'=>by rw [List.set_set]
 refine ⟨_,rfl,A.b,_,_,_,.int M.wq,rfl,m.b,CN.c,CN.wq,rfl,_,rfl,(by show -(2 ^ 62)<=M.wq;omega),(by show M.wq<2 ^ 62;omega),?_⟩
 have m0:MAt c B A { M with mq:=M.mq.set k (clr (M.mq.getD k []) 0) } R H:=by
  have e:M.mq.set k (clr (M.mq.getD k []) 0)=M.mq:=by
   show M.mq.set k (M.mq.getD k [])=M.mq;rw [q1x,List.getElem?_eq_getElem hk'];exact List.set_getElem_self hk'
  rw [e];exact m
 show tFor_S _ _ _ _ _ _;let Pv1:Nat->St->Hp->Prop:=(λi σ J=>∃ u,σ=[rq A.b,iq k,rq aa,rq x,u]/\MAt c B A { M with mq:=M.mq.set k (clr (M.mq.getD k []) i) } R J);refine xh (n:=M.wq.toNat) Pv1 ⟨none,rfl,m0⟩ ?_ ?_
 ·rintro i σ J hi ⟨u,rfl,m1⟩
  have hx1:=m1.mask' ex (by show k<(M.mq.set k _).length;rw [List.length_set];exact hk');rw [st] at hx1;refine ⟨_,rfl,_,rfl,x,_,_,i,rfl,rfl,hx1,set_one (by omega) (by rw [Yd,lm];omega),_,rfl,?_⟩;have m2:=m1.putMask ex (by show k<(M.mq.set k _).length;rw [List.length_set];exact hk') (clr (M.mq.getD k []) (i+1));rw [ss] at m2;have e:((clr (M.mq.getD k []) (i+1)).map V.bl)=((clr (M.mq.getD k []) i).map V.bl).set i (.bl false):=by rw [clr_succ,List.map_set]
  rw [e] at m2;exact m2
 clear m0 hx;rintro σ J ⟨u,rfl,m1⟩;refine ⟨_,rfl,aa,rfl,⟨_,SqL.of (m1.h.sm _ _ ea)⟩,?_⟩;let Pv2:Nat->St->Hp->Prop:=(λi σ J=>∃ u,σ=[rq A.b,iq k,rq aa,rq x,u]/\MAt c B A { M with mq:=M.mq.set k (sel (clr (M.mq.getD k []) M.wq.toNat) (js.take i)) } R J);refine for_list (K:=K) (a:=aa) (xs:=js.map V.int) Pv2 ⟨u,rfl,m1⟩ (λi σ J _ ⟨_,_,m⟩=>SqL.of (m.h.sm _ _ ea)) ?_ ?_
 ·rintro i y σ J hy ⟨u,rfl,m1⟩
  obtain ⟨hlt,rfl⟩:=Yr hy;have mj:=L2.getD_mem hlt;have e9:js[i]?=some (js.getD i 0):=by rw [q1x,List.getElem?_eq_getElem hlt];rfl
  generalize js.getD i 0=j at mj e9;obtain ⟨j0,j1⟩:=hj j mj;have hx1:=m1.mask' ex (by show k<(M.mq.set k _).length;rw [List.length_set];exact hk');rw [st] at hx1;refine ⟨_,rfl,_,rfl,x,_,_,j.toNat,rfl,rfl,hx1,set_one (by omega) (by rw [Xw,Yd,lm];omega),_,rfl,?_⟩;have m2:=m1.putMask ex (by show k<(M.mq.set k _).length;rw [List.length_set];exact hk') (sel (clr (M.mq.getD k []) M.wq.toNat) (js.take (i+1)));rw [ss] at m2
  have e:((sel (clr (M.mq.getD k []) M.wq.toNat) (js.take (i+1))).map V.bl)=((sel (clr (M.mq.getD k []) M.wq.toNat) (js.take i)).map V.bl).set j.toNat (.bl true):=by
   rw [List.take_add_one,e9];show ((sel _ (js.take i++[j])).map V.bl)=_;rw [sel_snoc,List.map_set]
  rw [e] at m2;exact m2
 rintro σ J1 ⟨u,rfl,m1⟩;rw [Ji,List.take_length] at m1;generalize hb:sel (clr (M.mq.getD k []) M.wq.toNat) js=b1 at m1;have lb1:b1.length=4*M.lq:=by rw [← hb,Xw,Yd,lm]
 obtain ⟨wn,ew⟩:∃ n:Nat,M.wq=n:=⟨M.wq.toNat,by omega⟩;obtain ⟨rn,er⟩:∃ n:Nat,M.group*M.lq=n:=⟨(M.group*M.lq).toNat,by omega⟩;refine ⟨_,rfl,A.b,_,_,_,.int M.wq,rfl,m1.b,CN.c,CN.wq,rfl,_,rfl,A.b,_,_,_,.int M.group,rfl,m1.b,CN.c,CN.group,rfl,_,rfl,A.b,_,_,_,.int M.lq,rfl,m1.b,CN.c,CN.lq,rfl,_,_,rfl,rfl,.inl ⟨by omega,by omega⟩,_,_,rfl,?_,?_⟩
 ·exact ⟨by omega,by omega,by show -(2 ^ 62)<=M.group*M.lq;omega,by show M.group*M.lq<2 ^ 62;omega⟩
 have en:(M.group*M.lq-M.wq).toNat=M.room-M.wq.toNat:=by unfold Mc.room;omega
 show tFor_S _ _ _ _ _ _;let Pv3:Nat->St->Hp->Prop:=(λi σ J=>∃ u,σ=[rq A.b,iq k,rq aa,rq x,u]/\MAt c B A { M with mq:=M.mq.set k (dst M.dust M.dq b1 M.wq.toNat i),dq:=M.dq+i } R J);refine xh (lo:=M.wq) (n:=(M.group*M.lq-M.wq).toNat) Pv3 ⟨u,rfl,m1⟩ ?_ ?_
 ·rintro i σ J hi ⟨u,rfl,m2⟩
  refine ⟨_,rfl,A.b,_,_,_,.ref A.fd,rfl,m2.b,CN.c,CN.dust,rfl,A.fd,_,_,rfl,m2.h.get 4 rfl,rfl,A.fd,A.dfd,A.aD,M.dust,M.dq+i,rfl,m2.h.get 4 rfl,m2.h.sm _ _ m2.bb.dl,λJ3 k3 e3=>?_⟩;have m3:=m2.took k3 e3;refine ⟨_,_,rfl,rfl,(by show (0:Int)<2;decide),rfl,_,rfl,_,rfl,?_⟩;have hx1:=m3.mask' ex (by show k<(M.mq.set k _).length;rw [List.length_set];exact hk');have e0:(M.mq.set k (dst M.dust M.dq b1 M.wq.toNat i)).getD k []=dst M.dust M.dq b1 M.wq.toNat i:=by rw [q1x,q3z hk'];rfl
  have hx1:J3 x=some (.lst ((dst M.dust M.dq b1 M.wq.toNat i).map V.bl)):=by rw [← e0];exact hx1
  refine ⟨x,_,_,M.wq.toNat+i,rfl,rfl,hx1,set_one (by omega) (by rw [zcl,lb1];omega),_,rfl,?_⟩;have m4:=m3.putMask ex (by show k<(M.mq.set k _).length;rw [List.length_set];exact hk') (dst M.dust M.dq b1 M.wq.toNat (i+1))
  have e:((dst M.dust M.dq b1 M.wq.toNat (i+1)).map V.bl)=((dst M.dust M.dq b1 M.wq.toNat i).map V.bl).set (M.wq.toNat+i) (.bl (decide (V.int (fVal M.dust (M.dq+i) % 2)=V.int 1))):=by
   rw [zdo,List.map_set];congr 2;by_cases z:fVal M.dust (M.dq+i) % 2=1
   ·rw [z];rfl
   ·rw [decide_eq_false z,decide_eq_false (λq=>z (V.int.inj q))]
  rw [e] at m4;have e2:({ ({ ({ M with mq:=M.mq.set k (dst M.dust M.dq b1 M.wq.toNat i),dq:=M.dq+i }:Mc) with dq:=M.dq+i+1 }:Mc) with mq:=(M.mq.set k (dst M.dust M.dq b1 M.wq.toNat i)).set k (dst M.dust M.dq b1 M.wq.toNat (i+1)) }:Mc)={ M with mq:=M.mq.set k (dst M.dust M.dq b1 M.wq.toNat (i+1)),dq:=M.dq+(i+1) }:=by rw [List.set_set];rfl
  have m4:MAt c B A { M with mq:=M.mq.set k (dst M.dust M.dq b1 M.wq.toNat (i+1)),dq:=M.dq+(i+1) } R _:=e2 ▸ m4;exact m4
 ·rintro σ J2 ⟨u,rfl,m2⟩
  refine q J2 ?_;rw [en] at m2;unfold Mc.laidMask Mc.maskOf;rw [hb];exact m2
def Mc.layOne (told:Jl) (p:Nat) (M:Mc) (t:Nat):Mc:=match zN told (.inl (t:Int)) with
 | some (.int n)=>{ M with nums:=M.nums.set ((p:Int)*M.group*M.lq+t).toNat n }
 | _=>{ M with nums:=M.nums.set ((p:Int)*M.group*M.lq+t).toNat (fVal M.dust M.dq),dq:=M.dq+1 }
def Mc.layTo (told:Jl) (p:Nat) (M:Mc) (n:Nat):Mc:=(List.range n).foldl (λM t=>M.layOne told p t) M
def Mc.laidSeat (M:Mc) (told:Jl) (p:Nat):Mc:=M.layTo told p M.room
def Mc.layTo_succ (told:Jl) (p:Nat) (M:Mc) (n:Nat):M.layTo told p (n+1)=(M.layTo told p n).layOne told p n:=by unfold Mc.layTo;rw [List.range_succ,List.foldl_append];rfl
structure SeatSame (M N:Mc):Prop where
 g:N.group=M.group
 l:N.lq=M.lq
 n:N.nums.length=M.nums.length
 d:N.dust=M.dust
def Mc.layOne_same (told:Jl) (p:Nat) (M:Mc) (t:Nat):SeatSame M (M.layOne told p t):=by
 unfold Mc.layOne
 split
 ·exact ⟨rfl,rfl,List.length_set ..,rfl⟩
 ·exact ⟨rfl,rfl,List.length_set ..,rfl⟩
theorem Mc.layTo_same (told:Jl) (p:Nat) (M:Mc):∀ n,SeatSame M (M.layTo told p n)
 | 0=>⟨rfl,rfl,rfl,rfl⟩
 | n+1=>by
  have a:=Mc.layTo_same told p M n;have b:=Mc.layOne_same told p (M.layTo told p n) n;rw [M.layTo_succ];exact ⟨b.g.trans a.g,b.l.trans a.l,b.n.trans a.n,b.d.trans a.d⟩
section
variable {c:MCs} {B:Hp} {A:Ma} {M:Mc} {R:Jm} {H H':Hp}
def MAt.putNums (m:MAt c B A M R H) (ns:Jb):MAt c B A { M with nums:=ns } R (upd H A.aN (.lst (ns.map V.int))) :=
 ⟨⟨m.bb.lens,m.bb.starts,m.bb.bx,m.bb.msk,m.bb.ml,m.bb.dl,m.bb.pl,m.bb.tl,m.bb.tt,m.bb.ul,m.bb.uu,m.bb.rf⟩,m.h.put (o':=.lst (ns.map V.int)) 2 rfl⟩
end
def xk (js:Jb) (vs:List (Option Int)):Jl:=putAll [] ((js.map Sum.inl).zip (vs.map oV))
theorem X2:∀ (ps:Jl) (kvs:Jl) (P:V->Prop),(∀ p∈ps,P p.2)->(∀ k v,zN kvs k=some v->P v)->∀ k v,zN (putAll kvs ps) k=some v->P v
 | [],_,_,_,h,k,v,e=>h k v e
 | p::ps,kvs,P,hp,h,k,v,e=>by
  refine X2 ps (zW kvs p.1 p.2) P (λq hq=>hp q (q1y _ hq)) (λk' v' e'=>?_) k v e;rw [Zw] at e'
  split at e'
  ·cases e';exact hp p q1z
  ·exact h k' v' e'
theorem told_val {js:Jb} {vs:List (Option Int)} {k:Key} {v:V} (e:zN (xk js vs) k=some v):v=.non∨∃ n,v=.int n:=by
 refine X2 _ [] (λv=>v=.non∨∃ n,v=.int n) (λp hp=>?_) (λk v e=>by cases e) k v e;obtain ⟨o,_,eo⟩:=List.mem_map.mp (List.of_mem_zip hp).2
 cases o with
 | none=>exact .inl eo.symm
 | some n=>exact .inr ⟨n,eo.symm⟩
inductive spSeat (c:MCs) (K:Fg) (vs:Jn) (H:Hp) (Q:VK) (_:XK):Prop
 | mk (B:Hp) (A:Ma) (M:Mc) (R:Jm) (p:Nat) (aa an:Ad) (js:Jb) (ns:List (Option Int)) (_:vs=[.ref A.b,.int p,.ref aa,.ref an]) (_:MAt c B A M R H) (_:MOk M) (_:((p:Int)+1)*M.group<=8) (_:B aa=some (.lst (js.map V.int))) (_:B an=some (.lst (ns.map oV))) (_:js.length=ns.length) (_:∀ B' H',Same B B'->MAt c B' A (M.laidSeat (xk js ns) p) R H'->Q .non H')
theorem ok_seat {c:MCs} (d:zZ K c.bn "lay_seat" "Bench.lay_seat" yS ["self","seat","active","numbers"]) (hrg:mg "range"=none) (hdict:mg "dict"=none) (hzip:mg "zip"=none) (CC:MCls K c) (TK:OkM P w K mg base CX0 1 c.fe "taken" ["self"] (spTaken c.fe)) (LA:OkM P w K mg base CX0 2 c.bx "lay" ["self","group","seat","lane","number"] (spLay c.bx)):OkM P w K mg base CX0 3 c.bn "lay_seat" ["self","seat","active","numbers"] (spSeat c K):=by
 obtain ⟨f,fd,m,F,bd⟩:=d;refine ⟨f,fd,m,bd,F.ok sc_Bench_lay_seat (by rintro vs H Q E ⟨_,_,_,_,_,_,_,_,_,e,_⟩;rw [e];rfl) λcdv A outer s H vs Q E hr h=>?_⟩;obtain ⟨B,A,M,R,p,aa,an,js,ns,rfl,m,ok,h8,ea,en,le,q⟩:=h;have nd:=sc_Bench_lay_seat.nd;have hr2:=hr;have hr1:=hr.mono (show 1<=2 by decide);have hu:=Nat.lt_of_le_of_lt (Nat.add_le_add_left (show 1<=64 by decide) _) hr.units;have CN:=CC.n;have l1:=ok.l1;have l64:=ok.l64;have hg:=ok.g;have rb:M.group*M.lq<=4*M.lq/\1<=M.group*M.lq:=by rcases hg with e | e | e <;> rw [e] <;> omega
 refine ⟨_,(zc (zu (i:=4) nd rfl (Or.inl rfl) (zea rfl (by rfl) hdict (by rfl) hzip (zb (pv 2) (zb (pv 3) zd))))
   (zg (xr PassesOwn.never rfl (zU rfl hrg (zb (zk yb (zq (pv 0) rfl) (zq (pv 0) rfl)) zd)) (zC (i:=5) nd rfl (Or.inl rfl)) (zc (zu (i:=6) nd rfl (Or.inl rfl) (pe_dget1 hu (pv 4) (pv 5) ⟨rfl,rfl,rfl,rfl⟩))
   (zc (ZV (zQ (zB zb9 (pv 6) yE (zG _)) (zg (zu (i:=6) nd rfl (Or.inl rfl) (pe_okM0 TK CC.f.c hr1 zt (zq (pv 0) rfl)))) zv))
   (zg (yf (yg LA CC.b.c hr2 zt (zq (pv 0) rfl) (zb (zq (pv 0) rfl) (zb (pv 1) (zb (pv 5) (zb (pv 6) zd)))))))))))),?_⟩
 dsimp only [yh,Cx.nox,Cx.wish];have ek:(js.map (Sum.inl:Int->Key)).map kV=js.map V.int:=by rw [List.map_map];rfl
 refine ⟨_,rfl,_,rfl,aa,an,js.map Sum.inl,ns.map oV,rfl,(by rw [ek];exact SqL.of (m.h.sm _ _ ea)),SqL.of (m.h.sm _ _ en),(by rw [Ji,Ji,le]),λdt ndt=>?_⟩;show Xr 4 (.ref dt) _ (upd H dt (.dK (xk js ns))) _;generalize et:xk js ns=told at q;have tv:∀ k v,zN told k=some v->v=.non∨∃ n,v=.int n:=λk v e=>by rw [← et] at e;exact told_val e
 have sB:Same B (upd B dt (.dK told)):=zi (Same.refl _) (m.h.free ndt);have m1:=m.grow (o:=.dK told) ndt;have ed:upd B dt (.dK told) dt=some (.dK told):=zf;generalize upd B dt (.dK told)=B1 at sB m1 ed;generalize upd H dt (.dK told)=H1 at m1;refine ⟨_,rfl,A.b,_,_,_,.int M.group,rfl,m1.b,CN.c,CN.group,rfl,_,rfl,A.b,_,_,_,.int M.lq,rfl,m1.b,CN.c,CN.lq,rfl,_,_,rfl,rfl,.inl ⟨by omega,by omega⟩,_,rfl,(by show -(2 ^ 62)<=M.group*M.lq;omega),(by show M.group*M.lq<2 ^ 62;omega),?_⟩;show tFor_S _ _ _ _ _ _;refine xh (n:=M.room) (λi σ J=>∃ u5 u6,σ=[rq A.b,iq p,rq aa,rq an,rq dt,u5,u6]/\MAt c B1 A (M.layTo told p i) R J) ⟨none,none,rfl,m1⟩ ?_ ?_
 ·rintro i σ J hi ⟨u5,u6,rfl,m2⟩
  have ss:=M.layTo_same told p i;have edJ:=m2.h.sm _ _ ed;have hi':(i:Int)<M.group*M.lq:=by unfold Mc.room at hi;omega
  obtain ⟨s0,s1⟩:=zbw hg (show (1:Int)<=M.lq by omega) (show (0:Int)<=p by omega) h8 (show (0:Int)<=i by omega) hi';refine ⟨_,rfl,dt,rfl,.inl ⟨told,.inl edJ⟩,_,rfl,_,DGet.k (k:=.inl (0+(i:Int))) edJ,?_⟩;rw [Int.zero_add];rw [M.layTo_succ];generalize hM:M.layTo told p i=N at m2 ss ⊢;refine ⟨λσ' H'=>∃ (n:Int) (N':Mc),σ'=[rq A.b,iq p,rq aa,rq an,rq dt,iq i,iq n]/\MAt c B1 A N' R H'/\SeatSame M N'/\N.layOne told p i={ N' with nums:=N'.nums.set ((p:Int)*M.group*M.lq+i).toNat n },?_,?_⟩
  ·cases ev:zN told (.inl (i:Int)) with
   | none =>
    refine ⟨_,rfl,rfl,_,rfl,yU (λz=>?_) (λz=>absurd (show decide (V.non=V.non)=true by decide) z)⟩;refine ⟨_,rfl,A.b,_,_,_,.ref A.fd,rfl,m2.b,CN.c,CN.dust,rfl,A.fd,_,_,rfl,m2.h.get 4 rfl,rfl,A.fd,A.dfd,A.aD,N.dust,N.dq,rfl,m2.h.get 4 rfl,m2.h.sm _ _ m2.bb.dl,λJ3 k3 e3=>?_⟩;refine ⟨_,_,rfl,m2.took k3 e3,⟨ss.g,ss.l,ss.n,ss.d⟩,?_⟩;unfold Mc.layOne;rw [ev,ss.g,ss.l]
   | some v =>
    rcases tv _ _ ev with rfl | ⟨n,rfl⟩
    ·refine ⟨_,rfl,rfl,_,rfl,yU (λz=>?_) (λz=>absurd (show decide (V.non=V.non)=true by decide) z)⟩
     refine ⟨_,rfl,A.b,_,_,_,.ref A.fd,rfl,m2.b,CN.c,CN.dust,rfl,A.fd,_,_,rfl,m2.h.get 4 rfl,rfl,A.fd,A.dfd,A.aD,N.dust,N.dq,rfl,m2.h.get 4 rfl,m2.h.sm _ _ m2.bb.dl,λJ3 k3 e3=>?_⟩;refine ⟨_,_,rfl,m2.took k3 e3,⟨ss.g,ss.l,ss.n,ss.d⟩,?_⟩;unfold Mc.layOne;rw [ev,ss.g,ss.l]
    ·refine ⟨_,rfl,rfl,_,rfl,yU (λz=>absurd z (λy=>by cases of_decide_eq_true y)) (λz=>?_)⟩
     refine ⟨n,N,rfl,m2,ss,?_⟩;unfold Mc.layOne;rw [ev,ss.g,ss.l]
  rintro σ' H' ⟨n,N',rfl,m3,ss',e⟩;rw [e];have eg:=ss'.g;have el:=ss'.l;refine ⟨_,rfl,A.b,_,_,_,.ref A.bx,rfl,m3.b,CN.c,CN.boxes,rfl,A.bx,_,_,rfl,m3.h.sm _ _ m3.bb.bx,rfl,_,rfl,A.b,_,_,_,.int N'.group,rfl,m3.b,CN.c,CN.group,rfl,_,rfl,_,rfl,_,rfl,A.bx,A.dbx,A.aN,N'.lq,N'.group,p,(i:Int),n,N'.nums,rfl,m3.h.sm _ _ m3.bb.bx,m3.h.get 2 rfl,by rw [el];omega,by rw [el];omega,by rw [eg];omega,by rw [eg];omega,?_,?_,?_⟩
  ·rw [eg,el];exact s0
  ·rw [eg,el,ss'.n,ok.nl];omega
  ·refine ⟨_,_,rfl,?_⟩
   have:=m3.putNums (N'.nums.set ((p:Int)*N'.group*N'.lq+i).toNat n);rw [← eg,← el];exact this
 ·rintro σ J ⟨u5,u6,rfl,m2⟩
  exact q B1 J sB m2
section
variable {c:MCs} {B:Hp} {A:Ma} {M:Mc} {R:Jm} {H H':Hp}
def MAt.s_pc (m:MAt c B A M R H) (v:Int):MAt c B A { M with pc:=v } R (upd H A.b (.ins c.bn A.db (zO "at" (.int v) (xi A M)))) :=
 ⟨⟨m.bb.lens,m.bb.starts,m.bb.bx,m.bb.msk,m.bb.ml,m.bb.dl,m.bb.pl,m.bb.tl,m.bb.tt,m.bb.ul,m.bb.uu,m.bb.rf⟩,m.h.put (o':=.ins c.bn A.db (zO "at" (.int v) (xi A M))) 0 rfl⟩
def MAt.s_opened (m:MAt c B A M R H) (v:Int):MAt c B A { M with oq:=v } R (upd H A.b (.ins c.bn A.db (zO "opened" (.int v) (xi A M)))) :=
 ⟨⟨m.bb.lens,m.bb.starts,m.bb.bx,m.bb.msk,m.bb.ml,m.bb.dl,m.bb.pl,m.bb.tl,m.bb.tt,m.bb.ul,m.bb.uu,m.bb.rf⟩,m.h.put (o':=.ins c.bn A.db (zO "opened" (.int v) (xi A M))) 0 rfl⟩
def MAt.s_many (m:MAt c B A M R H) (v:Int):MAt c B A { M with mn_:=v } R (upd H A.b (.ins c.bn A.db (zO "many" (.int v) (xi A M)))) :=
 ⟨⟨m.bb.lens,m.bb.starts,m.bb.bx,m.bb.msk,m.bb.ml,m.bb.dl,m.bb.pl,m.bb.tl,m.bb.tt,m.bb.ul,m.bb.uu,m.bb.rf⟩,m.h.put (o':=.ins c.bn A.db (zO "many" (.int v) (xi A M))) 0 rfl⟩
def MAt.s_group (m:MAt c B A M R H) (v:Int):MAt c B A { M with group:=v } R (upd H A.b (.ins c.bn A.db (zO "group" (.int v) (xi A M)))) :=
 ⟨⟨m.bb.lens,m.bb.starts,m.bb.bx,m.bb.msk,m.bb.ml,m.bb.dl,m.bb.pl,m.bb.tl,m.bb.tt,m.bb.ul,m.bb.uu,m.bb.rf⟩,m.h.put (o':=.ins c.bn A.db (zO "group" (.int v) (xi A M))) 0 rfl⟩
def MAt.s_base (m:MAt c B A M R H) (v:Int):MAt c B A { M with base:=v } R (upd H A.b (.ins c.bn A.db (zO "base" (.int v) (xi A M)))) :=
 ⟨⟨m.bb.lens,m.bb.starts,m.bb.bx,m.bb.msk,m.bb.ml,m.bb.dl,m.bb.pl,m.bb.tl,m.bb.tt,m.bb.ul,m.bb.uu,m.bb.rf⟩,m.h.put (o':=.ins c.bn A.db (zO "base" (.int v) (xi A M))) 0 rfl⟩
def MAt.s_begun (m:MAt c B A M R H) (v:Int):MAt c B A { M with bq:=v } R (upd H A.b (.ins c.bn A.db (zO "begun" (.int v) (xi A M)))) :=
 ⟨⟨m.bb.lens,m.bb.starts,m.bb.bx,m.bb.msk,m.bb.ml,m.bb.dl,m.bb.pl,m.bb.tl,m.bb.tt,m.bb.ul,m.bb.uu,m.bb.rf⟩,m.h.put (o':=.ins c.bn A.db (zO "begun" (.int v) (xi A M))) 0 rfl⟩
def MAt.s_width (m:MAt c B A M R H) (v:Int):MAt c B A { M with wq:=v } R (upd H A.b (.ins c.bn A.db (zO "width" (.int v) (xi A M)))) :=
 ⟨⟨m.bb.lens,m.bb.starts,m.bb.bx,m.bb.msk,m.bb.ml,m.bb.dl,m.bb.pl,m.bb.tl,m.bb.tt,m.bb.ul,m.bb.uu,m.bb.rf⟩,m.h.put (o':=.ins c.bn A.db (zO "width" (.int v) (xi A M))) 0 rfl⟩
def MAt.s_cut (m:MAt c B A M R H) (v:Option Int):MAt c B A { M with cut:=v } R (upd H A.b (.ins c.bn A.db (zO "cut" (oV v) (xi A M)))) :=
 ⟨⟨m.bb.lens,m.bb.starts,m.bb.bx,m.bb.msk,m.bb.ml,m.bb.dl,m.bb.pl,m.bb.tl,m.bb.tt,m.bb.ul,m.bb.uu,m.bb.rf⟩,m.h.put (o':=.ins c.bn A.db (zO "cut" (oV v) (xi A M))) 0 rfl⟩
def MAt.s_carried (m:MAt c B A M R H) (v:Option Int):MAt c B A { M with cq:=v } R (upd H A.b (.ins c.bn A.db (zO "carried" (oV v) (xi A M)))) :=
 ⟨⟨m.bb.lens,m.bb.starts,m.bb.bx,m.bb.msk,m.bb.ml,m.bb.dl,m.bb.pl,m.bb.tl,m.bb.tt,m.bb.ul,m.bb.uu,m.bb.rf⟩,m.h.put (o':=.ins c.bn A.db (zO "carried" (oV v) (xi A M))) 0 rfl⟩
def MAt.s_faults (m:MAt c B A M R H) {n:Ad} (nn:H n=none):MAt c B { A with aF:=n } { M with fq:=[] } R (upd (upd H n (.dK [])) A.b (.ins c.bn A.db (zO "faults" (.ref n) (xi A M)))):=by
 have h:=(m.h.new (o:=.dK []) nn).put (o':=.ins c.bn A.db (zO "faults" (.ref n) (xi A M))) 1 rfl;refine ⟨⟨m.bb.lens,m.bb.starts,m.bb.bx,m.bb.msk,m.bb.ml,m.bb.dl,m.bb.pl,m.bb.tl,m.bb.tt,m.bb.ul,m.bb.uu,m.bb.rf⟩,?_⟩;have h2:=h.sub (L':=(n,.dK [])::(A.b,.ins c.bn A.db (zO "faults" (.ref n) (xi A M)))::(A.aC,.lst (M.cells.map V.int))::(A.aN,.lst (M.nums.map V.int))::(A.aSl,.dK M.slots)::(A.fd,Yl c.fe A.dfd A.aD (fAt M.dust M.dq))::(A.fp,Yl c.fe A.dfp A.aP (fAt M.picks M.pq))::(A.aT,.lst (A.ts.map V.ref))::(A.aU,.lst (A.us.map V.ref))::(ZC A M++R)) (.cons₂ _ (.cons₂ _ (.cons₂ _ (.cons₂ _ (.cons₂ _ (.cons₂ _ (.cons₂ _ (.cons₂ _ (.cons _ (List.Sublist.refl _))))))))));refine h2.perm ?_;exact (List.perm_middle (a:=(n,HO.dK [])) (l₁:=[_,_,_,_,_,_,_]) (l₂:=_::_)).symm
end
structure MOk0 (M:Mc):Prop where
 l1:1<=M.lq
 l64:M.lq<=64
 nl:M.nums.length=8*M.lq
 ml:M.mq.length=16
 mm:∀ m∈M.mq,m.length=4*M.lq
def MOk.zero {M:Mc} (ok:MOk M):MOk0 M:=⟨ok.l1,ok.l64,ok.nl,ok.ml,ok.mm⟩
def MOk0.strip {M:Mc} (ok:MOk0 M) (hg:M.group=1∨M.group=2∨M.group=4) {w b:Int} (h0:0<=w) (h1:w<=M.group*M.lq):MOk { M with base:=b,wq:=w,bq:=w,fq:=[],cut:=none }:=⟨ok.l1,ok.l64,hg,ok.nl,ok.ml,ok.mm,h0,h1⟩
def Mc.wide (M:Mc) (b:Int):Int:=if M.group*M.lq<M.mn_-b then M.group*M.lq else M.mn_-b
def Mc.strip (M:Mc) (b:Int):Mc:=({ M with base:=b,wq:=M.wide b,bq:=M.wide b,fq:=[],cut:=none }:Mc).laidMask 0 (zM (M.wide b).toNat)
inductive spStrip (c:MCs) (vs:Jn) (H:Hp) (Q:VK) (_:XK):Prop
 | mk (B:Hp) (A:Ma) (M:Mc) (R:Jm) (b:Int) (_:vs=[.ref A.b,.int b]) (_:MAt c B A M R H) (_:MOk0 M) (_:(M.group=1∨M.group=2∨M.group=4)) (_:b<=M.mn_) (_:∀ B' A' H',Same B B'->A'.b=A.b->MAt c B' A' (M.strip b) R H'->Q .non H')
def ok_strip {c:MCs} (d:zZ K c.bn "begin_strip" "Bench.begin_strip" yr ["self","base"]) (hrg:mg "range"=none) (hlist:mg "list"=none) (hmin:mg "min"=none) (CC:MCls K c) (LM:OkM P w K mg base CX0 2 c.bn "lay_mask" ["self","mask","chosen"] (spMask c K)):OkM P w K mg base CX0 3 c.bn "begin_strip" ["self","base"] (spStrip c):=by
 obtain ⟨f,fd,m,F,bd⟩:=d;refine ⟨f,fd,m,bd,F.ok sc_Bench_begin_strip (by rintro vs H Q E ⟨_,_,_,_,_,e,_⟩;rw [e];rfl) λcdv A outer s H vs Q E hr h=>?_⟩;obtain ⟨B,A,M,R,b,rfl,m,ok,hg,hb,q⟩:=h;have nd:=sc_Bench_begin_strip.nd;have hr2:=hr;have CN:=CC.n;have l1:=ok.l1;have l64:=ok.l64;have rb:M.group*M.lq<=4*M.lq/\1<=M.group*M.lq:=by rcases hg with e | e | e <;> rw [e] <;> omega
 have w01:0<=M.wide b/\M.wide b<=M.group*M.lq:=by unfold Mc.wide;split <;> omega
 refine ⟨_,(zc (zI (pv 0) (pv 1) rfl)
   (zc (zI (pv 0) (zw (ZE rfl) (by rfl) hmin PyProof.Rows.boot_min (zb (zk xJ (zq (pv 0) rfl) (pv 1)) (zb (zk yb (zq (pv 0) rfl) (zq (pv 0) rfl)) zd))) rfl)
   (zc (zI (pv 0) (zq (pv 0) rfl) rfl)
   (zc (zI (pv 0) YI rfl)
   (zc (zI (pv 0) yE rfl)
   (zg (yf (yg LM CC.n.c hr2 zt (pv 0) (zb ze (zb (ya (zay rfl) (by rfl) hlist PyProof.Rows.boot_list (zb (ya zdw (by rfl) hrg PyProof.Rows.boot_range (zb (zq (pv 0) rfl) zd)) zd)) zd)))))))))),?_⟩
 dsimp only [yh,Cx.nox,Cx.wish];show (let s1:L2.TS:=_;let s2:L2.TS:=L2.tSeq _ s1;let s3:L2.TS:=L2.tSeq _ s2;let s4:L2.TS:=L2.tSeq _ s3;let s5:L2.TS:=L2.tSeq _ s4;L2.tSeq _ s5 _ _ _);intro s1 s2 s3 s4 s5;refine ⟨_,rfl,_,rfl,A.b,_,_,_,rfl,m.b,CN.c,CN.base,(by show 23<1000;decide),?_⟩;have m:=m.s_base b;refine ⟨_,rfl,A.b,_,_,_,.int M.mn_,rfl,m.b,CN.c,CN.mn_,rfl,_,rfl,_,_,rfl,rfl,_,rfl,A.b,_,_,_,.int M.group,rfl,m.b,CN.c,CN.group,rfl,_,rfl,A.b,_,_,_,.int M.lq,rfl,m.b,CN.c,CN.lq,rfl,_,_,rfl,rfl,.inl ⟨by omega,by omega⟩,_,_,rfl,_,rfl,A.b,_,_,_,rfl,m.b,CN.c,CN.wq,(by show 23<1000;decide),?_⟩;have m:=m.s_width (M.wide b);refine ⟨_,rfl,A.b,_,_,_,.int (M.wide b),rfl,m.b,CN.c,CN.wq,rfl,_,rfl,A.b,_,_,_,rfl,m.b,CN.c,CN.bq,(by show 23<1000;decide),?_⟩;have m:=m.s_begun (M.wide b);refine λn nn=>?_;have mf:=m.s_faults nn;refine ⟨_,rfl,A.b,_,_,_,rfl,(by rw [zj (zp m.b nn)];exact m.b),CN.c,CN.fq,(by show 23<1000;decide),?_⟩;have m:=mf;refine ⟨_,rfl,A.b,_,_,_,rfl,m.b,CN.c,CN.cut,(by show 23<1000;decide),?_⟩;have m:=m.s_cut none;obtain ⟨wn,ew⟩:∃ wn:Nat,M.wide b=wn:=⟨(M.wide b).toNat,by omega⟩;have ok2:MOk { M with base:=b,wq:=M.wide b,bq:=M.wide b,fq:=[],cut:=none }:=ok.strip hg w01.1 w01.2;refine ⟨_,rfl,A.b,_,_,rfl,m.b,rfl,_,rfl,A.b,_,_,_,.int (M.wide b),rfl,m.b,CN.c,CN.wq,rfl,_,rfl,λrg nrg=>?_⟩;have m1:=m.grow (o:=.rng 0 (M.wide b)) nrg;have s1:Same B (upd B rg (.rng 0 (M.wide b))):=zi (Same.refl _) (m.h.free nrg);have e1:upd B rg (.rng 0 (M.wide b)) rg=some (.rng 0 (M.wide b)):=zf;generalize upd B rg (.rng 0 (M.wide b))=B1 at m1 s1 e1;refine ⟨rg,wn,rfl,(by rw [← ew];exact m1.h.sm _ _ e1),by omega,λl nl=>?_⟩;have m2:=m1.grow (o:=.lst ((zM wn).map V.int)) nl;have s2:Same B1 (upd B1 l (.lst ((zM wn).map V.int))):=zi (Same.refl _) (m1.h.free nl);have e2:upd B1 l (.lst ((zM wn).map V.int)) l=some (.lst ((zM wn).map V.int)):=zf;generalize upd B1 l (.lst ((zM wn).map V.int))=B2 at m2 s2 e2;refine ⟨B2,{ A with aF:=n },{ M with base:=b,wq:=M.wide b,bq:=M.wide b,fq:=[],cut:=none },R,0,l,zM wn,rfl,m2,ok2,by decide,e2,(λj hj=>?_),λH9 m9=>?_⟩
 ·obtain ⟨i,hi,rfl⟩:=List.mem_map.mp hj
  have:=List.mem_range.mp hi;show 0<=(i:Int)/\(i:Int)<M.group*M.lq;omega
 ·refine q B2 { A with aF:=n } H9 (s1.trans s2) rfl ?_
  unfold Mc.strip;rw [ew,q0z];rw [ew] at m9;exact m9
def Mc.round (M:Mc) (mn_ group:Int):Mc:=({ M with oq:=M.pc,mn_:=mn_,group:=group,cq:=none }:Mc).strip 0
inductive spRound (c:MCs) (vs:Jn) (H:Hp) (Q:VK) (_:XK):Prop
 | mk (B:Hp) (A:Ma) (M:Mc) (R:Jm) (mn_ group:Int) (_:vs=[.ref A.b,.int mn_,.int group]) (_:MAt c B A M R H) (_:MOk0 M) (_:(group=1∨group=2∨group=4)) (_:0<=mn_) (_:∀ B' A' H',Same B B'->A'.b=A.b->MAt c B' A' (M.round mn_ group) R H'->Q .non H')
def ok_round {c:MCs} (d:zZ K c.bn "open_round" "Bench.open_round" yA ["self","many","group"]) (CC:MCls K c) (BS:OkM P w K mg base CX0 3 c.bn "begin_strip" ["self","base"] (spStrip c)):OkM P w K mg base CX0 4 c.bn "open_round" ["self","many","group"] (spRound c):=by
 obtain ⟨f,fd,m,F,bd⟩:=d;refine ⟨f,fd,m,bd,F.ok sc_Bench_open_round (by rintro vs H Q E ⟨_,_,_,_,_,_,e,_⟩;rw [e];rfl) λcdv A outer s H vs Q E hr h=>?_⟩;obtain ⟨B,A,M,R,mn_,group,rfl,m,ok,hg,hm,q⟩:=h;have nd:=sc_Bench_open_round.nd;have hr3:=hr;have CN:=CC.n;refine ⟨_,(zc (zI (pv 0) (zq (pv 0) rfl) rfl)
   (zc (zI (pv 0) (pv 1) rfl)
   (zc (zI (pv 0) (pv 2) rfl)
   (zc (zI (pv 0) yE rfl)
   (zg (yf (yg BS CC.n.c hr3 zt (pv 0) (zb ze zd)))))))),?_⟩
 dsimp only [yh,Cx.nox,Cx.wish];show (let s1:L2.TS:=_;let s2:L2.TS:=L2.tSeq _ s1;let s3:L2.TS:=L2.tSeq _ s2;let s4:L2.TS:=L2.tSeq _ s3;L2.tSeq _ s4 _ _ _);intro s1 s2 s3 s4;refine ⟨_,rfl,A.b,_,_,_,.int M.pc,rfl,m.b,CN.c,CN.pc,rfl,_,rfl,A.b,_,_,_,rfl,m.b,CN.c,CN.oq,(by show 23<1000;decide),?_⟩;have m:=m.s_opened M.pc;refine ⟨_,rfl,_,rfl,A.b,_,_,_,rfl,m.b,CN.c,CN.mn_,(by show 23<1000;decide),?_⟩;have m:=m.s_many mn_;refine ⟨_,rfl,_,rfl,A.b,_,_,_,rfl,m.b,CN.c,CN.group,(by show 23<1000;decide),?_⟩;have m:=m.s_group group;refine ⟨_,rfl,A.b,_,_,_,rfl,m.b,CN.c,CN.cq,(by show 23<1000;decide),?_⟩;have m:=m.s_carried none;exact ⟨_,rfl,A.b,_,_,rfl,m.b,rfl,B,A,{ M with oq:=M.pc,mn_:=mn_,group:=group,cq:=none },R,0,rfl,m,⟨ok.l1,ok.l64,ok.nl,ok.ml,ok.mm⟩,hg,hm,λB' A' H' s eb m'=>q B' A' H' s eb m'⟩
end K36
namespace L2
open PySem
def zcg {X:Cx} {K:Fg} (e:X.K=K):IxR X (rIxT K):=by subst e;exact zR
end L2
namespace K36
open PySem L2
variable {P:Program} {w:World} {K:Fg} {mg:J0} {base:Heap}
structure TabA where
 s:Ad
 e:Ad
 w:Ad
structure Tabs (w:World) (K:Fg) (mg:J0) (t:TabA):Prop where
 Ts:xD w K t.s
 Te:xD w K t.e
 Tw:xD w K t.w
 ls:(t.s == sysModules)=false
 le:(t.e == sysModules)=false
 hs:mg "SEAT_STEPS"=some (.ref t.s)
 he:mg "EFFECTS"=some (.ref t.e)
 hw:mg "WAYS"=some (.ref t.w)
 s_number:zH K mg t.s "number" "numbers_written"
 s_here:zH K mg t.s "here" "numbers_of_here"
 s_load:zH K mg t.s "load" "numbers_loaded"
 s_spread:zH K mg t.s "spread" "numbers_spread"
 s_shift:zH K mg t.s "shift" "numbers_shifted"
 s_gather:zH K mg t.s "gather" "numbers_gathered"
 s_op:zH K mg t.s "op" "numbers_joined"
 s_pick:zH K mg t.s "pick" "numbers_picked"
 s_copy:zH K mg t.s "copy" "numbers_copied"
 s_bring:zH K mg t.s "bring" "numbers_brought"
 e_reach:zH K mg t.e "reach" "play_reach"
 es_reach:PySem.W.nsIn K t.s "reach"=some none
 e_trim:zH K mg t.e "trim" "play_trim"
 es_trim:PySem.W.nsIn K t.s "trim"=some none
 e_stop:zH K mg t.e "stop" "play_stop"
 es_stop:PySem.W.nsIn K t.s "stop"=some none
 e_choose:zH K mg t.e "choose" "play_choose"
 es_choose:PySem.W.nsIn K t.s "choose"=some none
 e_other:zH K mg t.e "other" "play_other"
 es_other:PySem.W.nsIn K t.s "other"=some none
 e_save:zH K mg t.e "save" "play_save"
 es_save:PySem.W.nsIn K t.s "save"=some none
 e_store:zH K mg t.e "store" "play_store"
 es_store:PySem.W.nsIn K t.s "store"=some none
 e_put:zH K mg t.e "put" "play_put"
 es_put:PySem.W.nsIn K t.s "put"=some none
 e_fold:zH K mg t.e "fold" "play_fold"
 es_fold:PySem.W.nsIn K t.s "fold"=some none
 e_running:zH K mg t.e "running" "play_running"
 es_running:PySem.W.nsIn K t.s "running"=some none
 e_any:zH K mg t.e "any" "play_any"
 es_any:PySem.W.nsIn K t.s "any"=some none
 w_begin:zH K mg t.w "begin" "play_begin"
 ws_begin:PySem.W.nsIn K t.s "begin"=some none
 we_begin:PySem.W.nsIn K t.e "begin"=some none
 w_next:zH K mg t.w "next" "play_next"
 ws_next:PySem.W.nsIn K t.s "next"=some none
 we_next:PySem.W.nsIn K t.e "next"=some none
 w_turns:zH K mg t.w "turns" "play_turns"
 ws_turns:PySem.W.nsIn K t.s "turns"=some none
 we_turns:PySem.W.nsIn K t.e "turns"=some none
 w_quiet:zH K mg t.w "quiet" "play_quiet"
 ws_quiet:PySem.W.nsIn K t.s "quiet"=some none
 we_quiet:PySem.W.nsIn K t.e "quiet"=some none
 w_till:zH K mg t.w "till" "play_till"
 ws_till:PySem.W.nsIn K t.s "till"=some none
 we_till:PySem.W.nsIn K t.e "till"=some none
abbrev FnM:=Jn->Mc->Jb->Option (Mc×List (Option Int))
structure FnMOk (f:FnM):Prop where
 ok:∀ {tv M js M' ns},f tv M js=some (M',ns)->MOk M->MOk M'
 g:∀ {tv M js M' ns},f tv M js=some (M',ns)->M'.group=M.group
 n:∀ {tv M js M' ns},f tv M js=some (M',ns)->ns.length=js.length
inductive spFn (c:MCs) (f:FnM) (vs:Jn) (H:Hp) (Q:VK) (_:XK):Prop
 | mk (B:Hp) (A:Ma) (M:Mc) (R:Jm) (st aa:Ad) (tv:Jn) (js:Jb) (M':Mc) (ns:List (Option Int)) (_:vs=[.ref A.b,.ref st,.ref aa]) (_:MAt c B A M R H) (_:B st=some (.tup tv)) (_:B aa=some (.lst (js.map V.int))) (_:f tv M js=some (M',ns)) (_:MOk M) (_:(∀ j∈js,0<=j/\j<M.group*M.lq)) (_:js.length<=1000) (_:∀ B' A' H' l,Same B B'->A'.b=A.b->MAt c B' A' M' R H'->B' l=some (.lst (ns.map oV))->Q (.ref l) H')
def seatM (f:FnM) (tv:Jn) (M:Mc):Option Mc:=match (tv[1]?:Jo),tv.getLast? with
 | some (V.int p),some (V.int k)=>if 0<=p/\(p+1)*M.group<=8/\0<=k/\k<16 then (f tv M (M.act k.toNat)).map λr=>r.1.laidSeat (xk (M.act k.toNat) r.2) p.toNat else none
 | _,_=>none
inductive spPSS (c:MCs) (S:Str->FnM->Prop) (vs:Jn) (H:Hp) (Q:VK) (_:XK):Prop
 | mk (word:Str) (f:FnM) (B:Hp) (A:Ma) (M:Mc) (R:Jm) (st:Ad) (tv:Jn) (M':Mc) (_:S word f) (_:vs=[.ref A.b,.ref st]) (_:MAt c B A M R H) (_:B st=some (.tup tv)) (_:tv[0]?=some (.str word)) (_:seatM f tv M=some M') (_:MOk M) (_:∀ B' A' H',Same B B'->A'.b=A.b->MAt c B' A' M' R H'->Q .non H')
def Xb {M:Mc} (ok:MOk M) {k:Nat} (hk:k<16):M.wq.toNat<=(M.mq.getD k []).length/\M.wq.toNat<=1000:=by
 have ml:=ok.ml;have hk':k<M.mq.length:=by omega
 have l1:=ok.l1;have l64:=ok.l64;have w0:=ok.w0;have w1:=ok.w1
 have lm:(M.mq.getD k []).length=4*M.lq:=by
  rw [q1x,List.getElem?_eq_getElem hk'];exact ok.mm _ (List.getElem_mem hk')
 have rb:M.group*M.lq<=4*M.lq:=by rcases ok.g with e | e | e <;> rw [e] <;> omega
 rw [lm];omega
def act_in {M:Mc} (ok:MOk M) (k:Nat):(∀ j∈M.act k,0<=j/\j<M.group*M.lq)/\(M.act k).length<=1000:=by
 have w0:=ok.w0;have w1:=ok.w1;refine ⟨λj hj=>?_,?_⟩
 ·obtain ⟨a,b,_⟩:=Mc.act_mem hj
  omega
 ·have:=M.actTo_len k M.wq.toNat
  have rb:M.group*M.lq<=4*M.lq:=by rcases ok.g with e | e | e <;> rw [e] <;> omega
  have:=ok.l64;unfold Mc.act;omega
def atI_lst {tv:Jn} {v:V} (h:tv.getLast?=some v):atI tv (-1)=some v:=by
 obtain ⟨l,rfl⟩:∃ l,tv=l++[v]:=by
  rw [List.getLast?_eq_some_iff] at h;exact h
 exact atI_last _ _
def Xl (P:Program) (w:World) (K:Fg) (mg:J0) (base:Heap) (c:MCs) (t:TabA) (S:Str->FnM->Prop) (rm:Nat):Prop:=∀ word f,S word f->∃ (nm:Str) (ps:Jf),zH K mg t.s word nm/\Ok P w K mg base CX0 rm nm ps (spFn c f)/\FnMOk f
def ok_pss {c:MCs} {t:TabA} {S:Str->FnM->Prop} {rm:Nat} (d:zn K mg "play_seat_step" yO ["bench","step"]) (CC:MCls K c) (TT:Tabs w K mg t) (hrm:rm<=6) (AU:OkM P w K mg base CX0 1 c.bn "active_under" ["self","mask"] (spAct c)) (LS:OkM P w K mg base CX0 3 c.bn "lay_seat" ["self","seat","active","numbers"] (spSeat c K))
  (SW:Xl P w K mg base c t S rm):Ok P w K mg base CX0 7 "play_seat_step" ["bench","step"] (spPSS c S):=by
 obtain ⟨g,fd,m,F,b⟩:=d;refine ⟨g,fd,m,F.kp,b,F.ok sc_play_seat_step (by rintro vs H Q E ⟨_,_,_,_,_,_,_,_,_,_,e,_⟩;rw [e];rfl) λcdv A outer s H vs Q E hr h=>?_⟩;obtain ⟨word,f,B,A,M,R,st,tv,M',hS,rfl,m,es,e0,eM,ok,q⟩:=h;obtain ⟨nm,ps,sg,FN,fo⟩:=SW word f hS;have nd:=sc_play_seat_step.nd;have hr3:=hr.mono (show 3<=6 by decide);have hr1:=hr.mono (show 1<=6 by decide);have hrF:Room rm _:=hr.mono hrm;have CN:=CC.n;unfold seatM at eM
 split at eM
 case h_2=>cases eM
 rename_i p k e1 el
 split at eM
 case isFalse=>cases eM
 rename_i hc;obtain ⟨p0,p8,k0,k16⟩:=hc;obtain ⟨⟨M1,ns⟩,ef,rfl⟩:=Option.map_eq_some_iff.mp eM;obtain ⟨pn,rfl⟩:∃ n:Nat,p=n:=⟨p.toNat,by omega⟩;obtain ⟨kn,rfl⟩:∃ n:Nat,k=n:=⟨k.toNat,by omega⟩;rw [q0z] at ef;have kn16:kn<16:=by omega
 obtain ⟨mr1,mr2⟩:=Xb ok kn16;obtain ⟨ai,al⟩:=act_in ok kn;have ml:=ok.ml;refine ⟨_,(zc (zu (i:=2) nd rfl (Or.inl rfl) (yg AU CC.n.c hr1 zt (pv 0) (zb (zr zR (pv 1) (pe_un un_neg ze) (λ_ _=>rfl)) zd)))
   (zg (yf (yg LS CC.n.c hr3 zt (pv 0) (zb (zr zR (pv 1) ze (λ_ _=>rfl)) (zb (pv 2) (zb (YJ (CX:=CX0) (k:=rm) (zr zch (Z7 TT.hs) (zr zR (pv 1) ze (λ_ _=>rfl)) (λ_ _=>rfl)) hrF zt (zb (pv 0) (zb (pv 1) (zb (pv 2) zd)))) zd))))))),?_⟩
 dsimp only [yh,Cx.nox,Cx.wish];refine ⟨_,rfl,A.b,_,_,rfl,m.b,rfl,_,rfl,_,rfl,st,_,_,_,rfl,rfl,SqT.of (m.h.sm _ _ es),atI_lst el,B,A,M,R,kn,rfl,m,by omega,ok.w0,mr1,mr2,λB1 H1 l s1 m1 ea=>?_⟩;obtain ⟨fn,efn,mfn⟩:=sg;obtain ⟨f2,fd2,mf2,kp,bb,FO⟩:=FN;cases mfn.symm.trans mf2;refine ⟨_,rfl,A.b,_,_,rfl,m1.b,rfl,_,rfl,st,_,_,_,rfl,rfl,SqT.of (m1.h.sm _ _ (s1 _ _ es)),zJ e1,_,rfl,_,rfl,st,_,_,_,rfl,rfl,SqT.of (m1.h.sm _ _ (s1 _ _ es)),zJ (j:=0) e0,t.s,word,.ref fn,.ref fn,rfl,rfl,TT.Ts,efn,rfl,?_⟩;refine ⟨fn,fd2,ps,spFn c f,rfl,FO,kp,bb,_,rfl,_,rfl,_,rfl,B1,A,M,R,st,l,tv,M.act kn,M1,ns,rfl,m1,s1 _ _ es,ea,ef,ok,ai,al,λB2 A2 H2 l2 s2 eb m2 en=>?_⟩;refine ⟨B2,A2,M1,R,pn,l,l2,M.act kn,ns,by rw [eb];rfl,m2,fo.ok ef ok,by rw [fo.g ef];exact p8,s2 _ _ ea,en,(fo.n ef).symm,λB3 H3 s3 m3=>?_⟩;rw [q0z,q0z] at q;exact q B3 A2 H3 ((s1.trans s2).trans s3) eb m3
def Mc.reads (M:Mc) (row:Nat) (js:Jb):Mc:={ M with tq:=M.tq++js.map λj=>(M.pc,("read":Str),M.adr row (M.base+j)) }
def Mc.valAt (M:Mc) (row:Nat) (j:Int):Int:=M.cells.getD (M.adr row (M.base+j)).toNat 0
def Mc.reads_snoc (M:Mc) (row:Nat) (js:Jb) (j:Int):M.reads row (js++[j])=(M.reads row js).touched "read" (M.adr row (M.base+j)):=by
 unfold Mc.reads Mc.touched;rw [Jk,← List.append_assoc];rfl
def rowIn (M:Mc) (row:Nat) (js:Jb):Prop:=row<M.starts.length/\∀ j∈js,0<=M.adr row (M.base+j)/\(M.adr row (M.base+j)).toNat<M.cells.length
open Classical in
noncomputable def ZR:FnM:=λtv M js=>match (tv[2]?:Jo) with
 | some (V.int r)=>if 0<=r/\rowIn M r.toNat js/\M.tq.length+js.length<100000 then some (M.reads r.toNat js,js.map λj=>some (M.valAt r.toNat j)) else none
 | _=>none
def YM {tv:Jn} {M M':Mc} {js:Jb} {ns:List (Option Int)} (h:ZR tv M js=some (M',ns)):∃ r:Nat,tv[2]?=some (.int r)/\rowIn M r js/\M.tq.length+js.length<100000/\M'=M.reads r js/\ns=js.map λj=>some (M.valAt r j):=by
 unfold ZR at h
 split at h
 ·rename_i r e
  split at h
  ·rename_i hc
   obtain ⟨r0,h1,h2⟩:=hc;cases h;exact ⟨r.toNat,by rw [e];congr 2;omega,h1,h2,rfl,rfl⟩
  ·cases h
 ·cases h
def loadM_ok:FnMOk ZR where
 ok:=λh ok=>by
  obtain ⟨r,_,_,_,rfl,_⟩:=YM h;exact ⟨ok.l1,ok.l64,ok.g,ok.nl,ok.ml,ok.mm,ok.w0,ok.w1⟩
 g:=λh=>by
  obtain ⟨r,_,_,_,rfl,_⟩:=YM h;rfl
 n:=λh=>by
  obtain ⟨r,_,_,_,_,rfl⟩:=YM h;rw [Ji]
def ok_loaded {c:MCs} (d:zn K mg "numbers_loaded" yP ["bench","step","active"]) (CC:MCls K c) (RC:OkM P w K mg base CX0 2 c.bn "read_cell" ["self","row","place"] (spRead c)):Ok P w K mg base CX0 3 "numbers_loaded" ["bench","step","active"] (spFn c ZR):=by
 obtain ⟨g,fd,m,F,b⟩:=d;refine ⟨g,fd,m,F.kp,b,F.ok sc_numbers_loaded (by rintro vs H Q E ⟨_,_,_,_,_,_,_,_,_,_,e,_⟩;rw [e];rfl) λcdv A outer s H vs Q E hr h=>?_⟩;obtain ⟨B,A,M,R,st,aa,tv,js,M',ns,rfl,m,es,ea,ef,ok,hj,hl,q⟩:=h;obtain ⟨r,e2,⟨hr0,hin⟩,ht,rfl,rfl⟩:=YM ef;have nd:=sc_numbers_loaded.nd;have hr2:=hr;have CN:=CC.n;have SL:(3000:Nat)<sizeLine:=by decide
 refine ⟨_,(zg (zm (yk ["lane","bench","step"] [none,some 0,some 1] rfl rfl rfl (Z6 (pv 2)) (λs3 H3 fp=>⟨zC (i:=0) (Jp ["lane","bench","step"]) rfl (Or.inl rfl),(yg RC CC.n.c hr2 zt (pv 1) (zb (zr (zcg (K:=K) rfl) (pv 2) ze (λ_ _=>rfl)) (zb (zk zF (YH (K:=K) rfl (pv 1) rfl) (pv 0)) zd)))⟩)))),?_⟩;dsimp only [yh,Cx.nox,Cx.wish];refine ⟨_,rfl,aa,rfl,⟨_,SqL.of (m.h.sm _ _ ea)⟩,_,rfl,λD nD=>?_⟩
 have m0:MAt c B A (M.reads r (js.take 0)) ((D,.lst (((js.take 0).map λj=>some (M.valAt r j)).map oV))::R) (upd H D (.lst [])):=by
  have e:M.reads r (js.take 0)=M:=by unfold Mc.reads;rw [List.take_zero];show { M with tq:=M.tq++[] }=M;rw [q3y]
  rw [e];exact m.newR nD
 generalize upd H D (.lst [])=H1 at m0 ⊢;let Pv1:Nat->St->Hp->Prop:=(λi σ J=>∃ (u:Jo) (B1:Hp) (A1:Ma),σ=[u,rq A.b,rq st]/\Same B B1/\A1.b=A.b/\MAt c B1 A1 (M.reads r (js.take i)) ((D,.lst (((js.take i).map λj=>some (M.valAt r j)).map oV))::R) J);refine ZD (K:=K) (a:=aa) (D:=D) (xs:=js.map V.int) Pv1 ⟨none,B,A,rfl,Same.refl _,rfl,m0⟩ (λi σ J _ ⟨_,B1,A1,_,s1,_,m1⟩=>SqL.of (m1.h.sm _ _ (s1 _ _ ea))) ?_ ?_
 ·clear m0
  rintro i y σ J hy ⟨u,B1,A1,rfl,s1,eb,m1⟩;obtain ⟨hlt,rfl⟩:=Yr hy;have mj:=L2.getD_mem hlt;have e9:js[i]?=some (js.getD i 0):=by rw [q1x,List.getElem?_eq_getElem hlt];rfl
  generalize js.getD i 0=j at mj e9;obtain ⟨j0,j1⟩:=hin j mj;refine ⟨_,rfl,A1.b,_,_,by rw [eb],m1.b,rfl,_,rfl,st,_,_,_,rfl,rfl,SqT.of (m1.h.sm _ _ (s1 _ _ es)),zJ (j:=2) e2,_,rfl,A1.b,_,_,_,.int M.base,by rw [eb],m1.b,CN.c,CN.base,rfl,_,rfl,_,_,rfl,rfl,B1,A1,M.reads r (js.take i),_,r,M.base+j,by rw [eb];rfl,m1,?_,hr0,j0,j1,λB2 A2 H2 s2 eb2 m2=>?_⟩
  ·show (M.tq++_).length<_
   rw [Jj,Ji,List.length_take];omega
  refine ⟨_,m2.getR,(by rw [Ji,Ji,List.length_take];omega),_,B2,A2,rfl,s1.trans s2,eb2.trans eb,?_⟩;have m3:=m2.putR (o':=.lst (((js.take (i+1)).map λj=>some (M.valAt r j)).map oV));have et:js.take (i+1)=js.take i++[j]:=by rw [List.take_add_one,e9];rfl
  rw [et,M.reads_snoc];rw [et,Jk,Jk] at m3;rw [Jk,Jk];exact m3
 ·rintro σ J ⟨u,B1,A1,rfl,s1,eb,m1⟩
  rw [Ji,List.take_length] at m1;have nb:B1 D=none:=m1.h.nw (D,_) (List.mem_of_getElem? atR);exact q _ A1 J D (s1.trans (zi (Same.refl _) nb)) eb m1.settle zf
abbrev EfM:=Jn->Mc->Option Mc
inductive spEf (c:MCs) (f:EfM) (vs:Jn) (H:Hp) (Q:VK) (_:XK):Prop
 | mk (B:Hp) (A:Ma) (M:Mc) (R:Jm) (st:Ad) (tv:Jn) (M':Mc) (_:vs=[.ref A.b,.ref st]) (_:MAt c B A M R H) (_:B st=some (.tup tv)) (_:f tv M=some M') (_:MOk M) (_:∀ B' A' H',Same B B'->A'.b=A.b->MAt c B' A' M' R H'->Q .non H')
inductive spPE (c:MCs) (S:Str->EfM->Prop) (vs:Jn) (H:Hp) (Q:VK) (_:XK):Prop
 | mk (word:Str) (f:EfM) (B:Hp) (A:Ma) (M:Mc) (R:Jm) (st:Ad) (tv:Jn) (M':Mc) (_:S word f) (_:vs=[.ref A.b,.ref st]) (_:MAt c B A M R H) (_:B st=some (.tup tv)) (_:tv[0]?=some (.str word)) (_:f tv M=some M') (_:MOk M) (_:∀ B' A' H',Same B B'->A'.b=A.b->MAt c B' A' M' R H'->Q .non H')
def zar (P:Program) (w:World) (K:Fg) (mg:J0) (base:Heap) (c:MCs) (t:TabA) (S:Str->EfM->Prop) (rm:Nat):Prop:=∀ word f,S word f->PySem.W.nsIn K t.s word=some none/\∃ (nm:Str) (ps:Jf),zH K mg t.e word nm/\Ok P w K mg base CX0 rm nm ps (spEf c f)
def ok_pe {c:MCs} {t:TabA} {S:Str->EfM->Prop} {rm:Nat} (hrm:rm<=7) (d:zn K mg "play_effect" xy ["bench","step"]) (TT:Tabs w K mg t) (EW:zar P w K mg base c t S rm):Ok P w K mg base CX0 8 "play_effect" ["bench","step"] (spPE c S):=by
 obtain ⟨g,fd,m,F,b⟩:=d;refine ⟨g,fd,m,F.kp,b,F.ok XV (by rintro vs H Q E ⟨_,_,_,_,_,_,_,_,_,_,e,_⟩;rw [e];rfl) λcdv A outer s H vs Q E hr h=>?_⟩;obtain ⟨word,f,B,A,M,R,st,tv,M',hS,rfl,m,es,e0,eM,ok,q⟩:=h;obtain ⟨_,nm,ps,sg,FN⟩:=EW word f hS;have hr4:=hr.mono (show 4<=7 by decide);have hrF:Room rm _:=hr.mono hrm;obtain ⟨fn,efn,mfn⟩:=sg;obtain ⟨f2,fd2,mf2,kp,bb,FO⟩:=FN;cases mfn.symm.trans mf2;refine ⟨_,(zg (yf (YJ (CX:=CX0) (k:=rm) (zr zch (Z7 TT.he) (zr zR (pv 1) ze (λ_ _=>rfl)) (λ_ _=>rfl)) hrF zt (zb (pv 0) (zb (pv 1) zd))))),?_⟩;dsimp only [yh,Cx.nox,Cx.wish];exact ⟨_,rfl,st,_,_,_,rfl,rfl,SqT.of (m.h.sm _ _ es),zJ (j:=0) e0,t.e,word,.ref fn,.ref fn,rfl,rfl,TT.Te,efn,rfl,fn,fd2,ps,spEf c f,rfl,FO,kp,bb,_,rfl,_,rfl,B,A,M,R,st,tv,M',rfl,m,es,eM,ok,q⟩
inductive spIn (aD:Ad) (K:Fg) (vs:Jn) (H:Hp) (Q:VK) (_:XK):Prop
 | mk (word:Str) (r:Je) (_:vs=[.str word]) (_:PySem.W.nsIn K aD word=some r) (_:Q (.bl r.isSome) H)
def ok_lsw {t:TabA} (d:zn K mg "lays_seat" Zl ["word"]) (TT:Tabs w K mg t):Ok P w K mg base CX0 1 "lays_seat" ["word"] (spIn t.s K):=by
 obtain ⟨g,fd,m,F,b⟩:=d;refine ⟨g,fd,m,F.kp,b,F.ok zby (by rintro vs H Q E ⟨_,_,e,_⟩;rw [e];rfl) λcdv A outer s H vs Q E hr h=>?_⟩;obtain ⟨word,r,rfl,e,q⟩:=h;refine ⟨_,(zg (zm (Zp za5 (pv 0) (Z7 TT.hs) rfl))),?_⟩;dsimp only [yh,Cx.nox,Cx.wish];exact ⟨_,rfl,word,t.s,r,rfl,rfl,TT.Ts,TT.ls,e,q⟩
def ok_hew {t:TabA} (d:zn K mg "has_effect" xV ["word"]) (TT:Tabs w K mg t):Ok P w K mg base CX0 1 "has_effect" ["word"] (spIn t.e K):=by
 obtain ⟨g,fd,m,F,b⟩:=d;refine ⟨g,fd,m,F.kp,b,F.ok zav (by rintro vs H Q E ⟨_,_,e,_⟩;rw [e];rfl) λcdv A outer s H vs Q E hr h=>?_⟩;obtain ⟨word,r,rfl,e,q⟩:=h;refine ⟨_,(zg (zm (Zp za5 (pv 0) (Z7 TT.he) rfl))),?_⟩;dsimp only [yh,Cx.nox,Cx.wish];exact ⟨_,rfl,word,t.e,r,rfl,rfl,TT.Te,TT.le,e,q⟩
def Mc.puts (M:Mc) (row:Nat) (ps:List (Int×Int)):Mc:=ps.foldl (λM p=>M.wrote row p.1 p.2) M
def Mc.puts_snoc (M:Mc) (row:Nat) (ps:List (Int×Int)) (p:Int×Int):M.puts row (ps++[p])=(M.puts row ps).wrote row p.1 p.2:=by
 unfold Mc.puts;rw [List.foldl_append];rfl
theorem Mc.puts_is (M:Mc) (row:Nat) (ps:List (Int×Int)):M.puts row ps={ M with cells:=(M.puts row ps).cells,tq:=M.tq++ps.map λp=>(M.pc,("write":Str),M.adr row p.1) }/\(M.puts row ps).cells.length=M.cells.length:=by
 induction ps generalizing M with
 | nil=>exact ⟨by show M={ M with tq:=M.tq++[] };rw [q3y],rfl⟩
 | cons p ps ih =>
  obtain ⟨a,b⟩:=ih (M.wrote row p.1 p.2);have e:M.puts row (p::ps)=(M.wrote row p.1 p.2).puts row ps:=rfl;rw [e];refine ⟨?_,b.trans (by show (M.cells.set _ _).length=_;rw [List.length_set])⟩;rw [a];show ({ M with cells:=_,tq:=(M.tq++[_])++ps.map _ }:Mc)={ M with cells:=_,tq:=_ };rw [List.append_assoc];rfl
open Classical in
noncomputable def Za:EfM:=λtv M=>match (tv[1]?:Jo),(tv[2]?:Jo),(tv[3]?:Jo) with
 | some (V.int r),some (V.int p),some (V.int k)=>if 0<=r/\0<=p/\(p+1)*M.group<=8/\0<=k/\k<16/\rowIn M r.toNat (M.act k.toNat)/\M.tq.length+(M.act k.toNat).length<100000 then some (M.puts r.toNat ((M.act k.toNat).map λj=>(M.base+j,M.nq p.toNat j))) else none
 | _,_,_=>none
def storeM_is {tv:Jn} {M M':Mc} (h:Za tv M=some M'):∃ r p k:Nat,tv[1]?=some (.int r)/\tv[2]?=some (.int p)/\tv[3]?=some (.int k)/\((p:Int)+1)*M.group<=8/\k<16/\rowIn M r (M.act k)/\M.tq.length+(M.act k).length<100000/\M'=M.puts r ((M.act k).map λj=>(M.base+j,M.nq p j)):=by
 unfold Za at h
 split at h
 ·rename_i r p k e1 e2 e3
  split at h
  ·rename_i hc
   obtain ⟨r0,p0,p8,k0,k1,hin,ht⟩:=hc;cases h;refine ⟨r.toNat,p.toNat,k.toNat,?_,?_,?_,?_,by omega,hin,ht,rfl⟩
   ·rw [e1];congr 2;omega
   ·rw [e2];congr 2;omega
   ·rw [e3];congr 2;omega
   ·rw [Int.toNat_of_nonneg p0];exact p8
  ·cases h
 ·cases h
def xb {α:Type} {f:α->V} {l:List α} {i:Nat} {x:V} (h:(l.map f)[i]?=some x):∃ a,l[i]?=some a/\x=f a:=by
 rw [List.getElem?_map] at h;obtain ⟨a,e,z⟩:=Option.map_eq_some_iff.mp h;exact ⟨a,e,z.symm⟩
def ok_store {c:MCs} (d:zn K mg "play_store" xR ["bench","step"]) (hzip:mg "zip"=none) (CC:MCls K c) (AU:OkM P w K mg base CX0 1 c.bn "active_under" ["self","mask"] (spAct c)) (NI:OkM P w K mg base CX0 3 c.bn "numbers_in" ["self","seat","active"] (spNums c K))
  (WC:OkM P w K mg base CX0 2 c.bn "write_cell" ["self","row","place","number"] (spWrite c)):Ok P w K mg base CX0 4 "play_store" ["bench","step"] (spEf c Za):=by
 obtain ⟨g,fd,m,F,b⟩:=d;refine ⟨g,fd,m,F.kp,b,F.ok sc_play_store (by rintro vs H Q E ⟨_,_,_,_,_,_,_,e,_⟩;rw [e];rfl) λcdv A outer s H vs Q E hr h=>?_⟩;obtain ⟨B,A,M,R,st,tv,M',rfl,m,es,ef,ok,q⟩:=h;have nd:=sc_play_store.nd;have hr3:=hr;have hr2:=hr.mono (show 2<=3 by decide);have hr1:=hr.mono (show 1<=3 by decide);have CN:=CC.n;have ml:=ok.ml;obtain ⟨r,p,k,e1,e2,e3,p8,k16,⟨hr0,hin⟩,ht,rfl⟩:=storeM_is ef;obtain ⟨mr1,mr2⟩:=Xb ok k16;obtain ⟨ai,al⟩:=act_in ok k;refine ⟨_,(zc (zu (i:=2) nd rfl (Or.inl rfl) (yg AU CC.n.c hr1 zt (pv 0) (zb (zr zR (pv 1) ze (λ_ _=>rfl)) zd)))
   (zg (xr PassesOwn.never rfl (pi_zip rfl hzip (zb (pv 2) (zb (yg NI CC.n.c hr3 zt (pv 0) (zb (zr zR (pv 1) ze (λ_ _=>rfl)) (zb (pv 2) zd))) zd))) (zb7 rfl (yI (zC (i:=3) nd rfl (Or.inl rfl)) (yI (zC (i:=4) nd rfl (Or.inl rfl)) YF))) (zg (yf (yg WC CC.n.c hr2 zt (pv 0) (zb (zr zR (pv 1) ze (λ_ _=>rfl)) (zb (zk zF (zq (pv 0) rfl) (pv 3)) (zb (pv 4) zd))))))))),?_⟩
 dsimp only [yh,Cx.nox,Cx.wish];refine ⟨_,rfl,A.b,_,_,rfl,m.b,rfl,_,rfl,st,_,_,_,rfl,rfl,SqT.of (m.h.sm _ _ es),zJ (j:=3) e3,B,A,M,R,k,rfl,m,by omega,ok.w0,mr1,mr2,λB1 H1 l s1 m1 ea=>?_⟩;refine ⟨_,rfl,_,rfl,A.b,_,_,rfl,m1.b,rfl,_,rfl,st,_,_,_,rfl,rfl,SqT.of (m1.h.sm _ _ (s1 _ _ es)),zJ (j:=2) e2,_,rfl,B1,A,M,R,p,l,M.act k,rfl,m1,ok,p8,ea,ai,al,λB2 H2 l2 s2 m2 en=>?_⟩;refine ⟨l,l2,rfl,⟨_,SqL.of (m2.h.sm _ _ (s2 _ _ ea))⟩,⟨_,SqL.of (m2.h.sm _ _ en)⟩,?_⟩;generalize M.act k=js at *;let pr:Int->Int×Int:=λj=>(M.base+j,M.nq p j);let Pv1:Nat->St->Hp->Prop:=(λi σ J=>∃ u3 u4 B3 A3,σ=[rq A.b,rq st,rq l,u3,u4]/\Same B2 B3/\A3.b=A.b/\MAt c B3 A3 (M.puts r ((js.take i).map pr)) R J);refine zck (xs:=js.map V.int) (ys:=(js.map (M.nq p)).map V.int) Pv1 ⟨none,none,B2,A,rfl,Same.refl _,rfl,m2⟩ (λi σ J _ ⟨_,_,B3,A3,_,s3,_,m3⟩=>⟨SqL.of (m3.h.sm _ _ (s3 _ _ (s2 _ _ ea))),SqL.of (m3.h.sm _ _ (s3 _ _ en))⟩) (by rw [Ji,Ji,Ji]) ?_ ?_
 ·rintro i x y σ J T hx hy ⟨u3,u4,B3,A3,rfl,s3,eb,m3⟩ nT
  obtain ⟨j,e9,rfl⟩:=xb hx;obtain ⟨z,e10,rfl⟩:=xb hy;rw [List.getElem?_map,e9] at e10;cases e10;have mj:j∈js:=List.mem_of_getElem? e9;obtain ⟨j0,j1⟩:=hin j mj;have m4:=m3.grow (o:=.tup [.int j,.int (M.nq p j)]) nT;have s4:Same B3 (upd B3 T (.tup [.int j,.int (M.nq p j)])):=zi (Same.refl _) (m3.h.free nT);have e4:upd B3 T (.tup [.int j,.int (M.nq p j)]) T=some (.tup [.int j,.int (M.nq p j)]):=zf;generalize upd J T (.tup [.int j,.int (M.nq p j)])=J4 at m4 ⊢;generalize upd B3 T (.tup [.int j,.int (M.nq p j)])=B4 at m4 s4 e4;obtain ⟨pi1,pi2⟩:=M.puts_is r ((js.take i).map pr);have hb:(M.puts r ((js.take i).map pr)).base=M.base:=by rw [pi1]
  have hs:(M.puts r ((js.take i).map pr)).starts=M.starts:=by rw [pi1]
  have hT:(M.puts r ((js.take i).map pr)).tq.length<100000:=by
   rw [pi1];show (M.tq++_).length<_;rw [Jj,Ji,Ji,List.length_take];have:i<js.length:=(List.getElem?_eq_some_iff.mp e9).1;omega
  refine ⟨T,_,rfl,SqT.of (m4.h.sm _ _ e4),rfl,_,_,rfl,_,_,rfl,rfl,?_⟩;refine ⟨_,rfl,A3.b,_,_,by rw [eb],m4.b,rfl,_,rfl,st,_,_,_,rfl,rfl,SqT.of (m4.h.sm _ _ (s4 _ _ (s3 _ _ (s2 _ _ (s1 _ _ es))))),zJ (j:=1) e1,_,rfl,A3.b,_,_,_,.int M.base,by rw [eb],m4.b,CN.c,CN.base,(by show some (V.int _)=_;rw [hb]),_,rfl,_,_,rfl,rfl,_,rfl,B4,A3,_,R,r,M.base+j,M.nq p j,by rw [eb];rfl,m4,hT,?_,?_,?_,λB5 A5 H5 s5 eb5 m5=>?_⟩
  ·rw [hs];exact hr0
  ·unfold Mc.adr;rw [hs];exact j0
  ·unfold Mc.adr;rw [hs,pi2];exact j1
  ·refine ⟨_,_,B5,A5,rfl,(s3.trans s4).trans s5,eb5.trans eb,?_⟩
   have et:(js.take (i+1)).map pr=(js.take i).map pr++[pr j]:=by rw [List.take_add_one,e9,Jk];rfl
   rw [et,M.puts_snoc];exact m5
 ·rintro σ J ⟨u3,u4,B3,A3,rfl,s3,eb,m3⟩
  rw [Ji,List.take_length] at m3;exact q B3 A3 J ((s1.trans s2).trans s3) eb m3
abbrev WyM:=Jn->Mc->Mc->Int->Prop
inductive spWy (c:MCs) (f:WyM) (vs:Jn) (H:Hp) (Q:VK) (_:XK):Prop
 | mk (B:Hp) (A:Ma) (M:Mc) (R:Jm) (st:Ad) (tv:Jn) (M':Mc) (n:Int) (_:vs=[.ref A.b,.ref st]) (_:MAt c B A M R H) (_:B st=some (.tup tv)) (_:f tv M M' n) (_:∀ B' A' H',Same B B'->A'.b=A.b->MAt c B' A' M' R H'->Q (.int n) H')
def ZY:WyM:=λtv M M' n=>∃ mn_ group:Int,tv[1]?=some (.int mn_)/\tv[2]?=some (.int group)/\MOk0 M/\(group=1∨group=2∨group=4)/\0<=mn_/\M'=M.round mn_ group/\n=M.pc+1
def Xn:WyM:=λtv M M' n=>MOk0 M/\(M.group=1∨M.group=2∨M.group=4)/\(if M.base+M.bq<M.mn_ then M'=M.strip (M.base+M.bq)/\n=M.oq+1 else M'=M/\n=M.pc+1)
def ok_begin {c:MCs} (d:zn K mg "play_begin" xU ["bench","step"]) (CC:MCls K c) (OR:OkM P w K mg base CX0 4 c.bn "open_round" ["self","many","group"] (spRound c)):Ok P w K mg base CX0 5 "play_begin" ["bench","step"] (spWy c ZY):=by
 obtain ⟨g,fd,m,F,b⟩:=d;refine ⟨g,fd,m,F.kp,b,F.ok zau (by rintro vs H Q E ⟨_,_,_,_,_,_,_,_,e,_⟩;rw [e];rfl) λcdv A outer s H vs Q E hr h=>?_⟩;obtain ⟨B,A,M,R,st,tv,M',n,rfl,m,es,⟨mn_,group,e1,e2,ok,hg,hm,rfl,rfl⟩,q⟩:=h;have hr4:=hr;have CN:=CC.n;refine ⟨_,(zc (yf (yg OR CC.n.c hr4 zt (pv 0) (zb (zr zR (pv 1) ze (λ_ _=>rfl)) (zb (zr zR (pv 1) ze (λ_ _=>rfl)) zd))))
   (zg (zm (zk zF (zq (pv 0) rfl) ze)))),?_⟩
 dsimp only [yh,Cx.nox,Cx.wish];refine ⟨_,rfl,A.b,_,_,rfl,m.b,rfl,_,rfl,st,_,_,_,rfl,rfl,SqT.of (m.h.sm _ _ es),zJ (j:=1) e1,_,rfl,st,_,_,_,rfl,rfl,SqT.of (m.h.sm _ _ es),zJ (j:=2) e2,B,A,M,R,mn_,group,rfl,m,ok,hg,hm,λB1 A1 H1 s1 eb m1=>?_⟩;exact ⟨_,rfl,A1.b,_,_,_,.int M.pc,by rw [eb],m1.b,CN.c,CN.pc,rfl,_,_,rfl,rfl,q B1 A1 H1 s1 eb m1⟩
def ok_next {c:MCs} (d:zn K mg "play_next" Zk ["bench","step"]) (CC:MCls K c) (BS:OkM P w K mg base CX0 3 c.bn "begin_strip" ["self","base"] (spStrip c)):Ok P w K mg base CX0 5 "play_next" ["bench","step"] (spWy c Xn):=by
 obtain ⟨g,fd,m,F,b⟩:=d;refine ⟨g,fd,m,F.kp,b,F.ok sc_play_next (by rintro vs H Q E ⟨_,_,_,_,_,_,_,_,e,_⟩;rw [e];rfl) λcdv A outer s H vs Q E hr h=>?_⟩;obtain ⟨B,A,M,R,st,tv,M',n,rfl,m,es,⟨ok,hg,hx⟩,q⟩:=h;have nd:=sc_play_next.nd;have hr3:=hr.mono (show 3<=4 by decide);have CN:=CC.n;refine ⟨_,(zc (zu (i:=2) nd rfl (Or.inl rfl) (zk zF (zq (pv 0) rfl) (zq (pv 0) rfl)))
   (zc (zQ (zB Yi (pv 2) (zq (pv 0) rfl) (zG _)) (zc (yf (yg BS CC.n.c hr3 zt (pv 0) (zb (pv 2) zd)))
   (zg (zm (zk zF (zq (pv 0) rfl) ze)))) zv)
   (zg (zm (zk zF (zq (pv 0) rfl) ze))))),?_⟩
 dsimp only [yh,Cx.nox,Cx.wish];show (let s1:L2.TS:=_;let s2:L2.TS:=L2.tSeq _ s1;L2.tSeq _ s2 _ _ _);intro s1 s2;refine ⟨_,rfl,A.b,_,_,_,.int M.base,rfl,m.b,CN.c,CN.base,rfl,_,rfl,A.b,_,_,_,.int M.bq,rfl,m.b,CN.c,CN.bq,rfl,_,_,rfl,rfl,?_⟩;refine ⟨_,rfl,_,rfl,A.b,_,_,_,.int M.mn_,rfl,m.b,CN.c,CN.mn_,rfl,_,_,rfl,rfl,_,rfl,?_⟩;refine yU (λz=>?_) (λz=>?_)
 ·have z:=of_decide_eq_true z
  rw [if_pos z] at hx;obtain ⟨rfl,rfl⟩:=hx;refine ⟨_,rfl,A.b,_,_,rfl,m.b,rfl,_,rfl,B,A,M,R,M.base+M.bq,rfl,m,ok,hg,by omega,λB1 A1 H1 s1 eb m1=>?_⟩;exact ⟨_,rfl,A1.b,_,_,_,.int M.oq,by rw [eb],m1.b,CN.c,CN.oq,rfl,_,_,rfl,rfl,q B1 A1 H1 s1 eb m1⟩
 ·rw [if_neg (λy=>z (decide_eq_true y))] at hx
  obtain ⟨rfl,rfl⟩:=hx;exact ⟨_,rfl,A.b,_,_,_,.int M'.pc,rfl,m.b,CN.c,CN.pc,rfl,_,_,rfl,rfl,q B A H (Same.refl _) rfl m⟩
structure Lex where
 S:Str->FnM->Prop
 E:Str->EfM->Prop
 W:Str->WyM->Prop
inductive Step (L:Lex) (tv:Jn) (M:Mc):Mc->Prop
 | seat {word f M'}:L.S word f->tv[0]?=some (.str word)->seatM f tv M=some M'->MOk M->Step L tv M { M' with pc:=M'.pc+1 }
 | eff {word f M'}:L.E word f->tv[0]?=some (.str word)->f tv M=some M'->MOk M->Step L tv M { M' with pc:=M'.pc+1 }
 | way {word f M' n}:L.W word f->tv[0]?=some (.str word)->f tv M M' n->Step L tv M { M' with pc:=n }
def zdy (P:Program) (w:World) (K:Fg) (mg:J0) (base:Heap) (c:MCs) (t:TabA) (S:Str->WyM->Prop) (rm:Nat):Prop:=∀ word f,S word f->PySem.W.nsIn K t.s word=some none/\PySem.W.nsIn K t.e word=some none/\∃ (nm:Str) (ps:Jf),zH K mg t.w word nm/\Ok P w K mg base CX0 rm nm ps (spWy c f)
inductive spPB (c:MCs) (L:Lex) (vs:Jn) (H:Hp) (Q:VK) (_:XK):Prop
 | mk (B:Hp) (A:Ma) (M:Mc) (R:Jm) (st:Ad) (tv:Jn) (M':Mc) (_:vs=[.ref A.b,.ref st]) (_:MAt c B A M R H) (_:B st=some (.tup tv)) (_:Step L tv M M') (_:∀ B' A' H' M1,Same B B'->A'.b=A.b->MAt c B' A' M1 R H'->M'={ M1 with pc:=M'.pc }->Q (.int M'.pc) H')
theorem ok_pb {c:MCs} {t:TabA} {L:Lex} {rm rs re:Nat} (d:zn K mg "place_behind" xn ["bench","step"]) (CC:MCls K c) (TT:Tabs w K mg t) (hrm:rm<=8) (SW:Xl P w K mg base c t L.S rs) (EW:zar P w K mg base c t L.E re) (WW:zdy P w K mg base c t L.W rm)
  (LSW:Ok P w K mg base CX0 1 "lays_seat" ["word"] (spIn t.s K)) (HEW:Ok P w K mg base CX0 1 "has_effect" ["word"] (spIn t.e K)) (PSS:Ok P w K mg base CX0 7 "play_seat_step" ["bench","step"] (spPSS c L.S)) (PE:Ok P w K mg base CX0 8 "play_effect" ["bench","step"] (spPE c L.E)) :
  Ok P w K mg base CX0 9 "place_behind" ["bench","step"] (spPB c L):=by
 obtain ⟨g,fd,m,F,b⟩:=d;refine ⟨g,fd,m,F.kp,b,F.ok Xs (by rintro vs H Q E ⟨_,_,_,_,_,_,_,e,_⟩;rw [e];rfl) λcdv A outer s H vs Q E hr h=>?_⟩;obtain ⟨B,A,M,R,st,tv,M',rfl,m,es,hS,q⟩:=h;have hr5:=hr;have hr4:=hr.mono (show 7<=8 by decide);have hr1:=hr.mono (show 1<=8 by decide);have hrF:Room rm _:=hr.mono hrm;have CN:=CC.n;refine ⟨_,(zc (zQ (Zu (zL LSW hr1 (by rfl) zt (zb (zr zR (pv 1) ze (λ_ _=>rfl)) zd))) (zc (yf (zL PSS hr4 (by rfl) zt (zb (pv 0) (zb (pv 1) zd))))
   (zg (zm (zk zF (zq (pv 0) rfl) ze)))) zv)
   (zc (zQ (Zu (zL HEW hr1 (by rfl) zt (zb (zr zR (pv 1) ze (λ_ _=>rfl)) zd))) (zc (yf (zL PE hr5 (by rfl) zt (zb (pv 0) (zb (pv 1) zd))))
   (zg (zm (zk zF (zq (pv 0) rfl) ze)))) zv)
   (zg (zm (YJ (CX:=CX0) (k:=rm) (zr zch (Z7 TT.hw) (zr zR (pv 1) ze (λ_ _=>rfl)) (λ_ _=>rfl)) hrF zt (zb (pv 0) (zb (pv 1) zd))))))),?_⟩
 dsimp only [yh,Cx.nox,Cx.wish];have sqt:SqT K H st tv:=SqT.of (m.h.sm _ _ es)
 cases hS with
 | seat hs e0 eM ok =>
  rename_i word f M1;obtain ⟨nm,ps,⟨fn,efn,mfn⟩,FN,fo⟩:=SW word f hs;refine ⟨_,rfl,st,_,_,_,rfl,rfl,sqt,zJ (j:=0) e0,word,_,rfl,efn,_,rfl,?_⟩;refine xG ?_;refine ⟨_,rfl,_,rfl,word,f,B,A,M,R,st,tv,M1,hs,rfl,m,es,e0,eM,ok,λB1 A1 H1 s1 eb m1=>?_⟩;exact ⟨_,rfl,A1.b,_,_,_,.int M1.pc,by rw [eb],m1.b,CN.c,CN.pc,rfl,_,_,rfl,rfl,q B1 A1 H1 M1 s1 eb m1 rfl⟩
 | eff hs e0 eM ok =>
  rename_i word f M1;obtain ⟨n1,nm,ps,⟨fn,efn,mfn⟩,FN⟩:=EW word f hs;refine ⟨_,rfl,st,_,_,_,rfl,rfl,sqt,zJ (j:=0) e0,word,_,rfl,n1,_,rfl,?_⟩;refine yw ?_;refine ⟨_,rfl,st,_,_,_,rfl,rfl,sqt,zJ (j:=0) e0,word,_,rfl,efn,_,rfl,?_⟩;refine xG ?_;refine ⟨_,rfl,_,rfl,word,f,B,A,M,R,st,tv,M1,hs,rfl,m,es,e0,eM,ok,λB1 A1 H1 s1 eb m1=>?_⟩;exact ⟨_,rfl,A1.b,_,_,_,.int M1.pc,by rw [eb],m1.b,CN.c,CN.pc,rfl,_,_,rfl,rfl,q B1 A1 H1 M1 s1 eb m1 rfl⟩
 | way hs e0 eM =>
  rename_i word f M1 n;obtain ⟨n1,n2,nm,ps,⟨fn,efn,mfn⟩,FN⟩:=WW word f hs;obtain ⟨f2,fd2,mf2,kp,bb,FO⟩:=FN;cases mfn.symm.trans mf2;refine ⟨_,rfl,st,_,_,_,rfl,rfl,sqt,zJ (j:=0) e0,word,_,rfl,n1,_,rfl,?_⟩;refine yw ?_;refine ⟨_,rfl,st,_,_,_,rfl,rfl,sqt,zJ (j:=0) e0,word,_,rfl,n2,_,rfl,?_⟩;refine yw ?_;exact ⟨_,rfl,st,_,_,_,rfl,rfl,sqt,zJ (j:=0) e0,t.w,word,.ref fn,.ref fn,rfl,rfl,TT.Tw,efn,rfl,fn,fd2,ps,spWy c f,rfl,FO,kp,bb,_,rfl,_,rfl,B,A,M,R,st,tv,M1,n,rfl,m,es,eM,λB1 A1 H1 s1 eb m1=>q B1 A1 H1 M1 s1 eb m1 rfl⟩
def yN {F:List (Str×V)} {n:Nat} (h:F.length+n<1000):F.length<1000:=by omega
theorem yM {F:List (Str×V)} {n:Nat} (f:Str) (v:V) (h:F.length+(n+1)<1000):∃ g,zO f v F=g/\g.length+n<1000:=by
 have l:∀ F:List (Str×V),(zO f v F).length<=F.length+1:=by
  intro F
  induction F with
  | nil=>exact Nat.le_refl _
  | cons p F ih =>
   obtain ⟨g,x⟩:=p;show (if g=f then (g,v)::F else (g,x)::zO f v F).length<=_
   split
   ·exact Nat.le_succ _
   ·exact Nat.succ_le_succ ih
 exact ⟨_,rfl,by have:=l F;omega⟩
theorem zah {α:Type}:∀ (L:List α) (i:Nat) (p:α),L[i]?=some p->(p::L.eraseIdx i).Perm L
 | a::L,0,p,e=>by cases e;exact .refl _
 | a::L,i+1,p,e=>(List.Perm.swap a p _).trans (.cons a (zah L i p e))
def zX {B H:Hp} {L:Jm} {p:Ad×HO} (h:Hd B L H) (i:Nat) (e:L[i]?=some p):Hd B (p::L.eraseIdx i) H:=h.perm (zah L i p e).symm
theorem zc6 {f:Str} {v:V}:∀ {F:List (Str×V)},f ∉ F.map Prod.fst->zO f v F=F++[(f,v)]
 | [],_=>rfl
 | (g,x)::F,h=>by
  show (if g=f then (g,v)::F else (g,x)::zO f v F)=_;rw [if_neg λe=>h (by rw [← e];exact q1z),zc6 λm=>h (q1y _ m)];rfl
theorem foldF:∀ (ps acc:List (Str×V)),((acc++ps).map Prod.fst).Nodup->ps.foldl (λF p=>zO p.1 p.2 F) acc=acc++ps
 | [],acc,_=>(q3y _).symm
 | p::ps,acc,h=>by
  have e:acc++p::ps=(acc++[p])++ps:=by rw [List.append_assoc];rfl
  have n:p.1 ∉ acc.map Prod.fst:=λm=>by
   rw [Jk,List.map_cons] at h;exact (List.nodup_append.mp h).2.2 _ m _ q1z rfl
  show ps.foldl _ (zO p.1 p.2 acc)=_;rw [zc6 n,foldF ps (acc++[p]) (by rw [← e];exact h),e]
def foldF0 (ps:List (Str×V)) (h:(ps.map Prod.fst).Nodup):ps.foldl (λF p=>zO p.1 p.2 F) []=ps:=(foldF ps [] h).trans (List.nil_append _)
inductive spStart (K:Fg) (vs:Jn) (H:Hp) (Q:VK) (_:XK):Prop
 | mk (p:Ad) (ns:Jb) (r:Int) (_:vs=[.ref p,.int r]) (_:SqL K H p (ns.map V.int)) (_:0<=r) (_:∀ H',Same H H'->Q (.int (ns.take r.toNat).sum) H')
def ok_start (d:zn K mg "start_of" ZG ["lengths","row"]) (hsum:mg "sum"=none):Ok P w K mg base CX0 1 "start_of" ["lengths","row"] (spStart K):=by
 obtain ⟨g,fd,m,F,b⟩:=d;refine ⟨g,fd,m,F.kp,b,F.ok zc0 (by rintro vs H Q E ⟨_,_,_,e,_⟩;rw [e];rfl) λcdv A outer s H vs Q E hr h=>?_⟩;obtain ⟨p,ns,r,rfl,hS,h0,k⟩:=h;refine ⟨_,(zg (zm (zw (zdv rfl) (by rfl) hsum PyProof.Rows.boot_sum (zb (YG Xv (pv 0) XC (XB (pv 1))) zd)))),?_⟩;dsimp only [yh,Cx.nox,Cx.wish];refine ⟨_,rfl,_,rfl,r,rfl,p,_,rfl,hS,λl hl=>?_⟩;rw [zbf h0];exact ⟨l,_,rfl,SqL.of zf,k _ (zi (Same.refl H) hl)⟩
def Zb (lens:Jb):Jb:=(List.range lens.length).map λr=>(lens.take r).sum
def Mc.fresh (lens cells:Jb) (L:Nat) (dust picks:Jb):Mc where
 lens:=lens
 starts:=Zb lens
 cells:=cells
 lq:=L
 nums:=List.replicate (8*L) 0
 mq:=List.replicate 16 (List.replicate (4*L) false)
 slots:=[]
 dust:=dust
 dq:=0
 picks:=picks
 pq:=0
 tq:=[]
 pc:=0
 oq:=0
 mn_:=0
 group:=1
 base:=0
 bq:=0
 wq:=0
 fq:=[]
 cut:=none
 cq:=none
 raised:=false
 turns:=[]
 rq_:=none
theorem msk_fresh (ms:Jg) (r:List Bool):((ms.zip (List.replicate ms.length r)).map λp=>(p.1,HO.lst (p.2.map V.bl)))=ms.map λa=>(a,HO.lst (r.map V.bl)):=by
 induction ms with
 | nil=>rfl
 | cons a ms ih =>
  rw [q3x,List.replicate_succ,List.zip_cons_cons,List.map_cons,List.map_cons,ih]
inductive spInitN (c:MCs) (K:Fg) (vs:Jn) (H:Hp) (Q:VK) (_:XK):Prop
 | mk (B:Hp) (x dx l1 l2 l3 l4:Ad) (lens cells dust picks:Jb) (L:Nat) (_:vs=[.ref x,.ref l1,.ref l2,.int L,.ref l3,.ref l4]) (_:Hd B [(x,.ins c.bn dx [])] H) (_:SqL K B l1 (lens.map V.int)) (_:SqL K B l2 (cells.map V.int)) (_:SqL K B l3 (dust.map V.int)) (_:SqL K B l4 (picks.map V.int)) (_:1<=L) (_:L<=64) (_:lens.length<=1000) (_:∀ B' A' H',Same B B'->A'.b=x->MAt c B' A' (Mc.fresh lens cells L dust picks) [] H'->Q .non H')
theorem ok_initN {c:MCs} {t1 t2:Tok} (d:Yt K c.bn "Bench.__init__" xY ["self","lengths","cells","lanes","dust","picks"]) (CC:MCls K c) (hlist:mg "list"=none) (hlen:mg "len"=none) (hrg:mg "range"=none) (hMT:mg "MOST_TOGETHER"=some (.int 4 t1)) (hMM:mg "MANY_MASKS"=some (.int 16 t2))
  (hCb:mg "Boxes"=some (.ref c.bx)) (hCf:mg "Feed"=some (.ref c.fe)) (SO:Ok P w K mg base CX0 1 "start_of" ["lengths","row"] (spStart K)) (IB:OkI P w K mg base CX0 1 c.bx ["self","lanes"] (spInitB c.bx)) (IF:OkI P w K mg base CX0 1 c.fe ["self","numbers"] (spInitF K c.fe)) :
  OkI P w K mg base CX0 3 c.bn ["self","lengths","cells","lanes","dust","picks"] (spInitN c K):=by
 obtain ⟨f,fd,m,F,bd⟩:=d;refine ⟨f,fd,m,bd,F.ok sc_Bench_init (by rintro vs H Q E ⟨_,_,_,_,_,_,_,_,_,_,_,_,e,_⟩;rw [e];rfl) λcdv A outer s H vs Q E hr h=>?_⟩;obtain ⟨B,x,dx,l1,l2,l3,l4,lens,cells,dust,picks,L,rfl,h,q1,q2,q3,q4,L1,L64,hl,q⟩:=h;have nd:=sc_Bench_init.nd;have hr2:=hr;have hr1:=hr.mono (show 1<=2 by decide);have CN:=CC.n;refine ⟨_,(zc (zI (pv 0) (ya yc (by rfl) hlist PyProof.Rows.boot_list (zb (pv 1) zd)) rfl)
   (zc (zI (pv 0) (yk ["row","lengths"] [none,some 1] rfl rfl rfl (zU rfl hrg (zb (zw zP (by rfl) hlen PySem.boot_len (zb (pv 1) zd)) zd)) (λs3 H3 fp=>⟨zC (i:=0) (Jp ["row","lengths"]) rfl (Or.inl rfl),(zL SO hr1 (by rfl) zt (zb (pv 1) (zb (pv 0) zd)))⟩)) rfl)
   (zc (zI (pv 0) (ya yc (by rfl) hlist PyProof.Rows.boot_list (zb (pv 2) zd)) rfl)
   (zc (zI (pv 0) (pv 3) rfl)
   (zc (zI (pv 0) (zb8 IB hCb hr2 (by rfl) zt (zb (pv 3) zd)) rfl)
   (zc (zI (pv 0) (yk ["mask","lanes"] [none,some 3] rfl rfl rfl (zU rfl hrg (zb (Z8 hMM) zd)) (λs3 H3 fp=>⟨zC (i:=0) (Jp ["mask","lanes"]) rfl (Or.inl rfl),(zk op_rep (yJ (zb YK zd)) (zk yb (Z8 hMT) (pv 1)))⟩)) rfl)
   (zc (zI (pv 0) YI rfl)
   (zc (zI (pv 0) (zb8 IF hCf hr2 (by rfl) zt (zb (pv 4) zd)) rfl)
   (zc (zI (pv 0) (zb8 IF hCf hr2 (by rfl) zt (zb (pv 5) zd)) rfl)
   (zc (zI (pv 0) (yJ zd) rfl)
   (zc (zI (pv 0) ze rfl)
   (zc (zI (pv 0) ze rfl)
   (zc (zI (pv 0) ze rfl)
   (zc (zI (pv 0) ze rfl)
   (zc (zI (pv 0) ze rfl)
   (zc (zI (pv 0) ze rfl)
   (zc (zI (pv 0) ze rfl)
   (zc (zI (pv 0) YI rfl)
   (zc (zI (pv 0) yE rfl)
   (zc (zI (pv 0) yE rfl)
   (zc (zI (pv 0) YK rfl)
   (zc (zI (pv 0) (yJ zd) rfl)
   (zg (zI (pv 0) yE rfl)))))))))))))))))))))))),?_⟩
 dsimp only [yh,Cx.nox,Cx.wish];have SL:(3000:Nat)<sizeLine:=by decide
 have q1:SqL K B l1 (lens.map V.int):=q1;obtain ⟨F0,e0F,nF⟩:∃ F0:List (Str×V),[]=F0/\F0.length+30<1000:=⟨[],rfl,by decide⟩;rw [e0F] at h;refine ⟨_,rfl,l1,_,rfl,.inl (h.sql q1),λaL nL=>?_⟩;replace h:=h.fnew (o:=.lst (lens.map V.int)) nL;generalize upd H aL _=H at h ⊢;refine ⟨_,rfl,x,_,_,_,rfl,h.get 0 rfl,CN.c,CN.lengths,yN nF,?_⟩;obtain ⟨F1,f1,nF⟩:=yM "lengths" (.ref aL) nF;replace h:=h.fput (o':=.ins c.bn dx (zO "lengths" (.ref aL) F0));rw [f1] at h ⊢;generalize upd H x _=H at h ⊢;refine ⟨_,rfl,l1,_,rfl,.inl (h.sql q1),_,rfl,(by rw [Ji];omega),(by rw [Ji];omega),_,rfl,λD nD=>?_⟩;rw [Ji];have q1':SqL K H l1 (lens.map V.int):=h.sql q1;have h0:Hd H [(D,.lst ((((List.range 0).map λr=>(lens.take r).sum)).map V.int))] (upd H D (.lst [])):=Hd.base.new nD;generalize upd H D (.lst [])=H3 at h0 ⊢;refine xf (n:=lens.length) (λi σ J=>∃ u,σ=[u,rq l1]/\Hd H [(D,.lst ((((List.range i).map λr=>(lens.take r).sum)).map V.int))] J) ⟨none,rfl,h0⟩ ?_ ?_
 ·clear h0
  rintro i σ J hi ⟨u,rfl,h⟩;refine ⟨_,rfl,_,rfl,l1,lens,0+(i:Int),rfl,h.sql q1',by omega,λJ1 s1=>?_⟩;have h:=h.same s1;refine ⟨_,h.get 0 rfl,(by rw [Ji,Ji,List.length_range];omega),_,rfl,?_⟩;have h:=h.put (o':=.lst ((((List.range (i+1)).map λr=>(lens.take r).sum)).map V.int)) 0 rfl
  have e:((List.range (i+1)).map λr=>(lens.take r).sum).map V.int=((List.range i).map λr=>(lens.take r).sum).map V.int++[V.int (lens.take (0+(i:Int)).toNat).sum]:=by
   rw [List.range_succ,Jk,Jk,show (0+(i:Int)).toNat=i by omega];rfl
  rw [e] at h ⊢;exact h
 rintro σ H ⟨u,rfl,hD⟩;replace h:=h.join hD;clear hD h0 nD q1';refine ⟨_,rfl,x,_,_,_,rfl,h.get 0 rfl,CN.c,CN.starts,yN nF,?_⟩;obtain ⟨F2,f2,nF⟩:=yM "starts" (.ref D) nF;replace h:=h.fput (o':=.ins c.bn dx (zO "starts" (.ref D) F1));rw [f2] at h ⊢;generalize upd H x _=H at h ⊢;refine ⟨_,rfl,l2,_,rfl,.inl (h.sql q2),λaC nC=>?_⟩;replace h:=h.fnew (o:=.lst (cells.map V.int)) nC;generalize upd H aC _=H at h ⊢;refine ⟨_,rfl,x,_,_,_,rfl,h.get 0 rfl,CN.c,CN.cells,yN nF,?_⟩;obtain ⟨F3,f3,nF⟩:=yM "cells" (.ref aC) nF;replace h:=h.fput (o':=.ins c.bn dx (zO "cells" (.ref aC) F2));rw [f3] at h ⊢;generalize upd H x _=H at h ⊢;refine ⟨_,rfl,_,rfl,x,_,_,_,rfl,h.get 0 rfl,CN.c,CN.lq,yN nF,?_⟩;obtain ⟨F4,f4,nF⟩:=yM "lanes" (.int L) nF;replace h:=h.fput (o':=.ins c.bn dx (zO "lanes" (.int L) F3));rw [f4] at h ⊢;generalize upd H x _=H at h ⊢;refine ⟨_,rfl,λbx dbx nbx ndbx nebx=>?_⟩;refine ⟨bx,dbx,L,rfl,zf,by omega,by omega,λH1 aN k nN ebx eN=>⟨rfl,?_⟩⟩;have h:=(h.made nbx ndbx nebx k nN ebx eN).sub (.cons₂ _ (.cons₂ _ (.cons _ (List.Sublist.refl _))));have e8:(8*(L:Int)).toNat=8*L:=by omega
 rw [e8] at h;clear k nN ebx eN;generalize H1=H at h ⊢;replace h:=zX h 2 rfl;refine ⟨_,rfl,x,_,_,_,rfl,h.get 0 rfl,CN.c,CN.boxes,yN nF,?_⟩;obtain ⟨F5,f5,nF⟩:=yM "boxes" (.ref bx) nF;replace h:=h.fput (o':=.ins c.bn dx (zO "boxes" (.ref bx) F4));rw [f5] at h ⊢;generalize upd H x _=H at h ⊢;have e4:(4*(L:Int)).toNat=4*L:=by omega
 refine ⟨_,rfl,(by decide),(by decide),_,rfl,λaM nM=>?_⟩;have h0:Hd H ((aM,.lst (([]:Jg).map V.ref))::([]:Jg).map λa=>(a,HO.lst ((List.replicate (4*L) false).map V.bl))) (upd H aM (.lst [])):=Hd.base.new nM;generalize upd H aM (.lst [])=H3 at h0 ⊢;refine xf (n:=16) (λi σ J=>∃ u ms,ms.length=i/\σ=[u,iq L]/\Hd H ((aM,.lst (ms.map V.ref))::ms.map λa=>(a,HO.lst ((List.replicate (4*L) false).map V.bl))) J) ⟨none,[],rfl,rfl,h0⟩ ?_ ?_
 ·clear h0
  rintro i σ J hi ⟨u,ms,lm,rfl,h⟩;refine ⟨(by show 1<=sizeLine;decide),λt nt=>⟨_,rfl,_,_,rfl,rfl,.inl ⟨by decide,by decide⟩,t,_,_,rfl,rfl,zf,by omega,by omega,?_,λl nl=>?_⟩⟩
  ·show 1*(4*(L:Int)).toNat<=sizeLine
   omega
  have h:=((h.waste (o:=.lst [.bl false]) nt).fnew (o:=.lst (List.replicate (4*(L:Int)).toNat [V.bl false]).flatten) nl);generalize upd _ l _=J2 at h ⊢;refine ⟨_,h.get 0 rfl,(by rw [Ji];omega),_,ms++[l],(by rw [Jj,lm];rfl),rfl,?_⟩;have h:=h.fput (o':=.lst ((ms++[l]).map V.ref))
  have e:(List.replicate (4*(L:Int)).toNat [V.bl false]).flatten=(List.replicate (4*L) false).map V.bl:=by
   rw [e4];generalize 4*L=n
   induction n with
   | zero=>rfl
   | succ n ih=>rw [List.replicate_succ,List.flatten_cons,ih,List.replicate_succ];rfl
  rw [e] at h;rw [Jk] at h ⊢;rw [Jk];exact h.perm (List.Perm.cons _ (List.perm_append_comm (l₁:=[_])))
 rintro σ H ⟨u,ms,lm,rfl,hD⟩;have hM:=hD.tl;replace h:=h.join hD;clear hD h0 nM;generalize hMS:(ms.map λa=>(a,HO.lst ((List.replicate (4*L) false).map V.bl)))=MS at h;refine ⟨_,rfl,x,_,_,_,rfl,h.get 0 rfl,CN.c,CN.mq,yN nF,?_⟩;obtain ⟨F6,f6,nF⟩:=yM "masks" (.ref aM) nF;replace h:=h.fput (o':=.ins c.bn dx (zO "masks" (.ref aM) F5));rw [f6] at h ⊢;generalize upd H x _=H at h ⊢;refine λaSl nSl=>?_;replace h:=h.fnew (o:=.dK []) nSl;generalize upd H aSl _=H at h ⊢;refine ⟨_,rfl,x,_,_,_,rfl,h.get 0 rfl,CN.c,CN.slots,yN nF,?_⟩;obtain ⟨F7,f7,nF⟩:=yM "slots" (.ref aSl) nF;replace h:=h.fput (o':=.ins c.bn dx (zO "slots" (.ref aSl) F6));rw [f7] at h ⊢;generalize upd H x _=H at h ⊢;refine ⟨_,rfl,λfd dfd n1 n2 n3=>?_⟩;refine ⟨fd,dfd,l3,dust,rfl,zf,zo (h.sql q3) (((zi (Same.refl _) n2)).trans (zi (Same.refl _) (by rw [zj (Ne.symm n3)];exact n1))),λH1 aD k n4 e1 e2=>⟨rfl,?_⟩⟩;have h:=(h.made n1 n2 n3 k n4 e1 e2).sub (.cons₂ _ (.cons₂ _ (.cons _ (List.Sublist.refl _))));clear k n4 e1 e2;generalize H1=H at h ⊢;replace h:=zX h 2 rfl;refine ⟨_,rfl,x,_,_,_,rfl,h.get 0 rfl,CN.c,CN.dust,yN nF,?_⟩;obtain ⟨F8,f8,nF⟩:=yM "dust" (.ref fd) nF;replace h:=h.fput (o':=.ins c.bn dx (zO "dust" (.ref fd) F7));rw [f8] at h ⊢;generalize upd H x _=H at h ⊢;refine ⟨_,rfl,λfp dfp n1 n2 n3=>?_⟩;refine ⟨fp,dfp,l4,picks,rfl,zf,zo (h.sql q4) (((zi (Same.refl _) n2)).trans (zi (Same.refl _) (by rw [zj (Ne.symm n3)];exact n1))),λH1 aP k n4 e1 e2=>⟨rfl,?_⟩⟩;have h:=(h.made n1 n2 n3 k n4 e1 e2).sub (.cons₂ _ (.cons₂ _ (.cons _ (List.Sublist.refl _))));clear k n4 e1 e2;generalize H1=H at h ⊢;replace h:=zX h 2 rfl;refine ⟨_,rfl,x,_,_,_,rfl,h.get 0 rfl,CN.c,CN.picks,yN nF,?_⟩;obtain ⟨F9,f9,nF⟩:=yM "picks" (.ref fp) nF;replace h:=h.fput (o':=.ins c.bn dx (zO "picks" (.ref fp) F8));rw [f9] at h ⊢;generalize upd H x _=H at h ⊢;refine ⟨(by show 0<=sizeLine;exact Nat.zero_le _),λaT nT=>?_⟩;replace h:=h.fnew (o:=.lst []) nT;generalize upd H aT _=H at h ⊢;refine ⟨_,rfl,x,_,_,_,rfl,h.get 0 rfl,CN.c,CN.tq,yN nF,?_⟩;obtain ⟨F10,f10,nF⟩:=yM "touches" (.ref aT) nF;replace h:=h.fput (o':=.ins c.bn dx (zO "touches" (.ref aT) F9));rw [f10] at h ⊢;generalize upd H x _=H at h ⊢;refine ⟨_,rfl,x,_,_,_,rfl,h.get 0 rfl,CN.c,CN.pc,yN nF,?_⟩;obtain ⟨F11,f11,nF⟩:=yM "at" (.int 0) nF;replace h:=h.fput (o':=.ins c.bn dx (zO "at" (.int 0) F10));rw [f11] at h ⊢;generalize upd H x _=H at h ⊢;refine ⟨_,rfl,x,_,_,_,rfl,h.get 0 rfl,CN.c,CN.oq,yN nF,?_⟩;obtain ⟨F12,f12,nF⟩:=yM "opened" (.int 0) nF;replace h:=h.fput (o':=.ins c.bn dx (zO "opened" (.int 0) F11));rw [f12] at h ⊢;generalize upd H x _=H at h ⊢;refine ⟨_,rfl,x,_,_,_,rfl,h.get 0 rfl,CN.c,CN.mn_,yN nF,?_⟩;obtain ⟨F13,f13,nF⟩:=yM "many" (.int 0) nF;replace h:=h.fput (o':=.ins c.bn dx (zO "many" (.int 0) F12));rw [f13] at h ⊢;generalize upd H x _=H at h ⊢;refine ⟨_,rfl,x,_,_,_,rfl,h.get 0 rfl,CN.c,CN.group,yN nF,?_⟩;obtain ⟨F14,f14,nF⟩:=yM "group" (.int 1) nF;replace h:=h.fput (o':=.ins c.bn dx (zO "group" (.int 1) F13));rw [f14] at h ⊢;generalize upd H x _=H at h ⊢;refine ⟨_,rfl,x,_,_,_,rfl,h.get 0 rfl,CN.c,CN.base,yN nF,?_⟩;obtain ⟨F15,f15,nF⟩:=yM "base" (.int 0) nF;replace h:=h.fput (o':=.ins c.bn dx (zO "base" (.int 0) F14));rw [f15] at h ⊢;generalize upd H x _=H at h ⊢;refine ⟨_,rfl,x,_,_,_,rfl,h.get 0 rfl,CN.c,CN.bq,yN nF,?_⟩;obtain ⟨F16,f16,nF⟩:=yM "begun" (.int 0) nF;replace h:=h.fput (o':=.ins c.bn dx (zO "begun" (.int 0) F15));rw [f16] at h ⊢;generalize upd H x _=H at h ⊢;refine ⟨_,rfl,x,_,_,_,rfl,h.get 0 rfl,CN.c,CN.wq,yN nF,?_⟩;obtain ⟨F17,f17,nF⟩:=yM "width" (.int 0) nF;replace h:=h.fput (o':=.ins c.bn dx (zO "width" (.int 0) F16));rw [f17] at h ⊢;generalize upd H x _=H at h ⊢;refine λaF nF'=>?_;replace h:=h.fnew (o:=.dK []) nF';generalize upd H aF _=H at h ⊢;refine ⟨_,rfl,x,_,_,_,rfl,h.get 0 rfl,CN.c,CN.fq,yN nF,?_⟩;obtain ⟨F18,f18,nF⟩:=yM "faults" (.ref aF) nF;replace h:=h.fput (o':=.ins c.bn dx (zO "faults" (.ref aF) F17));rw [f18] at h ⊢;generalize upd H x _=H at h ⊢;refine ⟨_,rfl,x,_,_,_,rfl,h.get 0 rfl,CN.c,CN.cut,yN nF,?_⟩;obtain ⟨F19,f19,nF⟩:=yM "cut" (.non) nF;replace h:=h.fput (o':=.ins c.bn dx (zO "cut" (.non) F18));rw [f19] at h ⊢;generalize upd H x _=H at h ⊢;refine ⟨_,rfl,x,_,_,_,rfl,h.get 0 rfl,CN.c,CN.cq,yN nF,?_⟩;obtain ⟨F20,f20,nF⟩:=yM "carried" (.non) nF;replace h:=h.fput (o':=.ins c.bn dx (zO "carried" (.non) F19));rw [f20] at h ⊢;generalize upd H x _=H at h ⊢;refine ⟨_,rfl,x,_,_,_,rfl,h.get 0 rfl,CN.c,CN.raised,yN nF,?_⟩;obtain ⟨F21,f21,nF⟩:=yM "raised" (.bl false) nF;replace h:=h.fput (o':=.ins c.bn dx (zO "raised" (.bl false) F20));rw [f21] at h ⊢;generalize upd H x _=H at h ⊢;refine ⟨(by show 0<=sizeLine;exact Nat.zero_le _),λaU nU=>?_⟩;replace h:=h.fnew (o:=.lst []) nU;generalize upd H aU _=H at h ⊢;refine ⟨_,rfl,x,_,_,_,rfl,h.get 0 rfl,CN.c,CN.turns,yN nF,?_⟩;obtain ⟨F22,f22,nF⟩:=yM "turns" (.ref aU) nF;replace h:=h.fput (o':=.ins c.bn dx (zO "turns" (.ref aU) F21));rw [f22] at h ⊢;generalize upd H x _=H at h ⊢;refine ⟨_,rfl,x,_,_,_,rfl,h.get 0 rfl,CN.c,CN.rq_,yN nF,?_⟩;obtain ⟨F23,f23,nF⟩:=yM "refusal" (.non) nF;replace h:=h.fput (o':=.ins c.bn dx (zO "refusal" (.non) F22));rw [f23] at h ⊢;generalize upd H x _=H at h ⊢;replace h:=zX h 1 rfl;replace h:=zX h 2 rfl;replace h:=zX h 3 rfl;replace h:=zX h 5 rfl;replace h:=zX h 7 rfl;replace h:=zX h 8 rfl;replace h:=zX h 9 rfl;replace h:=zX h 11 rfl;replace h:=zX h 8 rfl;replace h:=zX h 9 rfl;replace h:=zX h 10 rfl;replace h:=zX h 11 rfl;replace h:=zX h 14 rfl;replace h:=zX h 14 rfl;replace h:=zX h 14 rfl
 have ef:F23=xi ⟨x,dx,aL,D,aC,bx,dbx,aN,aM,aSl,fd,dfd,aD,fp,dfp,aP,aT,aF,aU,ms,[],[],.non⟩ (Mc.fresh lens cells L dust picks):=by
  rw [← f23,← f22,← f21,← f20,← f19,← f18,← f17,← f16,← f15,← f14,← f13,← f12,← f11,← f10,← f9,← f8,← f7,← f6,← f5,← f4,← f3,← f2,← f1,← e0F];have z:=foldF0 (xi ⟨x,dx,aL,D,aC,bx,dbx,aN,aM,aSl,fd,dfd,aD,fp,dfp,aP,aT,aF,aU,ms,[],[],.non⟩ (Mc.fresh lens cells L dust picks)) (show (["lengths","starts","cells","lanes","boxes","masks","slots","dust","picks","touches","at","opened","many","group","base","begun","width","faults","cut","carried","raised","turns","refusal"]:Jf).Nodup by decide +kernel);unfold xi at z ⊢;dsimp only [List.foldl] at z;exact z
 rw [ef] at h;obtain ⟨B',sB,eB,h⟩:=Hd.settles (S:=[_,_,_,_,_,_]) h;refine q B' ⟨x,dx,aL,D,aC,bx,dbx,aN,aM,aSl,fd,dfd,aD,fp,dfp,aP,aT,aF,aU,ms,[],[],.non⟩ H sB rfl ⟨⟨eB _ (.head _),eB _ (.tail _ (.head _)),eB _ (.tail _ (.tail _ (.tail _ (.head _)))),eB _ (.tail _ (.tail _ (.head _))),?_,eB _ (.tail _ (.tail _ (.tail _ (.tail _ (.head _))))),eB _ (.tail _ (.tail _ (.tail _ (.tail _ (.tail _ (.head _)))))),rfl,(λi t p a=>nomatch a),rfl,(λi t p a=>nomatch a),rfl⟩,?_⟩
 ·show ms.length=(List.replicate 16 _).length
  rw [lm,List.length_replicate]
 ·unfold objs
  have e0:∀ ns:Jb,fAt ns 0=0:=λns=>by unfold fAt;rw [Nat.zero_mod];split <;> rfl
  have em:ZC ⟨x,dx,aL,D,aC,bx,dbx,aN,aM,aSl,fd,dfd,aD,fp,dfp,aP,aT,aF,aU,ms,[],[],.non⟩ (Mc.fresh lens cells L dust picks)=MS:=by
   rw [← hMS];show (ms.zip (List.replicate 16 _)).map _=_;rw [← lm];exact msk_fresh ms _
  rw [em,q3y];show Hd B' (_::_::_::_::(fd,Yl c.fe dfd aD (fAt dust 0))::(fp,Yl c.fe dfp aP (fAt picks 0))::_::_::_::MS) H;rw [e0,e0];exact h
inductive Run (L:Lex) (code:List (Jn)):Nat->Mc->Mc->Prop
 | done {M}:(code.length:Int)<=M.pc∨M.rq_.isSome=true->Run L code 0 M M
 | step {n M M1 Mf tv}:0<=M.pc->M.rq_=none->code[M.pc.toNat]?=some tv->Step L tv M M1->Run L code n M1 Mf->Run L code (n+1) M Mf
structure CodeAt (B:Hp) (cs:Jg) (code:List (Jn)):Prop where
 n:cs.length=code.length
 t:∀ (i:Nat) a tv,cs[i]?=some a->code[i]?=some tv->B a=some (.tup tv)
inductive spRan (c:MCs) (K:Fg) (Lx:Lex) (vs:Jn) (H:Hp) (Q:VK) (_:XK):Prop
 | mk (a l1 l2 l3 l4:Ad) (cs:Jg) (code:List (Jn)) (lens cells dust picks:Jb) (L n:Nat) (Mf:Mc) (_:vs=[.ref a,.ref l1,.ref l2,.int L,.ref l3,.ref l4]) (_:SqL K H a (cs.map V.ref)) (_:CodeAt H cs code) (_:SqL K H l1 (lens.map V.int)) (_:SqL K H l2 (cells.map V.int)) (_:SqL K H l3 (dust.map V.int)) (_:SqL K H l4 (picks.map V.int)) (_:1<=L) (_:L<=64) (_:lens.length<=1000) (_:code.length<=1000) (_:Run Lx code n (Mc.fresh lens cells L dust picks) Mf) (_:∀ B' A' H' t,Same H B'->MAt c B' A' Mf [] H'->B' t=some (.tup [.ref A'.aC,A'.rf,.ref A'.aT])->Q (.ref t) H')
theorem ok_ran {c:MCs} {Lx:Lex} (d:zn K mg "ran" s_ran ["code","lengths","cells","lanes","dust","picks"]) (CC:MCls K c) (hlen:mg "len"=none) (hCn:mg "Bench"=some (.ref c.bn)) (IN:OkI P w K mg base CX0 3 c.bn ["self","lengths","cells","lanes","dust","picks"] (spInitN c K)) (PB:Ok P w K mg base CX0 9 "place_behind" ["bench","step"] (spPB c Lx)) :
  Ok P w K mg base CX0 10 "ran" ["code","lengths","cells","lanes","dust","picks"] (spRan c K Lx):=by
 obtain ⟨g,fd,m,F,b⟩:=d;refine ⟨g,fd,m,F.kp,b,F.ok sc_ran (by rintro vs H Q E ⟨_,_,_,_,_,_,_,_,_,_,_,_,_,_,e,_⟩;rw [e];rfl) λcdv A outer s H vs Q E hr h=>?_⟩;obtain ⟨a,l1,l2,l3,l4,cs,code,lens,cells,dust,picks,L,n,Mf,rfl,qa,CA,q1,q2,q3,q4,L1,L64,hl,hcl,run,q⟩:=h;have nd:=sc_ran.nd;have hr6:=hr;have hr4:=hr.mono (show 4<=9 by decide);have CN:=CC.n;refine ⟨_,(zc (zu (i:=6) nd rfl (Or.inl rfl) (zb8 IN hCn hr4 (by rfl) zt (zb (pv 1) (zb (pv 2) (zb (pv 3) (zb (pv 4) (zb (pv 5) zd)))))))
   (zc (ps_while PassesOwn.never (X1 (zB Yi (zq (pv 6) rfl) (zw zP (by rfl) hlen PySem.boot_len (zb (pv 0) zd)) (zG _)) (YD (zB zb9 (zq (pv 6) rfl) yE (zG _)))).pt (zg (zI (pv 6) (zL PB hr6 (by rfl) zt (zb (pv 6) (zb (zr zE (pv 0) (zq (pv 6) rfl) (λ_ _=>rfl)) zd))) rfl)))
   (zg (zm (yn (zb (zq (pv 6) rfl) (zb (zq (pv 6) rfl) (zb (zq (pv 6) rfl) zd)))))))),?_⟩
 dsimp only [yh,Cx.nox,Cx.wish];show (let s1:L2.TS:=_;let s2:L2.TS:=L2.tSeq _ s1;L2.tSeq _ s2 _ _ _);intro s1 s2;refine ⟨_,rfl,_,rfl,_,rfl,_,rfl,_,rfl,λx dx nx ndx ne=>?_⟩;have s0:Same H (upd H dx (.own x)):=zi (Same.refl _) ndx;have h0:Hd (upd H dx (.own x)) [(x,.ins c.bn dx [])] (upd (upd H dx (.own x)) x (.ins c.bn dx [])):=Hd.base.new (by rw [zj (Ne.symm ne)];exact nx);refine ⟨upd H dx (.own x),x,dx,l1,l2,l3,l4,lens,cells,dust,picks,L,rfl,h0,zo q1 s0,zo q2 s0,zo q3 s0,zo q4 s0,L1,L64,hl,λB1 A1 H1 s1 eb m1=>⟨rfl,?_⟩⟩;have sH:Same H B1:=s0.trans s1;have SQ:∀ {B2:Hp} {A2:Ma} {M:Mc} {H2:Hp},Same H B2->MAt c B2 A2 M [] H2->SqL K H2 a (cs.map V.ref):=λs2 m2=>zo (zo qa s2) m2.h.sm;refine ⟨λk σ J=>∃ B2 A2 M,σ=[rq a,rq l1,rq l2,iq L,rq l3,rq l4,rq x]/\Same H B2/\A2.b=x/\MAt c B2 A2 M [] J/\Run Lx code k M Mf,⟨n,B1,A1,_,rfl,sH,eb,m1,run⟩,?_⟩;rintro k σ J ⟨B2,A2,M,rfl,s2,eb2,m2,run⟩;have lcs:(cs.map V.ref).length=code.length:=by rw [Ji];exact CA.n
 have rfn:M.rq_=none->A2.rf=.non:=λz=>by have:=m2.bb.rf;rw [z] at this;exact this
 have rfs:M.rq_.isSome=true->∃ t,A2.rf=.ref t:=λz=>by
  have:=m2.bb.rf
  cases e:M.rq_ with
  | none=>rw [e] at z;cases z
  | some r=>rw [e] at this;obtain ⟨t,y,_⟩:=this;exact ⟨t,y⟩
 refine ⟨_,rfl,A2.b,_,_,_,.int M.pc,by rw [eb2],m2.b,CN.c,CN.pc,rfl,_,rfl,a,_,rfl,.inl (SQ s2 m2),_,_,rfl,rfl,_,rfl,?_⟩;rw [lcs];have fin:Run Lx code 0 M Mf->Mf=M:=λz=>by cases z;rfl
 cases run with
 | done hd =>
  have ret:∀ J',J'=J->tRet (tTup (ZQ (tFld K (tVar 6) "cells") (ZQ (tFld K (tVar 6) "refusal") (ZQ (tFld K (tVar 6) "touches") tNil)))) ⟨λ_ H'=>Q V.non H',Q,λ_ _=>False,λ_ _=>False⟩ [rq a,rq l1,rq l2,iq L,rq l3,rq l4,rq x] J':=by
   rintro J' rfl;refine ⟨_,rfl,A2.b,_,_,_,.ref A2.aC,by rw [eb2],m2.b,CN.c,CN.cells,rfl,_,rfl,A2.b,_,_,_,A2.rf,by rw [eb2],m2.b,CN.c,CN.rq_,rfl,_,rfl,A2.b,_,_,_,.ref A2.aT,by rw [eb2],m2.b,CN.c,CN.tq,rfl,(by show 3<=sizeLine;decide),λt nt=>?_⟩;exact q _ A2 _ t (s2.trans (zi (Same.refl _) (m2.h.free nt))) (m2.grow nt) zf
  by_cases z:Mf.pc<(code.length:Int)
  ·rcases hd with y | y
   ·omega
   obtain ⟨t,et⟩:=rfs y;rw [decide_eq_true z];refine xG ⟨_,rfl,A2.b,_,_,_,A2.rf,by rw [eb2],m2.b,CN.c,CN.rq_,rfl,rfl,_,rfl,?_⟩;rw [et];exact yw (ret _ rfl)
  ·rw [decide_eq_false z]
   exact yw (yw (ret _ rfl))
 | step p0 hn ec st run =>
  rename_i k M1 tv;have hlt:M.pc.toNat<code.length:=(List.getElem?_eq_some_iff.mp ec).1;have z:M.pc<(code.length:Int):=by omega
  rw [decide_eq_true z];refine xG ⟨_,rfl,A2.b,_,_,_,A2.rf,by rw [eb2],m2.b,CN.c,CN.rq_,rfl,rfl,_,rfl,?_⟩;rw [rfn hn];refine xG ⟨λσ' J'=>∃ B2 A2,σ'=[rq a,rq l1,rq l2,iq L,rq l3,rq l4,rq x]/\Same H B2/\A2.b=x/\MAt c B2 A2 M1 [] J',λσ' J' ⟨B3,A3,e3,s3,eb3,m3⟩=>⟨k,by omega,B3,A3,M1,e3,s3,eb3,m3,run⟩,?_⟩;obtain ⟨st',es'⟩:∃ y,cs[M.pc.toNat]?=some y:=⟨cs[M.pc.toNat]'(by rw [CA.n];exact hlt),List.getElem?_eq_getElem _⟩;have eT:=CA.t _ _ _ es' ec;refine ⟨_,rfl,_,rfl,_,rfl,A2.b,_,_,_,.int M.pc,by rw [eb2],m2.b,CN.c,CN.pc,rfl,a,_,_,.ref st',rfl,rfl,SQ s2 m2,?_,B2,A2,M,[],st',tv,M1,by rw [eb2];rfl,m2,s2 _ _ eT,st,λB3 A3 J3 M2 s3 eb3 m3 em=>?_⟩
  ·rw [show M.pc=((M.pc.toNat:Nat):Int) by omega]
   exact zJ (by rw [List.getElem?_map,es'];rfl)
  refine ⟨_,rfl,A3.b,_,_,_,by rw [eb3,eb2],m3.b,CN.c,CN.pc,(by show 23<1000;decide),?_⟩;have m4:=m3.s_pc M1.pc;rw [← em] at m4;exact ⟨B3,A3,rfl,s2.trans s3,eb3.trans eb2,m4⟩
inductive spCA (K:Fg) (vs:Jn) (H:Hp) (Q:VK) (_:XK):Prop
 | mk (a:Ad) (ns:Jb) (k:Int) (_:vs=[.ref a,.int k]) (_:SqL K H a (ns.map V.int)) (_:0<=k) (_:Q (.int (ns.getD k.toNat 0)) H)
def zef (d:zn K mg "_law_cell_at" Zm ["_law_script","_law_k"]) (hlen:mg "len"=none):Ok P w K mg base CX0 1 "_law_cell_at" ["_law_script","_law_k"] (spCA K):=by
 obtain ⟨g,fd,m,F,b⟩:=d;refine ⟨g,fd,m,F.kp,b,F.ok zbz (by rintro vs H Q E ⟨_,_,_,e,_⟩;rw [e];rfl) λcdv A outer s H vs Q E hr h=>?_⟩;obtain ⟨a,ns,i,rfl,hS,h0,k⟩:=h;refine ⟨_,(zc (zQ (zB Yi (pv 1) (zw zP (by rfl) hlen PySem.boot_len (zb (pv 0) zd)) (zG _)) (zg (zm (zr zE (pv 0) (pv 1) (λ_ _=>rfl)))) zv)
   (zg (zm ze))),?_⟩
 refine ⟨_,rfl,_,rfl,a,_,rfl,.inl hS,_,_,rfl,rfl,_,rfl,?_⟩;rw [Ji];refine yU (λz=>?_) (λz=>?_)
 ·have z:i<(ns.length:Int):=by simpa using z
  exact ⟨_,rfl,_,rfl,a,_,_,_,rfl,rfl,hS,xM i.toNat (by omega) (by omega),k⟩
 ·have z:¬ i<(ns.length:Int):=by simpa using z
  have e:ns.getD i.toNat 0=0:=by rw [q1x,List.getElem?_eq_none (by omega)];rfl
  rw [e] at k;exact k
inductive spSome (K:Fg) (vs:Jn) (H:Hp) (Q:VK) (_:XK):Prop
 | mk (a:Ad) (ns:Jb) (k sa m:Int) (_:vs=[.ref a,.int k,.int sa,.int m]) (_:SqL K H a (ns.map V.int)) (_:0<=k) (_:k<=100000) (_:0<=sa) (_:sa<=100000) (_:0<m) (_:∀ r,0<=r->r<m->Q (.int r) H)
def ok_some (d:zn K mg "_law_some" Yy ["_law_script","_law_k","_law_salt","_law_many"]) (CA:Ok P w K mg base CX0 1 "_law_cell_at" ["_law_script","_law_k"] (spCA K)):Ok P w K mg base CX0 2 "_law_some" ["_law_script","_law_k","_law_salt","_law_many"] (spSome K):=by
 obtain ⟨g,fd,m,F,b⟩:=d;refine ⟨g,fd,m,F.kp,b,F.ok sc_l_some (by rintro vs H Q E ⟨_,_,_,_,_,e,_⟩;rw [e];rfl) λcdv A outer s H vs Q E hr h=>?_⟩;obtain ⟨a,ns,i,sa,mm,rfl,hS,h0,h1,h2,h3,h4,k⟩:=h;have nd:=sc_l_some.nd;have hr1:=hr;refine ⟨_,(zc (zu (i:=4) nd rfl (Or.inl rfl) (zk zF (zk yK (zL CA hr1 (by rfl) zt (zb (pv 0) (zb (pv 1) zd))) ze) ze))
   (zc (zu (i:=5) nd rfl (Or.inl rfl) (zk yK (zk yb (pv 4) (zk zF (zk zF ze (zk yb (zk yb ze (pv 1)) (pv 1))) (zk yb (zk yb ze (pv 2)) (pv 2)))) ze))
   (zg (zm (zk yK (zk zca (zk yK (zk yb (pv 5) (pv 5)) ze) ze) (pv 3)))))),?_⟩
 show (let s1:L2.TS:=_;let s2:L2.TS:=L2.tSeq _ s1;L2.tSeq _ s2 _ _ _);intro s1 s2;refine ⟨_,rfl,_,rfl,a,ns,i,rfl,hS,h0,_,_,rfl,rfl,(by show (0:Int)<1000003;decide),_,_,rfl,rfl,?_⟩;have c0:=Int.emod_nonneg (ns.getD i.toNat 0) (show (1000003:Int)≠0 by decide);have c1:=Int.emod_lt_of_pos (ns.getD i.toNat 0) (show (0:Int)<1000003 by decide);refine ⟨_,rfl,_,rfl,_,_,rfl,rfl,.inl ⟨by decide,by decide⟩,_,rfl,_,_,rfl,rfl,.inl ⟨by omega,by omega⟩,_,_,rfl,rfl,_,rfl,_,_,rfl,rfl,.inl ⟨by decide,by decide⟩,_,rfl,_,_,rfl,rfl,.inl ⟨by omega,by omega⟩,_,_,rfl,rfl,_,_,rfl,rfl,.inl ⟨by omega,by omega⟩,_,_,rfl,rfl,(by show (0:Int)<2147483647;decide),?_⟩;generalize (ns.getD i.toNat 0 % 1000003+1)*(48271+1000*i*i+69621*sa*sa)=y;refine ⟨_,rfl,_,rfl,_,_,rfl,rfl,.inl ⟨by omega,by omega⟩,_,_,rfl,rfl,(by show (0:Int)<2147483629;decide),_,_,rfl,rfl,⟨by decide,by decide⟩,_,rfl,_,_,rfl,rfl,h4,?_⟩;exact k _ (Int.emod_nonneg _ (by omega)) (Int.emod_lt_of_pos _ h4)
inductive spNumber (K:Fg) (vs:Jn) (H:Hp) (Q:VK) (_:XK):Prop
 | mk (a:Ad) (ns:Jb) (k:Int) (_:vs=[.ref a,.int k]) (_:SqL K H a (ns.map V.int)) (_:0<=k) (_:k<=100000) (_:∀ r,Q (.int r) H)
inductive spLanes (vs:Jn) (H:Hp) (Q:VK) (_:XK):Prop
 | mk (c:Int) (_:vs=[.int c]) (_:∀ r,1<=r->r<=64->Q (.int r) H)
def ok_lanes (d:zn K mg "_law_lanes" Z1 ["_law_cell"]):Ok P w K mg base CX0 1 "_law_lanes" ["_law_cell"] spLanes:=by
 obtain ⟨g,fd,m,F,b⟩:=d;refine ⟨g,fd,m,F.kp,b,F.ok zd4 (by rintro vs H Q E ⟨_,e,_⟩;rw [e];rfl) λcdv A outer s H vs Q E hr h=>?_⟩;obtain ⟨c,rfl,k⟩:=h;refine ⟨_,(zc (zQ (zB yo (zk yK (pv 0) ze) ze (zG _)) (zg (zm (zk zF ze (zk yK (zk zca (pv 0) ze) ze)))) zv)
   (zg (zm (zk zF ze (zk yK (zk zca (pv 0) ze) ze))))),?_⟩
 refine ⟨_,rfl,_,_,rfl,rfl,(by show (0:Int)<8;decide),rfl,_,rfl,?_⟩;refine yU (λz=>?_) (λz=>?_)
 ·exact ⟨_,rfl,_,_,rfl,rfl,⟨by decide,by decide⟩,_,_,rfl,rfl,(by show (0:Int)<64;decide),_,_,rfl,rfl,k _ (by omega) (by omega)⟩
 ·exact ⟨_,rfl,_,_,rfl,rfl,⟨by decide,by decide⟩,_,_,rfl,rfl,(by show (0:Int)<9;decide),_,_,rfl,rfl,k _ (by omega) (by omega)⟩
inductive spGroup (K:Fg) (vs:Jn) (H:Hp) (Q:VK) (_:XK):Prop
 | mk (a:Ad) (ns:Jb) (k sa:Int) (_:vs=[.ref a,.int k,.int sa]) (_:SqL K H a (ns.map V.int)) (_:0<=k) (_:k<=100000) (_:0<=sa) (_:sa<=100000) (_:∀ r H',Same H H'->(r=1∨r=2∨r=4)->Q (.int r) H')
def ok_group (d:zn K mg "_law_group" Z2 ["_law_script","_law_k","_law_salt"]) (SM:Ok P w K mg base CX0 2 "_law_some" ["_law_script","_law_k","_law_salt","_law_many"] (spSome K)):Ok P w K mg base CX0 3 "_law_group" ["_law_script","_law_k","_law_salt"] (spGroup K):=by
 obtain ⟨g,fd,m,F,b⟩:=d;refine ⟨g,fd,m,F.kp,b,F.ok zd5 (by rintro vs H Q E ⟨_,_,_,_,e,_⟩;rw [e];rfl) λcdv A outer s H vs Q E hr h=>?_⟩;obtain ⟨a,ns,i,sa,rfl,hS,h0,h1,h2,h3,k⟩:=h;have hr2:=hr;refine ⟨_,(zg (zm (zr zE (yJ (zb ze (zb ze (zb ze zd)))) (zL SM hr2 (by rfl) zt (zb (pv 0) (zb (pv 1) (zb (pv 2) (zb ze zd))))) (λ_ _=>rfl)))),?_⟩;refine ⟨(by show 3<=sizeLine;decide),λl nl=>?_⟩;have s1:Same H (upd H l (.lst [.int 1,.int 2,.int 4])):=zi (Same.refl H) nl;refine ⟨_,rfl,_,rfl,_,rfl,a,ns,i,sa,3,rfl,zo hS s1,h0,h1,h2,h3,by decide,λr r0 r1=>?_⟩;refine ⟨l,([1,2,4]:Jb).map V.int,r,_,rfl,rfl,SqL.of zf,xM r.toNat (by show _<3;omega) (by omega),k _ _ s1 ?_⟩;have:r=0∨r=1∨r=2:=by omega
 rcases this with rfl | rfl | rfl
 ·exact .inl rfl
 ·exact .inr (.inl rfl)
 ·exact .inr (.inr rfl)
inductive spDust (K:Fg) (vs:Jn) (H:Hp) (Q:VK) (_:XK):Prop
 | mk (a:Ad) (ns:Jb) (k sa:Int) (_:vs=[.ref a,.int k,.int sa]) (_:SqL K H a (ns.map V.int)) (_:0<=k) (_:k<=1000) (_:0<=sa) (_:sa<=1000) (_:∀ H' l ds,ds.length<=5->Hd H [(l,.lst (List.map V.int ds))] H'->Q (.ref l) H')
def ok_dust (d:zn K mg "_law_dust" YB ["_law_script","_law_k","_law_salt"]) (hrg:mg "range"=none) (SM:Ok P w K mg base CX0 2 "_law_some" ["_law_script","_law_k","_law_salt","_law_many"] (spSome K)) (NB:Ok P w K mg base CX0 3 "_law_number" ["_law_script","_law_k"] (spNumber K)):Ok P w K mg base CX0 4 "_law_dust" ["_law_script","_law_k","_law_salt"] (spDust K):=by
 obtain ⟨g,fd,m,F,b⟩:=d;refine ⟨g,fd,m,F.kp,b,F.ok sc_l_dust (by rintro vs H Q E ⟨_,_,_,_,e,_⟩;rw [e];rfl) λcdv A outer s H vs Q E hr h=>?_⟩;obtain ⟨a,ns,i,sa,rfl,hS,h0,h1,h2,h3,k⟩:=h;have nd:=sc_l_dust.nd;have hr3:=hr;have hr2:Room 2 _:=hr.mono (by decide);have SL:(3000:Nat)<sizeLine:=by decide
 refine ⟨_,(zg (zm (yk ["_law_j","_law_script","_law_k"] [none,some 0,some 1] rfl rfl rfl (zU rfl hrg (zb (zL SM hr2 (by rfl) zt (zb (pv 0) (zb (pv 1) (zb (pv 2) (zb ze zd))))) zd)) (λs3 H3 fp=>⟨zC (i:=0) (Jp ["_law_j","_law_script","_law_k"]) rfl (Or.inl rfl),(zL NB hr3 (by rfl) zt (zb (pv 1) (zb (zk zF (pv 2) (zk yb ze (pv 0))) zd)))⟩)))),?_⟩;refine ⟨_,rfl,_,rfl,_,rfl,a,ns,i,sa,6,rfl,hS,h0,by omega,h2,by omega,by decide,λr r0 r1=>⟨_,rfl,(by omega),(by omega),_,rfl,λD nD=>?_⟩⟩;have hd:Hd H [(D,.lst (([]:Jb).map V.int))] (upd H D (.lst [])):=Hd.base.new nD;generalize upd H D (.lst [])=H1 at hd ⊢;refine xf (n:=r.toNat) (λj σ J=>∃ u ds,ds.length=j/\σ=[u,rq a,iq i]/\Hd H [(D,.lst (List.map V.int ds))] J) ⟨none,[],rfl,rfl,hd⟩ ?_ ?_
 ·clear hd
  rintro j σ J hj ⟨u,ds,ld,rfl,h⟩;refine ⟨_,rfl,_,rfl,_,rfl,_,_,rfl,rfl,.inl ⟨by decide,by decide⟩,_,_,rfl,rfl,a,ns,_,rfl,h.sql hS,(by show 0<=i+5*(0+(j:Int));omega),(by show i+5*(0+(j:Int))<=100000;omega),λv=>?_⟩;refine ⟨_,h.get 0 rfl,(by rw [Ji];omega),_,ds++[v],(by rw [Jj,ld];rfl),rfl,?_⟩;rw [Jk];exact h.put 0 rfl
 ·rintro σ J ⟨u,ds,ld,rfl,h⟩
  exact k J D ds (by omega) h
structure AlK (K:Fg) (mg:J0):Prop where
 isi:mg "isinstance"=none
 int:mg "int"=none
 bool:mg "bool"=none
 str:mg "str"=none
 lst:mg "list"=none
 tup:mg "tuple"=none
 ii:PySem.W.kitOne K (.type "int") (.type "int")=some true
 ib:PySem.W.kitOne K (.type "int") (.type "bool")=some false
 is:PySem.W.kitOne K (.type "int") (.type "str")=some false
 il:PySem.W.kitOne K (.type "int") (.type "list")=some false
 it:PySem.W.kitOne K (.type "int") (.type "tuple")=some false
 ss:PySem.W.kitOne K (.type "str") (.type "str")=some true
 ls:PySem.W.kitOne K (.type "list") (.type "str")=some false
 ll:PySem.W.kitOne K (.type "list") (.type "list")=some true
 lt:PySem.W.kitOne K (.type "list") (.type "tuple")=some false
 ts:PySem.W.kitOne K (.type "tuple") (.type "str")=some false
 tl:PySem.W.kitOne K (.type "tuple") (.type "list")=some false
 tt:PySem.W.kitOne K (.type "tuple") (.type "tuple")=some true
inductive Lk (H:Hp):Nat->V->V->Prop
 | non {n}:Lk H n .non .non
 | int {n} (i:Int):Lk H n (.int i) (.int i)
 | str {n} (z:Str):Lk H n (.str z) (.str z)
 | lst {n a b xs ys}:H a=some (.lst xs)->H b=some (.lst ys)->ys.length=xs.length->(∀ (i:Nat) x y,xs[i]?=some x->ys[i]?=some y->Lk H n x y)->Lk H (n+1) (.ref a) (.ref b)
 | tup {n a b xs ys}:H a=some (.tup xs)->H b=some (.tup ys)->ys.length=xs.length->(∀ (i:Nat) x y,xs[i]?=some x->ys[i]?=some y->Lk H n x y)->Lk H (n+1) (.ref a) (.ref b)
theorem Lk.same {H H':Hp} {n:Nat} {x y:V} (h:Lk H n x y) (s:Same H H'):Lk H' n x y:=by
 induction h with
 | non=>exact .non
 | int i=>exact .int i
 | str z=>exact .str z
 | lst a b e _ ih=>exact .lst (s _ _ a) (s _ _ b) e ih
 | tup a b e _ ih=>exact .tup (s _ _ a) (s _ _ b) e ih
inductive spAlike (n:Nat) (vs:Jn) (H:Hp) (Q:VK) (_:XK):Prop
 | mk (u v:_) (_:vs=[u,v]) (_:Lk H n u v) (_:∀ H',Same H H'->Q (.bl true) H')
def spNil:Sp:=λ_ _ _ _=>False
def Zy {H:Hp} {x:V} {t:Vl} (h:TyOf K H x t):TyX K H x t:=.inl h
def rel_ty {n:String}:RelV (.ty n) (.type n)/\∀ u,RelV (.ty n) u->u=.type n:=⟨rfl,λ_ z=>z⟩
def ok_alike0 (d:zn K mg "_law_alike" x8 ["_law_found","_law_due"]):Ok P w K mg base CX0 1 "_law_alike" ["_law_found","_law_due"] spNil:=by
 obtain ⟨g,fd,m,F,b⟩:=d;exact ⟨g,fd,m,F.kp,b,F.ok sc_l_alike (λvs H Q E h=>nomatch h) λcdv A outer s H vs Q E hr h=>nomatch h⟩
theorem X8 {n:Nat} {sp:Sp} (hsp:∀ n',n=n'+1->sp=spAlike n') (d:zn K mg "_law_alike" x8 ["_law_found","_law_due"]) (AK:AlK K mg) (hlen:mg "len"=none) (hzip:mg "zip"=none) (AL:Ok P w K mg base CX0 (n+1) "_law_alike" ["_law_found","_law_due"] sp):Ok P w K mg base CX0 (n+2) "_law_alike" ["_law_found","_law_due"] (spAlike n):=by
 obtain ⟨g,fd,m,F,b⟩:=d;refine ⟨g,fd,m,F.kp,b,F.ok sc_l_alike (by rintro vs H Q E ⟨_,_,e,_⟩;rw [e];rfl) λcdv A outer s H vs Q E hr h=>?_⟩;obtain ⟨u,v,rfl,hL,q⟩:=h;have nd:=sc_l_alike.nd;have hrA:=hr;have hisi:=AK.isi;refine ⟨_,(zc (zQ (zB zb9 (pv 1) yE (zG _)) (zg (zm (Zp zb9 (pv 0) yE (zG _)))) zv)
   (zc (zQ (Zu (zw yx (by rfl) AK.isi PyProof.Rows.boot_isinstance (zb (pv 1) (zb (Zv AK.str PyProof.Rows.boot_str) zd)))) (zg (zm (pe_and (zw yx (by rfl) AK.isi PyProof.Rows.boot_isinstance (zb (pv 0) (zb (Zv AK.str PyProof.Rows.boot_str) zd))) (pe_one (Zp yo (pv 0) (pv 1) (zG _)))))) zv)
   (zc (zQ (Y5 (Zu (zw zco (by rfl) hisi PyProof.Rows.boot_isinstance (zb (pv 1) (zb (yn (zb (Zv AK.lst PyProof.Rows.boot_list) (zb (Zv AK.tup PyProof.Rows.boot_tuple) zd))) zd))))) (zg (zm (pe_and (zw yx (by rfl) AK.isi PyProof.Rows.boot_isinstance (zb (pv 0) (zb (Zv AK.int PyProof.Rows.boot_int) zd))) (pe_and (pe_not (zw yx (by rfl) AK.isi PyProof.Rows.boot_isinstance (zb (pv 0) (zb (Zv AK.bool PyProof.Rows.boot_bool) zd)))) (pe_one (Zp yo (pv 0) (pv 1) (zG _))))))) zv)
   (zc (zQ (X1 (Zu (zw yx (by rfl) AK.isi PyProof.Rows.boot_isinstance (zb (pv 1) (zb (Zv AK.lst PyProof.Rows.boot_list) zd)))) (YD (Y5 (Zu (zw yx (by rfl) AK.isi PyProof.Rows.boot_isinstance (zb (pv 0) (zb (Zv AK.lst PyProof.Rows.boot_list) zd))))))).pt (zg (zm YK)) zv)
   (zc (zQ (X1 (Zu (zw yx (by rfl) AK.isi PyProof.Rows.boot_isinstance (zb (pv 1) (zb (Zv AK.tup PyProof.Rows.boot_tuple) zd)))) (YD (Y5 (Zu (zw yx (by rfl) AK.isi PyProof.Rows.boot_isinstance (zb (pv 0) (zb (Zv AK.tup PyProof.Rows.boot_tuple) zd))))))).pt (zg (zm YK)) zv)
   (zc (zQ (zB op_ne (zw zP (by rfl) hlen PySem.boot_len (zb (pv 0) zd)) (zw zP (by rfl) hlen PySem.boot_len (zb (pv 1) zd)) (zG _)) (zg (zm YK)) zv)
   (zc (xr PassesOwn.never rfl (pi_zb rfl hzip (zb (pv 0) (zb (pv 1) zd))) (zb7 rfl (yI (zC (i:=2) nd rfl (Or.inl rfl)) (yI (zC (i:=3) nd rfl (Or.inl rfl)) YF))) (zg (zQ (Y5 (Zu (zL AL hrA (by rfl) zt (zb (pv 2) (zb (pv 3) zd))))) (zg (zm YK)) zv)))
   (zg (zm YK))))))))),?_⟩
 show (let s1:L2.TS:=_;let s2:L2.TS:=L2.tSeq _ s1;let s3:L2.TS:=L2.tSeq _ s2;let s4:L2.TS:=L2.tSeq _ s3;let s5:L2.TS:=L2.tSeq _ s4;let s6:L2.TS:=L2.tSeq _ s5;let s7:L2.TS:=L2.tSeq _ s6;L2.tSeq _ s7 _ _ _);intro s1 s2 s3 s4 s5 s6 s7;have kL:PySem.W.kitAny K (.type "list") [.type "list",.type "tuple"]=some true:=by unfold PySem.W.kitAny;rw [AK.ll]
 have kT:PySem.W.kitAny K (.type "tuple") [.type "list",.type "tuple"]=some true:=by unfold PySem.W.kitAny;rw [AK.tl];unfold PySem.W.kitAny;rw [AK.tt]
 have kI:PySem.W.kitAny K (.type "int") [.type "list",.type "tuple"]=some false:=by unfold PySem.W.kitAny;rw [AK.il];unfold PySem.W.kitAny;rw [AK.it];rfl
 cases hL with
 | non =>
  refine ⟨_,rfl,rfl,_,rfl,?_⟩;refine xG ⟨_,rfl,rfl,q H (Same.refl _)⟩
 | str z =>
  refine ⟨_,rfl,rfl,_,rfl,yw ?_⟩;refine ⟨_,rfl,.str z,.ty "str",.type "str",.type "str",true,rfl,rel_ty.1,rel_ty.2,Zy (.str z),AK.ss,_,rfl,xG ?_⟩;refine ⟨_,rfl,.str z,.ty "str",.type "str",.type "str",true,rfl,rel_ty.1,rel_ty.2,Zy (.str z),AK.ss,_,rfl,xG ?_⟩;refine ⟨_,rfl,_,rfl,rfl,?_⟩;rw [decide_eq_true rfl];exact q H (Same.refl _)
 | int i =>
  refine ⟨_,rfl,rfl,_,rfl,yw ?_⟩;refine ⟨_,rfl,.int i,.ty "str",.type "str",.type "int",false,rfl,rel_ty.1,rel_ty.2,Zy (.int i),AK.is,_,rfl,yw ?_⟩;refine ⟨_,rfl,(by show 2<=sizeLine;decide),λtp ntp=>⟨.int i,tp,_,.type "int",false,rfl,zf,rfl,.int i,kI,_,rfl,?_⟩⟩;have s1:Same H (upd H tp (.tup [.ty "list",.ty "tuple"])):=zi (Same.refl _) ntp;refine xG ?_;refine ⟨_,rfl,.int i,.ty "int",.type "int",.type "int",true,rfl,rel_ty.1,rel_ty.2,Zy (.int i),AK.ii,_,rfl,xG ?_⟩;refine ⟨_,rfl,.int i,.ty "bool",.type "bool",.type "int",false,rfl,rel_ty.1,rel_ty.2,Zy (.int i),AK.ib,_,rfl,_,rfl,xG ?_⟩;refine ⟨_,rfl,_,rfl,rfl,?_⟩;rw [decide_eq_true rfl];exact q _ s1
 | @lst n a b xs ys ea eb el hx =>
  have hsp:=hsp n rfl;subst hsp;refine ⟨_,rfl,rfl,_,rfl,yw ?_⟩;refine ⟨_,rfl,.ref b,.ty "str",.type "str",.type "list",false,rfl,rel_ty.1,rel_ty.2,Zy (.lst eb),AK.ls,_,rfl,yw ?_⟩;refine ⟨_,rfl,(by show 2<=sizeLine;decide),λtp ntp=>⟨.ref b,tp,_,.type "list",true,rfl,zf,rfl,?_,kL,_,rfl,yw ?_⟩⟩
  ·exact .lst (zi (Same.refl _) ntp _ _ eb)
  have s1:Same H (upd H tp (.tup [.ty "list",.ty "tuple"])):=zi (Same.refl _) ntp;generalize upd H tp (.tup [.ty "list",.ty "tuple"])=H1 at s1 ⊢;have ea1:=s1 _ _ ea;have eb1:=s1 _ _ eb;refine ⟨_,rfl,.ref b,.ty "list",.type "list",.type "list",true,rfl,rel_ty.1,rel_ty.2,Zy (.lst eb1),AK.ll,_,rfl,xG ⟨_,rfl,.ref a,.ty "list",.type "list",.type "list",true,rfl,rel_ty.1,rel_ty.2,Zy (.lst ea1),AK.ll,_,rfl,yw ?_⟩⟩;refine ⟨_,rfl,.ref b,.ty "tuple",.type "tuple",.type "list",false,rfl,rel_ty.1,rel_ty.2,Zy (.lst eb1),AK.lt,_,rfl,yw (yw ?_)⟩;refine ⟨_,rfl,a,_,rfl,.inl (SqL.of ea1),_,rfl,b,_,rfl,.inl (SqL.of eb1),rfl,_,rfl,?_⟩;rw [el,decide_eq_true rfl];refine yw ?_;refine ⟨_,rfl,_,rfl,a,b,rfl,.inl ⟨⟨_,SqL.of ea1⟩,⟨_,SqL.of eb1⟩,?_⟩⟩;refine zck (xs:=xs) (ys:=ys) (λi σ J=>∃ u2 u3,σ=[rq a,rq b,u2,u3]/\Same H1 J) ⟨none,none,rfl,Same.refl _⟩ (λi σ J _ ⟨_,_,_,s2⟩=>⟨SqL.of (s2 _ _ ea1),SqL.of (s2 _ _ eb1)⟩) el ?_ ?_
  ·rintro i x y σ J T hx1 hy1 ⟨u2,u3,rfl,s2⟩ nT
   have s3:Same J (upd J T (.tup [x,y])):=zi (Same.refl _) nT;refine ⟨T,_,rfl,SqT.of zf,rfl,_,_,rfl,_,_,rfl,rfl,?_⟩;refine ⟨_,rfl,_,rfl,x,y,rfl,(hx i x y hx1 hy1).same ((s1.trans s2).trans s3),λJ2 s4=>⟨_,rfl,yw ?_⟩⟩;exact ⟨_,_,rfl,(s2.trans s3).trans s4⟩
  ·rintro σ J ⟨u2,u3,rfl,s2⟩
   exact q J (s1.trans s2)
 | @tup n a b xs ys ea eb el hx =>
  have hsp:=hsp n rfl;subst hsp;refine ⟨_,rfl,rfl,_,rfl,yw ?_⟩;refine ⟨_,rfl,.ref b,.ty "str",.type "str",.type "tuple",false,rfl,rel_ty.1,rel_ty.2,Zy (.tup eb),AK.ts,_,rfl,yw ?_⟩;refine ⟨_,rfl,(by show 2<=sizeLine;decide),λtp ntp=>⟨.ref b,tp,_,.type "tuple",true,rfl,zf,rfl,?_,kT,_,rfl,yw ?_⟩⟩
  ·exact .tup (zi (Same.refl _) ntp _ _ eb)
  have s1:Same H (upd H tp (.tup [.ty "list",.ty "tuple"])):=zi (Same.refl _) ntp;generalize upd H tp (.tup [.ty "list",.ty "tuple"])=H1 at s1 ⊢;have ea1:=s1 _ _ ea;have eb1:=s1 _ _ eb;refine ⟨_,rfl,.ref b,.ty "list",.type "list",.type "tuple",false,rfl,rel_ty.1,rel_ty.2,Zy (.tup eb1),AK.tl,_,rfl,yw (yw ?_)⟩;refine ⟨_,rfl,.ref b,.ty "tuple",.type "tuple",.type "tuple",true,rfl,rel_ty.1,rel_ty.2,Zy (.tup eb1),AK.tt,_,rfl,xG ⟨_,rfl,.ref a,.ty "tuple",.type "tuple",.type "tuple",true,rfl,rel_ty.1,rel_ty.2,Zy (.tup ea1),AK.tt,_,rfl,yw ?_⟩⟩;refine ⟨_,rfl,a,_,rfl,.inr (SqT.of ea1),_,rfl,b,_,rfl,.inr (SqT.of eb1),rfl,_,rfl,?_⟩;rw [el,decide_eq_true rfl];refine yw ?_;refine ⟨_,rfl,_,rfl,a,b,rfl,.inr ⟨⟨_,SqT.of ea1⟩,⟨_,SqT.of eb1⟩,?_⟩⟩;refine for_zt (xs:=xs) (ys:=ys) (λi σ J=>∃ u2 u3,σ=[rq a,rq b,u2,u3]/\Same H1 J) ⟨none,none,rfl,Same.refl _⟩ (λi σ J _ ⟨_,_,_,s2⟩=>⟨SqT.of (s2 _ _ ea1),SqT.of (s2 _ _ eb1)⟩) el ?_ ?_
  ·rintro i x y σ J T hx1 hy1 ⟨u2,u3,rfl,s2⟩ nT
   have s3:Same J (upd J T (.tup [x,y])):=zi (Same.refl _) nT;refine ⟨T,_,rfl,SqT.of zf,rfl,_,_,rfl,_,_,rfl,rfl,?_⟩;refine ⟨_,rfl,_,rfl,x,y,rfl,(hx i x y hx1 hy1).same ((s1.trans s2).trans s3),λJ2 s4=>⟨_,rfl,yw ?_⟩⟩;exact ⟨_,_,rfl,(s2.trans s3).trans s4⟩
  ·rintro σ J ⟨u2,u3,rfl,s2⟩
   exact q J (s1.trans s2)
theorem zdd (d:zn K mg "_law_alike" x8 ["_law_found","_law_due"]) (AK:AlK K mg) (hlen:mg "len"=none) (hzip:mg "zip"=none):∀ n:Nat,Ok P w K mg base CX0 (n+2) "_law_alike" ["_law_found","_law_due"] (spAlike n)
 | 0=>X8 (λn' e=>by cases e) d AK hlen hzip (ok_alike0 d)
 | n+1=>X8 (λn' e=>by cases e;rfl) d AK hlen hzip (zdd d AK hlen hzip n)
def Mc.shOne (M:Mc) (r:Nat) (place other:Int):Mc×Int:=if 0<=place/\place<M.lens.getD r 0 then (M.touched "read" (M.adr r place),M.cells.getD (M.adr r place).toNat 0) else (M,other)
def X0 (M:Mc) (r:Nat):Prop:=r<M.starts.length/\r<M.lens.length/\0<=M.starts.getD r 0/\M.starts.getD r 0+M.lens.getD r 0<=M.cells.length
def Mc.chosen (M:Mc) (p k:Nat) (nought:Bool):Jb:=(M.act k).filter λj=>decide (decide (M.nq p j=0)=nought)
def chooseM (nought:Bool):EfM:=λtv M=>match (tv[1]?:Jo),(tv[2]?:Jo),(tv[3]?:Jo) with
 | some (V.int m),some (V.int p),some (V.int k)=>if 0<=m/\m<16/\0<=p/\(p+1)*M.group<=8/\0<=k/\k<16 then some (M.laidMask m.toNat (M.chosen p.toNat k.toNat nought)) else none
 | _,_,_=>none
def MAt.putFault {c:MCs} {B:Hp} {A:Ma} {M:Mc} {R:Jm} {H:Hp} (m:MAt c B A M R H) (f:Jl):MAt c B A { M with fq:=f } R (upd H A.aF (.dK f)) :=
 ⟨⟨m.bb.lens,m.bb.starts,m.bb.bx,m.bb.msk,m.bb.ml,m.bb.dl,m.bb.pl,m.bb.tl,m.bb.tt,m.bb.ul,m.bb.uu,m.bb.rf⟩,m.h.put (o':=.dK f) 7 rfl⟩
def xp (M:Mc) (p:Nat) (n j:Int):Bool:=decide (0<=M.nq p j) && decide (M.nq p j<n)
def xu (f:Jl) (js:Jb):Jl:=js.foldl (λf j=>zW f (.inl j) (.str "outside")) f
theorem outF_len (js:Jb) (f:Jl):(xu f js).length<=f.length+js.length:=by
 induction js generalizing f with
 | nil=>exact Nat.le_refl _
 | cons j js ih =>
  have:=ih (zW f (.inl j) (.str "outside"));have:=yl f (.inl j:Key) (.str "outside");show (xu (zW f _ _) js).length<=_;rw [q3x];omega
def Mc.outs (M:Mc) (p:Nat) (n:Int) (js:Jb):Mc:={ M with fq:=xu M.fq (js.filter λj=>!xp M p n j) }
def ZU:EfM:=λtv M=>match (tv[1]?:Jo),(tv[2]?:Jo),(tv[3]?:Jo) with
 | some (V.int p),some (V.int n),some (V.int k)=>if 0<=p/\(p+1)*M.group<=8/\0<=k/\k<16/\M.fq.length<100000 then some (M.outs p.toNat n (M.act k.toNat)) else none
 | _,_,_=>none
def reachM_is {tv:Jn} {M M':Mc} (h:ZU tv M=some M'):∃ (p:Nat) (n:Int) (k:Nat),tv[1]?=some (.int p)/\tv[2]?=some (.int n)/\tv[3]?=some (.int k)/\((p:Int)+1)*M.group<=8/\k<16/\M.fq.length<100000/\M'=M.outs p n (M.act k):=by
 unfold ZU at h
 split at h
 ·rename_i p n k e1 e2 e3
  split at h
  ·rename_i hc
   obtain ⟨p0,p8,k0,k1,fl⟩:=hc;cases h;refine ⟨p.toNat,n,k.toNat,?_,e2,?_,?_,by omega,fl,rfl⟩
   ·rw [e1];congr 2;omega
   ·rw [e3];congr 2;omega
   ·rw [Int.toNat_of_nonneg p0];exact p8
  ·cases h
 ·cases h
def ok_reach {c:MCs} (d:zn K mg "play_reach" xT ["bench","step"]) (hzip:mg "zip"=none) (CC:MCls K c) (AU:OkM P w K mg base CX0 1 c.bn "active_under" ["self","mask"] (spAct c)) (NI:OkM P w K mg base CX0 3 c.bn "numbers_in" ["self","seat","active"] (spNums c K)):Ok P w K mg base CX0 4 "play_reach" ["bench","step"] (spEf c ZU):=by
 obtain ⟨g,fd,m,F,b⟩:=d;refine ⟨g,fd,m,F.kp,b,F.ok sc_play_reach (by rintro vs H Q E ⟨_,_,_,_,_,_,_,e,_⟩;rw [e];rfl) λcdv A outer s H vs Q E hr h=>?_⟩;obtain ⟨B,A,M,R,st,tv,M',rfl,m,es,ef,ok,q⟩:=h;have nd:=sc_play_reach.nd;have hu:=Nat.lt_of_le_of_lt (Nat.add_le_add_left (show 1<=64 by decide) _) hr.units;have hr3:=hr;have hr1:=hr.mono (show 1<=3 by decide);have CN:=CC.n;have ml:=ok.ml;have SL:(200000:Nat)<sizeLine:=by decide
 obtain ⟨p,n,k,e1,e2,e3,p8,k16,fl,rfl⟩:=reachM_is ef;obtain ⟨mr1,mr2⟩:=Xb ok k16;obtain ⟨ai,al⟩:=act_in ok k;refine ⟨_,(zc (zu (i:=2) nd rfl (Or.inl rfl) (yg AU CC.n.c hr1 zt (pv 0) (zb (zr zR (pv 1) ze (λ_ _=>rfl)) zd)))
   (zg (xr PassesOwn.never rfl (pi_zip rfl hzip (zb (pv 2) (zb (yg NI CC.n.c hr3 zt (pv 0) (zb (zr zR (pv 1) ze (λ_ _=>rfl)) (zb (pv 2) zd))) zd))) (zb7 rfl (yI (zC (i:=3) nd rfl (Or.inl rfl)) (yI (zC (i:=4) nd rfl (Or.inl rfl)) YF))) (zg (zQ (Y5 (YE op_le Yi ze (pv 4) (zr zR (pv 1) ze (λ_ _=>rfl)))) (zg (Z5 hu (zq (pv 0) rfl) (pv 3) zK rfl)) zv))))),?_⟩
 dsimp only [yh,Cx.nox,Cx.wish];refine ⟨_,rfl,A.b,_,_,rfl,m.b,rfl,_,rfl,st,_,_,_,rfl,rfl,SqT.of (m.h.sm _ _ es),zJ (j:=3) e3,B,A,M,R,k,rfl,m,by omega,ok.w0,mr1,mr2,λB1 H1 l s1 m1 ea=>?_⟩;refine ⟨_,rfl,_,rfl,A.b,_,_,rfl,m1.b,rfl,_,rfl,st,_,_,_,rfl,rfl,SqT.of (m1.h.sm _ _ (s1 _ _ es)),zJ (j:=1) e1,_,rfl,B1,A,M,R,p,l,M.act k,rfl,m1,ok,p8,ea,ai,al,λB2 H2 l2 s2 m2 en=>?_⟩;refine ⟨l,l2,rfl,⟨_,SqL.of (m2.h.sm _ _ (s2 _ _ ea))⟩,⟨_,SqL.of (m2.h.sm _ _ en)⟩,?_⟩;generalize M.act k=js at *;let f:Int->Bool:=λj=>!xp M p n j;refine zck (xs:=js.map V.int) (ys:=(js.map (M.nq p)).map V.int) (λi σ J=>∃ u3 u4 B3,σ=[rq A.b,rq st,rq l,u3,u4]/\Same B2 B3/\MAt c B3 A (M.outs p n (js.take i)) R J) ⟨none,none,B2,rfl,Same.refl _,m2⟩ (λi σ J _ ⟨_,_,B3,_,s3,m3⟩=>⟨SqL.of (m3.h.sm _ _ (s3 _ _ (s2 _ _ ea))),SqL.of (m3.h.sm _ _ (s3 _ _ en))⟩) (by rw [Ji,Ji,Ji]) ?_ ?_
 ·rintro i x y σ J T hx hy ⟨u3,u4,B3,rfl,s3,m3⟩ nT
  obtain ⟨j,e9,rfl⟩:=xb hx;obtain ⟨z,e10,rfl⟩:=xb hy;rw [List.getElem?_map,e9] at e10;cases e10;have hlt:i<js.length:=(List.getElem?_eq_some_iff.mp e9).1;have m4:=m3.grow (o:=.tup [.int j,.int (M.nq p j)]) nT;have s4:Same B3 (upd B3 T (.tup [.int j,.int (M.nq p j)])):=zi (Same.refl _) (m3.h.free nT);have e4:upd B3 T (.tup [.int j,.int (M.nq p j)]) T=some (.tup [.int j,.int (M.nq p j)]):=zf;generalize upd J T (.tup [.int j,.int (M.nq p j)])=J4 at m4 ⊢;generalize upd B3 T (.tup [.int j,.int (M.nq p j)])=B4 at m4 s4 e4;have sq:SqT K J4 st tv:=SqT.of (m4.h.sm _ _ (s4 _ _ (s3 _ _ (s2 _ _ (s1 _ _ es)))))
  have et:(js.take (i+1)).filter f=(js.take i).filter f++if f j=true then [j] else []:=by
   rw [List.take_add_one,e9,List.filter_append];congr 1;show List.filter f [j]=_;by_cases z:f j=true
   ·rw [List.filter_cons_of_pos z,if_pos z];rfl
   ·rw [List.filter_cons_of_neg z,if_neg z];rfl
  have stay:xp M p n j=true->MAt c B4 A (M.outs p n (js.take (i+1))) R J4:=λz=>by
   have:M.outs p n (js.take (i+1))=M.outs p n (js.take i):=by
    unfold Mc.outs;have e:(js.take (i+1)).filter f=(js.take i).filter f:=by rw [et,if_neg (by show ¬ (!xp M p n j)=true;rw [z];decide),q3y]
    show ({ M with fq:=xu M.fq ((js.take (i+1)).filter f) }:Mc)={ M with fq:=xu M.fq ((js.take i).filter f) };rw [e]
   rw [this];exact m4
  have goF:xp M p n j=false->∃ u3 u4 B3,[some (.ref A.b),some (.ref st),some (.ref l),some (V.int j),some (V.int (M.nq p j))]=[rq A.b,rq st,rq l,u3,u4]/\Same B2 B3/\MAt c B3 A (M.outs p n (js.take (i+1))) R (upd J4 A.aF (.dK (zW (xu M.fq ((js.take i).filter f)) (.inl j) (.str "outside")))):=λz=>by
   refine ⟨_,_,B4,rfl,s3.trans s4,?_⟩;have m5:=m4.putFault (zW (xu M.fq ((js.take i).filter f)) (.inl j) (.str "outside"))
   have:M.outs p n (js.take (i+1))={ M.outs p n (js.take i) with fq:=zW (xu M.fq ((js.take i).filter f)) (.inl j) (.str "outside") }:=by
    unfold Mc.outs;show ({ M with fq:=xu M.fq ((js.take (i+1)).filter f) }:Mc)={ M with fq:=_ };rw [et,if_pos (by show (!xp M p n j)=true;rw [z];rfl)];unfold xu;rw [List.foldl_append];rfl
   rw [this];exact m5
  have lf:=outF_len ((js.take i).filter f) M.fq;have lf2:=List.length_filter_le f (js.take i);rw [List.length_take] at lf2;have eF:J4 A.aF=some (.dK (xu M.fq ((js.take i).filter f))):=m4.h.get 7 rfl;refine ⟨T,_,rfl,SqT.of (m4.h.sm _ _ e4),rfl,_,_,rfl,_,_,rfl,rfl,?_⟩;refine ⟨_,rfl,_,_,rfl,rfl,_,rfl,?_⟩;by_cases z0:0<=M.nq p j
  ·rw [decide_eq_true z0]
   refine xG ⟨_,rfl,st,_,_,_,rfl,rfl,sq,zJ (j:=2) e2,_,_,rfl,rfl,_,rfl,?_⟩;by_cases z1:M.nq p j<n
   ·rw [decide_eq_true z1]
    exact yw ⟨_,_,B4,rfl,s3.trans s4,stay (by unfold xp;rw [decide_eq_true z0,decide_eq_true z1];rfl)⟩
   ·rw [decide_eq_false z1]
    refine xG ⟨_,rfl,A.b,_,_,_,.ref A.aF,rfl,m4.b,CN.c,CN.fq,rfl,_,rfl,A.aF,_,rfl,DPut.k (k:=.inl j) eF (by omega),?_⟩;exact goF (by unfold xp;rw [decide_eq_true z0,decide_eq_false z1];rfl)
  ·rw [decide_eq_false z0]
   refine yw ⟨_,rfl,xG ⟨_,rfl,A.b,_,_,_,.ref A.aF,rfl,m4.b,CN.c,CN.fq,rfl,_,rfl,A.aF,_,rfl,DPut.k (k:=.inl j) eF (by omega),?_⟩⟩;exact goF (by unfold xp;rw [decide_eq_false z0];rfl)
 ·rintro σ J ⟨u3,u4,B3,rfl,s3,m3⟩
  rw [Ji,List.take_length] at m3;exact q B3 A J ((s1.trans s2).trans s3) rfl m3
def Mc.sad (M:Mc) (slot lane:Int):Int:=M.cells.length+slot*4*M.lq+lane
def Mc.slotN (M:Mc) (a:Int):Int:=match zN M.slots (.inl a) with
 | some (.int n)=>n
 | _=>0
def SlotsOk (M:Mc):Prop:=∀ k v,zN M.slots k=some v->∃ n,v=.int n
def Mc.wroteSlot (M:Mc) (slot lane n:Int):Mc:={ M.touched "write" (M.sad slot lane) with slots:=zW M.slots (.inl (M.sad slot lane)) (.int n) }
def Mc.gaOne (M:Mc) (r:Nat) (place lane:Int):Mc×Option Int:=if 0<=place/\place<M.lens.getD r 0 then (M.touched "read" (M.adr r place),some (M.cells.getD (M.adr r place).toNat 0)) else ({ M with fq:=zW M.fq (.inl lane) (.str "outside") },none)
def Mc.gaOne_is (M:Mc) (r:Nat) (place lane:Int):(M.gaOne r place lane).1={ M with tq:=(M.gaOne r place lane).1.tq,fq:=(M.gaOne r place lane).1.fq }/\(M.gaOne r place lane).1.tq.length<=M.tq.length+1/\(M.gaOne r place lane).1.fq.length<=M.fq.length+1:=by
 unfold Mc.gaOne
 split
 ·exact ⟨rfl,by show (M.tq++[_]).length<=_;rw [Jj];exact Nat.le_refl _,Nat.le_succ _⟩
 ·exact ⟨rfl,Nat.le_succ _,yl _ _ _⟩
def Mc.gaAll (r:Nat):List (Int×Int)->Mc->Mc×List (Option Int)
 | [],M=>(M,[])
 | p::ps,M=>let x:=M.gaOne r p.1 p.2;let y:=Mc.gaAll r ps x.1;(y.1,x.2::y.2)
theorem Mc.gaAll_snoc (r:Nat) (p:Int×Int):∀ (ps:List (Int×Int)) (M:Mc),Mc.gaAll r (ps++[p]) M=(((Mc.gaAll r ps M).1.gaOne r p.1 p.2).1,(Mc.gaAll r ps M).2++[((Mc.gaAll r ps M).1.gaOne r p.1 p.2).2])
 | [],M=>rfl
 | q::ps,M=>by
  show ((Mc.gaAll r (ps++[p]) _).1,_::(Mc.gaAll r (ps++[p]) _).2)=_;rw [Mc.gaAll_snoc r p ps];rfl
theorem Mc.gaAll_is (r:Nat):∀ (ps:List (Int×Int)) (M:Mc),(Mc.gaAll r ps M).1={ M with tq:=(Mc.gaAll r ps M).1.tq,fq:=(Mc.gaAll r ps M).1.fq }/\(Mc.gaAll r ps M).1.tq.length<=M.tq.length+ps.length/\(Mc.gaAll r ps M).1.fq.length<=M.fq.length+ps.length/\(Mc.gaAll r ps M).2.length=ps.length
 | [],M=>⟨rfl,Nat.le_refl _,Nat.le_refl _,rfl⟩
 | p::ps,M=>by
  obtain ⟨a1,a2,a3⟩:=M.gaOne_is r p.1 p.2;obtain ⟨b1,b2,b3,b4⟩:=Mc.gaAll_is r ps (M.gaOne r p.1 p.2).1;refine ⟨?_,?_,?_,?_⟩
  ·show (Mc.gaAll r ps (M.gaOne r p.1 p.2).1).1={ M with tq:=(Mc.gaAll r ps (M.gaOne r p.1 p.2).1).1.tq,fq:=(Mc.gaAll r ps (M.gaOne r p.1 p.2).1).1.fq }
   rw [b1];rw [a1]
  ·show (Mc.gaAll r ps (M.gaOne r p.1 p.2).1).1.tq.length<=_
   rw [q3x];omega
  ·show (Mc.gaAll r ps (M.gaOne r p.1 p.2).1).1.fq.length<=_
   rw [q3x];omega
  ·show (_::(Mc.gaAll r ps _).2).length=_
   rw [q3x,b4];rfl
open Classical in
noncomputable def xC:FnM:=λtv M js=>match (tv[2]?:Jo),(tv[3]?:Jo) with
 | some (V.int p),some (V.int r)=>if 0<=p/\(p+1)*M.group<=8/\0<=r/\X0 M r.toNat/\M.tq.length<90000/\M.fq.length<90000 then some (Mc.gaAll r.toNat (js.map λj=>(M.nq p.toNat j,j)) M) else none
 | _,_=>none
def ZO {tv:Jn} {M M':Mc} {js:Jb} {ns:List (Option Int)} (h:xC tv M js=some (M',ns)):∃ (p r:Nat),tv[2]?=some (.int p)/\tv[3]?=some (.int r)/\((p:Int)+1)*M.group<=8/\X0 M r/\M.tq.length<90000/\M.fq.length<90000/\M'=(Mc.gaAll r (js.map λj=>(M.nq p j,j)) M).1/\ns=(Mc.gaAll r (js.map λj=>(M.nq p j,j)) M).2:=by
 unfold xC at h
 split at h
 ·rename_i p r e1 e2
  split at h
  ·rename_i hc
   obtain ⟨p0,p8,r0,ra,ht,hf⟩:=hc;have h:=Option.some.inj h;refine ⟨p.toNat,r.toNat,by rw [e1];congr 2;omega,by rw [e2];congr 2;omega,by rw [Int.toNat_of_nonneg p0];exact p8,ra,ht,hf,by rw [h],by rw [h]⟩
  ·cases h
 ·cases h
def zen:FnMOk xC where
 ok:=λ{tv M js M' ns} h ok=>by
  obtain ⟨p,r,_,_,_,_,_,_,rfl,_⟩:=ZO h;rw [(Mc.gaAll_is r (js.map λj=>(M.nq p j,j)) M).1];exact ⟨ok.l1,ok.l64,ok.g,ok.nl,ok.ml,ok.mm,ok.w0,ok.w1⟩
 g:=λ{tv M js M' ns} h=>by
  obtain ⟨p,r,_,_,_,_,_,_,rfl,_⟩:=ZO h;rw [(Mc.gaAll_is r (js.map λj=>(M.nq p j,j)) M).1]
 n:=λ{tv M js M' ns} h=>by
  obtain ⟨p,r,_,_,_,_,_,_,_,rfl⟩:=ZO h;rw [(Mc.gaAll_is r (js.map λj=>(M.nq p j,j)) M).2.2.2,Ji]
inductive spGa (c:MCs) (vs:Jn) (H:Hp) (Q:VK) (_:XK):Prop
 | mk (B:Hp) (A:Ma) (M:Mc) (R:Jm) (r:Nat) (place lane:Int) (_:vs=[.ref A.b,.int r,.int place,.int lane]) (_:MAt c B A M R H) (_:X0 M r) (_:M.tq.length<100000) (_:M.fq.length<100000) (_:∀ B' A' H',Same B B'->A'.b=A.b->MAt c B' A' (M.gaOne r place lane).1 R H'->Q (oV (M.gaOne r place lane).2) H')
def ok_gaOne {c:MCs} (d:zn K mg "number_gathered" yF ["bench","row","place","lane"]) (CC:MCls K c) (RC:OkM P w K mg base CX0 2 c.bn "read_cell" ["self","row","place"] (spRead c)):Ok P w K mg base CX0 3 "number_gathered" ["bench","row","place","lane"] (spGa c):=by
 obtain ⟨g,fd,m,F,b⟩:=d;refine ⟨g,fd,m,F.kp,b,F.ok Yp (by rintro vs H Q E ⟨_,_,_,_,_,_,_,e,_⟩;rw [e];rfl) λcdv A outer s H vs Q E hr h=>?_⟩;obtain ⟨B,A,M,R,r,place,lane,rfl,m,⟨ra1,ra2,ra3,ra4⟩,ht,hf,q⟩:=h;have hu:=Nat.lt_of_le_of_lt (Nat.add_le_add_left (show 1<=64 by decide) _) hr.units;have hr2:=hr;have CN:=CC.n;have SL:(200000:Nat)<sizeLine:=by decide
 refine ⟨_,(zc (zQ (YE op_le Yi ze (pv 2) (zr zE (zq (pv 0) rfl) (pv 1) (λ_ _=>rfl))) (zg (zm (yg RC CC.n.c hr2 zt (pv 0) (zb (pv 1) (zb (pv 2) zd))))) zv)
   (zc (Z5 hu (zq (pv 0) rfl) (pv 3) zK rfl)
   (zg (zm yE)))),?_⟩
 dsimp only [yh,Cx.nox,Cx.wish];show (let s1:L2.TS:=_;let s2:L2.TS:=L2.tSeq _ s1;L2.tSeq _ s2 _ _ _);intro s1 s2;refine ⟨_,rfl,_,_,rfl,rfl,_,rfl,?_⟩;by_cases z0:0<=place
 ·rw [decide_eq_true z0]
  refine xG ⟨_,rfl,A.b,_,_,_,.ref A.aL,rfl,m.b,CN.c,CN.lengths,rfl,_,rfl,A.aL,_,_,_,rfl,rfl,SqL.of (m.h.sm _ _ m.bb.lens),xM r ra2 rfl,_,_,rfl,rfl,_,rfl,?_⟩;by_cases z1:place<M.lens.getD r 0
  ·rw [decide_eq_true z1]
   have e:M.gaOne r place lane=(M.touched "read" (M.adr r place),some (M.cells.getD (M.adr r place).toNat 0)):=if_pos ⟨z0,z1⟩;rw [e] at q;refine xG ⟨_,rfl,A.b,_,_,rfl,m.b,rfl,_,rfl,_,rfl,B,A,M,R,r,place,rfl,m,ht,ra1,?_,?_,λB1 A1 H1 s1 eb m1=>q B1 A1 H1 s1 eb m1⟩
   ·unfold Mc.adr;omega
   ·unfold Mc.adr;omega
  ·rw [decide_eq_false z1]
   have e:M.gaOne r place lane=({ M with fq:=zW M.fq (.inl lane) (.str "outside") },none):=if_neg λy=>z1 y.2;rw [e] at q;exact yw ⟨_,rfl,A.b,_,_,_,.ref A.aF,rfl,m.b,CN.c,CN.fq,rfl,_,rfl,A.aF,_,rfl,DPut.k (k:=.inl lane) (m.h.get 7 rfl) (by omega),q B A _ (Same.refl _) rfl (m.putFault _)⟩
 ·rw [decide_eq_false z0]
  have e:M.gaOne r place lane=({ M with fq:=zW M.fq (.inl lane) (.str "outside") },none):=if_neg λy=>z0 y.1;rw [e] at q;exact yw ⟨_,rfl,yw ⟨_,rfl,A.b,_,_,_,.ref A.aF,rfl,m.b,CN.c,CN.fq,rfl,_,rfl,A.aF,_,rfl,DPut.k (k:=.inl lane) (m.h.get 7 rfl) (by omega),q B A _ (Same.refl _) rfl (m.putFault _)⟩⟩
def ok_gather {c:MCs} (d:zn K mg "numbers_gathered" yy ["bench","step","active"]) (hzip:mg "zip"=none) (CC:MCls K c) (NI:OkM P w K mg base CX0 3 c.bn "numbers_in" ["self","seat","active"] (spNums c K)) (NG:Ok P w K mg base CX0 3 "number_gathered" ["bench","row","place","lane"] (spGa c)):Ok P w K mg base CX0 4 "numbers_gathered" ["bench","step","active"] (spFn c xC):=by
 obtain ⟨g,fd,m,F,b⟩:=d;refine ⟨g,fd,m,F.kp,b,F.ok sc_numbers_gathered (by rintro vs H Q E ⟨_,_,_,_,_,_,_,_,_,_,e,_⟩;rw [e];rfl) λcdv A outer s H vs Q E hr h=>?_⟩;obtain ⟨B,A,M,R,st,aa,tv,js,M',ns,rfl,m,es,ea,ef,ok,hj,hl,q⟩:=h;obtain ⟨p,r,e2,e3,p8,ra,ht,hf,rfl,rfl⟩:=ZO ef;have nd:=sc_numbers_gathered.nd;have hr3:=hr;have CN:=CC.n;have SL:(3000:Nat)<sizeLine:=by decide
 let pr:Int->Int×Int:=λj=>(M.nq p j,j);refine ⟨_,(zc (zu (i:=3) nd rfl (Or.inl rfl) (yg NI CC.n.c hr3 zt (pv 0) (zb (zr zR (pv 1) ze (λ_ _=>rfl)) (zb (pv 2) zd))))
   (zg (zm (yk ["place","lane","bench","step"] [none,none,some 0,some 1] rfl rfl rfl (pi_zip rfl hzip (zb (pv 3) (zb (pv 2) zd))) (λs3 H3 fp=>⟨pg_tupK (K:=K) (n:=2) rfl rfl (yI (zC (i:=0) (Jp ["place","lane","bench","step"]) rfl (Or.inl rfl)) (yI (zC (i:=1) (Jp ["place","lane","bench","step"]) rfl (Or.inl rfl)) YF)),(zL NG hr3 (by rfl) zt (zb (pv 2) (zb (zr (zcg (K:=K) rfl) (pv 3) ze (λ_ _=>rfl)) (zb (pv 0) (zb (pv 1) zd)))))⟩))))),?_⟩
 dsimp only [yh,Cx.nox,Cx.wish];refine ⟨_,rfl,A.b,_,_,rfl,m.b,rfl,_,rfl,st,_,_,_,rfl,rfl,SqT.of (m.h.sm _ _ es),zJ (j:=2) e2,_,rfl,B,A,M,R,p,aa,js,rfl,m,ok,p8,ea,hj,hl,λB1 H1 l s1 m1 el=>?_⟩;have ea1:=s1 _ _ ea;refine ⟨_,rfl,_,rfl,l,aa,rfl,⟨_,SqL.of (m1.h.sm _ _ el)⟩,⟨_,SqL.of (m1.h.sm _ _ ea1)⟩,_,rfl,λD nD=>?_⟩;have m0:MAt c B1 A (Mc.gaAll r ((js.take 0).map pr) M).1 ((D,.lst ((Mc.gaAll r ((js.take 0).map pr) M).2.map oV))::R) (upd H1 D (.lst [])):=m1.newR nD;generalize upd H1 D (.lst [])=H2 at m0 ⊢;refine comp_zip (K:=K) (xs:=(js.map (M.nq p)).map V.int) (ys:=js.map V.int) (λi σ J=>∃ (u0 u1:Jo) (B2:Hp) (A2:Ma),σ=[u0,u1,rq A.b,rq st]/\Same B1 B2/\A2.b=A.b/\MAt c B2 A2 (Mc.gaAll r ((js.take i).map pr) M).1 ((D,.lst ((Mc.gaAll r ((js.take i).map pr) M).2.map oV))::R) J) ⟨none,none,B1,A,rfl,Same.refl _,rfl,m0⟩ (λi σ J _ ⟨_,_,B2,A2,_,s2,_,m2⟩=>⟨SqL.of (m2.h.sm _ _ (s2 _ _ el)),SqL.of (m2.h.sm _ _ (s2 _ _ ea1))⟩) (by rw [Ji,Ji,Ji]) ?_ ?_
 ·clear m0
  rintro i x y σ J T hx hy ⟨u0,u1,B2,A2,rfl,s2,eb,m2⟩ nT;obtain ⟨j,e9,rfl⟩:=xb hy;obtain ⟨z,e10,rfl⟩:=xb hx;rw [List.getElem?_map,e9] at e10;cases e10;have hlt:i<js.length:=(List.getElem?_eq_some_iff.mp e9).1;have m3:=m2.grow (o:=.tup [.int (M.nq p j),.int j]) nT;have s3:Same B2 (upd B2 T (.tup [.int (M.nq p j),.int j])):=zi (Same.refl _) (m2.h.free nT);have e4:upd B2 T (.tup [.int (M.nq p j),.int j]) T=some (.tup [.int (M.nq p j),.int j]):=zf;generalize upd J T (.tup [.int (M.nq p j),.int j])=J3 at m3 ⊢;generalize upd B2 T (.tup [.int (M.nq p j),.int j])=B3 at m3 s3 e4;obtain ⟨i1,i2,i3,i4⟩:=Mc.gaAll_is r ((js.take i).map pr) M;have et:(js.take (i+1)).map pr=(js.take i).map pr++[pr j]:=by rw [List.take_add_one,e9,Jk];rfl
  rw [et,Mc.gaAll_snoc];rw [Ji,List.length_take] at i2 i3 i4;have sq:SqT K J3 st tv:=SqT.of (m3.h.sm _ _ (s3 _ _ (s2 _ _ (s1 _ _ es))));have raI:X0 (Mc.gaAll r ((js.take i).map pr) M).1 r:=by rw [i1];exact ra
  generalize Mc.gaAll r ((js.take i).map pr) M=X at *;obtain ⟨MX,nX⟩:=X;have i2:MX.tq.length<=M.tq.length+min i js.length:=i2;have i3:MX.fq.length<=M.fq.length+min i js.length:=i3;have i4:nX.length=min i js.length:=i4;refine ⟨T,_,rfl,SqT.of (m3.h.sm _ _ e4),rfl,_,_,rfl,_,_,rfl,rfl,?_⟩;refine ⟨_,rfl,_,rfl,st,_,_,_,rfl,rfl,sq,zJ (j:=3) e3,_,rfl,_,rfl,B3,A2,MX,_,r,M.nq p j,j,by rw [eb];rfl,m3,raI,by omega,by omega,λB4 A4 H4 s4 eb4 m4=>?_⟩;refine ⟨_,m4.getR,(by rw [Ji];omega),_,_,B4,A4,rfl,(s2.trans s3).trans s4,eb4.trans eb,?_⟩;rw [Jk];exact m4.putR
 ·rintro σ J ⟨u0,u1,B2,A2,rfl,s2,eb,m2⟩
  rw [Ji,Ji,List.take_length] at m2;have nb:B2 D=none:=m2.h.nw (D,_) (List.mem_of_getElem? atR);exact q _ A2 J D ((s1.trans s2).trans (zi (Same.refl _) nb)) eb m2.settle zf
def zy (f:Jl):Jb:=f.filterMap λp=>match p.1 with
 | .inl j=>some j
 | .inr _=>none
def yV (f:Jl):Prop:=∀ p∈f,∃ j,p.1=.inl j
def Ye:Jb->Int
 | []=>0
 | [x]=>x
 | x::xs=>min x (Ye xs)
theorem zcd:∀ (xs:Jb),∀ v∈xs,Ye xs<=v
 | [],v,h=>by cases h
 | [x],v,h=>by cases List.mem_singleton.mp h;exact Int.le_refl _
 | x::y::xs,v,h=>by
  have ih:=zcd (y::xs);show min x (Ye (y::xs))<=v;rcases List.mem_cons.mp h with rfl | h
  ·omega
  ·have:=ih v h;omega
theorem YL:∀ (xs:Jb),xs≠[]->Ye xs∈xs
 | [],h=>absurd rfl h
 | [x],_=>List.mem_singleton.mpr rfl
 | x::y::xs,_=>by
  have ih:=YL (y::xs) (by simp);show min x (Ye (y::xs))∈_;by_cases c:x<=Ye (y::xs)
  ·rw [Int.min_eq_left c];exact q1z
  ·rw [Int.min_eq_right (by omega)];exact q1y _ ih
def minI_is {xs:Jb} {m:Int} (h1:m∈xs) (h2:∀ v∈xs,m<=v):m=Ye xs:=by
 have a:=zcd xs m h1;have b:=h2 _ (YL xs (λz=>by rw [z] at h1;cases h1));omega
def Mc.faulted (M:Mc):Jb:=(zy M.fq).filter λj=>decide (j<M.wq)
def Mc.trimmed (M:Mc):Mc:=if M.faulted=[] then M else { M with cut:=some (Ye M.faulted),wq:=Ye M.faulted }
open Classical in
noncomputable def XR:EfM:=λ_ M=>if yV M.fq/\M.fq.length<100000 then some M.trimmed else none
def Zz:EfM:=λtv M=>match (tv[1]?:Jo),M.cut with
 | some (V.int n),some c=>(match zN M.fq (.inl c) with
  | some (V.str z)=>some { M with rq_:=some (n,M.base+c,z) }
  | _=>none)
 | some (V.int _),none=>some M
 | _,_=>none
def zdl {f:Jl} (h:yV f):∀ i p,f[i]?=some p->∃ j,p.1=.inl j/\zy (f.take (i+1))=zy (f.take i)++[j]:=λi p e=>by
 obtain ⟨j,hj⟩:=h p (List.mem_of_getElem? e);refine ⟨j,hj,?_⟩;unfold zy;rw [List.take_add_one,e,List.filterMap_append];congr 1;obtain ⟨k,v⟩:=p;have hj:k=.inl j:=hj;subst hj;rfl
def Xh (f:Jl):(zy f).length<=f.length:=List.length_filterMap_le _ _
def MAt.s_refusal {c:MCs} {B:Hp} {A:Ma} {M:Mc} {R:Jm} {H:Hp} (m:MAt c B A M R H) {t:Ad} {r:Int×Int×Str} (e:B t=some (.tup [.int r.1,.int r.2.1,.str r.2.2])):MAt c B { A with rf:=.ref t } { M with rq_:=some r } R (upd H A.b (.ins c.bn A.db (zO "refusal" (.ref t) (xi A M)))) :=
 ⟨⟨m.bb.lens,m.bb.starts,m.bb.bx,m.bb.msk,m.bb.ml,m.bb.dl,m.bb.pl,m.bb.tl,m.bb.tt,m.bb.ul,m.bb.uu,⟨t,rfl,e⟩⟩,m.h.put (o':=.ins c.bn A.db (zO "refusal" (.ref t) (xi A M))) 0 rfl⟩
def ok_trim {c:MCs} (d:zn K mg "play_trim" Zi ["bench","step"]) (hlen:mg "len"=none) (hmin:mg "min"=none) (CC:MCls K c):Ok P w K mg base CX0 1 "play_trim" ["bench","step"] (spEf c XR):=by
 obtain ⟨g,fd,m,F,b⟩:=d;refine ⟨g,fd,m,F.kp,b,F.ok sc_play_trim (by rintro vs H Q E ⟨_,_,_,_,_,_,_,e,_⟩;rw [e];rfl) λcdv A outer s H vs Q E hr h=>?_⟩;obtain ⟨B,A,M,R,st,tv,M',rfl,m,es,ef,ok,q⟩:=h;have nd:=sc_play_trim.nd;have CN:=CC.n;have SL:(200000:Nat)<sizeLine:=by decide
 unfold XR at ef
 split at ef
 case isFalse=>cases ef
 rename_i hc;cases ef;obtain ⟨ik,fl⟩:=hc;refine ⟨_,(zc (ps_compD (i:=2) ["lane","bench"] [none,some 0] rfl rfl rfl (zq (pv 0) rfl) (λs3 H3 fp=>⟨zC (i:=0) (Jp ["lane","bench"]) rfl (Or.inl rfl),(zB Yi (pv 0) (YH (K:=K) rfl (pv 1) rfl) (zG _)),(pv 0)⟩) nd rfl (Or.inl rfl))
   (zg (zQ (zB op_gt (zw zP (by rfl) hlen PySem.boot_len (zb (pv 2) zd)) ze (zG _)) (zc (zI (pv 0) (zw (Xk rfl) (by rfl) hmin PyProof.Rows.boot_min (zb (pv 2) zd)) rfl)
   (zg (zI (pv 0) (zq (pv 0) rfl) rfl))) zv))),?_⟩
 dsimp only [yh,Cx.nox,Cx.wish];have eF:H A.aF=some (.dK M.fq):=m.h.get 7 rfl;have nbF:A.b≠A.aF:=λz=>by have:=m.b;rw [z,eF] at this;cases this
 have eb0:but H [A.aF] A.b=some (.ins c.bn A.db (xi A M)):=yZ m.b (λz=>nbF (List.mem_singleton.mp z));refine ⟨_,rfl,A.b,_,_,_,.ref A.aF,rfl,m.b,CN.c,CN.fq,rfl,A.aF,M.fq,rfl,eF,_,rfl,λD nD neD=>?_⟩;have nDH:H D=none:=zdx nD neD;have nbD:A.b≠D:=λz=>by have:=m.b;rw [z,nDH] at this;cases this
 let ks:Nat->Jb:=λi=>(zy (M.fq.take i)).filter λj=>decide (j<M.wq);have kl:∀ i,(ks i).length<=M.fq.length:=λi=>Nat.le_trans (List.length_filter_le _ _) (Nat.le_trans (Xh _) (by rw [List.length_take];omega));refine zet (kvs:=M.fq) (λi σ J=>∃ u,σ=[u,rq A.b]/\J=upd (but H [A.aF]) D (.lst ((ks i).map V.int))) ⟨none,rfl,rfl⟩ ?_ ?_
 ·rintro i p σ J hp ⟨u,rfl,rfl⟩
  obtain ⟨j,hj,ek⟩:=zdl ik i p hp
  have eks:ks (i+1)=ks i++if j<M.wq then [j] else []:=by
   show List.filter _ (zy (M.fq.take (i+1)))=List.filter _ (zy (M.fq.take i))++_;rw [ek,List.filter_append];congr 1;by_cases z:j<M.wq
   ·rw [List.filter_cons_of_pos (by simpa using z),if_pos z];rfl
   ·rw [List.filter_cons_of_neg (by simpa using z),if_neg z];rfl
  have ekV:kV p.1=.int j:=by rw [hj];rfl
  rw [ekV];have eb1:upd (but H [A.aF]) D (.lst ((ks i).map V.int)) A.b=some (.ins c.bn A.db (xi A M)):=by rw [zj nbD];exact eb0
  refine ⟨_,rfl,_,rfl,A.b,_,_,_,.int M.wq,rfl,eb1,CN.c,CN.wq,rfl,_,_,rfl,rfl,_,rfl,?_⟩;rw [eks];refine yU (λz=>?_) (λz=>?_)
  ·have z:j<M.wq:=by simpa using z
   rw [if_pos z];refine ⟨_,rfl,_,zf,(by rw [Ji];have:=kl i;omega),_,rfl,?_⟩;rw [zbs,Jk];rfl
  ·have z:¬ j<M.wq:=by simpa using z
   rw [if_neg z,q3y];exact ⟨_,rfl,rfl⟩
 rintro σ J ⟨u,rfl,rfl⟩ nd';have ek:ks M.fq.length=M.faulted:=by show List.filter _ (zy (M.fq.take _))=_;rw [List.take_length];rfl
 rw [ek]
 have eH:upd (upd (but H [A.aF]) D (.lst (M.faulted.map V.int))) A.aF (.dK M.fq)=upd H D (.lst (M.faulted.map V.int)):=by
  funext x;by_cases z:x=A.aF
  ·subst z;rw [zf,zj (Ne.symm neD)];exact eF.symm
  ·rw [zj z]
   by_cases y:x=D
   ·subst y;rw [zf,zf]
   ·rw [zj y,zj y]
    unfold but;rw [if_neg (λq=>z (List.mem_singleton.mp q))]
 rw [eH];have m1:=m.grow (o:=.lst (M.faulted.map V.int)) nDH;have s1:Same B (upd B D (.lst (M.faulted.map V.int))):=zi (Same.refl _) (m.h.free nDH);have eD:upd B D (.lst (M.faulted.map V.int)) D=_:=zf;generalize upd B D (.lst (M.faulted.map V.int))=B1 at m1 s1 eD;generalize upd H D (.lst (M.faulted.map V.int))=H1 at m1 ⊢;have qD:SqL K H1 D (M.faulted.map V.int):=SqL.of (m1.h.sm _ _ eD);refine ⟨_,rfl,D,_,rfl,.inl qD,_,_,rfl,rfl,_,rfl,?_⟩;rw [Ji];unfold Mc.trimmed at q;refine yU (λz=>?_) (λz=>?_)
 ·have z:(0:Int)<(M.faulted.length:Int):=by simpa using z
  have ne:M.faulted≠[]:=λy=>by rw [y] at z;exact absurd z (by decide)
  rw [if_neg ne] at q;refine ⟨_,rfl,D,M.faulted,rfl,qD,by omega,λmn h1 h2=>?_⟩;cases minI_is h1 h2;refine ⟨_,rfl,A.b,_,_,_,rfl,m1.b,CN.c,CN.cut,(by show 23<1000;decide),?_⟩;have m2:=m1.s_cut (some (Ye M.faulted));refine ⟨_,rfl,A.b,_,_,_,.int (Ye M.faulted),rfl,m2.b,CN.c,CN.cut,rfl,_,rfl,A.b,_,_,_,rfl,m2.b,CN.c,CN.wq,(by show 23<1000;decide),?_⟩;exact q B1 A _ s1 rfl (m2.s_width (Ye M.faulted))
 ·have z:¬ (0:Int)<(M.faulted.length:Int):=by simpa using z
  have ne:M.faulted=[]:=List.length_eq_zero_iff.mp (by omega);rw [if_pos ne] at q;exact q B1 A _ s1 rfl m1
def ok_stop {c:MCs} (d:zn K mg "play_stop" Zj ["bench","step"]) (CC:MCls K c):Ok P w K mg base CX0 1 "play_stop" ["bench","step"] (spEf c Zz):=by
 obtain ⟨g,fd,m,F,b⟩:=d;refine ⟨g,fd,m,F.kp,b,F.ok sc_play_stop (by rintro vs H Q E ⟨_,_,_,_,_,_,_,e,_⟩;rw [e];rfl) λcdv A outer s H vs Q E hr h=>?_⟩;obtain ⟨B,A,M,R,st,tv,M',rfl,m,es,ef,ok,q⟩:=h;have nd:=sc_play_stop.nd;have hu:=Nat.lt_of_le_of_lt (Nat.add_le_add_left (show 1<=64 by decide) _) hr.units;have CN:=CC.n;have SL:(200000:Nat)<sizeLine:=by decide
 refine ⟨_,(zg (zQ (zB op_notN (zq (pv 0) rfl) yE (zG _)) (zg (zI (pv 0) (yn (zb (zr zR (pv 1) ze (λ_ _=>rfl)) (zb (zk zF (zq (pv 0) rfl) (zq (pv 0) rfl)) (zb (ZM hu (zq (pv 0) rfl) (zq (pv 0) rfl) (λ_ _=>rfl)) zd)))) rfl)) zv)),?_⟩;dsimp only [yh,Cx.nox,Cx.wish];have eF:H A.aF=some (.dK M.fq):=m.h.get 7 rfl;refine ⟨_,rfl,A.b,_,_,_,oV M.cut,rfl,m.b,CN.c,CN.cut,rfl,rfl,_,rfl,?_⟩;unfold Zz at ef
 split at ef
 ·rename_i n cc e1 ec
  split at ef
  case h_2=>cases ef
  rename_i z ez;cases ef;rw [ec];have e2:(!decide (oV (some cc)=V.non))=true:=by rw [decide_eq_false (λy=>by cases y)];rfl
  rw [e2];refine xG ⟨_,rfl,st,_,_,_,rfl,rfl,SqT.of (m.h.sm _ _ es),zJ (j:=1) e1,_,rfl,A.b,_,_,_,.int M.base,rfl,m.b,CN.c,CN.base,rfl,_,rfl,A.b,_,_,_,.int cc,rfl,m.b,CN.c,CN.cut,(by show some (oV M.cut)=_;rw [ec];rfl),_,_,rfl,rfl,_,rfl,A.b,_,_,_,.ref A.aF,rfl,m.b,CN.c,CN.fq,rfl,_,rfl,A.b,_,_,_,.int cc,rfl,m.b,CN.c,CN.cut,(by show some (oV M.cut)=_;rw [ec];rfl),A.aF,.str z,rfl,(by rw [← ez];exact DGet.k (k:=.inl cc) eF),(by show 3<=sizeLine;omega),λt nt=>?_⟩;have m1:=m.grow (o:=.tup [.int n,.int (M.base+cc),.str z]) nt;have s1:Same B (upd B t (.tup [.int n,.int (M.base+cc),.str z])):=zi (Same.refl _) (m.h.free nt);have et:upd B t (.tup [.int n,.int (M.base+cc),.str z]) t=_:=zf;generalize upd B t (.tup [.int n,.int (M.base+cc),.str z])=B1 at m1 s1 et;refine ⟨_,rfl,A.b,_,_,_,rfl,m1.b,CN.c,CN.rq_,(by show 23<1000;decide),?_⟩;exact q B1 { A with rf:=.ref t } _ s1 rfl (m1.s_refusal (r:=(n,M.base+cc,z)) et)
 ·rename_i n e1 ec
  cases ef;rw [ec];have e2:(!decide (oV none=V.non))=false:=by rw [decide_eq_true (show oV none=V.non from rfl)];rfl
  rw [e2];exact yw (q B A H (Same.refl _) rfl m)
 ·cases ef
theorem sel_in (js:Jb) (m:List Bool) (j:Nat) (hj:j<m.length) (h:(j:Int)∈js∨m.getD j false=true):(sel m js).getD j false=true:=by
 induction js generalizing m with
 | nil =>
  rcases h with h | h
  ·cases h
  ·exact h
 | cons i js ih =>
  show (sel (m.set i.toNat true) js).getD j false=true;refine ih _ (by rw [List.length_set];exact hj) ?_;by_cases e:i.toNat=j
  ·right
   rw [q1x,e,q3z hj];rfl
  ·rcases h with h | h
   ·rcases List.mem_cons.mp h with h | h
    ·exact absurd (by rw [← h];rfl) e
    ·exact .inl h
   ·right
    rw [q1x,List.getElem?_set_ne e,← q1x];exact h
theorem dst_lt (d:Jb) (q:Nat) (m:List Bool) (lo k j:Nat) (h:j<lo):(dst d q m lo k).getD j false=m.getD j false:=by
 induction k with
 | zero=>rfl
 | succ k ih=>rw [zdo,q1x,List.getElem?_set_ne (by omega),← q1x];exact ih
def mem_upto {n j:Nat} (h:j<n):(j:Int)∈zM n:=List.mem_map.mpr ⟨j,List.mem_range.mpr h,rfl⟩
def actTo_all (M:Mc) (k n:Nat) (h:∀ j,j<n->M.isAct k j=true):M.actTo k n=zM n:=by
 unfold Mc.actTo zM;rw [List.filter_eq_self.mpr λj hj=>h j (List.mem_range.mp hj)];rfl
def strip_act {M:Mc} (ok:MOk0 M) (hg:M.group=1∨M.group=2∨M.group=4) {b:Int} (hb:b<=M.mn_):(M.strip b).act 0=zM (M.wide b).toNat/\MOk (M.strip b):=by
 have l1:=ok.l1;have rb:M.group*M.lq<=4*M.lq/\1<=M.group*M.lq:=by rcases hg with e | e | e <;> rw [e] <;> omega
 have w01:0<=M.wide b/\M.wide b<=M.group*M.lq:=by unfold Mc.wide;split <;> omega
 have ml:0<M.mq.length:=by rw [ok.ml];decide
 have lm:(M.mq.getD 0 []).length=4*M.lq:=by
  rw [q1x,List.getElem?_eq_getElem ml];exact ok.mm _ (List.getElem_mem ml)
 refine ⟨?_,?_⟩
 ·refine actTo_all _ _ _ λj hj=>?_
  have hj:j<(M.wide b).toNat:=hj;unfold Mc.isAct
  have e1:((M.strip b).mq.getD 0 []).getD j false=true:=by
   show ((M.mq.set 0 _).getD 0 []).getD j false=true;rw [q1x (l:=M.mq.set 0 _),q3z ml];show (dst _ _ (sel (clr (M.mq.getD 0 []) (M.wide b).toNat) (zM (M.wide b).toNat)) (M.wide b).toNat _).getD j false=true;rw [dst_lt _ _ _ _ _ _ hj];exact sel_in _ _ _ (by rw [Yd,lm];omega) (.inl (mem_upto hj))
  rw [e1];rfl
 ·refine ⟨ok.l1,ok.l64,hg,ok.nl,?_,λm hm=>?_,w01.1,w01.2⟩
  ·show (M.mq.set 0 _).length=16
   rw [List.length_set];exact ok.ml
  ·rcases List.mem_or_eq_of_mem_set hm with hm | rfl
   ·exact ok.mm m hm
   ·show (dst _ _ (sel (clr (M.mq.getD 0 []) _) _) _ _).length=_
    rw [zcl,Xw,Yd,lm];rfl
def layOne_is (told:Jl) (p:Nat) (M:Mc) (t:Nat):M.layOne told p t={ M with nums:=(M.layOne told p t).nums,dq:=(M.layOne told p t).dq }:=by
 unfold Mc.layOne;split <;> rfl
theorem layTo_is (told:Jl) (p:Nat) (M:Mc) (n:Nat):M.layTo told p n={ M with nums:=(M.layTo told p n).nums,dq:=(M.layTo told p n).dq }:=by
 induction n with
 | zero=>rfl
 | succ n ih =>
  rw [M.layTo_succ];have e:=layOne_is told p (M.layTo told p n) n;rw [e];rw [ih]
theorem layTo_at (told:Jl) (p:Nat) (M:Mc) (n j:Nat) (v:Int) (hj:j<n) (hin:∀ t:Nat,t<n->0<=(p:Int)*M.group*M.lq+t/\((p:Int)*M.group*M.lq+t).toNat<M.nums.length) (hv:zN told (.inl (j:Int))=some (.int v)):(M.layTo told p n).nq p j=v:=by
 induction n with
 | zero=>omega
 | succ n ih =>
  have s:=M.layTo_same told p n;have hn:=hin n (by omega);have hjj:=hin j hj;rw [M.layTo_succ];by_cases e:j=n
  ·subst e
   unfold Mc.layOne;rw [hv];show (List.set _ _ _).getD _ 0=v;rw [s.g,s.l,q1x,q3z (by rw [s.n];exact hn.2)];rfl
  ·have e2:((M.layTo told p n).layOne told p n).nq p j=(M.layTo told p n).nq p j:=by
    unfold Mc.layOne
    split
    ·show (List.set _ _ _).getD _ 0=_
     rw [q1x,List.getElem?_set_ne (by rw [s.g,s.l];omega),← q1x];rfl
    ·show (List.set _ _ _).getD _ 0=_
     rw [q1x,List.getElem?_set_ne (by rw [s.g,s.l];omega),← q1x];rfl
   rw [e2];exact ih (by omega) λt ht=>hin t (by omega)
inductive Steps (L:Lex) (code:List (Jn)):Nat->Mc->Mc->Prop
 | refl {M}:Steps L code 0 M M
 | cons {n M M1 Mf tv}:0<=M.pc->M.rq_=none->code[M.pc.toNat]?=some tv->Step L tv M M1->Steps L code n M1 Mf->Steps L code (n+1) M Mf
theorem Steps.trans {L:Lex} {code:List (Jn)} {n k:Nat} {M M1 M2:Mc} (h:Steps L code n M M1) (h2:Steps L code k M1 M2):Steps L code (n+k) M M2:=by
 induction h with
 | refl=>rw [Nat.zero_add];exact h2
 | cons a b c d _ ih=>rw [Nat.add_right_comm];exact .cons a b c d (ih h2)
theorem Steps.run {L:Lex} {code:List (Jn)} {n:Nat} {M M1:Mc} (h:Steps L code n M M1) (e:(code.length:Int)<=M1.pc∨M1.rq_.isSome=true):Run L code n M M1:=by
 induction h with
 | refl=>exact .done e
 | cons a b c d _ ih=>exact .step a b c d (ih e)
abbrev Tch:=Int×Str×Int
abbrev DT:=Jb×List Tch
def yY (ds:Jb) (ps:List (Int×Int)):Jb:=ps.foldl (λd pr=>d.set pr.1.toNat pr.2) ds
theorem Yn (ps:List (Int×Int)) (ds:Jb):(yY ds ps).length=ds.length:=by
 induction ps generalizing ds with
 | nil=>rfl
 | cons p ps ih=>show (yY (ds.set _ _) ps).length=_;rw [ih,List.length_set]
def zcy (ds:Jb) (ps:List (Int×Int)) (p:Int×Int):yY ds (ps++[p])=(yY ds ps).set p.1.toNat p.2:=by unfold yY;rw [List.foldl_append];rfl
theorem zd9 (M:Mc) (q:Nat) (ps:List (Int×Int)):(M.puts q ps).cells=yY M.cells (ps.map λp=>(M.adr q p.1,p.2)):=by
 induction ps generalizing M with
 | nil=>rfl
 | cons p ps ih=>exact ih (M.wrote q p.1 p.2)
def wid (mn_ side b:Int):Nat:=(min mn_ (b+side)-b).toNat
structure InS (S LN:Jb) (L pl:Nat) (mn_ group b:Int) (k:Nat) (s:DT) (M:Mc):Prop where
 ok:MOk M
 wle:M.wq<=(wid mn_ (group*L) b:Nat)
 bq:M.bq=(wid mn_ (group*L) b:Nat)
 base:M.base=b
 pc:M.pc=((pl+k:Nat):Int)
 oq:M.oq=(pl:Nat)
 mn_:M.mn_=mn_
 group:M.group=group
 lq:M.lq=L
 rf:M.rq_=none
 starts:M.starts=S
 lens:M.lens=LN
 cells:M.cells=s.1
 tq:M.tq=s.2
structure StripAt (S LN:Jb) (L pl:Nat) (mn_ group b:Int) (s:DT) (M:Mc):Prop where
 i:InS S LN L pl mn_ group b 1 s M
 act:M.act 0=zM (wid mn_ (group*L) b)
 flt:M.fq=[]
 cut:M.cut=none
structure RestAt (S LN:Jb) (L:Nat) (pc:Nat) (s:DT) (M:Mc):Prop where
 ok:MOk0 M
 lq:M.lq=L
 rf:M.rq_=none
 starts:M.starts=S
 lens:M.lens=LN
 pc:M.pc=pc
 cells:M.cells=s.1
 tq:M.tq=s.2
theorem layTo_off (told:Jl) (p:Nat) (M:Mc) (n i:Nat) (h:∀ t:Nat,t<n->((p:Int)*M.group*M.lq+t).toNat≠i):(M.layTo told p n).nums.getD i 0=M.nums.getD i 0:=by
 induction n with
 | zero=>rfl
 | succ n ih =>
  have s:=M.layTo_same told p n;have hn:=h n (by omega);rw [M.layTo_succ]
  have e2:((M.layTo told p n).layOne told p n).nums.getD i 0=(M.layTo told p n).nums.getD i 0:=by
   unfold Mc.layOne
   split
   ·show (List.set _ _ _).getD _ 0=_
    rw [q1x,List.getElem?_set_ne (by rw [s.g,s.l];exact hn),← q1x]
   ·show (List.set _ _ _).getD _ 0=_
    rw [q1x,List.getElem?_set_ne (by rw [s.g,s.l];exact hn),← q1x]
  rw [e2];exact ih λt ht=>h t (by omega)
def zcz {g L p q j t:Int} (g0:1<=g) (l1:1<=L) (ne:p≠q) (j0:0<=j) (j1:j<g*L) (t0:0<=t) (t1:t<g*L):p*g*L+t≠q*g*L+j:=by
 intro z;rw [Int.mul_assoc,Int.mul_assoc] at z;generalize g*L=x at *;rcases Int.lt_or_gt_of_ne ne with h | h
 ·have a:(p+1)*x<=q*x:=Int.mul_le_mul_of_nonneg_right (by omega) (by omega)
  rw [Int.add_mul] at a;omega
 ·have a:(q+1)*x<=p*x:=Int.mul_le_mul_of_nonneg_right (by omega) (by omega)
  rw [Int.add_mul] at a;omega
section
variable {Lx:Lex} {S LN:Jb} {L pl k:Nat} {mn_ group b:Int} {s:DT} {M:Mc}
def InS.one {code:List (Jn)} {tv:Jn} {M':Mc} (h:InS S LN L pl mn_ group b k s M) (c:code[pl+k]?=some tv) (st:Step Lx tv M M'):Steps Lx code 1 M M' :=
 .cons (by rw [h.pc];exact Int.natCast_nonneg _) h.rf (by rw [h.pc,q0z];exact c) st .refl
def InS.mem (h:InS S LN L pl mn_ group b k s M) {m:Nat} {j:Int} (hj:j∈M.act m):0<=j/\j<group*L/\b+j<mn_:=by
 have a:=Mc.act_mem hj;have w:=h.wle;have w0:=h.ok.w0;unfold wid at w;omega
end
def upG (one:Int->DT->DT) (side:Int) (s:DT) (i:Nat):DT:=(List.range i).foldl (λs (i:Nat)=>one (i*side) s) s
def xj (one:Int->DT->DT) (side:Int) (s:DT) (i:Nat):upG one side s (i+1)=one (i*side) (upG one side s i):=by unfold upG;rw [List.range_succ,List.foldl_append];rfl
def wide_wid {M:Mc} {b:Int} (hb:b<=M.mn_) (hg:0<=M.group*M.lq):M.wide b=(wid M.mn_ (M.group*M.lq) b:Nat):=by
 unfold Mc.wide wid
 split <;> omega
def ZF {S LN:Jb} {L pl:Nat} {mn_ group b:Int} {s:DT} {M:Mc} (ok:MOk0 M) (hg:group=1∨group=2∨group=4) (e1:M.group=group) (e2:M.mn_=mn_) (e3:M.lq=L) (e4:M.oq=pl) (hb:b<=mn_) (rf:M.rq_=none) (st:M.starts=S) (ln:M.lens=LN) (ce:M.cells=s.1) (to:M.tq=s.2) :
  StripAt S LN L pl mn_ group b s { M.strip b with pc:=pl+1 }:=by
 subst e1 e2 e3;obtain ⟨a,o⟩:=strip_act ok hg hb;have l1:=ok.l1;have gp:0<=M.group*M.lq:=by rcases hg with e | e | e <;> rw [e] <;> omega
 have ww:=wide_wid hb gp;refine ⟨⟨⟨o.l1,o.l64,o.g,o.nl,o.ml,o.mm,o.w0,o.w1⟩,by show M.wide b<=_;rw [ww];exact Int.le_refl _,ww,rfl,by show (pl:Int)+1=_;omega,e4,rfl,rfl,rfl,rf,st,ln,ce,to⟩,?_,rfl,rfl⟩;show (M.strip b).act 0=_;rw [a,ww,q0z]
theorem round_gen {Lx:Lex} (hB:Lx.W "begin" ZY) (hX:Lx.W "next" Xn) {code:List (Jn)} {S LN:Jb} {L pl n N:Nat} {mn_ group:Int} {one:Int->DT->DT} {I:Nat->DT->Prop} {s:DT} {M:Mc} (h:RestAt S LN L pl s M) (hg:group=1∨group=2∨group=4) (h1:1<=mn_)
  (c0:code[pl]?=some [.str "begin",.int mn_,.int group]) (c3:code[pl+(n+1)]?=some [.str "next"]) (hN:∀ i:Nat,i<N↔(i:Int)*(group*L)<mn_) (i0:I 0 s)
  (go:∀ (i:Nat) (s:DT) (M:Mc),i<N->I i s->StripAt S LN L pl mn_ group (i*(group*L)) s M->∃ k M',Steps Lx code k M M'/\InS S LN L pl mn_ group (i*(group*L)) (n+1) (one (i*(group*L)) s) M'/\I (i+1) (one (i*(group*L)) s)) :
  ∃ k M',Steps Lx code k M M'/\RestAt S LN L (pl+(n+2)) (upG one (group*L) s N) M'/\I N (upG one (group*L) s N):=by
 have l1:=h.ok.l1;have hL:=h.lq;have sd:1<=group*(L:Int):=by rcases hg with e | e | e <;> rw [e] <;> omega
 have N1:0<N:=(hN 0).mpr (by omega);have low:∀ i:Nat,(0:Int)<=i*(group*L):=λi=>Int.mul_nonneg (by omega) (by omega);have sc:∀ i:Nat,((i+1:Nat):Int)*(group*L)=i*(group*L)+group*L:=λi=>by rw [Int.natCast_add,Int.add_mul];show _+1*(group*(L:Int))=_;rw [Int.one_mul]
 have at_i:∀ i:Nat,i<N->∃ k M',Steps Lx code k M M'/\StripAt S LN L pl mn_ group (i*(group*L)) (upG one (group*L) s i) M'/\I i (upG one (group*L) s i):=by
  intro i
  induction i with
  | zero =>
   intro _;have st:Step Lx [.str "begin",.int mn_,.int group] M { M.round mn_ group with pc:=M.pc+1 }:=Step.way (L:=Lx) (word:="begin") hB rfl ⟨mn_,group,rfl,rfl,h.ok,hg,by omega,rfl,rfl⟩;have sa:StripAt S LN L pl mn_ group 0 s { ({ M with oq:=M.pc,mn_:=mn_,group:=group,cq:=none }:Mc).strip 0 with pc:=pl+1 }:=ZF ⟨h.ok.l1,h.ok.l64,h.ok.nl,h.ok.ml,h.ok.mm⟩ hg rfl rfl h.lq h.pc (by omega) h.rf h.starts h.lens h.cells h.tq;rw [h.pc] at st;refine ⟨1,_,.cons (by rw [h.pc];omega) h.rf (by rw [h.pc,q0z];exact c0) st .refl,?_,i0⟩;have e:((0:Nat):Int)*(group*L)=0:=by omega
   rw [e];unfold Mc.round;rw [h.pc] at sa ⊢;exact sa
  | succ i ih =>
   intro hi;obtain ⟨k,M1,st,sa,ii⟩:=ih (by omega);have hi1:=(hN (i+1)).mp hi;rw [sc] at hi1;have hl:=low i;have hw:wid mn_ (group*L) (i*(group*L))=(group*(L:Int)).toNat:=by unfold wid;omega
   obtain ⟨k2,M2,st2,e2,i2⟩:=go i _ M1 (by omega) ii sa;have bb:M2.base+M2.bq=((i+1:Nat):Int)*(group*L):=by rw [sc,e2.base,e2.bq,hw];omega
   have st3:Step Lx [.str "next"] M2 { M2.strip (((i+1:Nat):Int)*(group*L)) with pc:=(pl:Int)+1 }:=Step.way (L:=Lx) (word:="next") hX rfl (by
    refine ⟨e2.ok.zero,by rw [e2.group];exact hg,?_⟩;rw [bb,if_pos (by rw [e2.mn_,sc];exact hi1),e2.oq];exact ⟨rfl,rfl⟩)
   refine ⟨k+k2+1,_,(st.trans st2).trans (e2.one c3 st3),?_,by rw [xj];exact i2⟩;rw [xj];exact ZF e2.ok.zero hg e2.group e2.mn_ e2.lq e2.oq (by rw [sc];omega) e2.rf e2.starts e2.lens e2.cells e2.tq
 obtain ⟨k,M1,st,sa,ii⟩:=at_i (N-1) (by omega);have hi0:=(hN (N-1)).mp (by omega);have hi1:¬ ((N-1+1:Nat):Int)*(group*L)<mn_:=λz=>by have:=(hN (N-1+1)).mpr z;omega
 rw [sc] at hi1;have hl:=low (N-1);have hw:(wid mn_ (group*L) ((N-1:Nat)*(group*L)):Int)=mn_-(N-1:Nat)*(group*L):=by unfold wid;omega
 obtain ⟨k2,M2,st2,e2,i2⟩:=go (N-1) _ M1 (by omega) ii sa
 have st3:Step Lx [.str "next"] M2 { M2 with pc:=((pl+(n+2):Nat):Int) }:=by
  refine Step.way (L:=Lx) (word:="next") hX rfl ?_;refine ⟨e2.ok.zero,by rw [e2.group];exact hg,?_⟩;rw [if_neg (by rw [e2.base,e2.bq,e2.mn_];omega),e2.pc];exact ⟨rfl,by omega⟩
 have eN:N=N-1+1:=by omega
 refine ⟨k+k2+1,_,(st.trans st2).trans (e2.one c3 st3),?_,by rw [eN,xj];exact i2⟩;rw [eN,xj];exact ⟨⟨e2.ok.l1,e2.ok.l64,e2.ok.nl,e2.ok.ml,e2.ok.mm⟩,e2.lq,e2.rf,e2.starts,e2.lens,rfl,e2.cells,e2.tq⟩
section
variable {Lx:Lex} {S LN:Jb} {L pl k:Nat} {mn_ group b:Int} {s:DT} {M:Mc}
def InS.stopNo {n:Int} (h:InS S LN L pl mn_ group b k s M) (hS:Lx.E "stop" Zz) (hc:M.cut=none):∃ M',Step Lx [.str "stop",.int n] M M'/\InS S LN L pl mn_ group b (k+1) s M'/\M'.wq=M.wq/\M'.fq=M.fq/\(∀ m,M'.act m=M.act m)/\(∀ (p':Nat) (j:Int),M'.nq p' j=M.nq p' j):=by
 have e:Zz [.str "stop",.int n] M=some M:=by
  unfold Zz;rw [hc];rfl
 have hpc:M.pc+1=((pl+(k+1):Nat):Int):=by rw [h.pc];omega
 exact ⟨_,Step.eff (word:="stop") hS rfl e h.ok,⟨⟨h.ok.l1,h.ok.l64,h.ok.g,h.ok.nl,h.ok.ml,h.ok.mm,h.ok.w0,h.ok.w1⟩,h.wle,h.bq,h.base,hpc,h.oq,h.mn_,h.group,h.lq,h.rf,h.starts,h.lens,h.cells,h.tq⟩,rfl,rfl,λ_=>rfl,λ_ _=>rfl⟩
def InS.stopAt {n c:Int} {z:Str} (h:InS S LN L pl mn_ group b k s M) (hS:Lx.E "stop" Zz) (hc:M.cut=some c) (hz:zN M.fq (.inl c)=some (.str z)):∃ M',Step Lx [.str "stop",.int n] M M'/\M'.rq_=some (n,b+c,z)/\M'.cells=s.1/\M'.tq=s.2:=by
 have e:Zz [.str "stop",.int n] M=some { M with rq_:=some (n,M.base+c,z) }:=by
  unfold Zz;rw [hc];show (match zN M.fq (.inl c) with | some (V.str z)=>_ | _=>_)=_;rw [hz]
 exact ⟨_,Step.eff (word:="stop") hS rfl e h.ok,by show some (n,M.base+c,z)=_;rw [h.base],h.cells,h.tq⟩
end
def zbq (tv:Jn):Prop:=∃ ds,(∀ K H,DVs K H tv ds)/\PyData.canLayAll0 ds=true/\PyData.depthAll ds<=1
theorem X5 {K:Fg} {H:Hp}:∀ {cs:Jg} {code:List (Jn)},CodeAt H cs code->(∀ tv∈code,zbq tv)->∃ dsc,DVs K H (cs.map V.ref) dsc/\PyData.canLayAll0 dsc=true/\PyData.depthAll dsc<=2
 | [],_,_,_=>⟨[],.nil,rfl,XJ⟩
 | a::cs,[],h,_=>by have:=h.n;cases this
 | a::cs,tv::code,h,hp=>by
  obtain ⟨ds,d1,d2,d3⟩:=hp tv q1z;obtain ⟨dsc,e1,e2,e3⟩:=X5 (K:=K) (H:=H) (cs:=cs) (code:=code) ⟨by have:=h.n;simpa using this,λi b t x y=>h.t (i+1) b t (by simpa using x) (by simpa using y)⟩ λt ht=>hp t (q1y _ ht);refine ⟨.tuple ds::dsc,.cons (.tup (SqT.of (h.t 0 a tv rfl rfl)) (d1 K H)) e1,?_,ym (dep_tup d3) e3⟩;show (PyData.canLayAll0 ds && PyData.canLayAll0 dsc)=true;rw [d2,e2];rfl
def zcf {z:Str} {xs:List PyData} (h:PyData.canLay0 (.str z)=true) (h2:PyData.canLayAll0 xs=true):PyData.canLayAll0 (.str z::xs)=true:=by
 show (PyData.canLay0 (.str z) && PyData.canLayAll0 xs)=true;rw [h,h2];rfl
def YU {n:Int}:(PyData.int n).depth<=1:=by simp [PyData.depth]
def zcm {z:Str}:(PyData.str z).depth<=1:=by simp [PyData.depth]
inductive spLRan (c:MCs) (K:Fg) (Lx:Lex) (vs:Jn) (H:Hp) (Q:VK) (_:XK):Prop
 | mk (a l1 l2 l3 l4:Ad) (cs:Jg) (code:List (Jn)) (lens cells dust picks:Jb) (L n:Nat) (Mf:Mc) (_:vs=[.ref a,.ref l1,.ref l2,.int L,.ref l3,.ref l4]) (_:SqL K H a (cs.map V.ref)) (_:CodeAt H cs code) (_:(∀ tv∈code,zbq tv)) (_:SqL K H l1 (lens.map V.int)) (_:SqL K H l2 (cells.map V.int)) (_:SqL K H l3 (dust.map V.int)) (_:SqL K H l4 (picks.map V.int)) (_:1<=L) (_:L<=64) (_:lens.length<=1000) (_:code.length<=1000) (_:Run Lx code n (Mc.fresh lens cells L dust picks) Mf) (_:∀ B' A' H' t,Same H B'->MAt c B' A' Mf [] H'->B' t=some (.tup [.ref A'.aC,A'.rf,.ref A'.aT])->Q (.ref t) H')
def ok_lran {c:MCs} {Lx:Lex} (d:zn K mg "_law_ran" XA ["_law_code","_law_lengths","_law_cells","_law_lanes_here","_law_dust_here","_law_picks"]) (hlist:mg "list"=none) (RN:Ok P w K mg base CX0 10 "ran" ["code","lengths","cells","lanes","dust","picks"] (spRan c K Lx)) :
  Ok P w K mg base CX0 11 "_law_ran" ["_law_code","_law_lengths","_law_cells","_law_lanes_here","_law_dust_here","_law_picks"] (spLRan c K Lx):=by
 obtain ⟨g,fd,m,F,b⟩:=d;refine ⟨g,fd,m,F.kp,b,F.ok sc_l_ran (by rintro vs H Q E ⟨_,_,_,_,_,_,_,_,_,_,_,_,_,_,e,_⟩;rw [e];rfl) λcdv A outer s H vs Q E hr h=>?_⟩;obtain ⟨a,l1,l2,l3,l4,cs,code,lens,cells,dust,picks,L,n,Mf,rfl,qa,CA,hpl,q1,q2,q3,q4,L1,L64,hl,hcl,run,q⟩:=h;have nd:=sc_l_ran.nd;have hr7:=hr;have hu:=hr.units;have SL:(200000:Nat)<sizeLine:=by decide
 refine ⟨_,(zc (zu (i:=6) nd rfl (Or.inl rfl) (yJ (zb (ya yc (by rfl) hlist PyProof.Rows.boot_list (zb (pv 0) zd)) (zb (ya yc (by rfl) hlist PyProof.Rows.boot_list (zb (pv 1) zd)) (zb (ya yc (by rfl) hlist PyProof.Rows.boot_list (zb (pv 2) zd)) (zb (ya yc (by rfl) hlist PyProof.Rows.boot_list (zb (pv 4) zd)) (zb (ya yc (by rfl) hlist PyProof.Rows.boot_list (zb (pv 5) zd)) zd)))))))
   (zc (zu (i:=7) nd rfl (Or.inl rfl) (zL RN hr7 (by rfl) zt (zb (zr zE (pv 6) ze (λ_ _=>rfl)) (zb (zr zE (pv 6) ze (λ_ _=>rfl)) (zb (zr zE (pv 6) ze (λ_ _=>rfl)) (zb (pv 3) (zb (zr zE (pv 6) ze (λ_ _=>rfl)) (zb (zr zE (pv 6) ze (λ_ _=>rfl)) zd))))))))
   (zc (zQ (zB (op_neD hu) (pv 6) (yJ (zb (pv 0) (zb (pv 1) (zb (pv 2) (zb (pv 4) (zb (pv 5) zd)))))) (zG _)) (zg (zm yE)) zv)
   (zg (zm (pv 7)))))),?_⟩
 dsimp only [yh,Cx.nox,Cx.wish];show (let s1:L2.TS:=_;let s2:L2.TS:=L2.tSeq _ s1;let s3:L2.TS:=L2.tSeq _ s2;L2.tSeq _ s3 _ _ _);intro s1 s2 s3;refine ⟨_,rfl,a,_,rfl,.inl qa,λx1 n11=>?_⟩;have s11:Same H (upd H x1 (.lst (cs.map V.ref))):=zi (Same.refl _) n11;have e11:upd H x1 (.lst (cs.map V.ref)) x1=some (.lst (cs.map V.ref)):=zf;generalize upd H x1 (.lst (cs.map V.ref))=G1 at s11 e11 ⊢;refine ⟨_,rfl,l1,_,rfl,.inl (zo q1 s11),λx2 n12=>?_⟩;have s12:Same G1 (upd G1 x2 (.lst (lens.map V.int))):=zi (Same.refl _) n12;have e12:upd G1 x2 (.lst (lens.map V.int)) x2=some (.lst (lens.map V.int)):=zf;generalize upd G1 x2 (.lst (lens.map V.int))=G2 at s12 e12 ⊢;have t2:Same H G2:=s11.trans s12;refine ⟨_,rfl,l2,_,rfl,.inl (zo q2 t2),λx3 n13=>?_⟩;have s13:Same G2 (upd G2 x3 (.lst (cells.map V.int))):=zi (Same.refl _) n13;have e13:upd G2 x3 (.lst (cells.map V.int)) x3=some (.lst (cells.map V.int)):=zf;generalize upd G2 x3 (.lst (cells.map V.int))=G3 at s13 e13 ⊢;have t3:Same H G3:=t2.trans s13;refine ⟨_,rfl,l3,_,rfl,.inl (zo q3 t3),λx4 n14=>?_⟩;have s14:Same G3 (upd G3 x4 (.lst (dust.map V.int))):=zi (Same.refl _) n14;have e14:upd G3 x4 (.lst (dust.map V.int)) x4=some (.lst (dust.map V.int)):=zf;generalize upd G3 x4 (.lst (dust.map V.int))=G4 at s14 e14 ⊢;have t4:Same H G4:=t3.trans s14;refine ⟨_,rfl,l4,_,rfl,.inl (zo q4 t4),λx5 n15=>?_⟩;have s15:Same G4 (upd G4 x5 (.lst (picks.map V.int))):=zi (Same.refl _) n15;have e15:upd G4 x5 (.lst (picks.map V.int)) x5=some (.lst (picks.map V.int)):=zf;generalize upd G4 x5 (.lst (picks.map V.int))=G5 at s15 e15 ⊢;have t5:Same H G5:=t4.trans s15;refine ⟨(by show 5<=sizeLine;omega),λhh n16=>?_⟩;have s16:Same G5 (upd G5 hh (.lst [.ref x1,.ref x2,.ref x3,.ref x4,.ref x5])):=zi (Same.refl _) n16;have e16:upd G5 hh (.lst [.ref x1,.ref x2,.ref x3,.ref x4,.ref x5]) hh=some (.lst [.ref x1,.ref x2,.ref x3,.ref x4,.ref x5]):=zf;generalize upd G5 hh (.lst [.ref x1,.ref x2,.ref x3,.ref x4,.ref x5])=G6 at s16 e16 ⊢;have t6:Same H G6:=t5.trans s16;have qh:SqL K G6 hh [.ref x1,.ref x2,.ref x3,.ref x4,.ref x5]:=SqL.of e16;have z5:=s16;have z4:=s15.trans z5;have z3:=s14.trans z4;have z2:=s13.trans z3;have z1:=s12.trans z2;have CG:CodeAt G6 cs code:=⟨CA.n,λi b tv x y=>t6 _ _ (CA.t i b tv x y)⟩;refine ⟨_,rfl,hh,_,_,.ref x1,rfl,rfl,qh,rfl,_,rfl,hh,_,_,.ref x2,rfl,rfl,qh,rfl,_,rfl,hh,_,_,.ref x3,rfl,rfl,qh,rfl,_,rfl,_,rfl,hh,_,_,.ref x4,rfl,rfl,qh,rfl,_,rfl,hh,_,_,.ref x5,rfl,rfl,qh,rfl,?_⟩;refine ⟨x1,x2,x3,x4,x5,cs,code,lens,cells,dust,picks,L,n,Mf,rfl,SqL.of (z1 _ _ e11),CG,SqL.of (z2 _ _ e12),SqL.of (z3 _ _ e13),SqL.of (z4 _ _ e14),SqL.of (z5 _ _ e15),L1,L64,hl,hcl,run,λB9 A9 H9 t s9 m9 et=>?_⟩;refine ⟨_,rfl,_,rfl,_,rfl,_,rfl,_,rfl,_,rfl,(by show 5<=sizeLine;omega),λll n17=>?_⟩;have m10:=m9.grow (o:=.lst [.ref a,.ref l1,.ref l2,.ref l3,.ref l4]) n17;have s10:Same B9 (upd B9 ll (.lst [.ref a,.ref l1,.ref l2,.ref l3,.ref l4])):=zi (Same.refl _) (m9.h.free n17);have e17:upd H9 ll (.lst [.ref a,.ref l1,.ref l2,.ref l3,.ref l4]) ll=some (.lst [.ref a,.ref l1,.ref l2,.ref l3,.ref l4]):=zf;generalize upd B9 ll (.lst [.ref a,.ref l1,.ref l2,.ref l3,.ref l4])=B10 at m10 s10;generalize upd H9 ll (.lst [.ref a,.ref l1,.ref l2,.ref l3,.ref l4])=H10 at m10 e17 ⊢;have y6:Same G6 H10:=(s9.trans s10).trans m10.h.sm;have y0:Same H H10:=t6.trans y6;obtain ⟨dsc,c1,c2,c3⟩:=X5 (K:=K) (H:=H10) (cs:=cs) (code:=code) ⟨CG.n,λi b tv x y=>y6 _ _ (CG.t i b tv x y)⟩ hpl
 have lay:(PyData.list [.list dsc,dI lens,dI cells,dI dust,dI picks]).canLay0=true:=by
  show (PyData.canLayAll0 dsc && (PyData.canLay0 (dI lens) && (PyData.canLay0 (dI cells) && (PyData.canLay0 (dI dust) && (PyData.canLay0 (dI picks) && true)))))=true;rw [c2,YN,YN,YN,YN];rfl
 refine ⟨.list [.list dsc,dI lens,dI cells,dI dust,dI picks],.list [.list dsc,dI lens,dI cells,dI dust,dI picks],?_,?_,lay,lay,?_,?_⟩
 ·exact .lst (SqL.of (y6 _ _ e16)) (.cons (.lst (SqL.of (y6 _ _ (z1 _ _ e11))) c1) (.cons (Zt (SqL.of (y6 _ _ (z2 _ _ e12)))) (.cons (Zt (SqL.of (y6 _ _ (z3 _ _ e13)))) (.cons (Zt (SqL.of (y6 _ _ (z4 _ _ e14)))) (.cons (Zt (SqL.of (y6 _ _ (z5 _ _ e15)))) .nil)))))
 ·exact .lst (SqL.of e17) (.cons (.lst (zo qa y0) c1) (.cons (Zt (zo q1 y0)) (.cons (Zt (zo q2 y0)) (.cons (Zt (zo q3 y0)) (.cons (Zt (zo q4 y0)) .nil)))))
 ·exact Nat.le_trans (zal (n:=3) (ym (zal c3) (ym (Nat.le_trans YT (by decide)) (ym (Nat.le_trans YT (by decide)) (ym (Nat.le_trans YT (by decide)) (ym (Nat.le_trans YT (by decide)) XJ)))))) (by decide)
 ·refine ⟨_,rfl,?_⟩
  rw [SeqAt.eqv_refl _ lay];refine yw ⟨_,rfl,?_⟩;exact q B10 A9 H10 t ((t6.trans s9).trans s10) m10 (s10 _ _ et)
structure TAt (B:Hp) (ts:Jg) (T:List Tch):Prop where
 n:ts.length=T.length
 t:∀ (i:Nat) a p,ts[i]?=some a->T[i]?=some p->B a=some (.tup [.int p.1,.str p.2.1,.int p.2.2])
def TAt.same {B B':Hp} {ts:Jg} {T:List Tch} (h:TAt B ts T) (s:Same B B'):TAt B' ts T:=⟨h.n,λi a p x y=>s _ _ (h.t i a p x y)⟩
theorem TAt.snoc {B:Hp} {ts:Jg} {T:List Tch} {t:Ad} {p:Tch} (h:TAt B ts T) (e:B t=some (.tup [.int p.1,.str p.2.1,.int p.2.2])):TAt B (ts++[t]) (T++[p]):=by
 refine ⟨by rw [Jj,Jj,h.n];rfl,λi a q x y=>?_⟩;have hn:=h.n;by_cases z:i<ts.length
 ·rw [q4x z] at x
  rw [q4x (by omega)] at y;exact h.t i a q x y
 ·rw [List.getElem?_append_right (by omega)] at x y
  rw [hn] at x
  cases e2:i-T.length with
  | zero=>rw [e2] at x y;cases x;cases y;exact e
  | succ j=>rw [e2] at x;cases x
def size_iff {mn_ side:Int} (h1:1<=mn_) (h2:1<=side):∃ N:Nat,Builtin.Range.rangeSize 0 mn_ side=N/\∀ i:Nat,i<N↔(i:Int)*side<mn_:=by
 have e:Builtin.Range.rangeSize 0 mn_ side=(mn_-0-1) / side+1:=by
  unfold Builtin.Range.rangeSize;rw [if_pos (show side > 0 by omega),if_pos (by omega)]
 have nn:0<=(mn_-0-1) / side:=Int.ediv_nonneg (by omega) (by omega);refine ⟨((mn_-0-1) / side+1).toNat,by rw [e];omega,λi=>?_⟩;have k:=Int.le_ediv_iff_mul_le (a:=(i:Int)) (b:=mn_-0-1) (show 0<side by omega);constructor
 ·intro z
  have:=k.mp (by omega);omega
 ·intro z
  have:=k.mpr (by omega);omega
theorem xF:∀ (ns:Jb) (r:Nat),(∀ v∈ns,0<=v)->0<=(ns.take r).sum/\(ns.take r).sum<=ns.sum
 | [],r,_=>by rw [List.take_nil];exact ⟨Int.le_refl _,Int.le_refl _⟩
 | n::ns,0,h=>by
  have:=(xF ns 0 λv hv=>h v (q1y _ hv));have h0:=h n q1z;rw [List.take_zero,List.sum_nil] at this ⊢;rw [List.sum_cons];omega
 | n::ns,r+1,h=>by
  have:=(xF ns r λv hv=>h v (q1y _ hv));have h0:=h n q1z;rw [List.take_succ_cons,List.sum_cons,List.sum_cons];omega
def Yg (ns:Jb) (r:Nat) (h:r<ns.length):(ns.take (r+1)).sum=(ns.take r).sum+ns.getD r 0:=by
 rw [List.take_add_one,q1x,List.getElem?_eq_getElem h,List.sum_append];show _+(ns[r]+0)=_+ns[r];omega
def row_room {ns:Jb} {r:Nat} {m:Int} (hv:∀ v∈ns,0<=v) (h:r<ns.length) (hm:m<=ns.getD r 0):0<=(ns.take r).sum/\(ns.take r).sum+m<=ns.sum:=by
 have a:=xF ns r hv;have b:=xF ns (r+1) hv;rw [Yg ns r h] at b;omega
def ZZ {ns:Jb} {r:Nat} (h:r<ns.length):(Zb ns).getD r 0=(ns.take r).sum:=by
 unfold Zb;rw [q1x,List.getElem?_map,List.getElem?_range h];rfl
def zd1 (ns:Jb):(Zb ns).length=ns.length:=by unfold Zb;rw [Ji,List.length_range]
def TAt.note {B:Hp} {L:Jm} {H:Hp} {ts:Jg} {T:List Tch} {t:Ad} {p:Tch} (h:TAt B ts T) (hd:Hd B L H) (nt:H t=none):Hd (upd B t (.tup [.int p.1,.str p.2.1,.int p.2.2])) L (upd H t (.tup [.int p.1,.str p.2.1,.int p.2.2]))/\TAt (upd B t (.tup [.int p.1,.str p.2.1,.int p.2.2])) (ts++[t]) (T++[p])/\Same B (upd B t (.tup [.int p.1,.str p.2.1,.int p.2.2])) :=
 ⟨hd.grow nt,(h.same (zi (Same.refl _) (hd.free nt))).snoc zf,zi (Same.refl _) (hd.free nt)⟩
theorem yC {z:Str} {ns:Jb} (h:PyData.canLay0 (.str z)=true):zbq (.str z::ns.map V.int):=by
 refine ⟨.str z::ns.map PyData.int,λK H=>.cons (.str _) ?_,zcf h Zr,ym zcm ?_⟩
 ·induction ns with
  | nil=>exact .nil
  | cons n ns ih=>exact .cons (.int _) ih
 ·induction ns with
  | nil=>exact XJ
  | cons n ns ih=>exact ym YU ih
def xI {B:Hp} {cs os:Jg} {code one:List (Jn)} (h:CodeAt B cs code) (h2:CodeAt B os one):CodeAt B (cs++os) (code++one):=by
 refine ⟨by rw [Jj,Jj,h.n,h2.n],λt b tv hx hy=>?_⟩;by_cases z:t<cs.length
 ·rw [q4x z] at hx
  rw [q4x (by rw [← h.n];exact z)] at hy;exact h.t t b tv hx hy
 ·rw [List.getElem?_append_right (by omega)] at hx
  rw [List.getElem?_append_right (by rw [← h.n];omega),← h.n] at hy;exact h2.t _ b tv hx hy
theorem zcv (g:Int->V) {j:Int}:∀ (js:Jb) (kvs:Jl),(j∈js∨zN kvs (.inl j)=some (g j))->zN (putAll kvs (js.map λj=>((.inl j:Key),g j))) (.inl j)=some (g j)
 | [],kvs,h=>by
  rcases h with h | h
  ·cases h
  ·exact h
 | i::js,kvs,h=>by
  show zN (putAll (zW kvs (.inl i) (g i)) _) _=_;refine zcv g js _ ?_;by_cases e:j=i
  ·right;rw [Zw,e,if_pos rfl]
  ·rcases h with h | h
   ·rcases List.mem_cons.mp h with h | h
    ·exact absurd h e
    ·exact .inl h
   ·right
    rw [Zw,if_neg (λz=>e (Sum.inl.inj z))];exact h
def told_memO (g:Int->Option Int) {js:Jb} {j:Int} (h:j∈js):zN (xk js (js.map g)) (.inl j)=some (oV (g j)):=by
 have e:(js.map Sum.inl).zip ((js.map g).map oV)=js.map λj=>((.inl j:Key),oV (g j)):=by
  rw [List.map_map,List.zip_map'];rfl
 unfold xk;rw [e];exact zcv (λj=>oV (g j)) js [] (.inl h)
structure Kp (M N:Mc):Prop where
 w:N.wq=M.wq
 cut:N.cut=M.cut
 mq:N.mq=M.mq
 slots:N.slots=M.slots
 cq:N.cq=M.cq
 raised:N.raised=M.raised
 turns:N.turns=M.turns
 pq:N.pq=M.pq
 picks:N.picks=M.picks
def act_same {M N:Mc} (hk:Kp M N) (hf:N.fq=M.fq) (m:Nat):N.act m=M.act m:=by
 unfold Mc.act Mc.actTo Mc.isAct;rw [hk.w,hk.mq,hf]
section
variable {Lx:Lex} {S LN:Jb} {L pl k:Nat} {mn_ group b:Int} {s:DT} {M:Mc}
def InS.seatO {word:Str} {f:FnM} {tv:Jn} {p m:Nat} {T':List Tch} {F':Jl} {g:Int->Option Int} (h:InS S LN L pl mn_ group b k s M) (hS:Lx.S word f) (h0:tv[0]?=some (.str word)) (h1:tv[1]?=some (.int p)) (hl:tv.getLast?=some (.int m)) (p8:((p:Int)+1)*group<=8) (m16:m<16)
  (ef:f tv M (M.act m)=some ({ M with tq:=M.tq++T',fq:=F' },(M.act m).map g)) :
  ∃ M',Step Lx tv M M'/\InS S LN L pl mn_ group b (k+1) (s.1,s.2++T') M'/\(Kp M M'/\M'.fq=F')/\(∀ j∈M.act m,∀ v,g j=some v->M'.nq p j=v)/\(∀ (p':Nat) (j:Int),p'≠p->0<=j->j<group*L->M'.nq p' j=M.nq p' j):=by
 have l1:=h.ok.l1;have hg:=h.ok.g;have w0:=h.ok.w0;have w1:=h.ok.w1;have hL:=h.lq;have hG:=h.group;have g1:1<=group:=by rw [← hG];omega
 generalize hN0:({ M with tq:=M.tq++T',fq:=F' }:Mc)=N0 at ef
 have ese:seatM f tv M=some (N0.laidSeat (xk (M.act m) ((M.act m).map g)) p):=by
  unfold seatM;rw [h1,hl];show (if _ then _ else _)=_;rw [if_pos ⟨by omega,by rw [hG];exact p8,by omega,by omega⟩,q0z,q0z,ef];rfl
 have st1:=Step.seat hS h0 ese h.ok;unfold Mc.laidSeat at st1;have gN0:N0.group=M.group:=by rw [← hN0]
 have lN0:N0.lq=M.lq:=by rw [← hN0]
 have rm:N0.room=(group*(L:Int)).toNat:=by unfold Mc.room;rw [gN0,lN0,hG,hL]
 have hin:∀ t:Nat,t<N0.room->0<=(p:Int)*N0.group*N0.lq+t/\((p:Int)*N0.group*N0.lq+t).toNat<N0.nums.length:=λt ht=>by
  rw [gN0,lN0];rw [rm] at ht;have:=zbw hg (show (1:Int)<=M.lq by omega) (show (0:Int)<=p by omega) (by rw [hG];exact p8) (show (0:Int)<=t by omega) (by rw [hG,hL];omega);have e:N0.nums.length=8*M.lq:=by rw [← hN0];exact h.ok.nl
  rw [e];omega
 have eN:=layTo_is (xk (M.act m) ((M.act m).map g)) p N0 N0.room;have hlen:=(N0.layTo_same (xk (M.act m) ((M.act m).map g)) p N0.room).n
 have hat:∀ j∈M.act m,∀ v,g j=some v->(N0.layTo (xk (M.act m) ((M.act m).map g)) p N0.room).nq p j=v:=λj hj v hv=>by
  have a:=h.mem hj;obtain ⟨jn,rfl⟩:∃ n:Nat,j=n:=⟨j.toNat,by omega⟩;exact layTo_at _ p _ _ jn _ (by rw [rm];omega) hin (by rw [told_memO g hj,hv];rfl)
 have hoff:∀ (p':Nat) (j:Int),p'≠p->0<=j->j<group*L->(N0.layTo (xk (M.act m) ((M.act m).map g)) p N0.room).nums.getD ((p':Int)*group*L+j).toNat 0=M.nums.getD ((p':Int)*group*L+j).toNat 0:=λp' j ne j0 j1=>by
  have:=layTo_off (xk (M.act m) ((M.act m).map g)) p N0 N0.room ((p':Int)*group*L+j).toNat λt ht z=>by
   have t2:=hin t ht;rw [rm] at ht;rw [gN0,lN0,hG,hL] at z t2;have ap:=zcz (p:=(p:Int)) (q:=(p':Int)) (L:=(L:Int)) g1 (by omega) (λy=>ne (by omega)) j0 j1 (show (0:Int)<=t by omega) (by omega);have pos:0<=(p':Int)*group*L:=Int.mul_nonneg (Int.mul_nonneg (by omega) (by omega)) (by omega);omega
  rw [this,← hN0]
 generalize N0.layTo (xk (M.act m) ((M.act m).map g)) p N0.room=N at *
 have eN1:({ N with pc:=N.pc+1 }:Mc)={ M with nums:=N.nums,dq:=N.dq,tq:=M.tq++T',fq:=F',pc:=((pl+(k+1):Nat):Int) }:=by
  have e2:N.pc+1=((pl+(k+1):Nat):Int):=by rw [eN,← hN0];show M.pc+1=_;rw [h.pc];omega
  rw [e2,eN,← hN0]
 have gN:N.group=M.group:=by rw [eN];exact gN0
 have lN:N.lq=M.lq:=by rw [eN];exact lN0
 rw [eN1] at st1;refine ⟨_,st1,⟨⟨h.ok.l1,h.ok.l64,h.ok.g,?_,h.ok.ml,h.ok.mm,w0,w1⟩,h.wle,h.bq,h.base,rfl,h.oq,h.mn_,hG,hL,h.rf,h.starts,h.lens,h.cells,?_⟩,⟨⟨rfl,rfl,rfl,rfl,rfl,rfl,rfl,rfl,rfl⟩,rfl⟩,λj hj v hv=>?_,λp' j ne j0 j1=>?_⟩
 ·show N.nums.length=_
  rw [hlen,← hN0];exact h.ok.nl
 ·show M.tq++T'=_
  rw [h.tq]
 ·have:=hat j hj v hv
  unfold Mc.nq at this ⊢;rw [gN,lN] at this;exact this
 ·have:=hoff p' j ne j0 j1
  unfold Mc.nq;show N.nums.getD ((p':Int)*M.group*M.lq+j).toNat 0=M.nums.getD ((p':Int)*M.group*M.lq+j).toNat 0;rw [hG,hL];exact this
def InS.loadO {r p m:Nat} (h:InS S LN L pl mn_ group b k s M) (hS:Lx.S "load" ZR) (p8:((p:Int)+1)*group<=8) (m16:m<16) (hr:r<S.length) (b0:0<=b) (ir:0<=S.getD r 0/\S.getD r 0+mn_<=s.1.length) (ht:s.2.length+(M.act m).length<100000) :
  ∃ M',Step Lx [.str "load",.int p,.int r,.int m] M M'/\InS S LN L pl mn_ group b (k+1) (s.1,s.2++((M.act m).map (b+·)).map λe=>(((pl+k:Nat):Int),("read":Str),S.getD r 0+e)) M'/\(Kp M M'/\M'.fq=M.fq)/\(∀ j∈M.act m,M'.nq p j=s.1.getD (S.getD r 0+(b+j)).toNat 0)/\(∀ (p':Nat) (j:Int),p'≠p->0<=j->j<group*L->M'.nq p' j=M.nq p' j):=by
 have et:M.tq++(M.act m).map (λj=>(M.pc,("read":Str),M.adr r (M.base+j)))=M.tq++((M.act m).map (b+·)).map λe=>(((pl+k:Nat):Int),("read":Str),S.getD r 0+e):=by
  congr 1;rw [List.map_map];refine List.map_congr_left λj hj=>?_;show (M.pc,("read":Str),M.starts.getD r 0+(M.base+j))=(_,_,S.getD r 0+(b+j));rw [h.starts,h.base,h.pc]
 have ef:ZR [.str "load",.int p,.int r,.int m] M (M.act m)=some ({ M with tq:=M.tq++((M.act m).map (b+·)).map λe=>(((pl+k:Nat):Int),("read":Str),S.getD r 0+e),fq:=M.fq },(M.act m).map λj=>some (s.1.getD (S.getD r 0+(b+j)).toNat 0)):=by
  unfold ZR;refine (if_pos ?_).trans ?_
  ·rw [q0z,h.tq]
   refine ⟨by omega,⟨by rw [h.starts];exact hr,λj hj=>?_⟩,ht⟩;have:=h.mem hj;unfold Mc.adr;rw [h.starts,h.cells,h.base];omega
  ·rw [q0z]
   unfold Mc.reads;rw [et];congr 2;refine List.map_congr_left λj hj=>?_;unfold Mc.valAt Mc.adr;rw [h.starts,h.cells,h.base]
 obtain ⟨M',st,i,w,n,o⟩:=h.seatO (tv:=[.str "load",.int p,.int r,.int m]) hS rfl rfl rfl p8 m16 ef;exact ⟨M',st,i,w,λj hj=>n j hj _ rfl,o⟩
def InS.storeO {q p m:Nat} {F:Int->Int} (h:InS S LN L pl mn_ group b k s M) (hS:Lx.E "store" Za) (p8:((p:Int)+1)*group<=8) (m16:m<16) (hq:q<S.length) (b0:0<=b) (iq:0<=S.getD q 0/\S.getD q 0+mn_<=s.1.length) (ht:s.2.length+(M.act m).length<100000) (hn:∀ j∈M.act m,M.nq p j=F (b+j)) :
  ∃ M',Step Lx [.str "store",.int q,.int p,.int m] M M'/\InS S LN L pl mn_ group b (k+1) (yY s.1 (((M.act m).map (b+·)).map λe=>(S.getD q 0+e,F e)),s.2++((M.act m).map (b+·)).map λe=>(((pl+k:Nat):Int),("write":Str),S.getD q 0+e)) M'/\(Kp M M'/\M'.fq=M.fq)/\(∀ (p':Nat) (j:Int),M'.nq p' j=M.nq p' j):=by
 have est:Za [.str "store",.int q,.int p,.int m] M=some (M.puts q ((M.act m).map λj=>(M.base+j,M.nq p j))):=by
  unfold Za;refine (if_pos ?_).trans ?_
  rotate_left
  ·rw [q0z,q0z];rfl
  ·show _/\_/\_/\_/\_/\rowIn M (Int.toNat q) (M.act (Int.toNat m))/\_+(M.act (Int.toNat m)).length<_
   rw [q0z,q0z,h.group,h.tq];refine ⟨by omega,by omega,p8,by omega,by omega,⟨by rw [h.starts];exact hq,λj hj=>?_⟩,ht⟩;have:=h.mem hj;unfold Mc.adr;rw [h.starts,h.cells,h.base];omega
 have st:=Step.eff (word:="store") hS rfl est h.ok;obtain ⟨pi1,pi2⟩:=M.puts_is q ((M.act m).map λj=>(M.base+j,M.nq p j))
 have ec:(M.puts q ((M.act m).map λj=>(M.base+j,M.nq p j))).cells=yY s.1 (((M.act m).map (b+·)).map λe=>(S.getD q 0+e,F e)):=by
  rw [zd9,h.cells];congr 1;rw [List.map_map,List.map_map];refine List.map_congr_left λj hj=>?_;show (M.starts.getD q 0+(M.base+j),M.nq p j)=(S.getD q 0+(b+j),F (b+j));rw [h.starts,h.base,hn j hj]
 have et:M.tq++((M.act m).map λj=>(M.base+j,M.nq p j)).map (λp=>(M.pc,("write":Str),M.adr q p.1))=s.2++((M.act m).map (b+·)).map λe=>(((pl+k:Nat):Int),("write":Str),S.getD q 0+e):=by
  rw [h.tq];congr 1;rw [List.map_map,List.map_map];refine List.map_congr_left λj hj=>?_;show (M.pc,("write":Str),M.starts.getD q 0+(M.base+j))=(_,_,S.getD q 0+(b+j));rw [h.starts,h.base,h.pc]
 rw [ec,et] at pi1;generalize M.puts q ((M.act m).map λj=>(M.base+j,M.nq p j))=N at *;subst pi1;refine ⟨_,st,⟨⟨h.ok.l1,h.ok.l64,h.ok.g,h.ok.nl,h.ok.ml,h.ok.mm,h.ok.w0,h.ok.w1⟩,h.wle,h.bq,h.base,?_,h.oq,h.mn_,h.group,h.lq,h.rf,h.starts,h.lens,rfl,rfl⟩,⟨⟨rfl,rfl,rfl,rfl,rfl,rfl,rfl,rfl,rfl⟩,rfl⟩,λ_ _=>rfl⟩;show M.pc+1=_;rw [h.pc];omega
def gIn (n x:Int):Bool:=decide (0<=x) && decide (x<n)
theorem zdm (r:Nat) (f:Int->Int):∀ (js:Jb) (M:Mc),Mc.gaAll r (js.map λj=>(f j,j)) M=({ M with tq:=M.tq++(js.filter λj=>gIn (M.lens.getD r 0) (f j)).map λj=>(M.pc,("read":Str),M.adr r (f j)),fq:=xu M.fq (js.filter λj=>!gIn (M.lens.getD r 0) (f j)) },js.map λj=>if gIn (M.lens.getD r 0) (f j)=true then some (M.cells.getD (M.adr r (f j)).toNat 0) else none)
 | [],M=>by
  show (M,[])=({ M with tq:=M.tq++[],fq:=M.fq },[]);rw [q3y]
 | j::js,M=>by
  show ((Mc.gaAll r (js.map λj=>(f j,j)) (M.gaOne r (f j) j).1).1,(M.gaOne r (f j) j).2::(Mc.gaAll r (js.map λj=>(f j,j)) (M.gaOne r (f j) j).1).2)=_;rw [zdm r f js];by_cases z:gIn (M.lens.getD r 0) (f j)=true
  ·have e:M.gaOne r (f j) j=(M.touched "read" (M.adr r (f j)),some (M.cells.getD (M.adr r (f j)).toNat 0)):=if_pos (by
    unfold gIn at z;rw [Bool.and_eq_true] at z;exact ⟨of_decide_eq_true z.1,of_decide_eq_true z.2⟩)
   rw [e,List.filter_cons_of_pos (p:=λj=>gIn (M.lens.getD r 0) (f j)) z,List.filter_cons_of_neg (p:=λj=>!gIn (M.lens.getD r 0) (f j)) (by show ¬ (!gIn (M.lens.getD r 0) (f j))=true;rw [z];decide),List.map_cons,List.map_cons,if_pos z];have a:M.tq++(M.pc,("read":Str),M.adr r (f j))::((js.filter λj=>gIn (M.lens.getD r 0) (f j)).map λj=>(M.pc,("read":Str),M.adr r (f j)))=M.tq++[(M.pc,("read":Str),M.adr r (f j))]++((js.filter λj=>gIn (M.lens.getD r 0) (f j)).map λj=>(M.pc,("read":Str),M.adr r (f j))):=by rw [List.append_assoc];rfl
   rw [a];rfl
  ·have e:M.gaOne r (f j) j=({ M with fq:=zW M.fq (.inl j) (.str "outside") },none):=if_neg (λy=>z (by
    unfold gIn;rw [decide_eq_true y.1,decide_eq_true y.2];rfl))
   rw [e,List.filter_cons_of_neg (p:=λj=>gIn (M.lens.getD r 0) (f j)) z,List.filter_cons_of_pos (p:=λj=>!gIn (M.lens.getD r 0) (f j)) (by rw [Bool.not_eq_true] at z;show (!gIn (M.lens.getD r 0) (f j))=true;rw [z];rfl),List.map_cons,if_neg z];rfl
def InS.gather {p q r m:Nat} {F:Int->Int} (h:InS S LN L pl mn_ group b k s M) (hS:Lx.S "gather" xC) (p8:((p:Int)+1)*group<=8) (q8:((q:Int)+1)*group<=8) (m16:m<16) (hr:r<S.length) (hr2:r<LN.length) (ir:0<=S.getD r 0/\S.getD r 0+LN.getD r 0<=s.1.length) (ht:s.2.length<90000) (hf:M.fq.length<90000) (hq:∀ j∈M.act m,M.nq q j=F (b+j)) :
  ∃ M',Step Lx [.str "gather",.int p,.int q,.int r,.int m] M M'/\InS S LN L pl mn_ group b (k+1) (s.1,s.2++(((M.act m).map (b+·)).filter λe=>gIn (LN.getD r 0) (F e)).map λe=>(((pl+k:Nat):Int),("read":Str),S.getD r 0+F e)) M'/\(Kp M M'/\M'.fq=xu M.fq ((M.act m).filter λj=>!gIn (LN.getD r 0) (F (b+j))))/\(∀ j∈M.act m,gIn (LN.getD r 0) (F (b+j))=true->M'.nq p j=s.1.getD (S.getD r 0+F (b+j)).toNat 0)/\(∀ (p':Nat) (j:Int),p'≠p->0<=j->j<group*L->M'.nq p' j=M.nq p' j):=by
 have ef:xC [.str "gather",.int p,.int q,.int r,.int m] M (M.act m)=some ({ M with tq:=M.tq++(((M.act m).map (b+·)).filter λe=>gIn (LN.getD r 0) (F e)).map λe=>(((pl+k:Nat):Int),("read":Str),S.getD r 0+F e),fq:=xu M.fq ((M.act m).filter λj=>!gIn (LN.getD r 0) (F (b+j))) },(M.act m).map λj=>if gIn (LN.getD r 0) (F (b+j))=true then some (s.1.getD (S.getD r 0+F (b+j)).toNat 0) else none):=by
  have e1:xC [.str "gather",.int p,.int q,.int r,.int m] M (M.act m)=some (Mc.gaAll r ((M.act m).map λj=>(M.nq q j,j)) M):=by
   unfold xC;refine (if_pos ?_).trans ?_
   ·rw [q0z,h.group,h.tq]
    refine ⟨by omega,q8,by omega,⟨by rw [h.starts];exact hr,by rw [h.lens];exact hr2,?_,?_⟩,ht,hf⟩
    ·rw [h.starts];exact ir.1
    ·rw [h.starts,h.lens,h.cells];exact ir.2
   ·rw [q0z,q0z]
  have e2:((M.act m).map λj=>(M.nq q j,j))=(M.act m).map λj=>(F (b+j),j):=List.map_congr_left λj hj=>by rw [hq j hj]
  rw [e1,e2,zdm r (λj=>F (b+j))];rw [h.lens,List.filter_map,List.map_map,h.pc];unfold Mc.adr;rw [h.starts,h.cells];rfl
 obtain ⟨M',st,i,w,n,o⟩:=h.seatO (tv:=[.str "gather",.int p,.int q,.int r,.int m]) hS rfl rfl rfl p8 m16 ef;exact ⟨M',st,i,w,λj hj z=>n j hj _ (if_pos z),o⟩
end
theorem XU {i:Nat}:∀ (ps:List (Int×Int)) (ds:Jb),(∀ p∈ps,p.1.toNat≠i)->(yY ds ps).getD i 0=ds.getD i 0
 | [],ds,_=>rfl
 | p::ps,ds,h=>by
  show (yY (ds.set p.1.toNat p.2) ps).getD i 0=_;rw [XU ps _ λq hq=>h q (q1y _ hq),q1x,List.getElem?_set_ne (h p q1z),← q1x]
def xO (mn_ side b:Int):Jb:=(zM (wid mn_ side b)).map (b+·)
def zbc (mn_ side b:Int):(xO mn_ side b).length=wid mn_ side b:=by unfold xO zM;rw [Ji,Ji,List.length_range]
theorem zY (f:Jl) (j:Int):j∈zy f↔(zN f (.inl j)).isSome=true:=by
 induction f with
 | nil=>exact ⟨(λh=>by cases h),(λh=>by cases h)⟩
 | cons p f ih =>
  obtain ⟨k,v⟩:=p;by_cases e:k=.inl j
  ·rw [ye (p:=(k,v)) e]
   subst e;exact ⟨λ_=>rfl,λ_=>q1z⟩
  ·rw [yi (p:=(k,v)) e,← ih]
   cases k with
   | inl i =>
    show j∈i::zy f↔_;refine ⟨λh=>?_,λh=>q1y _ h⟩;rcases List.mem_cons.mp h with h | h
    ·exact absurd (by rw [h]) e
    ·exact h
   | inr _=>exact Iff.rfl
def Xq {f:Jl} (h:yV f) (j:Int) (v:V):yV (zW f (.inl j) v):=by
 unfold zW
 split
 ·intro p hp
  obtain ⟨q,hq,rfl⟩:=List.mem_map.mp hp;obtain ⟨i,hi⟩:=h q hq;refine ⟨i,?_⟩
  split
  ·exact hi
  ·exact hi
 ·intro p hp
  rcases List.mem_append.mp hp with hp | hp
  ·exact h p hp
  ·cases List.mem_singleton.mp hp;exact ⟨j,rfl⟩
theorem round_to {Lx:Lex} (hB:Lx.W "begin" ZY) (hX:Lx.W "next" Xn) {code:List (Jn)} {S LN:Jb} {L pl n N:Nat} {mn_ group:Int} {one:Int->DT->DT} {I:Nat->DT->Prop} {s:DT} {M:Mc} (h:RestAt S LN L pl s M) (hg:group=1∨group=2∨group=4) (h1:1<=mn_)
  (c0:code[pl]?=some [.str "begin",.int mn_,.int group]) (c3:code[pl+(n+1)]?=some [.str "next"]) (hN:∀ i:Nat,i<N↔(i:Int)*(group*L)<mn_) (i0:I 0 s):∀ i:Nat,i<N ->
  (∀ (j:Nat) (s:DT) (M:Mc),j<i->I j s->StripAt S LN L pl mn_ group (j*(group*L)) s M->∃ k M',Steps Lx code k M M'/\InS S LN L pl mn_ group (j*(group*L)) (n+1) (one (j*(group*L)) s) M'/\I (j+1) (one (j*(group*L)) s)) ->
  ∃ k M',Steps Lx code k M M'/\StripAt S LN L pl mn_ group (i*(group*L)) (upG one (group*L) s i) M'/\I i (upG one (group*L) s i):=by
 have l1:=h.ok.l1;have hL:=h.lq;have sd:1<=group*(L:Int):=by rcases hg with e | e | e <;> rw [e] <;> omega
 have low:∀ i:Nat,(0:Int)<=i*(group*L):=λi=>Int.mul_nonneg (by omega) (by omega);have sc:∀ i:Nat,((i+1:Nat):Int)*(group*L)=i*(group*L)+group*L:=λi=>by rw [Int.natCast_add,Int.add_mul];show _+1*(group*(L:Int))=_;rw [Int.one_mul]
 intro i
 induction i with
 | zero =>
  intro _ _;have st:Step Lx [.str "begin",.int mn_,.int group] M { M.round mn_ group with pc:=M.pc+1 }:=Step.way (L:=Lx) (word:="begin") hB rfl ⟨mn_,group,rfl,rfl,h.ok,hg,by omega,rfl,rfl⟩;have sa:StripAt S LN L pl mn_ group 0 s { ({ M with oq:=M.pc,mn_:=mn_,group:=group,cq:=none }:Mc).strip 0 with pc:=pl+1 }:=ZF ⟨h.ok.l1,h.ok.l64,h.ok.nl,h.ok.ml,h.ok.mm⟩ hg rfl rfl h.lq h.pc (by omega) h.rf h.starts h.lens h.cells h.tq;rw [h.pc] at st;refine ⟨1,_,.cons (by rw [h.pc];omega) h.rf (by rw [h.pc,q0z];exact c0) st .refl,?_,i0⟩;have e:((0:Nat):Int)*(group*L)=0:=by omega
  rw [e];unfold Mc.round;rw [h.pc] at sa ⊢;exact sa
 | succ i ih =>
  intro hi go;obtain ⟨k,M1,st,sa,ii⟩:=ih (by omega) λj s M hj=>go j s M (by omega);have hi1:=(hN (i+1)).mp hi;rw [sc] at hi1;have hl:=low i;have hw:wid mn_ (group*L) (i*(group*L))=(group*(L:Int)).toNat:=by unfold wid;omega
  obtain ⟨k2,M2,st2,e2,i2⟩:=go i _ M1 (by omega) ii sa;have bb:M2.base+M2.bq=((i+1:Nat):Int)*(group*L):=by rw [sc,e2.base,e2.bq,hw];omega
  have st3:Step Lx [.str "next"] M2 { M2.strip (((i+1:Nat):Int)*(group*L)) with pc:=(pl:Int)+1 }:=Step.way (L:=Lx) (word:="next") hX rfl (by
   refine ⟨e2.ok.zero,by rw [e2.group];exact hg,?_⟩;rw [bb,if_pos (by rw [e2.mn_,sc];exact hi1),e2.oq];exact ⟨rfl,rfl⟩)
  refine ⟨k+k2+1,_,(st.trans st2).trans (e2.one c3 st3),?_,by rw [xj];exact i2⟩;rw [xj];exact ZF e2.ok.zero hg e2.group e2.mn_ e2.lq e2.oq (by rw [sc];omega) e2.rf e2.starts e2.lens e2.cells e2.tq
def xK {α:Type} (bad:Nat->Option α):Nat->Nat×Option α
 | 0=>(0,none)
 | n+1=>match xK bad n with
  | (i,some r)=>(i,some r)
  | (_,none)=>(n+1,bad n)
theorem XI {α:Type} (bad:Nat->Option α):∀ n:Nat,((xK bad n=(n,none))/\∀ i,i<n->bad i=none)∨∃ i r,i<n/\bad i=some r/\(∀ j,j<i->bad j=none)/\xK bad n=(i+1,some r)
 | 0=>.inl ⟨rfl,λi hi=>by omega⟩
 | n+1=>by
  rcases XI bad n with ⟨e,h⟩ | ⟨i,r,hi,hb,hj,e⟩
  ·have e2:xK bad (n+1)=(n+1,bad n):=by unfold xK;rw [e]
   cases q:bad n with
   | none =>
    left;refine ⟨by rw [e2,q],λi hi=>?_⟩;rcases Nat.lt_or_eq_of_le (Nat.le_of_lt_succ hi) with z | z
    ·exact h i z
    ·rw [z];exact q
   | some r=>exact .inr ⟨n,r,by omega,q,h,by rw [e2,q]⟩
  ·right
   refine ⟨i,r,by omega,hb,hj,?_⟩;unfold xK;rw [e]
def ends_at {α:Type} {bad:Nat->Option α} {N j:Nat} {r:α} (hj:j<N) (hb:bad j=some r) (h:∀ i,i<j->bad i=none):xK bad N=(j+1,some r):=by
 rcases XI bad N with ⟨_,z⟩ | ⟨i,r',hi,hb',hj',e⟩
 ·rw [z j hj] at hb;cases hb
 ·have:i=j:=by
   rcases Nat.lt_trichotomy i j with y | y | y
   ·rw [h i y] at hb';cases hb'
   ·exact y
   ·rw [hj' j y] at hb;cases hb
  subst this;rw [hb'] at hb;cases hb;exact e
def ends_none {α:Type} {bad:Nat->Option α} {N:Nat} (h:∀ i,i<N->bad i=none):xK bad N=(N,none):=by
 rcases XI bad N with ⟨e,_⟩ | ⟨i,r',hi,hb',_,_⟩
 ·exact e
 ·rw [h i hi] at hb';cases hb'
def zd8 {Lx:Lex} (hB:Lx.W "begin" ZY) (hX:Lx.W "next" Xn) {code:List (Jn)} {S LN:Jb} {L pl n N:Nat} {mn_ group:Int} {one:Int->DT->DT} {I:Nat->DT->Prop} {bad:Nat->Option (Int×Int×Str)} {s:DT} {M:Mc} (h:RestAt S LN L pl s M) (hg:group=1∨group=2∨group=4) (h1:1<=mn_)
  (c0:code[pl]?=some [.str "begin",.int mn_,.int group]) (c3:code[pl+(n+1)]?=some [.str "next"]) (hN:∀ i:Nat,i<N↔(i:Int)*(group*L)<mn_) (i0:I 0 s)
  (go:∀ (i:Nat) (s:DT) (M:Mc),i<N->bad i=none->I i s->StripAt S LN L pl mn_ group (i*(group*L)) s M->∃ k M',Steps Lx code k M M'/\InS S LN L pl mn_ group (i*(group*L)) (n+1) (one (i*(group*L)) s) M'/\I (i+1) (one (i*(group*L)) s))
  (gb:∀ (i:Nat) (r:Int×Int×Str) (s:DT) (M:Mc),i<N->bad i=some r->I i s->StripAt S LN L pl mn_ group (i*(group*L)) s M->∃ k M',Steps Lx code k M M'/\M'.rq_=some r/\M'.cells=(one (i*(group*L)) s).1/\M'.tq=(one (i*(group*L)) s).2) :
  ∃ k M',Steps Lx code k M M'/\M'.rq_=(xK bad N).2/\M'.cells=(upG one (group*L) s (xK bad N).1).1/\M'.tq=(upG one (group*L) s (xK bad N).1).2/\((xK bad N).2=none->M'.pc=((pl+(n+2):Nat):Int)):=by
 rcases XI bad N with ⟨e,hb⟩ | ⟨i,r,hi,hb,hj,e⟩
 ·obtain ⟨k,M',st,ra,_⟩:=round_gen hB hX h hg h1 c0 c3 hN i0 λi s M hi=>go i s M hi (hb i hi)
  rw [e];exact ⟨k,M',st,ra.rf,ra.cells,ra.tq,λ_=>ra.pc⟩
 ·obtain ⟨k,M1,st,sa,ii⟩:=round_to hB hX h hg h1 c0 c3 hN i0 i hi λj s M hji=>go j s M (by omega) (hj j hji)
  obtain ⟨k2,M2,st2,r2,ce2,to2⟩:=gb i r _ M1 hi hb ii sa;rw [e];exact ⟨k+k2,M2,st.trans st2,r2,by rw [ce2,xj],by rw [to2,xj],λz=>by cases z⟩
def RfAt (H:Hp) (v:V):Option (Int×Int×Str)->Prop
 | none=>v=.non
 | some r=>∃ t,v=.ref t/\H t=some (.tup [.int r.1,.int r.2.1,.str r.2.2])
theorem RfAt.same {H H':Hp} {v:V} {r:Option (Int×Int×Str)} (h:RfAt H v r) (s:Same H H'):RfAt H' v r:=by
 cases r with
 | none=>exact h
 | some r=>obtain ⟨t,e,q⟩:=h;exact ⟨t,e,s _ _ q⟩
theorem lk_told2 {c:MCs} {B H:Hp} {A:Ma} {M:Mc} (m:MAt c B A M [] H) {t t2 dd tt:Ad} {rv:V} {ro:Option (Int×Int×Str)} {ds:Jb} {ts:Jg} {T:List Tch} (et:H t=some (.tup [.ref A.aC,A.rf,.ref A.aT])) (et2:H t2=some (.tup [.ref dd,rv,.ref tt])) (rf:M.rq_=ro) (er:RfAt H rv ro) (hc:M.cells=ds) (hT:M.tq=T) (edd:H dd=some (.lst (ds.map V.int))) (ett:H tt=some (.lst (ts.map V.ref))) (ta:TAt H ts T):Lk H 3 (.ref t) (.ref t2):=by
 have rfz:Lk H 2 A.rf rv:=by
  have:=m.bb.rf;rw [rf] at this
  cases ro with
  | none=>rw [show A.rf=.non from this,show rv=.non from er];exact .non
  | some r =>
   obtain ⟨t3,e3,q3⟩:=this;obtain ⟨t4,e4,q4⟩:=er;rw [e3,e4];refine .tup (m.h.sm _ _ q3) q4 rfl λi x y hx hy=>?_;rw [hx] at hy;cases hy
   match i,hx with
   | 0,hx=>cases hx;exact .int _
   | 1,hx=>cases hx;exact .int _
   | 2,hx=>cases hx;exact .str _
   | i+3,hx=>cases hx
 have eAC:H A.aC=some (.lst (ds.map V.int)):=by have:=m.h.get (i:=1) (a:=A.aC) rfl;rw [this,hc]
 have eAT:H A.aT=some (.lst (A.ts.map V.ref)):=m.h.get 6 rfl;have tl:=m.bb.tl;rw [hT] at tl;refine .tup et et2 rfl λi x y hx hy=>?_
 match i,hx,hy with
 | 0,hx,hy =>
  cases hx;cases hy;refine .lst eAC edd rfl λi x y hx hy=>?_;obtain ⟨n,_,rfl⟩:=xb hx;rw [hx] at hy;cases hy;exact .int _
 | 1,hx,hy=>cases hx;cases hy;exact rfz
 | 2,hx,hy =>
  cases hx;cases hy;refine .lst eAT ett (by rw [Ji,Ji,ta.n,tl]) λi x y hx hy=>?_;obtain ⟨b1',hb1,rfl⟩:=xb hx;obtain ⟨b2',hb2,rfl⟩:=xb hy;have il:i<T.length:=by rw [← tl];exact (List.getElem?_eq_some_iff.mp hb1).1
  have eT:T[i]?=some T[i]:=List.getElem?_eq_getElem il;have w1':=m.bb.tt i b1' T[i] hb1 (by rw [hT];exact eT);have w2':=ta.t i b2' T[i] hb2 eT;refine .tup (m.h.sm _ _ w1') w2' rfl λi x y hx hy=>?_;rw [hx] at hy;cases hy
  match i,hx with
  | 0,hx=>cases hx;exact .int _
  | 1,hx=>cases hx;exact .str _
  | 2,hx=>cases hx;exact .int _
  | i+3,hx=>cases hx
 | i+3,hx,hy=>cases hx
def Mc.opOne (M:Mc) (sg:Str) (a b lane:Int):Mc×Option Int:=match zV sg a b with
 | some r=>(M,some r)
 | none=>({ M with fq:=zW M.fq (.inl lane) (.str "nought") },none)
def Mc.opOne_is (M:Mc) (sg:Str) (a b lane:Int):(M.opOne sg a b lane).1={ M with fq:=(M.opOne sg a b lane).1.fq }/\(M.opOne sg a b lane).1.fq.length<=M.fq.length+1:=by
 unfold Mc.opOne
 split
 ·exact ⟨rfl,Nat.le_succ _⟩
 ·exact ⟨rfl,yl _ _ _⟩
def Mc.opAll (sg:Str):List (Int×Int×Int)->Mc->Mc×List (Option Int)
 | [],M=>(M,[])
 | p::ps,M=>let x:=M.opOne sg p.1 p.2.1 p.2.2;let y:=Mc.opAll sg ps x.1;(y.1,x.2::y.2)
theorem Mc.opAll_snoc (sg:Str) (p:Int×Int×Int):∀ (ps:List (Int×Int×Int)) (M:Mc),Mc.opAll sg (ps++[p]) M=(((Mc.opAll sg ps M).1.opOne sg p.1 p.2.1 p.2.2).1,(Mc.opAll sg ps M).2++[((Mc.opAll sg ps M).1.opOne sg p.1 p.2.1 p.2.2).2])
 | [],M=>rfl
 | q::ps,M=>by
  show ((Mc.opAll sg (ps++[p]) _).1,_::(Mc.opAll sg (ps++[p]) _).2)=_;rw [Mc.opAll_snoc sg p ps];rfl
theorem Mc.opAll_is (sg:Str):∀ (ps:List (Int×Int×Int)) (M:Mc),(Mc.opAll sg ps M).1={ M with fq:=(Mc.opAll sg ps M).1.fq }/\(Mc.opAll sg ps M).1.fq.length<=M.fq.length+ps.length/\(Mc.opAll sg ps M).2.length=ps.length
 | [],M=>⟨rfl,Nat.le_refl _,rfl⟩
 | p::ps,M=>by
  obtain ⟨a1,a3⟩:=M.opOne_is sg p.1 p.2.1 p.2.2;obtain ⟨b1,b3,b4⟩:=Mc.opAll_is sg ps (M.opOne sg p.1 p.2.1 p.2.2).1;refine ⟨?_,?_,?_⟩
  ·show (Mc.opAll sg ps (M.opOne sg p.1 p.2.1 p.2.2).1).1={ M with fq:=(Mc.opAll sg ps (M.opOne sg p.1 p.2.1 p.2.2).1).1.fq }
   rw [b1];rw [a1]
  ·show (Mc.opAll sg ps (M.opOne sg p.1 p.2.1 p.2.2).1).1.fq.length<=_
   rw [q3x];omega
  ·show (_::(Mc.opAll sg ps _).2).length=_
   rw [q3x,b4];rfl
open Classical in
noncomputable def opM:FnM:=λtv M js=>match (tv[2]?:Jo),(tv[3]?:Jo),(tv[4]?:Jo) with
 | some (V.str sg),some (V.int p),some (V.int p')=>if sg∈yX/\0<=p/\(p+1)*M.group<=8/\0<=p'/\(p'+1)*M.group<=8/\M.fq.length<90000/\∀ j∈js,Kin (M.nq p.toNat j)/\Kin (M.nq p'.toNat j) then some (Mc.opAll sg (js.map λj=>(M.nq p.toNat j,M.nq p'.toNat j,j)) M) else none
 | _,_,_=>none
def zcb {tv:Jn} {M M':Mc} {js:Jb} {ns:List (Option Int)} (h:opM tv M js=some (M',ns)):∃ (sg:Str) (p p':Nat),tv[2]?=some (.str sg)/\tv[3]?=some (.int p)/\tv[4]?=some (.int p')/\sg∈yX/\((p:Int)+1)*M.group<=8/\((p':Int)+1)*M.group<=8/\M.fq.length<90000/\(∀ j∈js,Kin (M.nq p j)/\Kin (M.nq p' j))/\M'=(Mc.opAll sg (js.map λj=>(M.nq p j,M.nq p' j,j)) M).1/\ns=(Mc.opAll sg (js.map λj=>(M.nq p j,M.nq p' j,j)) M).2:=by
 unfold opM at h
 split at h
 ·rename_i sg p p' e1 e2 e3
  split at h
  ·rename_i hc
   obtain ⟨hs,p0,p8,q0,q8,hf,hk⟩:=hc;have h:=Option.some.inj h;exact ⟨sg,p.toNat,p'.toNat,e1,by rw [e2];congr 2;omega,by rw [e3];congr 2;omega,hs,by rw [Int.toNat_of_nonneg p0];exact p8,by rw [Int.toNat_of_nonneg q0];exact q8,hf,hk,by rw [h],by rw [h]⟩
  ·cases h
 ·cases h
def opM_ok:FnMOk opM where
 ok:=λ{tv M js M' ns} h ok=>by
  obtain ⟨sg,p,p',_,_,_,_,_,_,_,_,rfl,_⟩:=zcb h;rw [(Mc.opAll_is sg (js.map λj=>(M.nq p j,M.nq p' j,j)) M).1];exact ⟨ok.l1,ok.l64,ok.g,ok.nl,ok.ml,ok.mm,ok.w0,ok.w1⟩
 g:=λ{tv M js M' ns} h=>by
  obtain ⟨sg,p,p',_,_,_,_,_,_,_,_,rfl,_⟩:=zcb h;rw [(Mc.opAll_is sg (js.map λj=>(M.nq p j,M.nq p' j,j)) M).1]
 n:=λ{tv M js M' ns} h=>by
  obtain ⟨sg,p,p',_,_,_,_,_,_,_,_,_,rfl⟩:=zcb h;rw [(Mc.opAll_is sg (js.map λj=>(M.nq p j,M.nq p' j,j)) M).2.2,Ji]
inductive spOp (c:MCs) (vs:Jn) (H:Hp) (Q:VK) (_:XK):Prop
 | mk (B:Hp) (A:Ma) (M:Mc) (R:Jm) (sg:Str) (a b lane:Int) (_:vs=[.ref A.b,.str sg,.int a,.int b,.int lane]) (_:MAt c B A M R H) (_:sg∈yX) (_:Kin a) (_:Kin b) (_:M.fq.length<100000) (_:∀ B' A' H',Same B B'->A'.b=A.b->MAt c B' A' (M.opOne sg a b lane).1 R H'->Q (oV (M.opOne sg a b lane).2) H')
def ok_opOne {c:MCs} {CN:Ad} (d:zn K mg "number_joined" y9 ["bench","sign","left","right","lane"]) (CC:MCls K c) (hN:mg "ByNought"=some (.ref CN)) (xm:PySem.W.exmOne K (.ref CN) (.ref CN)=some true) (DN:Ok P w K mg base (CXe P w base) 3 "done" ["sign","left","right"] (spDone CN)):Ok P w K mg base CX0 4 "number_joined" ["bench","sign","left","right","lane"] (spOp c):=by
 obtain ⟨g,fd,m,F,b⟩:=d;refine ⟨g,fd,m,F.kp,b,F.ok Y2 (by rintro vs H Q E ⟨_,_,_,_,_,_,_,_,e,_⟩;rw [e];rfl) λcdv A outer s H vs Q E hr h=>?_⟩;obtain ⟨B,A,M,R,sg,a,b',lane,rfl,m,hs,ka,kb,hf,q⟩:=h;have hu:=Nat.lt_of_le_of_lt (Nat.add_le_add_left (show 1<=64 by decide) _) hr.units;have hr3:=hr;have CN':=CC.n;have SL:(200000:Nat)<sizeLine:=by decide
 refine ⟨_,(zc (ps_try (t:=λR=>tRet (XT (spDone CN) [] (XE R) (ZQ (tVar 1) (ZQ (tVar 2) (ZQ (tVar 3) tNil))))) rfl rfl (by intro pins σ₀ R ok;exact ps1_ret (pe1_ok (E:=XE R) DN hr3 rfl (pass_tr (pins:=pins) (σ₀:=σ₀) ok) (zb (pv 1) (zb (pv 2) (zb (pv 3) zd))))) (ph_no rfl rfl hN (λe=>(zg (Z5 hu (zq (pv 0) rfl) (pv 4) zK rfl))) ph_nil))
   (zg (zm yE))),?_⟩
 refine ⟨λC H'=>C=CN/\zV sg a b'=none/\H'=H,?_,?_⟩
 ·refine ⟨_,rfl,_,rfl,_,rfl,sg,a,b',rfl,hs,ka,kb,λr er=>?_,λer=>⟨CN,rfl,rfl,er,rfl⟩⟩
  have e:M.opOne sg a b' lane=(M,some r):=by unfold Mc.opOne;rw [er]
  rw [e] at q;exact q B A H (Same.refl _) rfl m
 ·rintro e C H' ne ⟨rfl,er,rfl⟩
  have e':M.opOne sg a b' lane=({ M with fq:=zW M.fq (.inl lane) (.str "nought") },none):=by unfold Mc.opOne;rw [er]
  rw [e'] at q;refine ⟨true,xm,?_⟩;rw [if_pos rfl];have m2:=m.grow (o:=excO e C) ne;have s2:Same B (upd B e (excO e C)):=zi (Same.refl _) (m.h.free ne);exact ⟨_,rfl,A.b,_,_,_,.ref A.aF,rfl,m2.b,CN'.c,CN'.fq,rfl,_,rfl,A.aF,_,rfl,DPut.k (k:=.inl lane) (m2.h.get 7 rfl) (by omega),q _ A _ s2 rfl (m2.putFault _)⟩
def ok_op {c:MCs} (d:zn K mg "numbers_joined" yQ ["bench","step","active"]) (hzip:mg "zip"=none) (CC:MCls K c) (NI:OkM P w K mg base CX0 3 c.bn "numbers_in" ["self","seat","active"] (spNums c K)) (NJ:Ok P w K mg base CX0 4 "number_joined" ["bench","sign","left","right","lane"] (spOp c)):Ok P w K mg base CX0 5 "numbers_joined" ["bench","step","active"] (spFn c opM):=by
 obtain ⟨g,fd,m,F,b⟩:=d;refine ⟨g,fd,m,F.kp,b,F.ok sc_numbers_joined (by rintro vs H Q E ⟨_,_,_,_,_,_,_,_,_,_,e,_⟩;rw [e];rfl) λcdv A outer s H vs Q E hr h=>?_⟩;obtain ⟨B,A,M,R,st,aa,tv,js,M',ns,rfl,m,es,ea,ef,ok,hj,hl,q⟩:=h;obtain ⟨sg,p,p',e2,e3,e4,hs,p8,p8',hf,hk,rfl,rfl⟩:=zcb ef;have nd:=sc_numbers_joined.nd;have hr4:=hr;have hr3:Room 3 _:=hr.mono (by decide);have CN:=CC.n;have SL:(3000:Nat)<sizeLine:=by decide
 let pr:Int->Int×Int×Int:=λj=>(M.nq p j,M.nq p' j,j);refine ⟨_,(zc (zu (i:=3) nd rfl (Or.inl rfl) (yg NI CC.n.c hr3 zt (pv 0) (zb (zr zR (pv 1) ze (λ_ _=>rfl)) (zb (pv 2) zd))))
   (zc (zu (i:=4) nd rfl (Or.inl rfl) (yg NI CC.n.c hr3 zt (pv 0) (zb (zr zR (pv 1) ze (λ_ _=>rfl)) (zb (pv 2) zd))))
   (zg (zm (yk ["left","right","lane","bench","step"] [none,none,none,some 0,some 1] rfl rfl rfl (pi_zip3 rfl hzip (zb (pv 3) (zb (pv 4) (zb (pv 2) zd)))) (λs3 H3 fp=>⟨pg_tupK (K:=K) (n:=3) rfl rfl (yI (zC (i:=0) (Jp ["left","right","lane","bench","step"]) rfl (Or.inl rfl)) (yI (zC (i:=1) (Jp ["left","right","lane","bench","step"]) rfl (Or.inl rfl)) (yI (zC (i:=2) (Jp ["left","right","lane","bench","step"]) rfl (Or.inl rfl)) YF))),(zL NJ hr4 (by rfl) zt (zb (pv 3) (zb (zr (zcg (K:=K) rfl) (pv 4) ze (λ_ _=>rfl)) (zb (pv 0) (zb (pv 1) (zb (pv 2) zd))))))⟩)))))),?_⟩
 show (let s1:L2.TS:=_;let s2:L2.TS:=L2.tSeq _ s1;L2.tSeq _ s2 _ _ _);intro s1 s2;refine ⟨_,rfl,A.b,_,_,rfl,m.b,rfl,_,rfl,st,_,_,_,rfl,rfl,SqT.of (m.h.sm _ _ es),zJ (j:=3) e3,_,rfl,B,A,M,R,p,aa,js,rfl,m,ok,p8,ea,hj,hl,λB1 H1 x1 s1 m1 ex1=>?_⟩;refine ⟨_,rfl,A.b,_,_,rfl,m1.b,rfl,_,rfl,st,_,_,_,rfl,rfl,SqT.of (m1.h.sm _ _ (s1 _ _ es)),zJ (j:=4) e4,_,rfl,B1,A,M,R,p',aa,js,rfl,m1,ok,p8',s1 _ _ ea,hj,hl,λB2 H2 x2 s2 m2 ex2=>?_⟩;have s12:=s1.trans s2;have ex1':=s2 _ _ ex1;have ea2:=s12 _ _ ea;refine ⟨_,rfl,_,rfl,_,rfl,x1,x2,aa,rfl,⟨_,SqL.of (m2.h.sm _ _ ex1')⟩,⟨_,SqL.of (m2.h.sm _ _ ex2)⟩,⟨_,SqL.of (m2.h.sm _ _ ea2)⟩,_,rfl,λD nD=>?_⟩;have m0:MAt c B2 A (Mc.opAll sg ((js.take 0).map pr) M).1 ((D,.lst ((Mc.opAll sg ((js.take 0).map pr) M).2.map oV))::R) (upd H2 D (.lst [])):=m2.newR nD;generalize upd H2 D (.lst [])=H3 at m0 ⊢;refine comp_zip3 (K:=K) (xs:=(js.map (M.nq p)).map V.int) (ys:=(js.map (M.nq p')).map V.int) (zs:=js.map V.int) (λi σ J=>∃ (u0 u1 u2:Jo) (B3:Hp) (A3:Ma),σ=[u0,u1,u2,rq A.b,rq st]/\Same B2 B3/\A3.b=A.b/\MAt c B3 A3 (Mc.opAll sg ((js.take i).map pr) M).1 ((D,.lst ((Mc.opAll sg ((js.take i).map pr) M).2.map oV))::R) J) ⟨none,none,none,B2,A,rfl,Same.refl _,rfl,m0⟩ (λi σ J _ ⟨_,_,_,B3,A3,_,s3,_,m3⟩=>⟨SqL.of (m3.h.sm _ _ (s3 _ _ ex1')),SqL.of (m3.h.sm _ _ (s3 _ _ ex2)),SqL.of (m3.h.sm _ _ (s3 _ _ ea2))⟩) (by rw [Ji,Ji,Ji,Ji]) (by rw [Ji,Ji,Ji]) ?_ ?_
 ·clear m0
  rintro i x y z σ J T hx hy hz ⟨u0,u1,u2,B3,A3,rfl,s3,eb,m3⟩ nT;obtain ⟨j,e9,rfl⟩:=xb hz;have hlt:i<js.length:=(List.getElem?_eq_some_iff.mp e9).1;obtain ⟨a1,e10,rfl⟩:=xb hx;obtain ⟨a2,e11,rfl⟩:=xb hy;rw [List.getElem?_map,e9] at e10 e11;cases e10;cases e11;have hkj:=hk j (List.mem_of_getElem? e9);have m4:=m3.grow (o:=.tup [.int (M.nq p j),.int (M.nq p' j),.int j]) nT;have s4:Same B3 (upd B3 T (.tup [.int (M.nq p j),.int (M.nq p' j),.int j])):=zi (Same.refl _) (m3.h.free nT);have e5:upd B3 T (.tup [.int (M.nq p j),.int (M.nq p' j),.int j]) T=some (.tup [.int (M.nq p j),.int (M.nq p' j),.int j]):=zf;generalize upd J T (.tup [.int (M.nq p j),.int (M.nq p' j),.int j])=J4 at m4 ⊢;generalize upd B3 T (.tup [.int (M.nq p j),.int (M.nq p' j),.int j])=B4 at m4 s4 e5;obtain ⟨i1,i3,i4⟩:=Mc.opAll_is sg ((js.take i).map pr) M;have et:(js.take (i+1)).map pr=(js.take i).map pr++[pr j]:=by rw [List.take_add_one,e9,Jk];rfl
  rw [et,Mc.opAll_snoc];rw [Ji,List.length_take] at i3 i4;have sq:SqT K J4 st tv:=SqT.of (m4.h.sm _ _ (s4 _ _ (s3 _ _ (s12 _ _ es))));generalize Mc.opAll sg ((js.take i).map pr) M=X at *;obtain ⟨MX,nX⟩:=X;have i3:MX.fq.length<=M.fq.length+min i js.length:=i3;have i4:nX.length=min i js.length:=i4;refine ⟨T,_,rfl,SqT.of (m4.h.sm _ _ e5),rfl,_,_,rfl,_,_,rfl,_,_,rfl,rfl,?_⟩;refine ⟨_,rfl,_,rfl,st,_,_,_,rfl,rfl,sq,zJ (j:=2) e2,_,rfl,_,rfl,_,rfl,B4,A3,MX,_,sg,M.nq p j,M.nq p' j,j,by rw [eb];rfl,m4,hs,hkj.1,hkj.2,by omega,λB5 A5 H5 s5 eb5 m5=>?_⟩;refine ⟨_,m5.getR,(by rw [Ji];omega),_,_,_,B5,A5,rfl,(s3.trans s4).trans s5,eb5.trans eb,?_⟩;rw [Jk];exact m5.putR
 ·rintro σ J ⟨u0,u1,u2,B3,A3,rfl,s3,eb,m3⟩
  rw [Ji,Ji,List.take_length] at m3;have nb:B3 D=none:=m3.h.nw (D,_) (List.mem_of_getElem? atR);exact q _ A3 J D ((s12.trans s3).trans (zi (Same.refl _) nb)) eb m3.settle zf
def yp (z:Str) (fs:Jl) (js:Jb):Jl:=js.foldl (λf j=>zW f (.inl j) (.str z)) fs
theorem zda (sg:Str) (F G:Int->Int):∀ (js:Jb) (M:Mc),Mc.opAll sg (js.map λj=>(F j,G j,j)) M=({ M with fq:=yp "nought" M.fq (js.filter λj=>(zV sg (F j) (G j)).isNone) },js.map λj=>zV sg (F j) (G j))
 | [],M=>rfl
 | j::js,M=>by
  show ((Mc.opAll sg (js.map λj=>(F j,G j,j)) (M.opOne sg (F j) (G j) j).1).1,(M.opOne sg (F j) (G j) j).2::(Mc.opAll sg (js.map λj=>(F j,G j,j)) (M.opOne sg (F j) (G j) j).1).2)=_;rw [zda sg F G js]
  cases e:zV sg (F j) (G j) with
  | some r =>
   have e1:M.opOne sg (F j) (G j) j=(M,some r):=by unfold Mc.opOne;rw [e]
   rw [e1,List.filter_cons_of_neg (by rw [e];exact λz=>by cases z),List.map_cons,e]
  | none =>
   have e1:M.opOne sg (F j) (G j) j=({ M with fq:=zW M.fq (.inl j) (.str "nought") },none):=by unfold Mc.opOne;rw [e]
   rw [e1,List.filter_cons_of_pos (by rw [e];rfl),List.map_cons,e];rfl
theorem xw (z:Str):∀ (js:Jb) (fs:Jl) (j:Int),(zN (yp z fs js) (.inl j)).isSome=((zN fs (.inl j)).isSome || decide (j∈js))
 | [],fs,j=>by rw [decide_eq_false (by simp),Bool.or_false];rfl
 | i::js,fs,j=>by
  show (zN (yp z (zW fs (.inl i) (.str z)) js) (.inl j)).isSome=_;rw [xw z js,Zw];by_cases e:j=i
  ·subst e
   rw [if_pos rfl,decide_eq_true q1z];simp
  ·rw [if_neg (λy=>e (Sum.inl.inj y))]
   congr 1;refine decide_eq_decide.mpr ⟨λy=>q1y _ y,λy=>?_⟩;rcases List.mem_cons.mp y with y | y
   ·exact absurd y e
   ·exact y
theorem Xf (z:Str):∀ (js:Jb) (fs:Jl),(yp z fs js).length<=fs.length+js.length
 | [],fs=>Nat.le_refl _
 | j::js,fs=>by
  have a:=Xf z js (zW fs (.inl j) (.str z));have b:=yl fs (.inl j:Key) (.str z);show (yp z (zW fs (.inl j) (.str z)) js).length<=_;rw [q3x];omega
section
variable {Lx:Lex} {S LN:Jb} {L pl k:Nat} {mn_ group b:Int} {s:DT} {M:Mc}
def InS.op {p q r m:Nat} {sg:Str} {F G:Int->Int} (h:InS S LN L pl mn_ group b k s M) (hS:Lx.S "op" opM) (p8:((p:Int)+1)*group<=8) (q8:((q:Int)+1)*group<=8) (r8:((r:Int)+1)*group<=8) (m16:m<16) (sgn:sg∈yX) (hf:M.fq.length<90000) (hq:∀ j∈M.act m,M.nq q j=F (b+j)/\M.nq r j=G (b+j)) (hk:∀ j∈M.act m,Kin (F (b+j))/\Kin (G (b+j))) :
  ∃ M',Step Lx [.str "op",.int p,.str sg,.int q,.int r,.int m] M M'/\InS S LN L pl mn_ group b (k+1) s M'/\(Kp M M'/\M'.fq=yp "nought" M.fq ((M.act m).filter λj=>(zV sg (F (b+j)) (G (b+j))).isNone))/\(∀ j∈M.act m,∀ v,zV sg (F (b+j)) (G (b+j))=some v->M'.nq p j=v)/\(∀ (p':Nat) (j:Int),p'≠p->0<=j->j<group*L->M'.nq p' j=M.nq p' j):=by
 have ef:opM [.str "op",.int p,.str sg,.int q,.int r,.int m] M (M.act m)=some ({ M with tq:=M.tq++[],fq:=yp "nought" M.fq ((M.act m).filter λj=>(zV sg (F (b+j)) (G (b+j))).isNone) },(M.act m).map λj=>zV sg (F (b+j)) (G (b+j))):=by
  have e1:opM [.str "op",.int p,.str sg,.int q,.int r,.int m] M (M.act m)=some (Mc.opAll sg ((M.act m).map λj=>(M.nq q j,M.nq r j,j)) M):=by
   unfold opM;refine (if_pos ?_).trans ?_
   ·rw [q0z,q0z,h.group]
    exact ⟨sgn,by omega,q8,by omega,r8,hf,λj hj=>by rw [(hq j hj).1,(hq j hj).2];exact hk j hj⟩
   ·rw [q0z,q0z]
  rw [e1];have e2:(M.act m).map (λj=>(M.nq q j,M.nq r j,j))=(M.act m).map λj=>(F (b+j),G (b+j),j):=List.map_congr_left λj hj=>by rw [(hq j hj).1,(hq j hj).2]
  rw [e2,zda sg (λj=>F (b+j)) (λj=>G (b+j)),q3y]
 obtain ⟨M',st,i,kp,n1,n2⟩:=h.seatO (word:="op") (p:=p) (m:=m) hS rfl rfl rfl p8 m16 ef;rw [q3y] at i;exact ⟨M',st,i,kp,n1,n2⟩
def InS.reachF {p m:Nat} {n:Int} {F:Int->Int} (h:InS S LN L pl mn_ group b k s M) (hS:Lx.E "reach" ZU) (p8:((p:Int)+1)*group<=8) (m16:m<16) (hf:M.fq.length<99000) (hq:∀ j∈M.act m,M.nq p j=F (b+j)) :
  ∃ M',Step Lx [.str "reach",.int p,.int n,.int m] M M'/\InS S LN L pl mn_ group b (k+1) s M'/\(Kp M M'/\M'.fq=xu M.fq ((M.act m).filter λj=>!gIn n (F (b+j))))/\(∀ (p':Nat) (j:Int),M'.nq p' j=M.nq p' j):=by
 have e:ZU [.str "reach",.int p,.int n,.int m] M=some (M.outs p n (M.act m)):=by
  unfold ZU;refine (if_pos ?_).trans ?_
  ·rw [h.group]
   exact ⟨by omega,p8,by omega,by omega,by omega⟩
  ·rw [q0z,q0z]
 have st:=Step.eff (word:="reach") hS rfl e h.ok
 have ef:(M.act m).filter (λj=>!xp M p n j)=(M.act m).filter λj=>!gIn n (F (b+j)):=List.filter_congr λj hj=>by
  unfold xp gIn;rw [hq j hj]
 refine ⟨_,st,⟨⟨h.ok.l1,h.ok.l64,h.ok.g,h.ok.nl,h.ok.ml,h.ok.mm,h.ok.w0,h.ok.w1⟩,h.wle,h.bq,h.base,(by show M.pc+1=_;rw [h.pc];omega),h.oq,h.mn_,h.group,h.lq,h.rf,h.starts,h.lens,h.cells,h.tq⟩,⟨?_,?_⟩,λ_ _=>rfl⟩
 ·constructor <;> rfl
 ·show xu M.fq _=_
  rw [ef]
end
inductive Sp6
 | ga (x y:Bool)
 | rc (x:Bool) (n:Int)
 | tr
 | op (x:Bool) (sg:Str) (y z:Bool)
structure T6 where
 W:Nat
 fs:Jl
 nu:Bool->Int->Int
 T:List Tch
def Zg (W:Nat) (fs:Jl):Jb:=(zM W).filter λj=>!(zN fs (.inl j)).isSome
def T6.act (t:T6):Jb:=Zg t.W t.fs
def Xc (nu:Bool->Int->Int) (x:Bool) (b:Int) (js:Jb) (g:Int->Option Int):Bool->Int->Int:=λs e=>if s=x/\e-b∈js then (g e).getD (nu s e) else nu s e
def trW (W:Nat) (fs:Jl):Nat:=((zy fs).foldl min (W:Int)).toNat
def go6 (st SN:Int) (sr:Int->Int) (b at':Int) (x:Sp6) (t:T6):T6:=match x with
 | .ga x y=>⟨t.W,xu t.fs (t.act.filter λj=>!gIn SN (t.nu y (b+j))),Xc t.nu x b t.act λe=>if gIn SN (t.nu y e)=true then some (sr (t.nu y e)) else none,t.T++((t.act.map (b+·)).filter λe=>gIn SN (t.nu y e)).map λe=>(at',("read":Str),st+t.nu y e)⟩
 | .rc x n=>⟨t.W,xu t.fs (t.act.filter λj=>!gIn n (t.nu x (b+j))),t.nu,t.T⟩
 | .tr=>⟨trW t.W t.fs,t.fs,t.nu,t.T⟩
 | .op x sg y z=>⟨t.W,yp "nought" t.fs (t.act.filter λj=>(zV sg (t.nu y (b+j)) (t.nu z (b+j))).isNone),Xc t.nu x b t.act λe=>zV sg (t.nu y e) (t.nu z e),t.T⟩
def Sp6.tv (p q r:Nat):Sp6->Jn
 | .ga x y=>[.str "gather",.int (cond x q p:Nat),.int (cond y q p:Nat),.int r,.int (0:Nat)]
 | .rc x n=>[.str "reach",.int (cond x q p:Nat),.int n,.int (0:Nat)]
 | .tr=>[.str "trim"]
 | .op x sg y z=>[.str "op",.int (cond x q p:Nat),.str sg,.int (cond y q p:Nat),.int (cond z q p:Nat),.int (0:Nat)]
structure I6 (S LN:Jb) (L pl:Nat) (mn_ group b:Int) (p q:Nat) (W0:Nat) (ds:Jb) (k:Nat) (t:T6) (M:Mc):Prop where
 i:InS S LN L pl mn_ group b k (ds,t.T) M
 w:M.wq=(t.W:Nat)
 f:M.fq=t.fs
 m:∀ j:Nat,j<W0->(M.mq.getD 0 []).getD j false=true
 le:t.W<=W0
 n:∀ s,∀ j∈t.act,M.nq (cond s q p) j=t.nu s (b+j)
 kn:∀ s,∀ j∈t.act,Kin (t.nu s (b+j))
 ik:yV t.fs
 k0:∀ j∈zy t.fs,0<=j/\j<(W0:Nat)
 fl:t.fs.length<=k*300
 c:(M.cut=none/\t.W=W0)∨∃ c:Nat,M.cut=some (c:Int)/\t.W=c/\(zN t.fs (.inl (c:Int))).isSome=true
def I6.act {S LN:Jb} {L pl:Nat} {mn_ group b:Int} {p q W0:Nat} {ds:Jb} {k:Nat} {t:T6} {M:Mc} (h:I6 S LN L pl mn_ group b p q W0 ds k t M):M.act 0=t.act:=by
 unfold Mc.act Mc.actTo T6.act Zg zM;rw [h.w,q0z,List.filter_map]
 have e:(List.range t.W).filter (M.isAct 0)=(List.range t.W).filter ((λj:Int=>!(zN t.fs (.inl j)).isSome) ∘ Int.ofNat):=List.filter_congr λj hj=>by
  unfold Mc.isAct;rw [h.m j (q2z (List.mem_range.mp hj) h.le),h.f];rfl
 rw [e];rfl
def act6_mem {W:Nat} {fs:Jl} {j:Int}:j∈Zg W fs↔0<=j/\j<(W:Nat)/\(zN fs (.inl j)).isSome=false:=by
 unfold Zg zM;rw [List.mem_filter,List.mem_map];constructor
 ·rintro ⟨⟨i,hi,rfl⟩,h2⟩
  have:=List.mem_range.mp hi;exact ⟨Int.natCast_nonneg _,(by show (i:Int)<_;omega),by simpa using h2⟩
 ·rintro ⟨h0,h1,h2⟩
  exact ⟨⟨j.toNat,List.mem_range.mpr (by omega),Int.toNat_of_nonneg h0⟩,by simpa using h2⟩
def za4 (f:Jl) (js:Jb):xu f js=yp "outside" f js:=rfl
theorem YR (z:Str):∀ (js:Jb) {f:Jl},yV f->yV (yp z f js)
 | [],f,h=>h
 | j::js,f,h=>YR z js (Xq h j _)
def seat_ne {p q:Nat} (h:p≠q) {s x:Bool} (e:s≠x):cond s q p≠cond x q p:=by
 cases s <;> cases x
 ·exact absurd rfl e
 ·exact h
 ·exact Ne.symm h
 ·exact absurd rfl e
section
variable {Lx:Lex} {S LN:Jb} {L pl:Nat} {mn_ group b:Int} {p q W0:Nat} {ds:Jb} {k:Nat} {t:T6} {M M':Mc}
def zcq (W:Nat) (fs:Jl):(Zg W fs).length<=W:=by
 unfold Zg;refine Nat.le_trans (List.length_filter_le _ _) ?_;unfold zM;rw [Ji,List.length_range];exact Nat.le_refl _
theorem I6.next (h:I6 S LN L pl mn_ group b p q W0 ds k t M) {z:Str} {bad:Int->Bool} {nu:Bool->Int->Int} {T:List Tch} (w256:W0<=256) (i:InS S LN L pl mn_ group b (k+1) (ds,T) M') (kp:Kp M M') (ef:M'.fq=yp z M.fq (t.act.filter bad))
  (hn:∀ s,∀ j∈t.act,bad j=false->M'.nq (cond s q p) j=nu s (b+j)) (hk:∀ s,∀ j∈t.act,bad j=false->Kin (nu s (b+j))):I6 S LN L pl mn_ group b p q W0 ds (k+1) ⟨t.W,yp z t.fs (t.act.filter bad),nu,T⟩ M':=by
 have sub:∀ j∈Zg t.W (yp z t.fs (t.act.filter bad)),j∈t.act/\bad j=false:=λj hj=>by
  obtain ⟨a0,a1,a2⟩:=act6_mem.mp hj;rw [xw,Bool.or_eq_false_iff] at a2;have ha:j∈t.act:=act6_mem.mpr ⟨a0,a1,a2.1⟩;refine ⟨ha,?_⟩
  cases e:bad j with
  | false=>rfl
  | true=>exact absurd (List.mem_filter.mpr ⟨ha,e⟩) (of_decide_eq_false a2.2)
 have mem:∀ j:Int,(zN (yp z t.fs (t.act.filter bad)) (.inl j)).isSome=((zN t.fs (.inl j)).isSome || decide (j∈t.act.filter bad)):=xw z _ _;refine ⟨i,kp.w.trans h.w,by rw [ef,h.f],by rw [kp.mq];exact h.m,h.le,λs j hj=>hn s j (sub j hj).1 (sub j hj).2,λs j hj=>hk s j (sub j hj).1 (sub j hj).2,YR z _ h.ik,λj hj=>?_,?_,?_⟩
 ·rw [zY,mem,Bool.or_eq_true] at hj
  rcases hj with hj | hj
  ·exact h.k0 j ((zY _ _).mpr hj)
  ·obtain ⟨a0,a1,_⟩:=act6_mem.mp (List.mem_filter.mp (of_decide_eq_true hj)).1
   have:=h.le;omega
 ·have a:=Xf z (t.act.filter bad) t.fs
  have b':=List.length_filter_le bad t.act;have c:t.act.length<=t.W:=zcq _ _;have d:=h.le;have e:=h.fl;show (yp z t.fs (t.act.filter bad)).length<=_;rw [Nat.add_mul,Nat.one_mul];omega
 ·rcases h.c with ⟨c1,c2⟩ | ⟨c,c1,c2,c3⟩
  ·exact .inl ⟨kp.cut.trans c1,c2⟩
  ·refine .inr ⟨c,kp.cut.trans c1,c2,?_⟩
   show (zN (yp z t.fs (t.act.filter bad)) (.inl (c:Int))).isSome=true;rw [mem,c3];rfl
end
section
variable {Lx:Lex} {S LN:Jb} {L pl k:Nat} {mn_ group b:Int} {s:DT} {M:Mc}
def InS.trimF (h:InS S LN L pl mn_ group b k s M) (hS:Lx.E "trim" XR) (ik:yV M.fq) (hf:M.fq.length<100000) (h0:∀ j∈zy M.fq,0<=j) :
  ∃ M',Step Lx [.str "trim"] M M'/\InS S LN L pl mn_ group b (k+1) s M'/\M'.fq=M.fq/\M'.mq=M.mq/\(∀ (p':Nat) (j:Int),M'.nq p' j=M.nq p' j) /\
   ((M.faulted=[]/\M'.wq=M.wq/\M'.cut=M.cut)∨(M.faulted≠[]/\M'.wq=Ye M.faulted/\M'.cut=some (Ye M.faulted))):=by
 have e:XR [.str "trim"] M=some M.trimmed:=by
  unfold XR;exact if_pos ⟨ik,hf⟩
 have st:=Step.eff (word:="trim") hS rfl e h.ok;have hpc:M.pc+1=((pl+(k+1):Nat):Int):=by rw [h.pc];omega
 unfold Mc.trimmed at st;by_cases z:M.faulted=[]
 ·rw [if_pos z] at st
  exact ⟨_,st,⟨⟨h.ok.l1,h.ok.l64,h.ok.g,h.ok.nl,h.ok.ml,h.ok.mm,h.ok.w0,h.ok.w1⟩,h.wle,h.bq,h.base,hpc,h.oq,h.mn_,h.group,h.lq,h.rf,h.starts,h.lens,h.cells,h.tq⟩,rfl,rfl,λ_ _=>rfl,.inl ⟨z,rfl,rfl⟩⟩
 ·rw [if_neg z] at st
  have mem:=YL _ z;have mp:=List.mem_filter.mp mem;have m0:=h0 _ mp.1;have mw:Ye M.faulted<M.wq:=of_decide_eq_true mp.2;have w1:=h.ok.w1;exact ⟨_,st,⟨⟨h.ok.l1,h.ok.l64,h.ok.g,h.ok.nl,h.ok.ml,h.ok.mm,m0,Int.le_trans (Int.le_of_lt mw) w1⟩,Int.le_trans (Int.le_of_lt mw) h.wle,h.bq,h.base,hpc,h.oq,h.mn_,h.group,h.lq,h.rf,h.starts,h.lens,h.cells,h.tq⟩,rfl,rfl,λ_ _=>rfl,.inr ⟨z,rfl,rfl⟩⟩
end
theorem XH:∀ (xs:Jb) (a:Int),xs.foldl min a<=a/\(∀ v∈xs,xs.foldl min a<=v)/\(xs.foldl min a=a∨xs.foldl min a∈xs)
 | [],a=>⟨Int.le_refl _,(λv h=>by cases h),.inl rfl⟩
 | x::xs,a=>by
  obtain ⟨h1,h2,h3⟩:=XH xs (min a x);show xs.foldl min (min a x)<=a/\(∀ v∈x::xs,xs.foldl min (min a x)<=v)/\(xs.foldl min (min a x)=a∨xs.foldl min (min a x)∈x::xs);refine ⟨by omega,λv hv=>?_,?_⟩
  ·rcases List.mem_cons.mp hv with rfl | hv
   ·omega
   ·exact h2 v hv
  ·rcases h3 with h3 | h3
   ·by_cases z:a<=x
    ·left;omega
    ·right;rw [h3,show min a x=x by omega];exact q1z
   ·exact .inr (q1y _ h3)
def YY {W:Nat} {fs:Jl} (h:∀ j∈zy fs,0<=j):((trW W fs:Nat):Int)<=(W:Nat)/\(∀ v∈zy fs,((trW W fs:Nat):Int)<=v)/\(trW W fs=W∨((trW W fs:Nat):Int)∈zy fs):=by
 obtain ⟨h1,h2,h3⟩:=XH (zy fs) (W:Int)
 have nn:0<=(zy fs).foldl min (W:Int):=by
  rcases h3 with h3 | h3
  ·omega
  ·exact h _ h3
 have e:((trW W fs:Nat):Int)=(zy fs).foldl min (W:Int):=Int.toNat_of_nonneg nn;rw [e];refine ⟨h1,h2,?_⟩;rcases h3 with h3 | h3
 ·left;omega
 ·exact .inr h3
def XF {nu:Bool->Int->Int} {x:Bool} {b e v:Int} {js:Jb} {g:Int->Option Int} (hj:e-b∈js) (hg:g e=some v):Xc nu x b js g x e=v:=by
 unfold Xc;rw [if_pos ⟨rfl,hj⟩,hg];rfl
def XD {nu:Bool->Int->Int} {x s:Bool} {b e:Int} {js:Jb} {g:Int->Option Int} (h:s≠x):Xc nu x b js g s e=nu s e:=if_neg λw=>h w.1
structure Lx6 (Lx:Lex):Prop where
 ga:Lx.S "gather" xC
 rc:Lx.E "reach" ZU
 tr:Lx.E "trim" XR
 op:Lx.S "op" opM
def in63 {x:Int}:Kin x↔My.In 63 x:=by
 unfold Kin My.In;have e:(2:Int) ^ 63=9223372036854775808:=by decide
 rw [e];omega
def XG (n:Int):Kin (kept n):=by unfold kept;omega
def zbe {sg:Str} {a b r:Int} (hs:sg∈yX) (ha:Kin a) (hb:Kin b) (h:zV sg a b=some r):Kin r:=by
 simp only [yX,List.mem_cons,List.not_mem_nil,or_false] at hs
 have bit:(sg="&"∨sg="|"∨sg="^")->Kin r:=λz=>by
  rcases z with rfl | rfl | rfl
  ·cases h;exact in63.mpr (My.and_in 63 a b (in63.mp ha) (in63.mp hb))
  ·cases h;exact in63.mpr (My.or_in 63 a b (in63.mp ha) (in63.mp hb))
  ·cases h;exact in63.mpr (My.xor_in 63 a b (in63.mp ha) (in63.mp hb))
 rcases hs with rfl | rfl | rfl | rfl | rfl | rfl | rfl | rfl | rfl | rfl | rfl | rfl
 ·cases h;exact XG _
 ·cases h;exact XG _
 ·cases h;exact XG _
 ·have h':(if b=0 then none else some (kept (a.fdiv b)))=some r:=h
  split at h'
  ·cases h'
  ·cases h';exact XG _
 ·have h':(if b=0 then none else some (a.fmod b))=some r:=h
  split at h'
  ·cases h'
  ·rename_i z
   cases h';rcases (by omega:0<b∨b<0) with p | p
   ·have h1:=Int.fmod_nonneg_of_pos a p
    have h2:=Int.fmod_lt_of_pos a p;omega
   ·have h1:a.fmod b<=0:=by
     have e:=Int.neg_fmod_neg a b;have h3:=Int.fmod_nonneg_of_pos (-a) (show 0 < -b by omega);omega
    have h2:b<a.fmod b:=by
     have e:=Int.neg_fmod_neg a b;have h3:=Int.fmod_lt_of_pos (-a) (show 0 < -b by omega);omega
    omega
 ·have h':some (if b<a then b else a)=some r:=h
  cases h';split <;> omega
 ·have h':some (if b > a then b else a)=some r:=h
  cases h';split <;> omega
 ·have h':some (if a<b then (1:Int) else 0)=some r:=h
  cases h';split <;> omega
 ·have h':some (if a=b then (1:Int) else 0)=some r:=h
  cases h';split <;> omega
 ·exact bit (.inl rfl)
 ·exact bit (.inr (.inl rfl))
 ·exact bit (.inr (.inr rfl))
theorem step6 {Lx:Lex} {S LN:Jb} {L pl:Nat} {mn_ group b:Int} {p q W0:Nat} {ds:Jb} {k r:Nat} {t:T6} {M:Mc} {sr:Int->Int} {x6:Sp6} (lx:Lx6 Lx) (h:I6 S LN L pl mn_ group b p q W0 ds k t M) (pq:p≠q) (p8:((p:Int)+1)*group<=8) (q8:((q:Int)+1)*group<=8) (w256:W0<=256) (wS:(W0:Int)<=group*L) (k90:k<90)
  (hr:r<S.length) (hr2:r<LN.length) (ir:0<=S.getD r 0/\S.getD r 0+LN.getD r 0<=ds.length) (esr:∀ a,gIn (LN.getD r 0) a=true->sr a=ds.getD (S.getD r 0+a).toNat 0) (skin:∀ a,Kin (sr a)) (ht:t.T.length+300<90000) (sgs:∀ x sg y z,x6=.op x sg y z->sg∈yX) :
  ∃ M',Step Lx (x6.tv p q r) M M'/\I6 S LN L pl mn_ group b p q W0 ds (k+1) (go6 (S.getD r 0) (LN.getD r 0) sr b ((pl+k:Nat):Int) x6 t) M':=by
 have s8:∀ s:Bool,(((cond s q p:Nat):Int)+1)*group<=8:=λs=>by cases s <;> assumption
 have fl:M.fq.length<90000:=by rw [h.f];have:=h.fl;omega
 have ea:=h.act
 have lane:∀ j∈t.act,0<=j/\j<group*(L:Int):=λj hj=>by
  obtain ⟨a0,a1,_⟩:=act6_mem.mp hj;have:=h.le;exact ⟨a0,by omega⟩
 cases x6 with
 | ga x y =>
  obtain ⟨M',st,i,⟨kp,ef⟩,n1,n2⟩:=h.i.gather (p:=cond x q p) (q:=cond y q p) (r:=r) (m:=0) (F:=t.nu y) lx.ga (s8 x) (s8 y) (by decide) hr hr2 ir (by show t.T.length<_;omega) fl (λj hj=>h.n y j (by rw [← ea];exact hj));rw [ea] at i ef n1;refine ⟨M',st,?_⟩;refine h.next w256 i kp (by rw [← za4];exact ef) (λs j hj hb=>?_) (λs j hj hb=>?_)
  ·have gi:gIn (LN.getD r 0) (t.nu y (b+j))=true:=by simpa using hb
   have bj:b+j-b∈t.act:=by rw [show b+j-b=j by omega];exact hj
   by_cases e:s=x
   ·subst e
    exact (n1 j hj gi).trans ((esr _ gi).symm.trans (XF bj (if_pos gi)).symm)
   ·exact ((n2 (cond s q p) j (seat_ne pq e) (lane j hj).1 (lane j hj).2).trans (h.n s j hj)).trans (XD e).symm
  ·have gi:gIn (LN.getD r 0) (t.nu y (b+j))=true:=by simpa using hb
   have bj:b+j-b∈t.act:=by rw [show b+j-b=j by omega];exact hj
   by_cases e:s=x
   ·subst e
    rw [XF bj (if_pos gi)];exact skin _
   ·rw [XD e];exact h.kn s j hj
 | rc x n =>
  obtain ⟨M',st,i,⟨kp,ef⟩,n2⟩:=h.i.reachF (p:=cond x q p) (m:=0) (n:=n) (F:=t.nu x) lx.rc (s8 x) (by decide) (by omega) (λj hj=>h.n x j (by rw [← ea];exact hj));rw [ea] at ef;refine ⟨M',st,h.next w256 i kp (by rw [← za4];exact ef) (λs j hj hb=>?_) (λs j hj hb=>h.kn s j hj)⟩;rw [n2];exact h.n s j hj
 | tr =>
  obtain ⟨M',st,i,ef,em,n2,hc⟩:=h.i.trimF lx.tr (by rw [h.f];exact h.ik) (by omega) (by rw [h.f];exact λj hj=>(h.k0 j hj).1);obtain ⟨t1,t2,t3⟩:=YY (W:=t.W) (fs:=t.fs) λj hj=>(h.k0 j hj).1
  have fa:∀ j,j∈M.faulted↔j∈zy t.fs/\j<(t.W:Nat):=λj=>by
   unfold Mc.faulted;rw [List.mem_filter,h.f,h.w,decide_eq_true_iff]
  have wid':M'.wq=((trW t.W t.fs:Nat):Int)/\((M'.cut=none/\trW t.W t.fs=W0)∨∃ c:Nat,M'.cut=some (c:Int)/\trW t.W t.fs=c/\(zN t.fs (.inl (c:Int))).isSome=true):=by
   rcases hc with ⟨z,w1,c1⟩ | ⟨z,w1,c1⟩
   ·have e:trW t.W t.fs=t.W:=by
     rcases t3 with t3 | t3
     ·exact t3
     ·by_cases y:trW t.W t.fs=t.W
      ·exact y
      ·exfalso
       have:=(fa _).mpr ⟨t3,by omega⟩;rw [z] at this;cases this
    rw [e,w1,h.w,c1];exact ⟨rfl,h.c⟩
   ·have mm:=YL _ z
    obtain ⟨m1,m2⟩:=(fa _).mp mm
    have e:((trW t.W t.fs:Nat):Int)=Ye M.faulted:=by
     have a:=t2 _ m1;rcases t3 with t3 | t3
     ·omega
     ·have:=zcd _ _ ((fa _).mpr ⟨t3,by omega⟩)
      omega
    rw [w1,← e,c1,← e];refine ⟨rfl,.inr ⟨_,rfl,rfl,?_⟩⟩;rw [e];exact (zY _ _).mp m1
  have sub:∀ j∈Zg (trW t.W t.fs) t.fs,j∈t.act:=λj hj=>by
   obtain ⟨a0,a1,a2⟩:=act6_mem.mp hj;exact act6_mem.mpr ⟨a0,by omega,a2⟩
  exact ⟨M',st,i,wid'.1,ef.trans h.f,by rw [em];exact h.m,(by have:=h.le;show trW t.W t.fs<=W0;omega),λs j hj=>by rw [n2];exact h.n s j (sub j hj),λs j hj=>h.kn s j (sub j hj),h.ik,h.k0,(by have:=h.fl;show t.fs.length<=(k+1)*300;omega),wid'.2⟩
 | op x sg y z =>
  have hs:=sgs x sg y z rfl;obtain ⟨M',st,i,⟨kp,ef⟩,n1,n2⟩:=h.i.op (p:=cond x q p) (q:=cond y q p) (r:=cond z q p) (m:=0) (sg:=sg) (F:=t.nu y) (G:=t.nu z) lx.op (s8 x) (s8 y) (s8 z) (by decide) hs fl (λj hj=>⟨h.n y j (by rw [← ea];exact hj),h.n z j (by rw [← ea];exact hj)⟩) (λj hj=>⟨h.kn y j (by rw [← ea];exact hj),h.kn z j (by rw [← ea];exact hj)⟩);rw [ea] at ef n1;refine ⟨M',st,h.next w256 i kp ef (λs j hj hb=>?_) (λs j hj hb=>?_)⟩
  ·obtain ⟨v,ev⟩:∃ v,zV sg (t.nu y (b+j)) (t.nu z (b+j))=some v:=by
    cases e:zV sg (t.nu y (b+j)) (t.nu z (b+j)) with
    | none=>rw [e] at hb;cases hb
    | some v=>exact ⟨v,rfl⟩
   have bj:b+j-b∈t.act:=by rw [show b+j-b=j by omega];exact hj
   by_cases e:s=x
   ·subst e
    exact (n1 j hj v ev).trans (XF bj ev).symm
   ·exact ((n2 (cond s q p) j (seat_ne pq e) (lane j hj).1 (lane j hj).2).trans (h.n s j hj)).trans (XD e).symm
  ·obtain ⟨v,ev⟩:∃ v,zV sg (t.nu y (b+j)) (t.nu z (b+j))=some v:=by
    cases e:zV sg (t.nu y (b+j)) (t.nu z (b+j)) with
    | none=>rw [e] at hb;cases hb
    | some v=>exact ⟨v,rfl⟩
   have bj:b+j-b∈t.act:=by rw [show b+j-b=j by omega];exact hj
   by_cases e:s=x
   ·subst e
    rw [XF bj ev];exact zbe hs (h.kn y j hj) (h.kn z j hj) ev
   ·rw [XD e];exact h.kn s j hj
def yD (st SN:Int) (sr:Int->Int) (b:Int):Int->List Sp6->T6->T6
 | _,[],t=>t
 | a,x::xs,t=>yD st SN sr b (a+1) xs (go6 st SN sr b a x t)
theorem go6_T (st SN:Int) (sr:Int->Int) (b a:Int) (x:Sp6) (t:T6):(go6 st SN sr b a x t).T.length<=t.T.length+t.W:=by
 cases x with
 | ga x y =>
  show (t.T++_).length<=_;rw [Jj,Ji];have h1:=List.length_filter_le (λe=>gIn SN (t.nu y e)) (t.act.map (b+·));rw [Ji] at h1;have h2:t.act.length<=t.W:=zcq _ _;omega
 | rc x n=>exact Nat.le_add_right _ _
 | tr=>exact Nat.le_add_right _ _
 | op x sg y z=>exact Nat.le_add_right _ _
theorem strip6 {Lx:Lex} {code:List (Jn)} {S LN:Jb} {L pl:Nat} {mn_ group b:Int} {p q W0:Nat} {ds:Jb} {r:Nat} {sr:Int->Int} (lx:Lx6 Lx) (pq:p≠q) (p8:((p:Int)+1)*group<=8) (q8:((q:Int)+1)*group<=8) (w256:W0<=256) (wS:(W0:Int)<=group*L)
  (hr:r<S.length) (hr2:r<LN.length) (ir:0<=S.getD r 0/\S.getD r 0+LN.getD r 0<=ds.length) (esr:∀ a,gIn (LN.getD r 0) a=true->sr a=ds.getD (S.getD r 0+a).toNat 0) (skin:∀ a,Kin (sr a)):∀ (xs:List Sp6) {k:Nat} {t:T6} {M:Mc},I6 S LN L pl mn_ group b p q W0 ds k t M->k+xs.length<90->t.T.length+300+xs.length*300<90000->(∀ x6∈xs,∀ x sg y z,x6=.op x sg y z->sg∈yX) ->
  (∀ i tv,(xs.map (Sp6.tv p q r))[i]?=some tv->code[pl+k+i]?=some tv) ->
  ∃ n M',Steps Lx code n M M'/\I6 S LN L pl mn_ group b p q W0 ds (k+xs.length) (yD (S.getD r 0) (LN.getD r 0) sr b ((pl+k:Nat):Int) xs t) M'
 | [],k,t,M,h,_,_,_,_=>⟨0,M,.refl,h⟩
 | x::xs,k,t,M,h,k90,ht,sgs,cd=>by
  rw [q3x] at k90 ht;obtain ⟨M1,s1,i1⟩:=step6 (x6:=x) lx h pq p8 q8 w256 wS (by omega) hr hr2 ir esr skin (by omega) (sgs x q1z);have tl:=go6_T (S.getD r 0) (LN.getD r 0) sr b ((pl+k:Nat):Int) x t;have le:=h.le
  obtain ⟨n,M2,s2,i2⟩:=strip6 lx pq p8 q8 w256 wS hr hr2 ir esr skin xs (code:=code) i1 (by omega) (by omega) (λy hy=>sgs y (q1y _ hy)) (λi tv hi=>by
   have:=cd (i+1) tv hi;rw [← this];congr 1;omega)
  have c0:=cd 0 _ rfl;rw [Nat.add_zero] at c0;refine ⟨1+n,M2,(h.i.one c0 s1).trans s2,?_⟩;have ek:k+(x::xs).length=k+1+xs.length:=by rw [q3x];omega
  rw [ek];have e3:((pl+(k+1):Nat):Int)=((pl+k:Nat):Int)+1:=by omega
  rw [e3] at i2;exact i2
theorem I6.cut {S LN:Jb} {L pl:Nat} {mn_ group b:Int} {p q W0:Nat} {ds:Jb} {k:Nat} {t:T6} {M:Mc} (h:I6 S LN L pl mn_ group b p q W0 ds k t M) (ht:∀ j∈zy t.fs,((t.W:Nat):Int)<=j):t.act=zM t.W/\((t.fs=[]/\M.cut=none)∨(t.fs≠[]/\M.cut=some (t.W:Int)/\((t.W:Nat):Int)∈zy t.fs)):=by
 refine ⟨?_,?_⟩
 ·refine List.filter_eq_self.mpr λj hj=>?_
  have hj2:j<(t.W:Nat):=by
   unfold zM at hj;obtain ⟨i,hi,rfl⟩:=List.mem_map.mp hj;have:=List.mem_range.mp hi;show (i:Int)<_;omega
  cases e:(zN t.fs (.inl j)).isSome with
  | false=>rfl
  | true =>
   have:=ht j ((zY _ _).mpr e);omega
 ·by_cases z:t.fs=[]
  ·refine .inl ⟨z,?_⟩
   rcases h.c with ⟨c1,_⟩ | ⟨c,_,_,c3⟩
   ·exact c1
   ·rw [z] at c3;cases c3
  ·refine .inr ⟨z,?_⟩
   rcases h.c with ⟨c1,c2⟩ | ⟨c,c1,c2,c3⟩
   ·exfalso
    obtain ⟨pr,fs',e⟩:∃ pr fs',t.fs=pr::fs':=by
     cases e:t.fs with
     | nil=>exact absurd e z
     | cons a l=>exact ⟨a,l,rfl⟩
    obtain ⟨j,ej⟩:=h.ik pr (by rw [e];exact q1z)
    have hj:j∈zy t.fs:=by
     rw [zY,e,ye ej];rfl
    have a1:=(h.k0 j hj).2;have a2:=ht j hj;omega
   ·rw [c2]
    exact ⟨c1,(zY _ _).mpr c3⟩
theorem Y4 (st SN:Int) (sr:Int->Int) (b:Int) (x:Sp6):∀ (xs:List Sp6) (a:Int) (t:T6),yD st SN sr b a (xs++[x]) t=go6 st SN sr b (a+xs.length) x (yD st SN sr b a xs t)
 | [],a,t=>by
  show go6 st SN sr b a x t=go6 st SN sr b (a+((0:Nat):Int)) x t;rw [show a+((0:Nat):Int)=a by omega]
 | y::xs,a,t=>by
  show yD st SN sr b (a+1) (xs++[x]) _=_;rw [Y4 st SN sr b x xs,q3x];show go6 st SN sr b (a+1+xs.length) x _=go6 st SN sr b (a+((xs.length+1:Nat):Int)) x _;rw [show a+1+(xs.length:Int)=a+((xs.length+1:Nat):Int) by omega];rfl
theorem run6_T (st SN:Int) (sr:Int->Int) (b:Int):∀ (xs:List Sp6) (a:Int) (t u:T6),t.W=u.W->t.fs=u.fs->t.nu=u.nu->(yD st SN sr b a xs t).W=(yD st SN sr b a xs u).W/\(yD st SN sr b a xs t).fs=(yD st SN sr b a xs u).fs/\(yD st SN sr b a xs t).nu=(yD st SN sr b a xs u).nu
 | [],a,t,u,e1,e2,e3=>⟨e1,e2,e3⟩
 | x::xs,a,t,u,e1,e2,e3=>by
  have ea:t.act=u.act:=by unfold T6.act;rw [e1,e2]
  refine run6_T st SN sr b xs (a+1) _ _ ?_ ?_ ?_
  ·cases x with
   | tr=>show trW t.W t.fs=trW u.W u.fs;rw [e1,e2]
   | ga x y=>exact e1
   | rc x n=>exact e1
   | op x sg y z=>exact e1
  ·cases x with
   | tr=>exact e2
   | ga x y=>show xu t.fs _=xu u.fs _;rw [e2,ea,e3]
   | rc x n=>show xu t.fs _=xu u.fs _;rw [e2,ea,e3]
   | op x sg y z=>show yp _ t.fs _=yp _ u.fs _;rw [e2,ea,e3]
  ·cases x with
   | tr=>exact e3
   | ga x y=>show Xc t.nu _ _ t.act _=Xc u.nu _ _ u.act _;rw [ea,e3]
   | rc x n=>exact e3
   | op x sg y z=>show Xc t.nu _ _ t.act _=Xc u.nu _ _ u.act _;rw [ea,e3]
structure R6 where
 s0:Int
 s1:Int
 s2:Int
 s3:Int
 n2:Int
 sr:Int->Int
 nu:Bool->Int->Int
 xs:List Sp6
 n:Int
def R6.rd (R:R6) (es:Jb):List Tch:=(es.map λe=>((1:Int),("read":Str),R.s0+e))++es.map λe=>((2:Int),("read":Str),R.s1+e)
def R6.fin (R:R6) (mn_ side b:Int) (T:List Tch):T6:=yD R.s2 R.n2 R.sr b 3 R.xs ⟨wid mn_ side b,[],R.nu,T++R.rd (xO mn_ side b)⟩
def R6.one (R:R6) (mn_ side b:Int) (s:DT):DT:=(yY s.1 (((zM (R.fin mn_ side b s.2).W).map (b+·)).map λe=>(R.s3+e,(R.fin mn_ side b s.2).nu false e)),(R.fin mn_ side b s.2).T++((zM (R.fin mn_ side b s.2).W).map (b+·)).map λe=>(((3+R.xs.length:Nat):Int),("write":Str),R.s3+e))
def strV:Jo->Str
 | some (.str z)=>z
 | _=>""
def R6.bad (R:R6) (mn_ side b:Int):Option (Int×Int×Str):=if (R.fin mn_ side b []).fs=[] then none else some (R.n,b+((R.fin mn_ side b []).W:Nat),strV (zN (R.fin mn_ side b []).fs (.inl ((R.fin mn_ side b []).W:Int))))
def R6.fin_T (R:R6) (mn_ side b:Int) (T:List Tch):(R.fin mn_ side b T).W=(R.fin mn_ side b []).W/\(R.fin mn_ side b T).fs=(R.fin mn_ side b []).fs/\(R.fin mn_ side b T).nu=(R.fin mn_ side b []).nu:=run6_T _ _ _ _ _ _ _ _ rfl rfl rfl
def StripAt.wq {S LN:Jb} {L pl:Nat} {mn_ group b:Int} {s:DT} {M:Mc} (sa:StripAt S LN L pl mn_ group b s M):M.wq=(wid mn_ (group*L) b:Nat)/\∀ j:Nat,j<wid mn_ (group*L) b->(M.mq.getD 0 []).getD j false=true:=by
 have ea:=sa.act;have w0:=sa.i.ok.w0;have wl:=sa.i.wle;unfold Mc.act Mc.actTo zM at ea;have l1:=congrArg List.length ea;rw [Ji,Ji,List.length_range] at l1;have l2:=List.length_filter_le (M.isAct 0) (List.range M.wq.toNat);rw [List.length_range] at l2;refine ⟨by omega,λj hj=>?_⟩;have hm:Int.ofNat j∈(List.range (wid mn_ (group*L) b)).map Int.ofNat:=List.mem_map.mpr ⟨j,List.mem_range.mpr hj,rfl⟩;rw [← ea] at hm;obtain ⟨i,hi,e⟩:=List.mem_map.mp hm;have e:(i:Int)=(j:Int):=e;have:i=j:=by omega
 subst this;have:=(List.mem_filter.mp hi).2;unfold Mc.isAct at this;rw [Bool.and_eq_true] at this;exact this.1
theorem go6_W (st SN:Int) (sr:Int->Int) (b a:Int) (x:Sp6) (t:T6):(go6 st SN sr b a x t).W<=t.W:=by
 cases x with
 | tr =>
  show ((zy t.fs).foldl min (t.W:Int)).toNat<=t.W;have:=(XH (zy t.fs) (t.W:Int)).1;omega
 | ga x y=>exact Nat.le_refl _
 | rc x n=>exact Nat.le_refl _
 | op x sg y z=>exact Nat.le_refl _
theorem YC (st SN:Int) (sr:Int->Int) (b:Int) (W:Nat):∀ (xs:List Sp6) (a:Int) (t:T6),t.W<=W->(yD st SN sr b a xs t).T.length<=t.T.length+xs.length*W
 | [],a,t,_=>Nat.le_add_right _ _
 | x::xs,a,t,h=>by
  have h1:=go6_T st SN sr b a x t;have h2:=go6_W st SN sr b a x t;have h3:=YC st SN sr b W xs (a+1) (go6 st SN sr b a x t) (by omega);show (yD st SN sr b (a+1) xs (go6 st SN sr b a x t)).T.length<=_;rw [q3x,Nat.add_mul,Nat.one_mul];omega
def Strs (fs:Jl):Prop:=∀ j v,zN fs (.inl j)=some v->∃ z,v=.str z
theorem Yb (z:Str):∀ (js:Jb) {fs:Jl},Strs fs->Strs (yp z fs js)
 | [],fs,h=>h
 | i::js,fs,h=>Yb z js λj v e=>by
  rw [Zw] at e
  split at e
  ·cases e;exact ⟨z,rfl⟩
  ·exact h j v e
theorem XZ (st SN:Int) (sr:Int->Int) (b:Int):∀ (xs:List Sp6) (a:Int) (t:T6),Strs t.fs->Strs (yD st SN sr b a xs t).fs
 | [],a,t,h=>h
 | x::xs,a,t,h=>XZ st SN sr b xs (a+1) _ (by
  cases x with
  | ga x y=>exact Yb _ _ h
  | rc x n=>exact Yb _ _ h
  | tr=>exact h
  | op x sg y z=>exact Yb _ _ h)
theorem strip_all {Lx:Lex} (lx:Lx6 Lx) (lL:Lx.S "load" ZR) (lS:Lx.E "store" Za) (lP:Lx.E "stop" Zz) {code:List (Jn)} {S LN:Jb} {L:Nat} {mn_ group b:Int} {p q r0 r1 r2 r3:Nat} {R:R6} {ys:List Sp6} {s:DT} {M:Mc} (sa:StripAt S LN L 0 mn_ group b s M) (sd:group*(L:Int)<=256) (pq:p≠q) (p8:((p:Int)+1)*group<=8) (q8:((q:Int)+1)*group<=8) (b0:0<=b)
  (hr:r0<S.length/\r1<S.length/\r2<S.length/\r3<S.length) (hl:r2<LN.length) (e0:S.getD r0 0=R.s0) (e1:S.getD r1 0=R.s1) (e2:S.getD r2 0=R.s2) (e3:S.getD r3 0=R.s3) (en:LN.getD r2 0=R.n2)
  (f0:0<=R.s0/\R.s0+mn_<=s.1.length) (f1:0<=R.s1/\R.s1+mn_<=s.1.length) (f2:0<=R.s2/\R.s2+R.n2<=s.1.length) (f3:0<=R.s3/\R.s3+mn_<=s.1.length)
  (hn:∀ e,0<=e->e<mn_->s.1.getD (R.s0+e).toNat 0=R.nu false e/\s.1.getD (R.s1+e).toNat 0=R.nu true e) (kn:∀ x e,Kin (R.nu x e)) (esr:∀ a,gIn R.n2 a=true->R.sr a=s.1.getD (R.s2+a).toNat 0) (skin:∀ a,Kin (R.sr a)) (hx:R.xs=ys++[.tr]) (x20:R.xs.length<=20) (sgs:∀ x6∈R.xs,∀ x sg y z,x6=.op x sg y z->sg∈yX) (ht:s.2.length+10000<90000)
  (c1:code[1]?=some [.str "load",.int p,.int r0,.int (0:Nat)]) (c2:code[2]?=some [.str "load",.int q,.int r1,.int (0:Nat)]) (cx:∀ i tv,(R.xs.map (Sp6.tv p q r2))[i]?=some tv->code[0+3+i]?=some tv) (c3:code[3+R.xs.length]?=some [.str "store",.int r3,.int p,.int (0:Nat)]) (c4:code[4+R.xs.length]?=some [.str "stop",.int R.n]) :
  ∃ k M',Steps Lx code k M M'/\(R.bad mn_ (group*L) b=none->InS S LN L 0 mn_ group b (R.xs.length+5) (R.one mn_ (group*L) b s) M')/\(∀ r,R.bad mn_ (group*L) b=some r->M'.rq_=some r/\M'.cells=(R.one mn_ (group*L) b s).1/\M'.tq=(R.one mn_ (group*L) b s).2):=by
 obtain ⟨w1,mk⟩:=sa.wq
 have wS:((wid mn_ (group*L) b:Nat):Int)<=group*L:=by
  have:=sa.i.ok.w1;rw [w1,sa.i.group,sa.i.lq] at this;exact this
 have w256:wid mn_ (group*L) b<=256:=by omega
 have al:(M.act 0).length=wid mn_ (group*L) b:=by rw [sa.act];unfold zM;rw [Ji,List.length_range]
 have wm:∀ j∈zM (wid mn_ (group*L) b),0<=j/\j<(wid mn_ (group*L) b:Nat):=λj hj=>by
  unfold zM at hj;obtain ⟨i,hi,rfl⟩:=List.mem_map.mp hj;have:=List.mem_range.mp hi;exact ⟨Int.natCast_nonneg _,(by show (i:Int)<_;omega)⟩
 have wmany:∀ j∈zM (wid mn_ (group*L) b),0<=b+j/\b+j<mn_:=λj hj=>by
  have:=wm j hj;have:((wid mn_ (group*L) b:Nat):Int)<=mn_-b∨wid mn_ (group*L) b=0:=by unfold wid;omega
  omega
 obtain ⟨M1,st1,i1,⟨k1,t1⟩,n1,o1⟩:=sa.i.loadO (Lx:=Lx) (p:=p) (m:=0) (r:=r0) lL p8 (by decide) hr.1 b0 (by rw [e0];exact f0) (by rw [al];omega);have a1:M1.act 0=zM (wid mn_ (group*L) b):=(act_same k1 t1 0).trans sa.act;obtain ⟨M2,st2,i2,⟨k2,t2⟩,n2,o2⟩:=i1.loadO (Lx:=Lx) (p:=q) (m:=0) (r:=r1) lL q8 (by decide) hr.2.1 b0 (by rw [e1];exact f1) (by rw [a1];unfold zM;rw [Ji,List.length_range,Jj,Ji,Ji,al];omega)
 have eT:s.2++((M.act 0).map (b+·)).map (λe=>(((0+1:Nat):Int),("read":Str),S.getD r0 0+e))++((M1.act 0).map (b+·)).map (λe=>(((0+(1+1):Nat):Int),("read":Str),S.getD r1 0+e))=s.2++R.rd (xO mn_ (group*L) b):=by
  rw [sa.act,a1,e0,e1,List.append_assoc];rfl
 have i2':InS S LN L 0 mn_ group b 3 (s.1,s.2++R.rd (xO mn_ (group*L) b)) M2:=by rw [← eT];exact i2
 have hact:∀ j∈Zg (wid mn_ (group*L) b) [],j∈zM (wid mn_ (group*L) b):=λj hj=>(List.mem_filter.mp hj).1
 have i6:I6 S LN L 0 mn_ group b p q (wid mn_ (group*L) b) s.1 3 ⟨wid mn_ (group*L) b,[],R.nu,s.2++R.rd (xO mn_ (group*L) b)⟩ M2:=by
  refine ⟨i2',(k2.w.trans k1.w).trans w1,t2.trans (t1.trans sa.flt),by rw [k2.mq,k1.mq];exact mk,Nat.le_refl _,λx j hj=>?_,λx j _=>kn x _,(λpr h=>by cases h),(λj h=>by cases h),Nat.zero_le _,.inl ⟨k2.cut.trans (k1.cut.trans sa.cut),rfl⟩⟩;have hj:=hact j hj;have wj:=wm j hj;have hm:=hn (b+j) (wmany j hj).1 (wmany j hj).2
  cases x with
  | false =>
   refine (o2 p j pq wj.1 (by omega)).trans ((n1 j (by rw [sa.act];exact hj)).trans ?_);rw [e0];exact hm.1
  | true =>
   refine (n2 j (by rw [a1];exact hj)).trans ?_;rw [e1];exact hm.2
 have rdl:(R.rd (xO mn_ (group*L) b)).length<=512:=by
  unfold R6.rd;rw [Jj,Ji,Ji,zbc];omega
 obtain ⟨n,M3,st3,i3⟩:=strip6 (code:=code) lx pq p8 q8 w256 wS hr.2.2.1 hl (by rw [e2,en];exact f2) (by rw [e2,en];exact esr) skin R.xs i6 (by omega) (by show (s.2++_).length+300+_<_;rw [Jj];omega) sgs cx;have str:=XZ (S.getD r2 0) (LN.getD r2 0) R.sr b R.xs (((0+3:Nat)):Int) ⟨wid mn_ (group*L) b,[],R.nu,s.2++R.rd (xO mn_ (group*L) b)⟩ (λj v e=>by cases e);rw [e2,en] at i3 str
 have hW:∀ j∈zy (R.fin mn_ (group*L) b s.2).fs,(((R.fin mn_ (group*L) b s.2).W:Nat):Int)<=j:=by
  have k0:∀ j∈zy (R.fin mn_ (group*L) b s.2).fs,0<=j:=λj hj=>(i3.k0 j hj).1
  have ef:R.fin mn_ (group*L) b s.2=go6 R.s2 R.n2 R.sr b (3+ys.length) .tr (yD R.s2 R.n2 R.sr b 3 ys ⟨wid mn_ (group*L) b,[],R.nu,s.2++R.rd (xO mn_ (group*L) b)⟩):=by
   unfold R6.fin;rw [hx,Y4]
  rw [ef] at k0 ⊢;exact (YY k0).2.1
 replace i3:I6 S LN L 0 mn_ group b p q (wid mn_ (group*L) b) s.1 (3+R.xs.length) (R.fin mn_ (group*L) b s.2) M3:=i3;replace str:Strs (R.fin mn_ (group*L) b s.2).fs:=str;obtain ⟨g1,g2,_⟩:=R.fin_T mn_ (group*L) b s.2;obtain ⟨ca,cc⟩:=i3.cut hW;have a3:=i3.act.trans ca;have hone:R.one mn_ (group*L) b s=(yY s.1 (((zM (R.fin mn_ (group*L) b s.2).W).map (b+·)).map λe=>(R.s3+e,(R.fin mn_ (group*L) b s.2).nu false e)),(R.fin mn_ (group*L) b s.2).T++((zM (R.fin mn_ (group*L) b s.2).W).map (b+·)).map λe=>(((3+R.xs.length:Nat):Int),("write":Str),R.s3+e)):=rfl;have hbad:R.bad mn_ (group*L) b=if (R.fin mn_ (group*L) b s.2).fs=[] then none else some (R.n,b+((R.fin mn_ (group*L) b s.2).W:Nat),strV (zN (R.fin mn_ (group*L) b s.2).fs (.inl ((R.fin mn_ (group*L) b s.2).W:Int)))):=by rw [g1,g2];rfl
 have Tl:(R.fin mn_ (group*L) b s.2).T.length+300<99000:=by
  have h1:=YC R.s2 R.n2 R.sr b (wid mn_ (group*L) b) R.xs 3 ⟨wid mn_ (group*L) b,[],R.nu,s.2++R.rd (xO mn_ (group*L) b)⟩ (Nat.le_refl _);have h2:R.xs.length*wid mn_ (group*L) b<=20*256:=Nat.mul_le_mul x20 w256;have h3:(R.fin mn_ (group*L) b s.2).T.length<=(s.2++R.rd (xO mn_ (group*L) b)).length+R.xs.length*wid mn_ (group*L) b:=h1;rw [Jj] at h3;omega
 have st12:Steps Lx code 2 M M2:=(sa.i.one c1 st1).trans (i1.one c2 st2);rw [hone,hbad];clear hone hbad g1 g2 i6 i2' eT;generalize R.fin mn_ (group*L) b s.2=F at *;have Wle:=i3.le;have F256:(M3.act 0).length<=256:=by rw [a3];unfold zM;rw [Ji,List.length_range];omega
 obtain ⟨M4,st4,i4,⟨k4,t4⟩,_⟩:=i3.i.storeO (Lx:=Lx) (q:=r3) (p:=p) (m:=0) (F:=F.nu false) lS p8 (by decide) hr.2.2.2 b0 (by rw [e3];exact f3) (by show F.T.length+_<_;omega) (λj hj=>i3.n false j (by rw [← i3.act];exact hj));rw [a3,e3] at i4;have c3':code[0+(3+R.xs.length)]?=some [.str "store",.int r3,.int p,.int (0:Nat)]:=by rw [Nat.zero_add];exact c3
 have c4':code[0+(3+R.xs.length+1)]?=some [.str "stop",.int R.n]:=by rw [Nat.zero_add,show 3+R.xs.length+1=4+R.xs.length by omega];exact c4
 have stA:=(st12.trans st3).trans (i3.i.one c3' st4);rcases cc with ⟨z,hc⟩ | ⟨z,hc,hk⟩
 ·obtain ⟨M5,st5,i5,_⟩:=i4.stopNo (n:=R.n) lP (k4.cut.trans hc)
  refine ⟨_,M5,stA.trans (i4.one c4' st5),λ_=>?_,λr h=>?_⟩
  ·rw [show R.xs.length+5=3+R.xs.length+1+1 by omega]
   rw [Nat.zero_add] at i5;exact i5
  ·rw [if_pos z] at h;cases h
 ·have hs:=(zY _ _).mp hk
  obtain ⟨v,hv⟩:=Option.isSome_iff_exists.mp hs;obtain ⟨zz,rfl⟩:=str _ _ hv;obtain ⟨M5,st5,r5,ce5,to5⟩:=i4.stopAt (n:=R.n) (c:=(F.W:Int)) (z:=zz) lP (k4.cut.trans hc) (by rw [t4,i3.f];exact hv);refine ⟨_,M5,stA.trans (i4.one c4' st5),λh=>?_,λr h=>?_⟩
  ·rw [if_neg z] at h;cases h
  ·rw [if_neg z,hv] at h
   cases h;rw [Nat.zero_add] at to5;exact ⟨r5,ce5,to5⟩
structure R6.At (R:R6) (mn_:Int) (ds:Jb):Prop where
 n:∀ e,0<=e->e<mn_->ds.getD (R.s0+e).toNat 0=R.nu false e/\ds.getD (R.s1+e).toNat 0=R.nu true e
 r:∀ a,gIn R.n2 a=true->R.sr a=ds.getD (R.s2+a).toNat 0
structure R6.Fit (R:R6) (mn_:Int) (nc:Nat):Prop where
 f0:0<=R.s0/\R.s0+mn_<=nc
 f1:0<=R.s1/\R.s1+mn_<=nc
 f2:0<=R.s2/\R.s2+R.n2<=nc
 f3:0<=R.s3/\R.s3+mn_<=nc
 a0:R.s0+mn_<=R.s3∨R.s3+mn_<=R.s0
 a1:R.s1+mn_<=R.s3∨R.s3+mn_<=R.s1
 a2:R.s2+R.n2<=R.s3∨R.s3+mn_<=R.s2
theorem R6.fin_W (R:R6) (mn_ side b:Int) (T:List Tch):(R.fin mn_ side b T).W<=wid mn_ side b:=by
 have h:∀ (xs:List Sp6) (a:Int) (t:T6),(yD R.s2 R.n2 R.sr b a xs t).W<=t.W:=by
  intro xs
  induction xs with
  | nil=>exact λa t=>Nat.le_refl _
  | cons x xs ih=>exact λa t=>Nat.le_trans (ih (a+1) _) (go6_W _ _ _ _ _ _ _)
 exact h R.xs 3 _
def R6.one_at {R:R6} {mn_ side b:Int} {s:DT} (f:R.Fit mn_ s.1.length) (b0:0<=b) (bm:b<=mn_) (h:R.At mn_ s.1):R.At mn_ (R.one mn_ side b s).1/\(R.one mn_ side b s).1.length=s.1.length:=by
 have W:=R.fin_W mn_ side b s.2;have wb:((wid mn_ side b:Nat):Int)<=mn_-b∨wid mn_ side b=0:=by unfold wid;omega
 have off:∀ i:Nat,((i:Int)<R.s3∨R.s3+mn_<=i)->(R.one mn_ side b s).1.getD i 0=s.1.getD i 0:=λi hi=>by
  refine XU _ _ λpr hp=>?_;obtain ⟨e,he,rfl⟩:=List.mem_map.mp hp;obtain ⟨j,hj,rfl⟩:=List.mem_map.mp he;unfold zM at hj;obtain ⟨k,hk,rfl⟩:=List.mem_map.mp hj;have hk:=List.mem_range.mp hk;have f3:=f.f3;show (R.s3+(b+(k:Int))).toNat≠i;omega
 refine ⟨⟨λe h0 h1=>?_,λa ha=>?_⟩,Yn _ _⟩
 ·have f0:=f.f0
  have f1:=f.f1;have a0:=f.a0;have a1:=f.a1;rw [off _ (by omega),off _ (by omega)];exact h.n e h0 h1
 ·have f2:=f.f2
  have a2:=f.a2;have hg:0<=a/\a<R.n2:=by unfold gIn at ha;rw [Bool.and_eq_true] at ha;exact ⟨of_decide_eq_true ha.1,of_decide_eq_true ha.2⟩
  rw [off _ (by omega)];exact h.r a ha
def R6.one_T (R:R6) (mn_ side b:Int) (s:DT) (x20:R.xs.length<=20):(R.one mn_ side b s).2.length<=s.2.length+23*wid mn_ side b:=by
 have h1:=YC R.s2 R.n2 R.sr b (wid mn_ side b) R.xs 3 ⟨wid mn_ side b,[],R.nu,s.2++R.rd (xO mn_ side b)⟩ (Nat.le_refl _);have h2:R.xs.length*wid mn_ side b<=20*wid mn_ side b:=Nat.mul_le_mul_right _ x20;have h3:(R.fin mn_ side b s.2).T.length<=(s.2++R.rd (xO mn_ side b)).length+R.xs.length*wid mn_ side b:=h1
 have h4:(R.rd (xO mn_ side b)).length=2*wid mn_ side b:=by
  unfold R6.rd;rw [Jj,Ji,Ji,zbc];omega
 have h5:=R.fin_W mn_ side b s.2;show ((R.fin mn_ side b s.2).T++_).length<=_;rw [Jj,Ji,Ji];unfold zM;rw [Ji,List.length_range];rw [Jj,h4] at h3;omega
def round6 {Lx:Lex} (hB:Lx.W "begin" ZY) (hX:Lx.W "next" Xn) (lx:Lx6 Lx) (lL:Lx.S "load" ZR) (lS:Lx.E "store" Za) (lP:Lx.E "stop" Zz) {code:List (Jn)} {S LN:Jb} {L N:Nat} {mn_ group:Int} {p q r0 r1 r2 r3:Nat} {R:R6} {ys:List Sp6} {s:DT} {M:Mc} (h:RestAt S LN L 0 s M) (hg:group=1∨group=2∨group=4) (h1:1<=mn_) (m100:mn_<=100) (pq:p≠q) (p8:((p:Int)+1)*group<=8) (q8:((q:Int)+1)*group<=8)
  (hr:r0<S.length/\r1<S.length/\r2<S.length/\r3<S.length) (hl:r2<LN.length) (e0:S.getD r0 0=R.s0) (e1:S.getD r1 0=R.s1) (e2:S.getD r2 0=R.s2) (e3:S.getD r3 0=R.s3) (en:LN.getD r2 0=R.n2) (f:R.Fit mn_ s.1.length) (at':R.At mn_ s.1) (kn:∀ x e,Kin (R.nu x e)) (skin:∀ a,Kin (R.sr a)) (hx:R.xs=ys++[.tr]) (x20:R.xs.length<=20) (sgs:∀ x6∈R.xs,∀ x sg y z,x6=.op x sg y z->sg∈yX) (ht:s.2.length<70000) (hN:∀ i:Nat,i<N↔(i:Int)*(group*L)<mn_)
  (c0:code[0]?=some [.str "begin",.int mn_,.int group]) (c1:code[1]?=some [.str "load",.int p,.int r0,.int (0:Nat)]) (c2:code[2]?=some [.str "load",.int q,.int r1,.int (0:Nat)]) (cx:∀ i tv,(R.xs.map (Sp6.tv p q r2))[i]?=some tv->code[0+3+i]?=some tv) (c3:code[3+R.xs.length]?=some [.str "store",.int r3,.int p,.int (0:Nat)]) (c4:code[4+R.xs.length]?=some [.str "stop",.int R.n]) (c5:code[5+R.xs.length]?=some [.str "next"]) :
  ∃ k M',Steps Lx code k M M'/\M'.rq_=(xK (λi:Nat=>R.bad mn_ (group*L) (i*(group*L))) N).2/\M'.cells=(upG (R.one mn_ (group*L)) (group*L) s (xK (λi:Nat=>R.bad mn_ (group*L) (i*(group*L))) N).1).1/\M'.tq=(upG (R.one mn_ (group*L)) (group*L) s (xK (λi:Nat=>R.bad mn_ (group*L) (i*(group*L))) N).1).2/\((xK (λi:Nat=>R.bad mn_ (group*L) (i*(group*L))) N).2=none->M'.pc=((6+R.xs.length:Nat):Int)):=by
 have l1:=h.ok.l1;have l64:=h.ok.l64;have hL:=h.lq;have sd:1<=group*(L:Int)/\group*(L:Int)<=256:=by rcases hg with e | e | e <;> rw [e] <;> omega
 have step:∀ (i:Nat) (t:DT) (M2:Mc),i<N->(R.At mn_ t.1/\t.1.length=s.1.length/\(t.2.length:Int)<=s.2.length+23*min mn_ (i*(group*L)))->StripAt S LN L 0 mn_ group (i*(group*L)) t M2->(∃ k M',Steps Lx code k M2 M'/\(R.bad mn_ (group*L) (i*(group*L))=none->InS S LN L 0 mn_ group (i*(group*L)) (R.xs.length+5) (R.one mn_ (group*L) (i*(group*L)) t) M')/\(∀ r,R.bad mn_ (group*L) (i*(group*L))=some r->M'.rq_=some r/\M'.cells=(R.one mn_ (group*L) (i*(group*L)) t).1/\M'.tq=(R.one mn_ (group*L) (i*(group*L)) t).2))/\(R.At mn_ (R.one mn_ (group*L) (i*(group*L)) t).1/\(R.one mn_ (group*L) (i*(group*L)) t).1.length=s.1.length/\((R.one mn_ (group*L) (i*(group*L)) t).2.length:Int)<=s.2.length+23*min mn_ ((i+1:Nat)*(group*L))):=λi t M2 hi ⟨I0,I1,I2⟩ sa=>by
  have hib:=(hN i).mp hi;have ib0:(0:Int)<=i*(group*L):=Int.mul_nonneg (by omega) (by omega);have sc:((i+1:Nat):Int)*(group*L)=i*(group*L)+group*L:=by rw [Int.natCast_add,Int.add_mul];show _+1*(group*(L:Int))=_;rw [Int.one_mul]
  rw [sc];generalize (i:Int)*(group*L)=bb at *;have ft:R.Fit mn_ t.1.length:=by rw [I1];exact f
  have wb:(wid mn_ (group*L) bb:Int)=min mn_ (bb+group*L)-bb:=by unfold wid;omega
  obtain ⟨A1,A2⟩:=R6.one_at (side:=group*L) ft ib0 (by omega) I0;have A3:=R.one_T mn_ (group*L) bb t x20;refine ⟨strip_all (code:=code) lx lL lS lP sa sd.2 pq p8 q8 ib0 hr hl e0 e1 e2 e3 en ft.f0 ft.f1 ft.f2 ft.f3 I0.n kn I0.r skin hx x20 sgs (by omega) c1 c2 cx c3 c4,A1,A2.trans I1,by omega⟩
 obtain ⟨k,M',a,b,c,d,e⟩:=zd8 (Lx:=Lx) hB hX (pl:=0) (n:=R.xs.length+4) (one:=R.one mn_ (group*L)) (bad:=λi:Nat=>R.bad mn_ (group*L) (i*(group*L))) (I:=λi t=>R.At mn_ t.1/\t.1.length=s.1.length/\(t.2.length:Int)<=s.2.length+23*min mn_ (i*(group*L))) h hg h1 c0 (by rw [show 0+(R.xs.length+4+1)=5+R.xs.length by omega];exact c5) hN ⟨at',rfl,by rw [show ((0:Nat):Int)*(group*L)=0 by omega];omega⟩ (λi t M2 hi hb ii sa=>by
  obtain ⟨⟨k,M',x,y,_⟩,z⟩:=step i t M2 hi ii sa
  exact ⟨k,M',x,y hb,z⟩) (λi r t M2 hi hb ii sa=>by
  obtain ⟨⟨k,M',x,_,y⟩,z⟩:=step i t M2 hi ii sa;exact ⟨k,M',x,y r hb⟩)
 exact ⟨k,M',a,b,c,d,λz=>by rw [e z,show 0+(R.xs.length+4+2)=6+R.xs.length by omega]⟩
end K36
namespace K36
open PySem L2 My
section
variable {P:Program} {w:World} {K:Fg} {mg:J0} {base:Heap}
def ok_lkept (d:zn K mg "_law_kept" YA ["_law_number_here"]):Ok P w K mg base CX0 1 "_law_kept" ["_law_number_here"] (sp1 λn=>.int (kept n)):=by
 obtain ⟨f,fd,m,F,b⟩:=d;refine ⟨f,fd,m,F.kp,b,F.ok sc_l_kept len1 λcdv A outer s H vs Q E hr h=>?_⟩;obtain ⟨n,rfl,k⟩:=h;refine ⟨_,(zg (zm (zk xJ (zk yK (zk zF (pv 0) ze) ze) ze))),?_⟩;exact ⟨_,rfl,_,_,rfl,rfl,_,_,rfl,rfl,(by show (0:Int)<18446744073709551616;decide),_,_,rfl,rfl,k⟩
inductive spLS (vs:Jn) (H:Hp) (Q:VK) (_:XK):Prop
 | mk (f:Str) (a b r:Int) (_:vs=[.str f,.int a,.int b]) (_:f∈yX) (_:Kin a) (_:Kin b) (_:zV f a b=some r) (_:Q (.int r) H)
def zec (d:zn K mg "_law_signed" ZI ["_law_sign","_law_left","_law_right"]) (LK:Ok P w K mg base CX0 1 "_law_kept" ["_law_number_here"] (sp1 λn=>.int (kept n))) (hint:mg "int"=none) (hmin:mg "min"=none) (hmax:mg "max"=none) :
  Ok P w K mg base CX0 2 "_law_signed" ["_law_sign","_law_left","_law_right"] spLS:=by
 obtain ⟨f,fd,m,F,b⟩:=d;refine ⟨f,fd,m,F.kp,b,F.ok zc2 (by rintro vs H Q E ⟨_,_,_,_,e,_⟩;rw [e];rfl) λcdv A outer s H vs Q E hr h=>?_⟩;obtain ⟨f,x,y,r,rfl,hf,hx,hy,e,k⟩:=h;have hr1:=hr;refine ⟨_,(zc (zQ (zB yo (pv 0) zK (zG _)) (zg (zm (zL LK hr1 (by rfl) zt (zb (zk zF (pv 1) (pv 2)) zd)))) zv)
   (zc (zQ (zB yo (pv 0) zK (zG _)) (zg (zm (zL LK hr1 (by rfl) zt (zb (zk xJ (pv 1) (pv 2)) zd)))) zv)
   (zc (zQ (zB yo (pv 0) zK (zG _)) (zg (zm (zL LK hr1 (by rfl) zt (zb (zk yb (pv 1) (pv 2)) zd)))) zv)
   (zc (zQ (zB yo (pv 0) zK (zG _)) (zg (zm (zL LK hr1 (by rfl) zt (zb (zk ZB (pv 1) (pv 2)) zd)))) zv)
   (zc (zQ (zB yo (pv 0) zK (zG _)) (zg (zm (zk xJ (pv 1) (zk yb (zk ZB (pv 1) (pv 2)) (pv 2))))) zv)
   (zc (zQ (zB yo (pv 0) zK (zG _)) (zg (zm (zw (ZE rfl) rfl hmin PyProof.Rows.boot_min (zb (pv 1) (zb (pv 2) zd))))) zv)
   (zc (zQ (zB yo (pv 0) zK (zG _)) (zg (zm (zw (zbk rfl) rfl hmax PyProof.Rows.boot_max (zb (pv 1) (zb (pv 2) zd))))) zv)
   (zc (zQ (zB yo (pv 0) zK (zG _)) (zg (zm (ya zbl rfl hint PyProof.Rows.boot_int (zb (Zp Yi (pv 1) (pv 2) (zG _)) zd)))) zv)
   (zc (zQ (zB yo (pv 0) zK (zG _)) (zg (zm (ya zbl rfl hint PyProof.Rows.boot_int (zb (Zp yo (pv 1) (pv 2) (zG _)) zd)))) zv)
   (zc (zQ (zB yo (pv 0) zK (zG _)) (zg (zm (zk op_and (pv 1) (pv 2)))) zv)
   (zc (zQ (zB yo (pv 0) zK (zG _)) (zg (zm (zk op_or (pv 1) (pv 2)))) zv)
   (zg (zm (zk op_xor (pv 1) (pv 2))))))))))))))),?_⟩
 show (let s1:L2.TS:=_;let s2:L2.TS:=L2.tSeq _ s1;let s3:L2.TS:=L2.tSeq _ s2;let s4:L2.TS:=L2.tSeq _ s3;let s5:L2.TS:=L2.tSeq _ s4;let s6:L2.TS:=L2.tSeq _ s5;let s7:L2.TS:=L2.tSeq _ s6;let s8:L2.TS:=L2.tSeq _ s7;let s9:L2.TS:=L2.tSeq _ s8;let s10:L2.TS:=L2.tSeq _ s9;let s11:L2.TS:=L2.tSeq _ s10;L2.tSeq _ s11 _ _ _);intro s1 s2 s3 s4 s5 s6 s7 s8 s9 s10 s11;simp only [yX,List.mem_cons,List.not_mem_nil,or_false] at hf;rcases hf with rfl | rfl | rfl | rfl | rfl | rfl | rfl | rfl | rfl | rfl | rfl | rfl
 ·cases e
  refine ⟨_,rfl,rfl,_,rfl,Zs ?_⟩;exact ⟨_,rfl,_,rfl,_,_,rfl,rfl,_,rfl,k⟩
 ·cases e
  iterate 1 refine ⟨_,rfl,rfl,_,rfl,xc (by decide) ?_⟩
  refine ⟨_,rfl,rfl,_,rfl,Zs ?_⟩;exact ⟨_,rfl,_,rfl,_,_,rfl,rfl,_,rfl,k⟩
 ·cases e
  iterate 2 refine ⟨_,rfl,rfl,_,rfl,xc (by decide) ?_⟩
  refine ⟨_,rfl,rfl,_,rfl,Zs ?_⟩;exact ⟨_,rfl,_,rfl,_,_,rfl,rfl,.inl ⟨by omega,by omega⟩,_,rfl,k⟩
 ·have z:y≠0:=λz=>by
   have e':(if y=0 then none else some (kept (x.fdiv y)))=some r:=e;rw [if_pos z] at e';cases e'
  have e':(if y=0 then none else some (kept (x.fdiv y)))=some r:=e;rw [if_neg z] at e';cases e'
  iterate 3 refine ⟨_,rfl,rfl,_,rfl,xc (by decide) ?_⟩
  refine ⟨_,rfl,rfl,_,rfl,Zs ?_⟩;exact ⟨_,rfl,_,rfl,_,_,rfl,rfl,⟨z,by omega,by omega⟩,_,rfl,k⟩
 ·have z:y≠0:=λz=>by
   have e':(if y=0 then none else some (x.fmod y))=some r:=e;rw [if_pos z] at e';cases e'
  have e':(if y=0 then none else some (x.fmod y))=some r:=e;rw [if_neg z] at e'
  have e2:x-x.fdiv y*y=r:=by
   injection e' with e'
   have:=Int.mul_fdiv_add_fmod x y;rw [Int.mul_comm] at this;omega
  subst e2
  iterate 4 refine ⟨_,rfl,rfl,_,rfl,xc (by decide) ?_⟩
  refine ⟨_,rfl,rfl,_,rfl,Zs ?_⟩;exact ⟨_,rfl,_,rfl,_,rfl,_,_,rfl,rfl,⟨z,by omega,by omega⟩,_,rfl,_,_,rfl,rfl,.inr ⟨by omega,by omega⟩,_,_,rfl,rfl,k⟩
 ·cases e
  iterate 5 refine ⟨_,rfl,rfl,_,rfl,xc (by decide) ?_⟩
  refine ⟨_,rfl,rfl,_,rfl,Zs ?_⟩;exact ⟨_,rfl,_,rfl,_,_,rfl,k⟩
 ·cases e
  iterate 6 refine ⟨_,rfl,rfl,_,rfl,xc (by decide) ?_⟩
  refine ⟨_,rfl,rfl,_,rfl,Zs ?_⟩;exact ⟨_,rfl,_,rfl,_,_,rfl,k⟩
 ·have e':(if x<y then (1:Int) else 0)=r:=by injection e
  subst e'
  iterate 7 refine ⟨_,rfl,rfl,_,rfl,xc (by decide) ?_⟩
  refine ⟨_,rfl,rfl,_,rfl,Zs ?_⟩;refine ⟨_,rfl,_,rfl,_,_,rfl,rfl,.inr ⟨_,rfl,?_⟩⟩;by_cases z:x<y
  ·rw [if_pos z] at k;rw [decide_eq_true z];exact k
  ·rw [if_neg z] at k;rw [decide_eq_false z];exact k
 ·have e':(if x=y then (1:Int) else 0)=r:=by injection e
  subst e'
  iterate 8 refine ⟨_,rfl,rfl,_,rfl,xc (by decide) ?_⟩
  refine ⟨_,rfl,rfl,_,rfl,Zs ?_⟩;refine ⟨_,rfl,_,rfl,rfl,.inr ⟨_,rfl,?_⟩⟩;by_cases z:x=y
  ·rw [if_pos z] at k;rw [decide_eq_true (by rw [z])];exact k
  ·rw [if_neg z] at k;rw [decide_eq_false (by intro q;cases q;exact z rfl)];exact k
 ·cases e
  iterate 9 refine ⟨_,rfl,rfl,_,rfl,xc (by decide) ?_⟩
  refine ⟨_,rfl,rfl,_,rfl,Zs ?_⟩;exact ⟨_,rfl,_,rfl,_,_,rfl,rfl,k⟩
 ·cases e
  iterate 10 refine ⟨_,rfl,rfl,_,rfl,xc (by decide) ?_⟩
  refine ⟨_,rfl,rfl,_,rfl,Zs ?_⟩;exact ⟨_,rfl,_,rfl,_,_,rfl,rfl,k⟩
 ·cases e
  iterate 11 refine ⟨_,rfl,rfl,_,rfl,xc (by decide) ?_⟩
  exact ⟨_,rfl,_,rfl,_,_,rfl,rfl,k⟩
end
end K36
namespace K36
open PySem L2
def someV (ns:Jb) (k sa m:Int):Int :=
 let x:=(ns.getD k.toNat 0 % 1000003+1)*(48271+1000*k*k+69621*sa*sa) % 2147483647
 x*x % 2147483629 / 3 % m
section
variable {P:Program} {w:World} {K:Fg} {mg:J0} {base:Heap}
end
def rot_at {α:Type} {F:List α} {n t j:Nat} (hn:F.length=n) (ht:t<n) (hj:j<n):(((j:Int)-t) % n).toNat<n/\(F.drop t++F.take t)[(((j:Int)-t) % n).toNat]?=F[j]?:=by
 have n0:(0:Int)<n:=by omega
 by_cases c:t<=j
 ·have e:((j:Int)-t) % n=(j:Int)-t:=Int.emod_eq_of_lt (by omega) (by omega)
  rw [e];refine ⟨by omega,?_⟩;rw [q4x (by rw [List.length_drop];omega),List.getElem?_drop];congr 1;omega
 ·have e:((j:Int)-t) % n=(j:Int)-t+n:=by
   rw [← Int.add_emod_right,Int.emod_eq_of_lt (by omega) (by omega)]
  rw [e];refine ⟨by omega,?_⟩;rw [List.getElem?_append_right (by rw [List.length_drop];omega),List.length_drop,List.getElem?_take_of_lt (by omega)];congr 1;omega
theorem flat_at:∀ (PL:List (Jb)) (r e:Nat) (A:Jb),PL[r]?=some A->e<A.length->PL.flatten.getD ((((PL.map λl=>(l.length:Int)).take r).sum+(e:Int)).toNat) 0=A.getD e 0/\0<=((PL.map λl=>(l.length:Int)).take r).sum
 | [],r,e,A,h,_=>by cases h
 | B::PL,0,e,A,h,he=>by
  cases h;refine ⟨?_,Int.le_refl _⟩;show (B++PL.flatten).getD ((0:Int)+e).toNat 0=_;rw [show ((0:Int)+e).toNat=e by omega,q1x,q4x he,← q1x]
 | B::PL,r+1,e,A,h,he=>by
  obtain ⟨a,b⟩:=flat_at PL r e A h he
  have es:(((B::PL).map λl=>(l.length:Int)).take (r+1)).sum=(B.length:Int)+((PL.map λl=>(l.length:Int)).take r).sum:=by
   rw [List.map_cons,List.take_succ_cons,List.sum_cons]
  rw [es];refine ⟨?_,by omega⟩;show (B++PL.flatten).getD _ 0=_;rw [q1x,List.getElem?_append_right (by omega),← q1x,← a];congr 1;omega
def XS {ns:Jb} (h:∀ v∈ns,0<=v) {r r':Nat} (hr:r<r') (hl:r<ns.length):(ns.take r).sum+ns.getD r 0<=(ns.take r').sum:=by
 rw [← Yg ns r hl];have:=xF (ns.take r') (r+1) λv hv=>h v (List.mem_of_mem_take hv);rw [List.take_take,Nat.min_eq_left (by omega)] at this;exact this.2
theorem flat_len (PL:List (Jb)):((PL.flatten.length:Nat):Int)=(PL.map λl=>(l.length:Int)).sum:=by
 induction PL with
 | nil=>rfl
 | cons A PL ih=>rw [List.flatten_cons,Jj,List.map_cons,List.sum_cons,← ih];omega
end K36
namespace K36
open PySem L2 My
section
variable {P:Program} {w:World} {K:Fg} {mg:J0} {base:Heap}
def Sp6.Good:Sp6->Prop
 | .op _ sg _ _=>sg∈yX
 | _=>True
def signs14:Jf:=["+","-","*","/","rest","least","most","<","=","&","|","^","/","rest"]
inductive spStep6 (K:Fg) (vs:Jn) (H:Hp) (Q:VK) (_:XK):Prop
 | mk (a s:Ad) (ns:Jb) (i:Int) (p q r:Nat) (_:vs=[.ref a,.int i,.ref s,.int r]) (_:SqL K H a (ns.map V.int)) (_:SqL K H s [.int p,.int q]) (_:0<=i) (_:i<=100000) (_:∀ (x:Sp6) H' t,x.Good->Same H H'->H' t=some (.tup (x.tv p q r))->Q (.ref t) H')
def ok_lstep (d:zn K mg "_law_step" Yx ["_law_script","_law_k","_law_seats","_law_row"]) (SM:Ok P w K mg base CX0 2 "_law_some" ["_law_script","_law_k","_law_salt","_law_many"] (spSome K)):Ok P w K mg base CX0 3 "_law_step" ["_law_script","_law_k","_law_seats","_law_row"] (spStep6 K):=by
 obtain ⟨g,fd,m,F,b⟩:=d;refine ⟨g,fd,m,F.kp,b,F.okB sc_l_step (by rintro vs H Q E ⟨_,_,_,_,_,_,_,e,_⟩;rw [e];rfl) λcdv A outer s H vs Q E hr h=>?_⟩;obtain ⟨a,sa,ns,i,p,q,r,rfl,hS,hP,i0,i1,k⟩:=h;have nd:=sc_l_step.nd;have hr2:=hr;have SL:(3000:Nat)<sizeLine:=by decide
 refine ⟨_,(Zq (PW1.mk (zu (i:=4) nd rfl (Or.inl rfl) (zL SM hr2 (by rfl) zt (zb (pv 0) (zb (pv 1) (zb ze (zb ze zd)))))))
   (Zq (PW1.mk (zu (i:=5) nd rfl (Or.inl rfl) (zr zE (pv 2) (zL SM hr2 (by rfl) zt (zb (pv 0) (zb (pv 1) (zb ze (zb ze zd))))) (λ_ _=>rfl))))
   (Zq (PW1.mk (zu (i:=6) nd rfl (Or.inl rfl) (zr zE (pv 2) (zL SM hr2 (by rfl) zt (zb (pv 0) (zb (pv 1) (zb ze (zb ze zd))))) (λ_ _=>rfl))))
   (Zq (PW1.mk (zu (i:=7) nd rfl (Or.inl rfl) (zr zE (pv 2) (zL SM hr2 (by rfl) zt (zb (pv 0) (zb (pv 1) (zb ze (zb ze zd))))) (λ_ _=>rfl))))
   (Zq (PW1.mk (zQ (zB yo (pv 4) ze (zG _)) (zg (zm (yn (zb zK (zb (pv 5) (zb (pv 6) (zb (pv 3) (zb ze zd)))))))) zv))
   (Zq (PW1.mk (zQ (zB yo (pv 4) ze (zG _)) (zg (zm (yn (zb zK (zb (pv 5) (zb (zL SM hr2 (by rfl) zt (zb (pv 0) (zb (pv 1) (zb ze (zb ze zd))))) (zb ze zd))))))) zv))
   (Zq (PW1.mk (zQ (zB yo (pv 4) ze (zG _)) (zg (zm (yn (zb zK zd)))) zv))
   (Zq (pw_ks (i:=8) nd rfl (Or.inl rfl) rfl)
   (pb_one (PW1.mk (zm (yn (zb zK (zb (pv 5) (zb (zr zE (pv 8) (zL SM hr2 (by rfl) zt (zb (pv 0) (zb (pv 1) (zb ze (zb ze zd))))) (λ_ _=>rfl)) (zb (pv 6) (zb (pv 7) (zb ze zd)))))))))))))))))),?_⟩
 have pick:∀ v:Int,0<=v->v<2->∃ x:Bool,atI ([V.int p,.int q]:Jn) v=some (.int (cond x q p:Nat)):=λv v0 v1=>by
  rcases (by omega:v=0∨v=1) with rfl | rfl
  ·exact ⟨false,rfl⟩
  ·exact ⟨true,rfl⟩
 have pick14:∀ v:Int,0<=v->v<14->∃ sg∈yX,atI (signs14.map V.str) v=some (.str sg):=λv v0 v1=>by
  rcases (by omega:v=0∨v=1∨v=2∨v=3∨v=4∨v=5∨v=6∨v=7∨v=8∨v=9∨v=10∨v=11∨v=12∨v=13) with rfl | rfl | rfl | rfl | rfl | rfl | rfl | rfl | rfl | rfl | rfl | rfl | rfl | rfl <;> exact ⟨_,by decide,rfl⟩
 refine ⟨_,rfl,_,rfl,a,ns,i,1,6,rfl,hS,i0,i1,by decide,by decide,by decide,λword w0 w1=>?_⟩;refine ⟨_,rfl,_,rfl,_,rfl,a,ns,i,2,2,rfl,hS,i0,i1,by decide,by decide,by decide,λv v0 v1=>?_⟩;obtain ⟨x,ex⟩:=pick v v0 v1;refine ⟨sa,_,v,_,rfl,rfl,hP,ex,?_⟩;refine ⟨_,rfl,_,rfl,_,rfl,a,ns,i,3,2,rfl,hS,i0,i1,by decide,by decide,by decide,λv v0 v1=>?_⟩;obtain ⟨y,ey⟩:=pick v v0 v1;refine ⟨sa,_,v,_,rfl,rfl,hP,ey,?_⟩;refine ⟨_,rfl,_,rfl,_,rfl,a,ns,i,4,2,rfl,hS,i0,i1,by decide,by decide,by decide,λv v0 v1=>?_⟩;obtain ⟨z,ez⟩:=pick v v0 v1;refine ⟨sa,_,v,_,rfl,rfl,hP,ez,?_⟩;refine ⟨_,rfl,rfl,_,rfl,?_⟩;refine yU (λc=>?_) (λc=>?_)
 ·refine ⟨_,rfl,_,rfl,_,rfl,(by show 5<=sizeLine;omega),λt nt=>?_⟩
  exact k (.ga x y) _ t trivial (zi (Same.refl _) nt) zf
 refine ⟨_,rfl,rfl,_,rfl,?_⟩;refine yU (λc=>?_) (λc=>?_)
 ·refine ⟨_,rfl,_,rfl,_,rfl,a,ns,i,5,21,rfl,hS,i0,i1,by decide,by decide,by decide,λn n0 n1=>?_⟩
  refine ⟨(by show 4<=sizeLine;omega),λt nt=>?_⟩;exact k (.rc x n) _ t trivial (zi (Same.refl _) nt) zf
 refine ⟨_,rfl,rfl,_,rfl,?_⟩;refine yU (λc=>?_) (λc=>?_)
 ·refine ⟨(by show 1<=sizeLine;omega),λt nt=>?_⟩
  exact k .tr _ t trivial (zi (Same.refl _) nt) zf
 refine ⟨(by show 14<=sizeLine;omega),λl nl=>?_⟩;have s1:Same H (upd H l (.lst (signs14.map V.str))):=zi (Same.refl H) nl;have el:upd H l (.lst (signs14.map V.str)) l=some (.lst (signs14.map V.str)):=zf;revert s1 el;show Same H (upd H l (.lst [.str "+",.str "-",.str "*",.str "/",.str "rest",.str "least",.str "most",.str "<",.str "=",.str "&",.str "|",.str "^",.str "/",.str "rest"]))->upd H l (.lst [.str "+",.str "-",.str "*",.str "/",.str "rest",.str "least",.str "most",.str "<",.str "=",.str "&",.str "|",.str "^",.str "/",.str "rest"]) l=some (.lst (signs14.map V.str))->_;generalize upd H l (.lst [.str "+",.str "-",.str "*",.str "/",.str "rest",.str "least",.str "most",.str "<",.str "=",.str "&",.str "|",.str "^",.str "/",.str "rest"])=H0;intro s1 el;refine ⟨_,rfl,_,rfl,_,rfl,_,rfl,a,ns,i,6,14,rfl,zo hS s1,i0,i1,by decide,by decide,by decide,λv v0 v1=>?_⟩;obtain ⟨sg,hsg,eg⟩:=pick14 v v0 v1;refine ⟨l,_,v,_,rfl,rfl,SqL.of el,eg,?_⟩;refine ⟨_,rfl,_,rfl,(by show 6<=sizeLine;omega),λt nt=>?_⟩;exact k (.op x sg y z) _ t hsg (zi s1 (s1.free nt)) zf
end
end K36
namespace K36
open PySem L2
def Sp6.bad (SN:Int):Sp6->(Bool->Int)->Bool
 | .ga _ y,n=>!gIn SN (n y)
 | .rc x m,n=>!gIn m (n x)
 | .op _ sg y z,n=>(zV sg (n y) (n z)).isNone
 | .tr,_=>false
def Sp6.lay (sr:Int->Int):Sp6->(Bool->Int)->Bool->Int
 | .ga x y,n=>λs=>if s=x then sr (n y) else n s
 | .op x sg y z,n=>λs=>if s=x then (zV sg (n y) (n z)).getD 0 else n s
 | _,n=>n
def Sp6.tc (st at':Int):Sp6->(Bool->Int)->List Tch
 | .ga _ y,n=>[(at',("read":Str),st+n y)]
 | _,_=>[]
def Sp6.z:Sp6->Str
 | .op _ _ _ _=>"nought"
 | _=>"outside"
def nAt (nu:Bool->Int->Int) (e:Int):Bool->Int:=λs=>nu s e
def setE (nu:Bool->Int->Int) (e:Int) (n:Bool->Int):Bool->Int->Int:=λs e'=>if e'=e then n s else nu s e'
def za7 (st SN:Int) (sr:Int->Int) (b at':Int) (x:Sp6) (j:Int) (t:T6):T6 :=
 if x.bad SN (nAt t.nu (b+j))=true then ⟨t.W,zW t.fs (.inl j) (.str x.z),t.nu,t.T⟩ else ⟨t.W,t.fs,setE t.nu (b+j) (x.lay sr (nAt t.nu (b+j))),t.T++x.tc st at' (nAt t.nu (b+j))⟩
def one6 (st SN:Int) (sr:Int->Int) (b at':Int) (x:Sp6) (j:Int) (t:T6):T6:=if (zN t.fs (.inl j)).isSome=true then t else za7 st SN sr b at' x j t
def ZX (st SN:Int) (sr:Int->Int) (b at':Int) (x:Sp6):Nat->T6->T6
 | 0,t=>t
 | n+1,t=>one6 st SN sr b at' x n (ZX st SN sr b at' x n t)
def act6_succ (n:Nat) (fs:Jl):Zg (n+1) fs=Zg n fs++(if (zN fs (.inl (n:Int))).isSome=true then [] else [(n:Int)]):=by
 unfold Zg zM;rw [List.range_succ,Jk,List.filter_append];congr 1;rw [List.map_cons,List.map_nil,List.filter_cons,List.filter_nil];show (if (!(zN fs (.inl (n:Int))).isSome)=true then [(n:Int)] else [])=_;cases (zN fs (.inl (n:Int))).isSome <;> rfl
def zel (z:Str) (fs:Jl) (js:Jb) (j:Int):yp z fs (js++[j])=zW (yp z fs js) (.inl j) (.str z):=by
 unfold yp;rw [List.foldl_append];rfl
def mid6 (st SN:Int) (sr:Int->Int) (b at':Int) (x:Sp6) (t:T6) (js:Jb):T6 :=
 ⟨t.W,yp x.z t.fs (js.filter λj=>x.bad SN (nAt t.nu (b+j))),λs e=>if e-b∈js/\x.bad SN (nAt t.nu e)=false then x.lay sr (nAt t.nu e) s else t.nu s e,t.T++(js.filter λj=>!x.bad SN (nAt t.nu (b+j))).flatMap λj=>x.tc st at' (nAt t.nu (b+j))⟩
theorem zad (st SN:Int) (sr:Int->Int) (b at':Int) (x:Sp6) (t:T6):∀ n:Nat,ZX st SN sr b at' x n t=mid6 st SN sr b at' x t (Zg n t.fs)
 | 0=>by
  show t=mid6 st SN sr b at' x t [];unfold mid6;rw [List.filter_nil,List.filter_nil,List.flatMap_nil,q3y]
  have:(λs e=>if e-b∈([]:Jb)/\x.bad SN (nAt t.nu e)=false then x.lay sr (nAt t.nu e) s else t.nu s e)=t.nu:=by
   funext s e;exact if_neg λh=>by cases h.1
  rw [this];rfl
 | n+1=>by
  have ih:=zad st SN sr b at' x t n;show one6 st SN sr b at' x n (ZX st SN sr b at' x n t)=_;rw [ih,act6_succ];have out:∀ j∈Zg n t.fs,j<(n:Int):=λj hj=>(act6_mem.mp hj).2.1;have hn:¬ (n:Int)∈Zg n t.fs:=λh=>by have:=out _ h;omega
  have same:(zN (mid6 st SN sr b at' x t (Zg n t.fs)).fs (.inl (n:Int))).isSome=(zN t.fs (.inl (n:Int))).isSome:=by
   unfold mid6;rw [xw,decide_eq_false (λh=>hn (List.mem_filter.mp h).1),Bool.or_false]
  have own:nAt (mid6 st SN sr b at' x t (Zg n t.fs)).nu (b+n)=nAt t.nu (b+n):=by
   funext s;exact if_neg λh=>hn (by have:=h.1;rwa [show b+(n:Int)-b=n by omega] at this)
  unfold one6;rw [same];by_cases c:(zN t.fs (.inl (n:Int))).isSome=true
  ·rw [if_pos c,if_pos c,q3y]
  rw [if_neg c,if_neg c];unfold za7;rw [own];by_cases g:x.bad SN (nAt t.nu (b+n))=true
  ·rw [if_pos g]
   unfold mid6;rw [List.filter_append,List.filter_append,show ([(n:Int)].filter λj=>x.bad SN (nAt t.nu (b+j)))=[(n:Int)] by rw [List.filter_cons,if_pos g];rfl,show ([(n:Int)].filter λj=>!x.bad SN (nAt t.nu (b+j)))=[] by rw [List.filter_cons,if_neg (by rw [g];decide)];rfl,q3y,zel];congr 1;funext s e;dsimp only;by_cases q:e-b∈Zg n t.fs/\x.bad SN (nAt t.nu e)=false
   ·rw [if_pos q,if_pos ⟨List.mem_append_left _ q.1,q.2⟩]
   ·rw [if_neg q]
    symm;refine if_neg λh=>?_;rcases List.mem_append.mp h.1 with h1 | h1
    ·exact q ⟨h1,h.2⟩
    ·have:=List.mem_singleton.mp h1
     rw [show e=b+n by omega,g] at h;cases h.2
  ·rw [if_neg g]
   have g':x.bad SN (nAt t.nu (b+n))=false:=by cases e:x.bad SN (nAt t.nu (b+n)) with | false=>rfl | true=>exact absurd e g
   unfold mid6;rw [List.filter_append,List.filter_append,show ([(n:Int)].filter λj=>x.bad SN (nAt t.nu (b+j)))=[] by rw [List.filter_cons,if_neg g];rfl,show ([(n:Int)].filter λj=>!x.bad SN (nAt t.nu (b+j)))=[(n:Int)] by rw [List.filter_cons,if_pos (by rw [g'];rfl)];rfl,q3y,List.flatMap_append,← List.append_assoc,show ([(n:Int)].flatMap λj=>x.tc st at' (nAt t.nu (b+j)))=x.tc st at' (nAt t.nu (b+n)) by rw [List.flatMap_cons,List.flatMap_nil,q3y]];congr 1;funext s e;unfold setE;dsimp only;by_cases q:e=b+n
   ·rw [if_pos q,if_pos ⟨q2y _ (List.mem_singleton.mpr (by omega)),by rw [q];exact g'⟩,q]
   ·rw [if_neg q]
    by_cases q2:e-b∈Zg n t.fs/\x.bad SN (nAt t.nu e)=false
    ·rw [if_pos q2,if_pos ⟨List.mem_append_left _ q2.1,q2.2⟩]
    ·rw [if_neg q2]
     symm;refine if_neg λh=>?_;rcases List.mem_append.mp h.1 with h1 | h1
     ·exact q2 ⟨h1,h.2⟩
     ·have:=List.mem_singleton.mp h1
      exact q (by omega)
def zba {α:Type} {c:Prop} [Decidable c] {a b d:α} (h1:c->a=d) (h2:¬ c->b=d):(if c then a else b)=d:=by
 by_cases h:c
 ·rw [if_pos h];exact h1 h
 ·rw [if_neg h];exact h2 h
theorem za6 (st SN:Int) (sr:Int->Int) (b at':Int) {x:Sp6} (nt:x≠.tr) (t:T6):ZX st SN sr b at' x t.W t=go6 st SN sr b at' x t:=by
 rw [zad];have key:∀ {fs fs':Jl} {nu nu':Bool->Int->Int} {T T':List Tch},fs=fs'->nu=nu'->T=T'->T6.mk t.W fs nu T=T6.mk t.W fs' nu' T':=λa b c=>by rw [a,b,c]
 cases x with
 | tr=>exact absurd rfl nt
 | ga x y =>
  refine key rfl ?_ ?_
  ·funext s e
   refine zba (λc1=>?_) (λc1=>?_)
   ·have g:gIn SN (t.nu y e)=true:=by have:(!gIn SN (t.nu y e))=false:=c1.2;simpa using this
    refine (zba (λc2=>?_) (λc2=>?_)).symm
    ·show (if gIn SN (t.nu y e)=true then some (sr (t.nu y e)) else none).getD (t.nu s e)=if s=x then sr (t.nu y e) else t.nu s e
     rw [if_pos g,if_pos c2.1];rfl
    ·show t.nu s e=if s=x then sr (t.nu y e) else t.nu s e
     rw [if_neg λh=>c2 ⟨h,c1.1⟩]
   ·refine (zba (λc2=>?_) (λc2=>?_)).symm
    ·show (if gIn SN (t.nu y e)=true then some (sr (t.nu y e)) else none).getD (t.nu s e)=t.nu s e
     rw [if_neg λg=>c1 ⟨c2.2,(by show (!gIn SN (t.nu y e))=false;rw [g];rfl)⟩];rfl
    ·rfl
  ·congr 1
   show ((Zg t.W t.fs).filter λj=>!!gIn SN (t.nu y (b+j))).flatMap (λj=>[(at',("read":Str),st+t.nu y (b+j))])=(((Zg t.W t.fs).map (b+·)).filter λe=>gIn SN (t.nu y e)).map λe=>(at',("read":Str),st+t.nu y e);rw [List.filter_map,List.map_map];simp only [Bool.not_not];generalize Zg t.W t.fs=js
   induction js with
   | nil=>rfl
   | cons j js ih =>
    by_cases g:gIn SN (t.nu y (b+j))=true
    ·rw [List.filter_cons,if_pos g,List.filter_cons,if_pos (show ((λe=>gIn SN (t.nu y e)) ∘ (b+·)) j=true from g),List.flatMap_cons,List.map_cons,ih];rfl
    ·rw [List.filter_cons,if_neg g,List.filter_cons,if_neg (show ¬ ((λe=>gIn SN (t.nu y e)) ∘ (b+·)) j=true from g),ih]
 | rc x n =>
  refine key rfl ?_ ?_
  ·funext s e
   dsimp only [Sp6.lay,nAt]
   split <;> rfl
  ·show t.T++(List.flatMap (λ_=>[]) _)=t.T
   rw [show ∀ l:Jb,l.flatMap (λ_=>([]:List Tch))=[] from λl=>by induction l with | nil=>rfl | cons a l ih=>rw [List.flatMap_cons,ih];rfl,q3y]
 | op x sg y z =>
  refine key rfl ?_ ?_
  ·funext s e
   refine zba (λc1=>?_) (λc1=>?_)
   ·have g:(zV sg (t.nu y e) (t.nu z e)).isNone=false:=c1.2
    refine (zba (λc2=>?_) (λc2=>?_)).symm
    ·show (zV sg (t.nu y e) (t.nu z e)).getD (t.nu s e)=if s=x then (zV sg (t.nu y e) (t.nu z e)).getD 0 else t.nu s e
     rw [if_pos c2.1]
     cases q:zV sg (t.nu y e) (t.nu z e) with
     | some r=>rfl
     | none=>rw [q] at g;cases g
    ·show t.nu s e=if s=x then (zV sg (t.nu y e) (t.nu z e)).getD 0 else t.nu s e
     rw [if_neg λh=>c2 ⟨h,c1.1⟩]
   ·refine (zba (λc2=>?_) (λc2=>?_)).symm
    ·show (zV sg (t.nu y e) (t.nu z e)).getD (t.nu s e)=t.nu s e
     cases q:zV sg (t.nu y e) (t.nu z e) with
     | some r=>exact absurd ⟨c2.2,(by show (zV sg (t.nu y e) (t.nu z e)).isNone=false;rw [q];rfl)⟩ c1
     | none=>rfl
    ·rfl
  ·show t.T++(List.flatMap (λ_=>[]) _)=t.T
   rw [show ∀ l:Jb,l.flatMap (λ_=>([]:List Tch))=[] from λl=>by induction l with | nil=>rfl | cons a l ih=>rw [List.flatMap_cons,ih];rfl,q3y]
end K36
namespace K36
open PySem L2 My
variable {P:Program} {w:World} {K:Fg} {mg:J0} {base:Heap}
def yv (p q:Nat) (n:Bool->Int):Jl:=[(.inl (p:Int),.int (n false)),(.inl (q:Int),.int (n true))]
theorem X7 {p q:Nat} (pq:p≠q) (n:Bool->Int) (s:Bool):zN (yv p q n) (.inl ((cond s q p:Nat):Int))=some (.int (n s)):=by
 cases s with
 | false=>exact ye rfl
 | true =>
  have:zN (yv p q n) (.inl (q:Int))=zN [((.inl (q:Int):Key),V.int (n true))] (.inl (q:Int)):=yi (λh=>by injection h with h;omega);exact this.trans (ye rfl)
theorem ZW {p q:Nat} (pq:p≠q) (n:Bool->Int) (x:Bool) (v:Int):zW (yv p q n) (.inl ((cond x q p:Nat):Int)) (.int v)=yv p q (λs=>if s=x then v else n s):=by
 have hs:=X7 pq n x;unfold zW;rw [xE,hs]
 cases x with
 | false =>
  show [_,_]=[_,_];have:¬ (Sum.inl (q:Int):Key)=Sum.inl (p:Int):=λh=>by injection h with h;omega
  show [if (Sum.inl (p:Int):Key)=Sum.inl (p:Int) then _ else _,if (Sum.inl (q:Int):Key)=Sum.inl (p:Int) then _ else _]=_;rw [if_pos rfl,if_neg this];rfl
 | true =>
  have:¬ (Sum.inl (p:Int):Key)=Sum.inl (q:Int):=λh=>by injection h with h;omega
  show [if (Sum.inl (p:Int):Key)=Sum.inl (q:Int) then _ else _,if (Sum.inl (q:Int):Key)=Sum.inl (q:Int) then _ else _]=_;rw [if_pos rfl,if_neg this];rfl
theorem iteNot {b:Bool} {A B:Prop} (h1:b=true->B) (h2:b=false->A):if (!b)=true then A else B:=by
 cases b with
 | true=>exact yw (h1 rfl)
 | false=>exact xG (h2 rfl)
inductive spLane6 (K:Fg) (vs:Jn) (H:Hp) (Q:VK) (_:XK):Prop
 | mk (B:Hp) (sp nd so tc:Ad) (ts:Jg) (T:List Tch) (src:Jb) (n:Bool->Int) (x:Sp6) (p q r:Nat) (pl st:Int) (_:vs=[.ref sp,.ref nd,.int pl,.ref so,.int st,.ref tc]) (_:SqT K B sp (x.tv p q r)) (_:Hd B [(nd,.dK (yv p q n)),(tc,.lst (ts.map V.ref))] H) (_:SqL K B so (src.map V.int)) (_:TAt B ts T) (_:p≠q) (_:x≠.tr) (_:x.Good) (_:(∀ s,Kin (n s))) (_:src.length<=100) (_:T.length<90000) (_:(x.bad src.length n=true->∀ H',Same H H'->Q (.str x.z) H')) (_:(x.bad src.length n=false->∀ B' H' ts',Same B B'->Hd B' [(nd,.dK (yv p q (x.lay (λa=>src.getD a.toNat 0) n))),(tc,.lst (ts'.map V.ref))] H'->TAt B' ts' (T++x.tc st pl n)->Q .non H'))
theorem ok_llane (d:zn K mg "_law_lane" Yz ["_law_step_here","_law_numbers","_law_place","_law_source","_law_start","_law_touches"]) (hlen:mg "len"=none) (LS:Ok P w K mg base CX0 2 "_law_signed" ["_law_sign","_law_left","_law_right"] spLS):Ok P w K mg base CX0 3 "_law_lane" ["_law_step_here","_law_numbers","_law_place","_law_source","_law_start","_law_touches"] (spLane6 K):=by
 obtain ⟨g,fd,m,F,b⟩:=d;refine ⟨g,fd,m,F.kp,b,F.ok sc_l_lane (by rintro vs H Q E ⟨_,_,_,_,_,_,_,_,_,_,_,_,_,_,_,e,_⟩;rw [e];rfl) λcdv A outer s H vs Q E hr h=>?_⟩;obtain ⟨B,sp,nd',so,tc,ts,T,src,n,x,p,q,r,pl,st,rfl,hT,h,hs,ta,pq,nt,gd,kn,s100,t9,kb,kg⟩:=h;have nd:=sc_l_lane.nd;have hr2:=hr;have hu:=Nat.lt_of_le_of_lt (Nat.add_le_add_left (show 1<=64 by decide) _) hr.units;have SL:(200000:Nat)<sizeLine:=by decide
 refine ⟨_,(zc (zQ (zB yo (zr zR (pv 0) ze (λ_ _=>rfl)) zK (zG _)) (zc (zQ (YE op_le Yi ze (ZM hu (pv 1) (zr zR (pv 0) ze (λ_ _=>rfl)) (λ_ _=>rfl)) (zr zR (pv 0) ze (λ_ _=>rfl))) (zg (zm yE)) zv)
   (zg (zm zK))) zv)
   (zc (zQ (zB yo (zr zR (pv 0) ze (λ_ _=>rfl)) zK (zG _)) (zc (zu (i:=6) nd rfl (Or.inl rfl) (ZM hu (pv 1) (zr zR (pv 0) ze (λ_ _=>rfl)) (λ_ _=>rfl)))
   (zc (zQ (Y5 (YE op_le Yi ze (pv 6) (zw zP (by rfl) hlen PySem.boot_len (zb (pv 3) zd)))) (zg (zm zK)) zv)
   (zc (yf (pe_bm PySem.F.plainAttrs_list PySem.F.slot_list_append PySem.F.type_list_append xv (pv 5) (zb (yn (zb (pv 2) (zb zK (zb (zk zF (pv 4) (pv 6)) zd)))) zd)))
   (zc (Z5 hu (pv 1) (zr zR (pv 0) ze (λ_ _=>rfl)) (zr zE (pv 3) (pv 6) (λ_ _=>rfl)) rfl)
   (zg (zm yE)))))) zv)
   (zc (zu (i:=7) nd rfl (Or.inl rfl) (ZM hu (pv 1) (zr zR (pv 0) ze (λ_ _=>rfl)) (λ_ _=>rfl)))
   (zc (zu (i:=8) nd rfl (Or.inl rfl) (ZM hu (pv 1) (zr zR (pv 0) ze (λ_ _=>rfl)) (λ_ _=>rfl)))
   (zc (zQ (X1 (zB yo (pv 8) ze (zG _)) (YD (zB op_in_seq (zr zR (pv 0) ze (λ_ _=>rfl)) (yn (zb zK (zb zK zd))) rfl))).pt (zg (zm zK)) zv)
   (zc (Z5 hu (pv 1) (zr zR (pv 0) ze (λ_ _=>rfl)) (zL LS hr2 (by rfl) zt (zb (zr zR (pv 0) ze (λ_ _=>rfl)) (zb (pv 7) (zb (pv 8) zd)))) rfl)
   (zg (zm yE)))))))),?_⟩
 dsimp only [yh,Cx.nox,Cx.wish];show (let s1:L2.TS:=_;let s2:L2.TS:=L2.tSeq _ s1;let s3:L2.TS:=L2.tSeq _ s2;let s4:L2.TS:=L2.tSeq _ s3;let s5:L2.TS:=L2.tSeq _ s4;let s6:L2.TS:=L2.tSeq _ s5;L2.tSeq _ s6 _ _ _);intro s1 s2 s3 s4 s5 s6;have hT':=h.sqt hT
 have gt:∀ s:Bool,DGet H nd' (.int ((cond s q p:Nat):Int)) (some (.int (n s))):=λs=>by
  have:=DGet.k (k:=.inl ((cond s q p:Nat):Int)) (h.get 0 rfl);rw [X7 pq] at this;exact this
 cases x with
 | tr=>exact absurd rfl nt
 | rc x m =>
  refine ⟨_,rfl,sp,_,_,_,rfl,rfl,hT',rfl,rfl,_,rfl,Zs ?_⟩;refine ⟨_,rfl,_,rfl,sp,_,_,_,rfl,rfl,hT',rfl,nd',_,rfl,gt x,_,_,rfl,rfl,_,rfl,?_⟩;have eb:(Sp6.rc x m).bad src.length n=!(decide (0<=n x) && decide (n x<m)):=rfl;refine yU (λc=>?_) (λc=>?_)
  ·refine ⟨_,rfl,sp,_,_,_,rfl,rfl,hT',rfl,_,_,rfl,rfl,_,rfl,?_⟩
   refine yU (λc2=>?_) (λc2=>?_)
   ·refine kg (by rw [eb,c,c2];rfl) B H ts (Same.refl B) h ?_
    show TAt B ts (T++[]);rw [q3y];exact ta
   ·exact kb (by rw [eb,c,(Bool.not_eq_true _).mp c2];rfl) _ (Same.refl _)
  ·refine ⟨_,rfl,yw ?_⟩
   exact kb (by rw [eb,(Bool.not_eq_true _).mp c];rfl) _ (Same.refl _)
 | ga x y =>
  refine ⟨_,rfl,sp,_,_,_,rfl,rfl,hT',rfl,rfl,_,rfl,xc (by decide) ?_⟩;refine ⟨_,rfl,sp,_,_,_,rfl,rfl,hT',rfl,rfl,_,rfl,Zs ?_⟩;refine ⟨_,rfl,_,rfl,sp,_,_,_,rfl,rfl,hT',rfl,nd',_,rfl,gt y,?_⟩;refine ⟨_,rfl,_,_,rfl,rfl,_,rfl,?_⟩;have eb:(Sp6.ga x y).bad src.length n=!(decide (0<=n y) && decide (n y<src.length)):=rfl;refine yU (λc=>?_) (λc=>?_)
  ·refine ⟨_,rfl,so,_,rfl,.inl (h.sql hs),_,_,rfl,rfl,_,rfl,?_⟩
   rw [Ji];refine iteNot (λc2=>?_) (λc2=>kb (by rw [eb,c,c2];rfl) _ (Same.refl _));have y0:=of_decide_eq_true c;have y1:=of_decide_eq_true c2;refine ⟨_,rfl,.inl ⟨rfl,_,h.lst 1 rfl⟩,_,rfl,_,rfl,_,rfl,_,_,rfl,rfl,(by show 3<=sizeLine;omega),λt nt=>?_⟩;have h1:=h.grow (o:=.tup [.int pl,.str "read",.int (st+n y)]) nt;have s1:Same B (upd B t (.tup [.int pl,.str "read",.int (st+n y)])):=zi (Same.refl _) (h.free nt);have e1:upd B t (.tup [.int pl,.str "read",.int (st+n y)]) t=some (.tup [.int pl,.str "read",.int (st+n y)]):=zf;have ta1:=(ta.same s1).snoc (p:=(pl,"read",st+n y)) e1;generalize upd H t (.tup [.int pl,.str "read",.int (st+n y)])=H1 at h1 ⊢;generalize upd B t (.tup [.int pl,.str "read",.int (st+n y)])=B1 at h1 s1 e1 ta1;refine ⟨tc,_,_,rfl,rfl,h1.get 1 rfl,(by show (ts.map V.ref).length<sizeLine;rw [Ji,ta.n];omega),?_⟩;have h2:Hd B1 [(nd',.dK (yv p q n)),(tc,.lst (ts.map V.ref++[.ref t]))] (upd H1 tc (.lst (ts.map V.ref++[.ref t]))):=h1.put 1 rfl;generalize upd H1 tc (.lst (ts.map V.ref++[.ref t]))=H2 at h2 ⊢;refine ⟨_,rfl,_,rfl,so,_,_,_,rfl,rfl,zo hs (s1.trans h2.sm),xM (n y).toNat (by omega) (by omega),?_⟩;have h3:Hd B1 [(nd',.dK (zW (yv p q n) (.inl ((cond x q p:Nat):Int)) (.int (src.getD (n y).toNat 0)))),(tc,.lst (ts.map V.ref++[.ref t]))] (upd H2 nd' (.dK (zW (yv p q n) (.inl ((cond x q p:Nat):Int)) (.int (src.getD (n y).toNat 0))))):=h2.put 0 rfl;refine ⟨_,rfl,_,rfl,sp,_,_,_,rfl,rfl,((Hd.base (B:=B)).same (s1.trans h2.sm)).sqt hT,rfl,nd',_,rfl,DPut.k (k:=.inl ((cond x q p:Nat):Int)) (h2.get 0 rfl) (by show 2<sizeLine;omega),?_⟩;rw [ZW pq] at h3;rw [ZW pq];refine kg (by rw [eb,c,c2];rfl) B1 _ (ts++[t]) s1 ?_ ta1;rw [Jk];exact h3
  ·refine ⟨_,rfl,xG (kb (by rw [eb,(Bool.not_eq_true _).mp c];rfl) _ (Same.refl _))⟩
 | op x sg y z =>
  refine ⟨_,rfl,sp,_,_,_,rfl,rfl,hT',rfl,rfl,_,rfl,xc (by decide) ?_⟩;refine ⟨_,rfl,sp,_,_,_,rfl,rfl,hT',rfl,rfl,_,rfl,xc (by decide) ?_⟩;refine ⟨_,rfl,_,rfl,sp,_,_,_,rfl,rfl,hT',rfl,nd',_,rfl,gt y,?_⟩;refine ⟨_,rfl,_,rfl,sp,_,_,_,rfl,rfl,hT',rfl,nd',_,rfl,gt z,?_⟩;have eb:(Sp6.op x sg y z).bad src.length n=(zV sg (n y) (n z)).isNone:=rfl;have gd':sg∈yX:=gd
  have go:∀ J:Hp,Hd B [(nd',.dK (yv p q n)),(tc,.lst (ts.map V.ref))] J->(zV sg (n y) (n z)).isNone=false->tSeq (sDPut (tVar 1) (tOp (rIxT K) (tVar 0) (tC (.int 1))) (XT spLS [] E0 (ZQ (tOp (rIxT K) (tVar 0) (tC (.int 2))) (ZQ (tVar 7) (ZQ (tVar 8) tNil))))) (tRet (tC .non)) { nx:=λ_ H'=>Q .non H',rt:=Q } [rq sp,rq nd',iq pl,rq so,iq st,rq tc,none,iq (n y),iq (n z)] J:=λJ hJ nb=>by
   obtain ⟨r,er⟩:∃ r,zV sg (n y) (n z)=some r:=by
    cases e:zV sg (n y) (n z) with
    | some r=>exact ⟨r,rfl⟩
    | none=>rw [e] at nb;cases nb
   have h3:Hd B [(nd',.dK (zW (yv p q n) (.inl ((cond x q p:Nat):Int)) (.int r))),(tc,.lst (ts.map V.ref))] (upd J nd' (.dK (zW (yv p q n) (.inl ((cond x q p:Nat):Int)) (.int r)))):=hJ.put 0 rfl;refine ⟨_,rfl,sp,_,_,_,rfl,rfl,hJ.sqt hT,rfl,_,rfl,_,rfl,sg,n y,n z,r,rfl,gd',kn y,kn z,er,?_⟩;refine ⟨_,rfl,_,rfl,sp,_,_,_,rfl,rfl,hJ.sqt hT,rfl,nd',_,rfl,DPut.k (k:=.inl ((cond x q p:Nat):Int)) (hJ.get 0 rfl) (by show 2<sizeLine;omega),?_⟩;rw [ZW pq] at h3;rw [ZW pq];refine kg (by rw [eb];exact nb) B _ ts (Same.refl B) ?_ ?_
   ·have:(Sp6.op x sg y z).lay (λa=>src.getD a.toNat 0) n=λs=>if s=x then r else n s:=by
     funext s;show (if s=x then (zV sg (n y) (n z)).getD 0 else n s)=_;rw [er];rfl
    rw [this];exact h3
   ·show TAt B ts (T++[])
    rw [q3y];exact ta
  refine ⟨_,rfl,rfl,_,rfl,?_⟩;by_cases z0:n z=0
  ·refine yU (λ_=>?_) (λc=>absurd (decide_eq_true (by rw [z0])) c)
   refine ⟨_,rfl,sp,_,_,_,rfl,rfl,hT',rfl,(by show 2<=sizeLine;decide),λt nt=>⟨t,_,rfl,.inr (SqT.of zf),rfl,rfl,_,rfl,?_⟩⟩;have hJ:=h.waste (o:=.tup [.str "/",.str "rest"]) nt;have sJ:Same H (upd H t (.tup [.str "/",.str "rest"])):=zi (Same.refl _) nt;have gs:=gd';simp only [yX,List.mem_cons,List.not_mem_nil,or_false] at gs;rcases gs with rfl | rfl | rfl | rfl | rfl | rfl | rfl | rfl | rfl | rfl | rfl | rfl
   ·exact yU (λc=>absurd c (by decide)) (λ_=>go _ hJ rfl)
   ·exact yU (λc=>absurd c (by decide)) (λ_=>go _ hJ rfl)
   ·exact yU (λc=>absurd c (by decide)) (λ_=>go _ hJ rfl)
   ·exact yU (λ_=>kb (by rw [eb];show (if n z=0 then none else some _).isNone=true;rw [if_pos z0];rfl) _ sJ) (λc=>absurd (by decide) c)
   ·exact yU (λ_=>kb (by rw [eb];show (if n z=0 then none else some _).isNone=true;rw [if_pos z0];rfl) _ sJ) (λc=>absurd (by decide) c)
   ·exact yU (λc=>absurd c (by decide)) (λ_=>go _ hJ rfl)
   ·exact yU (λc=>absurd c (by decide)) (λ_=>go _ hJ rfl)
   ·exact yU (λc=>absurd c (by decide)) (λ_=>go _ hJ rfl)
   ·exact yU (λc=>absurd c (by decide)) (λ_=>go _ hJ rfl)
   ·exact yU (λc=>absurd c (by decide)) (λ_=>go _ hJ rfl)
   ·exact yU (λc=>absurd c (by decide)) (λ_=>go _ hJ rfl)
   ·exact yU (λc=>absurd c (by decide)) (λ_=>go _ hJ rfl)
  ·refine yU (λc=>absurd (of_decide_eq_true c) (λe=>z0 (by injection e))) (λ_=>?_)
   refine yw (go _ h ?_);have gs:=gd';simp only [yX,List.mem_cons,List.not_mem_nil,or_false] at gs;rcases gs with rfl | rfl | rfl | rfl | rfl | rfl | rfl | rfl | rfl | rfl | rfl | rfl
   ·rfl
   ·rfl
   ·rfl
   ·show (if n z=0 then none else some _).isNone=false;rw [if_neg z0];rfl
   ·show (if n z=0 then none else some _).isNone=false;rw [if_neg z0];rfl
   ·rfl
   ·rfl
   ·rfl
   ·rfl
   ·rfl
   ·rfl
   ·rfl
def zcr:HO->Prop
 | .tup _=>False
 | _=>True
def two_of {B H:Hp} {L:Jm} {a c:Ad} {o u:HO} (h:Hd B L H) (i j:Nat) (ij:i≠j) (ei:L[i]?=some (a,o)) (ej:L[j]?=some (c,u)) (nt:∀ p∈L,zcr p.2) :
  ∃ B0,Same B B0/\Hd B0 [(a,o),(c,u)] H/\∀ B1 H1 o1 u1,zcr o1->zcr u1->Same B0 B1->Hd B1 [(a,o1),(c,u1)] H1->∃ B2,Same B B2/\Hd B2 ((L.set i (a,o1)).set j (c,u1)) H1/\∀ d xs,B1 d=some (.tup xs)->B2 d=some (.tup xs):=by
 have ac:a≠c:=h.ne i j ei ej ij;refine ⟨but H [a,c],λd v z=>yZ (h.sm _ _ z) (λm=>?_),⟨?_,?_,?_,but_sub⟩,?_⟩
 ·rcases List.mem_cons.mp m with e | m
  ·have:=h.nw _ (List.mem_of_getElem? ei)
   rw [e,show B a=none from this] at z;cases z
  ·have:=h.nw _ (List.mem_of_getElem? ej)
   rw [List.mem_singleton.mp m,show B c=none from this] at z;cases z
 ·show [a,c].Nodup
  rw [List.nodup_cons];exact ⟨λm=>ac (List.mem_singleton.mp m),List.nodup_cons.mpr ⟨λm=>(nomatch m),List.nodup_nil⟩⟩
 ·intro p m
  rcases List.mem_cons.mp m with rfl | m
  ·exact Zd (by simp)
  ·cases List.mem_singleton.mp m;exact Zd (by simp)
 ·intro p m
  rcases List.mem_cons.mp m with rfl | m
  ·exact h.get i ei
  ·cases List.mem_singleton.mp m;exact h.get j ej
 intro B1 H1 o1 u1 n1 n2 s1 h1
 have fe:((L.set i (a,o1)).set j (c,u1)).map Prod.fst=L.map Prod.fst:=by
  rw [Hd.fst_set (o:=u) j (by rw [List.getElem?_set_ne ij];exact ej),Hd.fst_set (o:=o) i ei]
 have oth:∀ p∈L,p.1≠a->p.1≠c->B1 p.1=some p.2:=λp m pa pc=>s1 _ _ (yZ (h.st p m) λq=>by
  rcases List.mem_cons.mp q with q | q
  ·exact pa q
  ·exact pc (List.mem_singleton.mp q))
 have ne:∀ d v,B d=some v->d ∉ L.map Prod.fst:=λd v z m=>by
  obtain ⟨p,mp,rfl⟩:=List.mem_map.mp m;rw [h.nw p mp] at z;cases z
 refine ⟨but B1 (L.map Prod.fst),λd v z=>yZ (s1 _ _ (yZ (h.sm _ _ z) λq=>?_)) (ne d v z),⟨?_,?_,?_,but_sub.trans h1.sm⟩,?_⟩
 ·have:=ne d v z
  rcases List.mem_cons.mp q with rfl | q
  ·exact this (List.mem_map.mpr ⟨_,List.mem_of_getElem? ei,rfl⟩)
  ·cases List.mem_singleton.mp q
   exact this (List.mem_map.mpr ⟨_,List.mem_of_getElem? ej,rfl⟩)
 ·rw [fe];exact h.nd
 ·intro p m
  refine Zd ?_;rw [← fe];exact List.mem_map.mpr ⟨p,m,rfl⟩
 ·intro p m
  obtain ⟨k,lt,ek⟩:=List.getElem_of_mem m;have ek:((L.set i (a,o1)).set j (c,u1))[k]?=some p:=by rw [List.getElem?_eq_getElem lt,ek]
  have li:=(List.getElem?_eq_some_iff.mp ei).1;have lj:=(List.getElem?_eq_some_iff.mp ej).1;by_cases kj:j=k
  ·subst kj
   rw [q3z (by rw [List.length_set];exact lj)] at ek;cases ek;exact h1.get 1 rfl
  rw [List.getElem?_set_ne kj] at ek;by_cases ki:i=k
  ·subst ki
   rw [q3z li] at ek;cases ek;exact h1.get 0 rfl
  rw [List.getElem?_set_ne ki] at ek;obtain ⟨d,v⟩:=p;exact h1.sm _ _ (oth _ (List.mem_of_getElem? ek) (h.ne k i ek ei (Ne.symm ki)) (h.ne k j ek ej (Ne.symm kj)))
 ·intro d xs e
  refine yZ e λm=>?_;obtain ⟨p,mp,rfl⟩:=List.mem_map.mp m;by_cases pa:p.1=a
  ·rw [pa,show B1 a=none from h1.nw (a,o1) (by simp)] at e;cases e
  by_cases pc:p.1=c
  ·rw [pc,show B1 c=none from h1.nw (c,u1) (by simp)] at e;cases e
  have:=oth p mp pa pc;rw [this] at e;have q:=nt p mp;injection e with e
  rw [e] at q;exact q
def yq (p q:Nat) (nu:Bool->Int->Int) (D:Jg):Jm:=D.mapIdx λe a=>(a,.dK (yv p q (nAt nu (e:Nat))))
def zak {p q:Nat} {nu:Bool->Int->Int} {D:Jg} {i:Nat} {a:Ad} (e:D[i]?=some a):(yq p q nu D)[i]?=some (a,.dK (yv p q (nAt nu (i:Nat)))):=by
 unfold yq;rw [List.getElem?_mapIdx,e];rfl
def dicts_len (p q:Nat) (nu:Bool->Int->Int) (D:Jg):(yq p q nu D).length=D.length:=by
 unfold yq;rw [List.length_mapIdx]
def dicts_set {p q:Nat} {nu:Bool->Int->Int} {D:Jg} {i:Nat} {a:Ad} (e:D[i]?=some a) (n:Bool->Int):(yq p q nu D).set i (a,.dK (yv p q n))=yq p q (setE nu (i:Nat) n) D:=by
 apply List.ext_getElem?;intro k;by_cases c:i=k
 ·subst c
  rw [q3z (by rw [dicts_len];exact (List.getElem?_eq_some_iff.mp e).1),zak e];have:nAt (setE nu (i:Nat) n) (i:Nat)=n:=by funext s;exact if_pos rfl
  rw [this]
 ·rw [List.getElem?_set_ne c]
  unfold yq;rw [List.getElem?_mapIdx,List.getElem?_mapIdx];have:nAt (setE nu (i:Nat) n) (k:Nat)=nAt nu (k:Nat):=by funext s;exact if_neg (by omega)
  rw [this]
theorem dicts_tup {p q:Nat} {nu:Bool->Int->Int} {D:Jg}:∀ x∈yq p q nu D,zcr x.2:=λx hx=>by
 obtain ⟨i,lt,e⟩:=List.getElem_of_mem hx;have e:(yq p q nu D)[i]?=some x:=by rw [List.getElem?_eq_getElem lt,e]
 unfold yq at e;rw [List.getElem?_mapIdx] at e
 cases h:D[i]? with
 | none=>rw [h] at e;cases e
 | some a=>rw [h] at e;cases e;trivial
def rdR (s k:Int) (es:Jb):List Tch:=es.map λe=>(k,("read":Str),s+e)
theorem rd_len (S:Jb) (es:Jb):∀ i:Nat,((List.range i).flatMap λr=>rdR (S.getD r 0) (1+(r:Nat)) es).length=i*es.length
 | 0=>by rw [List.range_zero,List.flatMap_nil,Nat.zero_mul];rfl
 | i+1=>by
  rw [List.range_succ,List.flatMap_append,Jj,rd_len S es i,List.flatMap_cons,List.flatMap_nil,q3y,Nat.succ_mul];unfold rdR;rw [Ji]
def Zx (W:Nat) (b:Int):((zM W).map (b+·)).length=W:=by unfold zM;rw [Ji,Ji,List.length_range]
def YX (j:Nat) (b:Int):(zM (j+1)).map (b+·)=(zM j).map (b+·)++[b+(j:Nat)]:=by
 unfold zM;rw [List.range_succ,Jk,Jk];rfl
def t06 (S:Jb) (b:Int) (W:Nat) (nu:Bool->Int->Int) (T:List Tch):T6:=⟨W,[],nu,T++(rdR (S.getD 0 0) 1 ((zM W).map (b+·))++rdR (S.getD 1 0) 2 ((zM W).map (b+·)))⟩
theorem lay6_kin {sr:Int->Int} {SN:Int} {x:Sp6} {n:Bool->Int} (gd:x.Good) (ks:∀ a,Kin (sr a)) (kn:∀ s,Kin (n s)) (nb:x.bad SN n=false):∀ s,Kin (x.lay sr n s):=λs=>by
 cases x with
 | tr=>exact kn s
 | rc x m=>exact kn s
 | ga x y =>
  show Kin (if s=x then sr (n y) else n s)
  split
  ·exact ks _
  ·exact kn s
 | op x sg y z =>
  show Kin (if s=x then (zV sg (n y) (n z)).getD 0 else n s)
  split
  ·have nb':(zV sg (n y) (n z)).isNone=false:=nb
   cases e:zV sg (n y) (n z) with
   | some r=>exact zbe gd (kn y) (kn z) e
   | none=>rw [e] at nb';cases nb'
  ·exact kn s
structure L6 (t u:T6) (n:Nat):Prop where
 W:u.W=t.W
 kn:∀ s e,Kin (u.nu s e)
 ik:yV u.fs
 k0:∀ j∈zy u.fs,0<=j
 fl:u.fs.length<=t.fs.length+n
 tl:u.T.length<=t.T.length+n
theorem Xd (st SN:Int) (sr:Int->Int) (b a:Int) {x:Sp6} (gd:x.Good) (ks:∀ a,Kin (sr a)) {t:T6} (kn:∀ s e,Kin (t.nu s e)) (ik:yV t.fs) (k0:∀ j∈zy t.fs,0<=j):∀ n:Nat,L6 t (ZX st SN sr b a x n t) n
 | 0=>⟨rfl,kn,ik,k0,Nat.le_refl _,Nat.le_refl _⟩
 | n+1=>by
  have h:=Xd st SN sr b a gd ks kn ik k0 n;show L6 t (one6 st SN sr b a x n (ZX st SN sr b a x n t)) (n+1);generalize ZX st SN sr b a x n t=u at h;unfold one6
  split
  ·exact ⟨h.W,h.kn,h.ik,h.k0,Nat.le_succ_of_le h.fl,Nat.le_succ_of_le h.tl⟩
  unfold za7
  split
  ·refine ⟨h.W,h.kn,Xq h.ik _ _,λj hj=>?_,?_,Nat.le_succ_of_le h.tl⟩
   ·rw [zY,Zw] at hj
    split at hj
    ·rename_i e
     injection e with e
     omega
    ·exact h.k0 j ((zY _ _).mpr hj)
   ·have:=yl u.fs (.inl (n:Int):Key) (.str x.z)
    have:=h.fl;show (zW u.fs (.inl (n:Int)) (.str x.z)).length<=_;omega
  ·rename_i nb
   have nb:x.bad SN (nAt u.nu (b+n))=false:=(Bool.not_eq_true _).mp nb;refine ⟨h.W,λs e=>?_,h.ik,h.k0,Nat.le_succ_of_le h.fl,?_⟩
   ·show Kin (if e=b+n then x.lay sr (nAt u.nu (b+n)) s else u.nu s e)
    split
    ·exact lay6_kin gd ks (λs=>h.kn s _) nb s
    ·exact h.kn s e
   ·show (u.T++x.tc st a _).length<=_
    have:(x.tc st a (nAt u.nu (b+n))).length<=1:=by cases x <;> simp [Sp6.tc]
    have:=h.tl;rw [Jj];omega
def Hd_same2 {B H H':Hp} {L:Jm} (h:Hd B L H) (s:Same H H'):Hd B L H':=⟨h.nd,h.nw,λp m=>s _ _ (h.st p m),h.sm.trans s⟩
inductive spStrip6 (K:Fg) (vs:Jn) (H:Hp) (Q:VK) (_:XK):Prop
 | mk (B:Hp) (sa ra so st tc:Ad) (ss ts D:Jg) (T:List Tch) (src S:Jb) (nu:Bool->Int->Int) (xs:List Sp6) (p q r W:Nat) (b:Int) (_:vs=[.ref sa,.ref ra,.int b,.int (W:Nat),.ref so,.ref st,.ref tc]) (_:Hd B ((tc,.lst (ts.map V.ref))::yq p q nu D) H) (_:SqL K B sa (ss.map V.ref)) (_:CodeAt B ss (xs.map (Sp6.tv p q r))) (_:SqL K B ra (D.map V.ref)) (_:SqL K B so (src.map V.int)) (_:SqL K B st (S.map V.int)) (_:TAt B ts T) (_:p≠q) (_:(∀ x∈xs,x.Good)) (_:0<=b) (_:b+W<=D.length) (_:D.length<=100) (_:(∀ s e,Kin (nu s e))) (_:(∀ v∈src,Kin v)) (_:src.length<=100) (_:xs.length<=20) (_:T.length<50000) (_:W<=256) (_:S.length=4) (_:∀ B' H' ts' fa,Same B B'->Hd B' ((fa,.dK (yD (S.getD 2 0) src.length (λa=>src.getD a.toNat 0) b 3 xs (t06 S b W nu T)).fs)::(tc,.lst (ts'.map V.ref))::yq p q (yD (S.getD 2 0) src.length (λa=>src.getD a.toNat 0) b 3 xs (t06 S b W nu T)).nu D) H'->TAt B' ts' (yD (S.getD 2 0) src.length (λa=>src.getD a.toNat 0) b 3 xs (t06 S b W nu T)).T->Q (.ref fa) H')
theorem ok_lstrip (d:zn K mg "_law_strip" Z0 ["_law_steps","_law_rows","_law_base","_law_width","_law_source","_law_start","_law_touches"]) (hlen:mg "len"=none) (hmin:mg "min"=none) (hrg:mg "range"=none) (LL:Ok P w K mg base CX0 3 "_law_lane" ["_law_step_here","_law_numbers","_law_place","_law_source","_law_start","_law_touches"] (spLane6 K)):Ok P w K mg base CX0 4 "_law_strip" ["_law_steps","_law_rows","_law_base","_law_width","_law_source","_law_start","_law_touches"] (spStrip6 K):=by
 obtain ⟨g,fd,m,F,b⟩:=d;refine ⟨g,fd,m,F.kp,b,F.ok sc_l_strip (by rintro vs H Q E ⟨_,_,_,_,_,_,_,_,_,_,_,_,_,_,_,_,_,_,_,e,_⟩;rw [e];rfl) λcdv A outer s H vs Q E hr h=>?_⟩;obtain ⟨B,sa,ra,so,st,tc,ss,ts,D,T,src,S,nu,xs,p,q,r,W,b,rfl,h,qs,CA,qr,qo,qt,ta,pq,gd,b0,bW,D100,kn,ks,s100,x20,t5,W256,S4,k⟩:=h;have nd:=sc_l_strip.nd;have hr3:=hr;have hu:=Nat.lt_of_le_of_lt (Nat.add_le_add_left (show 1<=64 by decide) _) hr.units;have SL:(200000:Nat)<sizeLine:=by decide
 refine ⟨_,(zc (xr PassesOwn.never rfl (zU rfl hrg (zb ze zd)) (zC (i:=7) nd rfl (Or.inl rfl)) (zg (xr PassesOwn.never rfl (zU rfl hrg (zb (pv 3) zd)) (zC (i:=8) nd rfl (Or.inl rfl)) (zg (yf (pe_bm PySem.F.plainAttrs_list PySem.F.slot_list_append PySem.F.type_list_append xv (pv 6) (zb (yn (zb (zk zF ze (pv 7)) (zb zK (zb (zk zF (zk zF (zr zE (pv 5) (pv 7) (λ_ _=>rfl)) (pv 2)) (pv 8)) zd)))) zd)))))))
   (zc (zu (i:=9) nd rfl (Or.inl rfl) YI)
   (zc (xr PassesOwn.never rfl (zU rfl hrg (zb (zw zP (by rfl) hlen PySem.boot_len (zb (pv 0) zd)) zd)) (zC (i:=10) nd rfl (Or.inl rfl)) (zc (zQ (zB yo (zr zR (zr zE (pv 0) (pv 10) (λ_ _=>rfl)) ze (λ_ _=>rfl)) zK (zG _)) (zc (zu (i:=3) nd rfl (Or.inl rfl) (zw (Xk rfl) (by rfl) hmin PyProof.Rows.boot_min (zb (zk ZN (yJ (zb (pv 3) zd)) (pe_compD ["_law_lane_here"] [none] rfl rfl rfl (pv 9) (λs3 H3 fp=>⟨zC (i:=0) (Jp ["_law_lane_here"]) rfl (Or.inl rfl),(pv 0)⟩))) zd)))
   (zg zc7)) zv)
   (zg (xr PassesOwn.never rfl (zU rfl hrg (zb (pv 3) zd)) (zC (i:=8) nd rfl (Or.inl rfl)) (zg (zQ (pt_cmp (za3 hu (pv 8) (pv 9)) rfl) (zc (zu (i:=11) nd rfl (Or.inl rfl) (zL LL hr3 (by rfl) zt (zb (zr zE (pv 0) (pv 10) (λ_ _=>rfl)) (zb (zr zE (pv 1) (zk zF (pv 2) (pv 8)) (λ_ _=>rfl)) (zb (zk zF ze (pv 10)) (zb (pv 4) (zb (zr zE (pv 5) ze (λ_ _=>rfl)) (zb (pv 6) zd))))))))
   (zg (zQ (zB op_notN (pv 11) yE (zG _)) (zg (Z5 hu (pv 9) (pv 8) (pv 11) rfl)) zv))) zv))))))
   (zg (zm (pv 9)))))),?_⟩
 dsimp only [yh,Cx.nox,Cx.wish];show (let s1:L2.TS:=_;let s2:L2.TS:=L2.tSeq _ s1;let s3:L2.TS:=L2.tSeq _ s2;L2.tSeq _ s3 _ _ _);intro s1 s2 s3;generalize hTF:yD (S.getD 2 0) src.length (λa=>src.getD a.toNat 0) b 3 xs (t06 S b W nu T)=TF at k;have Sat:∀ i:Nat,i<4->atI (S.map V.int) (i:Nat)=some (.int (S.getD i 0)):=λi hi=>xM i (by omega) rfl;generalize hes:(zM W).map (b+·)=es at *;refine ⟨2,rfl,by decide,by decide,?_⟩;refine xh (lo:=0) (n:=2) (λi σ J=>∃ (u7 u8:Jo) (B1:Hp) (ts1:Jg),σ=[rq sa,rq ra,iq b,iq W,rq so,rq st,rq tc,u7,u8,none,none,none]/\Same B B1/\Hd B1 ((tc,.lst (ts1.map V.ref))::yq p q nu D) J/\TAt B1 ts1 (T++(List.range i).flatMap λr=>rdR (S.getD r 0) (1+(r:Nat)) ((zM W).map (b+·)))) ⟨none,none,B,ts,rfl,Same.refl B,h,by rw [List.range_zero,List.flatMap_nil,q3y];exact ta⟩ ?_ ?_
 ·clear h ta
  rintro i σ J hi ⟨u7,u8,B1,ts1,rfl,s1,h,ta⟩;refine ⟨_,rfl,(W:Nat),rfl,(by omega),(by omega),?_⟩;rw [q0z];refine xh (lo:=0) (n:=W) (λj σ J=>∃ (u8:Jo) (B2:Hp) (ts2:Jg),σ=[rq sa,rq ra,iq b,iq W,rq so,rq st,rq tc,iq (0+(i:Nat)),u8,none,none,none]/\Same B B2/\Hd B2 ((tc,.lst (ts2.map V.ref))::yq p q nu D) J/\TAt B2 ts2 ((T++(List.range i).flatMap λr=>rdR (S.getD r 0) (1+(r:Nat)) ((zM W).map (b+·)))++rdR (S.getD i 0) (1+(i:Nat)) ((zM j).map (b+·)))) ⟨u8,B1,ts1,rfl,s1,h,by show TAt B1 ts1 (_++[]);rw [q3y];exact ta⟩ ?_ ?_
  ·clear h ta
   rintro j σ J hj ⟨u8,B2,ts2,rfl,s2,h2,ta2⟩;refine ⟨_,rfl,.inl ⟨rfl,_,h2.lst 0 rfl⟩,_,rfl,_,_,rfl,rfl,_,rfl,_,rfl,st,_,_,_,rfl,rfl,zo qt (s2.trans h2.sm),(by rw [Int.zero_add];exact Sat i (by omega)),_,rfl,_,_,rfl,rfl,_,rfl,_,_,rfl,rfl,(by show 3<=sizeLine;omega),λt nt=>?_⟩;have nn:=ta2.n;rw [Jj,Jj,rd_len,Zx,show (rdR (S.getD i 0) (1+(i:Nat)) ((zM j).map (b+·))).length=j by unfold rdR;rw [Ji,Zx]] at nn;have iW:i*W<=512:=Nat.le_trans (Nat.mul_le_mul_left i W256) (by omega);have h3:=h2.grow (o:=.tup [.int (1+(0+(i:Nat))),.str "read",.int (S.getD i 0+b+(0+(j:Nat)))]) nt;have s3:Same B2 (upd B2 t (.tup [.int (1+(0+(i:Nat))),.str "read",.int (S.getD i 0+b+(0+(j:Nat)))])):=zi (Same.refl _) (h2.free nt);have e3:upd B2 t (.tup [.int (1+(0+(i:Nat))),.str "read",.int (S.getD i 0+b+(0+(j:Nat)))]) t=some (.tup [.int (1+(0+(i:Nat))),.str "read",.int (S.getD i 0+b+(0+(j:Nat)))]):=zf;have ta3:=(ta2.same s3).snoc (p:=(1+(0+(i:Nat)),"read",S.getD i 0+b+(0+(j:Nat)))) e3;generalize upd J t (.tup [.int (1+(0+(i:Nat))),.str "read",.int (S.getD i 0+b+(0+(j:Nat)))])=J3 at h3 ⊢;generalize upd B2 t (.tup [.int (1+(0+(i:Nat))),.str "read",.int (S.getD i 0+b+(0+(j:Nat)))])=B3 at h3 s3 e3 ta3;refine ⟨tc,_,_,rfl,rfl,h3.get 0 rfl,(by show (ts2.map V.ref).length<sizeLine;rw [Ji];omega),?_⟩;have h4:Hd B3 ((tc,.lst (ts2.map V.ref++[.ref t]))::yq p q nu D) (upd J3 tc (.lst (ts2.map V.ref++[.ref t]))):=h3.put 0 rfl;refine ⟨_,B3,ts2++[t],rfl,s2.trans s3,by rw [Jk];exact h4,?_⟩;rw [YX,show rdR (S.getD i 0) (1+(i:Nat)) ((zM j).map (b+·)++[b+(j:Nat)])=rdR (S.getD i 0) (1+(i:Nat)) ((zM j).map (b+·))++[((1+(0+(i:Int)):Int),("read":Str),S.getD i 0+b+(0+(j:Int)))] by unfold rdR;rw [Jk,Int.zero_add,Int.zero_add,Int.add_assoc];rfl,← List.append_assoc];exact ta3
  ·rintro σ J ⟨u8,B2,ts2,rfl,s2,h2,ta2⟩
   refine ⟨_,u8,B2,ts2,rfl,s2,h2,?_⟩;rw [List.range_succ,List.flatMap_append,← List.append_assoc,List.flatMap_cons,List.flatMap_nil,q3y];exact ta2
 rintro σ J ⟨u7,u8,B1,ts1,rfl,s1,h1,ta1⟩;clear h ta;refine λfa nfa=>?_;have h2:Hd B1 ((fa,.dK [])::(tc,.lst (ts1.map V.ref))::yq p q nu D) (upd J fa (.dK [])):=h1.new nfa;generalize upd J fa (.dK [])=J2 at h2 ⊢;have sl:ss.length=xs.length:=by have:=CA.n;rw [Ji] at this;exact this
 refine ⟨_,rfl,sa,_,rfl,.inl (zo qs (s1.trans h2.sm)),(xs.length:Nat),(by rw [Ji,sl]),(by omega),(by omega),?_⟩;rw [q0z];have t0W:(t06 S b W nu T).W=W:=rfl;refine xh (lo:=0) (n:=xs.length) (λi σ J=>∃ (t:T6) (u7 u8 u10 u11:Jo) (B2:Hp) (ts2:Jg),σ=[rq sa,rq ra,iq b,iq t.W,rq so,rq st,rq tc,u7,u8,rq fa,u10,u11]/\yD (S.getD 2 0) src.length (λa=>src.getD a.toNat 0) b (3+(i:Nat)) (xs.drop i) t=TF/\t.W<=W/\(∀ s e,Kin (t.nu s e))/\yV t.fs/\(∀ j∈zy t.fs,0<=j)/\t.fs.length<=i*256/\t.T.length<=T.length+512+i*256/\Same B B2/\Hd B2 ((fa,.dK t.fs)::(tc,.lst (ts2.map V.ref))::yq p q t.nu D) J/\TAt B2 ts2 t.T) ?_ ?_ ?_
 ·refine ⟨t06 S b W nu T,u7,u8,none,none,B1,ts1,rfl,?_,Nat.le_refl _,kn,?_,?_,Nat.zero_le _,?_,s1,h2,?_⟩
  ·rw [List.drop_zero];exact hTF
  ·exact λp hp=>nomatch hp
  ·exact λj hj=>nomatch hj
  ·show (T++(rdR _ 1 _++rdR _ 2 _)).length<=_
   have l1:∀ s k:Int,(rdR s k ((zM W).map (b+·))).length=W:=λs k=>by unfold rdR;rw [Ji,Zx]
   rw [Jj,Jj,l1,l1];omega
  ·have e2:((List.range 2).flatMap λr=>rdR (S.getD r 0) (1+(r:Nat)) ((zM W).map (b+·)))=rdR (S.getD 0 0) 1 ((zM W).map (b+·))++rdR (S.getD 1 0) 2 ((zM W).map (b+·)):=by
    show List.flatMap _ [0,1]=_;rw [List.flatMap_cons,List.flatMap_cons,List.flatMap_nil,q3y];rfl
   rw [e2] at ta1;exact ta1
 ·rintro i σ J hi ⟨t,u7,u8,u10,u11,B2,ts2,rfl,e,tW,kn2,ik,k0,fl,tl,s2,h3,ta3⟩
  have ks':∀ a:Int,Kin (src.getD a.toNat 0):=λa=>by
   rw [q1x]
   cases c:src[a.toNat]? with
   | none=>exact ⟨by decide,by decide⟩
   | some v=>exact ks v (List.mem_of_getElem? c)
  obtain ⟨x,hx⟩:∃ x,xs[i]?=some x:=⟨xs[i],List.getElem?_eq_getElem hi⟩;obtain ⟨ai,hai⟩:∃ a,ss[i]?=some a:=⟨ss[i]'(by omega),List.getElem?_eq_getElem _⟩;have eT:B ai=some (.tup (x.tv p q r)):=CA.t i ai _ hai (by rw [List.getElem?_map,hx];rfl);have gx:x.Good:=gd x (List.mem_of_getElem? hx)
  have edr:xs.drop i=x::xs.drop (i+1):=by
   rw [List.drop_eq_getElem_cons hi];congr 1;have:=List.getElem?_eq_getElem hi;rw [hx] at this;exact (Option.some.inj this).symm
  rw [edr] at e
  replace e:yD (S.getD 2 0) src.length (λa=>src.getD a.toNat 0) b (3+((i+1:Nat):Int)) (xs.drop (i+1)) (go6 (S.getD 2 0) src.length (λa=>src.getD a.toNat 0) b (3+(i:Nat)) x t)=TF:=by
   rw [show (3:Int)+((i+1:Nat):Int)=3+(i:Nat)+1 by omega];exact e
  have sat:atI (ss.map V.ref) ((0:Int)+(i:Nat))=some (.ref ai):=by
   rw [Int.zero_add];exact zJ (by rw [List.getElem?_map,hai];rfl)
  have s2J:Same B J:=s2.trans h3.sm
  obtain ⟨z,hz0,hz1,hz2⟩:∃ z:Str,atI (x.tv p q r) 0=some (.str z)/\(x≠.tr->z≠"trim")/\(x=.tr->z="trim"):=by
   cases x with
   | tr=>exact ⟨"trim",rfl,λh=>absurd rfl h,λ_=>rfl⟩
   | ga _ _=>exact ⟨"gather",rfl,λ_=>by decide,λh=>by cases h⟩
   | rc _ _=>exact ⟨"reach",rfl,λ_=>by decide,λh=>by cases h⟩
   | op _ _ _ _=>exact ⟨"op",rfl,λ_=>by decide,λh=>by cases h⟩
  refine ⟨_,rfl,_,rfl,sa,_,_,_,rfl,rfl,zo qs s2J,sat,ai,_,_,_,rfl,rfl,SqT.of (s2J _ _ eT),hz0,?_⟩;by_cases xt:x=.tr
  ·cases hz2 xt
   subst xt;refine ⟨rfl,_,rfl,Zs ?_⟩;refine ⟨_,rfl,(by show 1<=sizeLine;decide),λl nl=>?_⟩;have h4:=h3.waste (o:=.lst [.int (t.W:Nat)]) nl;have el:upd J l (.lst [.int (t.W:Nat)]) l=some (.lst [.int (t.W:Nat)]):=zf;generalize upd J l (.lst [.int (t.W:Nat)])=J1 at h4 el ⊢;have eF:J1 fa=some (.dK t.fs):=h4.get 0 rfl;have nlF:l≠fa:=λz=>by rw [z,eF] at el;cases el
   refine ⟨_,rfl,fa,t.fs,rfl,eF,_,rfl,λD' nD neD=>?_⟩;have nDH:J1 D'=none:=zdx nD neD;have nlD:l≠D':=λz=>by rw [z,nDH] at el;cases el
   have kl:∀ i,(zy (t.fs.take i)).length<=t.fs.length:=λi=>Nat.le_trans (Xh _) (by rw [List.length_take];omega);refine comp_keys (kvs:=t.fs) (λi σ J=>∃ u,σ=[u]/\J=upd (but J1 [fa]) D' (.lst ((zy (t.fs.take i)).map V.int))) ⟨none,rfl,rfl⟩ ?_ ?_
   ·rintro i' p' σ J' hp ⟨u,rfl,rfl⟩
    obtain ⟨j,hj,ek⟩:=zdl ik i' p' hp;have ekV:kV p'.1=.int j:=by rw [hj];rfl
    rw [ekV];refine ⟨_,rfl,_,zf,(by rw [Ji];have:=kl i';omega),_,rfl,?_⟩;rw [zbs,ek,Jk];rfl
   rintro σ J' ⟨u,rfl,rfl⟩ nd';rw [List.take_length]
   have eH:upd (upd (but J1 [fa]) D' (.lst ((zy t.fs).map V.int))) fa (.dK t.fs)=upd J1 D' (.lst ((zy t.fs).map V.int)):=by
    funext x;by_cases z:x=fa
    ·subst z;rw [zf,zj (Ne.symm neD)];exact eF.symm
    ·rw [zj z]
     by_cases y:x=D'
     ·subst y;rw [zf,zf]
     ·rw [zj y,zj y]
      unfold but;rw [if_neg (λq=>z (List.mem_singleton.mp q))]
   rw [eH];have h5:=h4.waste (o:=.lst ((zy t.fs).map V.int)) nDH;have eD:upd J1 D' (.lst ((zy t.fs).map V.int)) D'=some (.lst ((zy t.fs).map V.int)):=zf;have el2:upd J1 D' (.lst ((zy t.fs).map V.int)) l=some (.lst [.int (t.W:Nat)]):=by rw [zj nlD];exact el
   generalize upd J1 D' (.lst ((zy t.fs).map V.int))=J2 at h5 eD el2 ⊢;have kl':=kl t.fs.length;rw [List.take_length] at kl';refine ⟨l,D',_,_,rfl,rfl,el2,eD,(by rw [Ji];show 1+_<=_;omega),λp' np=>?_⟩;have h6:=h5.waste (o:=.lst ([V.int (t.W:Nat)]++(zy t.fs).map V.int)) np;have e6:upd J2 p' (.lst ([V.int (t.W:Nat)]++(zy t.fs).map V.int)) p'=some (.lst ((((t.W:Nat):Int)::zy t.fs).map V.int)):=zf;generalize upd J2 p' (.lst ([V.int (t.W:Nat)]++(zy t.fs).map V.int))=J3 at h6 e6 ⊢;refine ⟨p',((t.W:Nat):Int)::zy t.fs,rfl,SqL.of e6,Nat.zero_lt_succ _,λm hm hle=>?_⟩
   have em:m=((trW t.W t.fs:Nat):Int):=by
    obtain ⟨w1,w2,w3⟩:=YY (W:=t.W) k0;have a1:=hle _ q1z
    have a2:((trW t.W t.fs:Nat):Int)<=m:=by
     rcases List.mem_cons.mp hm with rfl | hm
     ·exact w1
     ·exact w2 _ hm
    have a3:m<=((trW t.W t.fs:Nat):Int):=by
     rcases w3 with w3 | w3
     ·rw [w3];exact a1
     ·exact hle _ (q1y _ w3)
    omega
   subst em;have w1:=(YY (W:=t.W) k0).1;refine ⟨go6 (S.getD 2 0) src.length (λa=>src.getD a.toNat 0) b (3+(i:Nat)) .tr t,u7,u8,_,u11,B2,ts2,rfl,e,?_,kn2,ik,k0,?_,?_,s2,h6,ta3⟩
   ·show trW t.W t.fs<=W
    omega
   ·show t.fs.length<=(i+1)*256
    rw [Nat.add_mul];omega
   ·show t.T.length<=_
    rw [Nat.add_mul];omega
  refine ⟨rfl,_,rfl,xc (hz1 xt) ?_⟩;refine ⟨_,rfl,(t.W:Nat),rfl,(by omega),(by omega),?_⟩;rw [q0z]
  obtain ⟨LL6,OKL,eS,eZ,eE⟩:∃ LL6:Nat->T6,(∀ n,L6 t (LL6 n) n)/\(∀ n,LL6 (n+1)=one6 (S.getD 2 0) src.length (λa=>src.getD a.toNat 0) b (3+(i:Nat)) x n (LL6 n))/\LL6 0=t/\LL6 t.W=go6 (S.getD 2 0) src.length (λa=>src.getD a.toNat 0) b (3+(i:Nat)) x t :=
   ⟨λn=>ZX (S.getD 2 0) src.length (λa=>src.getD a.toNat 0) b (3+(i:Nat)) x n t,λn=>Xd _ _ _ _ _ gx ks' kn2 ik k0 n,λn=>rfl,rfl,za6 _ _ _ _ _ xt t⟩
  rw [← eE] at e;clear eE;refine xh (lo:=0) (n:=t.W) (λj σ J=>∃ (u8 u11:Jo) (B3:Hp) (ts3:Jg),σ=[rq sa,rq ra,iq b,iq t.W,rq so,rq st,rq tc,u7,u8,rq fa,iq (0+(i:Nat)),u11]/\Same B B3/\Hd B3 ((fa,.dK (LL6 j).fs)::(tc,.lst (ts3.map V.ref))::yq p q (LL6 j).nu D) J/\TAt B3 ts3 (LL6 j).T) ⟨u8,u11,B2,ts2,rfl,s2,by rw [eZ];exact h3,by rw [eZ];exact ta3⟩ ?_ ?_
  ·clear h3 ta3 s2J
   rintro j σ J2 hj ⟨u8,u11,B3,ts3,rfl,s3,h4,ta4⟩;have O:=OKL j;rw [eS j];generalize LL6 j=u at O h4 ta4 ⊢;have s3J:Same B J2:=s3.trans h4.sm;refine ⟨_,rfl,_,rfl,fa,_,rfl,DGet.k (k:=.inl ((0:Int)+(j:Nat))) (h4.get 0 rfl),?_⟩;rw [show (0:Int)+(j:Nat)=(j:Nat) from Int.zero_add _];refine ⟨_,rfl,?_⟩;refine iteNot (λc=>?_) (λc=>?_)
   ·rw [show one6 (S.getD 2 0) src.length (λa=>src.getD a.toNat 0) b (3+(i:Nat)) x j u=u from if_pos c]
    exact ⟨_,u11,B3,ts3,rfl,s3,h4,ta4⟩
   rw [show one6 (S.getD 2 0) src.length (λa=>src.getD a.toNat 0) b (3+(i:Nat)) x j u=za7 (S.getD 2 0) src.length (λa=>src.getD a.toNat 0) b (3+(i:Nat)) x j u from if_neg (by rw [c];decide)];obtain ⟨m,hm⟩:∃ m:Nat,b+(j:Int)=m:=⟨(b+(j:Int)).toNat,by omega⟩;obtain ⟨dd,hdd⟩:∃ a,D[m]?=some a:=⟨D[m]'(by omega),List.getElem?_eq_getElem _⟩
   obtain ⟨B0,s40,h40,back⟩:=two_of h4 (2+m) 1 (by omega) (a:=dd) (o:=.dK (yv p q (nAt u.nu (m:Nat)))) (by rw [Nat.add_comm];exact zak hdd) rfl (λx hx=>by
    rcases List.mem_cons.mp hx with rfl | hx
    ·trivial
    rcases List.mem_cons.mp hx with rfl | hx
    ·trivial
    exact dicts_tup x hx)
   have sB0:Same B B0:=s3.trans s40;have s40J:Same B0 J2:=h40.sm;have O1:=O.fl;have O2:=O.tl;refine ⟨_,rfl,_,rfl,sa,_,_,_,rfl,rfl,zo qs s3J,sat,_,rfl,_,rfl,_,rfl,_,_,rfl,rfl,ra,_,_,_,rfl,rfl,zo qr s3J,(by rw [hm];exact zJ (by rw [List.getElem?_map,hdd];rfl)),_,rfl,_,_,rfl,rfl,_,rfl,_,rfl,st,_,_,_,rfl,rfl,zo qt s3J,Sat 2 (by decide),_,rfl,B0,ai,dd,so,tc,ts3,u.T,src,nAt u.nu (m:Nat),x,p,q,r,3+(0+(i:Nat)),S.getD 2 0,rfl,SqT.of (sB0 _ _ eT),h40,zo qo sB0,ta4.same s40,pq,xt,gx,λs=>O.kn s _,s100,(by omega),λnb J5 s5=>?_,λnb B5 J5 ts5 s5 h5 ta5=>?_⟩
   ·have h5:=Hd_same2 h4 s5
    refine ⟨_,rfl,rfl,_,rfl,xG ?_⟩;rw [show za7 (S.getD 2 0) src.length (λa=>src.getD a.toNat 0) b (3+(i:Nat)) x j u=⟨u.W,zW u.fs (.inl (j:Int)) (.str x.z),u.nu,u.T⟩ from if_pos (by rw [hm];exact nb)];refine ⟨_,rfl,_,rfl,_,rfl,fa,_,rfl,DPut.k (k:=.inl (j:Int)) (h5.get 0 rfl) (by omega),?_⟩;exact ⟨_,_,B3,ts3,rfl,s3,h5.put 0 rfl,ta4⟩
   ·refine ⟨_,rfl,rfl,_,rfl,yw ?_⟩
    rw [show za7 (S.getD 2 0) src.length (λa=>src.getD a.toNat 0) b (3+(i:Nat)) x j u=⟨u.W,u.fs,setE u.nu (m:Nat) (x.lay (λa=>src.getD a.toNat 0) (nAt u.nu (m:Nat))),u.T++x.tc (S.getD 2 0) (3+(i:Nat)) (nAt u.nu (m:Nat))⟩ from (if_neg (by rw [hm,nb];decide)).trans (by rw [hm])];obtain ⟨B6,s6,h6,tp⟩:=back B5 J5 (.dK (yv p q (x.lay (λa=>src.getD a.toNat 0) (nAt u.nu (m:Nat))))) (.lst (ts5.map V.ref)) trivial trivial s5 h5;refine ⟨_,_,B6,ts5,rfl,s3.trans s6,?_,?_⟩
    ·have e6:(((fa,HO.dK u.fs)::(tc,HO.lst (ts3.map V.ref))::yq p q u.nu D).set (2+m) (dd,.dK (yv p q (x.lay (λa=>src.getD a.toNat 0) (nAt u.nu (m:Nat)))))).set 1 (tc,.lst (ts5.map V.ref))=(fa,HO.dK u.fs)::(tc,HO.lst (ts5.map V.ref))::yq p q (setE u.nu (m:Nat) (x.lay (λa=>src.getD a.toNat 0) (nAt u.nu (m:Nat)))) D:=by
      rw [Nat.add_comm,← dicts_set hdd];rfl
     rw [e6] at h6;exact h6
    ·rw [Int.zero_add] at ta5
     exact ⟨ta5.n,λk a pp x y=>tp _ _ (ta5.t k a pp x y)⟩
  ·rintro σ J2 ⟨u8,u11,B3,ts3,rfl,s3,h4,ta4⟩
   have O:=OKL t.W;have O1:=O.fl;have O2:=O.tl;refine ⟨LL6 t.W,u7,u8,some (.int (0+(i:Nat))),u11,B3,ts3,?_,e,?_,O.kn,O.ik,O.k0,?_,?_,s3,h4,ta4⟩
   ·rw [O.W]
   ·rw [O.W];exact tW
   ·rw [Nat.add_mul];omega
   ·rw [Nat.add_mul];omega
 ·rintro σ J ⟨t,u7,u8,u10,u11,B2,ts2,rfl,e,_,_,_,_,_,_,s2,h3,ta3⟩
  rw [List.drop_length] at e;have e:t=TF:=e;subst e;exact ⟨_,rfl,k B2 J ts2 fa s2 h3 ta3⟩
end K36
namespace K36
open PySem L2
structure Q6 (W0:Nat) (t:T6):Prop where
 kn:∀ s e,Kin (t.nu s e)
 ik:yV t.fs
 kb:∀ j∈zy t.fs,0<=j/\j<(W0:Nat)
 le:t.W<=W0
 c:t.W=W0∨(t.W:Int)∈zy t.fs
def Xe {W0:Nat} {t:T6} (z:Str) (bad:Int->Bool) (h:Q6 W0 t):(∀ j∈zy (yp z t.fs (t.act.filter bad)),0<=j/\j<(W0:Nat))/\(t.W=W0∨(t.W:Int)∈zy (yp z t.fs (t.act.filter bad))):=by
 refine ⟨λj hj=>?_,?_⟩
 ·rw [zY,xw,Bool.or_eq_true] at hj
  rcases hj with hj | hj
  ·exact h.kb j ((zY _ _).mpr hj)
  ·obtain ⟨a0,a1,_⟩:=act6_mem.mp (List.mem_filter.mp (of_decide_eq_true hj)).1
   have:=h.le;omega
 ·rcases h.c with c | c
  ·exact .inl c
  ·right
   rw [zY,xw,(zY _ _).mp c];rfl
theorem go6_q {W0:Nat} {st SN:Int} {sr:Int->Int} {b a:Int} {x:Sp6} {t:T6} (gx:x.Good) (ks:∀ a,Kin (sr a)) (h:Q6 W0 t):Q6 W0 (go6 st SN sr b a x t):=by
 by_cases xt:x=.tr
 ·subst xt
  obtain ⟨w1,w2,w3⟩:=YY (W:=t.W) λj hj=>(h.kb j hj).1;have:=h.le;refine ⟨h.kn,h.ik,h.kb,by show trW t.W t.fs<=W0;omega,?_⟩;show trW t.W t.fs=W0∨((trW t.W t.fs:Nat):Int)∈zy t.fs;rcases w3 with w3 | w3
  ·rw [w3];exact h.c
  ·exact .inr w3
 ·have O:=Xd st SN sr b a gx ks h.kn h.ik (λj hj=>(h.kb j hj).1) t.W
  rw [za6 _ _ _ _ _ xt] at O;have le:(go6 st SN sr b a x t).W<=W0:=by rw [O.W];exact h.le
  cases x with
  | tr=>exact absurd rfl xt
  | ga x y=>exact ⟨O.kn,O.ik,(Xe "outside" _ h).1,le,(Xe "outside" _ h).2⟩
  | rc x n=>exact ⟨O.kn,O.ik,(Xe "outside" _ h).1,le,(Xe "outside" _ h).2⟩
  | op x sg y z=>exact ⟨O.kn,O.ik,(Xe "nought" _ h).1,le,(Xe "nought" _ h).2⟩
theorem run6_q {W0:Nat} {st SN:Int} {sr:Int->Int} {b:Int} (ks:∀ a,Kin (sr a)):∀ (xs:List Sp6) (a:Int) {t:T6},(∀ x∈xs,x.Good)->Q6 W0 t->Q6 W0 (yD st SN sr b a xs t)
 | [],_,_,_,h=>h
 | x::xs,a,t,g,h=>run6_q ks xs (a+1) (λy hy=>g y (q1y _ hy)) (go6_q (g x q1z) ks h)
structure Al6 (b:Int) (W0:Nat) (t u:T6):Prop where
 W:t.W=u.W
 fs:t.fs=u.fs
 T:t.T=u.T
 nu:∀ s (j:Int),0<=j->j<(W0:Nat)->t.nu s (b+j)=u.nu s (b+j)
 le:t.W<=W0
def Al6.act {b:Int} {W0:Nat} {t u:T6} (h:Al6 b W0 t u):t.act=u.act:=by unfold T6.act;rw [h.W,h.fs]
def Al6.at {b:Int} {W0:Nat} {t u:T6} (h:Al6 b W0 t u) {j:Int} (hj:j∈u.act) (s:Bool):t.nu s (b+j)=u.nu s (b+j):=by
 rw [← h.act] at hj;obtain ⟨a0,a1,_⟩:=act6_mem.mp hj;have:=h.le;exact h.nu s j a0 (by omega)
def Al6.lay {b:Int} {W0:Nat} {t u:T6} (h:Al6 b W0 t u) {x:Bool} {g g':Int->Option Int} (hg:∀ j∈u.act,g (b+j)=g' (b+j)):∀ s (j:Int),0<=j->j<(W0:Nat)->Xc t.nu x b t.act g s (b+j)=Xc u.nu x b u.act g' s (b+j):=λs j h0 h1=>by
 unfold Xc;rw [h.act,h.nu s j h0 h1];by_cases c:s=x/\b+j-b∈u.act
 ·rw [if_pos c,if_pos c,hg j (by have:=c.2;rwa [show b+j-b=j by omega] at this)]
 ·rw [if_neg c,if_neg c]
theorem go6_al {st SN:Int} {sr:Int->Int} {b a:Int} {W0:Nat} {t u:T6} (x:Sp6) (h:Al6 b W0 t u):Al6 b W0 (go6 st SN sr b a x t) (go6 st SN sr b a x u):=by
 cases x with
 | tr =>
  refine ⟨by show trW t.W t.fs=trW u.W u.fs;rw [h.W,h.fs],h.fs,h.T,h.nu,?_⟩;have:=(XH (zy t.fs) (t.W:Int)).1;have:=h.le;show ((zy t.fs).foldl min (t.W:Int)).toNat<=W0;omega
 | ga x y =>
  refine ⟨h.W,?_,?_,h.lay (x:=x) (g:=(λe=>if gIn SN (t.nu y e)=true then some (sr (t.nu y e)) else none)) (g':=(λe=>if gIn SN (u.nu y e)=true then some (sr (u.nu y e)) else none)) λj hj=>?_,h.le⟩
  ·show xu t.fs (t.act.filter _)=xu u.fs (u.act.filter _)
   rw [h.fs,h.act,List.filter_congr λj hj=>by rw [h.at hj y]]
  ·show t.T++((t.act.map (b+·)).filter λe=>gIn SN (t.nu y e)).map _=u.T++((u.act.map (b+·)).filter λe=>gIn SN (u.nu y e)).map _
   have hm:∀ e∈u.act.map (b+·),t.nu y e=u.nu y e:=λe he=>by
    obtain ⟨j,hj,rfl⟩:=List.mem_map.mp he;exact h.at hj y
   rw [h.T,h.act,List.filter_congr λe he=>by rw [hm e he]];congr 1;exact List.map_congr_left λe he=>by rw [hm e (List.mem_filter.mp he).1]
  ·rw [h.at hj y]
 | rc x n =>
  refine ⟨h.W,?_,h.T,h.nu,h.le⟩;show xu t.fs (t.act.filter _)=xu u.fs (u.act.filter _);rw [h.fs,h.act,List.filter_congr λj hj=>by rw [h.at hj x]]
 | op x sg y z =>
  refine ⟨h.W,?_,h.T,h.lay (x:=x) (g:=(λe=>zV sg (t.nu y e) (t.nu z e))) (g':=(λe=>zV sg (u.nu y e) (u.nu z e))) λj hj=>?_,h.le⟩
  ·show yp _ t.fs (t.act.filter _)=yp _ u.fs (u.act.filter _)
   rw [h.fs,h.act,List.filter_congr λj hj=>by rw [h.at hj y,h.at hj z]]
  ·rw [h.at hj y,h.at hj z]
theorem run6_al {st SN:Int} {sr:Int->Int} {b:Int} {W0:Nat}:∀ (xs:List Sp6) (a:Int) {t u:T6},Al6 b W0 t u->Al6 b W0 (yD st SN sr b a xs t) (yD st SN sr b a xs u)
 | [],_,_,_,h=>h
 | x::xs,a,_,_,h=>run6_al xs (a+1) (go6_al x h)
theorem go6_out {st SN:Int} {sr:Int->Int} {b a e:Int} {t:T6} (x:Sp6) (h:e<b∨b+(t.W:Nat)<=e) (s:Bool):(go6 st SN sr b a x t).nu s e=t.nu s e:=by
 have lay:∀ x g,Xc t.nu x b t.act g s e=t.nu s e:=λx g=>if_neg λw=>by
  obtain ⟨a0,a1,_⟩:=act6_mem.mp w.2;omega
 cases x with
 | tr=>rfl
 | rc x n=>rfl
 | ga x y=>exact lay x (λe=>if gIn SN (t.nu y e)=true then some (sr (t.nu y e)) else none)
 | op x sg y z=>exact lay x (λe=>zV sg (t.nu y e) (t.nu z e))
theorem zc4 {st SN:Int} {sr:Int->Int} {b e:Int}:∀ (xs:List Sp6) (a:Int) {t:T6},(e<b∨b+(t.W:Nat)<=e)->∀ s,(yD st SN sr b a xs t).nu s e=t.nu s e
 | [],_,_,_,_=>rfl
 | x::xs,a,t,h,s=>by
  have w:=go6_W st SN sr b a x t;exact (zc4 xs (a+1) (t:=go6 st SN sr b a x t) (by omega) s).trans (go6_out x h s)
def r6Of (s0 s1 s2 s3:Int) (os ot src:Jb) (xs:List Sp6) (n:Int):R6:=⟨s0,s1,s2,s3,src.length,λa=>src.getD a.toNat 0,λs e=>cond s (ot.getD e.toNat 0) (os.getD e.toNat 0),xs,n⟩
def rows_ok {zs:List (Ad×Jb)} {x0 x1 x2 x3:Ad} {os ot src tg:Jb} {tn mn:Nat} (l4:zs.length=4) (t4:tn<4) (rot:∀ j:Nat,j<4->(((j:Int)-tn) % (4:Nat)).toNat<4/\zs[(((j:Int)-tn) % (4:Nat)).toNat]?=[(x0,os),(x1,ot),(x2,src),(x3,tg)][j]?) (l0:os.length=mn) (l1:ot.length=mn) (l3:tg.length=mn) :
  ∃ r0 r1 r2 r3:Nat,(((0:Nat):Int)-tn) % (4:Nat)=r0/\(((1:Nat):Int)-tn) % (4:Nat)=r1/\(((2:Nat):Int)-tn) % (4:Nat)=r2/\(((3:Nat):Int)-tn) % (4:Nat)=r3/\(r0<4/\r1<4/\r2<4/\r3<4)/\(zs.map λp=>(p.2.length:Int)).getD r2 0=src.length /\
   ∀ xs n,(r6Of ((zs.map λp=>(p.2.length:Int)).take r0).sum ((zs.map λp=>(p.2.length:Int)).take r1).sum ((zs.map λp=>(p.2.length:Int)).take r2).sum ((zs.map λp=>(p.2.length:Int)).take r3).sum os ot src xs n).Fit mn (zs.map Prod.snd).flatten.length /\
   (r6Of ((zs.map λp=>(p.2.length:Int)).take r0).sum ((zs.map λp=>(p.2.length:Int)).take r1).sum ((zs.map λp=>(p.2.length:Int)).take r2).sum ((zs.map λp=>(p.2.length:Int)).take r3).sum os ot src xs n).At mn (zs.map Prod.snd).flatten:=by
 have R0:=rot 0 (by decide);have R1:=rot 1 (by decide);have R2:=rot 2 (by decide);have R3:=rot 3 (by decide);obtain ⟨r0,hr0⟩:∃ n:Nat,(((0:Nat):Int)-tn) % (4:Nat)=n:=⟨((((0:Nat):Int)-tn) % (4:Nat)).toNat,(Int.toNat_of_nonneg (Int.emod_nonneg _ (by decide))).symm⟩;obtain ⟨r1,hr1⟩:∃ n:Nat,(((1:Nat):Int)-tn) % (4:Nat)=n:=⟨((((1:Nat):Int)-tn) % (4:Nat)).toNat,(Int.toNat_of_nonneg (Int.emod_nonneg _ (by decide))).symm⟩;obtain ⟨r2,hr2⟩:∃ n:Nat,(((2:Nat):Int)-tn) % (4:Nat)=n:=⟨((((2:Nat):Int)-tn) % (4:Nat)).toNat,(Int.toNat_of_nonneg (Int.emod_nonneg _ (by decide))).symm⟩;obtain ⟨r3,hr3⟩:∃ n:Nat,(((3:Nat):Int)-tn) % (4:Nat)=n:=⟨((((3:Nat):Int)-tn) % (4:Nat)).toNat,(Int.toNat_of_nonneg (Int.emod_nonneg _ (by decide))).symm⟩;rw [hr0,q0z] at R0;rw [hr1,q0z] at R1;rw [hr2,q0z] at R2;rw [hr3,q0z] at R3
 have ap:r0≠r3/\r1≠r3/\r2≠r3:=by
  clear R0 R1 R2 R3 rot l0 l1 l3;omega
 refine ⟨r0,r1,r2,r3,hr0,hr1,hr2,hr3,⟨R0.1,R1.1,R2.1,R3.1⟩,?_⟩;clear rot hr0 hr1 hr2 hr3;generalize hlens:(zs.map λp=>(p.2.length:Int))=lens;generalize hcells:(zs.map Prod.snd).flatten=cells;have ll:lens.length=4:=by rw [← hlens,Ji];exact l4
 have lpos:∀ v∈lens,0<=v:=λv hv=>by
  rw [← hlens] at hv;obtain ⟨z,_,rfl⟩:=List.mem_map.mp hv;exact Int.natCast_nonneg _
 have gd:∀ {r:Nat} {z:Ad×Jb},zs[r]?=some z->lens.getD r 0=z.2.length:=λ{r z} h=>by
  rw [← hlens,q1x,List.getElem?_map,h];rfl
 have g0:lens.getD r0 0=mn:=by rw [gd R0.2];exact congrArg _ l0
 have g1:lens.getD r1 0=mn:=by rw [gd R1.2];exact congrArg _ l1
 have g2:lens.getD r2 0=src.length:=gd R2.2;have g3:lens.getD r3 0=mn:=by rw [gd R3.2];exact congrArg _ l3
 have elm:(zs.map Prod.snd).map (λl=>(l.length:Int))=lens:=by rw [← hlens,List.map_map];rfl
 have clen:((cells.length:Nat):Int)=lens.sum:=by rw [← hcells,← elm];exact flat_len _
 have flt:∀ {r:Nat} {z:Ad×Jb},zs[r]?=some z->∀ e:Int,0<=e->e<z.2.length->cells.getD ((lens.take r).sum+e).toNat 0=z.2.getD e.toNat 0:=λ{r z} h e h0 h1=>by
  have:=(flat_at (zs.map Prod.snd) r e.toNat z.2 (by rw [List.getElem?_map,h];rfl) (by omega)).1;rw [hcells,Int.toNat_of_nonneg h0,elm] at this;exact this
 have rm:∀ {r:Nat} {m:Int},r<4->lens.getD r 0=m->0<=(lens.take r).sum/\(lens.take r).sum+m<=(cells.length:Nat):=λ{r m} hr e=>by
  rw [clen];exact row_room lpos (by rw [ll];exact hr) (by rw [e];exact Int.le_refl _)
 have apart:∀ {r:Nat} {m:Int},r<4->r≠r3->lens.getD r 0=m->(lens.take r).sum+m<=(lens.take r3).sum∨(lens.take r3).sum+mn<=(lens.take r).sum:=λ{r m} hr ne e=>by
  rcases Nat.lt_or_gt_of_ne ne with c | c
  ·left;rw [← e];exact XS lpos c (by rw [ll];exact hr)
  ·right;rw [← g3];exact XS lpos c (by rw [ll];exact R3.1)
 refine ⟨g2,λxs n=>⟨⟨rm R0.1 g0,rm R1.1 g1,rm R2.1 g2,rm R3.1 g3,apart R0.1 ap.1 g0,apart R1.1 ap.2.1 g1,apart R2.1 ap.2.2 g2⟩,⟨λe h0 h1=>⟨flt R0.2 e h0 (by show e<(os.length:Int);omega),flt R1.2 e h0 (by show e<(ot.length:Int);omega)⟩,λa ha=>?_⟩⟩⟩;have hg:0<=a/\a<(src.length:Int):=by unfold gIn at ha;rw [Bool.and_eq_true] at ha;exact ⟨of_decide_eq_true ha.1,of_decide_eq_true ha.2⟩
 exact (flt R2.2 a hg.1 hg.2).symm
def sz (n:Nat) (h:n<=1000:=by decide):n<=sizeLine:=Nat.le_trans h (by decide)
def kin_snoc {ls:Jb} {v:Int} (h:∀ x∈ls,Kin x) (k:Kin v):∀ x∈ls++[v],Kin x:=λx hx=>by
 rcases List.mem_append.mp hx with hx | hx
 ·exact h x hx
 ·cases List.mem_singleton.mp hx;exact k
theorem xH {B:Hp} {t:Ad} {tv:Jn} (e:B t=some (.tup tv)):CodeAt B [t] [tv]:=⟨rfl,λi b v hx hy=>by
 match i,hx,hy with
 | 0,hx,hy=>cases hx;cases hy;exact e
 | i+1,hx,hy=>cases hx⟩
def CodeAt.same {B B':Hp} {cs:Jg} {code:List (Jn)} (h:CodeAt B cs code) (s:Same B B'):CodeAt B' cs code:=⟨h.n,λi a tv x y=>s _ _ (h.t i a tv x y)⟩
def Hd_un {B H:Hp} {L:Jm} {a:Ad} {o:HO} (h:Hd B L H) (e:B a=some o):Hd (but B [a]) ((a,o)::L) H :=
 Hd.add (h.weak but_sub) (λp m z=>by have:=h.nw p m;rw [z,e] at this;cases this) (Zd (by simp)) (h.sm _ _ e)
def same_un {G B:Hp} {a:Ad} (s:Same G B) (n:G a=none):Same G (but B [a]):=λx o e=>yZ (s _ _ e) λm=>by rw [List.mem_singleton.mp m,n] at e;cases e
def ta_un {B:Hp} {a:Ad} {xs:Jn} {ts:Jg} {T:List Tch} (h:TAt B ts T) (e:B a=some (.lst xs)):TAt (but B [a]) ts T:=⟨h.n,λi t p x y=>yZ (h.t i t p x y) λm=>by
 have:=h.t i t p x y;rw [List.mem_singleton.mp m,e] at this;cases this⟩
def zeo (p q:Nat) (nu:Bool->Int->Int) (D:Jg) (d:Ad):yq p q nu (D++[d])=yq p q nu D++[(d,.dK (yv p q (nAt nu (D.length:Nat))))]:=by
 unfold yq;rw [List.mapIdx_append];congr 1;show [(d,HO.dK (yv p q (nAt nu ((0+D.length:Nat):Int))))]=_;rw [Nat.zero_add]
def zeb {p q:Nat} (pq:p≠q) (n:Bool->Int):Xa [] (yv p q n)=yv p q n:=by
 have ne:¬ (Sum.inl (p:Int):Key)=Sum.inl (q:Int):=λz=>by injection z with z;omega
 have h:=ZW pq n true (n true)
 have e2:(λs=>if s=true then n true else n s)=n:=by
  funext s;cases s <;> rfl
 rw [e2] at h;show zW (zW [] (Sum.inl (p:Int)) (.int (n false))) (Sum.inl (q:Int)) (.int (n true))=_;have e1:zW ([]:Jl) (Sum.inl (p:Int)) (.int (n false))=[((Sum.inl (p:Int):Key),V.int (n false))]:=rfl;rw [e1];unfold zW;rw [xE,show zN [((Sum.inl (p:Int):Key),V.int (n false))] (Sum.inl (q:Int))=none from (yi ne).trans rfl];rfl
theorem keysV:∀ {fs:Jl},yV fs->(fs.map λq=>kV q.1)=(zy fs).map V.int
 | [],_=>rfl
 | p::fs,h=>by
  obtain ⟨j,hj⟩:=h p q1z;obtain ⟨k,v⟩:=p;have hj:k=.inl j:=hj;subst hj;show V.int j::_=V.int j::(zy fs).map V.int;rw [keysV λq hq=>h q (q1y _ hq)]
theorem go6_fl (st SN:Int) (sr:Int->Int) (b a:Int) (x:Sp6) (t:T6):(go6 st SN sr b a x t).fs.length<=t.fs.length+t.W:=by
 have h:∀ z bad,(yp z t.fs (t.act.filter bad)).length<=t.fs.length+t.W:=λz bad=>by
  have h1:=Xf z (t.act.filter bad) t.fs;have h2:=List.length_filter_le bad t.act;have h3:t.act.length<=t.W:=zcq _ _;omega
 cases x with
 | tr=>exact Nat.le_add_right _ _
 | ga x y=>exact h "outside" _
 | rc x n=>exact h "outside" _
 | op x sg y z=>exact h "nought" _
theorem run6_fl (st SN:Int) (sr:Int->Int) (b:Int) (W:Nat):∀ (xs:List Sp6) (a:Int) (t:T6),t.W<=W->(yD st SN sr b a xs t).fs.length<=t.fs.length+xs.length*W
 | [],a,t,_=>Nat.le_add_right _ _
 | x::xs,a,t,h=>by
  have h1:=go6_fl st SN sr b a x t;have h2:=go6_W st SN sr b a x t;have h3:=run6_fl st SN sr b W xs (a+1) (go6 st SN sr b a x t) (by omega);show (yD st SN sr b (a+1) xs (go6 st SN sr b a x t)).fs.length<=_;rw [q3x,Nat.add_mul,Nat.one_mul];omega
theorem mem_key {fs:Jl} {j:Int}:(.inl j:Key)∈fs.map (·.1)↔j∈zy fs:=by
 rw [zY];constructor
 ·intro h
  cases e:zN fs (.inl j) with
  | some v=>rfl
  | none=>exact absurd h (valV_not e)
 ·intro h
  obtain ⟨v,hv⟩:=Option.isSome_iff_exists.mp h;exact valV_in hv
def lay_int {n:Int} {xs:List PyData} (h2:PyData.canLayAll0 xs=true):PyData.canLayAll0 (.int n::xs)=true:=by
 simp only [PyData.canLayAll0,h2,Bool.and_true];rfl
def sign_lay {sg:Str} (h:sg∈yX):PyData.canLay0 (.str sg)=true:=by
 simp only [yX,List.mem_cons,List.mem_nil_iff,or_false] at h;rcases h with rfl | rfl | rfl | rfl | rfl | rfl | rfl | rfl | rfl | rfl | rfl | rfl <;> decide +kernel
def plain_op {p q r2:Nat} {x y z:Bool} {sg:Str} (h:sg∈yX):zbq ((Sp6.op x sg y z).tv p q r2) :=
 ⟨[.str "op",.int ((cond x q p:Nat):Int),.str sg,.int ((cond y q p:Nat):Int),.int ((cond z q p:Nat):Int),.int 0],λK H=>.cons (.str _) (.cons (.int _) (.cons (.str _) (.cons (.int _) (.cons (.int _) (.cons (.int _) .nil))))),zcf (by decide +kernel) (lay_int (zcf (sign_lay h) (Zr (ns:=[((cond y q p:Nat):Int),((cond z q p:Nat):Int),0])))),ym zcm (ym YU (ym zcm (ym YU (ym YU (ym YU XJ)))))⟩
theorem YO {ls:Jb} (h:∀ v∈ls,Kin v) (i:Nat):Kin (ls.getD i 0):=by
 rw [q1x]
 cases c:ls[i]? with
 | none=>exact ⟨by decide,by decide⟩
 | some v=>exact h v (List.mem_of_getElem? c)
section
variable {P:Program} {w:World} {K:Fg} {mg:J0} {base:Heap}
inductive spNumK (K:Fg) (vs:Jn) (H:Hp) (Q:VK) (_:XK):Prop
 | mk (a:Ad) (ns:Jb) (k:Int) (_:vs=[.ref a,.int k]) (_:SqL K H a (ns.map V.int)) (_:0<=k) (_:k<=100000) (_:∀ r,Kin r->Q (.int r) H)
def ok_numK (d:zn K mg "_law_number" ZJ ["_law_script","_law_k"]) (CA:Ok P w K mg base CX0 1 "_law_cell_at" ["_law_script","_law_k"] (spCA K)) (SM:Ok P w K mg base CX0 2 "_law_some" ["_law_script","_law_k","_law_salt","_law_many"] (spSome K)) :
  Ok P w K mg base CX0 3 "_law_number" ["_law_script","_law_k"] (spNumK K):=by
 obtain ⟨g,fd,m,F,b⟩:=d;refine ⟨g,fd,m,F.kp,b,F.ok sc_l_number (by rintro vs H Q E ⟨_,_,_,e,_⟩;rw [e];rfl) λcdv A outer s H vs Q E hr h=>?_⟩;obtain ⟨a,ns,i,rfl,hS,h0,h1,k⟩:=h;have nd:=sc_l_number.nd;have hr2:=hr;have hr1:Room 1 _:=hr.mono (by decide);refine ⟨_,(zc (zu (i:=2) nd rfl (Or.inl rfl) (zk yK (zL CA hr1 (by rfl) zt (zb (pv 0) (zb (pv 1) zd))) ze))
   (zc (zQ (zB yo (zL SM hr2 (by rfl) zt (zb (pv 0) (zb (pv 1) (zb ze (zb ze zd))))) ze (zG _)) (zg (zm (zk xJ (zk yK (zk zF (pv 2) (zk yb ze (pv 1))) ze) ze))) zv)
   (zc (zu (i:=3) nd rfl (Or.inl rfl) (zk zF (zk yb (pv 2) ze) (zk yb (zk yb (pv 1) (pv 1)) ze)))
   (zg (zm (zk xJ (zk yK (pv 3) ze) ze)))))),?_⟩
 show (let s1:L2.TS:=_;let s2:L2.TS:=L2.tSeq _ s1;let s3:L2.TS:=L2.tSeq _ s2;L2.tSeq _ s3 _ _ _);intro s1 s2 s3;refine ⟨_,rfl,_,rfl,a,ns,i,rfl,hS,h0,_,_,rfl,rfl,(by show (0:Int)<18446744073709551616;decide),?_⟩;refine ⟨_,rfl,_,rfl,a,ns,i,9,2,rfl,hS,h0,h1,by decide,by decide,by decide,λr r0 r1=>⟨rfl,_,rfl,?_⟩⟩;refine yU (λz=>?_) (λz=>?_)
 ·exact ⟨_,rfl,_,rfl,_,_,rfl,rfl,.inl ⟨by decide,by decide⟩,_,_,rfl,rfl,_,_,rfl,rfl,(by show (0:Int)<41;decide),_,_,rfl,rfl,k _ (by unfold Kin;omega)⟩
 ·have c0:=Int.emod_nonneg (ns.getD i.toNat 0) (show (18446744073709551616:Int)≠0 by decide)
  have c1:=Int.emod_lt_of_pos (ns.getD i.toNat 0) (show (0:Int)<18446744073709551616 by decide);exact ⟨_,rfl,_,_,rfl,rfl,.inr ⟨by decide,by decide⟩,_,rfl,_,rfl,_,_,rfl,rfl,.inl ⟨by omega,by omega⟩,_,_,rfl,rfl,.inr ⟨by decide,by decide⟩,_,_,rfl,rfl,_,rfl,_,_,rfl,rfl,(by show (0:Int)<18446744073709551616;decide),_,_,rfl,rfl,k _ (by unfold Kin;omega)⟩
def Z9 {H:Hp} {a x0:Ad} {ns:Jb} {n:Nat} {C:Int} {Q:VK} (hS:SqL K H a (ns.map V.int)) (nx:H x0=none) (hn:n<=1000) (c0:0<=C) (c1:C<=1000) (q:∀ (H':Hp) (ls:Jb),ls.length=n->(∀ v∈ls,Kin v)->Hd H [(x0,.lst (ls.map V.int))] H'->Q (.ref x0) H') :
  CompW (Itr 0 n) (Xr 0) (XT (spNumK K) [] E0 (ZQ (tVar 1) (ZQ (tOp (rI0 λi j=>V.int (i+j)) (tC (V.int C)) (tVar 0)) tNil))) [none,rq a] (upd H x0 (.lst [])) x0 Q:=by
 have h0:Hd H [(x0,.lst (([]:Jb).map V.int))] (upd H x0 (.lst [])):=Hd.base.new nx;have SL:(200000:Nat)<sizeLine:=by decide
 refine xf (n:=n) (λi σ J=>∃ u ls,ls.length=i/\(∀ v∈ls,Kin v)/\σ=[u,rq a]/\Hd H [(x0,.lst (List.map V.int ls))] J) ⟨none,[],rfl,(λv h=>nomatch h),rfl,h0⟩ ?_ ?_
 ·rintro i σ J hi ⟨u,ls,ll,lk,rfl,h⟩
  refine ⟨_,rfl,_,rfl,_,_,rfl,rfl,a,ns,_,rfl,h.sql hS,(by show 0<=C+(0+(i:Int));omega),(by show C+(0+(i:Int))<=100000;omega),λv kv=>?_⟩;refine ⟨_,h.get 0 rfl,(by rw [Ji];omega),_,ls++[v],(by rw [Jj,ll];rfl),kin_snoc lk kv,rfl,?_⟩;rw [Jk];exact h.put 0 rfl
 rintro σ H1 ⟨u,os,l0,k0,rfl,h⟩;exact q H1 os l0 k0 h
inductive spLaw (K:Fg) (vs:Jn) (H:Hp) (Q:VK) (_:XK):Prop
 | mk (a:Ad) (ns:Jb) (_:vs=[.ref a]) (_:SqL K H a (ns.map V.int)) (_:ns.length<=63) (_:∀ H',Q (.bl true) H')
theorem ok_law {c:MCs} {f:Ad} {fd:FuncData} {Lx:Lex} (F:Fun K "law" "law" XY f fd) (hlen:mg "len"=none) (hrg:mg "range"=none) (hlist:mg "list"=none) (hsum:mg "sum"=none) (hmin:mg "min"=none)
  (CA:Ok P w K mg base CX0 1 "_law_cell_at" ["_law_script","_law_k"] (spCA K)) (SM:Ok P w K mg base CX0 2 "_law_some" ["_law_script","_law_k","_law_salt","_law_many"] (spSome K)) (LA:Ok P w K mg base CX0 1 "_law_lanes" ["_law_cell"] spLanes) (GR:Ok P w K mg base CX0 3 "_law_group" ["_law_script","_law_k","_law_salt"] (spGroup K))
  (NB:Ok P w K mg base CX0 3 "_law_number" ["_law_script","_law_k"] (spNumK K)) (DU:Ok P w K mg base CX0 4 "_law_dust" ["_law_script","_law_k","_law_salt"] (spDust K))
  (LT:Ok P w K mg base CX0 3 "_law_step" ["_law_script","_law_k","_law_seats","_law_row"] (spStep6 K))
  (ST:Ok P w K mg base CX0 4 "_law_strip" ["_law_steps","_law_rows","_law_base","_law_width","_law_source","_law_start","_law_touches"] (spStrip6 K))
  (AL:Ok P w K mg base CX0 5 "_law_alike" ["_law_found","_law_due"] (spAlike 3)) (RN:Ok P w K mg base CX0 11 "_law_ran" ["_law_code","_law_lengths","_law_cells","_law_lanes_here","_law_dust_here","_law_picks"] (spLRan c K Lx))
  (xB:Lx.W "begin" ZY) (xN:Lx.W "next" Xn) (lx:Lx6 Lx) (xL:Lx.S "load" ZR) (xS:Lx.E "store" Za) (xP:Lx.E "stop" Zz) :
  FnOk P w K mg base CX0 12 f fd ["_law_script"] (spLaw K):=by
 refine F.ok sc_law (by rintro vs H Q E ⟨_,_,e,_⟩;rw [e];rfl) λcdv A outer s H vs Q E hr h=>?_;obtain ⟨a,ns,rfl,hS,hn,k⟩:=h;have nd:=sc_law.nd;have hr1:Room 1 _:=hr.mono (by decide);have hr2:Room 2 _:=hr.mono (by decide);have hr3:Room 3 _:=hr.mono (by decide);have hr4:Room 4 _:=hr.mono (by decide);have hr5:Room 5 _:=hr.mono (by decide);have hr8:Room 11 _:=hr;have hu:=Nat.lt_of_le_of_lt (Nat.add_le_add_left (show 1<=64 by decide) _) hr.units;have SL:(200000:Nat)<sizeLine:=by decide
 refine ⟨_,(zc (ZV (zu (i:=1) nd rfl (Or.inl rfl) (zk zF ze (zL SM hr2 (by rfl) zt (zb (pv 0) (zb ze (zb ze (zb ze zd))))))))
   (zc (zu (i:=2) nd rfl (Or.inr rfl) (yk ["_law_k","_law_script"] [none,some 0] rfl rfl rfl (zU rfl hrg (zb (pv 1) zd)) (λs3 H3 fp=>⟨zC (i:=0) (Jp ["_law_k","_law_script"]) rfl (Or.inl rfl),(zL NB hr3 (by rfl) zt (zb (pv 1) (zb (zk zF ze (pv 0)) zd)))⟩)))
   (zc (zu (i:=4) nd rfl (Or.inr rfl) (yk ["_law_k","_law_script"] [none,some 0] rfl rfl rfl (zU rfl hrg (zb (pv 1) zd)) (λs3 H3 fp=>⟨zC (i:=0) (Jp ["_law_k","_law_script"]) rfl (Or.inl rfl),(zL NB hr3 (by rfl) zt (zb (pv 1) (zb (zk zF ze (pv 0)) zd)))⟩)))
   (zc (ZV (zQ (zB yo (zL SM hr2 (by rfl) zt (zb (pv 0) (zb ze (zb ze (zb ze zd))))) ze (zG _)) (zg (zu (i:=4) nd rfl (Or.inr rfl) (yk ["_law_number_here"] [none] rfl rfl rfl (Z6 (pv 4)) (λs3 H3 fp=>⟨zC (i:=0) (Jp ["_law_number_here"]) rfl (Or.inl rfl),(zk xJ (zk yK (pv 0) ze) ze)⟩)))) zv))
   (zc (X4 (i:=6) ["_law_k","_law_script"] [none,some 0] rfl rfl rfl (zU rfl hrg (zb (zk zF ze (zL SM hr2 (by rfl) zt (zb (pv 0) (zb ze (zb ze (zb ze zd)))))) zd)) (λs3 H3 fp=>⟨zC (i:=0) (Jp ["_law_k","_law_script"]) rfl (Or.inl rfl),(zL NB hr3 (by rfl) zt (zb (pv 1) (zb (zk zF ze (pv 0)) zd)))⟩) nd rfl (Or.inl rfl))
   (zc (ZV (zu (i:=7) nd rfl (Or.inr rfl) (zL SM hr2 (by rfl) zt (zb (pv 0) (zb ze (zb ze (zb ze zd)))))))
   (zc (zu (i:=8) nd rfl (Or.inl rfl) (yJ (zb (pv 2) (zb (pv 4) (zb (pv 6) (zb (yk ["_law_k","_law_script"] [none,some 0] rfl rfl rfl (zU rfl hrg (zb (pv 1) zd)) (λs3 H3 fp=>⟨zC (i:=0) (Jp ["_law_k","_law_script"]) rfl (Or.inl rfl),(zL NB hr3 (by rfl) zt (zb (pv 1) (zb (zk zF ze (pv 0)) zd)))⟩)) zd))))))
   (zc (zu (i:=8) nd rfl (Or.inl rfl) (zk ZN (YG Xv (pv 8) (XB (pv 7)) XC) (YG Xv (pv 8) XC (XB (pv 7)))))
   (zc (zu (i:=9) nd rfl (Or.inr rfl) (yk ["_law_part"] [none] rfl rfl rfl (Z6 (pv 8)) (λs3 H3 fp=>⟨zC (i:=0) (Jp ["_law_part"]) rfl (Or.inl rfl),(zw (call_lenK (K:=K) rfl) (by rfl) hlen PySem.boot_len (zb (pv 0) zd))⟩)))
   (zc (zu (i:=11) nd rfl (Or.inl rfl) (zk ZN (zk ZN (zk ZN (zr zE (pv 8) ze (λ_ _=>rfl)) (zr zE (pv 8) ze (λ_ _=>rfl))) (zr zE (pv 8) ze (λ_ _=>rfl))) (zr zE (pv 8) ze (λ_ _=>rfl))))
   (zc (zu (i:=12) nd rfl (Or.inr rfl) (yk ["_law_k","_law_turn"] [none,some 7] rfl rfl rfl (zU rfl hrg (zb ze zd)) (λs3 H3 fp=>⟨zC (i:=0) (Jp ["_law_k","_law_turn"]) rfl (Or.inl rfl),(zk yK (zk xJ (pv 0) (pv 1)) ze)⟩)))
   (zc (X4 (i:=13) ["_law_k","_law_lengths"] [none,some 9] rfl rfl rfl (Z6 (pv 12)) (λs3 H3 fp=>⟨zC (i:=0) (Jp ["_law_k","_law_lengths"]) rfl (Or.inl rfl),(zw (call_sumK (K:=K) rfl rfl) (by rfl) hsum PyProof.Rows.boot_sum (zb (YG (sl_listK (K:=K) rfl) (pv 1) XC (XB (pv 0))) zd))⟩) nd rfl (Or.inl rfl))
   (zc (ZV (zu (i:=14) nd rfl (Or.inl rfl) (zL LA hr1 (by rfl) zt (zb (zL CA hr1 (by rfl) zt (zb (pv 0) (zb ze zd))) zd))))
   (zc (zu (i:=15) nd rfl (Or.inl rfl) (zL GR hr3 (by rfl) zt (zb (pv 0) (zb ze (zb ze zd)))))
   (zc (zu (i:=16) nd rfl (Or.inr rfl) (zL SM hr2 (by rfl) zt (zb (pv 0) (zb ze (zb ze (zb (zk ZB ze (pv 15)) zd))))))
   (zc (ZV (zu (i:=17) nd rfl (Or.inr rfl) (zk yK (zk zF (zk zF (pv 16) ze) (zL SM hr2 (by rfl) zt (zb (pv 0) (zb ze (zb ze (zb (zk xJ (zk ZB ze (pv 15)) ze) zd)))))) (zk ZB ze (pv 15)))))
   (zc (zu (i:=18) nd rfl (Or.inl rfl) (zk ZN (yk ["_law_k","_law_script","_law_p","_law_q","_law_row"] [none,some 0,some 16,some 17,some 12] rfl rfl rfl (za2 rfl hrg (zb ze (zb (zw (ZE rfl) (by rfl) hmin PyProof.Rows.boot_min (zb (zw zP (by rfl) hlen PySem.boot_len (zb (pv 0) zd)) (zb ze zd))) zd))) (λs3 H3 fp=>⟨zC (i:=0) (Jp ["_law_k","_law_script","_law_p","_law_q","_law_row"]) rfl (Or.inl rfl),(zL LT hr3 (by rfl) zt (zb (pv 1) (zb (pv 0) (zb (yJ (zb (pv 2) (zb (pv 3) zd))) (zb (zr (YQ (K:=K) rfl) (pv 4) ze (λ_ _=>rfl)) zd)))))⟩)) (yJ (zb (yn (zb zK zd)) zd))))
   (zc (ZV (zu (i:=19) nd rfl (Or.inl rfl) (zL SM hr2 (by rfl) zt (zb (pv 0) (zb ze (zb ze (zb ze zd)))))))
   (zc (zu (i:=20) nd rfl (Or.inl rfl) (zk ZN (yJ (zb (yn (zb zK (zb (pv 1) (zb (pv 15) zd)))) (zb (yn (zb zK (zb (pv 16) (zb (zr zE (pv 12) ze (λ_ _=>rfl)) (zb ze zd))))) (zb (yn (zb zK (zb (pv 17) (zb (zr zE (pv 12) ze (λ_ _=>rfl)) (zb ze zd))))) zd)))) (pv 18)))
   (zc (zu (i:=20) nd rfl (Or.inl rfl) (zk ZN (pv 20) (yJ (zb (yn (zb zK (zb (zr zE (pv 12) ze (λ_ _=>rfl)) (zb (pv 16) (zb ze zd))))) (zb (yn (zb zK (zb (pv 19) zd))) (zb (yn (zb zK zd)) zd))))))
   (zc (zu (i:=21) nd rfl (Or.inl rfl) (ya yc (by rfl) hlist PyProof.Rows.boot_list (zb (pv 11) zd)))
   (zc (zu (i:=22) nd rfl (Or.inl rfl) (yJ zd))
   (zc (zu (i:=23) nd rfl (Or.inl rfl) yE)
   (zc (X4 (i:=24) ["_law_k","_law_p","_law_q","_law_ones","_law_others"] [none,some 16,some 17,some 2,some 4] rfl rfl rfl (zU rfl hrg (zb (pv 1) zd)) (λs3 H3 fp=>⟨zC (i:=0) (Jp ["_law_k","_law_p","_law_q","_law_ones","_law_others"]) rfl (Or.inl rfl),(pe_disp (zc8 (pv 1) (zr (YQ (K:=K) rfl) (pv 3) (pv 0) (λ_ _=>rfl)) (zc8 (pv 2) (zr (YQ (K:=K) rfl) (pv 4) (pv 0) (λ_ _=>rfl)) pps_nil)) rfl rfl (by simp) (by decide))⟩) nd rfl (Or.inl rfl))
   (zc (ZV (xr PassesOwn.never rfl (pi_range3 rfl hrg (zb ze (zb (pv 1) (zb (zk yb (pv 15) (pv 14)) zd)))) (zC (i:=25) nd rfl (Or.inl rfl)) (zc (zu (i:=26) nd rfl (Or.inl rfl) (zw (ZE rfl) (by rfl) hmin PyProof.Rows.boot_min (zb (zk xJ (pv 1) (pv 25)) (zb (zk yb (pv 15) (pv 14)) zd))))
   (zc (zu (i:=27) nd rfl (Or.inl rfl) (zL ST hr4 (by rfl) zt (zb (pv 18) (zb (pv 24) (zb (pv 25) (zb (pv 26) (zb (pv 6) (zb (pv 13) (zb (pv 22) zd)))))))))
   (zc (xr PassesOwn.never rfl (zU rfl hrg (zb (zw (Xk rfl) (by rfl) hmin PyProof.Rows.boot_min (zb (zk ZN (yJ (zb (pv 26) zd)) (ya (zew rfl) (by rfl) hlist PyProof.Rows.boot_list (zb (pv 27) zd))) zd)) zd)) (zC (i:=28) nd rfl (Or.inl rfl)) (zc (yf (pe_bm PySem.F.plainAttrs_list PySem.F.slot_list_append PySem.F.type_list_append xv (pv 22) (zb (yn (zb (zk zF (zw zP (by rfl) hlen PySem.boot_len (zb (pv 18) zd)) ze) (zb zK (zb (zk zF (zk zF (zr zE (pv 13) ze (λ_ _=>rfl)) (pv 25)) (pv 28)) zd)))) zd)))
   (zg (Y6 (ZM hu (zr zE (pv 24) (zk zF (pv 25) (pv 28)) (λ_ _=>rfl)) (pv 16) (λ_ _=>rfl)) (Y8 (pv 21) (zk zF (zk zF (zr zE (pv 13) ze (λ_ _=>rfl)) (pv 25)) (pv 28)) ZA)))))
   (zg (zQ (zB op_gt (zw call_lenD (by rfl) hlen PySem.boot_len (zb (pv 27) zd)) ze (zG _)) (zc (zu (i:=23) nd rfl (Or.inl rfl) (yn (zb (pv 19) (zb (zk zF (pv 25) (zw (zbj rfl) (by rfl) hmin PyProof.Rows.boot_min (zb (pv 27) zd))) (zb (ZM hu (pv 27) (zw (zbj rfl) (by rfl) hmin PyProof.Rows.boot_min (zb (pv 27) zd)) (λ_ _=>rfl)) zd)))))
   (zg ps_break)) zv)))))))
   (zg (zm (zL AL hr5 (by rfl) zt (zb (zL RN hr8 (by rfl) zt (zb (pv 20) (zb (pv 9) (zb (pv 11) (zb (pv 14) (zb (zL DU hr4 (by rfl) zt (zb (pv 0) (zb ze (zb ze zd)))) (zb (yJ zd) zd))))))) (zb (yn (zb (pv 21) (zb (pv 23) (zb (pv 22) zd)))) zd)))))))))))))))))))))))))))))),?_⟩
 dsimp only [yh,Cx.nox,Cx.wish];show (let s1:L2.TS:=_;let s2:L2.TS:=L2.tSeq _ s1;let s3:L2.TS:=L2.tSeq _ s2;let s4:L2.TS:=L2.tSeq _ s3;let s5:L2.TS:=L2.tSeq _ s4;let s6:L2.TS:=L2.tSeq _ s5;let s7:L2.TS:=L2.tSeq _ s6;let s8:L2.TS:=L2.tSeq _ s7;let s9:L2.TS:=L2.tSeq _ s8;let s10:L2.TS:=L2.tSeq _ s9;let s11:L2.TS:=L2.tSeq _ s10;let s12:L2.TS:=L2.tSeq _ s11;let s13:L2.TS:=L2.tSeq _ s12;let s14:L2.TS:=L2.tSeq _ s13;let s15:L2.TS:=L2.tSeq _ s14;let s16:L2.TS:=L2.tSeq _ s15;let s17:L2.TS:=L2.tSeq _ s16;let s18:L2.TS:=L2.tSeq _ s17;let s19:L2.TS:=L2.tSeq _ s18;let s20:L2.TS:=L2.tSeq _ s19;let s21:L2.TS:=L2.tSeq _ s20;let s22:L2.TS:=L2.tSeq _ s21;let s23:L2.TS:=L2.tSeq _ s22;let s24:L2.TS:=L2.tSeq _ s23;let s25:L2.TS:=L2.tSeq _ s24;L2.tSeq _ s25 _ _ _);intro s1 s2 s3 s4 s5 s6 s7 s8 s9 s10 s11 s12 s13 s14 s15 s16 s17 s18 s19 s20 s21 s22 s23 s24 s25;refine ⟨λσ J=>∃ mn:Nat,σ=[rq a,iq mn,none,none,none,none,none,none,none,none,none,none,none,none,none,none,none,none,none,none,none,none,none,none,none,none,none,none,none]/\J=H/\1<=mn/\mn<=20,?_,?_⟩
 ·refine ⟨_,rfl,a,ns,0,1,20,rfl,hS,by decide,by decide,by decide,by decide,by decide,λr1 r10 r11=>⟨_,_,rfl,rfl,?_⟩⟩
  exact ⟨(1+r1).toNat,by rw [Int.toNat_of_nonneg (by omega)];rfl,rfl,by omega,by omega⟩
 rintro _ H ⟨mn,rfl,rfl,m1,m20⟩;refine ⟨_,rfl,_,rfl,by omega,by omega,_,rfl,λx0 nx0=>?_⟩;refine Z9 hS nx0 (by omega) (by decide) (by decide) λH1 os l0 k0 h=>?_;rw [q0z] at l0;have e0:=h.get 0 rfl;replace hS:=h.sql hS;clear h;refine ⟨_,rfl,_,rfl,by omega,by omega,_,rfl,λx1 nx1=>?_⟩;refine Z9 hS nx1 (by omega) (by decide) (by decide) λH2 ot l1 k1 h=>?_;rw [q0z] at l1;have e1:=h.get 0 rfl;replace hS:=h.sql hS;replace e0:=h.sm _ _ e0;clear h;refine ⟨λσ J=>∃ (x1:Ad) (ot:Jb),σ=[rq a,iq mn,rq x0,none,rq x1,none,none,none,none,none,none,none,none,none,none,none,none,none,none,none,none,none,none,none,none,none,none,none,none]/\Same H2 J/\J x1=some (.lst (ot.map V.int))/\ot.length=mn/\∀ v∈ot,Kin v,?_,?_⟩
 ·refine ⟨_,rfl,a,ns,0,2,2,rfl,hS,by decide,by decide,by decide,by decide,by decide,λr r0 r1'=>⟨rfl,_,rfl,?_⟩⟩
  refine yU (λz=>?_) (λz=>⟨x1,ot,rfl,Same.refl _,e1,l1,k1⟩);refine ⟨_,rfl,x1,rfl,⟨_,SqL.of e1⟩,_,rfl,λx2 nx2=>?_⟩;have h0:Hd H2 [(x2,.lst ((((ot.take 0).map λv=>v % 7-1):Jb).map V.int))] (upd H2 x2 (.lst [])):=Hd.base.new nx2;generalize upd H2 x2 (.lst [])=H3 at h0 ⊢;refine ZD (K:=K) (a:=x1) (D:=x2) (xs:=ot.map V.int) (λi σ J=>∃ u,σ=[u]/\Hd H2 [(x2,.lst ((((ot.take i).map λv=>v % 7-1):Jb).map V.int))] J) ⟨none,rfl,h0⟩ (λi σ J _ ⟨_,_,h1⟩=>SqL.of (h1.sm _ _ e1)) ?_ ?_
  ·clear h0
   rintro i y σ J hy ⟨u,rfl,h⟩;obtain ⟨x,e9,rfl⟩:=xb hy;have et:((ot.take (i+1)).map λv=>v % 7-1)=((ot.take i).map λv=>v % 7-1)++[x % 7-1]:=by rw [List.take_add_one,e9,Jk];rfl
   refine ⟨_,rfl,_,_,rfl,rfl,(by show (0:Int)<7;decide),_,_,rfl,rfl,?_⟩;refine ⟨_,h.get 0 rfl,(by rw [Ji,Ji,List.length_take];omega),_,rfl,?_⟩;rw [et,Jk];exact h.put 0 rfl
  clear h0;rintro σ J ⟨u,rfl,h⟩;rw [Ji,List.take_length] at h;refine ⟨x2,_,rfl,h.sm,h.get 0 rfl,by rw [Ji];exact l1,λv hv=>?_⟩;obtain ⟨y,_,rfl⟩:=List.mem_map.mp hv;show -9223372036854775808<=y % 7-1/\y % 7-1<=9223372036854775807;omega
 clear e1 l1 k1 ot x1 nx1;rintro σ H3 ⟨x1,ot,rfl,sA,e1,l1,k1⟩;replace hS:=zo hS sA;replace e0:=sA _ _ e0;clear sA;refine ⟨_,rfl,a,ns,0,3,12,rfl,hS,by decide,by decide,by decide,by decide,by decide,λsn sn0 sn1=>⟨_,_,rfl,rfl,_,rfl,by omega,by omega,_,rfl,λx2 nx2=>?_⟩⟩;refine Z9 hS nx2 (by omega) (by decide) (by decide) λH4 src l2 k2 h=>?_;have e2:=h.get 0 rfl;replace hS:=h.sql hS;replace e0:=h.sm _ _ e0;replace e1:=h.sm _ _ e1;clear h;have sl12:1<=src.length/\src.length<=12:=by omega
 clear l2 sn0 sn1;refine ⟨λσ J=>∃ tn:Nat,σ=[rq a,iq mn,rq x0,none,rq x1,none,rq x2,iq tn,none,none,none,none,none,none,none,none,none,none,none,none,none,none,none,none,none,none,none,none,none]/\J=H4/\tn<4,?_,?_⟩
 ·refine ⟨_,rfl,a,ns,0,4,4,rfl,hS,by decide,by decide,by decide,by decide,by decide,λtu tu0 tu1=>?_⟩
  obtain ⟨tn,rfl⟩:∃ n:Nat,tu=n:=⟨tu.toNat,by omega⟩;exact ⟨tn,rfl,rfl,by omega⟩
 rintro _ H4 ⟨tn,rfl,rfl,tn4⟩;refine ⟨_,rfl,_,rfl,_,rfl,_,rfl,_,rfl,by omega,by omega,_,rfl,λx3 nx3=>?_⟩;refine Z9 hS nx3 (by omega) (by decide) (by decide) λH5 tg l3 _ h=>?_;rw [q0z] at l3;have e3:=h.get 0 rfl;replace hS:=h.sql hS;replace e0:=h.sm _ _ e0;replace e1:=h.sm _ _ e1;replace e2:=h.sm _ _ e2;clear h;refine ⟨(sz 4),λfi nfi=>?_⟩;have s6:Same H5 (upd H5 fi (.lst [.ref x0,.ref x1,.ref x2,.ref x3])):=zi (Same.refl _) nfi;have efi:upd H5 fi (.lst [.ref x0,.ref x1,.ref x2,.ref x3]) fi=some (.lst [.ref x0,.ref x1,.ref x2,.ref x3]):=zf;generalize upd H5 fi (.lst [.ref x0,.ref x1,.ref x2,.ref x3])=H6 at s6 efi ⊢;replace hS:=zo hS s6;let ZL:List (Ad×Jb):=[(x0,os),(x1,ot),(x2,src),(x3,tg)]
 have eZ:∀ p∈ZL,H6 p.1=some (.lst (p.2.map V.int)):=λp hp=>by
  rcases List.mem_cons.mp hp with rfl | hp
  ·exact s6 _ _ e0
  rcases List.mem_cons.mp hp with rfl | hp
  ·exact s6 _ _ e1
  rcases List.mem_cons.mp hp with rfl | hp
  ·exact s6 _ _ e2
  cases List.mem_singleton.mp hp;exact s6 _ _ e3
 refine ⟨_,rfl,_,rfl,(tn:Int),rfl,fi,_,rfl,SqL.of efi,λy1 ny1=>?_⟩;rw [zeq (by omega),q0z];have s7:Same H6 (upd H6 y1 (.lst ([V.ref x0,.ref x1,.ref x2,.ref x3].drop tn))):=zi (Same.refl _) ny1;have ey1:upd H6 y1 (.lst ([V.ref x0,.ref x1,.ref x2,.ref x3].drop tn)) y1=_:=zf;generalize upd H6 y1 (.lst ([V.ref x0,.ref x1,.ref x2,.ref x3].drop tn))=H7 at s7 ey1 ⊢;refine ⟨_,rfl,_,rfl,(tn:Int),rfl,fi,_,rfl,SqL.of (s7 _ _ efi),λy2 ny2=>?_⟩;rw [zep (by omega),q0z];have s8:Same H7 (upd H7 y2 (.lst ([V.ref x0,.ref x1,.ref x2,.ref x3].take tn))):=zi (Same.refl _) ny2;have ey2:upd H7 y2 (.lst ([V.ref x0,.ref x1,.ref x2,.ref x3].take tn)) y2=_:=zf;generalize upd H7 y2 (.lst ([V.ref x0,.ref x1,.ref x2,.ref x3].take tn))=H8 at s8 ey2 ⊢;refine ⟨y1,y2,_,_,rfl,rfl,s8 _ _ ey1,ey2,(by rw [List.length_drop,List.length_take];show 4-tn+min tn 4<=_;omega),λpa npa=>?_⟩
 have eYV:[V.ref x0,.ref x1,.ref x2,.ref x3].drop tn++[V.ref x0,.ref x1,.ref x2,.ref x3].take tn=(ZL.drop tn++ZL.take tn).map λp=>V.ref p.1:=by
  rw [Jk,List.map_drop,List.map_take];rfl
 rw [eYV];have rot:∀ j:Nat,j<4->(((j:Int)-tn) % (4:Nat)).toNat<4/\(ZL.drop tn++ZL.take tn)[(((j:Int)-tn) % (4:Nat)).toNat]?=ZL[j]?:=λj hj=>rot_at rfl tn4 hj
 have eY:∀ p∈ZL.drop tn++ZL.take tn,H6 p.1=some (.lst (p.2.map V.int)):=λp hp=>by
  rcases List.mem_append.mp hp with hp | hp
  ·exact eZ p (List.mem_of_mem_drop hp)
  ·exact eZ p (List.mem_of_mem_take hp)
 have lY:(ZL.drop tn++ZL.take tn).length=4:=by rw [Jj,List.length_drop,List.length_take];show 4-tn+min tn 4=4;omega
 have lB:∀ p∈ZL.drop tn++ZL.take tn,p.2.length<=20:=λp hp=>by
  have hp:p∈ZL:=by
   rcases List.mem_append.mp hp with hp | hp
   ·exact List.mem_of_mem_drop hp
   ·exact List.mem_of_mem_take hp
  rcases List.mem_cons.mp hp with rfl | hp
  ·show os.length<=20;omega
  rcases List.mem_cons.mp hp with rfl | hp
  ·show ot.length<=20;omega
  rcases List.mem_cons.mp hp with rfl | hp
  ·show src.length<=20;omega
  cases List.mem_singleton.mp hp;show tg.length<=20;omega
 generalize ZL.drop tn++ZL.take tn=YZ at rot eY lY lB ⊢;have s9:Same H8 (upd H8 pa (.lst (YZ.map λp=>V.ref p.1))):=zi (Same.refl _) npa;have epa:upd H8 pa (.lst (YZ.map λp=>V.ref p.1)) pa=_:=zf;generalize upd H8 pa (.lst (YZ.map λp=>V.ref p.1))=H9 at s9 epa ⊢;have s69:Same H6 H9:=(s7.trans s8).trans s9;replace hS:=zo hS s69;replace eY:∀ p∈YZ,H9 p.1=some (.lst (p.2.map V.int)):=λp hp=>s69 _ _ (eY p hp);replace e0:=s69 _ _ (s6 _ _ e0);replace e1:=s69 _ _ (s6 _ _ e1);replace e2:=s69 _ _ (s6 _ _ e2);clear s6 s7 s8 s9 s69 ey1 ey2 e3 eZ efi;refine ⟨_,rfl,pa,rfl,⟨_,SqL.of epa⟩,_,rfl,λle nle=>?_⟩;let LN:List (Ad×Jb)->Jb:=λzs=>zs.map λp=>(p.2.length:Int);have h0:Hd H9 [(le,.lst ((LN (YZ.take 0)).map V.int))] (upd H9 le (.lst [])):=Hd.base.new nle;generalize upd H9 le (.lst [])=H1 at h0 ⊢;refine ZD (K:=K) (a:=pa) (D:=le) (xs:=YZ.map λp=>V.ref p.1) (λi σ J=>∃ u,σ=[u]/\Hd H9 [(le,.lst ((LN (YZ.take i)).map V.int))] J) ⟨none,rfl,h0⟩ (λi σ J _ ⟨_,_,h1⟩=>SqL.of (h1.sm _ _ epa)) ?_ ?_
 ·clear h0
  rintro i y σ J2 hy ⟨u,rfl,h⟩;obtain ⟨p,e9,rfl⟩:=xb (f:=λp:Ad×Jb=>V.ref p.1) hy;have et:LN (YZ.take (i+1))=LN (YZ.take i)++[(p.2.length:Int)]:=by show List.map _ _=List.map _ _++_;rw [List.take_add_one,e9,Jk];rfl
  refine ⟨_,rfl,p.1,_,rfl,.inl (SqL.of (h.sm _ _ (eY p (List.mem_of_getElem? e9)))),?_⟩;rw [Ji];refine ⟨_,h.get 0 rfl,(by rw [Ji,Ji,List.length_take];omega),_,rfl,?_⟩;rw [et,Jk];exact h.put 0 rfl
 clear h0;rintro σ H10 ⟨u,rfl,h⟩;rw [Ji,List.take_length] at h;have ele:=h.get 0 rfl;have sA:=h.sm;clear h;replace hS:=zo hS sA;replace epa:=sA _ _ epa;replace eY:∀ p∈YZ,H10 p.1=some (.lst (p.2.map V.int)):=λp hp=>sA _ _ (eY p hp);replace e0:=sA _ _ e0;replace e1:=sA _ _ e1;replace e2:=sA _ _ e2;clear sA
 obtain ⟨z0,z1,z2,z3,rfl⟩:∃ z0 z1 z2 z3,YZ=[z0,z1,z2,z3]:=by
  match YZ,lY with
  | [z0,z1,z2,z3],_=>exact ⟨z0,z1,z2,z3,rfl⟩
 have b0:=lB z0 (by simp);have b1:=lB z1 (by simp);have b2:=lB z2 (by simp);have b3:=lB z3 (by simp);have qp:SqL K H10 pa [.ref z0.1,.ref z1.1,.ref z2.1,.ref z3.1]:=SqL.of epa;refine ⟨_,rfl,pa,_,_,_,rfl,rfl,qp,rfl,_,rfl,pa,_,_,_,rfl,rfl,qp,rfl,z0.1,z1.1,_,_,rfl,rfl,eY z0 (by simp),eY z1 (by simp),(by rw [Ji,Ji];omega),λc1 nc1=>?_⟩;rw [← List.map_append];have s1:Same H10 (upd H10 c1 (.lst ((z0.2++z1.2).map V.int))):=zi (Same.refl _) nc1;have ec1:upd H10 c1 (.lst ((z0.2++z1.2).map V.int)) c1=_:=zf;generalize upd H10 c1 (.lst ((z0.2++z1.2).map V.int))=H11 at s1 ec1 ⊢;refine ⟨_,rfl,pa,_,_,_,rfl,rfl,zo qp s1,rfl,c1,z2.1,_,_,rfl,rfl,ec1,s1 _ _ (eY z2 (by simp)),(by rw [Ji,Ji,Jj];omega),λc2 nc2=>?_⟩;rw [← List.map_append];have s2:Same H11 (upd H11 c2 (.lst ((z0.2++z1.2++z2.2).map V.int))):=zi (Same.refl _) nc2;have ec2:upd H11 c2 (.lst ((z0.2++z1.2++z2.2).map V.int)) c2=_:=zf;generalize upd H11 c2 (.lst ((z0.2++z1.2++z2.2).map V.int))=H12 at s2 ec2 ⊢;have s12:=s1.trans s2;refine ⟨_,rfl,pa,_,_,_,rfl,rfl,zo qp s12,rfl,c2,z3.1,_,_,rfl,rfl,ec2,s12 _ _ (eY z3 (by simp)),(by rw [Ji,Ji,Jj,Jj];omega),λce nce=>?_⟩;rw [← List.map_append];have eCL:z0.2++z1.2++z2.2++z3.2=([z0.2,z1.2,z2.2,z3.2]:List (Jb)).flatten:=by simp
 rw [eCL];generalize hcells:([z0.2,z1.2,z2.2,z3.2]:List (Jb)).flatten=cells;have s3:Same H12 (upd H12 ce (.lst (cells.map V.int))):=zi (Same.refl _) nce;have ece:upd H12 ce (.lst (cells.map V.int)) ce=_:=zf;generalize upd H12 ce (.lst (cells.map V.int))=H13 at s3 ece ⊢;have sA:=s12.trans s3;replace hS:=zo hS sA;replace ele:=sA _ _ ele;replace e0:=sA _ _ e0;replace e1:=sA _ _ e1;replace e2:=sA _ _ e2;clear sA s1 s2 s12 s3 ec1 ec2 qp eY;let ρ:Nat->Int:=λj=>((j:Int)-tn) % (4:Nat);refine ⟨_,rfl,by decide,by decide,_,rfl,λrl nrl=>?_⟩;have h0:Hd H13 [(rl,.lst (((List.range 0).map ρ).map V.int))] (upd H13 rl (.lst [])):=Hd.base.new nrl;generalize upd H13 rl (.lst [])=H1 at h0 ⊢;refine xf (n:=4) (λi σ J=>∃ u,σ=[u,iq tn]/\Hd H13 [(rl,.lst (((List.range i).map ρ).map V.int))] J) ⟨none,rfl,h0⟩ ?_ ?_
 ·clear h0
  rintro i σ J2 hi ⟨u,rfl,h⟩
  have et:(List.range (i+1)).map ρ=(List.range i).map ρ++[(0+(i:Int)-tn) % 4]:=by
   rw [List.range_succ,Jk];congr 1;show [((i:Int)-tn) % (4:Nat)]=_;rw [Int.zero_add];rfl
  refine ⟨_,rfl,_,rfl,_,_,rfl,rfl,_,_,rfl,rfl,(by show (0:Int)<4;decide),?_⟩;refine ⟨_,h.get 0 rfl,(by rw [Ji,Ji,List.length_range];omega),_,rfl,?_⟩;rw [et,Jk];exact h.put 0 rfl
 clear h0;rintro σ H14 ⟨u,rfl,h⟩;have erl:H14 rl=some (.lst ([ρ 0,ρ 1,ρ 2,ρ 3].map V.int)):=h.get 0 rfl;have sA:=h.sm;clear h;replace hS:=zo hS sA;replace ele:=sA _ _ ele;replace ece:=sA _ _ ece;replace e0:=sA _ _ e0;replace e1:=sA _ _ e1;replace e2:=sA _ _ e2;clear sA;let lens:Jb:=LN [z0,z1,z2,z3];replace ele:H14 le=some (.lst (lens.map V.int)):=ele;let sv:Int->Int:=λx=>(lens.take x.toNat).sum
 have rb:∀ x∈([ρ 0,ρ 1,ρ 2,ρ 3]:Jb),0<=x:=λx hx=>by
  have:∃ j,x=ρ j:=by
   rcases List.mem_cons.mp hx with rfl | hx
   ·exact ⟨0,rfl⟩
   rcases List.mem_cons.mp hx with rfl | hx
   ·exact ⟨1,rfl⟩
   rcases List.mem_cons.mp hx with rfl | hx
   ·exact ⟨2,rfl⟩
   cases List.mem_singleton.mp hx;exact ⟨3,rfl⟩
  obtain ⟨j,rfl⟩:=this;exact Int.emod_nonneg _ (by decide)
 refine ⟨_,rfl,rl,rfl,⟨_,SqL.of erl⟩,_,rfl,λsl nsl=>?_⟩;have h0:Hd H14 [(sl,.lst (((([ρ 0,ρ 1,ρ 2,ρ 3]:Jb).take 0).map sv).map V.int))] (upd H14 sl (.lst [])):=Hd.base.new nsl;generalize upd H14 sl (.lst [])=H1 at h0 ⊢;refine ZD (K:=K) (a:=rl) (D:=sl) (xs:=[ρ 0,ρ 1,ρ 2,ρ 3].map V.int) (λi σ J=>∃ u,σ=[u,rq le]/\Hd H14 [(sl,.lst (((([ρ 0,ρ 1,ρ 2,ρ 3]:Jb).take i).map sv).map V.int))] J) ⟨none,rfl,h0⟩ (λi σ J _ ⟨_,_,h1⟩=>SqL.of (h1.sm _ _ erl)) ?_ ?_
 ·clear h0
  rintro i y σ J2 hy ⟨u,rfl,h⟩;obtain ⟨x,e9,rfl⟩:=xb hy;have x0':0<=x:=rb x (List.mem_of_getElem? e9);have et:(([ρ 0,ρ 1,ρ 2,ρ 3]:Jb).take (i+1)).map sv=(([ρ 0,ρ 1,ρ 2,ρ 3]:Jb).take i).map sv++[sv x]:=by rw [List.take_add_one,e9,Jk];rfl
  refine ⟨_,rfl,_,rfl,x,rfl,le,_,rfl,SqL.of (h.sm _ _ ele),λl nl=>?_⟩;rw [zbf x0'];refine ⟨l,_,rfl,SqL.of zf,?_⟩;have h:=h.waste (o:=.lst ((lens.take x.toNat).map V.int)) nl;generalize upd J2 l (.lst ((lens.take x.toNat).map V.int))=J3 at h ⊢;refine ⟨_,h.get 0 rfl,(by rw [Ji,Ji,List.length_take];show min i 4<_;omega),_,rfl,?_⟩;rw [et,Jk];exact h.put 0 rfl
 clear h0;rintro σ H15 ⟨u,rfl,h⟩;have esl:H15 sl=some (.lst ([sv (ρ 0),sv (ρ 1),sv (ρ 2),sv (ρ 3)].map V.int)):=h.get 0 rfl;have sA:=h.sm;clear h;replace hS:=zo hS sA;replace ele:=sA _ _ ele;replace ece:=sA _ _ ece;replace erl:=sA _ _ erl;replace e0:=sA _ _ e0;replace e1:=sA _ _ e1;replace e2:=sA _ _ e2;clear sA;refine ⟨λσ J=>∃ Ln:Nat,σ=[rq a,iq mn,rq x0,none,rq x1,none,rq x2,iq tn,rq pa,rq le,none,rq ce,rq rl,rq sl,iq Ln,none,none,none,none,none,none,none,none,none,none,none,none,none,none]/\J=H15/\1<=Ln/\Ln<=64,?_,?_⟩
 ·refine ⟨_,rfl,a,ns,1,rfl,hS,by decide,_,rfl,λL b1' b2'=>?_⟩
  obtain ⟨Ln,rfl⟩:∃ n:Nat,L=n:=⟨L.toNat,by omega⟩;exact ⟨Ln,rfl,rfl,by omega,by omega⟩
 rintro _ H15 ⟨Ln,rfl,rfl,b1',b2'⟩;refine ⟨_,rfl,a,ns,1,1,rfl,hS,by decide,by decide,by decide,by decide,λgg H16 sA hg=>?_⟩;replace hS:=zo hS sA;replace ele:=sA _ _ ele;replace ece:=sA _ _ ece;replace erl:=sA _ _ erl;replace esl:=sA _ _ esl;replace e0:=sA _ _ e0;replace e1:=sA _ _ e1;replace e2:=sA _ _ e2;clear sA;obtain ⟨m8,e8,m81,m82⟩:∃ m8:Int,(8:Int).fdiv gg=m8/\2<=m8/\m8*gg<=8:=by rcases hg with e | e | e <;> subst e <;> exact ⟨_,rfl,by decide,by decide⟩
 have m83:m8<=8:=by
  have:m8*1<=m8*gg:=Int.mul_le_mul_of_nonneg_left (by omega) (by omega);omega
 have gb:1<=gg*(Ln:Int)/\gg*(Ln:Int)<=256:=by rcases hg with e | e | e <;> rw [e] <;> omega
 have g1:1<=gg/\gg<=4:=by omega
 refine ⟨_,rfl,_,rfl,_,_,rfl,rfl,⟨by omega,by omega,by omega⟩,a,ns,1,2,m8,(by rw [← e8];rfl),hS,by decide,by decide,by decide,by decide,by omega,λseat seat0 seat1=>?_⟩;obtain ⟨p,rfl⟩:∃ n:Nat,seat=n:=⟨seat.toNat,by omega⟩
 have p8:((p:Int)+1)*gg<=8:=by
  have e1:((p:Int)+1)*gg<=m8*gg:=Int.mul_le_mul_of_nonneg_right (by omega) (by omega);omega
 refine ⟨λσ J=>∃ q:Nat,σ=[rq a,iq mn,rq x0,none,rq x1,none,rq x2,iq tn,rq pa,rq le,none,rq ce,rq rl,rq sl,iq Ln,iq gg,iq p,iq q,none,none,none,none,none,none,none,none,none,none,none]/\J=H16/\p≠q/\((q:Int)+1)*gg<=8,?_,?_⟩
 ·refine ⟨_,rfl,_,_,rfl,rfl,_,rfl,_,rfl,_,_,rfl,rfl,⟨by omega,by omega,by omega⟩,_,_,rfl,rfl,a,ns,1,3,m8-1,(by rw [← e8];rfl),hS,by decide,by decide,by decide,by decide,by omega,λv v0 v1=>?_⟩
  refine ⟨_,_,rfl,rfl,_,rfl,_,_,rfl,rfl,⟨by omega,by omega,by omega⟩,_,_,rfl,rfl,(by show (0:Int)<(8:Int).fdiv gg;rw [e8];omega),?_⟩;obtain ⟨q,hq⟩:∃ q:Nat,((p:Int)+1+v) % (8:Int).fdiv gg=q:=⟨(((p:Int)+1+v) % (8:Int).fdiv gg).toNat,(Int.toNat_of_nonneg (Int.emod_nonneg _ (by rw [e8];omega))).symm⟩;have hq':=hq;rw [e8] at hq';have q1:(q:Int)<m8:=by rw [← hq'];exact Int.emod_lt_of_pos _ (by omega)
  refine ⟨q,?_,rfl,?_,?_⟩
  ·show [_,_,_,_,_,_,_,_,_,_,_,_,_,_,_,_,_,some (V.int (((p:Int)+1+v) % (8:Int).fdiv gg)),_,_,_,_,_,_,_,_,_,_,_]=_
   rw [hq]
  ·intro z
   rw [← z] at hq';have c1:(p:Int)+1+v<m8∨m8<=(p:Int)+1+v:=by omega
   rcases c1 with c1 | c1
   ·rw [Int.emod_eq_of_lt (by omega) c1] at hq';omega
   ·rw [← Int.sub_emod_right,Int.emod_eq_of_lt (by omega) (by omega)] at hq';omega
  ·have e1:((q:Int)+1)*gg<=m8*gg:=Int.mul_le_mul_of_nonneg_right (by omega) (by omega)
   omega
 rintro _ H16 ⟨q,rfl,rfl,pq,q8⟩;obtain ⟨r0,r1,r2,r3,hr0,hr1',hr2',hr3',⟨R0,R1,R2,R3⟩,en2,ftA⟩:=rows_ok (zs:=[z0,z1,z2,z3]) rfl tn4 rot l0 l1 l3;have erl:H16 rl=some (.lst ([(r0:Int),r1,r2,r3].map V.int)):=by rw [← hr0,← hr1',← hr2',← hr3'];exact erl
 have esl:H16 sl=some (.lst ([(lens.take r0).sum,(lens.take r1).sum,(lens.take r2).sum,(lens.take r3).sum].map V.int)):=by
  have:=esl;have q0:ρ 0=r0:=hr0;have q1:ρ 1=r1:=hr1';have q2:ρ 2=r2:=hr2';have q3:ρ 3=r3:=hr3';rw [q0,q1,q2,q3] at this;exact this
 have cl80:cells.length<=80:=by
  rw [← hcells,← eCL,Jj,Jj,Jj];omega
 have ftA:∀ xs n,(r6Of (lens.take r0).sum (lens.take r1).sum (lens.take r2).sum (lens.take r3).sum os ot src xs n).Fit mn cells.length/\(r6Of (lens.take r0).sum (lens.take r1).sum (lens.take r2).sum (lens.take r3).sum os ot src xs n).At mn cells:=by rw [← hcells];exact ftA
 have en2:lens.getD r2 0=src.length:=en2;clear rot rb hr0 hr1' hr2' hr3' hcells eCL b0 b1 b2 b3 lB lY seat0 seat1 m82 m81 m83 e8 tn4;have ll4:lens.length=4:=rfl;generalize hlz:lens=LZ at *;clear hlz;refine ⟨_,rfl,a,_,rfl,.inl hS,?_⟩;rw [Ji];refine ⟨_,_,rfl,?_⟩;obtain ⟨hi,ehi,hi0,hi1⟩:∃ hi:Int,(if (20:Int)<(ns.length:Int) then (20:Int) else (ns.length:Int))=hi/\0<=hi/\hi<=20:=⟨_,rfl,by split <;> omega,by split <;> omega⟩;rw [ehi];clear ehi;refine ⟨8,hi,rfl,⟨by decide,by decide,by omega,by omega⟩,_,rfl,λst0 nst0=>?_⟩;have h0:Hd H16 [(st0,.lst (([]:Jg).map V.ref))] (upd H16 st0 (.lst [])):=Hd.base.new nst0;generalize upd H16 st0 (.lst [])=H1 at h0 ⊢;refine xf (lo:=8) (n:=(hi-8).toNat) (λi σ J=>∃ u B ts xs',σ=[u,rq a,iq p,iq q,rq rl]/\Same H16 B/\Hd B [(st0,.lst (List.map V.ref ts))] J/\CodeAt B ts (List.map (Sp6.tv p q r2) xs')/\(∀ x∈xs',x.Good)/\xs'.length=i) ⟨none,H16,[],[],rfl,Same.refl _,h0,⟨rfl,λi a tv hx=>nomatch hx⟩,(λx hx=>nomatch hx),rfl⟩ ?_ ?_
 ·clear h0
  rintro i σ J hi' ⟨u,B,ts,xs',rfl,sB,h,ca,gd,xl⟩;have sJ:=sB.trans h.sm;refine ⟨_,rfl,_,rfl,_,rfl,_,rfl,(sz 2),λl nl=>?_⟩;have h2:=h.waste (o:=.lst [.int (p:Int),.int (q:Int)]) nl;have el:upd J l (.lst [.int (p:Int),.int (q:Int)]) l=_:=zf;have s2:Same J (upd J l (.lst [.int (p:Int),.int (q:Int)])):=zi (Same.refl _) nl;generalize upd J l (.lst [.int (p:Int),.int (q:Int)])=J2 at h2 el s2 ⊢;have sJ2:=sJ.trans s2;refine ⟨_,rfl,rl,_,_,_,rfl,rfl,SqL.of (sJ2 _ _ erl),rfl,a,l,ns,8+(i:Int),p,q,r2,rfl,zo hS sJ2,SqL.of el,by omega,by omega,λx J3 t gx s3 et=>?_⟩;obtain ⟨B2,sB2,h3,up⟩:=h2.over s3
  have net:t ∉ [((st0,HO.lst (List.map V.ref ts)):Ad×HO)].map Prod.fst:=λm=>by
   have e:=List.mem_singleton.mp m;have:=h3.get 0 rfl;rw [show t=st0 from e,this] at et;cases et
  refine ⟨_,h3.get 0 rfl,(by rw [Ji,ca.n,Ji];omega),_,B2,ts++[t],xs'++[x],rfl,sB.trans sB2,?_,?_,?_,?_⟩
  ·rw [Jk];exact h3.put 0 rfl
  ·rw [Jk]
   exact xI (ca.same sB2) (xH (up _ _ et net))
  ·intro y hy
   rcases List.mem_append.mp hy with hy | hy
   ·exact gd y hy
   ·cases List.mem_singleton.mp hy;exact gx
  ·rw [Jj,xl];rfl
 clear h0;rintro σ H17 ⟨u,B,ts,ys,rfl,sB,h,ca,gd,xl⟩;have y12:ys.length<=12:=by omega
 have sA:=sB.trans h.sm;have est:=h.get 0 rfl;replace ca:=ca.same h.sm;clear h sB xl B;refine ⟨(sz 1),λt3 nt3=>?_⟩;have d1:Same H17 (upd H17 t3 (.tup [.str "trim"])):=zi (Same.refl _) nt3;have et3:upd H17 t3 (.tup [.str "trim"]) t3=_:=zf;generalize upd H17 t3 (.tup [.str "trim"])=G1 at d1 et3 ⊢;refine ⟨(sz 1),λl1' nl1=>?_⟩;have d2:Same G1 (upd G1 l1' (.lst [.ref t3])):=zi (Same.refl _) nl1;have el1:upd G1 l1' (.lst [.ref t3]) l1'=_:=zf;generalize upd G1 l1' (.lst [.ref t3])=G2 at d2 el1 ⊢;refine ⟨st0,l1',_,_,rfl,rfl,(d1.trans d2) _ _ est,el1,(by rw [Ji,ca.n,Ji];show _+1<=_;omega),λsa nsa=>?_⟩;obtain ⟨ss,hss⟩:∃ ss,ss=ts++[t3]:=⟨_,rfl⟩;obtain ⟨xs,hxs⟩:∃ xs,xs=ys++[Sp6.tr]:=⟨_,rfl⟩;have eSS:List.map V.ref ts++[V.ref t3]=ss.map V.ref:=by rw [hss,Jk];rfl
 rw [eSS];have d3:Same G2 (upd G2 sa (.lst (ss.map V.ref))):=zi (Same.refl _) nsa;have esa:upd G2 sa (.lst (ss.map V.ref)) sa=_:=zf;generalize upd G2 sa (.lst (ss.map V.ref))=G3 at d3 esa ⊢;have d13:=(d1.trans d2).trans d3
 have cs:CodeAt G3 ss (xs.map (Sp6.tv p q r2)):=by
  rw [hss,hxs,Jk];exact xI (ca.same d13) (xH ((d2.trans d3) _ _ et3))
 have gx:∀ x∈xs,x.Good:=λx hx=>by
  rw [hxs] at hx;rcases List.mem_append.mp hx with hx | hx
  ·exact gd x hx
  ·cases List.mem_singleton.mp hx;trivial
 have x13:xs.length<=13:=by rw [hxs,Jj];show ys.length+1<=13;omega
 have sl13:ss.length=xs.length:=by have:=cs.n;rw [Ji] at this;exact this
 replace sA:=sA.trans d13;replace hS:=zo hS sA;replace ele:=sA _ _ ele;replace ece:=sA _ _ ece;replace erl:=sA _ _ erl;replace esl:=sA _ _ esl;replace e0:=sA _ _ e0;replace e1:=sA _ _ e1;replace e2:=sA _ _ e2;clear sA d1 d2 d3 d13 et3 el1 est ca eSS gd hss y12 hi0 hi1;refine ⟨λσ J=>∃ n:Int,σ=[rq a,iq mn,rq x0,none,rq x1,none,rq x2,iq tn,rq pa,rq le,none,rq ce,rq rl,rq sl,iq Ln,iq gg,iq p,iq q,rq sa,iq n,none,none,none,none,none,none,none,none,none]/\J=G3,?_,?_⟩
 ·refine ⟨_,rfl,a,ns,1,4,1000,rfl,hS,by decide,by decide,by decide,by decide,by decide,λn _ _=>?_⟩
  exact ⟨n,rfl,rfl⟩
 rintro _ G3 ⟨n,rfl,rfl⟩;refine ⟨_,rfl,_,rfl,(sz 3),λt0 nt0=>?_⟩;have cA:Same G3 (upd G3 t0 (.tup [.str "begin",.int (mn:Int),.int gg])):=zi (Same.refl _) nt0;have et0:upd G3 t0 (.tup [.str "begin",.int (mn:Int),.int gg]) t0=_:=zf;generalize upd G3 t0 (.tup [.str "begin",.int (mn:Int),.int gg])=G4 at cA et0 ⊢;refine ⟨_,rfl,_,rfl,rl,_,_,_,rfl,rfl,SqL.of (cA _ _ erl),rfl,(sz 4),λt1 nt1=>?_⟩;have d2:Same G4 (upd G4 t1 (.tup [.str "load",.int (p:Int),.int (r0:Int),.int 0])):=zi (Same.refl _) nt1;have et1:upd G4 t1 (.tup [.str "load",.int (p:Int),.int (r0:Int),.int 0]) t1=_:=zf;generalize upd G4 t1 (.tup [.str "load",.int (p:Int),.int (r0:Int),.int 0])=G5 at d2 et1 ⊢;replace cA:=cA.trans d2;refine ⟨_,rfl,_,rfl,rl,_,_,_,rfl,rfl,SqL.of (cA _ _ erl),rfl,(sz 4),λt2 nt2=>?_⟩;have d3:Same G5 (upd G5 t2 (.tup [.str "load",.int (q:Int),.int (r1:Int),.int 0])):=zi (Same.refl _) nt2;have et2:upd G5 t2 (.tup [.str "load",.int (q:Int),.int (r1:Int),.int 0]) t2=_:=zf;generalize upd G5 t2 (.tup [.str "load",.int (q:Int),.int (r1:Int),.int 0])=G6 at d3 et2 ⊢;replace cA:=cA.trans d3;replace et1:=d3 _ _ et1;replace et0:=(d2.trans d3) _ _ et0;clear d2 d3;refine ⟨(sz 3),λc3 nc3=>?_⟩;have d4:Same G6 (upd G6 c3 (.lst [.ref t0,.ref t1,.ref t2])):=zi (Same.refl _) nc3;have ec3:upd G6 c3 (.lst [.ref t0,.ref t1,.ref t2]) c3=_:=zf;generalize upd G6 c3 (.lst [.ref t0,.ref t1,.ref t2])=G7 at d4 ec3 ⊢;refine ⟨_,rfl,c3,sa,_,_,rfl,rfl,ec3,(cA.trans d4) _ _ esa,(by rw [Ji];show 3+_<=_;omega),λcd1 ncd1=>?_⟩;have eX1:[V.ref t0,.ref t1,.ref t2]++ss.map V.ref=([t0,t1,t2]++ss).map V.ref:=rfl;rw [eX1];have d5:Same G7 (upd G7 cd1 (.lst (([t0,t1,t2]++ss).map V.ref))):=zi (Same.refl _) ncd1;have ecd1:upd G7 cd1 (.lst (([t0,t1,t2]++ss).map V.ref)) cd1=_:=zf;generalize upd G7 cd1 (.lst (([t0,t1,t2]++ss).map V.ref))=G8 at d5 ecd1 ⊢;have d45:=d4.trans d5;replace cA:=cA.trans d45;replace et0:=d45 _ _ et0;replace et1:=d45 _ _ et1;replace et2:=d45 _ _ et2;clear d4 d5 d45 ec3 eX1;refine ⟨_,rfl,_,rfl,rl,_,_,_,rfl,rfl,SqL.of (cA _ _ erl),rfl,_,rfl,(sz 4),λt4 nt4=>?_⟩;have d1:Same G8 (upd G8 t4 (.tup [.str "store",.int (r3:Int),.int (p:Int),.int 0])):=zi (Same.refl _) nt4;have et4:upd G8 t4 (.tup [.str "store",.int (r3:Int),.int (p:Int),.int 0]) t4=_:=zf;generalize upd G8 t4 (.tup [.str "store",.int (r3:Int),.int (p:Int),.int 0])=G9 at d1 et4 ⊢;refine ⟨_,rfl,(sz 2),λt5 nt5=>?_⟩;have d2:Same G9 (upd G9 t5 (.tup [.str "stop",.int n])):=zi (Same.refl _) nt5;have et5:upd G9 t5 (.tup [.str "stop",.int n]) t5=_:=zf;generalize upd G9 t5 (.tup [.str "stop",.int n])=G10 at d2 et5 ⊢;refine ⟨(sz 1),λt6 nt6=>?_⟩;have d3:Same G10 (upd G10 t6 (.tup [.str "next"])):=zi (Same.refl _) nt6;have et6:upd G10 t6 (.tup [.str "next"]) t6=_:=zf;generalize upd G10 t6 (.tup [.str "next"])=G11 at d3 et6 ⊢;refine ⟨(sz 3),λc4 nc4=>?_⟩;have d4:Same G11 (upd G11 c4 (.lst [.ref t4,.ref t5,.ref t6])):=zi (Same.refl _) nc4;have ec4:upd G11 c4 (.lst [.ref t4,.ref t5,.ref t6]) c4=_:=zf;generalize upd G11 c4 (.lst [.ref t4,.ref t5,.ref t6])=G12 at d4 ec4 ⊢;refine ⟨cd1,c4,_,_,rfl,rfl,(((d1.trans d2).trans d3).trans d4) _ _ ecd1,ec4,(by rw [Ji,Jj];show 3+_+3<=_;omega),λcd3 ncd3=>?_⟩;obtain ⟨csA,hcsA⟩:∃ cs,cs=[t0,t1,t2]++ss++[t4,t5,t6]:=⟨_,rfl⟩;have eX2:([t0,t1,t2]++ss).map V.ref++[V.ref t4,.ref t5,.ref t6]=csA.map V.ref:=by rw [hcsA,List.map_append (l₂:=[t4,t5,t6])];rfl
 rw [eX2];have d5:Same G12 (upd G12 cd3 (.lst (csA.map V.ref))):=zi (Same.refl _) ncd3;have ecd3:upd G12 cd3 (.lst (csA.map V.ref)) cd3=_:=zf;generalize upd G12 cd3 (.lst (csA.map V.ref))=G at d5 ecd3 ⊢;obtain ⟨code,hcode⟩:∃ code:List (Jn),code=[[.str "begin",.int (mn:Int),.int gg],[.str "load",.int (p:Nat),.int (r0:Nat),.int (0:Nat)],[.str "load",.int (q:Nat),.int (r1:Nat),.int (0:Nat)]]++xs.map (Sp6.tv p q r2)++[[.str "store",.int (r3:Nat),.int (p:Nat),.int (0:Nat)],[.str "stop",.int n],[.str "next"]]:=⟨_,rfl⟩
 have CAG:CodeAt G csA code:=by
  have d35:=(d3.trans d4).trans d5;have dAll:=(d1.trans d2).trans d35;rw [hcsA,hcode];exact xI (xI (xI (xI (xH (dAll _ _ et0)) (xH (dAll _ _ et1))) (xH (dAll _ _ et2))) (cs.same (cA.trans dAll))) (xI (xI (xH ((d2.trans d35) _ _ et4)) (xH (d35 _ _ et5))) (xH ((d4.trans d5) _ _ et6)))
 have sA:=cA.trans (((d1.trans d2).trans (d3.trans d4)).trans d5);replace hS:=zo hS sA;replace ele:=sA _ _ ele;replace ece:=sA _ _ ece;replace esl:=sA _ _ esl;replace e0:=sA _ _ e0;replace e1:=sA _ _ e1;replace e2:=sA _ _ e2;replace esa:=sA _ _ esa;replace cs:=cs.same sA;clear sA cA d1 d2 d3 d4 d5 et0 et1 et2 et4 et5 et6 ec4 ecd1 eX2 erl;refine ⟨_,rfl,ce,_,rfl,.inl (SqL.of ece),λdd ndd=>?_⟩;have hB1:Hd G [(dd,.lst (cells.map V.int))] (upd G dd (.lst (cells.map V.int))):=Hd.base.new ndd;generalize upd G dd (.lst (cells.map V.int))=G1 at hB1 ⊢;refine ⟨(sz 0),λtt ntt=>?_⟩;have hB2:Hd G [(dd,.lst (cells.map V.int)),(tt,.lst (([]:Jg).map V.ref))] (upd G1 tt (.lst [])):=hB1.fnew ntt;generalize upd G1 tt (.lst [])=G2 at hB2 ⊢;clear hB1;obtain ⟨nu0,hnu0⟩:∃ f:Bool->Int->Int,f=λs e=>cond s (ot.getD e.toNat 0) (os.getD e.toNat 0):=⟨_,rfl⟩
 have kn0:∀ s e,Kin (nu0 s e):=λs e=>by
  rw [hnu0];cases s
  ·exact YO k0 _
  ·exact YO k1 _
 refine ⟨_,rfl,_,rfl,by omega,by omega,_,rfl,λse nse=>?_⟩;have h0:Hd G ((se,.lst (([]:Jg).map V.ref))::(dd,.lst (cells.map V.int))::(tt,.lst (([]:Jg).map V.ref))::yq p q nu0 []) (upd G2 se (.lst [])):=hB2.new nse;generalize upd G2 se (.lst [])=G3 at h0 ⊢;refine xf (n:=((mn:Nat):Int).toNat) (λi σ J=>∃ (u:Jo) (D:Jg),D.length=i/\σ=[u,iq p,iq q,rq x0,rq x1]/\Hd G ((se,.lst (D.map V.ref))::(dd,.lst (cells.map V.int))::(tt,.lst (([]:Jg).map V.ref))::yq p q nu0 D) J) ⟨none,[],rfl,rfl,h0⟩ ?_ ?_
 ·clear h0
  rintro i σ J hi' ⟨u,D,dl,rfl,h⟩;rw [q0z] at hi';rw [show (0:Int)+(i:Nat)=(i:Nat) from Int.zero_add _];refine λd nd'=>?_;have h2:=h.waste (o:=.dK []) nd';have ed:upd J d (.dK []) d=some (.dK []):=zf;refine ⟨_,rfl,_,rfl,_,rfl,x0,_,_,_,rfl,rfl,SqL.of (h2.sm _ _ e0),xM i (by omega) rfl,_,rfl,_,rfl,_,rfl,x1,_,_,_,rfl,rfl,SqL.of (h2.sm _ _ e1),xM i (by omega) rfl,ed,yv p q (nAt nu0 (i:Nat)),?_,(by show 2<=15;decide),?_⟩
  ·rw [hnu0];rfl
  rw [zbs,zeb pq];have h3:Hd G ((d,.dK (yv p q (nAt nu0 (i:Nat))))::(se,.lst (D.map V.ref))::(dd,.lst (cells.map V.int))::(tt,.lst (([]:Jg).map V.ref))::yq p q nu0 D) (upd J d (.dK (yv p q (nAt nu0 (i:Nat))))):=h.new nd';generalize upd J d (.dK (yv p q (nAt nu0 (i:Nat))))=J3 at h3 ⊢;refine ⟨_,h3.get 1 rfl,(by rw [Ji];omega),_,D++[d],(by rw [Jj,dl];rfl),rfl,?_⟩;have h4:=h3.put (o':=.lst ((D++[d]).map V.ref)) 1 rfl;have eM:(D++[d]).map V.ref=D.map V.ref++[V.ref d]:=by rw [Jk];rfl
  rw [zeo,dl];rw [eM] at h4 ⊢;exact h4.perm (List.perm_append_comm (l₁:=[_]))
 clear h0;rintro σ G4 ⟨u,D,dl,rfl,h⟩;rw [q0z] at dl;have s0:Same G (upd G se (.lst (D.map V.ref))):=h.settled;replace h:=h.settle;have ese:upd G se (.lst (D.map V.ref)) se=some (.lst (D.map V.ref)):=zf;generalize upd G se (.lst (D.map V.ref))=B0 at s0 h ese;clear hB2;obtain ⟨Nn,eN,hN⟩:=size_iff (show (1:Int)<=mn by omega) gb.1;obtain ⟨R,hR⟩:∃ R,R=r6Of (LZ.take r0).sum (LZ.take r1).sum (LZ.take r2).sum (LZ.take r3).sum os ot src xs n:=⟨_,rfl⟩;have ft:R.Fit mn cells.length:=by rw [hR];exact (ftA xs n).1
 have at0:R.At mn cells:=by rw [hR];exact (ftA xs n).2
 have Rnu:R.nu=nu0:=by rw [hR,hnu0];rfl
 have Rs0:R.s0=(LZ.take r0).sum:=by rw [hR];rfl
 have Rs1:R.s1=(LZ.take r1).sum:=by rw [hR];rfl
 have Rs2:R.s2=(LZ.take r2).sum:=by rw [hR];rfl
 have Rs3:R.s3=(LZ.take r3).sum:=by rw [hR];rfl
 have Rn2:R.n2=src.length:=by rw [hR];rfl
 have Rsr:R.sr=λa=>src.getD a.toNat 0:=by rw [hR];rfl
 have Rxs:R.xs=xs:=by rw [hR];rfl
 have Rn:R.n=n:=by rw [hR];rfl
 have ksr:∀ a,Kin (R.sr a):=λa=>by rw [Rsr];exact YO k2 _
 clear hR ftA hnu0 k0 k1;let U:Nat->DT:=upG (R.one mn (gg*(Ln:Int))) (gg*(Ln:Int)) (cells,[]);let bad:Nat->Option (Int×Int×Str):=λi=>R.bad mn (gg*(Ln:Int)) (i*(gg*(Ln:Int)));refine ⟨λσ J=>∃ (rv:V) (u25 u26 u27 u28:Jo) (B3:Hp) (ts3:Jg),σ=[rq a,iq mn,rq x0,none,rq x1,none,rq x2,iq tn,rq pa,rq le,none,rq ce,rq rl,rq sl,iq Ln,iq gg,iq p,iq q,rq sa,iq n,rq cd3,rq dd,rq tt,some rv,rq se,u25,u26,u27,u28]/\Same B0 B3/\Hd B3 [(dd,.lst ((U (xK bad Nn).1).1.map V.int)),(tt,.lst (ts3.map V.ref))] J/\TAt B3 ts3 (U (xK bad Nn).1).2/\RfAt B3 rv (xK bad Nn).2,?_,?_⟩
 ·refine ⟨_,rfl,_,rfl,_,rfl,_,_,rfl,rfl,.inl ⟨by omega,by omega⟩,0,mn,gg*(Ln:Int),Nn,rfl,⟨by decide,by decide,by omega,by omega,by omega,by omega⟩,eN,?_⟩
  refine for_step (n:=Nn) (λj σ J=>∃ (u25 u26 u27 u28:Jo) (B3:Hp) (ts3:Jg) (nu:Bool->Int->Int),σ=[rq a,iq mn,rq x0,none,rq x1,none,rq x2,iq tn,rq pa,rq le,none,rq ce,rq rl,rq sl,iq Ln,iq gg,iq p,iq q,rq sa,iq n,rq cd3,rq dd,rq tt,some .non,rq se,u25,u26,u27,u28]/\Same B0 B3/\Hd B3 ((dd,.lst ((U j).1.map V.int))::(tt,.lst (ts3.map V.ref))::yq p q nu D) J/\TAt B3 ts3 (U j).2/\(U j).1.length=cells.length/\((U j).2.length:Int)<=23*min (mn:Int) (j*(gg*(Ln:Int)))/\(∀ s e,Kin (nu s e))/\(∀ s e,(j:Int)*(gg*(Ln:Int))<=e->nu s e=R.nu s e)/\∀ i,i<j->bad i=none) ⟨_,_,_,_,B0,[],nu0,rfl,Same.refl _,h,⟨rfl,λi b t x=>by cases x⟩,rfl,(by show (0:Int)<=_;rw [show ((0:Nat):Int)*(gg*Ln)=0 by omega];omega),kn0,(λs e _=>by rw [Rnu]),λi hi=>by omega⟩ ?_ ?_
  ·rintro j σ J hj ⟨u25,u26,u27,u28,B3,ts3,nu,rfl,sB3,hD3,ta3,ul1,ul2,knu,anu,nb⟩
   have hjb:=(hN j).mp hj;have jb0:(0:Int)<=j*(gg*Ln):=Int.mul_nonneg (by omega) (by omega);have sc:((j+1:Nat):Int)*(gg*Ln)=j*(gg*Ln)+gg*Ln:=by rw [Int.natCast_add,Int.add_mul];show _+1*(gg*(Ln:Int))=_;rw [Int.one_mul]
   have eU:U (j+1)=R.one mn (gg*(Ln:Int)) (j*(gg*Ln)) (U j):=xj _ _ _ _;have hbj:bad j=R.bad mn (gg*(Ln:Int)) (j*(gg*(Ln:Int))):=rfl;have endJ:∀ r,bad j=some r->xK bad Nn=(j+1,some r):=λr hr=>ends_at hj hr nb
   have nbS:bad j=none->∀ i,i<j+1->bad i=none:=λz i hi=>by
    rcases Nat.lt_or_eq_of_le (Nat.le_of_lt_succ hi) with y | y
    ·exact nb i y
    ·rw [y];exact z
   have fin:∀ r,bad j=some r->(U (xK bad Nn).1)=R.one mn (gg*(Ln:Int)) (j*(gg*Ln)) (U j)/\(xK bad Nn).2=some r:=λr hr=>by rw [endJ r hr];exact ⟨eU,rfl⟩
   clear_value bad
   rw [eU,sc];rw [Int.zero_add];generalize U j=S1 at *;generalize U (xK bad Nn).1=SE at *;obtain ⟨d1,T1⟩:=S1;generalize (j:Int)*(gg*Ln)=b at *;have ul1:d1.length=cells.length:=ul1;have ul2:(T1.length:Int)<=23*min (mn:Int) b:=ul2;have wb:(wid mn (gg*Ln) b:Int)=min (mn:Int) (b+gg*Ln)-b:=by unfold wid;omega
   have wn':(if gg*(Ln:Int)<(mn:Int)-b then gg*(Ln:Int) else (mn:Int)-b)=(wid mn (gg*Ln) b:Nat):=by split <;> omega
   refine ⟨_,rfl,_,rfl,_,_,rfl,rfl,_,rfl,_,rfl,_,_,rfl,rfl,.inl ⟨by omega,by omega⟩,_,_,rfl,?_⟩;rw [wn'];generalize hW:wid mn (gg*Ln) b=W at *;have hs:=hD3.settle;have sS:Same B3 (upd B3 dd (.lst (d1.map V.int))):=hD3.settled;have nB3:B3 dd=none:=hD3.nw (dd,_) q1z;have eS:upd B3 dd (.lst (d1.map V.int)) dd=some (.lst (d1.map V.int)):=zf;generalize upd B3 dd (.lst (d1.map V.int))=B4 at hs sS eS;have s04:Same G B4:=(s0.trans sB3).trans sS;obtain ⟨S4,hS4⟩:∃ S4,S4=[(LZ.take r0).sum,(LZ.take r1).sum,(LZ.take r2).sum,(LZ.take r3).sum]:=⟨_,rfl⟩;refine ⟨_,rfl,_,rfl,_,rfl,_,rfl,_,rfl,_,rfl,_,rfl,B4,sa,se,x2,sl,tt,ss,ts3,D,T1,src,S4,nu,xs,p,q,r2,W,b,rfl,hs,SqL.of (s04 _ _ esa),cs.same s04,SqL.of ((sB3.trans sS) _ _ ese),SqL.of (s04 _ _ e2),(by rw [hS4];exact SqL.of (s04 _ _ esl)),ta3.same sS,pq,gx,jb0,by omega,by omega,knu,k2,by omega,by omega,by omega,by omega,(by rw [hS4];rfl),λB5 J5 ts5 fa s5 h5 ta5=>?_⟩
   have al:Al6 b W (yD (S4.getD 2 0) src.length (λa=>src.getD a.toNat 0) b 3 xs (t06 S4 b W nu T1)) (R.fin mn (gg*Ln) b T1):=by
    unfold R6.fin;rw [Rs2,Rn2,Rsr,Rxs,show S4.getD 2 0=(LZ.take r2).sum by rw [hS4];rfl];refine run6_al xs 3 ⟨hW.symm,rfl,?_,λs j h0 _=>anu s _ (by omega),Nat.le_refl _⟩;show T1++(rdR (S4.getD 0 0) 1 ((zM W).map (b+·))++rdR (S4.getD 1 0) 2 ((zM W).map (b+·)))=T1++R.rd (xO mn (gg*Ln) b);unfold R6.rd xO rdR;rw [Rs0,Rs1,hW,hS4];rfl
   have q6:Q6 W (yD (S4.getD 2 0) src.length (λa=>src.getD a.toNat 0) b 3 xs (t06 S4 b W nu T1)):=run6_q (λa=>YO k2 _) xs 3 gx ⟨knu,(λp hp=>nomatch hp),(λj hj=>nomatch hj),Nat.le_refl _,.inl rfl⟩;have out:∀ s e,b+W<=e->(yD (S4.getD 2 0) src.length (λa=>src.getD a.toNat 0) b 3 xs (t06 S4 b W nu T1)).nu s e=nu s e:=λs e he=>zc4 xs 3 (t:=t06 S4 b W nu T1) (.inr he) s
   have hWk:∀ v∈zy (yD (S4.getD 2 0) src.length (λa=>src.getD a.toNat 0) b 3 xs (t06 S4 b W nu T1)).fs,(((yD (S4.getD 2 0) src.length (λa=>src.getD a.toNat 0) b 3 xs (t06 S4 b W nu T1)).W:Nat):Int)<=v:=by
    have kb:=q6.kb;rw [hxs,Y4] at kb ⊢;exact (YY λj hj=>(kb j hj).1).2.1
   have str:=XZ (S4.getD 2 0) src.length (λa=>src.getD a.toNat 0) b xs 3 (t06 S4 b W nu T1) (λj v e=>by cases e)
   have fl6:(yD (S4.getD 2 0) src.length (λa=>src.getD a.toNat 0) b 3 xs (t06 S4 b W nu T1)).fs.length<=13*256:=by
    have:=run6_fl (S4.getD 2 0) src.length (λa=>src.getD a.toNat 0) b W xs 3 (t06 S4 b W nu T1) (Nat.le_refl _);have h2:xs.length*W<=13*256:=Nat.mul_le_mul x13 (by omega);have h3:(t06 S4 b W nu T1).fs.length=0:=rfl;omega
   have tl6:(yD (S4.getD 2 0) src.length (λa=>src.getD a.toNat 0) b 3 xs (t06 S4 b W nu T1)).T.length<=T1.length+15*W:=by
    have:=YC (S4.getD 2 0) src.length (λa=>src.getD a.toNat 0) b W xs 3 (t06 S4 b W nu T1) (Nat.le_refl _);have h2:xs.length*W<=13*W:=Nat.mul_le_mul_right _ x13
    have h3:(t06 S4 b W nu T1).T.length=T1.length+2*W:=by
     show (T1++(rdR _ 1 _++rdR _ 2 _)).length=_;have l1:∀ s k:Int,(rdR s k ((zM W).map (b+·))).length=W:=λs k=>by unfold rdR;rw [Ji,Zx]
     rw [Jj,Jj,l1,l1];omega
    omega
   generalize yD (S4.getD 2 0) src.length (λa=>src.getD a.toNat 0) b 3 xs (t06 S4 b W nu T1)=F' at *;obtain ⟨C,hC⟩:∃ C:Nat,C=F'.W:=⟨_,rfl⟩;have CW:C<=W:=by rw [hC];exact q6.le
   rw [← hC] at hWk
   have one1:R.one mn (gg*(Ln:Int)) b (d1,T1)=(yY d1 (((zM C).map (b+·)).map λe=>((LZ.take r3).sum+e,F'.nu false e)),F'.T++((zM C).map (b+·)).map λe=>(((3+xs.length:Nat):Int),("write":Str),(LZ.take r3).sum+e)):=by
    show (yY d1 (((zM (R.fin mn (gg*Ln) b T1).W).map (b+·)).map λe=>(R.s3+e,(R.fin mn (gg*Ln) b T1).nu false e)),(R.fin mn (gg*Ln) b T1).T++((zM (R.fin mn (gg*Ln) b T1).W).map (b+·)).map λe=>(((3+R.xs.length:Nat):Int),("write":Str),R.s3+e))=_;rw [← al.W,← al.T,Rxs,Rs3,← hC];congr 2;refine List.map_congr_left λe he=>?_;obtain ⟨i,hi,rfl⟩:=List.mem_map.mp he;unfold zM at hi;obtain ⟨i',hi',rfl⟩:=List.mem_map.mp hi;have:=List.mem_range.mp hi';rw [al.nu false (Int.ofNat i') (Int.natCast_nonneg _) (by show (i':Int)<_;omega)]
   have bad1:R.bad mn (gg*(Ln:Int)) b=if F'.fs=[] then none else some (n,b+(C:Nat),strV (zN F'.fs (.inl (C:Int)))):=by
    obtain ⟨g1,g2,_⟩:=R.fin_T mn (gg*(Ln:Int)) b T1;unfold R6.bad;rw [← g1,← g2,← al.W,← al.fs,Rn,← hC]
   rw [one1] at fin ⊢;rw [bad1] at hbj;clear one1 bad1 al endJ;have e5:B5 dd=some (.lst (d1.map V.int)):=s5 _ _ eS;have h6:=Hd_un h5 e5;have s36:Same B3 (but B5 [dd]):=same_un (sS.trans s5) nB3;have ta6:=ta_un ta5 e5;generalize but B5 [dd]=B6 at h6 s36 ta6;have sG6:Same G B6:=(s0.trans sB3).trans s36;clear hs sS eS s5 h5 ta5 e5 hD3 ta3 nB3 s04;refine ⟨_,rfl,(sz 1),λl1 nl1=>?_⟩;have h7:=h6.waste (o:=.lst [.int (W:Nat)]) nl1;have el1:upd J5 l1 (.lst [.int (W:Nat)]) l1=_:=zf;generalize upd J5 l1 (.lst [.int (W:Nat)])=J6 at h7 el1 ⊢;refine ⟨_,rfl,fa,F'.fs,rfl,h7.get 1 rfl,by omega,λl2 nl2=>?_⟩;rw [keysV q6.ik];have h8:=h7.waste (o:=.lst ((zy F'.fs).map V.int)) nl2;have el2:upd J6 l2 (.lst ((zy F'.fs).map V.int)) l2=_:=zf;have nl12:l1≠l2:=λz=>by rw [z,nl2] at el1;cases el1
   have el1':upd J6 l2 (.lst ((zy F'.fs).map V.int)) l1=some (.lst [.int (W:Nat)]):=by rw [zj nl12];exact el1
   generalize upd J6 l2 (.lst ((zy F'.fs).map V.int))=J7 at h8 el2 el1' ⊢;refine ⟨l1,l2,_,_,rfl,rfl,el1',el2,(by rw [Ji];have:=Xh F'.fs;show 1+_<=_;omega),λl3 nl3=>?_⟩;have h9:=h8.waste (o:=.lst ([V.int (W:Nat)]++(zy F'.fs).map V.int)) nl3;have el3:upd J7 l3 (.lst ([V.int (W:Nat)]++(zy F'.fs).map V.int)) l3=some (.lst ((((W:Nat):Int)::zy F'.fs).map V.int)):=zf;generalize upd J7 l3 (.lst ([V.int (W:Nat)]++(zy F'.fs).map V.int))=J8 at h9 el3 ⊢;refine ⟨l3,((W:Nat):Int)::zy F'.fs,rfl,SqL.of el3,Nat.zero_lt_succ _,λm hm hle=>?_⟩
   have em:m=(C:Nat):=by
    have a1:=hle _ q1z
    have a2:(C:Int)<=m:=by
     rcases List.mem_cons.mp hm with rfl | hm
     ·omega
     ·exact hWk _ hm
    have a3:m<=(C:Int):=by
     rcases q6.c with c | c
     ·rw [hC,c];exact a1
     ·rw [hC];exact hle _ (q1y _ c)
    omega
   subst em;clear el1 el2 el1' el3 nl1 nl2 nl3 nl12 hm hle h6 h7 h8;refine ⟨_,rfl,by omega,by omega,?_⟩;rw [q0z];have f3:0<=(LZ.take r3).sum/\(LZ.take r3).sum+(mn:Int)<=cells.length:=by have:=ft.f3;rw [Rs3] at this;exact this
   refine xh (lo:=0) (n:=C) (λi σ J=>∃ (u28:Jo) (B7:Hp) (ts7:Jg),σ=[rq a,iq mn,rq x0,none,rq x1,none,rq x2,iq tn,rq pa,rq le,none,rq ce,rq rl,rq sl,iq Ln,iq gg,iq p,iq q,rq sa,iq n,rq cd3,rq dd,rq tt,some .non,rq se,iq b,iq W,rq fa,u28]/\Same B6 B7/\Hd B7 ((dd,.lst ((yY d1 (((zM i).map (b+·)).map λe=>((LZ.take r3).sum+e,F'.nu false e))).map V.int))::(fa,.dK F'.fs)::(tt,.lst (ts7.map V.ref))::yq p q F'.nu D) J/\TAt B7 ts7 (F'.T++((zM i).map (b+·)).map λe=>(((3+xs.length:Nat):Int),("write":Str),(LZ.take r3).sum+e))) ⟨u28,B6,ts5,rfl,Same.refl _,h9,by show TAt B6 ts5 (F'.T++[]);rw [q3y];exact ta6⟩ ?_ ?_
   ·clear h9 ta6
    rintro i σ J9 hi ⟨u28,B7,ts7,rfl,s7,h,ta⟩;rw [show (0:Int)+(i:Nat)=(i:Nat) from Int.zero_add _];have hn7:=ta.n;rw [Jj,Ji,Zx] at hn7;have sG7:=sG6.trans s7;have sJ7:=sG7.trans h.sm;have ee:(LZ.take r3).sum+b+(i:Int)=(LZ.take r3).sum+(b+(i:Int)):=by omega
    have e3x:(((ss.map V.ref).length:Nat):Int)+3=((3+xs.length:Nat):Int):=by rw [Ji,sl13];omega
    refine ⟨_,rfl,.inl ⟨rfl,_,h.lst 2 rfl⟩,_,rfl,sa,_,rfl,.inl (SqL.of (sJ7 _ _ esa)),_,_,rfl,rfl,_,rfl,sl,_,_,_,rfl,rfl,SqL.of (sJ7 _ _ esl),rfl,_,rfl,_,_,rfl,rfl,_,rfl,_,_,rfl,rfl,(sz 3),λt nt=>?_⟩;obtain ⟨h8,ta8,s8⟩:=ta.note (p:=((((ss.map V.ref).length:Nat):Int)+3,("write":Str),(LZ.take r3).sum+b+(i:Int))) h nt;refine ⟨tt,_,_,rfl,rfl,h8.get 2 rfl,(by rw [Ji];omega),?_⟩;have h10:=h8.put (o':=.lst ((ts7++[t]).map V.ref)) 2 rfl;have eM:(ts7++[t]).map V.ref=ts7.map V.ref++[V.ref t]:=by rw [Jk];rfl
    rw [eM] at h10;generalize upd (upd J9 t _) tt (.lst (ts7.map V.ref++[V.ref t]))=J10 at h10 ⊢;generalize upd B7 t _=B8 at h8 ta8 s8 h10;rw [ee,e3x] at ta8;have s08:=(sG7.trans s8).trans h10.sm;obtain ⟨m,hm⟩:∃ m:Nat,b+(i:Int)=m:=⟨(b+(i:Int)).toNat,by omega⟩;obtain ⟨dm,hdm⟩:∃ a,D[m]?=some a:=⟨D[m]'(by omega),List.getElem?_eq_getElem _⟩
    have dg:DGet J10 dm (.int (p:Int)) (some (.int (F'.nu false (b+(i:Int))))):=by
     have:=DGet.k (k:=.inl ((p:Nat):Int)) (h10.get (3+m) (by rw [Nat.add_comm];exact zak hdm));rw [show zN (yv p q (nAt F'.nu (m:Nat))) (.inl ((p:Nat):Int))=some (.int (nAt F'.nu (m:Nat) false)) from X7 pq _ false] at this;rw [hm];exact this
    refine ⟨_,rfl,_,rfl,_,rfl,_,_,rfl,rfl,se,_,_,_,rfl,rfl,SqL.of ((((sB3.trans s36).trans s7).trans s8).trans h10.sm _ _ ese),(by rw [hm];exact zJ (by rw [List.getElem?_map,hdm];rfl)),_,rfl,dm,_,rfl,dg,_,rfl,_,rfl,sl,_,_,_,rfl,rfl,SqL.of (s08 _ _ esl),rfl,_,rfl,_,_,rfl,rfl,_,rfl,_,_,rfl,rfl,dd,_,_,((LZ.take r3).sum+b+(i:Int)).toNat,rfl,rfl,h10.get 0 rfl,ixN_nat (by omega) (by rw [Ji,Yn];omega),?_⟩;have e6:((LZ.take r3).sum+b+(i:Int)).toNat=((LZ.take r3).sum+(b+(i:Int))).toNat:=by rw [ee]
    rw [zcx,e6];refine ⟨_,B8,ts7++[t],rfl,s7.trans s8,?_,?_⟩
    ·rw [YX,Jk,show ([b+(i:Int)]:Jb).map (λe=>((LZ.take r3).sum+e,F'.nu false e))=[((LZ.take r3).sum+(b+(i:Int)),F'.nu false (b+(i:Int)))] from rfl,zcy,eM]
     exact h10.put 0 rfl
    ·rw [YX,Jk,← List.append_assoc]
     exact ta8
   rintro σ J9 ⟨u28,B7,ts7,rfl,s7,h,ta⟩;clear h9 ta6;have ul1':(yY d1 (((zM C).map (b+·)).map λe=>((LZ.take r3).sum+e,F'.nu false e))).length=cells.length:=(Yn _ _).trans ul1
   have ul2':((F'.T++((zM C).map (b+·)).map λe=>(((3+xs.length:Nat):Int),("write":Str),(LZ.take r3).sum+e)).length:Int)<=23*min (mn:Int) (b+gg*Ln):=by
    rw [Jj,Ji,Zx];omega
   refine ⟨_,rfl,fa,F'.fs,rfl,h.get 1 rfl,_,_,rfl,rfl,_,rfl,?_⟩;refine yU (λz=>?_) (λz=>?_)
   ·have z:0<F'.fs.length:=by
     have:=of_decide_eq_true z;omega
    have fne:F'.fs≠[]:=λy=>by rw [y] at z;exact absurd z (by decide)
    have Cin:(C:Int)∈zy F'.fs:=by
     rcases q6.c with c | c
     ·exfalso
      obtain ⟨pr,hpr⟩:∃ pr,pr∈F'.fs:=⟨F'.fs[0],List.getElem_mem z⟩;obtain ⟨jj,hjj⟩:=q6.ik pr hpr;have hk:jj∈zy F'.fs:=mem_key.mp (by rw [← hjj];exact List.mem_map_of_mem hpr);have b1:=hWk jj hk;have b2:=(q6.kb jj hk).2;omega
     ·rw [hC];exact c
    obtain ⟨v,hv⟩:=Option.isSome_iff_exists.mp ((zY _ _).mp Cin);obtain ⟨zz,rfl⟩:=str _ _ hv
    have least:∀ m:Int,(.inl m:Key)∈F'.fs.map (·.1)->(∀ v:Int,(.inl v:Key)∈F'.fs.map (·.1)->m<=v)->m=(C:Nat):=λm hm hle=>by
     have a1:=hWk m (mem_key.mp hm);have a2:=hle _ (mem_key.mpr Cin);omega
    obtain ⟨f1,f2⟩:=fin _ (show bad j=some (n,b+(C:Nat),zz) by rw [hbj,if_neg fne,hv];rfl);refine ⟨_,rfl,_,rfl,_,rfl,fa,F'.fs,rfl,h.get 1 rfl,q6.ik,z,λm hm hle=>?_⟩;cases least m hm hle;refine ⟨_,_,rfl,rfl,_,rfl,_,rfl,fa,F'.fs,rfl,h.get 1 rfl,q6.ik,z,λm hm' hle'=>?_⟩;cases least m hm' hle';have dg:=DGet.k (k:=.inl (C:Int)) (h.get 1 rfl);rw [hv] at dg;refine ⟨fa,_,rfl,dg,(sz 3),λt nt=>?_⟩;have s8:Same B7 (upd B7 t (.tup [.int n,.int (b+(C:Nat)),.str zz])):=zi (Same.refl _) (h.free nt);have h8:=h.grow (o:=.tup [.int n,.int (b+(C:Nat)),.str zz]) nt;refine ⟨.ref t,_,_,_,_,_,ts7,rfl,((sB3.trans s36).trans s7).trans s8,?_,?_,?_⟩
    ·rw [f1]
     exact h8.sub (List.Sublist.cons₂ _ (List.Sublist.cons _ (List.Sublist.cons₂ _ (List.nil_sublist _))))
    ·rw [f1];exact ta.same s8
    ·rw [f2];exact ⟨t,rfl,zf⟩
   ·have z:F'.fs=[]:=by
     cases e:F'.fs with
     | nil=>rfl
     | cons p l =>
      exfalso;refine z (decide_eq_true ?_);rw [e];show (0:Int)<((l.length+1:Nat):Int);omega
    refine ⟨_,_,_,_,B7,ts7,F'.nu,rfl,(sB3.trans s36).trans s7,?_,ta,ul1',ul2',q6.kn,λs e he=>?_,nbS (by rw [hbj,if_pos z])⟩
    ·exact h.sub (List.Sublist.cons₂ _ (List.Sublist.cons _ (List.Sublist.refl _)))
    ·rw [out s e (by omega)]
     exact anu s e (by omega)
  ·rintro σ J ⟨u25,u26,u27,u28,B3,ts3,nu,rfl,sB3,hD3,ta3,ul1,ul2,_,_,nb⟩
   have e:=ends_none nb;rw [e];exact ⟨_,u25,u26,u27,u28,B3,ts3,rfl,sB3,hD3.sub (List.Sublist.cons₂ _ (List.Sublist.cons₂ _ (List.nil_sublist _))),ta3,rfl⟩
 clear h;rintro σ J1 ⟨rv,u25,u26,u27,u28,B1,ts',rfl,sB1,hD,ta,er⟩;have sJ:Same G J1:=(s0.trans sB1).trans hD.sm;refine ⟨_,rfl,_,rfl,_,rfl,_,rfl,_,rfl,a,ns,2,5,rfl,zo hS sJ,by decide,by decide,by decide,by decide,λJ2 du dus ld hdu=>?_⟩;have sJ2:Same J1 J2:=hdu.sm;have rest0:RestAt (Zb LZ) LZ Ln 0 (cells,[]) (Mc.fresh LZ cells Ln dus []):=⟨⟨by show 1<=Ln;omega,by show Ln<=64;omega,List.length_replicate,List.length_replicate,λm hm=>by rw [List.eq_of_mem_replicate hm];exact List.length_replicate⟩,rfl,rfl,rfl,rfl,rfl,rfl,rfl⟩;have sl4:(Zb LZ).length=4:=(zd1 LZ).trans ll4;have lc:code.length=xs.length+6:=by rw [hcode,Jj,Jj,Ji];show 3+_+3=_;omega
 have cL:∀ i tv,(xs.map (Sp6.tv p q r2))[i]?=some tv->code[3+i]?=some tv:=λi tv hi=>by
  have li:=(List.getElem?_eq_some_iff.mp hi).1;rw [hcode,q4x (by rw [Jj];show 3+i<3+_;omega),List.getElem?_append_right (by show 3<=3+i;omega),show 3+i-([[V.str "begin",.int (mn:Int),.int gg],[.str "load",.int (p:Nat),.int (r0:Nat),.int (0:Nat)],[.str "load",.int (q:Nat),.int (r1:Nat),.int (0:Nat)]]:List (Jn)).length=i by show 3+i-3=i;omega];exact hi
 have cR:∀ i,code[3+xs.length+i]?=([[V.str "store",.int (r3:Nat),.int (p:Nat),.int (0:Nat)],[.str "stop",.int n],[.str "next"]]:List (Jn))[i]?:=λi=>by
  have l3:([[V.str "begin",.int (mn:Int),.int gg],[.str "load",.int (p:Nat),.int (r0:Nat),.int (0:Nat)],[.str "load",.int (q:Nat),.int (r1:Nat),.int (0:Nat)]]++xs.map (Sp6.tv p q r2):List (Jn)).length=3+xs.length:=by rw [Jj,Ji];rfl
  rw [hcode,List.getElem?_append_right (by rw [l3];omega),l3,show 3+xs.length+i-(3+xs.length)=i by omega]
 have c0':code[0]?=some [.str "begin",.int (mn:Int),.int gg]:=by rw [hcode];rfl
 have c1':code[1]?=some [.str "load",.int (p:Nat),.int (r0:Nat),.int (0:Nat)]:=by rw [hcode];rfl
 have c2':code[2]?=some [.str "load",.int (q:Nat),.int (r1:Nat),.int (0:Nat)]:=by rw [hcode];rfl
 obtain ⟨kk,M,st1,rf',ce',to',pc'⟩:=round6 (code:=code) (R:=R) (N:=Nn) (ys:=ys) (p:=p) (q:=q) (r0:=r0) (r1:=r1) (r2:=r2) (r3:=r3) xB xN lx xL xS xP rest0 hg (by omega) (by omega) pq p8 q8 ⟨by rw [sl4];exact R0,by rw [sl4];exact R1,by rw [sl4];exact R2,by rw [sl4];exact R3⟩ (by rw [ll4];exact R2) (by rw [Rs0];exact ZZ (by rw [ll4];exact R0)) (by rw [Rs1];exact ZZ (by rw [ll4];exact R1)) (by rw [Rs2];exact ZZ (by rw [ll4];exact R2)) (by rw [Rs3];exact ZZ (by rw [ll4];exact R3)) (by rw [Rn2];exact en2) ft at0 (by rw [Rnu];exact kn0) ksr (by rw [Rxs];exact hxs) (by rw [Rxs];omega) (by rw [Rxs];exact λx6 hx x sg y z e=>by have:=gx x6 hx;rw [e] at this;exact this) (by show 0<70000;decide) hN c0' c1' c2' (by rw [Rxs];exact λi tv hi=>by rw [Nat.zero_add];exact cL i tv hi) (by rw [Rxs];exact cR 0) (by rw [Rxs,Rn,show 4+xs.length=3+xs.length+1 by omega];exact cR 1) (by rw [Rxs,show 5+xs.length=3+xs.length+2 by omega];exact cR 2)
 have dn:(code.length:Int)<=M.pc∨M.rq_.isSome=true:=by
  cases e:(xK bad Nn).2 with
  | none=>left;rw [pc' e,lc,Rxs,Nat.add_comm];exact Int.le_refl _
  | some r=>right;rw [rf'];show (xK bad Nn).2.isSome=true;rw [e];rfl
 have hpl:∀ tv∈code,zbq tv:=by
  have sx:∀ x∈xs,zbq (x.tv p q r2):=λx hx=>by
   have gd:=gx x hx
   cases x with
   | ga x y=>exact yC (z:="gather") (ns:=[((cond x q p:Nat):Int),((cond y q p:Nat):Int),r2,0]) (by decide +kernel)
   | rc x m=>exact yC (z:="reach") (ns:=[((cond x q p:Nat):Int),m,0]) (by decide +kernel)
   | tr=>exact yC (z:="trim") (ns:=[]) (by decide +kernel)
   | op x sg y z=>exact plain_op gd
  intro tv htv;rw [hcode] at htv;rcases List.mem_append.mp htv with htv | htv
  ·rcases List.mem_append.mp htv with htv | htv
   ·rcases List.mem_cons.mp htv with rfl | htv
    ·exact yC (ns:=[(mn:Int),gg]) (by decide +kernel)
    rcases List.mem_cons.mp htv with rfl | htv
    ·exact yC (ns:=[(p:Int),r0,0]) (by decide +kernel)
    cases List.mem_singleton.mp htv;exact yC (ns:=[(q:Int),r1,0]) (by decide +kernel)
   ·obtain ⟨x,hx,rfl⟩:=List.mem_map.mp htv
    exact sx x hx
  ·rcases List.mem_cons.mp htv with rfl | htv
   ·exact yC (ns:=[(r3:Int),p,0]) (by decide +kernel)
   rcases List.mem_cons.mp htv with rfl | htv
   ·exact yC (ns:=[n]) (by decide +kernel)
   cases List.mem_singleton.mp htv;exact yC (ns:=[]) (by decide +kernel)
 refine ⟨(sz 0),λpk npk=>?_⟩;have s3:Same J2 (upd J2 pk (.lst [])):=zi (Same.refl _) npk;have epk:upd J2 pk (.lst []) pk=some (.lst (([]:Jb).map V.int)):=zf;generalize upd J2 pk (.lst [])=J3 at s3 epk ⊢;have s13:Same J1 J3:=sJ2.trans s3;have s63:Same G J3:=sJ.trans s13;refine ⟨cd3,le,ce,du,pk,csA,code,LZ,cells,dus,[],Ln,kk,M,rfl,SqL.of (s63 _ _ ecd3),CAG.same s63,hpl,SqL.of (s63 _ _ ele),SqL.of (s63 _ _ ece),SqL.of (s3 _ _ (hdu.get 0 rfl)),SqL.of epk,by omega,by omega,by rw [ll4];decide,by omega,st1.run dn,λB9 A9 H9 t s9 m9 et=>?_⟩;refine ⟨_,rfl,_,rfl,_,rfl,(sz 3),λt2 nt2=>?_⟩;have m10:=m9.grow (o:=.tup [.ref dd,rv,.ref tt]) nt2;have s10:Same B9 (upd B9 t2 (.tup [.ref dd,rv,.ref tt])):=zi (Same.refl _) (m9.h.free nt2);have et2:upd B9 t2 (.tup [.ref dd,rv,.ref tt]) t2=some (.tup [.ref dd,rv,.ref tt]):=zf;generalize upd B9 t2 (.tup [.ref dd,rv,.ref tt])=B10 at m10 s10 et2;generalize upd H9 t2 (.tup [.ref dd,rv,.ref tt])=H10 at m10 ⊢;have sG:Same J1 H10:=((s13.trans s9).trans s10).trans m10.h.sm;exact ⟨_,_,rfl,lk_told2 m10 (m10.h.sm _ _ (s10 _ _ et)) (m10.h.sm _ _ et2) rf' (er.same (hD.sm.trans sG)) ce' to' (sG _ _ (hD.get 0 rfl)) (sG _ _ (hD.get 1 rfl)) (ta.same (hD.sm.trans sG)),λH11 s11=>k _⟩
end
def Ok.weak {P:Program} {w:World} {K:Fg} {mg:J0} {base:Heap} {CX:CXT} {k:Nat} {x:Str} {ps:Jf} {sp sp':Sp} (o:Ok P w K mg base CX k x ps sp) (h:∀ vs H Q E,sp' vs H Q E->sp vs H Q E):Ok P w K mg base CX k x ps sp':=by
 obtain ⟨f,fd,a,b,c,d⟩:=o;exact ⟨f,fd,a,b,c,λvs H Q E z=>d.1 _ _ _ _ (h _ _ _ _ z),λA outer s H args us vs Q E hr e0 hb r z=>d.2 A outer s H args us vs Q E hr e0 hb r (h _ _ _ _ z)⟩
def num_weak {K:Fg}:∀ vs H Q E,spNumber K vs H Q E->spNumK K vs H Q E:=by
 rintro vs H Q E ⟨a,ns,k,e,h,h0,h1,q⟩;exact ⟨a,ns,k,e,h,h0,h1,λr _=>q r⟩
def Lx:Lex:=⟨λw f=>(w="load"/\f=ZR)∨(w="gather"/\f=xC)∨(w="op"/\f=opM),λw f=>(w="store"/\f=Za)∨(w="trim"/\f=XR)∨(w="stop"/\f=Zz)∨(w="reach"/\f=ZU),λw f=>(w="begin"/\f=ZY)∨(w="next"/\f=Xn)⟩
def lx_begin:Lx.W "begin" ZY:=.inl ⟨rfl,rfl⟩
def lx_next:Lx.W "next" Xn:=.inr ⟨rfl,rfl⟩
def lx_load:Lx.S "load" ZR:=.inl ⟨rfl,rfl⟩
def lx_store:Lx.E "store" Za:=.inl ⟨rfl,rfl⟩
def lx_stop:Lx.E "stop" Zz:=.inr (.inr (.inl ⟨rfl,rfl⟩))
def lx_six:Lx6 Lx:=⟨.inr (.inl ⟨rfl,rfl⟩),.inr (.inr (.inr ⟨rfl,rfl⟩)),.inr (.inl ⟨rfl,rfl⟩),.inr (.inr ⟨rfl,rfl⟩)⟩
def own_in {K:Fg} {h₀:Heap} {mg:J0} {x:Str} {C:Ad} {bmB:Jd} {newId:String} (X:K.In h₀) (hm:mg x=some (.ref C)) (q:PySem.W.excIn K C bmB newId=true):PyProof.Rows.OwnCls x C bmB newId mg h₀:=by
 refine ⟨hm,?_⟩;unfold PySem.W.excIn at q
 split at q
 ·rename_i dd cd sl ho
  split at q
  ·rename_i C' bm k0 k1 k2 k3 n k5 hm hs
   simp only [Bool.and_eq_true,beq_iff_eq,Bool.not_eq_true'] at q;obtain ⟨⟨⟨⟨⟨rfl,rfl⟩,hdel⟩,ht⟩,hok⟩,hni⟩:=q;obtain ⟨nm,bs,mro,ns,qn,hd,sn,sub,ab,col,del⟩:=cd;dsimp only at hm hdel hok hni;subst hm hdel
   obtain rfl:sl=#[k0,k1,k2,k3,some (.builtin n),k5]:=by
    obtain ⟨l⟩:=sl;simp only at hs;rw [hs]
   exact ⟨bm,ns,nm,qn,bs,hd,sn,sub,ab,col,dd,k0,k1,k2,k3,k5,_,X _ _ ho,.of_isNs (PySem.W.isNs_of_in X hok),PySem.W.nsMap_none_of_in X hok hni,PySem.W.tail_of_in X ht⟩
  ·cases q
 ·cases q
theorem uc {n:Nat}:∀ {us:Jd},us.length=n+1->∃ a r,us=a::r/\r.length=n
 | a::r,h=>⟨a,r,rfl,Nat.succ.inj h⟩
def us1 {p:Jd->Prop} (h:∀ a0,p [a0]):∀ us:Jd,us.length=1->p us:=by
 intro us e;obtain ⟨a0,u0,rfl,e0⟩:=uc e;cases List.eq_nil_of_length_eq_zero e0;exact h _
def us2 {p:Jd->Prop} (h:∀ a0 a1,p [a0,a1]):∀ us:Jd,us.length=2->p us:=by
 intro us e;obtain ⟨a0,u0,rfl,e0⟩:=uc e;obtain ⟨a1,u1,rfl,e1⟩:=uc e0;cases List.eq_nil_of_length_eq_zero e1;exact h _ _
def us3 {p:Jd->Prop} (h:∀ a0 a1 a2,p [a0,a1,a2]):∀ us:Jd,us.length=3->p us:=by
 intro us e;obtain ⟨a0,u0,rfl,e0⟩:=uc e;obtain ⟨a1,u1,rfl,e1⟩:=uc e0;obtain ⟨a2,u2,rfl,e2⟩:=uc e1;cases List.eq_nil_of_length_eq_zero e2;exact h _ _ _
def us4 {p:Jd->Prop} (h:∀ a0 a1 a2 a3,p [a0,a1,a2,a3]):∀ us:Jd,us.length=4->p us:=by
 intro us e;obtain ⟨a0,u0,rfl,e0⟩:=uc e;obtain ⟨a1,u1,rfl,e1⟩:=uc e0;obtain ⟨a2,u2,rfl,e2⟩:=uc e1;obtain ⟨a3,u3,rfl,e3⟩:=uc e2;cases List.eq_nil_of_length_eq_zero e3;exact h _ _ _ _
def us5 {p:Jd->Prop} (h:∀ a0 a1 a2 a3 a4,p [a0,a1,a2,a3,a4]):∀ us:Jd,us.length=5->p us:=by
 intro us e;obtain ⟨a0,u0,rfl,e0⟩:=uc e;obtain ⟨a1,u1,rfl,e1⟩:=uc e0;obtain ⟨a2,u2,rfl,e2⟩:=uc e1;obtain ⟨a3,u3,rfl,e3⟩:=uc e2;obtain ⟨a4,u4,rfl,e4⟩:=uc e3;cases List.eq_nil_of_length_eq_zero e4;exact h _ _ _ _ _
def us6 {p:Jd->Prop} (h:∀ a0 a1 a2 a3 a4 a5,p [a0,a1,a2,a3,a4,a5]):∀ us:Jd,us.length=6->p us:=by
 intro us e;obtain ⟨a0,u0,rfl,e0⟩:=uc e;obtain ⟨a1,u1,rfl,e1⟩:=uc e0;obtain ⟨a2,u2,rfl,e2⟩:=uc e1;obtain ⟨a3,u3,rfl,e3⟩:=uc e2;obtain ⟨a4,u4,rfl,e4⟩:=uc e3;obtain ⟨a5,u5,rfl,e5⟩:=uc e4;cases List.eq_nil_of_length_eq_zero e5;exact h _ _ _ _ _ _
def us7 {p:Jd->Prop} (h:∀ a0 a1 a2 a3 a4 a5 a6,p [a0,a1,a2,a3,a4,a5,a6]):∀ us:Jd,us.length=7->p us:=by
 intro us e;obtain ⟨a0,u0,rfl,e0⟩:=uc e;obtain ⟨a1,u1,rfl,e1⟩:=uc e0;obtain ⟨a2,u2,rfl,e2⟩:=uc e1;obtain ⟨a3,u3,rfl,e3⟩:=uc e2;obtain ⟨a4,u4,rfl,e4⟩:=uc e3;obtain ⟨a5,u5,rfl,e5⟩:=uc e4;obtain ⟨a6,u6,rfl,e6⟩:=uc e5;cases List.eq_nil_of_length_eq_zero e6;exact h _ _ _ _ _ _ _
def all_mk {l:PySem.W.OpenLaw} {w:World} {K:Fg} {h:Heap} {mg:J0} {fa f_start_of f_kept f_plus f_minus f_times f_refuse_nought f_quotient f_remainder f_lesser f_greater f_is_less f_is_equal f_bits_of_both f_bits_of_either f_bits_of_one f_done f_play_reach f_play_trim f_play_stop f_play_store f_has_effect f_play_effect f_numbers_loaded f_number_gathered f_numbers_gathered f_number_joined f_numbers_joined f_lays_seat f_play_seat_step f_play_begin f_play_next f_place_behind f_ran f_l_cell_at f_l_some f_l_number f_l_alike f_l_lanes f_l_group f_l_dust f_l_ran f_l_kept f_l_signed f_l_step f_l_lane f_l_strip f_law C_Boxes C_Feed C_Bench:Ad} {TS TE TW f_numbers_written f_numbers_of_here f_numbers_spread f_numbers_shifted f_numbers_picked f_numbers_copied f_numbers_brought f_play_choose f_play_other f_play_save f_play_put f_play_fold f_play_running f_play_any f_play_turns f_play_quiet f_play_till:Ad} {tB tM tN:Tok} {esS esE esW:Array DictEntry} {nS nE nW:Nat} {CN SG:Ad} {tH:Tok} {esG:Array DictEntry} {nG:Nat} (X:K.In h) (G:h.Ns mainGlobals mg) (hfa:mg "law"=some (.ref fa))
  (h_start_of:DH K "start_of" ZG f_start_of)
  (h_kept:DH K "kept" zb3 f_kept)
  (h_plus:DH K "plus" zb2 f_plus)
  (h_minus:DH K "minus" Xy f_minus)
  (h_times:DH K "times" Xx f_times)
  (h_refuse_nought:DH K "refuse_nought" y8 f_refuse_nought)
  (h_quotient:DH K "quotient" ZH f_quotient)
  (h_remainder:DH K "remainder" Zh f_remainder)
  (h_lesser:DH K "lesser" Yw f_lesser)
  (h_greater:DH K "greater" Z4 f_greater)
  (h_is_less:DH K "is_less" Z3 f_is_less)
  (h_is_equal:DH K "is_equal" ZK f_is_equal)
  (h_bits_of_both:DH K "bits_of_both" xo f_bits_of_both)
  (h_bits_of_either:DH K "bits_of_either" yR f_bits_of_either)
  (h_bits_of_one:DH K "bits_of_one" xz f_bits_of_one)
  (h_done:DH K "done" zb4 f_done)
  (h_play_reach:DH K "play_reach" xT f_play_reach)
  (h_play_trim:DH K "play_trim" Zi f_play_trim)
  (h_play_stop:DH K "play_stop" Zj f_play_stop)
  (h_play_store:DH K "play_store" xR f_play_store)
  (h_has_effect:DH K "has_effect" xV f_has_effect)
  (h_play_effect:DH K "play_effect" xy f_play_effect)
  (h_numbers_loaded:DH K "numbers_loaded" yP f_numbers_loaded)
  (h_number_gathered:DH K "number_gathered" yF f_number_gathered)
  (h_numbers_gathered:DH K "numbers_gathered" yy f_numbers_gathered)
  (h_number_joined:DH K "number_joined" y9 f_number_joined)
  (h_numbers_joined:DH K "numbers_joined" yQ f_numbers_joined)
  (h_lays_seat:DH K "lays_seat" Zl f_lays_seat)
  (h_play_seat_step:DH K "play_seat_step" yO f_play_seat_step)
  (h_play_begin:DH K "play_begin" xU f_play_begin)
  (h_play_next:DH K "play_next" Zk f_play_next)
  (h_place_behind:DH K "place_behind" xn f_place_behind)
  (h_ran:DH K "ran" s_ran f_ran)
  (h_l_cell_at:DH K "_law_cell_at" Zm f_l_cell_at)
  (h_l_some:DH K "_law_some" Yy f_l_some)
  (h_l_number:DH K "_law_number" ZJ f_l_number)
  (h_l_alike:DH K "_law_alike" x8 f_l_alike)
  (h_l_lanes:DH K "_law_lanes" Z1 f_l_lanes)
  (h_l_group:DH K "_law_group" Z2 f_l_group)
  (h_l_dust:DH K "_law_dust" YB f_l_dust)
  (h_l_ran:DH K "_law_ran" XA f_l_ran)
  (h_l_kept:DH K "_law_kept" YA f_l_kept)
  (h_l_signed:DH K "_law_signed" ZI f_l_signed)
  (h_l_step:DH K "_law_step" Yx f_l_step)
  (h_l_lane:DH K "_law_lane" Yz f_l_lane)
  (h_l_strip:DH K "_law_strip" Z0 f_l_strip)
  (h_law:DH K "law" XY f_law)
  (a_C_Boxes:PySem.W.nsIn K mainGlobals "Boxes"=some (some (.ref C_Boxes))) (h_C_Boxes:CH K C_Boxes)
  (fn_C_Boxes:FN K C_Boxes ["lanes","numbers"])
  (mk_C_Boxes:PySem.W.makesIn K C_Boxes=true) (kC_C_Boxes:PySem.W.keepIn K (.ref C_Boxes)=true)
  (h_Boxes_init:MH K C_Boxes "__init__" "Boxes.__init__" xX)
  (h_Boxes_spot_of:MH K C_Boxes "spot_of" "Boxes.spot_of" xa)
  (h_Boxes_lay:MH K C_Boxes "lay" "Boxes.lay" Zo)
  (h_Boxes_number_at:MH K C_Boxes "number_at" "Boxes.number_at" yG)
  (a_C_Feed:PySem.W.nsIn K mainGlobals "Feed"=some (some (.ref C_Feed))) (h_C_Feed:CH K C_Feed)
  (fn_C_Feed:FN K C_Feed ["numbers","at"])
  (mk_C_Feed:PySem.W.makesIn K C_Feed=true) (kC_C_Feed:PySem.W.keepIn K (.ref C_Feed)=true)
  (h_Feed_init:MH K C_Feed "__init__" "Feed.__init__" Zn)
  (h_Feed_taken:MH K C_Feed "taken" "Feed.taken" xW)
  (a_C_Bench:PySem.W.nsIn K mainGlobals "Bench"=some (some (.ref C_Bench))) (h_C_Bench:CH K C_Bench)
  (fn_C_Bench:FN K C_Bench ["lengths","starts","cells","lanes","boxes","masks","slots","dust","picks","touches","at","opened","many","group","base","begun","width","faults","cut","carried","raised","turns","refusal"])
  (mk_C_Bench:PySem.W.makesIn K C_Bench=true) (kC_C_Bench:PySem.W.keepIn K (.ref C_Bench)=true)
  (h_Bench_init:MH K C_Bench "__init__" "Bench.__init__" xY)
  (h_Bench_open_round:MH K C_Bench "open_round" "Bench.open_round" yA)
  (h_Bench_begin_strip:MH K C_Bench "begin_strip" "Bench.begin_strip" yr)
  (h_Bench_active_under:MH K C_Bench "active_under" "Bench.active_under" yj)
  (h_Bench_numbers_in:MH K C_Bench "numbers_in" "Bench.numbers_in" yB)
  (h_Bench_lay_seat:MH K C_Bench "lay_seat" "Bench.lay_seat" yS)
  (h_Bench_lay_mask:MH K C_Bench "lay_mask" "Bench.lay_mask" yT)
  (h_Bench_touch:MH K C_Bench "touch" "Bench.touch" xA)
  (h_Bench_read_cell:MH K C_Bench "read_cell" "Bench.read_cell" yH)
  (h_Bench_write_cell:MH K C_Bench "write_cell" "Bench.write_cell" yz)
  (tb1:TB K mainGlobals [("SEAT_STEPS",TS),("EFFECTS",TE),("WAYS",TW),("numbers_written",f_numbers_written),("numbers_of_here",f_numbers_of_here),("numbers_spread",f_numbers_spread),("numbers_shifted",f_numbers_shifted),("numbers_picked",f_numbers_picked),("numbers_copied",f_numbers_copied),("numbers_brought",f_numbers_brought),("play_choose",f_play_choose),("play_other",f_play_other),("play_save",f_play_save),("play_put",f_play_put),("play_fold",f_play_fold),("play_running",f_play_running),("play_any",f_play_any),("play_turns",f_play_turns),("play_quiet",f_play_quiet),("play_till",f_play_till),("ByNought",CN),("SIGNS",SG)])
  (lS:K.lookup TS=some ⟨.type "dict",none,.dict esS nS,#[]⟩)
  (kS:PySem.W.KeysLit w.params esS.toList)
  (lE:K.lookup TE=some ⟨.type "dict",none,.dict esE nE,#[]⟩)
  (kE:PySem.W.KeysLit w.params esE.toList)
  (lW:K.lookup TW=some ⟨.type "dict",none,.dict esW nW,#[]⟩)
  (kW:PySem.W.KeysLit w.params esW.toList)
  (tb2:TB K TS [("number",f_numbers_written),("here",f_numbers_of_here),("load",f_numbers_loaded),("spread",f_numbers_spread),("shift",f_numbers_shifted),("gather",f_numbers_gathered),("op",f_numbers_joined),("pick",f_numbers_picked),("copy",f_numbers_copied),("bring",f_numbers_brought)])
  (tb3:TB K TE [("reach",f_play_reach),("trim",f_play_trim),("stop",f_play_stop),("choose",f_play_choose),("other",f_play_other),("save",f_play_save),("store",f_play_store),("put",f_play_put),("fold",f_play_fold),("running",f_play_running),("any",f_play_any)])
  (tb4:TN K TS ["reach","trim","stop","choose","other","save","store","put","fold","running","any","begin","next","turns","quiet","till"])
  (tb5:TB K TW [("begin",f_play_begin),("next",f_play_next),("turns",f_play_turns),("quiet",f_play_quiet),("till",f_play_till)])
  (tb6:TN K TE ["begin","next","turns","quiet","till"])
  (loS:(TS == sysModules)=false)
  (loE:(TE == sysModules)=false)
  (k_int_int:PySem.W.kitOne K (.type "int") (.type "int")=some true)
  (k_int_bool:PySem.W.kitOne K (.type "int") (.type "bool")=some false)
  (k_int_str:PySem.W.kitOne K (.type "int") (.type "str")=some false)
  (k_int_list:PySem.W.kitOne K (.type "int") (.type "list")=some false)
  (k_int_tuple:PySem.W.kitOne K (.type "int") (.type "tuple")=some false)
  (k_str_str:PySem.W.kitOne K (.type "str") (.type "str")=some true)
  (k_list_str:PySem.W.kitOne K (.type "list") (.type "str")=some false)
  (k_list_list:PySem.W.kitOne K (.type "list") (.type "list")=some true)
  (k_list_tuple:PySem.W.kitOne K (.type "list") (.type "tuple")=some false)
  (k_tuple_str:PySem.W.kitOne K (.type "tuple") (.type "str")=some false)
  (k_tuple_list:PySem.W.kitOne K (.type "tuple") (.type "list")=some false)
  (k_tuple_tuple:PySem.W.kitOne K (.type "tuple") (.type "tuple")=some true)
  (tb7:TN K mainGlobals ["isinstance","int","bool","str","list","tuple","len","range","sum","min","max","zip","dict"])
  (aB:PySem.W.nsIn K mainGlobals "MANY_BOXES"=some (some (.int 8 tB)))
  (aM:PySem.W.nsIn K mainGlobals "MOST_TOGETHER"=some (some (.int 4 tM)))
  (aN:PySem.W.nsIn K mainGlobals "MANY_MASKS"=some (some (.int 16 tN)))
  (x_CN:PySem.W.excIn K CN [.type "ValueError",.type "Exception",.type "BaseException",.type "object"] "ValueError.__new__"=true)
  (m_CN_CN:PySem.W.exmOne K (.ref CN) (.ref CN)=some true)
  (aH:PySem.W.nsIn K mainGlobals "HALF"=some (some (.int 9223372036854775808 tH)))
  (lG:K.lookup SG=some ⟨.type "dict",none,.dict esG nG,#[]⟩)
  (kG:PySem.W.KeysLit w.params esG.toList)
  (tb8:TB K SG [("+",f_plus),("-",f_minus),("*",f_times),("/",f_quotient),("rest",f_remainder),("least",f_lesser),("most",f_greater),("<",f_is_less),("=",f_is_equal),("&",f_bits_of_both),("|",f_bits_of_either),("^",f_bits_of_one)])
  : ∃ fd:FuncData,(∀ (s:Sh) (v:Vl),BindsTo s fd ⟨[v],[]⟩ [("_law_script",v)])/\∀ base:Heap,K.In base->base.Ns mainGlobals mg->FnOk l.prog w K mg base CX0 12 fa fd ["_law_script"] (spLaw K):=by
 obtain ⟨aS,aE,aW,a_numbers_written,a_numbers_of_here,a_numbers_spread,a_numbers_shifted,a_numbers_picked,a_numbers_copied,a_numbers_brought,a_play_choose,a_play_other,a_play_save,a_play_put,a_play_fold,a_play_running,a_play_any,a_play_turns,a_play_quiet,a_play_till,b_CN,aG,_⟩:=tb1;obtain ⟨tS_number,tS_here,tS_load,tS_spread,tS_shift,tS_gather,tS_op,tS_pick,tS_copy,tS_bring,_⟩:=tb2;obtain ⟨tE_reach,tE_trim,tE_stop,tE_choose,tE_other,tE_save,tE_store,tE_put,tE_fold,tE_running,tE_any,_⟩:=tb3;obtain ⟨tS_reach,tS_trim,tS_stop,tS_choose,tS_other,tS_save,tS_store,tS_put,tS_fold,tS_running,tS_any,tS_begin,tS_next,tS_turns,tS_quiet,tS_till,_⟩:=tb4;obtain ⟨tW_begin,tW_next,tW_turns,tW_quiet,tW_till,_⟩:=tb5;obtain ⟨tE_begin,tE_next,tE_turns,tE_quiet,tE_till,_⟩:=tb6;obtain ⟨z_isinstance,z_int,z_bool,z_str,z_list,z_tuple,z_len,z_range,z_sum,z_min,z_max,z_zip,z_dict,_⟩:=tb7;obtain ⟨g0,g1,g2,g3,g4,g5,g6,g7,g8,g9,g10,g11,_⟩:=tb8;obtain ⟨a_law,oc_law,od_law,kV_law,dc_law,pm_law,an_law,cd_law,ct_law,sl_law,l_law,c_law,k_law⟩:=h_law;obtain ⟨n_C_Boxes_lanes,n_C_Boxes_numbers,_⟩:=fn_C_Boxes;obtain ⟨n_C_Feed_numbers,n_C_Feed_at,_⟩:=fn_C_Feed;obtain ⟨n_C_Bench_lengths,n_C_Bench_starts,n_C_Bench_cells,n_C_Bench_lanes,n_C_Bench_boxes,n_C_Bench_masks,n_C_Bench_slots,n_C_Bench_dust,n_C_Bench_picks,n_C_Bench_touches,n_C_Bench_at,n_C_Bench_opened,n_C_Bench_many,n_C_Bench_group,n_C_Bench_base,n_C_Bench_begun,n_C_Bench_width,n_C_Bench_faults,n_C_Bench_cut,n_C_Bench_carried,n_C_Bench_raised,n_C_Bench_turns,n_C_Bench_refusal,_⟩:=fn_C_Bench;have a_plus:=h_plus.1;have a_minus:=h_minus.1;have a_times:=h_times.1;have a_quotient:=h_quotient.1;have a_remainder:=h_remainder.1;have a_lesser:=h_lesser.1;have a_greater:=h_greater.1;have a_is_less:=h_is_less.1;have a_is_equal:=h_is_equal.1;have a_bits_of_both:=h_bits_of_both.1;have a_bits_of_either:=h_bits_of_either.1;have a_bits_of_one:=h_bits_of_one.1;have a_play_reach:=h_play_reach.1;have a_play_trim:=h_play_trim.1;have a_play_stop:=h_play_stop.1;have a_play_store:=h_play_store.1;have a_numbers_loaded:=h_numbers_loaded.1;have a_numbers_gathered:=h_numbers_gathered.1;have a_numbers_joined:=h_numbers_joined.1;have a_play_begin:=h_play_begin.1;have a_play_next:=h_play_next.1;have e:=hfa.symm.trans (PySem.W.mg_of X G a_law);cases e;have d_start_of:zn K mg "start_of" ZG ["lengths","row"]:=h_start_of.d X G λ_ _ _ _ _ _=>us2 λ_ _=>rfl;have d_kept:zn K mg "kept" zb3 ["number"]:=h_kept.d X G λ_ _ _ _ _ _=>us1 λ_=>rfl;have d_plus:zn K mg "plus" zb2 ["left","right"]:=h_plus.d X G λ_ _ _ _ _ _=>us2 λ_ _=>rfl;have d_minus:zn K mg "minus" Xy ["left","right"]:=h_minus.d X G λ_ _ _ _ _ _=>us2 λ_ _=>rfl;have d_times:zn K mg "times" Xx ["left","right"]:=h_times.d X G λ_ _ _ _ _ _=>us2 λ_ _=>rfl;have d_refuse_nought:zn K mg "refuse_nought" y8 ["right"]:=h_refuse_nought.d X G λ_ _ _ _ _ _=>us1 λ_=>rfl;have d_quotient:zn K mg "quotient" ZH ["left","right"]:=h_quotient.d X G λ_ _ _ _ _ _=>us2 λ_ _=>rfl;have d_remainder:zn K mg "remainder" Zh ["left","right"]:=h_remainder.d X G λ_ _ _ _ _ _=>us2 λ_ _=>rfl;have d_lesser:zn K mg "lesser" Yw ["left","right"]:=h_lesser.d X G λ_ _ _ _ _ _=>us2 λ_ _=>rfl;have d_greater:zn K mg "greater" Z4 ["left","right"]:=h_greater.d X G λ_ _ _ _ _ _=>us2 λ_ _=>rfl;have d_is_less:zn K mg "is_less" Z3 ["left","right"]:=h_is_less.d X G λ_ _ _ _ _ _=>us2 λ_ _=>rfl;have d_is_equal:zn K mg "is_equal" ZK ["left","right"]:=h_is_equal.d X G λ_ _ _ _ _ _=>us2 λ_ _=>rfl;have d_bits_of_both:zn K mg "bits_of_both" xo ["left","right"]:=h_bits_of_both.d X G λ_ _ _ _ _ _=>us2 λ_ _=>rfl;have d_bits_of_either:zn K mg "bits_of_either" yR ["left","right"]:=h_bits_of_either.d X G λ_ _ _ _ _ _=>us2 λ_ _=>rfl;have d_bits_of_one:zn K mg "bits_of_one" xz ["left","right"]:=h_bits_of_one.d X G λ_ _ _ _ _ _=>us2 λ_ _=>rfl;have d_done:zn K mg "done" zb4 ["sign","left","right"]:=h_done.d X G λ_ _ _ _ _ _=>us3 λ_ _ _=>rfl;have d_play_reach:zn K mg "play_reach" xT ["bench","step"]:=h_play_reach.d X G λ_ _ _ _ _ _=>us2 λ_ _=>rfl;have d_play_trim:zn K mg "play_trim" Zi ["bench","step"]:=h_play_trim.d X G λ_ _ _ _ _ _=>us2 λ_ _=>rfl;have d_play_stop:zn K mg "play_stop" Zj ["bench","step"]:=h_play_stop.d X G λ_ _ _ _ _ _=>us2 λ_ _=>rfl;have d_play_store:zn K mg "play_store" xR ["bench","step"]:=h_play_store.d X G λ_ _ _ _ _ _=>us2 λ_ _=>rfl;have d_has_effect:zn K mg "has_effect" xV ["word"]:=h_has_effect.d X G λ_ _ _ _ _ _=>us1 λ_=>rfl;have d_play_effect:zn K mg "play_effect" xy ["bench","step"]:=h_play_effect.d X G λ_ _ _ _ _ _=>us2 λ_ _=>rfl;have d_numbers_loaded:zn K mg "numbers_loaded" yP ["bench","step","active"]:=h_numbers_loaded.d X G λ_ _ _ _ _ _=>us3 λ_ _ _=>rfl;have d_number_gathered:zn K mg "number_gathered" yF ["bench","row","place","lane"]:=h_number_gathered.d X G λ_ _ _ _ _ _=>us4 λ_ _ _ _=>rfl;have d_numbers_gathered:zn K mg "numbers_gathered" yy ["bench","step","active"]:=h_numbers_gathered.d X G λ_ _ _ _ _ _=>us3 λ_ _ _=>rfl;have d_number_joined:zn K mg "number_joined" y9 ["bench","sign","left","right","lane"]:=h_number_joined.d X G λ_ _ _ _ _ _=>us5 λ_ _ _ _ _=>rfl;have d_numbers_joined:zn K mg "numbers_joined" yQ ["bench","step","active"]:=h_numbers_joined.d X G λ_ _ _ _ _ _=>us3 λ_ _ _=>rfl;have d_lays_seat:zn K mg "lays_seat" Zl ["word"]:=h_lays_seat.d X G λ_ _ _ _ _ _=>us1 λ_=>rfl;have d_play_seat_step:zn K mg "play_seat_step" yO ["bench","step"]:=h_play_seat_step.d X G λ_ _ _ _ _ _=>us2 λ_ _=>rfl;have d_play_begin:zn K mg "play_begin" xU ["bench","step"]:=h_play_begin.d X G λ_ _ _ _ _ _=>us2 λ_ _=>rfl;have d_play_next:zn K mg "play_next" Zk ["bench","step"]:=h_play_next.d X G λ_ _ _ _ _ _=>us2 λ_ _=>rfl;have d_place_behind:zn K mg "place_behind" xn ["bench","step"]:=h_place_behind.d X G λ_ _ _ _ _ _=>us2 λ_ _=>rfl;have d_ran:zn K mg "ran" s_ran ["code","lengths","cells","lanes","dust","picks"]:=h_ran.d X G λ_ _ _ _ _ _=>us6 λ_ _ _ _ _ _=>rfl;have d_l_cell_at:zn K mg "_law_cell_at" Zm ["_law_script","_law_k"]:=h_l_cell_at.d X G λ_ _ _ _ _ _=>us2 λ_ _=>rfl;have d_l_some:zn K mg "_law_some" Yy ["_law_script","_law_k","_law_salt","_law_many"]:=h_l_some.d X G λ_ _ _ _ _ _=>us4 λ_ _ _ _=>rfl;have d_l_number:zn K mg "_law_number" ZJ ["_law_script","_law_k"]:=h_l_number.d X G λ_ _ _ _ _ _=>us2 λ_ _=>rfl;have d_l_alike:zn K mg "_law_alike" x8 ["_law_found","_law_due"]:=h_l_alike.d X G λ_ _ _ _ _ _=>us2 λ_ _=>rfl;have d_l_lanes:zn K mg "_law_lanes" Z1 ["_law_cell"]:=h_l_lanes.d X G λ_ _ _ _ _ _=>us1 λ_=>rfl;have d_l_group:zn K mg "_law_group" Z2 ["_law_script","_law_k","_law_salt"]:=h_l_group.d X G λ_ _ _ _ _ _=>us3 λ_ _ _=>rfl;have d_l_dust:zn K mg "_law_dust" YB ["_law_script","_law_k","_law_salt"]:=h_l_dust.d X G λ_ _ _ _ _ _=>us3 λ_ _ _=>rfl;have d_l_ran:zn K mg "_law_ran" XA ["_law_code","_law_lengths","_law_cells","_law_lanes_here","_law_dust_here","_law_picks"]:=h_l_ran.d X G λ_ _ _ _ _ _=>us6 λ_ _ _ _ _ _=>rfl;have d_l_kept:zn K mg "_law_kept" YA ["_law_number_here"]:=h_l_kept.d X G λ_ _ _ _ _ _=>us1 λ_=>rfl;have d_l_signed:zn K mg "_law_signed" ZI ["_law_sign","_law_left","_law_right"]:=h_l_signed.d X G λ_ _ _ _ _ _=>us3 λ_ _ _=>rfl;have d_l_step:zn K mg "_law_step" Yx ["_law_script","_law_k","_law_seats","_law_row"]:=h_l_step.d X G λ_ _ _ _ _ _=>us4 λ_ _ _ _=>rfl;have d_l_lane:zn K mg "_law_lane" Yz ["_law_step_here","_law_numbers","_law_place","_law_source","_law_start","_law_touches"]:=h_l_lane.d X G λ_ _ _ _ _ _=>us6 λ_ _ _ _ _ _=>rfl;have d_l_strip:zn K mg "_law_strip" Z0 ["_law_steps","_law_rows","_law_base","_law_width","_law_source","_law_start","_law_touches"]:=h_l_strip.d X G λ_ _ _ _ _ _=>us7 λ_ _ _ _ _ _ _=>rfl;have d_Boxes_init:Yt K C_Boxes "Boxes.__init__" xX ["self","lanes"]:=h_Boxes_init.i mk_C_Boxes kC_C_Boxes λ_ _ _ _ _ _=>us2 λ_ _=>rfl;have d_Boxes_spot_of:zZ K C_Boxes "spot_of" "Boxes.spot_of" xa ["self","group","seat","lane"]:=h_Boxes_spot_of.m λ_ _ _ _ _ _=>us4 λ_ _ _ _=>rfl;have d_Boxes_lay:zZ K C_Boxes "lay" "Boxes.lay" Zo ["self","group","seat","lane","number"]:=h_Boxes_lay.m λ_ _ _ _ _ _=>us5 λ_ _ _ _ _=>rfl;have d_Boxes_number_at:zZ K C_Boxes "number_at" "Boxes.number_at" yG ["self","group","seat","lane"]:=h_Boxes_number_at.m λ_ _ _ _ _ _=>us4 λ_ _ _ _=>rfl;have d_Feed_init:Yt K C_Feed "Feed.__init__" Zn ["self","numbers"]:=h_Feed_init.i mk_C_Feed kC_C_Feed λ_ _ _ _ _ _=>us2 λ_ _=>rfl;have d_Feed_taken:zZ K C_Feed "taken" "Feed.taken" xW ["self"]:=h_Feed_taken.m λ_ _ _ _ _ _=>us1 λ_=>rfl;have d_Bench_init:Yt K C_Bench "Bench.__init__" xY ["self","lengths","cells","lanes","dust","picks"]:=h_Bench_init.i mk_C_Bench kC_C_Bench λ_ _ _ _ _ _=>us6 λ_ _ _ _ _ _=>rfl;have d_Bench_open_round:zZ K C_Bench "open_round" "Bench.open_round" yA ["self","many","group"]:=h_Bench_open_round.m λ_ _ _ _ _ _=>us3 λ_ _ _=>rfl;have d_Bench_begin_strip:zZ K C_Bench "begin_strip" "Bench.begin_strip" yr ["self","base"]:=h_Bench_begin_strip.m λ_ _ _ _ _ _=>us2 λ_ _=>rfl;have d_Bench_active_under:zZ K C_Bench "active_under" "Bench.active_under" yj ["self","mask"]:=h_Bench_active_under.m λ_ _ _ _ _ _=>us2 λ_ _=>rfl;have d_Bench_numbers_in:zZ K C_Bench "numbers_in" "Bench.numbers_in" yB ["self","seat","active"]:=h_Bench_numbers_in.m λ_ _ _ _ _ _=>us3 λ_ _ _=>rfl;have d_Bench_lay_seat:zZ K C_Bench "lay_seat" "Bench.lay_seat" yS ["self","seat","active","numbers"]:=h_Bench_lay_seat.m λ_ _ _ _ _ _=>us4 λ_ _ _ _=>rfl;have d_Bench_lay_mask:zZ K C_Bench "lay_mask" "Bench.lay_mask" yT ["self","mask","chosen"]:=h_Bench_lay_mask.m λ_ _ _ _ _ _=>us3 λ_ _ _=>rfl;have d_Bench_touch:zZ K C_Bench "touch" "Bench.touch" xA ["self","kind","address"]:=h_Bench_touch.m λ_ _ _ _ _ _=>us3 λ_ _ _=>rfl;have d_Bench_read_cell:zZ K C_Bench "read_cell" "Bench.read_cell" yH ["self","row","place"]:=h_Bench_read_cell.m λ_ _ _ _ _ _=>us3 λ_ _ _=>rfl;have d_Bench_write_cell:zZ K C_Bench "write_cell" "Bench.write_cell" yz ["self","row","place","number"]:=h_Bench_write_cell.m λ_ _ _ _ _ _=>us4 λ_ _ _ _=>rfl;have cl_Boxes:Cls K C_Boxes:=h_C_Boxes.c;have cl_Feed:Cls K C_Feed:=h_C_Feed.c;have cl_Bench:Cls K C_Bench:=h_C_Bench.c;have mm:=λ{x:Str} {v:Vl} (q:PySem.W.nsIn K mainGlobals x=some (some v))=>PySem.W.mg_of X G q;have mz:=λ{x:Str} (q:PySem.W.nsIn K mainGlobals x=some none)=>PySem.W.mg_none_of X G q;refine ⟨PySem.W.fnOf "law" "law" (yW XY) (yu XY) (zh XY) .none kV_law dc_law pm_law an_law cd_law ct_law,λs v=>.of_eq rfl,λbase kb nb=>?_⟩;let c:MCs:=⟨C_Boxes,C_Feed,C_Bench⟩;let t:TabA:=⟨TS,TE,TW⟩;have BC:BCls K C_Boxes:=⟨cl_Boxes,n_C_Boxes_lanes,n_C_Boxes_numbers⟩;have FC:FCls K C_Feed:=⟨cl_Feed,n_C_Feed_numbers,n_C_Feed_at⟩;have NC:NCls K C_Bench:=⟨cl_Bench,n_C_Bench_lengths,n_C_Bench_starts,n_C_Bench_cells,n_C_Bench_lanes,n_C_Bench_boxes,n_C_Bench_masks,n_C_Bench_slots,n_C_Bench_dust,n_C_Bench_picks,n_C_Bench_touches,n_C_Bench_at,n_C_Bench_opened,n_C_Bench_many,n_C_Bench_group,n_C_Bench_base,n_C_Bench_begun,n_C_Bench_width,n_C_Bench_faults,n_C_Bench_cut,n_C_Bench_carried,n_C_Bench_raised,n_C_Bench_turns,n_C_Bench_refusal⟩;have CC:MCls K c:=⟨BC,FC,NC⟩;have TT:Tabs w K mg t:=⟨⟨esS,nS,lS,kS⟩,⟨esE,nE,lE,kE⟩,⟨esW,nW,lW,kW⟩,loS,loE,mm aS,mm aE,mm aW,⟨_,tS_number,mm a_numbers_written⟩,⟨_,tS_here,mm a_numbers_of_here⟩,⟨_,tS_load,mm a_numbers_loaded⟩,⟨_,tS_spread,mm a_numbers_spread⟩,⟨_,tS_shift,mm a_numbers_shifted⟩,⟨_,tS_gather,mm a_numbers_gathered⟩,⟨_,tS_op,mm a_numbers_joined⟩,⟨_,tS_pick,mm a_numbers_picked⟩,⟨_,tS_copy,mm a_numbers_copied⟩,⟨_,tS_bring,mm a_numbers_brought⟩,⟨_,tE_reach,mm a_play_reach⟩,tS_reach,⟨_,tE_trim,mm a_play_trim⟩,tS_trim,⟨_,tE_stop,mm a_play_stop⟩,tS_stop,⟨_,tE_choose,mm a_play_choose⟩,tS_choose,⟨_,tE_other,mm a_play_other⟩,tS_other,⟨_,tE_save,mm a_play_save⟩,tS_save,⟨_,tE_store,mm a_play_store⟩,tS_store,⟨_,tE_put,mm a_play_put⟩,tS_put,⟨_,tE_fold,mm a_play_fold⟩,tS_fold,⟨_,tE_running,mm a_play_running⟩,tS_running,⟨_,tE_any,mm a_play_any⟩,tS_any,⟨_,tW_begin,mm a_play_begin⟩,tS_begin,tE_begin,⟨_,tW_next,mm a_play_next⟩,tS_next,tE_next,⟨_,tW_turns,mm a_play_turns⟩,tS_turns,tE_turns,⟨_,tW_quiet,mm a_play_quiet⟩,tS_quiet,tE_quiet,⟨_,tW_till,mm a_play_till⟩,tS_till,tE_till⟩;have SPo:=ok_spot (P:=l.prog) (w:=w) (mg:=mg) (base:=base) d_Boxes_spot_of BC;have LAy:=ok_lay d_Boxes_lay BC SPo;have NUm:=ok_num d_Boxes_number_at BC SPo;have TK:=ok_taken (P:=l.prog) (w:=w) (mg:=mg) (base:=base) d_Feed_taken FC (mz z_len);have IFe:=ok_initF (P:=l.prog) (w:=w) (mg:=mg) (base:=base) d_Feed_init FC (mz z_list);have IBo:=ok_initB (P:=l.prog) (w:=w) (mg:=mg) (base:=base) d_Boxes_init BC (mm aB);have TOu:=ok_touch (P:=l.prog) (w:=w) (mg:=mg) (base:=base) (c:=c) d_Bench_touch NC;have RCe:=ok_read (c:=c) d_Bench_read_cell NC TOu;have WCe:=ok_write (c:=c) d_Bench_write_cell NC TOu;have AU:=ok_act (P:=l.prog) (w:=w) (mg:=mg) (base:=base) (c:=c) d_Bench_active_under (mz z_range) NC;have NI:=ok_nums (c:=c) d_Bench_numbers_in CC NUm;have LMa:=ok_mask (c:=c) d_Bench_lay_mask (mz z_range) CC TK;have LSe:=ok_seat (c:=c) d_Bench_lay_seat (mz z_range) (mz z_dict) (mz z_zip) CC TK LAy;have BSt:=ok_strip (c:=c) d_Bench_begin_strip (mz z_range) (mz z_list) (mz z_min) CC LMa;have ORo:=ok_round (c:=c) d_Bench_open_round CC BSt;have SOf:=ok_start (P:=l.prog) (w:=w) (base:=base) d_start_of (mz z_sum);have INi:=ok_initN (c:=c) d_Bench_init CC (mz z_list) (mz z_len) (mz z_range) (mm aM) (mm aN) (mm a_C_Boxes) (mm a_C_Feed) SOf IBo IFe;have LSW:=ok_lsw (P:=l.prog) (base:=base) (t:=t) d_lays_seat TT;have HEW:=ok_hew (P:=l.prog) (base:=base) (t:=t) d_has_effect TT;have LO:=ok_loaded (c:=c) d_numbers_loaded CC RCe;have STo:=ok_store (c:=c) d_play_store (mz z_zip) CC AU NI WCe;have BEg:=ok_begin (c:=c) d_play_begin CC ORo;have NEx:=ok_next (c:=c) d_play_next CC BSt;have TG:xD w K SG:=⟨esG,nG,lG,kG⟩;have Sg:Signs K mg SG:=⟨⟨_,g0,mm a_plus⟩,⟨_,g1,mm a_minus⟩,⟨_,g2,mm a_times⟩,⟨_,g3,mm a_quotient⟩,⟨_,g4,mm a_remainder⟩,⟨_,g5,mm a_lesser⟩,⟨_,g6,mm a_greater⟩,⟨_,g7,mm a_is_less⟩,⟨_,g8,mm a_is_equal⟩,⟨_,g9,mm a_bits_of_both⟩,⟨_,g10,mm a_bits_of_either⟩,⟨_,g11,mm a_bits_of_one⟩⟩;have GK:=ok_kept (P:=l.prog) (w:=w) (base:=base) d_kept (mm aH);have GN:=ok_refuse (P:=l.prog) (w:=w) (base:=base) d_refuse_nought (own_in kb (mm b_CN) x_CN) PySem.F.excBase_ValueError;have Fs:Fns l.prog w K mg base CN:=⟨ok_plus d_plus GK,ok_minus d_minus GK,ok_times d_times GK,zdb d_quotient GK GN,zcc d_remainder GN,ok_lesser d_lesser (mz z_min),zee d_greater (mz z_max),zed d_is_less,zdc d_is_equal,ok_both d_bits_of_both,ok_either d_bits_of_either,ok_one d_bits_of_one⟩;have DN:=ok_done d_done (mm aG) TG Sg Fs;have OP1:=ok_opOne (P:=l.prog) (w:=w) (base:=base) (c:=c) d_number_joined CC (mm b_CN) m_CN_CN DN;have OPa:=ok_op (c:=c) d_numbers_joined (mz z_zip) CC NI OP1;have GA1:=ok_gaOne (c:=c) d_number_gathered CC RCe;have GAt:=ok_gather (c:=c) d_numbers_gathered (mz z_zip) CC NI GA1;have TRi:=ok_trim (P:=l.prog) (w:=w) (base:=base) (c:=c) d_play_trim (mz z_len) (mz z_min) CC;have SPp:=ok_stop (P:=l.prog) (w:=w) (base:=base) (c:=c) d_play_stop CC;have REa:=ok_reach (c:=c) d_play_reach (mz z_zip) CC AU NI
 have SW:Xl l.prog w K mg base c t Lx.S 6:=λword f h=>by
  rcases h with ⟨rfl,rfl⟩ | ⟨rfl,rfl⟩ | ⟨rfl,rfl⟩
  ·exact ⟨_,_,TT.s_load,LO.mono (by decide),loadM_ok⟩
  ·exact ⟨_,_,TT.s_gather,GAt.mono (by decide),zen⟩
  ·exact ⟨_,_,TT.s_op,OPa.mono (by decide),opM_ok⟩
 have EW:zar l.prog w K mg base c t Lx.E 7:=λword f h=>by
  rcases h with ⟨rfl,rfl⟩ | ⟨rfl,rfl⟩ | ⟨rfl,rfl⟩ | ⟨rfl,rfl⟩
  ·exact ⟨TT.es_store,_,_,TT.e_store,STo.mono (by decide)⟩
  ·exact ⟨TT.es_trim,_,_,TT.e_trim,TRi.mono (by decide)⟩
  ·exact ⟨TT.es_stop,_,_,TT.e_stop,SPp.mono (by decide)⟩
  ·exact ⟨TT.es_reach,_,_,TT.e_reach,REa.mono (by decide)⟩
 have WW:zdy l.prog w K mg base c t Lx.W 8:=λword f h=>by
  rcases h with ⟨rfl,rfl⟩ | ⟨rfl,rfl⟩
  ·exact ⟨TT.ws_begin,TT.we_begin,_,_,TT.w_begin,BEg.mono (by decide)⟩
  ·exact ⟨TT.ws_next,TT.we_next,_,_,TT.w_next,NEx.mono (by decide)⟩
 have PSS:=ok_pss (c:=c) (t:=t) d_play_seat_step CC TT (by decide) AU LSe SW;have PEf:=ok_pe (c:=c) (t:=t) (by decide) d_play_effect TT EW;have PBe:=ok_pb (c:=c) (t:=t) d_place_behind CC TT (by decide) SW EW WW LSW HEW PSS PEf;have RN0:=ok_ran (c:=c) d_ran CC (mz z_len) (mm a_C_Bench) INi PBe;have RN:=ok_lran (c:=c) d_l_ran (mz z_list) RN0;have CA:=zef (P:=l.prog) (w:=w) (base:=base) d_l_cell_at (mz z_len);have SM:=ok_some d_l_some CA;have NBK:=ok_numK d_l_number CA SM;have NB:=K36.Ok.weak NBK num_weak;have AKs:AlK K mg:=⟨mz z_isinstance,mz z_int,mz z_bool,mz z_str,mz z_list,mz z_tuple,k_int_int,k_int_bool,k_int_str,k_int_list,k_int_tuple,k_str_str,k_list_str,k_list_list,k_list_tuple,k_tuple_str,k_tuple_list,k_tuple_tuple⟩;have AL:=zdd (P:=l.prog) (w:=w) (base:=base) d_l_alike AKs (mz z_len) (mz z_zip) 3;have LSg:=zec (P:=l.prog) (w:=w) (base:=base) d_l_signed (ok_lkept d_l_kept) (mz z_int) (mz z_min) (mz z_max);have LNe:=ok_llane d_l_lane (mz z_len) LSg;have STr:=ok_lstrip d_l_strip (mz z_len) (mz z_min) (mz z_range) LNe;have LSt:=ok_lstep d_l_step SM;exact ok_law (c:=c) (Lx:=Lx) (Ys (st:=XY) l_law c_law k_law) (mz z_len) (mz z_range) (mz z_list) (mz z_sum) (mz z_min) CA SM (ok_lanes d_l_lanes) (ok_group d_l_group SM) NBK (ok_dust d_l_dust (mz z_range) SM NB) LSt STr AL RN lx_begin lx_next lx_six lx_load lx_store lx_stop
def walk {l:PySem.W.OpenLaw} {q:Program} {loose:Jf} {XP:(J0)->Heap->Prop} {YP:World->Heap->Prop} {d:DefRec} {K:Params->Fg} (hn:l.most=some 63) (hdf:d.params.defaults=[])
  (hY:∀ (w:World) (h:Heap),YP w h->(K w.params).In h)
  (F:∀ (w:World) (mg:J0) (fa:Ad) (h:Heap),(K w.params).In h->h.Ns mainGlobals mg->mg d.name=some (.ref fa) ->
   ∃ fd:FuncData,(∀ (s:Sh) (u:Vl),BindsTo s fd ⟨[u],[]⟩ [("_law_script",u)])/\∀ base:Heap,(K w.params).In base->base.Ns mainGlobals mg->FnOk l.prog w (K w.params) mg base CX0 12 fa fd ["_law_script"] (spLaw (K w.params))) :
  PySem.W.WalkO q loose XP YP l.row.toRowW d [] (λf vs=>PySem.call f vs) :=
 L2.walk_of (n:=63) (k:=12) (x:="_law_script") (CX:=λ_=>CX0) (sp:=λw=>spLaw (K w.params)) hn (by decide) hdf ⟨rfl,by decide,by decide⟩ hY F (λ_ _ a ns hl _ hS=>⟨a,ns,rfl,hS,hl,λ_=>rfl⟩) λ_ _ _ _ _ z=>z
end K36
open PySem PySem.W PyProof.Rows
set_option maxRecDepth 100000 in
set_option maxHeartbeats 0 in
theorem PySem.Challenge.cw_rowbreadth_k36_first_faults_holds : PySem.Challenge.rw_rowbreadth_k36_first_faults.Holds := by
 refine K36hd ?_
 k_fill
 refine K36.walk (l:=PySem.Challenge.rw_rowbreadth_k36_first_faults) rfl rfl (λw h Y=>Y) ?F
 case F =>
  intro w mg fa h KX G hmg
  refine' K36.all_mk KX G hmg ?kf_h_start_of ?kf_h_kept ?kf_h_plus ?kf_h_minus ?kf_h_times ?kf_h_refuse_nought ?kf_h_quotient ?kf_h_remainder ?kf_h_lesser ?kf_h_greater ?kf_h_is_less ?kf_h_is_equal ?kf_h_bits_of_both ?kf_h_bits_of_either ?kf_h_bits_of_one ?kf_h_done ?kf_h_play_reach ?kf_h_play_trim ?kf_h_play_stop ?kf_h_play_store ?kf_h_has_effect ?kf_h_play_effect ?kf_h_numbers_loaded ?kf_h_number_gathered ?kf_h_numbers_gathered ?kf_h_number_joined ?kf_h_numbers_joined ?kf_h_lays_seat ?kf_h_play_seat_step ?kf_h_play_begin ?kf_h_play_next ?kf_h_place_behind ?kf_h_ran ?kf_h_l_cell_at ?kf_h_l_some ?kf_h_l_number ?kf_h_l_alike ?kf_h_l_lanes ?kf_h_l_group ?kf_h_l_dust ?kf_h_l_ran ?kf_h_l_kept ?kf_h_l_signed ?kf_h_l_step ?kf_h_l_lane ?kf_h_l_strip ?kf_h_law ?kf_a_C_Boxes ?kf_h_C_Boxes ?kf_fn_C_Boxes ?kf_mk_C_Boxes ?kf_kC_C_Boxes ?kf_h_Boxes_init ?kf_h_Boxes_spot_of ?kf_h_Boxes_lay ?kf_h_Boxes_number_at ?kf_a_C_Feed ?kf_h_C_Feed ?kf_fn_C_Feed ?kf_mk_C_Feed ?kf_kC_C_Feed ?kf_h_Feed_init ?kf_h_Feed_taken ?kf_a_C_Bench ?kf_h_C_Bench ?kf_fn_C_Bench ?kf_mk_C_Bench ?kf_kC_C_Bench ?kf_h_Bench_init ?kf_h_Bench_open_round ?kf_h_Bench_begin_strip ?kf_h_Bench_active_under ?kf_h_Bench_numbers_in ?kf_h_Bench_lay_seat ?kf_h_Bench_lay_mask ?kf_h_Bench_touch ?kf_h_Bench_read_cell ?kf_h_Bench_write_cell ?kf_tb1 ?kf_lS ?kf_kS ?kf_lE ?kf_kE ?kf_lW ?kf_kW ?kf_tb2 ?kf_tb3 ?kf_tb4 ?kf_tb5 ?kf_tb6 ?kf_loS ?kf_loE ?kf_k_int_int ?kf_k_int_bool ?kf_k_int_str ?kf_k_int_list ?kf_k_int_tuple ?kf_k_str_str ?kf_k_list_str ?kf_k_list_list ?kf_k_list_tuple ?kf_k_tuple_str ?kf_k_tuple_list ?kf_k_tuple_tuple ?kf_tb7 ?kf_aB ?kf_aM ?kf_aN ?kf_x_CN ?kf_m_CN_CN ?kf_aH ?kf_lG ?kf_kG ?kf_tb8
  (case kf_h_start_of=>(refine' L2.DH.mk ?a ?b ?c ?d;(case a=>k_is);(case b=>k_is);(case c=>k_is);(case d=>k_is)))
  (case kf_h_kept=>(refine' L2.DH.mk ?a ?b ?c ?d;(case a=>k_is);(case b=>k_is);(case c=>k_is);(case d=>k_is)))
  (case kf_h_plus=>(refine' L2.DH.mk ?a ?b ?c ?d;(case a=>k_is);(case b=>k_is);(case c=>k_is);(case d=>k_is)))
  (case kf_h_minus=>(refine' L2.DH.mk ?a ?b ?c ?d;(case a=>k_is);(case b=>k_is);(case c=>k_is);(case d=>k_is)))
  (case kf_h_times=>(refine' L2.DH.mk ?a ?b ?c ?d;(case a=>k_is);(case b=>k_is);(case c=>k_is);(case d=>k_is)))
  (case kf_h_refuse_nought=>(refine' L2.DH.mk ?a ?b ?c ?d;(case a=>k_is);(case b=>k_is);(case c=>k_is);(case d=>k_is)))
  (case kf_h_quotient=>(refine' L2.DH.mk ?a ?b ?c ?d;(case a=>k_is);(case b=>k_is);(case c=>k_is);(case d=>k_is)))
  (case kf_h_remainder=>(refine' L2.DH.mk ?a ?b ?c ?d;(case a=>k_is);(case b=>k_is);(case c=>k_is);(case d=>k_is)))
  (case kf_h_lesser=>(refine' L2.DH.mk ?a ?b ?c ?d;(case a=>k_is);(case b=>k_is);(case c=>k_is);(case d=>k_is)))
  (case kf_h_greater=>(refine' L2.DH.mk ?a ?b ?c ?d;(case a=>k_is);(case b=>k_is);(case c=>k_is);(case d=>k_is)))
  (case kf_h_is_less=>(refine' L2.DH.mk ?a ?b ?c ?d;(case a=>k_is);(case b=>k_is);(case c=>k_is);(case d=>k_is)))
  (case kf_h_is_equal=>(refine' L2.DH.mk ?a ?b ?c ?d;(case a=>k_is);(case b=>k_is);(case c=>k_is);(case d=>k_is)))
  (case kf_h_bits_of_both=>(refine' L2.DH.mk ?a ?b ?c ?d;(case a=>k_is);(case b=>k_is);(case c=>k_is);(case d=>k_is)))
  (case kf_h_bits_of_either=>(refine' L2.DH.mk ?a ?b ?c ?d;(case a=>k_is);(case b=>k_is);(case c=>k_is);(case d=>k_is)))
  (case kf_h_bits_of_one=>(refine' L2.DH.mk ?a ?b ?c ?d;(case a=>k_is);(case b=>k_is);(case c=>k_is);(case d=>k_is)))
  (case kf_h_done=>(refine' L2.DH.mk ?a ?b ?c ?d;(case a=>k_is);(case b=>k_is);(case c=>k_is);(case d=>k_is)))
  (case kf_h_play_reach=>(refine' L2.DH.mk ?a ?b ?c ?d;(case a=>k_is);(case b=>k_is);(case c=>k_is);(case d=>k_is)))
  (case kf_h_play_trim=>(refine' L2.DH.mk ?a ?b ?c ?d;(case a=>k_is);(case b=>k_is);(case c=>k_is);(case d=>k_is)))
  (case kf_h_play_stop=>(refine' L2.DH.mk ?a ?b ?c ?d;(case a=>k_is);(case b=>k_is);(case c=>k_is);(case d=>k_is)))
  (case kf_h_play_store=>(refine' L2.DH.mk ?a ?b ?c ?d;(case a=>k_is);(case b=>k_is);(case c=>k_is);(case d=>k_is)))
  (case kf_h_has_effect=>(refine' L2.DH.mk ?a ?b ?c ?d;(case a=>k_is);(case b=>k_is);(case c=>k_is);(case d=>k_is)))
  (case kf_h_play_effect=>(refine' L2.DH.mk ?a ?b ?c ?d;(case a=>k_is);(case b=>k_is);(case c=>k_is);(case d=>k_is)))
  (case kf_h_numbers_loaded=>(refine' L2.DH.mk ?a ?b ?c ?d;(case a=>k_is);(case b=>k_is);(case c=>k_is);(case d=>k_is)))
  (case kf_h_number_gathered=>(refine' L2.DH.mk ?a ?b ?c ?d;(case a=>k_is);(case b=>k_is);(case c=>k_is);(case d=>k_is)))
  (case kf_h_numbers_gathered=>(refine' L2.DH.mk ?a ?b ?c ?d;(case a=>k_is);(case b=>k_is);(case c=>k_is);(case d=>k_is)))
  (case kf_h_number_joined=>(refine' L2.DH.mk ?a ?b ?c ?d;(case a=>k_is);(case b=>k_is);(case c=>k_is);(case d=>k_is)))
  (case kf_h_numbers_joined=>(refine' L2.DH.mk ?a ?b ?c ?d;(case a=>k_is);(case b=>k_is);(case c=>k_is);(case d=>k_is)))
  (case kf_h_lays_seat=>(refine' L2.DH.mk ?a ?b ?c ?d;(case a=>k_is);(case b=>k_is);(case c=>k_is);(case d=>k_is)))
  (case kf_h_play_seat_step=>(refine' L2.DH.mk ?a ?b ?c ?d;(case a=>k_is);(case b=>k_is);(case c=>k_is);(case d=>k_is)))
  (case kf_h_play_begin=>(refine' L2.DH.mk ?a ?b ?c ?d;(case a=>k_is);(case b=>k_is);(case c=>k_is);(case d=>k_is)))
  (case kf_h_play_next=>(refine' L2.DH.mk ?a ?b ?c ?d;(case a=>k_is);(case b=>k_is);(case c=>k_is);(case d=>k_is)))
  (case kf_h_place_behind=>(refine' L2.DH.mk ?a ?b ?c ?d;(case a=>k_is);(case b=>k_is);(case c=>k_is);(case d=>k_is)))
  (case kf_h_ran=>(refine' L2.DH.mk ?a ?b ?c ?d;(case a=>k_is);(case b=>k_is);(case c=>k_is);(case d=>k_is)))
  (case kf_h_l_cell_at=>(refine' L2.DH.mk ?a ?b ?c ?d;(case a=>k_is);(case b=>k_is);(case c=>k_is);(case d=>k_is)))
  (case kf_h_l_some=>(refine' L2.DH.mk ?a ?b ?c ?d;(case a=>k_is);(case b=>k_is);(case c=>k_is);(case d=>k_is)))
  (case kf_h_l_number=>(refine' L2.DH.mk ?a ?b ?c ?d;(case a=>k_is);(case b=>k_is);(case c=>k_is);(case d=>k_is)))
  (case kf_h_l_alike=>(refine' L2.DH.mk ?a ?b ?c ?d;(case a=>k_is);(case b=>k_is);(case c=>k_is);(case d=>k_is)))
  (case kf_h_l_lanes=>(refine' L2.DH.mk ?a ?b ?c ?d;(case a=>k_is);(case b=>k_is);(case c=>k_is);(case d=>k_is)))
  (case kf_h_l_group=>(refine' L2.DH.mk ?a ?b ?c ?d;(case a=>k_is);(case b=>k_is);(case c=>k_is);(case d=>k_is)))
  (case kf_h_l_dust=>(refine' L2.DH.mk ?a ?b ?c ?d;(case a=>k_is);(case b=>k_is);(case c=>k_is);(case d=>k_is)))
  (case kf_h_l_ran=>(refine' L2.DH.mk ?a ?b ?c ?d;(case a=>k_is);(case b=>k_is);(case c=>k_is);(case d=>k_is)))
  (case kf_h_l_kept=>(refine' L2.DH.mk ?a ?b ?c ?d;(case a=>k_is);(case b=>k_is);(case c=>k_is);(case d=>k_is)))
  (case kf_h_l_signed=>(refine' L2.DH.mk ?a ?b ?c ?d;(case a=>k_is);(case b=>k_is);(case c=>k_is);(case d=>k_is)))
  (case kf_h_l_step=>(refine' L2.DH.mk ?a ?b ?c ?d;(case a=>k_is);(case b=>k_is);(case c=>k_is);(case d=>k_is)))
  (case kf_h_l_lane=>(refine' L2.DH.mk ?a ?b ?c ?d;(case a=>k_is);(case b=>k_is);(case c=>k_is);(case d=>k_is)))
  (case kf_h_l_strip=>(refine' L2.DH.mk ?a ?b ?c ?d;(case a=>k_is);(case b=>k_is);(case c=>k_is);(case d=>k_is)))
  (case kf_h_law=>(refine' L2.DH.mk ?a ?b ?c ?d;(case a=>k_is);(case b=>k_is);(case c=>k_is);(case d=>k_is)))
  (case kf_a_C_Boxes=>k_is)
  (case kf_h_C_Boxes=>(refine ⟨?_,?_,?_,?_⟩ <;> k_is))
  (case kf_fn_C_Boxes=>(repeat' first | exact trivial | refine And.intro ?_ ?_ | k_is))
  (case kf_mk_C_Boxes=>k_is)
  (case kf_kC_C_Boxes=>k_is)
  (case kf_h_Boxes_init=>(refine' L2.MH.mk ?a ?b ?c ?d ?e;(case a=>k_is);(case b=>k_is);(case c=>k_is);(case d=>k_is);(case e=>k_is)))
  (case kf_h_Boxes_spot_of=>(refine' L2.MH.mk ?a ?b ?c ?d ?e;(case a=>k_is);(case b=>k_is);(case c=>k_is);(case d=>k_is);(case e=>k_is)))
  (case kf_h_Boxes_lay=>(refine' L2.MH.mk ?a ?b ?c ?d ?e;(case a=>k_is);(case b=>k_is);(case c=>k_is);(case d=>k_is);(case e=>k_is)))
  (case kf_h_Boxes_number_at=>(refine' L2.MH.mk ?a ?b ?c ?d ?e;(case a=>k_is);(case b=>k_is);(case c=>k_is);(case d=>k_is);(case e=>k_is)))
  (case kf_a_C_Feed=>k_is)
  (case kf_h_C_Feed=>(refine ⟨?_,?_,?_,?_⟩ <;> k_is))
  (case kf_fn_C_Feed=>(repeat' first | exact trivial | refine And.intro ?_ ?_ | k_is))
  (case kf_mk_C_Feed=>k_is)
  (case kf_kC_C_Feed=>k_is)
  (case kf_h_Feed_init=>(refine' L2.MH.mk ?a ?b ?c ?d ?e;(case a=>k_is);(case b=>k_is);(case c=>k_is);(case d=>k_is);(case e=>k_is)))
  (case kf_h_Feed_taken=>(refine' L2.MH.mk ?a ?b ?c ?d ?e;(case a=>k_is);(case b=>k_is);(case c=>k_is);(case d=>k_is);(case e=>k_is)))
  (case kf_a_C_Bench=>k_is)
  (case kf_h_C_Bench=>(refine ⟨?_,?_,?_,?_⟩ <;> k_is))
  (case kf_fn_C_Bench=>(repeat' first | exact trivial | refine And.intro ?_ ?_ | k_is))
  (case kf_mk_C_Bench=>k_is)
  (case kf_kC_C_Bench=>k_is)
  (case kf_h_Bench_init=>(refine' L2.MH.mk ?a ?b ?c ?d ?e;(case a=>k_is);(case b=>k_is);(case c=>k_is);(case d=>k_is);(case e=>k_is)))
  (case kf_h_Bench_open_round=>(refine' L2.MH.mk ?a ?b ?c ?d ?e;(case a=>k_is);(case b=>k_is);(case c=>k_is);(case d=>k_is);(case e=>k_is)))
  (case kf_h_Bench_begin_strip=>(refine' L2.MH.mk ?a ?b ?c ?d ?e;(case a=>k_is);(case b=>k_is);(case c=>k_is);(case d=>k_is);(case e=>k_is)))
  (case kf_h_Bench_active_under=>(refine' L2.MH.mk ?a ?b ?c ?d ?e;(case a=>k_is);(case b=>k_is);(case c=>k_is);(case d=>k_is);(case e=>k_is)))
  (case kf_h_Bench_numbers_in=>(refine' L2.MH.mk ?a ?b ?c ?d ?e;(case a=>k_is);(case b=>k_is);(case c=>k_is);(case d=>k_is);(case e=>k_is)))
  (case kf_h_Bench_lay_seat=>(refine' L2.MH.mk ?a ?b ?c ?d ?e;(case a=>k_is);(case b=>k_is);(case c=>k_is);(case d=>k_is);(case e=>k_is)))
  (case kf_h_Bench_lay_mask=>(refine' L2.MH.mk ?a ?b ?c ?d ?e;(case a=>k_is);(case b=>k_is);(case c=>k_is);(case d=>k_is);(case e=>k_is)))
  (case kf_h_Bench_touch=>(refine' L2.MH.mk ?a ?b ?c ?d ?e;(case a=>k_is);(case b=>k_is);(case c=>k_is);(case d=>k_is);(case e=>k_is)))
  (case kf_h_Bench_read_cell=>(refine' L2.MH.mk ?a ?b ?c ?d ?e;(case a=>k_is);(case b=>k_is);(case c=>k_is);(case d=>k_is);(case e=>k_is)))
  (case kf_h_Bench_write_cell=>(refine' L2.MH.mk ?a ?b ?c ?d ?e;(case a=>k_is);(case b=>k_is);(case c=>k_is);(case d=>k_is);(case e=>k_is)))
  (case kf_tb1=>(repeat' first | exact trivial | refine And.intro ?_ ?_ | k_is))
  (case kf_lS=>k_is)
  (case kf_kS=>k_keys)
  (case kf_lE=>k_is)
  (case kf_kE=>k_keys)
  (case kf_lW=>k_is)
  (case kf_kW=>k_keys)
  (case kf_tb2=>(repeat' first | exact trivial | refine And.intro ?_ ?_ | k_is))
  (case kf_tb3=>(repeat' first | exact trivial | refine And.intro ?_ ?_ | k_is))
  (case kf_tb4=>(repeat' first | exact trivial | refine And.intro ?_ ?_ | k_is))
  (case kf_tb5=>(repeat' first | exact trivial | refine And.intro ?_ ?_ | k_is))
  (case kf_tb6=>(repeat' first | exact trivial | refine And.intro ?_ ?_ | k_is))
  (case kf_loS=>rfl)
  (case kf_loE=>rfl)
  (case kf_k_int_int=>kit_is)
  (case kf_k_int_bool=>kit_is)
  (case kf_k_int_str=>kit_is)
  (case kf_k_int_list=>kit_is)
  (case kf_k_int_tuple=>kit_is)
  (case kf_k_str_str=>kit_is)
  (case kf_k_list_str=>kit_is)
  (case kf_k_list_list=>kit_is)
  (case kf_k_list_tuple=>kit_is)
  (case kf_k_tuple_str=>kit_is)
  (case kf_k_tuple_list=>kit_is)
  (case kf_k_tuple_tuple=>kit_is)
  (case kf_tb7=>(repeat' first | exact trivial | refine And.intro ?_ ?_ | k_is))
  (case kf_aB=>k_is)
  (case kf_aM=>k_is)
  (case kf_aN=>k_is)
  (case kf_x_CN=>k_exc)
  (case kf_m_CN_CN=>kts_exm)
  (case kf_aH=>k_is)
  (case kf_lG=>k_is)
  (case kf_kG=>k_keys)
  (case kf_tb8=>(repeat' first | exact trivial | refine And.intro ?_ ?_ | k_is))
