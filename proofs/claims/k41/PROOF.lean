import PyProof.Rows.All
import Wide.All
import Wide.FinOn
import OpenK.KLine
import KE.RegKIsAll
import KE.KDictOf
import KE.KItem
import KE.LcSums
import KE.KBits
import PyProof.EqAt
import PyProof.EqKinds
import PyProof.TupleCall
import KE.RegKTryMore
import KE.KTryMore
import PySem.Challenge.RW_rowbreadth_k41_turns_within_turns
set_option Elab.async false
set_option linter.all false
set_option maxRecDepth 100000
set_option maxHeartbeats 4000000
abbrev Fg:=PySem.W.Frag
abbrev Vl:=PySem.Value
abbrev Ad:=PySem.Addr
abbrev Sh:=PySem.Shared
abbrev J0:=PySem.Str->Option Vl
abbrev J5:=Vl->Sh->Prop
abbrev J9:=List Int
abbrev Ja:=List (Ad×PySem.Obj)
abbrev Jb:=List Vl
abbrev Jc:=Option Vl
abbrev Jd:=List PySem.Str
abbrev Je:=List Ad
abbrev Jf:=List PySem.Expr
theorem Jg {α:Type _} {β:Type _} {as:List α} {f:α->β}:(as.map f).length=as.length:=List.length_map ..
theorem Jh {α:Type _} {as bs:List α}:(as++bs).length=as.length+bs.length:=List.length_append ..
theorem Ji {α:Type _} {β:Type _} {f:α->β} {as bs:List α}:(as++bs).map f=as.map f++bs.map f:=List.map_append ..
namespace PySem.W.Fast
def tw17937070351318107109:=0
def tw4376238112257542674:=0
def tw17723213470355480149:=0
def tw6810525797267060962:=0
def tw7646110559270546127:=0
def tw15092225969671356107:=0
def tw10047049851640704072:=0
def tw13557466560349653226:=0
def tw13877694604233630202:=0
def tw8046750588228962569:=0
def tw14881770622278583099:=0
def tw12026793851300218499:=0
def tw17354293940521309692:=0
def tw4822091656885568623:=0
def tw18421112412453020120:=0
def tw929922536525195720:=0
def tw3476701903625627475:=0
def tw12832664885365238812:=0
def tw5322570515493495432:=0
def tw15230729936330171587:=0
def tw3435865651112219808:=0
def tw12937754666658159835:=0
def tw5705801070016044388:=0
def tw6336960796127988960:=0
def tw12429583384722908802:=0
def tw4741851767960454757:=0
def tw8520303532216274640:=0
def tw15306467734325250798:=0
def tw6716633694798694593:=0
def tw12961298630317984174:=0
def tw15177287712491828157:=0
def tw6646882507757189202:=0
def tw10092555623486001712:=0
def tw5903622033657760029:=0
def tw4998973455000136388:=0
def tw16713699344377467600:=0
def tw6159945908781396907:=0
def tw11393602952234769799:=0
def tw4640659895295683182:=0
def tw2549521872684882351:=0
def tw6663829393822598290:=0
def tw11795722510273800186:=0
def tw10386890682822581126:=0
def tw17723165731759153792:=0
def tw13526933437166716326:=0
def tw2755967054627281257:=0
def tw9156658844872982045:=0
def tw16611254163673533957:=0
def tw1386361752729853747:=0
def tw15064463968152069513:=0
def tw13687592211916916058:=0
def tw11225144387804534547:=0
def tw10901851751141117463:=0
def tw15125797240917085069:=0
def tw5427273989697797777:=0
def tw3766103679641222086:=0
def tw4947044096343237672:=0
def tw11265857497958704928:=0
def tw16723747932030491024:=0
def tw8517608902588062840:=0
def tw2268846763225151216:=0
def tw5823293746383198900:=0
def tw11535731959864229801:=0
def tw9759638774144799743:=0
def tw587902587194406434:=0
def tw4244526555831938337:=0
def tw5603956810463027520:=0
def tw754476129458509332:=0
def tw15295778965624197311:=0
def tw14601969544066919536:=0
def tw10898382441885223426:=0
def tw2689237415650217521:=0
def tw18238918015542209974:=0
def tw12290523626538918916:=0
def tw388299003673582201:=0
def tw3120496744620226794:=0
def tw15313557156115596009:=0
def tw2038146248129233301:=0
def tw4308361069782037781:=0
def tw3070586906552272168:=0
def tw12559537739843199058:=0
def tw9793865302534809431:=0
def tw10968145236166813089:=0
def tw3413883420717936817:=0
def tw9766937988215712682:=0
def tw7774270160130777070:=0
def tw1741038126755539216:=0
def tw4417868918580195154:=0
def tw14847597713435637291:=0
def tw10846389918661787344:=0
def tw1474786775060412968:=0
def tw14550083221026135963:=0
def tw4107984508735019712:=0
def tw2402894613160264141:=0
def tw8403607420771818995:=0
def tw4414989330344830071:=0
def tw10436581903914334914:=0
def tw15630210865873554902:=0
def tw12723690296925258768:=0
def tw4530534423505503315:=0
def tw17562225349938317141:=0
def tw2216205780855167581:=0
def tw14364909550882275777:=0
def tw9432059735757684061:=0
def tw2908833314478954846:=0
def tw10010121613750884950:=0
def tw3841770163378064674:=0
def tw135740698665397988:=0
def tw12465638813121230527:=0
def tw15920434486005184651:=0
def tw4989211343011830676:=0
def tw15964333045468449375:=0
def tw13350974534855448438:=0
def tw4661462055318349487:=0
def tw14774191440261447062:=0
def tw5430298690227688603:=0
def tw7920983758050068121:=0
def tw4454629490194299674:=0
def tw735549016096954762:=0
def tw2713423402166484093:=0
def tw9496761004856314423:=0
def tw13191831376717525173:=0
def tw423328083357923473:=0
def tw13419568218035279866:=0
def tw13940709151857567546:=0
def tw17323060359849397194:=0
def tw9134699165777447622:=0
def tw6679713313236426380:=0
def tw10337045402558922651:=0
def tw4726175821129770272:=0
def tw3124287404563994847:=0
def tw9005829588443473092:=0
def tw6449216170663971401:=0
def tw6117898430789333416:=0
def tw2456499452086645659:=0
def tw4472920736579527213:=0
def tw9725286068445291718:=0
def tw11093544417135553638:=0
def tw7637037611728443187:=0
def tw15931852549824138870:=0
def tw9283642980120556224:=0
def tw13159029125533498110:=0
def tw5448532028197824594:=0
def tw17895610937482038489:=0
def tw9655275849551481757:=0
def tw5056475147401010043:=0
def tw14462985377908402256:=0
def tw12940305315017832188:=0
def tw16580318306981083076:=0
def tw2083963202420421317:=0
def tw1418737573458999760:=0
def tw11533112684112188842:=0
def tw6988374786918720686:=0
def tw8258159864881241473:=0
def tw12802212831550494444:=0
def tw6408138092537455795:=0
def tw438169135604400189:=0
def tw13226250490677044922:=0
def tw14182361535838797044:=0
def tw1470232039131512718:=0
def tw8205917818368844165:=0
def tw7968483115361063338:=0
def tw13700401192959943771:=0
def tw11241548533560757386:=0
def tw3084077081751560235:=0
def tw3083564534762971565:=0
def tw445492327541974384:=0
def tw2351072322714055737:=0
def tw5964044510436936700:=0
def tw5153775172302028761:=0
def tw5008879405566797621:=0
def tw15736264432195022848:=0
def tw7171197726461177709:=0
def tw12409514640619442774:=0
def tw11720490232732589507:=0
def tw543189185952778689:=0
def tw16416601487265275661:=0
def tw17621155396120312771:=0
def tw5624632452801470270:=0
def tw17279785043626039698:=0
def tw14068325824596069397:=0
def tw8051058653421541156:=0
def tw8995223242490552672:=0
def tw13484551442364255070:=0
def tw10701421783993614073:=0
def tw11935213918609124468:=0
def tw2115783277534920479:=0
def tw9470920170682400118:=0
def tw5413592312982546194:=0
def tw778598097769858072:=0
def tw2166892198452612255:=0
def tw2952469281893253488:=0
def tw9072811595803788766:=0
def tw13110463958492167055:=0
def tw4744634362268550374:=0
def tw1817419007120714040:=0
def tw16477208245549441899:=0
def tw10925222869050404646:=0
def tw17442483263485324523:=0
def tw7331211718918197831:=0
def tw7967525549715892378:=0
def tw15932575983518082229:=0
def tw482008265412762906:=0
def tw3092390120785393242:=0
def tw1716362854897301875:=0
def tw2516001261394960087:=0
def tw12198059205639128634:=0
def tw972838725495719489:=0
def tw15109909893136839543:=0
def tw10445292364278246963:=0
def tw9324021103403715860:=0
def tw406567278053902731:=0
def tw18096475407016554727:=0
def tw1501047261822555621:=0
def tw11946198165545830443:=0
def tw9951096511191711712:=0
def tw11452837140814138176:=0
def tw6195990487160820099:=0
def tw7124594392586983672:=0
def tw14822837832458785143:=0
def tw267213299161774353:=0
def tw1286683303436304669:=0
def tw9087841218214853668:=0
def tw5945306926421385080:=0
def tw16428764829875110468:=0
def tw10179119913185878228:=0
def tw6382351449668111473:=0
def tw3345986045277180540:=0
def tw3320308746506579805:=0
def tw18365369496283941587:=0
def tw8076017537154885301:=0
def tw4312680267776588854:=0
def tw4036318571062466622:=0
def tw3275722335560187655:=0
def tw15813410017548518489:=0
def tw968558443721180805:=0
def tw4118036364684405764:=0
def tw9015878834992885235:=0
def tw14975746098418877489:=0
def tw10042391798975308835:=0
def tw12878056770749985581:=0
def tw17596913148111816534:=0
def tw11188875601339594830:=0
def tw3642771310565241024:=0
def tw15072850154215245059:=0
def tw11528238820325290024:=0
def tw16643920930963584788:=0
def tw14880022571576065115:=0
def tw7846082922721582554:=0
def tw17229218207937762636:=0
def tw16374118003367467588:=0
def tw52783561658376864:=0
def tw17617654623541150816:=0
def tw15796629803992123524:=0
def tw14325343121364198349:=0
def tw6280767985355837257:=0
def tw5511852441049123546:=0
def tw12012636121413137935:=0
def tw16372540761223060637:=0
def tw11517009526576454468:=0
def tw1424151991619115435:=0
def tw17687331264362973232:=0
def tw5442844798356026144:=0
def tw571667176059679441:=0
def tw16040986711398211382:=0
def tw11088644966082114226:=0
def tw8466305051298580502:=0
def tw6993779413032690995:=0
def tw3825601251609657708:=0
def tw2022687706204855984:=0
def tw15564211551680635478:=0
def tw1389702257382486992:=0
def tw12913523173607818687:=0
def tw1271814084952928624:=0
def tw12834988282898131893:=0
def tw10106317902760016564:=0
def tw10831272997617954362:=0
def tw7923657940997157629:=0
def tw5797801618977466703:=0
def tw13715071301561153052:=0
def tw14576153693932998030:=0
end PySem.W.Fast
open PySem renaming wpAny_bind→q0x
open PySem renaming wpAny_pure→q0y
open Int renaming toNat_natCast→q0z
open List renaming getD_eq_getElem?_getD→q1x
open List renaming mem_cons_of_mem→q1y
open List renaming mem_cons_self→q1z
open Bool renaming false_ne_true→q2x
open List renaming mem_append_right→q2y
open Nat renaming lt_of_lt_of_le→q2z
open List renaming length_cons→q3x
open List renaming append_nil→q3y
open List renaming getElem?_set_self→q3z
open List renaming getElem?_append_left→q4x
section
open PySem PySem.W
def ckx {α : Type} (a : List α) (i : Nat) : List α := (a.drop i).take 64
def ckv (p : Addr × Obj) : Option Obj := some p.2
theorem ck2 {α β γ : Type} {f : α → γ} {g : β → γ} {a : List α} {b : List β} {i : Nat} (x : (ckx a i).map f = (ckx b i).map g) (y : (a.drop (i + 64)).map f = (b.drop (i + 64)).map g) : (a.drop i).map f = (b.drop i).map g := by
  have h1 : ((a.drop i).take 64 ++ (a.drop i).drop 64).map f = ((b.drop i).take 64 ++ (b.drop i).drop 64).map g := by
    rw [List.map_append, List.map_append, List.drop_drop, List.drop_drop, y]
    exact congrArg (· ++ _) x
  rw [List.take_append_drop, List.take_append_drop] at h1
  exact h1
theorem ck_of {K : Params → Frag} {a : List Addr} (e : ∀ P, a = (K P).map (·.1)) (w : World) (s : Shared) (x : (((((ckx a 0).map s.heap.get?, (ckx a 64).map s.heap.get?), ((ckx a 128).map s.heap.get?, (ckx a 192).map s.heap.get?)), (((ckx a 256).map s.heap.get?, (ckx a 320).map s.heap.get?), ((ckx a 384).map s.heap.get?, (ckx a 448).map s.heap.get?))), ((((ckx a 512).map s.heap.get?, (ckx a 576).map s.heap.get?), ((ckx a 640).map s.heap.get?, (ckx a 704).map s.heap.get?)), (((ckx a 768).map s.heap.get?, (ckx a 832).map s.heap.get?), ((ckx a 896).map s.heap.get?, ((a).drop 960).map s.heap.get?)))) = (((((ckx (K w.params) 0).map ckv, (ckx (K w.params) 64).map ckv), ((ckx (K w.params) 128).map ckv, (ckx (K w.params) 192).map ckv)), (((ckx (K w.params) 256).map ckv, (ckx (K w.params) 320).map ckv), ((ckx (K w.params) 384).map ckv, (ckx (K w.params) 448).map ckv))), ((((ckx (K w.params) 512).map ckv, (ckx (K w.params) 576).map ckv), ((ckx (K w.params) 640).map ckv, (ckx (K w.params) 704).map ckv)), (((ckx (K w.params) 768).map ckv, (ckx (K w.params) 832).map ckv), ((ckx (K w.params) 896).map ckv, (((K w.params)).drop 960).map ckv))))) : InK K w s.heap :=
  InK.of e w s (ck2 (congrArg (·.1.1.1.1) x) (ck2 (congrArg (·.1.1.1.2) x) (ck2 (congrArg (·.1.1.2.1) x) (ck2 (congrArg (·.1.1.2.2) x) (ck2 (congrArg (·.1.2.1.1) x) (ck2 (congrArg (·.1.2.1.2) x) (ck2 (congrArg (·.1.2.2.1) x) (ck2 (congrArg (·.1.2.2.2) x) (ck2 (congrArg (·.2.1.1.1) x) (ck2 (congrArg (·.2.1.1.2) x) (ck2 (congrArg (·.2.1.2.1) x) (ck2 (congrArg (·.2.1.2.2) x) (ck2 (congrArg (·.2.2.1.1) x) (ck2 (congrArg (·.2.2.1.2) x) (ck2 (congrArg (·.2.2.2.1) x) (congrArg (·.2.2.2.2) x))))))))))))))))
local macro_rules
  | `(tactic| refine $h:ident (q := $q) (loose := $l) (Xt := $x) (XP := $xp) (Yf := $_:ident ($_:ident $k $a $e)) (Ya := $_) (YP := $_) (N := $n) $hl $_ $_ $rest*) => `(tactic| refine $h (q := $q) (loose := $l) (Xt := $x) (XP := $xp) (Yf := fun s => (((((ckx $a 0).map s.heap.get?, (ckx $a 64).map s.heap.get?), ((ckx $a 128).map s.heap.get?, (ckx $a 192).map s.heap.get?)), (((ckx $a 256).map s.heap.get?, (ckx $a 320).map s.heap.get?), ((ckx $a 384).map s.heap.get?, (ckx $a 448).map s.heap.get?))), ((((ckx $a 512).map s.heap.get?, (ckx $a 576).map s.heap.get?), ((ckx $a 640).map s.heap.get?, (ckx $a 704).map s.heap.get?)), (((ckx $a 768).map s.heap.get?, (ckx $a 832).map s.heap.get?), ((ckx $a 896).map s.heap.get?, (($a).drop 960).map s.heap.get?))))) (Ya := fun w => (((((ckx ($k w.params) 0).map ckv, (ckx ($k w.params) 64).map ckv), ((ckx ($k w.params) 128).map ckv, (ckx ($k w.params) 192).map ckv)), (((ckx ($k w.params) 256).map ckv, (ckx ($k w.params) 320).map ckv), ((ckx ($k w.params) 384).map ckv, (ckx ($k w.params) 448).map ckv))), ((((ckx ($k w.params) 512).map ckv, (ckx ($k w.params) 576).map ckv), ((ckx ($k w.params) 640).map ckv, (ckx ($k w.params) 704).map ckv)), (((ckx ($k w.params) 768).map ckv, (ckx ($k w.params) 832).map ckv), ((ckx ($k w.params) 896).map ckv, ((($k w.params)).drop 960).map ckv))))) (YP := InK $k) (N := $n) $hl (ck_of $e) InK.keeps $rest*)
open PyProof.Rows
set_option maxRecDepth 100000 in
set_option maxHeartbeats 0 in
open_top K41hd for PySem.Challenge.rw_rowbreadth_k41_turns_within_turns
end
namespace L2
open PySem PySem.Spec PyProof.Rows
abbrev Key:=Sum Int Str
def XX:Key->Vl->Bool
 | .inl k,v=>Value.isInt k v
 | .inr x,v=>Value.isStrOf x v
def keyH (w:World):Key->Int
 | .inl k=>hashInt k
 | .inr x=>hashStr w x
theorem yg:∀ {k:Key} {v:Vl},XX k v=true->(∃ i t,k=Sum.inl i/\v=Value.int i t)∨(∃ x t,k=Sum.inr x/\v=Value.str x t)
 | .inl i,v,h=>by
  obtain ⟨t,e⟩:=Value.isInt_shape (k:=i) (v:=v) h;exact .inl ⟨i,t,rfl,e⟩
 | .inr x,v,h=>by
  obtain ⟨t,e⟩:=Value.isStrOf_shape (x:=x) (v:=v) h;exact .inr ⟨x,t,rfl,e⟩
def keyIs_int (i:Int) (t:Tok):XX (.inl i) (.int i t)=true:=by simp [XX,Value.isInt]
def keyIs_str (x:Str) (t:Tok):XX (.inr x) (.str x t)=true:=by simp [XX,Value.isStrOf]
def key_ll (a b:Int):decide ((Sum.inl a:Key)=Sum.inl b)=(a == b):=by
 by_cases e:a=b
 ·subst e;simp
 ·have h:¬ (Sum.inl a:Key)=Sum.inl b:=λq=>e (Sum.inl.inj q)
  rw [decide_eq_false h];exact (beq_eq_false_iff_ne.mpr e).symm
def key_rr (a b:Str):decide ((Sum.inr a:Key)=Sum.inr b)=decide (a=b):=by
 by_cases e:a=b
 ·subst e;simp
 ·have h:¬ (Sum.inr a:Key)=Sum.inr b:=λq=>e (Sum.inr.inj q)
  rw [decide_eq_false h,decide_eq_false e]
def key_lr (a:Int) (b:Str):decide ((Sum.inl a:Key)=Sum.inr b)=false:=decide_eq_false (λq=>nomatch q)
def key_rl (a:Str) (b:Int):decide ((Sum.inr a:Key)=Sum.inl b)=false:=decide_eq_false (λq=>nomatch q)
def zS (prog:Program) (w:World):PySem.KeyKind prog w Key where
 is:=XX
 hash:=keyH w
 inj:=λv a b ha hb=>by
  rcases yg ha with ⟨i,t,rfl,rfl⟩ | ⟨x,t,rfl,rfl⟩
  ·rcases yg hb with ⟨j,u,rfl,e⟩ | ⟨y,u,rfl,e⟩
   ·injection e with e1 _;rw [e1]
   ·exact nomatch e
  ·rcases yg hb with ⟨j,u,rfl,e⟩ | ⟨y,u,rfl,e⟩
   ·exact nomatch e
   ·injection e with e1 _;rw [e1]
 byValue:=λk v h=>by
  rcases yg h with ⟨i,t,rfl,rfl⟩ | ⟨x,t,rfl,rfl⟩ <;> rfl
 pyHash:=λhv h=>by
  rcases yg hv with ⟨i,t,rfl,rfl⟩ | ⟨x,t,rfl,rfl⟩
  ·exact wpAny_pyHash_int h
  ·exact wpAny_pyHash_str h
 eqBool:=λhu hv h=>by
  rcases yg hu with ⟨i,t,rfl,rfl⟩ | ⟨x,t,rfl,rfl⟩
  ·rcases yg hv with ⟨j,u,rfl,rfl⟩ | ⟨y,u,rfl,rfl⟩
   ·rw [key_ll] at h;exact wpAny_eqBool_int h
   ·rw [key_lr] at h;exact SeqAt.EqAt.int_str i t y u _ _ _ _ h
  ·rcases yg hv with ⟨j,u,rfl,rfl⟩ | ⟨y,u,rfl,rfl⟩
   ·rw [key_rl] at h;exact SeqAt.EqAt.str_int x t j u _ _ _ _ h
   ·rw [key_rr] at h;exact wpAny_eqBool_str h
 «strs»:=λk x t v h=>by
  rcases yg h with ⟨i,u,rfl,e⟩ | ⟨y,u,rfl,e⟩
  ·exact nomatch e
  ·injection e with e1 _
   subst e1;cases v <;> rfl
def zbr (prog:Program) (w:World) (i:Int) (t:Tok):(zS prog w).is (.inl i) (.int i t)=true:=keyIs_int i t
def zbq (prog:Program) (w:World) (x:Str) (t:Tok):(zS prog w).is (.inr x) (.str x t)=true:=keyIs_str x t
inductive V where
 | non | bl (b:Bool) | int (i:Int) | str (x:Str) | byt (b:Array UInt8) | flt (b:UInt64) | ref (a:Ad) | ty (n:String)
 deriving DecidableEq
def RelV:V->Vl->Prop
 | .non,u=>u=Value.none
 | .bl b,u=>u=Value.bool b
 | .int i,u=>∃ t,u=Value.int i t
 | .str x,u=>∃ t,u=Value.str x t
 | .byt b,u=>∃ t,u=Value.bytes b t
 | .flt b,u=>∃ t,u=Value.float b t
 | .ref a,u=>u=Value.ref a
 | .ty n,u=>u=Value.type n
abbrev Vals:List V->Jb->Prop:=Paired RelV
def Vals.length {xs:List V} {us:Jb} (r:Vals xs us):xs.length=us.length:=Paired.length r
theorem Vals.get:∀ {xs:List V} {us:Jb} {i:Nat} {x:V},Vals xs us->xs[i]?=some x->∃ u,us[i]?=some u/\RelV x u
 | _,_,_,_,.nil,e=>by simp at e
 | _,_,0,_,.cons r _,e=>by simp at e;subst e;exact ⟨_,rfl,r⟩
 | _,_,i+1,x,.cons _ t,e=>by
  obtain ⟨u,h1,h2⟩:=Vals.get (i:=i) (x:=x) t (by simpa using e);exact ⟨u,by simpa using h1,h2⟩
theorem Vals.set {x:V} {u:Vl} (r:RelV x u):∀ {xs:List V} {us:Jb} (i:Nat),Vals xs us->Vals (xs.set i x) (us.set i u)
 | _,_,_,.nil=>.nil
 | _,_,0,.cons _ t=>.cons r t
 | _,_,i+1,.cons q t=>.cons q (Vals.set r i t)
theorem Vals.append:∀ {xs ys:List V} {us ws:Jb},Vals xs us->Vals ys ws->Vals (xs++ys) (us++ws)
 | _,_,_,_,.nil,s=>s
 | _,_,_,_,.cons r t,s=>.cons r (Vals.append t s)
theorem Vals.take:∀ {xs:List V} {us:Jb} (n:Nat),Vals xs us->Vals (xs.take n) (us.take n)
 | _,_,0,_=>.nil
 | _,_,_+1,.nil=>.nil
 | _,_,n+1,.cons r t=>.cons r (Vals.take n t)
theorem Vals.drop:∀ {xs:List V} {us:Jb} (n:Nat),Vals xs us->Vals (xs.drop n) (us.drop n)
 | _,_,0,r=>r
 | _,_,_+1,.nil=>.nil
 | _,_,n+1,.cons _ t=>Vals.drop n t
def RelO:Option V->Jc->Prop
 | some v,some u=>RelV v u
 | none,none=>True
 | _,_=>False
def KV {κ:Type}:List (κ×V)->List (κ×Vl)->Prop:=Paired λ(p:κ×V) (q:κ×Vl)=>p.1=q.1/\RelV p.2 q.2
def kV:Key->V
 | .inl i=>.int i
 | .inr x=>.str x
inductive HO where
  | lst (xs:List V)
  | tup (xs:List V)
  | dK (kvs:List (Key×V)) | dT (kvs:List (List Key×V))
  | set (S:Int->Bool) (n:Nat)
  | ins (C dx:Ad) (fs:List (Str×V))
  | own (x:Ad)
  | xd (fs:List (Str×V))
  | met (f x:Ad)
  | rng (lo hi:Int)
  | frz (o:Obj) (u:HO)
  | tbl (ps:Array Vl)
  | ext (φ:Heap->Prop)
abbrev Hp:=Ad->Option HO
theorem Jn (l:List PySem.Str) (h:decide l.Nodup=true:=by decide +kernel):l.Nodup:=of_decide_eq_true h
abbrev Jj:=List (Key×V)
abbrev Jk:=List (Ad×HO)
abbrev Jl:=List V
abbrev Jm:=Option V
def upd (H:Hp) (a:Ad) (o:HO):Hp:=λb=>if b=a then some o else H b
def zh {H:Hp} {a:Ad} {o:HO}:upd H a o a=some o:=by unfold upd;rw [if_pos rfl]
def zj {H:Hp} {a b:Ad} {o:HO} (h:b≠a):upd H a o b=H b:=by unfold upd;rw [if_neg h]
def ne_of {H:Hp} {a b:Ad} {o u:HO} (h:H a=some o) (h':H b=some u) (d:o≠u):a≠b:=by
 intro e;subst e;rw [h] at h';exact d (Option.some.inj h')
def zr {H:Hp} {a b:Ad} {o:HO} (h:H a=some o) (h':H b=none):a≠b:=by
 intro e;subst e;rw [h] at h';cases h'
section
variable (P:Program) (w:World)
def ObjOk (H:Hp) (h:Heap) (a:Ad):HO->Prop
 | .lst xs=>xs.length<=sizeLine/\∃ (its:Jb) (n:Nat),Vals xs its/\h.get? a=some { cls:=.type "list",data:=.seq its.toArray n }
 | .tup xs=>xs.length<=sizeLine/\∃ its:Jb,Vals xs its/\IsTup h a its.toArray
 | .dK kvs=>kvs.length<=sizeLine/\(a == sysModules)=false/\∃ vs,KV kvs vs/\h.DictOf (zS P w) a vs
 | .dT kvs=>kvs.length<=sizeLine/\(a == sysModules)=false/\∃ xs:List (List Key×Ad×Vl),
   Paired (λ(p:List Key×V) (q:List Key×Ad×Vl)=>p.1=q.1/\H q.2.1=some (.tup (p.1.map kV))/\RelV p.2 q.2.2) kvs xs /\
   ∃ o es ep,h.get? a=some o/\o.ExactDict/\o.data=.dict es ep/\es.toList=xs.map (entryOfKey (tupleKind (zS P w)))/\(xs.map (·.1)).Nodup
 | .set S n=>h.SetOf (intKind P w) a S n
 | .ins C dx fs=>H dx=some (.own a)/\fs.length<=1000/\dx≠a/\h.get? a=some (PySem.W.instObj C dx) /\
   ∃ mA,h.Ns1 dx mA/\(∀ f,RelO (fs.lookup f) (mA f))/\PySem.Within mA (fs.map (·.1))
 | .own _=>∃ o,h.get? a=some o
 | .xd fs=>∃ mA,h.Ns1 a mA/\∀ f,RelO (fs.lookup f) (mA f)
 | .rng lo hi=>∃ t u v,h.get? a=some { cls:=.type "range",data:=.fields #[.int lo t,.int hi u,.int 1 v] }
 | .frz o u=>h.get? a=some o/\ObjOk H h a u
 | .tbl ps=>h.get? a=some { cls:=.none,data:=.fields ps }
 | .met f x=>h.get? a=some (PySem.W.methodObj (.ref f) (.ref x))
 | .ext φ=>φ h/\(∃ o,h.get? a=some o)/\∀ h1 h2:Heap,φ h1->(∀ o,h1.get? a=some o->h2.get? a=some o)->φ h2
def HOk (H:Hp) (h:Heap):Prop:=∀ a o,H a=some o->ObjOk P w H h a o
end
section
variable {P:Program} {w:World} {H H':Hp} {h h':Heap} {a:Ad} {o:HO}
theorem ObjOk.lt (x:ObjOk P w H h a o):a<h.objs.size:=by
 cases o with
 | lst xs=>obtain ⟨_,_,_,_,e⟩:=x;exact Heap.lt_size e
 | tup xs=>obtain ⟨_,_,_,p⟩:=x;exact p.lt
 | dK kvs=>obtain ⟨_,_,_,_,o,_,_,e,_⟩:=x;exact Heap.lt_size e
 | dT kvs=>obtain ⟨_,_,_,_,o,_,_,e,_⟩:=x;exact Heap.lt_size e
 | set S n=>obtain ⟨o,_,_,_,e,_⟩:=x;exact Heap.lt_size e
 | ins C dx fs=>obtain ⟨_,_,_,e,_⟩:=x;exact Heap.lt_size e
 | own y=>obtain ⟨_,e⟩:=x;exact Heap.lt_size e
 | xd fs=>obtain ⟨_,⟨_,_,_,e,_⟩,_⟩:=x;exact Heap.lt_size e
 | rng lo hi=>obtain ⟨_,_,_,e⟩:=x;exact Heap.lt_size e
 | frz ob u=>obtain ⟨e,_⟩:=x;exact Heap.lt_size e
 | tbl ps=>exact Heap.lt_size (show h.get? a=some _ from x)
 | met f y=>exact Heap.lt_size (show h.get? a=some _ from x)
 | ext φ=>obtain ⟨_,⟨_,e⟩,_⟩:=x;exact Heap.lt_size e
theorem Paired.mapP {α β:Type} {F G:α->β->Prop}:∀ {l₁:List α} {l₂:List β},Paired F l₁ l₂->(∀ a b,F a b->G a b)->Paired G l₁ l₂
 | _,_,.nil,_=>.nil
 | _,_,.cons r t,f=>.cons (f _ _ r) (Paired.mapP t f)
theorem ObjOk.stay (x:ObjOk P w H h a o) (k:∀ b u,(b=a∨H b=some (.own a))->h.get? b=some u->h'.get? b=some u)
  (ho:∀ b,H b=some (.own a)->H' b=some (.own a)) (ht:∀ b xs,H b=some (.tup xs)->H' b=some (.tup xs)):ObjOk P w H' h' a o:=by
 induction o with
 | lst xs=>obtain ⟨z,its,n,r,e⟩:=x;exact ⟨z,its,n,r,k _ _ (.inl rfl) e⟩
 | tup xs=>obtain ⟨z,its,r,ob,e,c⟩:=x;exact ⟨z,its,r,ob,k _ _ (.inl rfl) e,c⟩
 | dK kvs=>obtain ⟨z,y,vs,r,ob,es,ep,e,c⟩:=x;exact ⟨z,y,vs,r,ob,es,ep,k _ _ (.inl rfl) e,c⟩
 | dT kvs =>
  obtain ⟨z,y,xs,r,ob,es,ep,e,c⟩:=x;exact ⟨z,y,xs,Paired.mapP r λp q z=>⟨z.1,ht _ _ z.2.1,z.2.2⟩,ob,es,ep,k _ _ (.inl rfl) e,c⟩
 | set S n=>obtain ⟨ob,es,ep,t,e,c⟩:=x;exact ⟨ob,es,ep,t,k _ _ (.inl rfl) e,c⟩
 | ins C dx fs =>
  obtain ⟨d,z,ne,e,mA,⟨od,es,ep,e2,c⟩,r⟩:=x;exact ⟨ho _ d,z,ne,k _ _ (.inl rfl) e,mA,⟨od,es,ep,k _ _ (.inr d) e2,c⟩,r⟩
 | own y=>obtain ⟨ob,e⟩:=x;exact ⟨ob,k _ _ (.inl rfl) e⟩
 | xd fs=>obtain ⟨mA,⟨od,es,ep,e,c⟩,r⟩:=x;exact ⟨mA,⟨od,es,ep,k _ _ (.inl rfl) e,c⟩,r⟩
 | rng lo hi=>obtain ⟨t,u,v,e⟩:=x;exact ⟨t,u,v,k _ _ (.inl rfl) e⟩
 | frz ob u ih=>obtain ⟨e,q⟩:=x;exact ⟨k _ _ (.inl rfl) e,ih q⟩
 | tbl ps =>
  have e:h.get? a=some { cls:=.none,data:=.fields ps }:=x;show h'.get? a=some { cls:=.none,data:=.fields ps };exact k a _ (.inl rfl) e
 | met f y =>
  have e:h.get? a=some (PySem.W.methodObj (.ref f) (.ref y)):=x;show h'.get? a=some (PySem.W.methodObj (.ref f) (.ref y));exact k a _ (.inl rfl) e
 | ext φ=>obtain ⟨p,⟨o,e⟩,st⟩:=x;exact ⟨st _ _ p λo q=>k _ _ (.inl rfl) q,⟨o,k _ _ (.inl rfl) e⟩,st⟩
def HOk.lt (x:HOk P w H h) (e:H a=some o):a<h.objs.size:=(x a o e).lt
theorem HOk.fresh (x:HOk P w H h) (e:h.objs.size<=a):H a=none:=by
 cases q:H a with
 | none=>rfl
 | some u=>exact absurd (q2z (x.lt q) e) (Nat.lt_irrefl _)
def HOk.kept (x:HOk P w H h) (k:∀ b u,h.get? b=some u->h'.get? b=some u):HOk P w H h':=λa o e =>
 (x a o e).stay (λb u _ q=>k b u q) (λ_ q=>q) λ_ _ q=>q
def HOk.laid (x:HOk P w H h) (k:∀ b u,h.get? b=some u->h'.get? b=some u) (hp:h.objs.size<=a) (new:ObjOk P w (upd H a o) h' a o):HOk P w (upd H a o) h':=λb u e=>by
 have hn:=x.fresh hp;by_cases hb:b=a
 ·subst hb;rw [zh] at e;cases e;exact new
 ·rw [zj hb] at e
  exact (x b u e).stay (λc v _ q=>k c v q) (λc q=>by rw [zj (zr q hn)];exact q) λc xs q=>by rw [zj (zr q hn)];exact q
end
def Rd (H:Hp) (a:Ad) (u:HO):Prop:=H a=some u∨∃ o,H a=some (.frz o u)
def Rd.ok {P:Program} {w:World} {H:Hp} {h:Heap} {a:Ad} {u:HO} (r:Rd H a u) (x:HOk P w H h):ObjOk P w H h a u:=by
 rcases r with r | ⟨o,r⟩
 ·exact x a u r
 ·obtain ⟨_,q⟩:=x a _ r
  exact q
def Mut:Option HO->Prop
 | some (.lst _)=>True
 | some (.dK _)=>True
 | some (.dT _)=>True
 | some (.set _ _)=>True
 | some (.ins _ _ _)=>True
 | some (.ext _)=>True
 | _=>False
section
variable {P:Program} {w:World} {H:Hp} {h h':Heap} {x e:Ad} {o':HO}
def HOk.write (ok:HOk P w H h) (mu:Mut (H x)) (he:e=x∨H e=some (.own x)) (k:∀ b u,b≠e->h.get? b=some u->h'.get? b=some u) (heo:∃ u,h'.get? e=some u)
  (new:ObjOk P w (upd H x o') h' x o'):HOk P w (upd H x o') h':=λb u q=>by
 have nown:∀ c y,H c=some (.own y)->c≠x:=λc y r z=>by subst z;rw [r] at mu;exact mu
 have ntup:∀ c xs,H c=some (.tup xs)->c≠x:=λc xs r z=>by subst z;rw [r] at mu;exact mu
 by_cases hb:b=x
 ·subst hb;rw [zh] at q;cases q;exact new
 ·rw [zj hb] at q
  by_cases hbe:b=e
  ·have q':H b=some (.own x):=by
    rcases he with z | z
    ·exact absurd (hbe.trans z) hb
    ·rw [hbe];exact z
   rw [q] at q';cases q';obtain ⟨v,hv⟩:=heo;exact ⟨v,by rw [hbe];exact hv⟩
  ·refine (ok b u q).stay (λc v hc r=>k c v ?_ r) (λc r=>by rw [zj (nown c b r)];exact r) λc xs r=>by rw [zj (ntup c xs r)];exact r
   rcases hc with rfl | hc
   ·exact hbe
   ·rintro rfl
    rcases he with z | z
    ·exact nown c b hc z
    ·rw [hc] at z;cases z;exact hb rfl
end
structure Un (fs ex:Je) (H H':Hp) (h h':Heap):Prop where
 keep:∀ b o,h.get? b=some o->H b=none->b ∉ fs->b ∉ ex->h'.get? b=some o
 slot:∀ b o,h.get? b=some o->H b=none->b∈fs->b ∉ ex->∃ sl,h'.get? b=some { o with slots:=sl }
 free:∀ b o,h.get? b=some o->H b=none->b ∉ ex->H' b=none
 there:∀ b o,h.get? b=some o->b ∉ ex->∃ o',h'.get? b=some o'
 tups:∀ b xs,H b=some (.tup xs)->H' b=some (.tup xs)
 frzs:∀ b o u,H b=some (.frz o u)->H' b=some (.frz o u)
 tbls:∀ b ps,H b=some (.tbl ps)->∃ more,H' b=some (.tbl (ps++more))
section
variable {fs fs' ex ex':Je} {H H1 H2:Hp} {h h1 h2 h':Heap} {a x e:Ad} {o:HO}
def Un.any (u:Un fs ex H H1 h h1) {b:Ad} {ob:Obj} (q:h.get? b=some ob) (n:H b=none) (hx:b ∉ ex):∃ sl,h1.get? b=some { ob with slots:=sl }:=by
 by_cases hb:b∈fs
 ·exact u.slot b ob q n hb hx
 ·exact ⟨ob.slots,u.keep b ob q n hb hx⟩
def Un.kept (k:∀ b u,h.get? b=some u->h'.get? b=some u):Un fs ex H H h h' :=
 ⟨λb ob q _ _ _=>k b ob q,λb ob q _ _ _=>⟨ob.slots,k b ob q⟩,λ_ _ _ n _=>n,λb ob q _=>⟨ob,k b ob q⟩,λ_ _ q=>q,λ_ _ _ q=>q,λ_ ps q=>⟨#[],by rw [q];simp⟩⟩
def Un.refl:Un fs ex H H h h:=Un.kept λ_ _ q=>q
def Un.laid (k:∀ b u,h.get? b=some u->h'.get? b=some u) (hp:h.objs.size<=a) (hn:H a=none):Un fs ex H (upd H a o) h h' where
 keep:=λb u q _ _ _=>k b u q
 slot:=λb u q _ _ _=>⟨u.slots,k b u q⟩
 free:=λb u q n _=>by rw [zj (Nat.ne_of_lt (q2z (Heap.lt_size q) hp))];exact n
 there:=λb u q _=>⟨u,k b u q⟩
 tups:=λb xs q=>by rw [zj (zr q hn)];exact q
 frzs:=λb u xs q=>by rw [zj (zr q hn)];exact q
 tbls:=λb ps q=>⟨#[],by rw [zj (zr q hn),q];simp⟩
def Un.write (mu:Mut (H x)) (he:e=x∨H e=some (.own x)) (k:∀ b u,b≠e->h.get? b=some u->h'.get? b=some u) (heo:∃ u,h'.get? e=some u):Un fs ex H (upd H x o) h h':=by
 have hx:∀ b,H b=none->b≠x:=λb n z=>by subst z;rw [n] at mu;exact mu
 have hb:∀ b,H b=none->b≠e:=λb n z=>by
  subst z;rcases he with r | r
  ·exact hx b n r
  ·rw [n] at r;cases r
 have hm:∀ b u,H b=some u->¬ Mut (some u)->b≠x:=λb u q nm z=>by subst z;rw [q] at mu;exact nm mu
 refine ⟨λb u q n _ _=>k b u (hb b n) q,λb u q n _ _=>⟨u.slots,k b u (hb b n) q⟩,λb u q n _=>by rw [zj (hx b n)];exact n,λb u q _=>?_,
  λb xs q=>by rw [zj (hm b _ q λz=>z)];exact q,λb u xs q=>by rw [zj (hm b _ q λz=>z)];exact q,λb ps q=>⟨#[],by rw [zj (hm b _ q λz=>z),q];simp⟩⟩
 by_cases hbe:b=e
 ·subst hbe;exact heo
 ·exact ⟨u,k b u hbe q⟩
end
def trk (h:Heap) (H:Hp):Je:=(List.range h.objs.size).filter λa=>(H a).isSome
def hidT (h:Heap) (H:Hp):Heap:=PySem.W.hideAll h (trk h H)
def hidT_size (h:Heap) (H:Hp):(hidT h H).objs.size=h.objs.size:=PySem.W.hideAll_size _ _
def hidT_get {h:Heap} {H:Hp} {b:Ad} {o:Obj} (e:h.get? b=some o) (n:H b=none):(hidT h H).get? b=some o :=
 PySem.W.hideAll_get _ e λhm=>by
  have q:(H b).isSome=true:=(List.mem_filter.mp hm).2;rw [n] at q;simp at q
theorem of_hidT {h:Heap} {H:Hp} {b:Ad} {o:Obj} (e:(hidT h H).get? b=some o):h.get? b=some o/\H b=none:=by
 have e':h.get? b=some o:=PySem.W.of_hideAll (trk h H) e;refine ⟨e',?_⟩
 cases q:H b with
 | none=>rfl
 | some x =>
  have hm:b∈trk h H:=List.mem_filter.mpr ⟨List.mem_range.mpr (Heap.lt_size e'),by simp [q]⟩;have z:(hidT h H).get? b=none:=PySem.W.hideAll_none (trk h H) hm;rw [z] at e;cases e
def Yn (g h:Heap) (L:Ad):Ja:=(List.range h.objs.size).filterMap λa=>if a=L∨(g.get? a).isSome=true then none else (h.get? a).map λo=>(a,o)
def zbs {g h:Heap} {L a:Ad} {o:Obj} (h1:a≠L) (h2:g.get? a=none) (h3:h.get? a=some o):(a,o)∈Yn g h L :=
 List.mem_filterMap.mpr ⟨a,List.mem_range.mpr (Heap.lt_size h3),by simp [h1,h2,h3]⟩
theorem Xj {g h:Heap} {L:Ad} {p:Ad×Obj} (hp:p∈Yn g h L):p.1≠L/\g.get? p.1=none/\h.get? p.1=some p.2:=by
 obtain ⟨b,_,e⟩:=List.mem_filterMap.mp hp
 split at e
 ·cases e
 ·rename_i hn
  cases q:h.get? b with
  | none=>rw [q] at e;simp at e
  | some u =>
   rw [q] at e;simp only [Option.map_some,Option.some.injEq] at e;subst e;refine ⟨λz=>hn (.inl z),?_,q⟩;show g.get? b=none
   cases r:g.get? b with
   | none=>rfl
   | some v=>exact (hn (.inr (by simp [r]))).elim
def rest (g h:Heap) (L d:Ad):Ja:=(Yn g h L).filter λp=>decide (p.1≠d)
def news_all {g h:Heap} {L:Ad}:News g L h (Yn g h L):=λp hp=>let ⟨a,b,c⟩:=Xj hp;⟨c,a,b⟩
structure Mod (K:Fg) (mg:J0) (base:Heap):Prop where
 kin:K.In base
 glob:base.Ns mainGlobals mg
 blt:∃ mb,base.Ns builtinsNs mb/\∀ x:Str,x≠"__name__"->mb x=bootBuiltins x
 nolimit:base.NoLimit
structure Cx where
 prog:Program
 w:World
 K:Fg
 mg:J0
 base:Heap
 A:Around
 N:Jd
 s₀:Sh
 H₀:Hp
 env:Env
 outer:List Env
 stack:List Env
 ex:Je
 fn:Str->Bool
 calm:Bool
 pn:Ja
 xe:J5
def frs (l:List Env):Je:=l.filterMap (·.frame)
abbrev Cx.fs (X:Cx):Je:=frs X.outer
def Vis (sc:Scope) (x:Str):Prop:=sc.names.lookup x=some .local∨sc.names.lookup x=some .cell∨sc.names.lookup x=some .free
def Loc (sc:Scope) (x:Str):Prop:=sc.names.lookup x=some .local∨sc.names.lookup x=some .cell
def Look (env:Env) (h:Heap) (m:J0) (x:Str) (u:Vl):Prop :=
 (env.kindOf x=some .local/\m x=some u)∨((env.kindOf x=some .cell∨env.kindOf x=some .free)/\∃ c,env.cells.lookup x=some c/\h.IsCell c (some u))
structure Cx.Ok (X:Cx):Prop where
 mod:Mod X.K X.mg X.base
 kind:X.env.scope.kind=.function
 glob:X.env.globals=mainGlobals
 blt:X.env.builtins=builtinsNs
 above:X.s₀.heap.objs.size<=X.env.locals
 inj:∀ x y c,X.env.cells.lookup x=some c->X.env.cells.lookup y=some c->x=y
 has:∀ x,(X.env.kindOf x=some .cell∨X.env.kindOf x=some .free)->∃ c,X.env.cells.lookup x=some c
 cab:∀ x c,X.fn x=true->X.env.cells.lookup x=some c->X.s₀.heap.objs.size<=c
 hd:X.calm=true->X.A.handled=none
 frames:X.A.frames=some X.stack
 stk:X.stack=X.outer∨(X.stack=X.env::X.outer/\X.env.frame=some X.env.locals)
 exf:∀ b∈X.ex,b≠X.env.locals/\∀ x c,X.env.cells.lookup x=some c->c≠b
 bs:∀ b o,X.base.get? b=some o->X.s₀.heap.get? b=some o/\X.H₀ b=none
 bsz:X.base.objs.size<=X.s₀.heap.objs.size
 noex:∀ b o,X.base.get? b=some o->b ∉ X.ex
 exfs:∀ b∈X.ex,b ∉ X.fs
 funs:X.s₀.heap.FunFrames X.base X.outer
 frf:∀ b∈X.fs,X.H₀ b=none
structure Inv (X:Cx) (pins:Ja) (σ:List (Jm)) (H:Hp) (s:Sh):Prop where
 ok:X.Ok
 os:s.os=X.s₀.os
 bare:AllBare s.gens
 base:Un X.fs X.ex X.H₀ H X.s₀.heap s.heap
 loc:∃ m,s.heap.Ns X.env.locals m/\∀ (i:Nat) (x:Str) (v:V),X.N[i]?=some x->σ[i]?=some (some v)->Vis X.env.scope x->∃ u,RelV v u/\Look X.env s.heap m x u
 cell:∀ x c,X.env.cells.lookup x=some c->∃ v,s.heap.IsCell c v
 free:H X.env.locals=none
 freeC:∀ x c,X.env.cells.lookup x=some c->H c=none
 pin:∀ p∈X.pn++pins,s.heap.get? p.1=some p.2/\H p.1=none/\p.1≠X.env.locals/\p.1 ∉ X.fs/\∀ v,p.2.data≠.cell v
 hok:HOk X.prog X.w H s.heap
 len:σ.length=X.N.length
section
variable {X:Cx} {pins:Ja} {σ:List (Jm)} {H H':Hp} {s:Sh} {h':Heap}
def Cx.Ok.nofr (ok:X.Ok) {b:Ad} {o:Obj} (e:X.base.get? b=some o):b ∉ X.fs:=λhb=>by
 have:=(ok.funs.mem hb).1;rw [e] at this;cases this
def Inv.bs (I:Inv X pins σ H s):∀ b o,X.base.get? b=some o->s.heap.get? b=some o/\H b=none:=λb o e =>
 ⟨I.base.keep b o (I.ok.bs b o e).1 (I.ok.bs b o e).2 (I.ok.nofr e) (I.ok.noex b o e),I.base.free b o (I.ok.bs b o e).1 (I.ok.bs b o e).2 (I.ok.noex b o e)⟩
def Inv.bk (I:Inv X pins σ H s):∀ b o,X.base.get? b=some o->s.heap.get? b=some o:=λb o e=>(I.bs b o e).1
def Inv.mod (I:Inv X pins σ H s):Mod X.K X.mg X.base:=I.ok.mod
def Inv.kIn (I:Inv X pins σ H s):X.K.In s.heap:=I.ok.mod.kin.keeps I.bk
def Inv.lt (I:Inv X pins σ H s):X.env.locals<s.heap.objs.size:=let ⟨_,hn,_⟩:=I.loc;hn.lt
def Inv.sz (I:Inv X pins σ H s):X.s₀.heap.objs.size<=s.heap.objs.size:=Nat.le_trans I.ok.above (Nat.le_of_lt I.lt)
def Inv.nofs (I:Inv X pins σ H s) {a:Ad} (h:s.heap.objs.size<=a):a ∉ X.fs:=λhb=>by
 obtain ⟨_,o,ho,_⟩:=I.ok.funs.mem hb;exact absurd (q2z (Heap.lt_size ho) (Nat.le_trans I.sz h)) (Nat.lt_irrefl _)
def Inv.cne (I:Inv X pins σ H s):∀ x c,X.env.cells.lookup x=some c->c≠X.env.locals:=λx c e z=>by
 obtain ⟨v,o,ho,hd⟩:=I.cell x c e;obtain ⟨m,⟨o',es,ep,ho',hd',_⟩,_⟩:=I.loc;rw [z,ho'] at ho;cases ho;rw [hd'] at hd;cases hd
theorem Inv.funs (I:Inv X pins σ H s):s.heap.FunFrames X.base X.outer:=by
 have all:∀ (l:List Env),(∀ b∈frs l,b∈X.fs)->X.s₀.heap.FunFrames X.base l->s.heap.FunFrames X.base l:=by
  intro l
  induction l with
  | nil=>intro _ _;trivial
  | cons env r ih =>
   intro hs hl;obtain ⟨hk,⟨L,o,hf,hn,ho,hd⟩,hr⟩:=hl;have hL:L∈X.fs:=hs L (by unfold frs;rw [List.filterMap_cons,hf];exact q1z);obtain ⟨sl,e⟩:=I.base.slot L o ho (I.ok.frf L hL) hL λz=>I.ok.exfs L z hL;exact ⟨hk,⟨L,_,hf,hn,e,hd⟩,ih (λb hb=>hs b (by unfold frs;rw [List.filterMap_cons,hf];exact q1y _ hb)) hr⟩
 exact all X.outer (λ_ hb=>hb) I.ok.funs
def Inv.stack (I:Inv X pins σ H s):s.heap.FunFrames X.base X.stack:=by
 rcases I.ok.stk with e | ⟨e,hf⟩
 ·rw [e];exact I.funs
 ·rw [e]
  obtain ⟨m,hn,_⟩:=I.loc;refine .cons (by rw [I.ok.kind];decide) hf hn ?_ I.funs;exact Heap.get?_none_of_le (Nat.le_trans I.ok.bsz I.ok.above)
def Inv.stkSub (I:Inv X pins σ H s):∀ b∈frs X.stack,b∈X.env.locals::X.fs:=λb hb=>by
 rcases I.ok.stk with e | ⟨e,hf⟩
 ·rw [e] at hb;exact q1y _ hb
 ·rw [e] at hb
  unfold frs at hb;rw [List.filterMap_cons,hf] at hb;exact hb
def Inv.stkFree (I:Inv X pins σ H s):∀ b∈frs X.stack,H b=none:=λb hb=>by
 rcases List.mem_cons.mp (I.stkSub b hb) with e | hb
 ·rw [e];exact I.free
 ·obtain ⟨_,o,ho,_⟩:=I.ok.funs.mem hb
  exact I.base.free b o ho (I.ok.frf b hb) λz=>I.ok.exfs b z hb
def Inv.step {g':Array GenState} {t':Nat} {d':Drawn} {ch:Je} (I:Inv X pins σ H s)
  (hch:∀ b∈ch,(b∈X.ex∨X.s₀.heap.objs.size<=b)/\b≠X.env.locals/\(∀ x c,X.env.cells.lookup x=some c->c≠b)/\∀ p∈X.pn++pins,p.1≠b)
  (keep:∀ b o,b≠X.env.locals->b ∉ X.fs->b ∉ ch->s.heap.get? b=some o->H b=none->h'.get? b=some o)
  (slot:∀ b o,b≠X.env.locals->b∈X.fs->b ∉ ch->s.heap.get? b=some o->H b=none->∃ sl,h'.get? b=some { o with slots:=sl }) (free:∀ b o,b ∉ ch->s.heap.get? b=some o->H b=none->H' b=none)
  (there:∀ b o,b ∉ ch->s.heap.get? b=some o->∃ o',h'.get? b=some o')
  (tups:∀ b xs,H b=some (.tup xs)->H' b=some (.tup xs)) (frzs:∀ b o u,H b=some (.frz o u)->H' b=some (.frz o u)) (tbls:∀ b ps,H b=some (.tbl ps)->∃ more,H' b=some (.tbl (ps++more)))
  (ns:∀ m,s.heap.Ns X.env.locals m->h'.Ns X.env.locals m) (hok:HOk X.prog X.w H' h') (hg:AllBare g') :
  Inv X pins σ H' { s with heap:=h',gens:=g',drawn:=d',toks:=t' }:=by
 have neL:∀ b o,X.s₀.heap.get? b=some o->b≠X.env.locals:=λb o e=>Nat.ne_of_lt (q2z (Heap.lt_size e) I.ok.above)
 have neC:∀ b o,X.s₀.heap.get? b=some o->b ∉ X.ex->b ∉ ch:=λb o e hx hb=>by
  rcases (hch b hb).1 with z | z
  ·exact hx z
  ·exact absurd (q2z (Heap.lt_size e) z) (Nat.lt_irrefl _)
 have cellK:∀ x c,X.env.cells.lookup x=some c->∀ v,s.heap.IsCell c v->h'.IsCell c v:=λx c e v ⟨o,ho,hd⟩=>by
  have nch:c ∉ ch:=λz=>(hch c z).2.2.1 x c e rfl;by_cases hc:c∈X.fs
  ·obtain ⟨sl,q⟩:=slot c o (I.cne x c e) hc nch ho (I.freeC x c e)
   exact ⟨_,q,hd⟩
  ·exact ⟨o,keep c o (I.cne x c e) hc nch ho (I.freeC x c e),hd⟩
 refine ⟨I.ok,I.os,hg,⟨λb o e n hb hx=>?_,λb o e n hb hx=>?_,λb o e n hx=>?_,λb o e hx=>?_,λb xs e=>tups b xs (I.base.tups b xs e),λb o xs e=>frzs b o xs (I.base.frzs b o xs e),λb ps e=>?_⟩,?_,λx c e=>?_,?_,λx c e=>?_,λp hp=>?_,hok,I.len⟩
 ·exact keep b o (neL b o e) hb (neC b o e hx) (I.base.keep b o e n hb hx) (I.base.free b o e n hx)
 ·obtain ⟨sl,e1⟩:=I.base.slot b o e n hb hx
  obtain ⟨sl',e2⟩:=slot b _ (neL b o e) hb (neC b o e hx) e1 (I.base.free b o e n hx);exact ⟨sl',e2⟩
 ·obtain ⟨o',e1⟩:=I.base.there b o e hx
  exact free b o' (neC b o e hx) e1 (I.base.free b o e n hx)
 ·obtain ⟨o',e1⟩:=I.base.there b o e hx
  exact there b o' (neC b o e hx) e1
 ·obtain ⟨m1,e1⟩:=I.base.tbls b ps e
  obtain ⟨m2,e2⟩:=tbls b _ e1;exact ⟨m1++m2,by rw [e2,Array.append_assoc]⟩
 ·obtain ⟨m,hn,hl⟩:=I.loc
  refine ⟨m,ns m hn,λi x v e1 e2 e3=>?_⟩;obtain ⟨u,r,l⟩:=hl i x v e1 e2 e3;refine ⟨u,r,?_⟩;rcases l with l | ⟨k,c,e,z⟩
  ·exact .inl l
  ·exact .inr ⟨k,c,e,cellK x c e _ z⟩
 ·obtain ⟨v,z⟩:=I.cell x c e
  exact ⟨v,cellK x c e v z⟩
 ·obtain ⟨m,⟨o,_,_,ho,_⟩,_⟩:=I.loc
  exact free _ o (λz=>(hch _ z).2.1 rfl) ho I.free
 ·obtain ⟨v,o,ho,hd⟩:=I.cell x c e
  exact free c o (λz=>(hch c z).2.2.1 x c e rfl) ho (I.freeC x c e)
 ·obtain ⟨e,n,ne,nf,d⟩:=I.pin p hp
  have nch:p.1 ∉ ch:=λz=>(hch p.1 z).2.2.2 p hp rfl;exact ⟨keep p.1 p.2 ne nf nch e n,free p.1 p.2 nch e n,ne,nf,d⟩
def Inv.un {t':Nat} (I:Inv X pins σ H s) (u:Un X.fs [] H H' s.heap h') (hok:HOk X.prog X.w H' h'):Inv X pins σ H' { s with heap:=h',toks:=t' }:=by
 obtain ⟨m,⟨o,es,ep,ho,r⟩,_⟩:=id I.loc;obtain ⟨sl,hL⟩:=u.any ho I.free (by simp)
 exact I.step (g':=s.gens) (d':=s.drawn) (ch:=[]) (λ_ z=>nomatch z) (λb o _ hb _ e n=>u.keep b o e n hb (by simp)) (λb o _ hb _ e n=>u.slot b o e n hb (by simp)) (λb o _ e n=>u.free b o e n (by simp)) (λb o _ e=>u.there b o e (by simp)) u.tups u.frzs u.tbls (λm' hm=>by
  obtain ⟨o',es',ep',ho',r'⟩:=hm;rw [ho] at ho';cases ho';exact ⟨_,es',ep',hL,r'⟩) hok I.bare
def Inv.call {g':Array GenState} {t':Nat} {d':Drawn} {ch:Je} (I:Inv X pins σ H s) (u:Un (frs X.stack) ch H H' s.heap h') (hok:HOk X.prog X.w H' h') (hg:AllBare g')
  (hch:∀ b∈ch,(b∈X.ex∨X.s₀.heap.objs.size<=b)/\b≠X.env.locals/\(∀ x c,X.env.cells.lookup x=some c->c≠b)/\∀ p∈X.pn++pins,p.1≠b) :
  Inv X pins σ H' { s with heap:=h',gens:=g',drawn:=d',toks:=t' }:=by
 obtain ⟨m,⟨o,es,ep,ho,r⟩,_⟩:=id I.loc;obtain ⟨sl,hL⟩:=u.any ho I.free λz=>(hch _ z).2.1 rfl
 exact I.step (ch:=ch) hch (λb o hL hb hc e n=>u.keep b o e n (λz=>(List.mem_cons.mp (I.stkSub b z)).elim hL hb) hc) (λb o _ _ hc e n=>u.any e n hc) (λb o hc e n=>u.free b o e n hc) (λb o hc e=>u.there b o e hc) u.tups u.frzs u.tbls (λm' hm=>by
  obtain ⟨o',es',ep',ho',r'⟩:=hm;rw [ho] at ho';cases ho';exact ⟨_,es',ep',hL,r'⟩) hok hg
def Inv.turned {t':Nat} {it:Ad} (I:Inv X pins σ H s) (k:∀ b o,b≠it->s.heap.get? b=some o->h'.get? b=some o) (hn:H it=none) (hL:it≠X.env.locals)
  (h1:it∈X.ex∨X.s₀.heap.objs.size<=it) (h2:∀ x c,X.env.cells.lookup x=some c->c≠it) (h3:∀ p∈X.pn++pins,p.1≠it):Inv X pins σ H { s with heap:=h',toks:=t' }:=by
 have nit:∀ b u,H b=some u->b≠it:=λb u e z=>by rw [z,hn] at e;cases e
 refine I.step (g':=s.gens) (d':=s.drawn) (ch:=[it]) (λb hb=>?_) (λb o _ _ hc e _=>k b o (λz=>hc (by simp [z])) e) (λb o _ _ hc e _=>⟨o.slots,k b o (λz=>hc (by simp [z])) e⟩) (λ_ _ _ _ n=>n)
  (λb o hc e=>⟨o,k b o (λz=>hc (by simp [z])) e⟩) (λ_ _ e=>e) (λ_ _ _ e=>e) (λb ps e=>⟨#[],by rw [e];simp⟩) (λm hm=>?_) (λb u e=>?_) I.bare
 ·have e:b=it:=by simpa using hb
  subst e;exact ⟨h1,hL,h2,h3⟩
 ·obtain ⟨o,es,ep,ho,r⟩:=hm
  exact ⟨o,es,ep,k _ o (Ne.symm hL) ho,r⟩
 ·refine (I.hok b u e).stay (λc v hc q=>k c v ?_ q) (λ_ q=>q) λ_ _ q=>q
  rcases hc with z | z
  ·rw [z];exact nit b u e
  ·exact nit c _ z
def Inv.tok (I:Inv X pins σ H s) (t:Nat):Inv X pins σ H { s with toks:=t }:=I.un (h':=s.heap) (t':=t) Un.refl I.hok
def Inv.kept {t':Nat} (I:Inv X pins σ H s) (k:∀ b u,s.heap.get? b=some u->h'.get? b=some u):Inv X pins σ H { s with heap:=h',toks:=t' }:=I.un (Un.kept k) (I.hok.kept k)
def Inv.laid {a:Ad} {o:HO} {t':Nat} (I:Inv X pins σ H s) (k:∀ b u,s.heap.get? b=some u->h'.get? b=some u) (hp:s.heap.objs.size<=a) (new:ObjOk X.prog X.w (upd H a o) h' a o) :
  Inv X pins σ (upd H a o) { s with heap:=h',toks:=t' }:=I.un (Un.laid k hp (I.hok.fresh hp)) (I.hok.laid k hp new)
def Inv.write {x e:Ad} {o:HO} {t':Nat} (I:Inv X pins σ H s) (mu:Mut (H x)) (he:e=x∨H e=some (.own x)) (k:∀ b u,b≠e->s.heap.get? b=some u->h'.get? b=some u) (heo:∃ u,h'.get? e=some u)
  (new:ObjOk X.prog X.w (upd H x o) h' x o):Inv X pins σ (upd H x o) { s with heap:=h',toks:=t' }:=I.un (Un.write mu he k heo) (I.hok.write mu he k heo new)
def Inv.pins_of {pins':Ja} (I:Inv X pins σ H s) (h:∀ p∈pins',s.heap.get? p.1=some p.2/\H p.1=none/\p.1≠X.env.locals/\p.1 ∉ X.fs/\∀ v,p.2.data≠.cell v):Inv X pins' σ H s :=
 ⟨I.ok,I.os,I.bare,I.base,I.loc,I.cell,I.free,I.freeC,λp hp=>(List.mem_append.mp hp).elim (λz=>I.pin p (List.mem_append_left _ z)) (h p),I.hok,I.len⟩
def zbn {N:Jd} (hN:N.Nodup) {i j:Nat} {x:Str} (a:N[i]?=some x) (b:N[j]?=some x):i=j:=by
 obtain ⟨h1,e1⟩:=List.getElem?_eq_some_iff.mp a;obtain ⟨h2,e2⟩:=List.getElem?_eq_some_iff.mp b;exact (List.getElem_inj hN).mp (e1.trans e2.symm)
def XQ {M:Model} {A:Around} {E:J5} {i:Nat} {x:Str} {v:V} {u:Vl} {Q:Unit->Sh->Prop} (I:Inv X pins σ H s) (hN:X.N.Nodup) (hi:X.N[i]?=some x) (hx:Loc X.env.scope x) (r:RelV v u)
  (h:∀ s',Inv X pins (σ.set i (some v)) H s'->(∃ a,Heap.SameBut a s.heap s'.heap/\(a=X.env.locals∨X.env.cells.lookup x=some a))->Q () s') (hf:X.fn x=true∨X.env.scope.names.lookup x=some .local:=by first | exact .inl rfl | exact .inr rfl | assumption):wpAny M A (storeName X.env x u) Q E s:=by
 obtain ⟨m,hn,hl⟩:=id I.loc;have hcls:(X.env.scope.kind == .class || (X.env.scope.kind == .module && X.env.locals != X.env.globals))=false:=by rw [I.ok.kind];rfl
 have hiσ:i<σ.length:=by rw [I.len];exact (List.getElem?_eq_some_iff.mp hi).1
 have cne:=I.cne
 have tracked:∀ {a:Ad} {h':Heap},(∃ o,s.heap.get? a=some o/\H a=none)->Heap.SameBut a s.heap h'->HOk X.prog X.w H h':=λ{a h'} ha hs b ob e=>by
  obtain ⟨_,_,hfree⟩:=ha;refine (I.hok b ob e).stay (λc w' hc q=>(hs.2 c ?_).trans q) (λ_ q=>q) λ_ _ q=>q;rintro rfl;rcases hc with rfl | hc
  ·rw [hfree] at e;cases e
  ·rw [hfree] at hc;cases hc
 rcases hx with hk | hk
 ·refine wpAny_storeName_local hk hn (λh' hn' hs=>?_) hcls
  obtain ⟨oL,_,_,hoL,_⟩:=id hn;refine h _ ⟨I.ok,I.os,I.bare,⟨λb o e n hb hx=>?_,λb o e n hb hx=>?_,I.base.free,λb o e hx=>?_,I.base.tups,I.base.frzs,I.base.tbls⟩,⟨_,hn',λj y v' e1 e2 e3=>?_⟩,λy c e=>?_,I.free,I.freeC,λp hp=>?_,tracked ⟨oL,hoL,I.free⟩ hs,by simpa using I.len⟩ ⟨_,hs,.inl rfl⟩
  ·exact (hs.2 b (Nat.ne_of_lt (q2z (Heap.lt_size e) I.ok.above))).trans (I.base.keep b o e n hb hx)
  ·obtain ⟨sl,e1⟩:=I.base.slot b o e n hb hx
   exact ⟨sl,(hs.2 b (Nat.ne_of_lt (q2z (Heap.lt_size e) I.ok.above))).trans e1⟩
  ·obtain ⟨o',e1⟩:=I.base.there b o e hx
   exact ⟨o',(hs.2 b (Nat.ne_of_lt (q2z (Heap.lt_size e) I.ok.above))).trans e1⟩
  ·by_cases hj:j=i
   ·subst hj
    rw [hi] at e1;cases e1;rw [q3z hiσ] at e2;cases e2;exact ⟨u,r,.inl ⟨hk,by simp⟩⟩
   ·rw [List.getElem?_set_ne (Ne.symm hj)] at e2
    obtain ⟨u',r',q⟩:=hl j y v' e1 e2 e3;refine ⟨u',r',?_⟩;rcases q with ⟨k,e⟩ | ⟨k,c,e,z⟩
    ·refine .inl ⟨k,?_⟩
     have:y≠x:=λe=>hj (zbn hN e1 (e ▸ hi));simp [this,e]
    ·exact .inr ⟨k,c,e,z.sameBut hs (cne y c e)⟩
  ·obtain ⟨w',z⟩:=I.cell y c e
   exact ⟨w',z.sameBut hs (cne y c e)⟩
  ·obtain ⟨e,n,ne,nf,d⟩:=I.pin p hp
   exact ⟨(hs.2 p.1 ne).trans e,n,ne,nf,d⟩
 ·have hfn:X.fn x=true:=by
   rcases hf with z | z
   ·exact z
   ·rw [z] at hk;cases hk
  obtain ⟨c,hc⟩:=I.ok.has x (.inl hk);obtain ⟨w',z⟩:=I.cell x c hc;refine wpAny_storeName_cell I.ok.kind hk hc z (λh' hc' hs=>?_);obtain ⟨oc,hoc,hocd⟩:=id z;refine h { s with heap:=h' } ⟨I.ok,I.os,I.bare,⟨λb o e n hb hx=>?_,λb o e n hb hx=>?_,I.base.free,λb o e hx=>?_,I.base.tups,I.base.frzs,I.base.tbls⟩,⟨m,hn.sameBut hs (Ne.symm (cne x c hc)),λj y v' e1 e2 e3=>?_⟩,λy c' e=>?_,I.free,I.freeC,λp hp=>?_,tracked ⟨oc,hoc,I.freeC x c hc⟩ hs,by simpa using I.len⟩ ⟨c,hs,.inr hc⟩
  ·exact (hs.2 b (Nat.ne_of_lt (q2z (Heap.lt_size e) (I.ok.cab x c hfn hc)))).trans (I.base.keep b o e n hb hx)
  ·obtain ⟨sl,e1⟩:=I.base.slot b o e n hb hx
   exact ⟨sl,(hs.2 b (Nat.ne_of_lt (q2z (Heap.lt_size e) (I.ok.cab x c hfn hc)))).trans e1⟩
  ·obtain ⟨o',e1⟩:=I.base.there b o e hx
   exact ⟨o',(hs.2 b (Nat.ne_of_lt (q2z (Heap.lt_size e) (I.ok.cab x c hfn hc)))).trans e1⟩
  ·by_cases hj:j=i
   ·subst hj
    rw [hi] at e1;cases e1;rw [q3z hiσ] at e2;cases e2;exact ⟨u,r,.inr ⟨.inl hk,c,hc,hc'⟩⟩
   ·rw [List.getElem?_set_ne (Ne.symm hj)] at e2
    obtain ⟨u',r',q⟩:=hl j y v' e1 e2 e3;refine ⟨u',r',?_⟩;rcases q with q | ⟨k,c',e,z'⟩
    ·exact .inl q
    ·refine .inr ⟨k,c',e,z'.sameBut hs ?_⟩
     rintro rfl;exact hj (zbn hN e1 (I.ok.inj _ _ _ e hc ▸ hi))
  ·by_cases hcc:c'=c
   ·subst hcc;exact ⟨_,hc'⟩
   ·obtain ⟨w2,z2⟩:=I.cell y c' e
    exact ⟨w2,z2.sameBut hs hcc⟩
  ·obtain ⟨e,n,ne,nf,d⟩:=I.pin p hp
   refine ⟨(hs.2 p.1 ?_).trans e,n,ne,nf,d⟩;intro q;rw [q,hoc] at e;have q':oc=p.2:=Option.some.inj e;exact d w' (by rw [← q'];exact hocd)
def za5 {M:Model} {A:Around} {E:J5} {i:Nat} {x:Str} {v:V} {u:Vl} {Q:Unit->Sh->Prop} (I:Inv X pins σ H s) (hN:X.N.Nodup) (hi:X.N[i]?=some x) (hx:Loc X.env.scope x) (r:RelV v u)
  (h:∀ s',Inv X pins (σ.set i (some v)) H s'->Q () s') (hf:X.fn x=true∨X.env.scope.names.lookup x=some .local:=by first | exact .inl rfl | exact .inr rfl | assumption):wpAny M A (storeName X.env x u) Q E s :=
 XQ I hN hi hx r (λs' I' _=>h s' I') hf
def Inv.call' {s':Sh} {ch:Je} (I:Inv X pins σ H s) (ho:s'.os=s.os) (u:Un (frs X.stack) ch H H' s.heap s'.heap) (hok:HOk X.prog X.w H' s'.heap) (hg:AllBare s'.gens)
  (hch:∀ b∈ch,(b∈X.ex∨X.s₀.heap.objs.size<=b)/\b≠X.env.locals/\(∀ x c,X.env.cells.lookup x=some c->c≠b)/\∀ p∈X.pn++pins,p.1≠b):Inv X pins σ H' s':=by
 obtain ⟨h',g',d',t',o'⟩:=s';have e:o'=s.os:=ho;subst e;exact I.call (g':=g') (t':=t') (d':=d') u hok hg hch
end
abbrev XK:=Vl->Option Ad->Hp->Prop
abbrev St:=List (Jm)
abbrev VK:=V->Hp->Prop
abbrev TE:=St->Hp->VK->Prop
abbrev TT:=St->Hp->(Bool->Hp->Prop)->Prop
abbrev TA:=St->Hp->(Jl->Hp->Prop)->Prop
structure Ends where
 nx:St->Hp->Prop
 rt:VK
 bk:St->Hp->Prop:=λ_ _=>False
 ct:St->Hp->Prop:=λ_ _=>False
abbrev TS:=Ends->St->Hp->Prop
def EP (X:Cx) (pins:Ja) (σ:St) (Q:VK) (u:Vl) (s':Sh):Prop:=∃ v H',Inv X pins σ H' s'/\RelV v u/\Q v H'
def TP (X:Cx) (pins:Ja) (σ:St) (Q:Bool->Hp->Prop) (b:Bool) (s':Sh):Prop:=∃ H',Inv X pins σ H' s'/\Q b H'
def AP (X:Cx) (pins:Ja) (σ:St) (Q:Jl->Hp->Prop) (us:Jb) (s':Sh):Prop:=∃ vs H',Inv X pins σ H' s'/\Vals vs us/\Q vs H'
def SP (X:Cx) (pins:Ja) (D:Ends) (f:Flow) (s':Sh):Prop :=
 match f with
 | .next=>∃ σ' H',Inv X pins σ' H' s'/\D.nx σ' H'
 | .brk=>∃ σ' H',Inv X pins σ' H' s'/\D.bk σ' H'
 | .cont=>∃ σ' H',Inv X pins σ' H' s'/\D.ct σ' H'
 | .ret u=>∃ v σ' H',Inv X pins σ' H' s'/\RelV v u/\D.rt v H'
def PE (X:Cx) (e:Expr) (t:TE):Prop :=
 ∀ (pins:Ja) (s:Sh) (σ:St) (H:Hp) (Q:VK),Inv X pins σ H s->t σ H Q->wpAny (model X.prog X.w) X.A (eval e X.env) (EP X pins σ Q) X.xe s
def PT (X:Cx) (e:Expr) (t:TT):Prop :=
 ∀ (pins:Ja) (s:Sh) (σ:St) (H:Hp) (Q:Bool->Hp->Prop),Inv X pins σ H s->t σ H Q->wpAny (model X.prog X.w) X.A (isTrue e X.env (eval e X.env)) (TP X pins σ Q) X.xe s
def PW (X:Cx) (e:Expr) (t:TT):Prop :=
 ∀ (whole:Sem Vl) (pins:Ja) (s:Sh) (σ:St) (H:Hp) (Q:Bool->Hp->Prop),Inv X pins σ H s->t σ H Q->wpAny (model X.prog X.w) X.A (isTrue e X.env whole) (TP X pins σ Q) X.xe s
def PW.pt {X:Cx} {e:Expr} {t:TT} (h:PW X e t):PT X e t:=h _
def PA (X:Cx) (es:Jf) (t:TA):Prop :=
 ∀ (pos:Pos) (pins:Ja) (s:Sh) (σ:St) (H:Hp) (Q:Jl->Hp->Prop),Inv X pins σ H s->t σ H Q->wpAny (model X.prog X.w) X.A (spliced (backTo pos (starEach es X.env))) (AP X pins σ Q) X.xe s
def PS (X:Cx) (st:Stmt) (t:TS):Prop :=
 ∀ (pins:Ja) (s:Sh) (σ:St) (H:Hp) (D:Ends),Inv X pins σ H s->t D σ H->wpAny (model X.prog X.w) X.A (exec st X.env) (SP X pins D) X.xe s
def PSs (X:Cx) (st:List Stmt) (t:TS):Prop :=
 ∀ (pins:Ja) (s:Sh) (σ:St) (H:Hp) (D:Ends),Inv X pins σ H s->t D σ H->wpAny (model X.prog X.w) X.A (execs st X.env) (SP X pins D) X.xe s
def thn {α:Type} {t:Sem α} {Q Q':α->Sh->Prop} {M:Model} {A:Around} {E:J5} {s:Sh} (h:wpAny M A t Q E s) (hQ:∀ a s,Q a s->Q' a s):wpAny M A t Q' E s:=wpAny_mono h hQ λ_ _ x=>x
section
variable {X:Cx}
inductive tVar (i:Nat) (σ:St) (H:Hp) (Q:VK):Prop
 | mk (v:_) (_:σ[i]?=some (some v)) (_:Q v H)
def tC (v:V):TE:=λ_ H Q=>Q v H
def pe_var {i:Nat} {x:Str} {pos:Pos} (hN:X.N[i]?=some x) (hv:Vis X.env.scope x) (hd:(x == ("__debug__":Str))=false:=by decide) (hcd:(x == ("__classdict__":Str))=false:=by decide):PE X (.Name x pos) (tVar i):=by
 intro pins s σ H Q I h;obtain ⟨v,e,h⟩:=h;obtain ⟨m,hn,hl⟩:=I.loc;obtain ⟨u,r,l⟩:=hl i x v hN e hv;have fin:EP X pins σ Q u s:=⟨v,H,I,r,h⟩;rcases l with ⟨hk,hm⟩ | ⟨hk,c,hc,hcell⟩
 ·exact wpAny_Name (wpAny_loadName_local I.ok.kind hk hn hm fin) hd
 ·rcases hk with hk | hk
  ·exact wpAny_Name (wpAny_loadName_cell I.ok.kind hk hc hcell fin) hd
  ·exact wpAny_Name (wpAny_loadName_free I.ok.kind hk hc hcell fin hcd) hd
def zc {i j pos}:PE X (.Constant (.int i) j pos) (tC (.int i)):=λ_ _ _ H _ I h=>wpAny_Constant_int ⟨.int i,H,I.tok _,⟨_,rfl⟩,h⟩
def xB {b j pos}:PE X (.Constant (.bool b) j pos) (tC (.bl b)):=λ_ _ _ H _ I h=>Constant_bool ⟨.bl b,H,I,rfl,h⟩
def yW {j pos}:PE X (.Constant .none j pos) (tC .non):=λ_ _ _ H _ I h=>Constant_none ⟨.non,H,I,rfl,h⟩
def zN {x j pos}:PE X (.Constant (.str x) j pos) (tC (.str x)):=λ_ _ _ H _ I h=>Calls.Constant_str ⟨.str x,H,I.tok _,⟨_,rfl⟩,h⟩
def Gl (X:Cx) (x:Str):Prop:=X.env.kindOf x=some .globalImplicit
def ZG {E:J5} {pins:Ja} {s:Sh} {σ:St} {H:Hp} {x:Str} {u:Vl} {pos:Pos} {Q:J5} (I:Inv X pins σ H s) (hg:Gl X x) (hm:X.mg x=some u) (h:Q u s)
  (hd:(x == ("__debug__":Str))=false:=by decide):wpAny (model X.prog X.w) X.A (eval (.Name x pos) X.env) Q E s :=
 Calls.Name_function_global I.ok.kind hg (Calls.loadGlobal_global (by rw [I.ok.glob];exact I.mod.glob.keeps I.bk) hm h) hd
def Zb {E:J5} {pins:Ja} {s:Sh} {σ:St} {H:Hp} {x:Str} {u:Vl} {pos:Pos} {Q:J5} (I:Inv X pins σ H s) (hg:Gl X x) (hm:X.mg x=none) (hv:bootBuiltins x=some u) (h:Q u s)
  (hn:x≠"__name__":=by decide) (hd:(x == ("__debug__":Str))=false:=by decide):wpAny (model X.prog X.w) X.A (eval (.Name x pos) X.env) Q E s:=by
 obtain ⟨mb,h1,h2⟩:=I.mod.blt;exact Calls.Name_function_global I.ok.kind hg (Calls.loadGlobal_builtin (by rw [I.ok.glob];exact I.mod.glob.keeps I.bk) hm (by rw [I.ok.blt];exact h1.keeps I.bk) ((h2 x hn).trans hv) h) hd
def pe_glob {x:Str} {v:V} {u:Vl} {pos:Pos} (hg:Gl X x) (hm:X.mg x=some u) (r:RelV v u) (hd:(x == ("__debug__":Str))=false:=by decide):PE X (.Name x pos) (tC v) :=
 λ_ _ _ H _ I h=>ZG I hg hm ⟨v,H,I,r,h⟩ hd
def pe_bltn {x:Str} {v:V} {u:Vl} {pos:Pos} (hg:Gl X x) (hm:X.mg x=none) (hv:bootBuiltins x=some u) (r:RelV v u) (hn:x≠"__name__":=by decide) (hd:(x == ("__debug__":Str))=false:=by decide):PE X (.Name x pos) (tC v) :=
 λ_ _ _ H _ I h=>Zb I hg hm hv ⟨v,H,I,r,h⟩ hn hd
variable {a b:Expr} {ta tb:TE} {pos:Pos}
def PC (X:Cx) (op:CmpOp) (a b:Expr) (t:TE):Prop :=
 ∀ (pins:Ja) (s:Sh) (σ:St) (H:Hp) (Q:VK),Inv X pins σ H s->t σ H Q ->
  wpAny (model X.prog X.w) X.A (eval a X.env) (λv s₁=>wpAny (model X.prog X.w) X.A (eval b X.env) (λu s₂=>wpAny (model X.prog X.w) X.A (compareOp op v u) (EP X pins σ Q) X.xe s₂) X.xe s₁) X.xe s
def nobehind (b:Expr) {op:CmpOp} (h:op≠.In) (h2:op≠.NotIn):behindInMarks op b=false:=by
 have e1:(op == CmpOp.In)=false:=by cases op <;> first | rfl | exact absurd rfl h
 have e2:(op == CmpOp.NotIn)=false:=by cases op <;> first | rfl | exact absurd rfl h2
 cases b <;> simp [behindInMarks,e1,e2]
inductive tB_S (Q:(Bool->Hp->Prop)) (x:V) (H1:Hp):Prop
 | mk (c:_) (_:x=.bl c) (_:Q c H1)
def tB (t:TE):TT:=λσ H Q=>t σ H λx H1=>tB_S Q x H1
def pt_cmp {op:CmpOp} {t:TE} (h:PC X op a b t) (h1:behindInMarks op b=false:=by first | exact nobehind _ (by decide) (by decide) | rfl):PT X (.Compare a [op] [b] pos) (tB t):=by
 intro pins s σ H Q I hw;refine wpAny_isTrue_Compare1 (thn (h pins s σ H _ I hw) λv s1 h1=>thn h1 λu s2 h2=>thn h2 λc s3 ⟨x,H1,I1,r1,q1⟩=>?_) h1;obtain ⟨d,rfl,q⟩:=q1;cases r1;exact wpAny_truthy_bool ⟨H1,I1,q⟩
def yQ {e:Expr} {t:TE} (h:PE X e t) (he:∀ whole,isTrue e X.env whole=(do let v ← whole;standAt e.pos;holding [v] (truthy v)):=by intro _;rfl):PT X e (tB t):=by
 intro pins s σ H Q I hw;refine isTrue_plain (thn (h pins s σ H _ I hw) λv s1 ⟨x,H1,I1,r1,q1⟩=>?_) (he _);obtain ⟨d,rfl,q⟩:=q1;cases r1;exact wpAny_truthy_bool ⟨H1,I1,q⟩
variable {tA tB':TT} {rest:Jf}
def tAnd (t u:TT):TT:=λσ H Q=>t σ H λc H1=>if c=true then u σ H1 Q else Q false H1
def tOr (t u:TT):TT:=λσ H Q=>t σ H λc H1=>if c=true then Q true H1 else u σ H1 Q
def tNot (t:TT):TT:=λσ H Q=>t σ H λc H1=>Q (!c) H1
theorem Z8 (ha:PT X a tA):PW X (.BoolOp .And [a] pos) tA:=by
 intro wh pins s σ H Q I h;refine isTrue_and (thn (ha pins s σ H Q I h) λc s1 e=>?_)
 cases c with
 | true=>exact isTrue_and_nil e
 | false=>exact e
theorem pw_or1 (ha:PT X a tA):PW X (.BoolOp .Or [a] pos) tA:=by
 intro wh pins s σ H Q I h;refine isTrue_or (thn (ha pins s σ H Q I h) λc s1 e=>?_)
 cases c with
 | false=>exact isTrue_or_nil e
 | true=>exact e
theorem Y7 (ha:PT X a tA) (hb:PW X (.BoolOp .And (b::rest) pos) tB'):PW X (.BoolOp .And (a::b::rest) pos) (tAnd tA tB'):=by
 intro wh pins s σ H Q I h;refine isTrue_and (thn (ha pins s σ H _ I h) λc s1 ⟨H1,I1,q1⟩=>?_)
 cases c with
 | true=>exact hb wh pins s1 σ H1 Q I1 q1
 | false=>exact ⟨H1,I1,q1⟩
theorem pw_or (ha:PT X a tA) (hb:PW X (.BoolOp .Or (b::rest) pos) tB'):PW X (.BoolOp .Or (a::b::rest) pos) (tOr tA tB'):=by
 intro wh pins s σ H Q I h;refine isTrue_or (thn (ha pins s σ H _ I h) λc s1 ⟨H1,I1,q1⟩=>?_)
 cases c with
 | true=>exact ⟨H1,I1,q1⟩
 | false=>exact hb wh pins s1 σ H1 Q I1 q1
def Xa (ha:PT X a tA):PT X (.UnaryOp .Not a pos) (tNot tA):=by
 intro pins s σ H Q I h;exact isTrue_not (ha pins s σ H (λc H1=>Q (!c) H1) I h)
inductive tAndV_S (tb:TE) (σ:St) (Q:VK) (x:V) (H1:Hp):Prop
 | mk (c:_) (_:x=.bl c) (_:if c=true then tb σ H1 Q else Q (.bl false) H1)
def tAndV (ta tb:TE):TE:=λσ H Q=>ta σ H λx H1=>tAndV_S tb σ Q x H1
inductive tOrV_S (tb:TE) (σ:St) (Q:VK) (x:V) (H1:Hp):Prop
 | mk (c:_) (_:x=.bl c) (_:if c=true then Q (.bl true) H1 else tb σ H1 Q)
def tOrV (ta tb:TE):TE:=λσ H Q=>ta σ H λx H1=>tOrV_S tb σ Q x H1
inductive tNotV_S (Q:VK) (x:V) (H1:Hp):Prop
 | mk (c:_) (_:x=.bl c) (_:Q (.bl (!c)) H1)
def tNotV (ta:TE):TE:=λσ H Q=>ta σ H λx H1=>tNotV_S Q x H1
def zaq {op} {t:TE} (h:PE X a t):PE X (.BoolOp op [a] pos) t:=λpins s σ H Q I hw=>BoolOp_one (h pins s σ H Q I hw)
theorem pe_and (ha:PE X a ta) (hb:PE X (.BoolOp .And (b::rest) pos) tb):PE X (.BoolOp .And (a::b::rest) pos) (tAndV ta tb):=by
 intro pins s σ H Q I h;refine BoolOp_and (thn (ha pins s σ H _ I h) λv s1 ⟨x,H1,I1,r1,q1⟩=>?_);obtain ⟨c,rfl,q1⟩:=q1;cases r1;refine wpAny_truthy_bool ?_
 cases c with
 | true=>exact hb pins s1 σ H1 Q I1 q1
 | false=>exact ⟨.bl false,H1,I1,rfl,q1⟩
theorem pe_or (ha:PE X a ta) (hb:PE X (.BoolOp .Or (b::rest) pos) tb):PE X (.BoolOp .Or (a::b::rest) pos) (tOrV ta tb):=by
 intro pins s σ H Q I h;refine BoolOp_or (thn (ha pins s σ H _ I h) λv s1 ⟨x,H1,I1,r1,q1⟩=>?_);obtain ⟨c,rfl,q1⟩:=q1;cases r1;refine wpAny_truthy_bool ?_
 cases c with
 | false=>exact hb pins s1 σ H1 Q I1 q1
 | true=>exact ⟨.bl true,H1,I1,rfl,q1⟩
def pe_not (ha:PE X a ta):PE X (.UnaryOp .Not a pos) (tNotV ta):=by
 intro pins s σ H Q I h;refine UnaryOp_ (thn (ha pins s σ H _ I h) λv s1 ⟨x,H1,I1,r1,q1⟩=>?_);obtain ⟨c,rfl,q1⟩:=q1;cases r1;exact not_of (wpAny_truthy_bool ⟨.bl (!c),H1,I1,rfl,q1⟩)
def tIf (t:TT) (ta tb:TE):TE:=λσ H Q=>t σ H λc H1=>if c=true then ta σ H1 Q else tb σ H1 Q
theorem Xd {c:Expr} (hc:PT X c tA) (ha:PE X a ta) (hb:PE X b tb):PE X (.IfExp c a b pos) (tIf tA ta tb):=by
 intro pins s σ H Q I h;refine wpAny_IfExp (thn (hc pins s σ H _ I h) λd s1 ⟨H1,I1,q1⟩=>?_)
 cases d with
 | true=>exact ha pins s1 σ H1 Q I1 q1
 | false=>exact hb pins s1 σ H1 Q I1 q1
end
def SqL (K:Fg) (H:Hp) (a:Ad) (xs:Jl):Prop :=
 Rd H a (.lst xs) ∨
  ∃ (o:Obj) (its:Array Vl) (n:Nat),K.lookup a=some o/\o.cls=.type "list"/\o.dict=none/\o.data=.seq its n/\its.size<=sizeLine/\Vals xs its.toList
def SqT (K:Fg) (H:Hp) (a:Ad) (xs:Jl):Prop :=
 Rd H a (.tup xs) ∨
  ∃ (o:Obj) (its:Array Vl) (n:Nat),K.lookup a=some o/\o.cls=.type "tuple"/\o.data=.seq its n/\its.size<=sizeLine/\Vals xs its.toList
def absV:Vl->Jm
 | .none=>some .non
 | .bool b=>some (.bl b)
 | .int i _=>some (.int i)
 | .str x _=>some (.str x)
 | .bytes b _=>some (.byt b)
 | .float b _=>some (.flt b)
 | .ref a=>some (.ref a)
 | .type n=>some (.ty n)
 | _=>none
theorem RelV.abs {x:V} {u:Vl} (r:RelV x u):absV u=some x:=by
 cases x with
 | non=>cases r;rfl
 | bl _=>cases r;rfl
 | int _=>obtain ⟨t,rfl⟩:=r;rfl
 | str _=>obtain ⟨t,rfl⟩:=r;rfl
 | byt _=>obtain ⟨t,rfl⟩:=r;rfl
 | flt _=>obtain ⟨t,rfl⟩:=r;rfl
 | ref _=>cases r;rfl
 | ty _=>cases r;rfl
def RelV.inj {x y:V} {u:Vl} (r:RelV x u) (q:RelV y u):x=y:=Option.some.inj (r.abs.symm.trans q.abs)
theorem Vals.inj:∀ {xs ys:Jl} {us:Jb},Vals xs us->Vals ys us->xs=ys
 | _,_,_,.nil,.nil=>rfl
 | _,_,_,.cons r t,.cons r' t'=>by rw [r.inj r',Vals.inj t t']
section
variable {X:Cx} {pins:Ja} {σ:St} {H:Hp} {s:Sh} {a:Ad} {xs ys:Jl}
def SqL.of {K:Fg} (h:H a=some (.lst xs)):SqL K H a xs:=.inl (.inl h)
def SqT.of {K:Fg} (h:H a=some (.tup xs)):SqT K H a xs:=.inl (.inl h)
def Inv.list (I:Inv X pins σ H s) (h:SqL X.K H a xs):∃ its:Jb,Vals xs its/\PlainL s.heap a its.toArray/\xs.length<=sizeLine:=by
 rcases h with h | ⟨o,its,n,hk,hc,hd,hs,hz,r⟩
 ·obtain ⟨z,its,n,r,e⟩:=h.ok I.hok
  exact ⟨its,r,⟨_,n,e,rfl,rfl,rfl⟩,z⟩
 ·refine ⟨its.toList,r,⟨o,n,I.kIn a o hk,hc,hd,by simpa using hs⟩,?_⟩
  have e:=r.length;simp only [Array.length_toList] at e;omega
def Inv.tuple (I:Inv X pins σ H s) (h:SqT X.K H a xs):∃ its:Jb,Vals xs its/\IsTup s.heap a its.toArray/\xs.length<=sizeLine:=by
 rcases h with h | ⟨o,its,n,hk,hc,hs,hz,r⟩
 ·obtain ⟨z,its,r,p⟩:=h.ok I.hok
  exact ⟨its,r,p,z⟩
 ·refine ⟨its.toList,r,⟨o,I.kIn a o hk,hc,n,by simpa using hs⟩,?_⟩
  have e:=r.length;simp only [Array.length_toList] at e;omega
def Inv.list_inj (I:Inv X pins σ H s) (h:SqL X.K H a xs) (h':SqL X.K H a ys):xs=ys:=by
 obtain ⟨its,r,⟨o,n,e,_,_,d⟩,_⟩:=I.list h;obtain ⟨its',r',⟨o',n',e',_,_,d'⟩,_⟩:=I.list h';rw [e] at e';cases e';rw [d] at d';injection d' with d1 _
 have:its=its':=by simpa using congrArg Array.toList d1
 subst this;exact r.inj r'
def Inv.tuple_inj (I:Inv X pins σ H s) (h:SqT X.K H a xs) (h':SqT X.K H a ys):xs=ys:=by
 obtain ⟨its,r,⟨o,e,_,n,d⟩,_⟩:=I.tuple h;obtain ⟨its',r',⟨o',e',_,n',d'⟩,_⟩:=I.tuple h';rw [e] at e';cases e';rw [d] at d';injection d' with d1 _
 have:its=its':=by simpa using congrArg Array.toList d1
 subst this;exact r.inj r'
end
abbrev Cx.wish (X:Cx) (E:J5):Cx:={ X with xe:=E }
abbrev Cx.nox (X:Cx):Cx:=X.wish λ_ _=>False
def Cx.Ok.wish {X:Cx} (ok:X.Ok) (E:J5):(X.wish E).Ok :=
 ⟨ok.mod,ok.kind,ok.glob,ok.blt,ok.above,ok.inj,ok.has,ok.cab,ok.hd,ok.frames,ok.stk,ok.exf,ok.bs,ok.bsz,ok.noex,ok.exfs,ok.funs,ok.frf⟩
def Cx.Ok.unwish {X:Cx} {E:J5} (ok:(X.wish E).Ok):X.Ok :=
 ⟨ok.mod,ok.kind,ok.glob,ok.blt,ok.above,ok.inj,ok.has,ok.cab,ok.hd,ok.frames,ok.stk,ok.exf,ok.bs,ok.bsz,ok.noex,ok.exfs,ok.funs,ok.frf⟩
section
variable {X:Cx} {pins:Ja} {σ:St} {H:Hp} {s:Sh} {E:J5}
def Inv.wish (I:Inv X pins σ H s) (E:J5):Inv (X.wish E) pins σ H s:=⟨I.ok.wish E,I.os,I.bare,I.base,I.loc,I.cell,I.free,I.freeC,I.pin,I.hok,I.len⟩
def Inv.unwish (I:Inv (X.wish E) pins σ H s):Inv X pins σ H s:=⟨I.ok.unwish,I.os,I.bare,I.base,I.loc,I.cell,I.free,I.freeC,I.pin,I.hok,I.len⟩
theorem SP.unwish {D:Ends} {f:Flow} {s':Sh} (h:SP (X.wish E) pins D f s'):SP X pins D f s':=by
 cases f with
 | next=>obtain ⟨σ',H',I,q⟩:=h;exact ⟨σ',H',I.unwish,q⟩
 | brk=>obtain ⟨σ',H',I,q⟩:=h;exact ⟨σ',H',I.unwish,q⟩
 | cont=>obtain ⟨σ',H',I,q⟩:=h;exact ⟨σ',H',I.unwish,q⟩
 | ret u=>obtain ⟨v,σ',H',I,r,q⟩:=h;exact ⟨v,σ',H',I.unwish,r,q⟩
def PSs.nox {st:List Stmt} {t:TS} (h:PSs X.nox st t):PSs X st t:=λpins s σ H D I hw =>
 wpAny_mono (h pins s σ H D (I.wish _) hw) (λ_ _ q=>q.unwish) λ_ _ z=>False.elim z
end
section
variable {X:Cx} {st:Stmt} {rest:List Stmt} {t u:TS} {e:Expr} {te:TE} {pos:Pos}
def tNext:TS:=λD σ H=>D.nx σ H
def tSeq (t u:TS):TS:=λD σ H=>t { D with nx:=u D } σ H
def zE:PSs X [] tNext:=λ_ _ σ H _ I h=>wpAny_execs_nil ⟨σ,H,I,h⟩
theorem zd (h1:PS X st t) (h2:PSs X rest u):PSs X (st::rest) (tSeq t u):=by
 intro pins s σ H D I h;refine wpAny_execs_cons (thn (h1 pins s σ H { D with nx:=u D } I h) λf s1 q=>?_)
 cases f with
 | next =>
  obtain ⟨σ',H',I',q⟩:=q;exact h2 pins s1 σ' H' D I' q
 | ret v=>exact q
 | brk=>exact q
 | cont=>exact q
theorem zf (h1:PS X st t):PSs X [st] t:=by
 intro pins s σ H D I h;refine wpAny_execs_cons (thn (h1 pins s σ H D I h) λf s1 q=>?_)
 cases f with
 | next=>exact wpAny_execs_nil q
 | ret v=>exact q
 | brk=>exact q
 | cont=>exact q
def Inv.quiet {pins:Ja} {σ:St} {H:Hp} {s:Sh} (I:Inv X pins σ H s):interactive X.env=false:=by simp [interactive,I.ok.kind]
def tDrop (te:TE):TS:=λD σ H=>te σ H λ_ H1=>D.nx σ H1
def zW (he:PE X e te) (hs:swapsWith e none pos.line X.env=pure false:=by rfl):PS X (.Expr e pos) (tDrop te):=by
 intro pins s σ H D I h;exact wpAny_Expr_any (thn (he pins s σ H _ I h) λv s1 ⟨x,H1,I1,r1,q1⟩=>⟨σ,H1,I1,q1⟩) I.quiet hs
def tRet (te:TE):TS:=λD σ H=>te σ H D.rt
def zo (he:PE X e te):PS X (.Return (some e) pos) (tRet te):=by
 intro pins s σ H D I h;exact wpAny_Return_some (thn (he pins s σ H _ I h) λv s1 ⟨x,H1,I1,r1,q1⟩=>⟨x,σ,H1,I1,r1,q1⟩)
def tIfS (c:TT) (t u:TS):TS:=λD σ H=>c σ H λb H1=>if b=true then t D σ H1 else u D σ H1
theorem zZ {c:Expr} {a b:List Stmt} {tc:TT} (hc:PT X c tc) (ha:PSs X a t) (hb:PSs X b u):PS X (.If c a b pos) (tIfS tc t u):=by
 intro pins s σ H D I h;refine wpAny_If (thn (hc pins s σ H _ I h) λd s1 ⟨H1,I1,q1⟩=>?_)
 cases d with
 | true=>exact ha pins s1 σ H1 D I1 q1
 | false=>exact hb pins s1 σ H1 D I1 q1
end
abbrev TG:=V->St->Hp->(St->Hp->Prop)->Prop
abbrev TGs:=Jl->St->Hp->(St->Hp->Prop)->Prop
def PG (X:Cx) (target:Expr) (t:TG):Prop :=
 ∀ (pins:Ja) (s:Sh) (σ:St) (H:Hp) (v:V) (u:Vl) (Q:St->Hp->Prop),Inv X pins σ H s->RelV v u->t v σ H Q ->
  wpAny (model X.prog X.w) X.A (assign target X.env u) (λ_ s'=>∃ σ' H',Inv X pins σ' H' s'/\Q σ' H') X.xe s
def PGs (X:Cx) (ts:Jf) (t:TGs):Prop :=
 ∀ (pins:Ja) (s:Sh) (σ:St) (H:Hp) (vs:Jl) (us:Jb) (Q:St->Hp->Prop),Inv X pins σ H s->Vals vs us->t vs σ H Q ->
  wpAny (model X.prog X.w) X.A (assignInOrder ((assignEach ts X.env).map (·.2)) us) (λ_ s'=>∃ σ' H',Inv X pins σ' H' s'/\Q σ' H') X.xe s
abbrev TSet:=V->V->V->Hp->(Hp->Prop)->Prop
def PSet (X:Cx) (t:TSet):Prop :=
 ∀ (pins:Ja) (s:Sh) (σ:St) (H:Hp) (o i v:V) (ov iv u:Vl) (Q:Hp->Prop),Inv X pins σ H s->RelV o ov->RelV i iv->RelV v u->t o i v H Q ->
  wpAny (model X.prog X.w) X.A (setItem ov iv u) (λ_ s'=>∃ H',Inv X pins σ H' s'/\Q H') X.xe s
abbrev TIp:=V->V->Hp->VK->Prop
section
variable {X:Cx} {pos:Pos}
def gName (i:Nat):TG:=λv σ H Q=>Q (σ.set i (some v)) H
def zR {i:Nat} {x:Str} (hN:X.N.Nodup) (hi:X.N[i]?=some x) (hx:Loc X.env.scope x) (hf:X.fn x=true∨X.env.scope.names.lookup x=some .local:=by first | exact .inl rfl | exact .inr rfl | assumption):PG X (.Name x pos) (gName i):=by
 intro pins s σ H v u Q I r h;exact wpAny_assign_Name (za5 I hN hi hx r (λs' I'=>⟨_,H,I',h⟩) hf)
def gNil:TGs:=λvs σ H Q=>vs=[]/\Q σ H
inductive gCons (t:TG) (u:TGs) (vs:Jl) (σ:St) (H:Hp) (Q:(St->Hp->Prop)):Prop
 | mk (v r:_) (_:vs=v::r) (_:t v σ H λσ' H'=>u r σ' H' Q)
def YO:PGs X [] gNil:=by
 intro pins s σ H vs us Q I r h;obtain ⟨e,h⟩:=h;subst e;cases r;exact assignInOrder_nil ⟨σ,H,I,h⟩
theorem xc {e:Expr} {es:Jf} {t:TG} {u:TGs} (h1:PG X e t) (h2:PGs X es u)
  (hs:(assignEach (e::es) X.env).map (·.2)=assign e X.env::(assignEach es X.env).map (·.2):=by rfl):PGs X (e::es) (gCons t u):=by
 intro pins s σ H vs us Q I r h;obtain ⟨v,vr,e1,h⟩:=h;subst e1
 cases r with
 | cons r rr =>
  rw [hs];refine assignInOrder_cons (thn (h1 pins s σ H _ _ _ I r h) λ_ s1 ⟨σ1,H1,I1,q1⟩=>?_);exact h2 pins s1 σ1 H1 _ _ Q I1 rr q1
inductive gTup (K:Fg) (n:Nat) (t:TGs) (v:V) (σ:St) (H:Hp) (Q:(St->Hp->Prop)):Prop
 | mk (a xs:_) (_:v=.ref a) (_:SqT K H a xs) (_:xs.length=n) (_:t xs σ H Q)
def pg_tup {es:Jf} {k:Nat} {t:TGs} {n:Nat} (hc:X.calm=true) (h:PGs X es t)
  (hn:(assignEach es X.env).length=n:=by rfl) (hst:(assignEach es X.env).findIdx? (·.1)=none:=by rfl):PG X (.Tuple es k pos) (gTup X.K n t):=by
 intro pins s σ H v u Q I r hw;obtain ⟨a,xs,e1,hq,hl,hw⟩:=hw;subst e1;cases r;obtain ⟨its,rv,ht,hz⟩:=I.tuple hq;refine assign_Tuple_tuple (I.ok.hd hc) ht (by simp [hn,← hl,rv.length]) hst λh' hx=>?_;have I1:Inv X pins σ H { s with heap:=h' }:=I.kept (t':=s.toks) λb o e=>hx b o (Nat.ne_of_lt (Heap.lt_size e)) e;exact h pins _ σ H xs _ Q I1 (by simpa using rv) hw
def gSub (to ti:TE) (t:TSet):TG:=λv σ H Q=>to σ H λo H1=>ti σ H1 λi H2=>t o i v H2 λH3=>Q σ H3
def Zu {o i:Expr} {to ti:TE} {t:TSet} (ho:PE X o to) (hi:PE X i ti) (hs:PSet X t)
  (ha:∀ v,assign (.Subscript o i pos) X.env v=(do
   let ov ← holding [v] (eval o X.env);let iv ← holding [v,ov] (eval i X.env)
   standAt pos
   holding [v,ov,iv] (setItem ov iv v)
   release [v,ov,iv] []):=by intro _;rfl):PG X (.Subscript o i pos) (gSub to ti t):=by
 intro pins s σ H v u Q I r h;rw [ha];refine q0x (wpAny_holding (thn (ho pins s σ H _ I h) λov s1 ⟨x,H1,I1,r1,q1⟩=>?_));refine q0x (wpAny_holding (thn (hi pins s1 σ H1 _ I1 q1) λiv s2 ⟨y,H2,I2,r2,q2⟩=>?_));refine q0x (wpAny_standAt (q0x (wpAny_holding (thn (hs pins s2 σ H2 x y v ov iv u _ I2 r1 r2 r q2) λ_ s3 ⟨H3,I3,q3⟩=>?_))));exact wpAny_release ⟨σ,H3,I3,q3⟩
def tAsg (te:TE) (g:TG):TS:=λD σ H=>te σ H λx H1=>g x σ H1 D.nx
def Zt {tg e:Expr} {te:TE} {g:TG} (he:PE X e te) (hg:PG X tg g) (hs:swapsWithSole [tg] e pos.line X.env=pure false:=by rfl) (hw:swappedStores [tg] e X.env=pure none:=by rfl)
  (h1:(assignEach [tg] X.env).map (·.2)=[assign tg X.env]:=by rfl):PS X (.Assign [tg] e pos) (tAsg te g):=by
 intro pins s σ H D I h;refine wpAny_Assign_stores (thn (he pins s σ H _ I h) λv s1 ⟨x,H1,I1,r1,q1⟩=>?_) hs hw;rw [h1];exact thn (hg pins s1 σ H1 x v _ I1 r1 q1) λ_ s2 q=>q
def zv {i:Nat} {x:Str} {e:Expr} {te:TE} {pos':Pos} (hN:X.N.Nodup) (hi:X.N[i]?=some x) (hx:Loc X.env.scope x) (he:PE X e te) (hs:swapsWith e (some (.Name x pos')) pos.line X.env=pure false:=by rfl) (hf:X.fn x=true∨X.env.scope.names.lookup x=some .local:=by first | exact .inl rfl | exact .inr rfl | assumption) :
  PS X (.Assign [.Name x pos'] e pos) (tAsg te (gName i)):=by
 intro pins s σ H D I h;refine wpAny_Assign_Name (thn (he pins s σ H _ I h) λv s1 ⟨y,H1,I1,r1,q1⟩=>?_) hs;exact za5 I1 hN hi hx r1 (λs2 I2=>⟨_,H1,I2,q1⟩) hf
inductive tWhile (c:TT) (tb:TS) (D:Ends) (σ:St) (H:Hp):Prop
 | mk (W:Nat->St->Hp->Prop) (_:(∃ m,W m σ H)) (_:∀ m σ H,W m σ H->c σ H λb H1=>if b=true then ∃ N:St->Hp->Prop,(∀ σ' H',N σ' H'->∃ m',m'<m/\W m' σ' H')/\tb { D with nx:=N,ct:=N,bk:=D.nx } σ H1 else D.nx σ H1)
theorem zbe {c:Expr} {body:List Stmt} {tc:TT} {tb:TS} (hp:PassesOwn (model X.prog X.w) X.A X.env X.xe) (hc:PT X c tc) (hb:PSs X body tb):PS X (.While c body [] pos) (tWhile tc tb):=by
 intro pins s σ H D I h;obtain ⟨W,⟨m0,w0⟩,turn⟩:=h;refine wpAny_While (codeAny_whileLoop (λn s'=>∃ σ' H',Inv X pins σ' H' s'/\W n σ' H') ?_ m0 ⟨σ,H,I,w0⟩);rintro n s1 ⟨σ1,H1,I1,w1⟩;refine wpAny_passesOwn hp (thn (hc pins s1 σ1 H1 _ I1 (turn n σ1 H1 w1)) λb s2 ⟨H2,I2,q2⟩=>?_)
 cases b with
 | true =>
  obtain ⟨N,hN,q2⟩:=q2;rw [if_pos rfl];refine wpAny_passesOwn hp (thn (hb pins s2 σ1 H2 _ I2 q2) λf s3 q3=>?_)
  cases f with
  | next =>
   obtain ⟨σ3,H3,I3,n3⟩:=q3;obtain ⟨m',hm,w3⟩:=hN σ3 H3 n3;exact ⟨m',hm,σ3,H3,I3,w3⟩
  | cont =>
   obtain ⟨σ3,H3,I3,n3⟩:=q3;obtain ⟨m',hm,w3⟩:=hN σ3 H3 n3;exact ⟨m',hm,σ3,H3,I3,w3⟩
  | brk=>exact q3
  | ret v=>exact q3
 | false =>
  rw [if_neg q2x];exact wpAny_execs_nil ⟨σ1,H2,I2,q2⟩
end
structure It where
 go:Nat->Hp->Prop
 yld:Nat->Hp->V->Hp->Prop
 stop:Nat->Hp->Prop
def Zh (X:Cx) (pins:Ja) (H:Hp) (b:Ad):Prop :=
 H b=none/\b≠X.env.locals/\b ∉ X.fs/\(b∈X.ex∨X.s₀.heap.objs.size<=b)/\(∀ x c,X.env.cells.lookup x=some c->c≠b)/\∀ p∈X.pn++pins,p.1≠b
def Inv.fpOk {X:Cx} {pins:Ja} {σ:St} {H H':Hp} {s:Sh} {b:Ad} (I:Inv X pins σ H s) (hb:s.heap.objs.size<=b) (hn:H' b=none):Zh X pins H' b:=by
 refine ⟨hn,Nat.ne_of_gt (q2z I.lt hb),I.nofs hb,.inr (Nat.le_trans I.sz hb),λx c e z=>?_,λp hp z=>?_⟩
 ·obtain ⟨v,q⟩:=I.cell x c e
  exact absurd (q2z q.lt (by rw [z];exact hb)) (Nat.lt_irrefl _)
 ·exact absurd (q2z (Heap.lt_size (I.pin p hp).1) (by rw [z];exact hb)) (Nat.lt_irrefl _)
structure Turn (P:Program) (w:World) (K:Fg) (tg:Expr) (J:It) (fp:Je) (it:Ad) (tn:Nat->Heap->Prop):Prop where
 mem:it∈fp
 obj:∀ i h,tn i h->∀ b∈fp,∃ o,h.get? b=some o/\∀ v,o.data≠.cell v
 keep:∀ i h h',tn i h->(∀ b∈fp,∀ o,h.get? b=some o->h'.get? b=some o)->tn i h'
 item:∀ (X:Cx),X.prog=P->X.w=w->X.K=K->X.calm=true->∀ (i:Nat) (pins:Ja) (s:Sh) (σ:St) (H:Hp) (E:J5),Inv X pins σ H s->(∀ b∈fp,Zh X pins H b)->tn i s.heap->J.go i H ->
  wpAny (model P w) X.A (pyNext (.ref it)) (λr s1=>∃ u,r=some u /\
   wpAny (model P w) X.A (letOwnedTupleGo tg (.ref it) u) (λ_ s2=>∃ x H',Inv X pins σ H' s2/\RelV x u/\J.yld i H x H'/\tn (i+1) s2.heap/\∀ b∈fp,H' b=none) E s1) E s
 done:∀ (X:Cx),X.prog=P->X.w=w->X.K=K->X.calm=true->∀ (i:Nat) (pins:Ja) (s:Sh) (σ:St) (H:Hp) (E:J5),Inv X pins σ H s->(∀ b∈fp,Zh X pins H b)->tn i s.heap->J.stop i H ->
  wpAny (model P w) X.A (pyNext (.ref it)) (λr s1=>r=none/\Inv X pins σ H s1) E s
 self:∀ (A:Around) (i:Nat) (s:Sh) (Q:J5) (E:J5),tn i s.heap->Q (.ref it) s->wpAny (model P w) A (pyIter (.ref it)) Q E s
abbrev TI:=St->Hp->(It->Hp->Prop)->Prop
def PIE (X:Cx) (pins:Ja) (σ:St) (tg:Expr) (R:It->Hp->Prop) (itv:Vl) (s2:Sh):Prop :=
 ∃ (it:Ad) (fp:Je) (tn:Nat->Heap->Prop) (J:It) (H':Hp),itv=.ref it/\Inv X pins σ H' s2/\Turn X.prog X.w X.K tg J fp it tn/\tn 0 s2.heap/\(∀ b∈fp,Zh X pins H' b)/\R J H'
def PI (X:Cx) (tg iter:Expr) (wi:TI):Prop :=
 ∀ (pins:Ja) (s:Sh) (σ:St) (H:Hp) (R:It->Hp->Prop),Inv X pins σ H s->wi σ H R ->
  wpAny (model X.prog X.w) X.A (eval iter X.env) (λv s1=>wpAny (model X.prog X.w) X.A (pyIter v) (PIE X pins σ tg R) X.xe s1) X.xe s
theorem go_of {M:Model} {A:Around} {E:J5} {s:Sh} {tg:Expr} {it:Ad} {u:Vl} {o:Obj} {n:String} {vs:Array Vl} {Q:Unit->Sh->Prop} (ho:s.heap.get? it=some o) (hc:o.cls=.type n) (hd:o.data=.fields vs)
    (hn:["enumerate","zip","dict_itemiterator","dict_reverseitemiterator","odict_iterator","itertools.zip_longest","itertools.pairwise"].contains n=false) (hQ:Q () s):wpAny M A (letOwnedTupleGo tg (.ref it) u) Q E s:=by
  unfold letOwnedTupleGo;cases tg <;> first
    | exact q0y hQ
    | (cases u <;> first
        | exact q0y hQ
        | (refine q0x (wpAny_load ho ?_)
           rw [hc,hd];show wpAny M A (if (["enumerate","zip","dict_itemiterator","dict_reverseitemiterator","odict_iterator","itertools.zip_longest","itertools.pairwise"].contains n && vs[0]? == some (rawInt _))=true then _ else _) Q E s;rw [if_neg (by intro h;rw [hn,Bool.false_and] at h;cases h)];exact q0y hQ))
def Itl (K:Fg) (a:Ad):It :=
 ⟨λi H=>∃ xs x,SqL K H a xs/\xs[i]?=some x,λi H x H'=>H'=H/\∀ xs,SqL K H a xs->xs[i]?=some x,λi H=>∃ xs,SqL K H a xs/\xs.length<=i⟩
def Itt (K:Fg) (a:Ad):It :=
 ⟨λi H=>∃ xs x,SqT K H a xs/\xs[i]?=some x,λi H x H'=>H'=H/\∀ xs,SqT K H a xs->xs[i]?=some x,λi H=>∃ xs,SqT K H a xs/\xs.length<=i⟩
def Itr (lo:Int) (n:Nat):It:=⟨λi _=>i<n,λi H x H'=>H'=H/\x=.int (lo+i),λi _=>n<=i⟩
def turn_list {P:Program} {w:World} {K:Fg} {tg:Expr} (a it:Ad):Turn P w K tg (Itl K a) [it] it (λi h=>h.IsListIter it a i) where
 mem:=by simp
 obj:=λi h st b hb=>by
  have e:b=it:=by simpa using hb
  subst e;obtain ⟨o,e,c,d⟩:=st;exact ⟨o,e,λv z=>by rw [d] at z;cases z⟩
 keep:=λi h h' st k=>st.at λo e=>k it (by simp) o e
 item:=by
  intro X hP hw hK hc i pins s σ H E I hf st hg;subst hP hw hK;obtain ⟨xs,x,hq,hx⟩:=hg;obtain ⟨its,rv,p,hz⟩:=I.list hq;obtain ⟨u,hu,ru⟩:=rv.get hx;obtain ⟨f0,f1,f2,f3,f4,f5⟩:=hf it (by simp);refine wpAny_pyNext_list_item st p.isList (x:=u) (by simpa using hu) λh' st' sb=>?_;have I1:Inv X pins σ H { s with heap:=h' }:=I.turned (t':=s.toks) (λb o hb e=>(sb.2 b hb).trans e) f0 f1 f3 f4 f5;obtain ⟨o,e,c,d⟩:=id st';exact ⟨u,rfl,go_of (s:={ s with heap:=h' }) e c d (by decide) ⟨x,H,I1,ru,⟨rfl,λys hy=>by rw [I.list_inj hy hq];exact hx⟩,st',λb hb=>(hf b hb).1⟩⟩
 done:=by
  intro X hP hw hK hc i pins s σ H E I hf st hg;subst hP hw hK;obtain ⟨xs,hq,hx⟩:=hg;obtain ⟨its,rv,p,hz⟩:=I.list hq;obtain ⟨f0,f1,f2,f3,f4,f5⟩:=hf it (by simp);have hl:=rv.length;exact wpAny_pyNext_list_end (I.ok.hd hc) st p.isList (by simp;omega) λh' eb=>⟨rfl,I.turned (t':=s.toks) (λb o hb e=>eb b o hb e) f0 f1 f3 f4 f5⟩
 self:=λ_ _ _ _ _ st h=>wpAny_pyIter_listiter st h
def zb3 {P:Program} {w:World} {K:Fg} {tg:Expr} (it:Ad) (lo:Int) (n:Nat):Turn P w K tg (Itr lo n) [it] it (λi h=>IsRangeIter h it (lo+(i:Nat)*1) ((n:Int)-(i:Nat)) 1) where
 mem:=by simp
 obj:=λi h st b hb=>by
  have e:b=it:=by simpa using hb
  subst e
  exact ⟨_,st,λv z=>by
   have z':Data.fields _=Data.cell v:=z;cases z'⟩
 keep:=λi h h' st k=>k it (by simp) _ st
 item:=by
  intro X hP hw hK hc i pins s σ H E I hf st hg;subst hP hw hK;obtain ⟨f0,f1,f2,f3,f4,f5⟩:=hf it (by simp);have W:=Walks.range (prog:=X.prog) (w:=X.w) (I.ok.hd hc) it lo 1 n;refine W.item i s _ _ hg st λv h' tk hv st' kk=>?_;obtain ⟨t,rfl⟩:=hv;have I1:Inv X pins σ H { s with heap:=h',toks:=tk }:=I.turned (λb o hb e=>kk b o (by simpa using hb) e) f0 f1 f3 f4 f5;refine ⟨_,rfl,go_of (s:={ s with heap:=h',toks:=tk }) (n:="range_iterator") st' rfl rfl (by decide) ⟨.int (lo+i),H,I1,⟨t,?_⟩,⟨rfl,rfl⟩,st',λb hb=>(hf b hb).1⟩⟩;rw [Int.mul_one]
 done:=by
  intro X hP hw hK hc i pins s σ H E I hf st hg;subst hP hw hK;obtain ⟨f0,f1,f2,f3,f4,f5⟩:=hf it (by simp);exact wpAny_pyNext_range_end (I.ok.hd hc) st (by have:n<=i:=hg;omega) λh' eb=>⟨rfl,I.turned (t':=s.toks) (λb o hb e=>eb b o hb e) f0 f1 f3 f4 f5⟩
 self:=λ_ _ _ _ _ st h=>wpAny_pyIter_rangeiter st h
section
variable {X:Cx} {tg:Expr}
inductive iList_S (K:Fg) (R:(It->Hp->Prop)) (x:V) (H1:Hp):Prop
 | mk (a:_) (_:x=.ref a) (_:(∃ xs,SqL K H1 a xs)) (_:R (Itl K a) H1)
def iList (K:Fg) (tl:TE):TI:=λσ H R=>tl σ H λx H1=>iList_S K R x H1
def zap {l:Expr} {tl:TE} (hl:PE X l tl):PI X tg l (iList X.K tl):=by
 intro pins s σ H R I h;refine thn (hl pins s σ H _ I h) λv s1 ⟨x,H1,I1,r1,q1⟩=>?_;obtain ⟨a,e,⟨xs,hq⟩,q⟩:=q1;subst e;cases r1;obtain ⟨its,rv,p,hz⟩:=I1.list hq;refine wpAny_pyIter_list p.isList ?_;refine ⟨s1.heap.objs.size,[s1.heap.objs.size],_,_,H1,rfl,I1.kept (t':=s1.toks) λb o e=>Heap.get?_push_of_some _ e,turn_list a _,⟨_,Heap.get?_push_size _ rfl,rfl,rfl⟩,λb hb=>?_,q⟩;have e:b=s1.heap.objs.size:=by simpa using hb
 subst e;exact I1.fpOk (Nat.le_refl _) (I1.hok.fresh (Nat.le_refl _))
def zbc {pins:Ja} {σ:St} {H:Hp} {s:Sh} {R:It->Hp->Prop} {E:J5} {lo hi:Int} {t u v:Tok} {tk:Nat} (I:Inv X pins σ H s) (h1:-(2 ^ 62)<=lo) (h2:lo<2 ^ 62) (h3:-(2 ^ 62)<=hi) (h4:hi<2 ^ 62)
  (q:R (Itr lo (hi-lo).toNat) H):wpAny (model X.prog X.w) X.A (pyIter (.ref s.heap.objs.size)) (PIE X pins σ tg R) E { s with heap:=s.heap.push { cls:=.type "range",data:=.fields #[.int lo t,.int hi u,.int 1 v] },toks:=tk }:=by
 refine wpAny_pyIter_range (IsRange.new ..) (small_one h1 h2 h3 h4) ?_;have I1:Inv X pins σ H { s with heap:=s.heap.push { cls:=.type "range",data:=.fields #[.int lo t,.int hi u,.int 1 v] },toks:=tk }:=I.kept λb o e=>Heap.get?_push_of_some _ e
 refine ⟨(s.heap.push { cls:=.type "range",data:=.fields #[.int lo t,.int hi u,.int 1 v] }).objs.size,[(s.heap.push { cls:=.type "range",data:=.fields #[.int lo t,.int hi u,.int 1 v] }).objs.size],_,_,H,rfl,
  I1.kept (t':=tk) λb o e=>Heap.get?_push_of_some _ e,zb3 _ lo (hi-lo).toNat,?_,λb hb=>?_,q⟩
 ·have e1:lo+((0:Nat):Int)*1=lo:=by simp
  have e2:(((hi-lo).toNat:Nat):Int)-((0:Nat):Int)=Builtin.Range.rangeSize lo hi 1:=by rw [rangeSize_one];split <;> omega
  show IsRangeIter _ _ (lo+((0:Nat):Int)*1) ((((hi-lo).toNat:Nat):Int)-((0:Nat):Int)) 1;rw [e1,e2];exact Heap.get?_push_size _ rfl
 ·have e:b=(s.heap.push { cls:=.type "range",data:=.fields #[.int lo t,.int hi u,.int 1 v] }).objs.size:=by simpa using hb
  subst e;exact I1.fpOk (Nat.le_refl _) (I1.hok.fresh (Nat.le_refl _))
inductive iRng1_S (R:(It->Hp->Prop)) (vs:Jl) (H1:Hp):Prop
 | mk (j:Int) (_:vs=[.int j]) (_:-(2 ^ 62)<=j) (_:j<2 ^ 62) (_:R (Itr 0 j.toNat) H1)
def iRng1 (ta:TA):TI:=λσ H R=>ta σ H λvs H1=>iRng1_S R vs H1
inductive iRng2_S (R:(It->Hp->Prop)) (vs:Jl) (H1:Hp):Prop
 | mk (i j:Int) (_:vs=[.int i,.int j]) (_:(-(2 ^ 62)<=i/\i<2 ^ 62/\-(2 ^ 62)<=j/\j<2 ^ 62)) (_:R (Itr i (j-i).toNat) H1)
def iRng2 (ta:TA):TI:=λσ H R=>ta σ H λvs H1=>iRng2_S R vs H1
theorem yN {a:Expr} {ta:TA} {p pos:Pos} (hg:Gl X "range") (hm:X.mg "range"=none) (ha:PA X [a] ta) (hs:starEach [a] X.env=[(false,eval a X.env)]:=by rfl):PI X tg (.Call (.Name "range" p) [a] [] pos) (iRng1 ta):=by
 intro pins s σ H R I h;refine Call_ (Zb I hg hm boot_range (PyProof.Rows.callWith_type1 (thn (ha pos pins s σ H _ I h) λus s1 ⟨vs,H1,I1,r1,q1⟩=>?_) hs rfl));obtain ⟨j,e,q1,q2,q⟩:=q1;subst e
 cases r1 with
 | cons r rr =>
  cases rr;obtain ⟨t,rfl⟩:=r;exact call_range_1 (zbc I1 (by omega) (by omega) q1 q2 (by simpa using q))
theorem Ys {a b:Expr} {ta:TA} {p pos:Pos} (hg:Gl X "range") (hm:X.mg "range"=none) (ha:PA X [a,b] ta) (hs:starEach [a,b] X.env=[(false,eval a X.env),(false,eval b X.env)]:=by rfl) (hs2:starEach [b] X.env=[(false,eval b X.env)]:=by rfl) :
  PI X tg (.Call (.Name "range" p) [a,b] [] pos) (iRng2 ta):=by
 intro pins s σ H R I h;refine Call_ (Zb I hg hm boot_range (PyProof.Rows.callWith_type1 (thn (ha pos pins s σ H _ I h) λus s1 ⟨vs,H1,I1,r1,q1⟩=>?_) (by rw [hs,hs2]) (by rw [hs2];rfl)));obtain ⟨i,j,e,⟨q1,q2,q3,q4⟩,q⟩:=q1;subst e
 cases r1 with
 | cons r rr =>
  cases rr with
  | cons r' rr =>
   cases rr;obtain ⟨t,rfl⟩:=r;obtain ⟨t',rfl⟩:=r';exact call_range_2 (zbc I1 q1 q2 q3 q4 q)
inductive tFor_S (g:TG) (tb:TS) (D:Ends) (σ:St) (J:It) (H1:Hp):Prop
 | mk (W:Nat->Nat->St->Hp->Prop) (_:(∃ m,W 0 m σ H1)) (_:∀ i m σ H,W i m σ H->(J.stop i H/\D.nx σ H)∨(J.go i H/\∃ N:St->Hp->Prop,(∀ σ' H',N σ' H'->∃ m',m'<m/\W (i+1) m' σ' H')/\∀ x H',J.yld i H x H'->g x σ H' λσ2 H2=>tb { D with nx:=N,ct:=N,bk:=D.nx } σ2 H2))
def tFor (wi:TI) (g:TG) (tb:TS):TS:=λD σ H=>wi σ H λJ H1=>tFor_S g tb D σ J H1
def Xc (fp:Je) (h:Heap):Ja:=fp.filterMap λb=>(h.get? b).map λo=>(b,o)
def xk {fp:Je} {h:Heap} {b:Ad} {o:Obj} (hb:b∈fp) (e:h.get? b=some o):(b,o)∈Xc fp h:=List.mem_filterMap.mpr ⟨b,hb,by rw [e];rfl⟩
theorem of_pinsAt {fp:Je} {h:Heap} {p:Ad×Obj} (hp:p∈Xc fp h):p.1∈fp/\h.get? p.1=some p.2:=by
 obtain ⟨b,hb,e⟩:=List.mem_filterMap.mp hp
 cases q:h.get? b with
 | none=>rw [q] at e;cases e
 | some o =>
  rw [q] at e;have e':(b,o)=p:=Option.some.inj e;subst e';exact ⟨hb,q⟩
def Inv.pinned {pins:Ja} {σ:St} {H:Hp} {s:Sh} {fp:Je} (I:Inv X pins σ H s) (hf:∀ b∈fp,Zh X pins H b) (ho:∀ b∈fp,∃ o,s.heap.get? b=some o/\∀ v,o.data≠.cell v):Inv X (pins++Xc fp s.heap) σ H s :=
 I.pins_of λp hp=>(List.mem_append.mp hp).elim (λz=>I.pin p (q2y _ z)) λz=>by
  obtain ⟨hb,e⟩:=of_pinsAt z;obtain ⟨f0,f1,f2,_⟩:=hf p.1 hb;obtain ⟨o,e',d⟩:=ho p.1 hb;rw [e] at e';cases e';exact ⟨e,f0,f1,f2,d⟩
def Inv.unpinned {pins pl:Ja} {σ:St} {H:Hp} {s:Sh} (I:Inv X (pins++pl) σ H s):Inv X pins σ H s:=I.pins_of λp hp=>I.pin p (q2y _ (List.mem_append_left _ hp))
theorem Zn {iter:Expr} {body:List Stmt} {wi:TI} {g:TG} {tb:TS} {pos:Pos} (hp:PassesOwn (model X.prog X.w) X.A X.env X.xe) (hc:X.calm=true) (hi:PI X tg iter wi) (hg:PG X tg g) (hb:PSs X body tb)
  (hs:∀ x,foldedSetIterable iter X.env x=pure x:=by intro _;rfl):PS X (.For tg iter body [] pos) (tFor wi g tb):=by
 intro pins s σ H D I h;refine wpAny_For (thn (hi pins s σ H _ I h) λv s1 h1=>thn h1 λitv s2 h2=>?_) hs;obtain ⟨it,fp,tn,J,H2,e,I2,T,st2,f2,W,⟨m0,w0⟩,turn⟩:=h2;subst e;have stat:∀ {H':Hp},(∀ b∈fp,H' b=none)->∀ b∈fp,Zh X pins H' b:=λhn b hb=>⟨hn b hb,(f2 b hb).2⟩;refine codeAny_forLoop_any (λn s'=>∃ i σ' H',Inv X pins σ' H' s'/\tn i s'.heap/\(∀ b∈fp,H' b=none)/\W i n σ' H') ?_ m0 ⟨0,σ,H2,I2,st2,λb hb=>(f2 b hb).1,w0⟩;rintro n s3 ⟨i,σ3,H3,I3,st3,fr3,w3⟩;rcases turn i n σ3 H3 w3 with ⟨stop,qn⟩ | ⟨go,N,hN,step⟩
 ·refine wpAny_passesOwn hp (thn (T.done X rfl rfl rfl hc i pins s3 σ3 H3 X.xe I3 (stat fr3) st3 stop) λr s4 ⟨hr,I4⟩=>?_)
  subst hr;exact wpAny_execs_nil ⟨σ3,H3,I4,qn⟩
 ·refine wpAny_passesOwn hp (thn (T.item X rfl rfl rfl hc i pins s3 σ3 H3 X.xe I3 (stat fr3) st3 go) λr s4 ⟨u,hr,h4⟩=>?_)
  subst hr;refine wpAny_passesOwn hp (thn h4 λ_ s5 ⟨x,H5,I5,r5,y5,st5,fr5⟩=>?_);have I5':=I5.pinned (stat fr5) (T.obj _ _ st5);refine wpAny_passesOwn hp (thn (hg _ s5 σ3 H5 x u _ I5' r5 (step x H5 y5)) λ_ s6 ⟨σ6,H6,I6,q6⟩=>?_);refine wpAny_passesOwn hp (thn (hb _ s6 σ6 H6 _ I6 q6) λf s7 q7=>?_)
  have again:∀ {σ7:St} {H7:Hp},Inv X (pins++Xc fp s5.heap) σ7 H7 s7->N σ7 H7->∃ m,m<n/\∃ i σ' H',Inv X pins σ' H' s7/\tn i s7.heap/\(∀ b∈fp,H' b=none)/\W i m σ' H':=λ{σ7 H7} I7 n7=>by
   obtain ⟨m',hm,w7⟩:=hN σ7 H7 n7;refine ⟨m',hm,i+1,σ7,H7,I7.unpinned,T.keep _ _ _ st5 λb hb o e=>(I7.pin (b,o) (q2y _ (q2y _ (xk hb e)))).1,λb hb=>?_,w7⟩;obtain ⟨o,e,d⟩:=T.obj _ _ st5 b hb;exact (I7.pin (b,o) (q2y _ (q2y _ (xk hb e)))).2.1
  cases f with
  | next=>obtain ⟨σ7,H7,I7,n7⟩:=q7;exact again I7 n7
  | cont=>obtain ⟨σ7,H7,I7,n7⟩:=q7;exact again I7 n7
  | brk=>obtain ⟨σ7,H7,I7,q7⟩:=q7;exact ⟨σ7,H7,I7.unpinned,q7⟩
  | ret v=>obtain ⟨x7,σ7,H7,I7,r7,q7⟩:=q7;exact ⟨x7,σ7,H7,I7.unpinned,r7,q7⟩
end
def for_list {K:Fg} {a:Ad} {xs:Jl} {g:TG} {tb:TS} {D:Ends} {σ:St} {H:Hp} (Pv:Nat->St->Hp->Prop) (h0:Pv 0 σ H) (hl:∀ i σ H,i<=xs.length->Pv i σ H->SqL K H a xs)
  (hs:∀ i x σ H,xs[i]?=some x->Pv i σ H->g x σ H λσ2 H2=>tb { D with nx:=Pv (i+1),ct:=Pv (i+1),bk:=D.nx } σ2 H2) (hd:∀ σ H,Pv xs.length σ H->D.nx σ H) :
  tFor_S g tb D σ (Itl K a) H:=by
 refine ⟨λi m σ H=>m=xs.length-i/\i<=xs.length/\Pv i σ H,⟨xs.length,by simp,Nat.zero_le _,h0⟩,?_⟩;rintro i m σ H ⟨rfl,hi,p⟩;have q:=hl i σ H hi p;by_cases hlt:i<xs.length
 ·refine .inr ⟨⟨xs,xs[i],q,by simp [hlt]⟩,Pv (i+1),λσ' H' p'=>⟨xs.length-(i+1),by omega,rfl,hlt,p'⟩,λx H' y=>?_⟩
  obtain ⟨e,y⟩:=y;subst e;exact hs i x σ _ (y xs q) p
 ·have e:i=xs.length:=by omega
  subst e;exact .inl ⟨⟨xs,q,Nat.le_refl _⟩,hd σ H p⟩
def xQ {lo:Int} {n:Nat} {g:TG} {tb:TS} {D:Ends} {σ:St} {H:Hp} (Pv:Nat->St->Hp->Prop) (h0:Pv 0 σ H)
  (hs:∀ i σ H,i<n->Pv i σ H->g (.int (lo+i)) σ H λσ2 H2=>tb { D with nx:=Pv (i+1),ct:=Pv (i+1),bk:=D.nx } σ2 H2) (hd:∀ σ H,Pv n σ H->D.nx σ H) :
  tFor_S g tb D σ (Itr lo n) H:=by
 refine ⟨λi m σ H=>m=n-i/\i<=n/\Pv i σ H,⟨n,by simp,Nat.zero_le _,h0⟩,?_⟩;rintro i m σ H ⟨rfl,hi,p⟩;by_cases hlt:i<n
 ·refine .inr ⟨hlt,Pv (i+1),λσ' H' p'=>⟨n-(i+1),by omega,rfl,hlt,p'⟩,λx H' y=>?_⟩
  obtain ⟨e,y⟩:=y;subst e y;exact hs i σ _ hlt p
 ·have e:i=n:=by omega
  subst e;exact .inl ⟨Nat.le_refl _,hd σ H p⟩
abbrev R2:=V->V->Hp->VK->Prop
def OpR (X:Cx) (f:Vl->Vl->Sem Vl) (r:R2):Prop :=
 ∀ (pins:Ja) (s:Sh) (σ:St) (H:Hp) (x y:V) (v u:Vl) (Q:VK),Inv X pins σ H s->RelV x v->RelV y u->r x y H Q ->
  wpAny (model X.prog X.w) X.A (f v u) (EP X pins σ Q) X.xe s
def UnR (X:Cx) (f:Vl->Sem Vl) (r:V->Hp->VK->Prop):Prop :=
 ∀ (pins:Ja) (s:Sh) (σ:St) (H:Hp) (x:V) (v:Vl) (Q:VK),Inv X pins σ H s->RelV x v->r x H Q ->
  wpAny (model X.prog X.w) X.A (f v) (EP X pins σ Q) X.xe s
def Zr (X:Cx) (f:Vl) (r:Jl->Hp->VK->Prop):Prop :=
 ∀ (pins:Ja) (s:Sh) (σ:St) (H:Hp) (xs:Jl) (us:Jb) (Q:VK),Inv X pins σ H s->Vals xs us->r xs H Q ->
  wpAny (model X.prog X.w) X.A (call f us) (EP X pins σ Q) X.xe s
def tOp (r:R2) (ta tb:TE):TE:=λσ H Q=>ta σ H λx H1=>tb σ H1 λy H2=>r x y H2 Q
def tUn (r:V->Hp->VK->Prop) (ta:TE):TE:=λσ H Q=>ta σ H λx H1=>r x H1 Q
inductive rI (C:Int->Int->Prop) (g:Int->Int->V) (x y:V) (H:Hp) (Q:VK):Prop
 | mk (i j:_) (_:x=.int i) (_:y=.int j) (_:C i j) (_:Q (g i j) H)
inductive rI0 (g:Int->Int->V) (x y:V) (H:Hp) (Q:VK):Prop
 | mk (i j:_) (_:x=.int i) (_:y=.int j) (_:Q (g i j) H)
inductive rU (g:Int->V) (x:V) (H:Hp) (Q:VK):Prop
 | mk (i:_) (_:x=.int i) (_:Q (g i) H)
section
variable {X:Cx} {a b c:Expr} {ta tb tc:TE} {pos:Pos}
def binT (ha:PE X a ta) (hb:PE X b tb) {pins:Ja} {s:Sh} {σ:St} {H:Hp} {R:V->V->Hp->Prop} (I:Inv X pins σ H s)
  (h:ta σ H λx H1=>tb σ H1 λy H2=>R x y H2) {Q:J5} {f:Vl->Vl->Sem Vl}
  (hf:∀ v u s2 x y H2,Inv X pins σ H2 s2->RelV x v->RelV y u->R x y H2->wpAny (model X.prog X.w) X.A (f v u) Q X.xe s2) :
  wpAny (model X.prog X.w) X.A (eval a X.env) (λv s₁=>wpAny (model X.prog X.w) X.A (eval b X.env) (λu s₂=>wpAny (model X.prog X.w) X.A (f v u) Q X.xe s₂) X.xe s₁) X.xe s:=by
 refine thn (ha pins s σ H _ I h) λv s1 ⟨x,H1,I1,r1,q1⟩=>?_;refine thn (hb pins s1 σ H1 _ I1 q1) λu s2 ⟨y,H2,I2,r2,q2⟩=>?_;exact hf v u s2 x y H2 I2 r1 r2 q2
def zi {op:Operator} {r:R2} (ho:OpR X (binaryOp op) r) (ha:PE X a ta) (hb:PE X b tb):PE X (.BinOp a op b pos) (tOp r ta tb):=by
 intro pins s σ H Q I h;exact wpAny_BinOp (binT ha hb I h λv u s2 x y H2 I2 rx ry q=>ho pins s2 σ H2 x y v u Q I2 rx ry q)
def pe_un {op:UnaryOp} {r:V->Hp->VK->Prop} (ho:UnR X (unaryOp op) r) (ha:PE X a ta):PE X (.UnaryOp op a pos) (tUn r ta):=by
 intro pins s σ H Q I h;exact UnaryOp_ (thn (ha pins s σ H _ I h) λv s1 ⟨x,H1,I1,r1,q1⟩=>ho pins s1 σ H1 x v Q I1 r1 q1)
def opI {f:Vl->Vl->Sem Vl} {C:Int->Int->Prop} {g:Int->Int->Int}
  (rule:∀ (i j:Int) (t u:Tok) (s:Sh) (Q:J5) (E:J5),C i j->Q (.int (g i j) s.toks) { s with toks:=s.toks+1 }->wpAny (model X.prog X.w) X.A (f (.int i t) (.int j u)) Q E s) :
  OpR X f (rI C λi j=>.int (g i j)):=by
 intro pins s σ H x y v u Q I rx ry h;obtain ⟨i,j,rfl,rfl,hc,q⟩:=h;obtain ⟨t,rfl⟩:=rx;obtain ⟨t',rfl⟩:=ry;exact rule i j t t' s _ _ hc ⟨.int (g i j),H,I.tok _,⟨_,rfl⟩,q⟩
def opI0 {f:Vl->Vl->Sem Vl} {g:Int->Int->Int}
  (rule:∀ (i j:Int) (t u:Tok) (s:Sh) (Q:J5) (E:J5),Q (.int (g i j) s.toks) { s with toks:=s.toks+1 }->wpAny (model X.prog X.w) X.A (f (.int i t) (.int j u)) Q E s) :
  OpR X f (rI0 λi j=>.int (g i j)):=by
 intro pins s σ H x y v u Q I rx ry h;obtain ⟨i,j,rfl,rfl,q⟩:=h;obtain ⟨t,rfl⟩:=rx;obtain ⟨t',rfl⟩:=ry;exact rule i j t t' s _ _ ⟨.int (g i j),H,I.tok _,⟨_,rfl⟩,q⟩
def opB0 {f:Vl->Vl->Sem Vl} {g:Int->Int->Bool}
  (rule:∀ (i j:Int) (t u:Tok) (s:Sh) (Q:J5) (E:J5),Q (.bool (g i j)) s->wpAny (model X.prog X.w) X.A (f (.int i t) (.int j u)) Q E s) :
  OpR X f (rI0 λi j=>.bl (g i j)):=by
 intro pins s σ H x y v u Q I rx ry h;obtain ⟨i,j,rfl,rfl,q⟩:=h;obtain ⟨t,rfl⟩:=rx;obtain ⟨t',rfl⟩:=ry;exact rule i j t t' s _ _ ⟨.bl (g i j),H,I,rfl,q⟩
def CDiv (i j:Int):Prop:=0<j/\j<1073741824
def CMul (i j:Int):Prop:=(-(2 ^ 64)<i/\i<2 ^ 64)∨(-(2 ^ 64)<j/\j<2 ^ 64)
def CMul.ok {i j:Int} (h:CMul i j):IntMulOk i j:=by
 rcases h with ⟨h1,h2⟩ | ⟨h1,h2⟩
 ·exact .of_left (intBits_le_64 h1 h2)
 ·exact .of_right (intBits_le_64 h1 h2)
def zB:OpR X (binaryOp .Add) (rI0 λi j=>.int (i+j)):=opI0 λ_ _ _ _ _ _ _ q=>add_int q
def Zo:OpR X (binaryOp .Sub) (rI0 λi j=>.int (i-j)):=opI0 λ_ _ _ _ _ _ _ q=>sub_int q
def yq:OpR X (binaryOp .Mult) (rI CMul λi j=>.int (i*j)):=opI λ_ _ _ _ _ _ _ hc q=>mul_int q hc.ok
def zas:OpR X (binaryOp .FloorDiv) (rI CDiv λi j=>.int (i / j)):=opI λi j _ _ _ _ _ hc q=>by
 have h1:(0:Int)<j:=hc.1;have h2:j<1073741824:=hc.2;exact floordiv_int (by omega) (by rw [Int.fdiv_eq_ediv_of_nonneg i (by omega)];exact q) (.inl (PyProof.noPylong_small (by omega)))
def yD:OpR X (binaryOp .Mod) (rI (λ_ j=>0<j) λi j=>.int (i % j)):=opI λi j _ _ _ _ _ hc q=>by
 have h1:(0:Int)<j:=hc;exact mod_int' (by omega) (by rw [Int.fmod_eq_emod_of_nonneg i (by omega)];exact q)
def op_modN:OpR X (binaryOp .Mod) (rI (λ_ j=>j≠0) λi j=>.int (i.fmod j)):=opI λ_ _ _ _ _ _ _ hc q=>mod_int' hc q
def op_and:OpR X (binaryOp .BitAnd) (rI0 λi j=>.int (Builtin.bitAnd i j)):=opI0 λ_ _ _ _ _ _ _ q=>and_int q
def op_or:OpR X (binaryOp .BitOr) (rI0 λi j=>.int (Builtin.bitOr i j)):=opI0 λ_ _ _ _ _ _ _ q=>or_int q
def op_xor:OpR X (binaryOp .BitXor) (rI0 λi j=>.int (Builtin.bitXor i j)):=opI0 λ_ _ _ _ _ _ _ q=>xor_int q
def unI {f:Vl->Sem Vl} {g:Int->Int}
  (rule:∀ (i:Int) (t:Tok) (s:Sh) (Q:J5) (E:J5),Q (.int (g i) s.toks) { s with toks:=s.toks+1 }->wpAny (model X.prog X.w) X.A (f (.int i t)) Q E s) :
  UnR X f (rU λi=>.int (g i)):=by
 intro pins s σ H x v Q I rx h;obtain ⟨i,rfl,q⟩:=h;obtain ⟨t,rfl⟩:=rx;exact rule i t s _ _ ⟨.int (g i),H,I.tok _,⟨_,rfl⟩,q⟩
def un_neg:UnR X (unaryOp .USub) (rU λi=>.int (-i)):=unI λ_ _ _ _ _ q=>neg_int q
end
def scal:V->V->Bool
 | .non,.non=>true | .non,.int _=>true | .int _,.non=>true | .non,.bl _=>true | .bl _,.non=>true | .non,.str _=>true | .str _,.non=>true
 | .int _,.int _=>true | .bl _,.bl _=>true | .str _,.str _=>true | .byt _,.byt _=>true
 | .int _,.str _=>true | .str _,.int _=>true | .bl _,.str _=>true | .str _,.bl _=>true
 | _,_=>false
def rEq:R2:=λx y H Q=>scal x y=true/\Q (.bl (decide (x=y))) H
def rNe:R2:=λx y H Q=>scal x y=true/\Q (.bl (!decide (x=y))) H
def Yk {i j:Int}:decide (V.int i=V.int j)=(i == j):=by
 rw [Bool.eq_iff_iff];simp
def Xs {i j:Bool}:decide (V.bl i=V.bl j)=(i == j):=by
 rw [Bool.eq_iff_iff];simp
def dec_str {i j:Str}:decide (V.str i=V.str j)=(i == j):=by
 rw [Bool.eq_iff_iff];simp
def dec_byt {i j:Array UInt8}:decide (V.byt i=V.byt j)=(i.toList == j.toList):=by
 rw [Bool.eq_iff_iff];cases i;cases j;simp
section
variable {X:Cx} {a b c:Expr} {ta tb tc:TE} {pos:Pos}
def zP {pins:Ja} {σ:St} {H:Hp} {s:Sh} {Q:VK} {k k':Bool} (I:Inv X pins σ H s) (q:Q (.bl k) H) (e:k=k'):EP X pins σ Q (.bool k') s:=by
 subst e;exact ⟨.bl k,H,I,rfl,q⟩
theorem xf:OpR X (compareOp .Eq) rEq:=by
 intro pins s σ H x y v u Q I rx ry h;obtain ⟨hs,q⟩:=h
 cases x with
 | non =>
  cases rx
  cases y with
  | non=>cases ry;exact PySem.EqNone.eq_none_none (zP I q (by simp))
  | bl j=>cases ry;exact PySem.EqNone.eq_none_bool (zP I q (by simp))
  | int j=>obtain ⟨t',rfl⟩:=ry;exact PySem.EqNone.eq_none_int (zP I q (by simp))
  | str j=>obtain ⟨t',rfl⟩:=ry;exact PySem.EqNone.eq_none_str (zP I q (by simp))
  | _=>exact absurd (show false=true from hs) q2x
 | bl i =>
  cases rx
  cases y with
  | non=>cases ry;exact PySem.EqNone.eq_bool_none (zP I q (by simp))
  | bl j=>cases ry;exact eq_bool (zP I q Xs)
  | str j=>obtain ⟨t',rfl⟩:=ry;exact PySem.EqMixed.eq_bool_str (zP I q (by simp))
  | _=>exact absurd (show false=true from hs) q2x
 | int i =>
  obtain ⟨t,rfl⟩:=rx
  cases y with
  | non=>cases ry;exact PySem.EqNone.eq_int_none (zP I q (by simp))
  | int j=>obtain ⟨t',rfl⟩:=ry;exact eq_int (zP I q Yk)
  | str j=>obtain ⟨t',rfl⟩:=ry;exact PySem.EqMixed.eq_int_str (zP I q (by simp))
  | _=>exact absurd (show false=true from hs) q2x
 | str i =>
  obtain ⟨t,rfl⟩:=rx
  cases y with
  | non=>cases ry;exact PySem.EqNone.eq_str_none (zP I q (by simp))
  | bl j=>cases ry;exact PySem.EqMixed.eq_str_bool (zP I q (by simp))
  | int j=>obtain ⟨t',rfl⟩:=ry;exact PySem.EqMixed.eq_str_int (zP I q (by simp))
  | str j=>obtain ⟨t',rfl⟩:=ry;exact eq_str (zP I q dec_str)
  | _=>exact absurd (show false=true from hs) q2x
 | byt i =>
  obtain ⟨t,rfl⟩:=rx
  cases y with
  | byt j=>obtain ⟨t',rfl⟩:=ry;exact PySem.W.eq_bytes (zP I q dec_byt)
  | _=>exact absurd (show false=true from hs) q2x
 | _=>cases y <;> exact absurd (show false=true from hs) q2x
theorem op_ne:OpR X (compareOp .NotEq) rNe:=by
 intro pins s σ H x y v u Q I rx ry h;obtain ⟨hs,q⟩:=h
 cases x with
 | non =>
  cases rx
  cases y with
  | non=>cases ry;exact PySem.EqNone.ne_none_none (zP I q (by simp))
  | bl j=>cases ry;exact PySem.EqNone.ne_none_bool (zP I q (by simp))
  | int j=>obtain ⟨t',rfl⟩:=ry;exact PySem.EqNone.ne_none_int (zP I q (by simp))
  | str j=>obtain ⟨t',rfl⟩:=ry;exact PySem.EqNone.ne_none_str (zP I q (by simp))
  | _=>exact absurd (show false=true from hs) q2x
 | bl i =>
  cases rx
  cases y with
  | non=>cases ry;exact PySem.EqNone.ne_bool_none (zP I q (by simp))
  | bl j=>cases ry;exact ne_bool (zP I q (congrArg not Xs))
  | str j=>obtain ⟨t',rfl⟩:=ry;exact PySem.EqMixed.ne_bool_str (zP I q (by simp))
  | _=>exact absurd (show false=true from hs) q2x
 | int i =>
  obtain ⟨t,rfl⟩:=rx
  cases y with
  | non=>cases ry;exact PySem.EqNone.ne_int_none (zP I q (by simp))
  | int j=>obtain ⟨t',rfl⟩:=ry;exact ne_int (zP I q (congrArg not Yk))
  | str j=>obtain ⟨t',rfl⟩:=ry;exact PySem.EqMixed.ne_int_str (zP I q (by simp))
  | _=>exact absurd (show false=true from hs) q2x
 | str i =>
  obtain ⟨t,rfl⟩:=rx
  cases y with
  | non=>cases ry;exact PySem.EqNone.ne_str_none (zP I q (by simp))
  | bl j=>cases ry;exact PySem.EqMixed.ne_str_bool (zP I q (by simp))
  | int j=>obtain ⟨t',rfl⟩:=ry;exact PySem.EqMixed.ne_str_int (zP I q (by simp))
  | str j=>obtain ⟨t',rfl⟩:=ry;exact ne_str (zP I q (congrArg not dec_str))
  | _=>exact absurd (show false=true from hs) q2x
 | byt i =>
  obtain ⟨t,rfl⟩:=rx
  cases y with
  | byt j=>obtain ⟨t',rfl⟩:=ry;exact PySem.W.ne_bytes (zP I q (congrArg not dec_byt))
  | _=>exact absurd (show false=true from hs) q2x
 | _=>cases y <;> exact absurd (show false=true from hs) q2x
def Xg:OpR X (compareOp .Lt) (rI0 λi j=>.bl (decide (i<j))):=opB0 λ_ _ _ _ _ _ _ q=>lt_int q
def op_gt:OpR X (compareOp .Gt) (rI0 λi j=>.bl (decide (j<i))):=opB0 λ_ _ _ _ _ _ _ q=>gt_int q
def op_ge:OpR X (compareOp .GtE) (rI0 λi j=>.bl (decide (j<=i))):=opB0 λ_ _ _ _ _ _ _ q=>ge_int q
theorem Xh:OpR X (compareOp .Is) (λx y H Q=>y=.non/\Q (.bl (decide (x=.non))) H):=by
 intro pins s σ H x y v u Q I rx ry h;obtain ⟨rfl,q⟩:=h;cases ry;refine is_none_gen (zP I q ?_);cases x <;> first
  | (cases rx;rfl)
  | (obtain ⟨t,rfl⟩:=rx;rfl)
theorem op_notN:OpR X (compareOp .IsNot) (λx y H Q=>y=.non/\Q (.bl (!decide (x=.non))) H):=by
 intro pins s σ H x y v u Q I rx ry h;obtain ⟨rfl,q⟩:=h;cases ry;refine isnot_none_gen (zP I q ?_);cases x <;> first
  | (cases rx;rfl)
  | (obtain ⟨t,rfl⟩:=rx;rfl)
def zG (b:Expr) {op:CmpOp} (h:op≠.In:=by decide) (h2:op≠.NotIn:=by decide):behindInMarks op b=false:=by
 have e1:(op == CmpOp.In)=false:=by cases op <;> first | rfl | exact absurd rfl h
 have e2:(op == CmpOp.NotIn)=false:=by cases op <;> first | rfl | exact absurd rfl h2
 cases b <;> simp [behindInMarks,e1,e2]
def yV {op:CmpOp} {r:R2} (ho:OpR X (compareOp op) r) (ha:PE X a ta) (hb:PE X b tb) (hm:behindInMarks op b=false):PE X (.Compare a [op] [b] pos) (tOp r ta tb):=by
 intro pins s σ H Q I h;exact wpAny_Compare1 (binT ha hb I h λv u s2 x y H2 I2 rx ry q=>ho pins s2 σ H2 x y v u Q I2 rx ry q) hm
inductive tTest_S (Q:(Bool->Hp->Prop)) (x:V) (H':Hp):Prop
 | mk (k:_) (_:x=.bl k) (_:Q k H')
def tTest (t:TE):TT:=λσ H Q=>t σ H λx H'=>tTest_S Q x H'
def zK {op:CmpOp} {r:R2} (ho:OpR X (compareOp op) r) (ha:PE X a ta) (hb:PE X b tb) (hm:behindInMarks op b=false):PT X (.Compare a [op] [b] pos) (tTest (tOp r ta tb)):=by
 intro pins s σ H Q I h
 refine wpAny_isTrue_Compare1 (thn (ha pins s σ H _ I h) λv s1 ⟨x,H1,I1,r1,q1⟩=>thn (hb pins s1 σ H1 _ I1 q1) λu s2 ⟨y,H2,I2,r2,q2⟩ =>
  thn (ho pins s2 σ H2 x y v u _ I2 r1 r2 q2) λc s3 ⟨z,H3,I3,r3,k,e,q3⟩=>?_) hm
 subst e;cases r3;exact wpAny_truthy_bool ⟨H3,I3,q3⟩
def zav:(sizeLine:Nat)<2 ^ 63:=by rw [sizeLine_eq];decide
theorem vals1 {x:V} {us:Jb} (r:Vals [x] us):∃ u,us=[u]/\RelV x u:=by
 cases r with
 | cons r1 r2=>cases r2;exact ⟨_,rfl,r1⟩
theorem YU {x y:V} {us:Jb} (r:Vals [x,y] us):∃ u w',us=[u,w']/\RelV x u/\RelV y w':=by
 cases r with
 | cons r1 r2 =>
  cases r2 with
  | cons r3 r4=>cases r4;exact ⟨_,_,rfl,r1,r3⟩
def call_max2 (hc:X.calm=true):Zr X (.builtin "max") (λxs H Q=>∃ i j,xs=[.int i,.int j]/\Q (.int (if j > i then j else i)) H):=by
 intro pins s σ H xs us Q I r h;obtain ⟨i,j,rfl,q⟩:=h;obtain ⟨u,w',rfl,⟨t,rfl⟩,⟨t',rfl⟩⟩:=YU r;refine max_two_ints (I.ok.hd hc) λh' tk k=>⟨_,H,I.kept k,?_,q⟩;by_cases hj:j > i
 ·rw [if_pos hj,if_pos hj];exact ⟨_,rfl⟩
 ·rw [if_neg hj,if_neg hj];exact ⟨_,rfl⟩
def X7 (hc:X.calm=true):Zr X (.builtin "min") (λxs H Q=>∃ i j,xs=[.int i,.int j]/\Q (.int (if j<i then j else i)) H):=by
 intro pins s σ H xs us Q I r h;obtain ⟨i,j,rfl,q⟩:=h;obtain ⟨u,w',rfl,⟨t,rfl⟩,⟨t',rfl⟩⟩:=YU r;refine min_two_ints (I.ok.hd hc) λh' tk k=>⟨_,H,I.kept k,?_,q⟩;by_cases hj:j<i
 ·rw [if_pos hj,if_pos hj];exact ⟨_,rfl⟩
 ·rw [if_neg hj,if_neg hj];exact ⟨_,rfl⟩
end
structure ObjM (h:Heap) (x dx C:Ad) (mA:J0):Prop where
 obj:h.get? x=some (PySem.W.instObj C dx)
 ns:h.Ns1 dx mA
 ne:dx≠x
def lookIn_ns {h:Heap} {dx:Ad} {mA:J0} (n:h.Ns1 dx mA):∃ od,h.get? dx=some od/\∀ name,PySem.W.lookIn name od=some (mA name):=by
 obtain ⟨o,es,ep,ho,hd,hk,_,hm⟩:=n;refine ⟨o,ho,λname=>?_⟩;have e:=hm name;unfold nsFind findBy at e;rw [← Array.find?_toList] at e;unfold PySem.W.lookIn;rw [hd];dsimp only
 split
 ·rename_i y q
  rw [q] at e;exact congrArg some e
 ·rename_i q
  rw [q] at e
  have a:es.toList.any (·.refKey)=false:=by
   rw [List.any_eq_false];intro y hy;obtain ⟨z,t,hkey⟩:=hk y (Array.mem_toList_iff.mp hy);simp [DictEntry.refKey,hkey]
  have a':¬ es.toList.any (·.refKey)=true:=by rw [a];exact q2x
  rw [if_neg a'];exact congrArg some e
def ObjM.look {h:Heap} {x dx C:Ad} {mA:J0} (I:ObjM h x dx C mA):∃ od,PySem.W.InstAt h x (PySem.W.instObj C dx) C (some od)/\∀ name,PySem.W.lookIn name od=some (mA name) :=
 let ⟨od,ho,hl⟩:=lookIn_ns I.ns
 ⟨od,⟨I.obj,rfl,rfl,ho⟩,hl⟩
section
variable {prog:Program} {w:World} {A:Around} {E:J5} {s:Sh} {K:Fg} {x dx C f:Ad} {mA:J0} {name:Str} {v:Vl}
def get_map {expr:Bool} {Q:J5} (X:K.In s.heap) (I:ObjM s.heap x dx C mA) (hg:PySem.W.plainGet K C name=true) (hh:PySem.W.hasDictIn K C=true)
  (ha:PySem.W.findIn K (.ref C) name=some none) (hv:mA name=some v) (hv':PySem.W.handedIn v=true) (h:Q v { s with toks:=s.toks+1 }) :
  wpAny (model prog w) A (getAttr (.ref x) name expr) Q E s:=by
 obtain ⟨od,J,hl⟩:=I.look;exact PySem.W.get_value X J (PySem.W.plainGet_of hg).1 (PySem.W.findObj_own hh ha rfl (by rw [hl,hv])) hv' h
def get_meth {pl:Sem Bool} {Q:Vl×Jb->Sh->Prop} (X:K.In s.heap) (I:ObjM s.heap x dx C mA) (hg:PySem.W.plainGet K C name=true)
  (hf:PySem.W.findIn K (.ref C) name=some (some (.ref f))) (ht:PySem.W.isFn K (.ref f)=true) (hv:mA name=none) (h:Q (.ref f,[.ref x]) s) :
  wpAny (model prog w) A (getMethod (.ref x) name pl) Q E s:=by
 obtain ⟨od,J,hl⟩:=I.look;exact PySem.W.method_fn X J (PySem.W.plainGet_of hg).1 (PySem.W.plainGet_of hg).2 hf (beq_iff_eq.mp ht) (by show (PySem.W.lookIn name od).map (·.isSome)=some false;rw [hl,hv];rfl) h
def set_map {ns:Jd} {Q:Unit->Sh->Prop} (X:K.In s.heap) (I:ObjM s.heap x dx C mA)
  (hs:PySem.W.findIn K (.ref C) "__setattr__"=some (some (.builtin "object.__setattr__"))) (hp:PySem.W.plainOver K C=true) (ht:PySem.W.takerIn K C name=some none) (hh:PySem.W.hasDictIn K C=true)
  (hw:PySem.Within mA ns) (hsz:ns.length<=sizeLine)
  (h:∀ h',ObjM h' x dx C (λy=>if y=name then some v else mA y)->Heap.SameBut dx s.heap h'->Q () { s with heap:=h',toks:=s.toks+2 }) :
  wpAny (model prog w) A (setAttr (.ref x) name v) Q E s:=by
 obtain ⟨od,J,hl⟩:=I.look;refine PySem.W.set_plain X J hs (PySem.W.osa_open (s:={ s with toks:=s.toks+1 }) (r:=none) X J hp ht λb=>?_);obtain ⟨cd,hc,hd'⟩:=PySem.W.any_some hh;have hx:s.heap.get? x=some ⟨.ref C,some dx,.plain,#[]⟩:=I.obj;refine q0x (q0y (q0x (q0x (wpAny_loadPart hx (q0x (PySem.W.Looks.here (s:={ s with toks:=s.toks+1 }) (PySem.W.looks_clsIn X hc) ?_))))));rw [hd'];refine q0y (a:=some dx) (q0x (q0y (q0x ?_)));refine wpAny_nsSet1 (s:={ s with toks:=s.toks+1 }) I.ns λh' hn2 hs2=>?_;obtain ⟨oD,esD,epD,hoD,hdD,hcD⟩:=hn2.count (PySem.Within.cons name v hw);refine q0x (wpAny_lookBehind hoD (by rw [hdD];exact pastItsLine_dict (Nat.le_trans hcD (by rw [q3x];omega))) ?_);exact q0y (h _ ⟨(hs2.2 _ (Ne.symm I.ne)).trans I.obj,hn2,I.ne⟩ hs2)
def make_map {R:Result->Sh->Prop} {vs:Jb} {kw:List (Str×Vl)} (X:K.In s.heap) (hm:PySem.W.makesIn K C=true)
  (hi:PySem.W.findIn K (.ref C) "__init__"=some (some (.ref f))) (hf:PySem.W.typeIn K (.ref f)=some (.type "function"))
  (h:codeAny (model prog w) (A.under (.builtin "type.__call__" ⟨.ref C::vs,kw⟩)) (.call (.ref f) ⟨.ref (s.heap.objs.size+1)::vs,kw⟩) (PySem.W.InitBack (s.heap.objs.size+1) R)
   { s with heap:=(s.heap.push PySem.W.emptyDict).push (PySem.W.instObj C s.heap.objs.size) }) :
  codeAny (model prog w) A (.call (.ref C) ⟨vs,kw⟩) R s:=by
 obtain ⟨hh,g,d,t,os⟩:=s;exact PySem.W.make_core (PySem.W.makes_of X hm) (PySem.W.looks_findIn X hi) (λself=>PySem.W.bind_fn X self hf) (.inl rfl) h
end
def zL (f:Str) (v:V):List (Str×V)->List (Str×V)
 | []=>[(f,v)]
 | (g,x)::r=>if g=f then (g,v)::r else (g,x)::zL f v r
theorem YD (f g:Str) (v:V):∀ fs:List (Str×V),(zL f v fs).lookup g=if g=f then some v else fs.lookup g
 | []=>by
  show List.lookup g [(f,v)]=_;by_cases h:g=f
  ·have hb:(g == f)=true:=beq_iff_eq.mpr h
   simp only [List.lookup,hb,if_pos h]
  ·have hb:(g == f)=false:=beq_eq_false_iff_ne.mpr h
   simp only [List.lookup,hb,if_neg h]
 | (k,x)::r=>by
  have ih:=YD f g v r;rw [show zL f v ((k,x)::r)=(if k=f then (k,v)::r else (k,x)::zL f v r) from rfl];by_cases hk:k=f
  ·rw [if_pos hk]
   by_cases h:g=k
   ·have hb:(g == k)=true:=beq_iff_eq.mpr h
    simp only [List.lookup,hb,if_pos (h.trans hk)]
   ·have hb:(g == k)=false:=beq_eq_false_iff_ne.mpr h
    simp only [List.lookup,hb,if_neg (λe:g=f=>h (e.trans hk.symm))]
  ·rw [if_neg hk]
   by_cases h:g=k
   ·have hb:(g == k)=true:=beq_iff_eq.mpr h
    simp only [List.lookup,hb,if_neg (λe:g=f=>hk (h.symm.trans e))]
   ·have hb:(g == k)=false:=beq_eq_false_iff_ne.mpr h
    simp only [List.lookup,hb];exact ih
theorem Yv (f:Str) (v:V):∀ fs:List (Str×V),f∈(zL f v fs).map (·.1)/\∀ g,g∈fs.map (·.1)->g∈(zL f v fs).map (·.1)
 | []=>⟨by simp [zL],λg h=>by simp at h⟩
 | (k,x)::r=>by
  obtain ⟨i1,i2⟩:=Yv f v r;rw [show zL f v ((k,x)::r)=(if k=f then (k,v)::r else (k,x)::zL f v r) from rfl];by_cases hk:k=f
  ·rw [if_pos hk]
   subst hk;exact ⟨by simp,λg h=>by simpa using h⟩
  ·rw [if_neg hk]
   refine ⟨?_,λg h=>?_⟩
   ·rw [List.map_cons]
    exact q1y _ i1
   ·rw [List.map_cons] at h ⊢
    rcases List.mem_cons.mp h with e | e
    ·exact List.mem_cons.mpr (.inl e)
    ·exact q1y _ (i2 g e)
theorem YE (f:Str) (v:V):∀ fs:List (Str×V),(zL f v fs).length<=fs.length+1
 | []=>by simp [zL]
 | (k,x)::r=>by
  have ih:=YE f v r;rw [show zL f v ((k,x)::r)=(if k=f then (k,v)::r else (k,x)::zL f v r) from rfl];by_cases hk:k=f
  ·rw [if_pos hk,q3x,q3x];omega
  ·rw [if_neg hk,q3x,q3x];omega
theorem RelO.some_of {v:V} {o:Jc} (r:RelO (some v) o):∃ u,o=some u/\RelV v u:=by
 cases o with
 | none=>exact (show False from r).elim
 | some u=>exact ⟨u,rfl,r⟩
theorem RelO.none_of {o:Jc} (r:RelO none o):o=none:=by
 cases o with
 | none=>rfl
 | some u=>exact (show False from r).elim
theorem handed_of {v:V} {u:Vl} (r:RelV v u):PySem.W.handedIn u=true:=by
 cases v with
 | non=>cases (show u=Value.none from r);rfl
 | bl b=>cases (show u=Value.bool b from r);rfl
 | int i=>obtain ⟨t,e⟩:=(show ∃ t,u=Value.int i t from r);cases e;rfl
 | str x=>obtain ⟨t,e⟩:=(show ∃ t,u=Value.str x t from r);cases e;rfl
 | byt b=>obtain ⟨t,e⟩:=(show ∃ t,u=Value.bytes b t from r);cases e;rfl
 | flt b=>obtain ⟨t,e⟩:=(show ∃ t,u=Value.float b t from r);cases e;rfl
 | ref a=>cases (show u=Value.ref a from r);rfl
 | ty n=>cases (show u=Value.type n from r);rfl
section
variable {P:Program} {w:World} {H H':Hp} {h h':Heap} {a C dx:Ad} {fs fs':List (Str×V)}
def Yh (hok:HOk P w H h) (e:H a=some (.ins C dx fs)):∃ mA,ObjM h a dx C mA/\(∀ f,RelO (fs.lookup f) (mA f))/\PySem.Within mA (fs.map (·.1))/\fs.length<=1000/\H dx=some (.own a):=by
 obtain ⟨d,z,ne,ob,mA,n,r,q⟩:=(show ObjOk P w H h a (.ins C dx fs) from hok a _ e);exact ⟨mA,⟨ob,n,ne⟩,r,q,z,d⟩
end
structure Cls (K:Fg) (C:Ad):Prop where
 pg:PySem.W.plainGet K C Str.empty=true
 hd:PySem.W.hasDictIn K C=true
 po:PySem.W.plainOver K C=true
 sa:PySem.W.findIn K (.ref C) "__setattr__"=some (some (.builtin "object.__setattr__"))
def Cls.get {K:Fg} {C:Ad} (c:Cls K C) (f:Str):PySem.W.plainGet K C f=true:=c.pg
def NoAttr (K:Fg) (C:Ad) (f:Str):Prop:=PySem.W.findIn K (.ref C) f=some none
def NoAttr.taker {K:Fg} {C:Ad} {f:Str} (n:NoAttr K C f):PySem.W.takerIn K C f=some none:=by
 unfold PySem.W.takerIn;rw [show PySem.W.findIn K (.ref C) f=some none from n];rfl
structure Con (K:Fg) (C:Ad) (f:Str) (v:V) (u:Vl):Prop where
 at_:PySem.W.findIn K (.ref C) f=some (some u)
 rel:RelV v u
 get:PySem.W.specialIn K u "__get__"=some none
 cp:PySem.W.copiedNames.contains f=false
structure Meth (K:Fg) (C:Ad) (m:Str) (f:Ad):Prop where
 at_:PySem.W.findIn K (.ref C) m=some (some (.ref f))
 fn:PySem.W.isFn K (.ref f)=true
 kp:PySem.W.keepIn K (.ref f)=true
section
variable {X:Cx} {pins:Ja} {σ:St} {H:Hp} {s:Sh} {a C dx:Ad} {fs:List (Str×V)} {f:Str} {v:V} {A:Around} {E:J5}
def zcq {b:Bool} {Q:J5} (I:Inv X pins σ H s) (e:H a=some (.ins C dx fs)) (c:Cls X.K C) (n:NoAttr X.K C f) (l:fs.lookup f=some v)
  (h:∀ u s',Inv X pins σ H s'->RelV v u->Q u s'):wpAny (model X.prog X.w) A (getAttr (.ref a) f b) Q E s:=by
 obtain ⟨mA,O,r,_,_,_⟩:=Yh I.hok e;obtain ⟨u,hu,ru⟩:=RelO.some_of (v:=v) (o:=mA f) (by rw [← l];exact r f);exact get_map I.kIn O (c.get f) c.hd n hu (handed_of ru) (h u _ (I.tok _) ru)
def Xo {m:Str} {g:Ad} {pl:Sem Bool} {Q:Vl×Jb->Sh->Prop} (I:Inv X pins σ H s) (e:H a=some (.ins C dx fs)) (c:Cls X.K C) (k:Meth X.K C m g) (l:fs.lookup m=none)
  (h:Q (.ref g,[.ref a]) s):wpAny (model X.prog X.w) A (getMethod (.ref a) m pl) Q E s:=by
 obtain ⟨mA,O,r,_,_,_⟩:=Yh I.hok e;have hn:mA m=none:=RelO.none_of (by rw [← l];exact r m);exact get_meth I.kIn O (c.get m) k.at_ k.fn hn h
def zb6 {y:V} {u:Vl} {Q:Unit->Sh->Prop} (I:Inv X pins σ H s) (e:H a=some (.ins C dx fs)) (c:Cls X.K C) (n:NoAttr X.K C f) (hl:fs.length<1000) (ry:RelV y u)
  (h:∀ s',Inv X pins σ (upd H a (.ins C dx (zL f y fs))) s'->Q () s'):wpAny (model X.prog X.w) A (setAttr (.ref a) f u) Q E s:=by
 obtain ⟨mA,O,r,wi,_,ho⟩:=Yh I.hok e;have hz:(fs.map (·.1)).length<=sizeLine:=by rw [Jg,sizeLine_eq];omega
 refine set_map I.kIn O c.sa c.po n.taker c.hd wi hz λh' O' sb=>h _ ?_;have hd:∃ o,h'.get? dx=some o:=let ⟨o,_,_,e',_⟩:=O'.ns;⟨o,e'⟩;refine I.write (x:=a) (e:=dx) (by rw [e];exact True.intro) (.inr ho) (λb q hb z=>(sb.2 b hb).trans z) hd ?_;refine ⟨by rw [zj O.ne];exact ho,?_,O.ne,O'.obj,_,O'.ns,λg=>?_,λg hg=>?_⟩
 ·have:=YE f y fs;omega
 ·show RelO ((zL f y fs).lookup g) (if g=f then some u else mA g)
  rw [YD];by_cases q:g=f
  ·rw [if_pos q,if_pos q];exact ry
  ·rw [if_neg q,if_neg q];exact r g
 ·by_cases q:g=f
  ·rw [q];exact (Yv f y fs).1
  ·refine (Yv f y fs).2 g (wi g λz=>hg ?_)
   show (if g=f then some u else mA g)=none;rw [if_neg q];exact z
def Inv.made (I:Inv X pins σ H s):Inv X pins σ (upd (upd H s.heap.objs.size (.own (s.heap.objs.size+1))) (s.heap.objs.size+1) (.ins C s.heap.objs.size []))
  { s with heap:=(s.heap.push PySem.W.emptyDict).push (PySem.W.instObj C s.heap.objs.size) }:=by
 have e1:(s.heap.push PySem.W.emptyDict).get? s.heap.objs.size=some PySem.W.emptyDict:=Heap.get?_push_size s.heap rfl
 have e2:((s.heap.push PySem.W.emptyDict).push (PySem.W.instObj C s.heap.objs.size)).get? (s.heap.objs.size+1)=some (PySem.W.instObj C s.heap.objs.size):=by
  have:=Heap.get?_push_size (s.heap.push PySem.W.emptyDict) (o:=PySem.W.instObj C s.heap.objs.size) rfl
  rwa [Heap.size_push] at this
 have e3:(s.heap.push PySem.W.emptyDict).Ns s.heap.objs.size (λ_=>none):=⟨PySem.W.emptyDict,#[],_,e1,rfl,(λe he=>absurd he (by simp)),λ_=>rfl⟩;have I1:=I.laid (a:=s.heap.objs.size) (o:=.own (s.heap.objs.size+1)) (h':=s.heap.push PySem.W.emptyDict) (t':=s.toks) (λb u q=>Heap.get?_push_of_some _ q) (Nat.le_refl _) ⟨_,e1⟩;refine I1.laid (a:=s.heap.objs.size+1) (o:=.ins C s.heap.objs.size []) (t':=s.toks) (λb u q=>Heap.get?_push_of_some _ q) (Nat.le_of_eq (Heap.size_push _ _)) ?_;have ne:s.heap.objs.size≠s.heap.objs.size+1:=Nat.ne_of_lt (Nat.lt_succ_self _);refine ⟨by rw [zj ne,zh],Nat.zero_le _,ne,e2,λ_=>none,(Heap.Ns1.of_empty e3).at λo q=>Heap.get?_push_of_some _ q,λ_=>True.intro,λy hy=>absurd rfl hy⟩
def attr_of {prog:Program} {w:World} {env:Env} {e:Expr} {f:Str} {pos:Pos} {s:Sh} {Q:J5} (hb:attributeBase e f env (eval e env)=eval e env)
  (h:wpAny (model prog w) A (eval e env) (λo s₁=>wpAny (model prog w) A (getAttr o f true) Q E s₁) E s):wpAny (model prog w) A (eval (.Attribute e f pos) env) Q E s :=
 Attribute_any_ h (by rw [arm_eval_Attribute,hb])
end
inductive tFld_S (K:Fg) (f:Str) (Q:VK) (x:V) (H1:Hp):Prop
 | mk (a C:_) (dx fs v:_) (_:x=.ref a) (_:H1 a=some (.ins C dx fs)) (_:Cls K C) (_:NoAttr K C f) (_:fs.lookup f=some v) (_:Q v H1)
def tFld (K:Fg) (ta:TE) (f:Str):TE:=λσ H Q=>ta σ H λx H1=>tFld_S K f Q x H1
inductive sFld_S (K:Fg) (f:Str) (D:Ends) (σ:St) (y x:V) (H2:Hp):Prop
 | mk (a C:_) (dx fs:_) (_:x=.ref a) (_:H2 a=some (.ins C dx fs)) (_:Cls K C) (_:NoAttr K C f) (_:fs.length<1000) (_:D.nx σ (upd H2 a (.ins C dx (zL f y fs))))
def sFld (K:Fg) (ta tv:TE) (f:Str):TS:=λD σ H=>tv σ H λy H1=>ta σ H1 λx H2=>sFld_S K f D σ y x H2
section
variable {X:Cx} {o e value:Expr} {f:Str} {pos pos' tpos:Pos} {ta tv:TE}
def zu (he:PE X e ta) (hb:attributeBase e f X.env (eval e X.env)=eval e X.env):PE X (.Attribute e f pos) (tFld X.K ta f):=by
 intro pins s σ H Q I h;refine attr_of hb (thn (he pins s σ H _ I h) λu s1 ⟨x,H1,I1,rx,a,C,dx,fs,v,ex,ea,c,n,l,q⟩=>?_);subst ex;obtain rfl:u=Value.ref a:=rx;exact zcq I1 ea c n l λu' s2 I2 ru=>⟨v,H1,I2,ru,q⟩
def zF (ha:PE X o ta) (hv:PE X value tv) (hs:swapsWith value (some (.Attribute o f pos')) pos.line X.env=pure false):PS X (.Assign [.Attribute o f pos'] value pos) (sFld X.K ta tv f):=by
 intro pins s σ H D I h;refine plainObj_wpAny_Assign_Attribute (thn (hv pins s σ H _ I h) λu s1 ⟨y,H1,I1,ry,q⟩=>thn (ha pins s1 σ H1 _ I1 q) λov s2 ⟨x,H2,I2,rx,a,C,dx,fs,ex,ea,c,n,l,q2⟩=>?_) hs;subst ex;obtain rfl:ov=Value.ref a:=rx;exact zb6 I2 ea c n l ry λs3 I3=>⟨σ,_,I3,q2⟩
end
section
variable {X:Cx} {pins:Ja} {σ:St} {H:Hp} {s:Sh} {A:Around} {E:J5} {Q:J5} {c:Vl} {b:Bool}
inductive TyOf (K:Fg) (H:Hp):V->Vl->Prop where
 | non:TyOf K H .non (.type "NoneType")
 | bl (x:Bool):TyOf K H (.bl x) (.type "bool")
 | int (i:Int):TyOf K H (.int i) (.type "int")
 | str (x:Str):TyOf K H (.str x) (.type "str")
 | flt (x:UInt64):TyOf K H (.flt x) (.type "float")
 | lst {a:Ad} {xs:Jl} (e:H a=some (.lst xs)):TyOf K H (.ref a) (.type "list")
 | frz {a:Ad} {o:Obj} {xs:Jl} (e:H a=some (.frz o (.lst xs))):TyOf K H (.ref a) (.type "list")
 | tup {a:Ad} {xs:Jl} (e:H a=some (.tup xs)):TyOf K H (.ref a) (.type "tuple")
 | dK {a:Ad} {kvs:Jj} (e:H a=some (.dK kvs)):TyOf K H (.ref a) (.type "dict")
 | dT {a:Ad} {kvs:List (List Key×V)} (e:H a=some (.dT kvs)):TyOf K H (.ref a) (.type "dict")
 | ins {a C dx:Ad} {fs:List (Str×V)} (e:H a=some (.ins C dx fs)) (cl:Cls K C) (ha:PySem.W.findIn K (.ref C) "__class__"=some (some (.builtin "object.__class__")))
   (hn:PySem.W.specialIn K (.builtin "object.__class__") "__get__"=some (some (.builtin "getset_descriptor.__get__"))) (htk:PySem.W.takesIn K (.builtin "object.__class__")=some true)
   (hm:PySem.W.mroIn K C (.type "object")=some true):TyOf K H (.ref a) (.ref C)
theorem isinst_ok {x:V} {u t:Vl} (I:Inv X pins σ H s) (rx:RelV x u) (ty:TyOf X.K H x t) (e:PySem.W.kitOne X.K t c=some b) (h:∀ tk,Q (.bool b) { s with toks:=tk }) :
  wpAny (model X.prog X.w) A (call (.builtin "isinstance") [u,c]) Q E s:=by
 cases ty with
 | non=>cases (show u=Value.none from rx);exact PySem.W.kia_one PySem.W.kitx_none I.kIn True.intro e (λz=>nomatch z) h
 | bl y=>cases (show u=Value.bool y from rx);exact PySem.W.kia_one PySem.W.kitx_bool I.kIn True.intro e (λz=>nomatch z) h
 | int i=>obtain ⟨t,q⟩:=(show ∃ t,u=Value.int i t from rx);cases q;exact PySem.W.kia_one PySem.W.kitx_int I.kIn True.intro e (λz=>nomatch z) h
 | str y=>obtain ⟨t,q⟩:=(show ∃ t,u=Value.str y t from rx);cases q;exact PySem.W.kia_one PySem.W.kitx_str I.kIn True.intro e (λz=>nomatch z) h
 | flt y=>obtain ⟨t,q⟩:=(show ∃ t,u=Value.float y t from rx);cases q;exact PySem.W.kia_one PySem.W.kitx_float I.kIn True.intro e (λz=>nomatch z) h
 | @lst a xs ea =>
  cases (show u=Value.ref a from rx);obtain ⟨_,_,n,_,h1⟩:=(show ObjOk X.prog X.w H s.heap a (.lst xs) from I.hok a _ ea);exact PySem.W.kia_one PySem.W.kitx_list I.kIn ⟨_,h1,rfl⟩ e (λz=>nomatch z) h
 | @frz a ob xs ea =>
  cases (show u=Value.ref a from rx);obtain ⟨_,_,_,n,_,h1⟩:=(show ObjOk X.prog X.w H s.heap a (.frz ob (.lst xs)) from I.hok a _ ea);exact PySem.W.kia_one PySem.W.kitx_list I.kIn ⟨_,h1,rfl⟩ e (λz=>nomatch z) h
 | @tup a xs ea =>
  cases (show u=Value.ref a from rx);obtain ⟨_,_,_,p⟩:=(show ObjOk X.prog X.w H s.heap a (.tup xs) from I.hok a _ ea);obtain ⟨o,h1,h2,_⟩:=p;exact PySem.W.kia_one PySem.W.kitx_tuple I.kIn ⟨o,h1,h2⟩ e (λz=>nomatch z) h
 | @dK a kvs ea =>
  cases (show u=Value.ref a from rx);obtain ⟨_,_,vs,_,p⟩:=(show ObjOk X.prog X.w H s.heap a (.dK kvs) from I.hok a _ ea);obtain ⟨o,es,ep,h1,h2,_⟩:=p;exact PySem.W.kia_one PySem.W.kitx_dict I.kIn ⟨o,h1,h2.1⟩ e (λz=>nomatch z) h
 | @dT a kvs ea =>
  cases (show u=Value.ref a from rx);obtain ⟨_,_,xs,_,o,es,ep,h1,h2,_⟩:=(show ObjOk X.prog X.w H s.heap a (.dT kvs) from I.hok a _ ea);exact PySem.W.kia_one PySem.W.kitx_dict I.kIn ⟨o,h1,h2.1⟩ e (λz=>nomatch z) h
 | @ins a C dx fs ea cl ha hn htk hm =>
  cases (show u=Value.ref a from rx);obtain ⟨mA,O,_⟩:=Yh I.hok ea;obtain ⟨od,J,_⟩:=O.look;exact PySem.W.kia_one (PySem.W.kitx_own (cl.get _) cl.hd ha hn htk hm) I.kIn J e (λz=>nomatch z) h
end
structure Room (k:Nat) (A:Around):Prop where
 hd:A.handled=none
 dp:A.depth+3*k+5<recursionLimit
 un:A.units+16*k+200<cLine
def Room.mono {j k:Nat} {A:Around} (r:Room k A) (h:j<=k):Room j A:=⟨r.hd,by have:=r.dp;omega,by have:=r.un;omega⟩
def Room.deeper {k:Nat} {A:Around} (r:Room (k+1) A) (env:Env):Room k (A.deeper env) :=
 ⟨r.hd,by have:=r.dp;show A.depth+1+3*k+5<_;omega,by have:=r.un;show A.units+3+16*k+200<_;omega⟩
def zco {A:Around} {C:Ad} {us:Jb} {kw:List (Str×Vl)}:(A.under (.builtin "type.__call__" ⟨.ref C::us,kw⟩)).depth=A.depth+1:=by
 first | rfl | simp [Around.under,Code.weight,Code.isCreation,Code.isGuard,Code.isCaller,Code.frames,Code.isFrame,guardIds]
def zcn {A:Around} {C:Ad} {us:Jb} {kw:List (Str×Vl)}:(A.under (.builtin "type.__call__" ⟨.ref C::us,kw⟩)).units=A.units+1:=by
 first | rfl | simp [Around.under,Code.cUnits,Code.frames,Code.isFrame]
def Room.make {k:Nat} {A:Around} (r:Room (k+1) A) (C:Ad) (us:Jb) (kw:List (Str×Vl)):Room k (A.under (.builtin "type.__call__" ⟨.ref C::us,kw⟩)) :=
 ⟨r.hd,by have:=r.dp;rw [zco];omega,by have:=r.un;rw [zcn];omega⟩
def Room.depth {k:Nat} {A:Around} (r:Room k A):A.depth<recursionLimit:=by have:=r.dp;omega
def Room.units {k:Nat} {A:Around} (r:Room k A):A.units+64<cLine:=by have:=r.un;omega
def tNil:TA:=λ_ H Q=>Q [] H
def YW (ta:TE) (tr:TA):TA:=λσ H Q=>ta σ H λx H1=>tr σ H1 λxs H2=>Q (x::xs) H2
section
variable {X:Cx} {e:Expr} {es:Jf} {te:TE} {t:TA} {pos:Pos}
def ze:PA X [] tNil:=λ_ _ _ _ H Q I h=>Calls.spliced_nil ⟨[],H,I,.nil,h⟩
def zb (ha:PE X e te) (hr:PA X es t) (hs:starEach (e::es) X.env=(false,eval e X.env)::starEach es X.env:=by rfl):PA X (e::es) (YW te t):=by
 intro pos pins s σ H Q I h;rw [hs];show wpAny _ _ (spliced ((false,eval e X.env)::backTo pos (starEach es X.env))) _ _ s;refine Calls.spliced_cons (thn (ha pins s σ H _ I h) λu s1 ⟨x,H1,I1,r1,q1⟩=>?_);exact thn (hr pos pins s1 σ H1 _ I1 q1) λus s2 ⟨xs,H2,I2,r2,q2⟩=>⟨x::xs,H2,I2,.cons r1 r2,q2⟩
def tTup (t:TA):TE:=λσ H Q=>t σ H λxs H1=>xs.length<=sizeLine/\∀ p,H1 p=none->Q (.ref p) (upd H1 p (.tup xs))
def tLst (t:TA):TE:=λσ H Q=>t σ H λxs H1=>xs.length<=sizeLine/\∀ p,H1 p=none->Q (.ref p) (upd H1 p (.lst xs))
def zM {x1} (h:PA X es t):PE X (.Tuple es x1 pos) (tTup t):=by
 intro pins s σ H Q I hq;refine wpAny_Tuple_spliced (thn (h pos pins s σ H _ I hq) λus s1 ⟨xs,H1,I1,r,z,q⟩=>⟨by rw [← r.length];exact z,?_⟩);have hf:H1 s1.heap.objs.size=none:=I1.hok.fresh (Nat.le_refl _);refine ⟨.ref s1.heap.objs.size,upd H1 s1.heap.objs.size (.tup xs),I1.laid (t':=s1.toks) (λb u e=>Heap.get?_push_of_some _ e) (Nat.le_refl _) ?_,rfl,q _ hf⟩;exact ⟨z,us,r,⟨_,Heap.get?_push_size _ rfl,rfl,_,rfl⟩⟩
def yk (h:PA X es t):PE X (.List es pos) (tLst t):=by
 intro pins s σ H Q I hq;refine wpAny_List_spliced (thn (h pos pins s σ H _ I hq) λus s1 ⟨xs,H1,I1,r,z,q⟩=>⟨by rw [← r.length];exact z,?_⟩);have hf:H1 s1.heap.objs.size=none:=I1.hok.fresh (Nat.le_refl _);refine ⟨.ref s1.heap.objs.size,upd H1 s1.heap.objs.size (.lst xs),I1.laid (t':=s1.toks) (λb u e=>Heap.get?_push_of_some _ e) (Nat.le_refl _) ?_,rfl,q _ hf⟩;exact ⟨z,us,0,r,Heap.get?_push_size _ rfl⟩
end
abbrev Sp:=Jl->Hp->VK->XK->Prop
abbrev CXT:=List Env->Hp->Sh->XK->J5
structure Env0 (P:Program) (w:World) (K:Fg) (mg:J0) (base:Heap) (A:Around) (outer:List Env) (s:Sh) (H:Hp):Prop where
 frames:A.frames=some outer
 mod:Mod K mg base
 bs:∀ b o,base.get? b=some o->s.heap.get? b=some o/\H b=none
 bsz:base.objs.size<=s.heap.objs.size
 funs:s.heap.FunFrames base outer
 frf:∀ b∈frs outer,H b=none
 hok:HOk P w H s.heap
 bare:AllBare s.gens
def CE (outer:List Env) (P:Program) (w:World) (H:Hp) (s:Sh) (Q:VK) (u:Vl) (s':Sh):Prop :=
 ∃ v H',s'.os=s.os/\AllBare s'.gens/\Un (frs outer) [] H H' s.heap s'.heap/\HOk P w H' s'.heap/\RelV v u/\Q v H'
def CR (CX:CXT) (outer:List Env) (P:Program) (w:World) (H:Hp) (s:Sh) (Q:VK) (E:XK) (r:Result) (s':Sh):Prop :=
 match r with
 | .ok (.ret u)=>CE outer P w H s Q u s'
 | .ok _=>False
 | .error e=>CX outer H s E e s'
structure FnOk (P:Program) (w:World) (K:Fg) (mg:J0) (base:Heap) (CX:CXT) (k:Nat) (f:Ad) (fd:FuncData) (ps:Jd) (sp:Sp):Prop where
 len:∀ vs H Q E,sp vs H Q E->vs.length=ps.length
 run:∀ (A:Around) (outer:List Env) (s:Sh) (H:Hp) (args:Args) (us:Jb) (vs:Jl) (Q:VK) (E:XK),Room k A->Env0 P w K mg base A outer s H->BindsTo s fd args (ps.zip us)->Vals vs us->sp vs H Q E ->
  codeAny (model P w) A (.call (.ref f) args) (CR CX outer P w H s Q E) s
def FnOk.mono {P:Program} {w:World} {K:Fg} {mg:J0} {base:Heap} {CX:CXT} {j k:Nat} {f:Ad} {fd:FuncData} {ps:Jd} {sp:Sp} (F:FnOk P w K mg base CX j f fd ps sp) (h:j<=k) :
  FnOk P w K mg base CX k f fd ps sp:=⟨F.len,λA outer s H args us vs Q E hr=>F.run A outer s H args us vs Q E (hr.mono h)⟩
def Env0.make {P:Program} {w:World} {K:Fg} {mg:J0} {base:Heap} {A:Around} {outer:List Env} {s:Sh} {H:Hp} (e:Env0 P w K mg base A outer s H) (C:Ad) (us:Jb) (kw:List (Str×Vl)) :
  Env0 P w K mg base (A.under (.builtin "type.__call__" ⟨.ref C::us,kw⟩)) outer s H:=⟨by first | exact e.frames | (simpa [Around.under,Code.envs,Code.isFrame,pushEnvs] using e.frames),e.mod,e.bs,e.bsz,e.funs,e.frf,e.hok,e.bare⟩
section
variable {X:Cx} {pins:Ja} {σ:St} {H:Hp} {s s':Sh}
def Inv.env0 (I:Inv X pins σ H s):Env0 X.prog X.w X.K X.mg X.base X.A X.stack s H :=
 ⟨I.ok.frames,I.ok.mod,I.bs,Nat.le_trans I.ok.bsz I.sz,I.stack,I.stkFree,I.hok,I.bare⟩
def Inv.after {Q:VK} {u:Vl} (I:Inv X pins σ H s) (h:CE X.stack X.prog X.w H s Q u s'):EP X pins σ Q u s':=by
 obtain ⟨v,H',os,bare,un,hok,r,q⟩:=h;obtain ⟨hh,g,d,t,os'⟩:=s';obtain rfl:os'=s.os:=os;exact ⟨v,H',I.call (h':=hh) (g':=g) (d':=d) (t':=t) (ch:=[]) un hok bare (λb z=>absurd z (by simp)),r,q⟩
end
def tCall (sp:Sp) (dvs:Jl) (E:XK) (t:TA):TE:=λσ H Q=>t σ H λvs H1=>sp (vs++dvs) H1 Q E
inductive tMeth_S (C:Ad) (m:Str) (sp:Sp) (dvs:Jl) (E:XK) (t:TA) (σ:St) (Q:VK) (x:V) (H1:Hp):Prop
 | mk (a dx fs:_) (_:x=.ref a) (_:H1 a=some (.ins C dx fs)) (_:fs.lookup m=none) (_:t σ H1 λvs H2=>sp (x::(vs++dvs)) H2 Q E)
def tMeth (C:Ad) (m:Str) (sp:Sp) (dvs:Jl) (E:XK) (ta:TE) (t:TA):TE:=λσ H Q=>ta σ H λx H1=>tMeth_S C m sp dvs E t σ Q x H1
def tMake (C:Ad) (sp:Sp) (dvs:Jl) (E:XK) (t:TA):TE:=λσ H Q=>t σ H λvs H1=>∀ x dx,H1 x=none->H1 dx=none->dx≠x ->
 sp (.ref x::(vs++dvs)) (upd (upd H1 dx (.own x)) x (.ins C dx [])) (λv H2=>v=.non/\Q (.ref x) H2) E
def Binds (K:Fg) (fd:FuncData) (ps:Jd) (ds:Jb):Prop :=
 ∀ (s:Sh) (us:Jb),K.In s.heap->(us++ds).length=ps.length->BindsTo s fd ⟨us,[]⟩ (ps.zip (us++ds))
def Binds.all {K:Fg} {fd:FuncData} {ps:Jd} (h:∀ us:Jb,us.length=ps.length->bindArgs fd ⟨us,[]⟩=pure (ps.zip us)):Binds K fd ps []:=λs us _ hl=>by
 rw [q3y] at hl ⊢;exact .of_eq (h us hl)
def xo (CX:CXT) (X:Cx) (E:XK):Prop:=∀ (pins:Ja) (σ:St) (H:Hp) (s:Sh) (e:Vl) (s':Sh),Inv X pins σ H s->CX X.stack H s E e s'->X.xe e s'
section
variable {X:Cx} {CX:CXT} {k:Nat} {f C:Ad} {fd:FuncData} {ps:Jd} {sp:Sp} {dvs:Jl} {ds:Jb} {E:XK} {x m:Str} {p pos apos:Pos} {e o:Expr} {es:Jf} {ta:TE} {t:TA}
theorem zan {pins:Ja} {σ:St} {H:Hp} {s:Sh} {Q:VK} {us:Jb} {vs:Jl} (F:FnOk X.prog X.w X.K X.mg X.base CX k f fd ps sp) (hr:Room k X.A) (hb:Binds X.K fd ps ds) (hd:Vals dvs ds) (hx:xo CX X E)
  (I:Inv X pins σ H s) (r:Vals vs us) (h:sp (vs++dvs) H Q E):wpAny (model X.prog X.w) X.A (call (.ref f) us) (EP X pins σ Q) X.xe s:=by
 have r2:Vals (vs++dvs) (us++ds):=r.append hd;have hl:(us++ds).length=ps.length:=by rw [← r2.length];exact F.len _ _ _ _ h
 refine wpAny_call (codeAny_mono (F.run X.A X.stack s H ⟨us,[]⟩ (us++ds) (vs++dvs) Q E hr I.env0 (hb s us I.kIn hl) r2 h) λr s' hq=>?_)
 cases r with
 | error e=>exact hx pins σ H s e s' I hq
 | ok fl =>
  cases fl with
  | ret u=>exact I.after hq
  | next=>exact False.elim hq
  | brk=>exact False.elim hq
  | cont=>exact False.elim hq
def pe_call (F:FnOk X.prog X.w X.K X.mg X.base CX k f fd ps sp) (hr:Room k X.A) (hg:Gl X x) (hm:X.mg x=some (.ref f)) (hk:PySem.W.keepIn X.K (.ref f)=true) (hb:Binds X.K fd ps ds) (hd:Vals dvs ds) (hx:xo CX X E)
  (ha:PA X (e::es) t) (hdb:(x == ("__debug__":Str))=false:=by decide) (he:starEach (e::es) X.env=(false,eval e X.env)::starEach es X.env:=by rfl) (hpl:(backTo pos (starEach es X.env)).any (·.1)=false:=by rfl) :
  PE X (.Call (.Name x p) (e::es) [] pos) (tCall sp dvs E t):=by
 intro pins s σ H Q I h;refine wpAny_Call_Name_kw (ZG I hg hm ?_ hdb);refine PySem.W.callWith_K (h₀:=X.base) I.ok.mod.kin hk (thn (ha pos pins s σ H _ I h) λus s1 ⟨vs,H1,I1,r,q⟩=>⟨I1.kIn,?_⟩) he hpl;exact zan F hr hb hd hx I1 r q
def pe_meth {pl:Sem Bool} (he:PE X o ta) (c:Cls X.K C) (hm:Meth X.K C m f) (F:FnOk X.prog X.w X.K X.mg X.base CX k f fd ps sp) (hr:Room k X.A) (hb:Binds X.K fd ps ds) (hd:Vals dvs ds) (hx:xo CX X E) (ha:PA X (e::es) t)
  (hst:starEach (e::es) X.env=(false,eval e X.env)::starEach es X.env:=by rfl) (hpl:(backTo pos (starEach es X.env)).any (·.1)=false:=by rfl)
  (ht:eval (.Call (.Attribute o m apos) (e::es) [] pos) X.env=(do
   let ov ← eval o X.env
   standAt apos.atName
   let (f,first) ← holding [ov] (getMethod ov m pl)
   callWith pos f first (backTo pos (starEach (e::es) X.env)) (backToKw pos (keywordEach [] X.env))):=by rfl) :
  PE X (.Call (.Attribute o m apos) (e::es) [] pos) (tMeth C m sp dvs E ta t):=by
 intro pins s σ H Q I h;refine PySem.W.methodCall_KW (pl:=pl) (thn (he pins s σ H _ I h) λu s1 ⟨x,H1,I1,rx,a,dx,fs,ex,ea,l,q⟩=>?_) ht;subst ex;obtain rfl:u=Value.ref a:=rx;refine Xo I1 ea c hm l ?_;refine PySem.W.callWith_K (first:=[.ref a]) (h₀:=X.base) I.ok.mod.kin hm.kp (thn (ha pos pins s1 σ H1 _ I1 q) λus s2 ⟨vs,H2,I2,r,q2⟩=>⟨I2.kIn,?_⟩) hst hpl;exact zan (us:=.ref a::us) (vs:=.ref a::vs) F hr hb hd hx I2 (.cons rfl r) q2
def pe_meth0 {pl:Sem Bool} (he:PE X o ta) (c:Cls X.K C) (hm:Meth X.K C m f) (F:FnOk X.prog X.w X.K X.mg X.base CX k f fd ps sp) (hr:Room k X.A) (hb:Binds X.K fd ps ds) (hd:Vals dvs ds) (hx:xo CX X E)
  (ht:eval (.Call (.Attribute o m apos) [] [] pos) X.env=(do
   let ov ← eval o X.env
   standAt apos.atName
   let (f,first) ← holding [ov] (getMethod ov m pl)
   callWith pos f first (backTo pos (starEach [] X.env)) (backToKw pos (keywordEach [] X.env))):=by rfl) :
  PE X (.Call (.Attribute o m apos) [] [] pos) (tMeth C m sp dvs E ta tNil):=by
 intro pins s σ H Q I h;refine PySem.W.methodCall_KW (pl:=pl) (thn (he pins s σ H _ I h) λu s1 ⟨x,H1,I1,rx,a,dx,fs,ex,ea,l,q⟩=>?_) ht;subst ex;obtain rfl:u=Value.ref a:=rx;refine Xo I1 ea c hm l ?_;exact PySem.W.callWith_K0 (first:=[.ref a]) I1.kIn hm.kp (zan (us:=[.ref a]) (vs:=[.ref a]) F hr hb hd hx I1 (.cons rfl .nil) q)
structure Mk (K:Fg) (C f:Ad):Prop where
 makes:PySem.W.makesIn K C=true
 init:PySem.W.findIn K (.ref C) "__init__"=some (some (.ref f))
 fn:PySem.W.isFn K (.ref f)=true
 kp:PySem.W.keepIn K (.ref C)=true
theorem run_make {pins:Ja} {σ:St} {H:Hp} {s:Sh} {Q:VK} {us:Jb} {vs:Jl} (M:Mk X.K C f) (F:FnOk X.prog X.w X.K X.mg X.base CX k f fd ps sp) (hr:Room (k+1) X.A) (hb:Binds X.K fd ps ds) (hd:Vals dvs ds)
  (hx:xo CX X E) (I:Inv X pins σ H s) (r:Vals vs us)
  (h:∀ x dx,H x=none->H dx=none->dx≠x->sp (.ref x::(vs++dvs)) (upd (upd H dx (.own x)) x (.ins C dx [])) (λv H2=>v=.non/\Q (.ref x) H2) E) :
  wpAny (model X.prog X.w) X.A (call (.ref C) us) (EP X pins σ Q) X.xe s:=by
 have hq:=h (s.heap.objs.size+1) s.heap.objs.size (I.hok.fresh (Nat.le_succ _)) (I.hok.fresh (Nat.le_refl _)) (Nat.ne_of_lt (Nat.lt_succ_self _));have I2:=Inv.made (C:=C) I;have r2:Vals (V.ref (s.heap.objs.size+1)::(vs++dvs)) (Value.ref (s.heap.objs.size+1)::(us++ds)):=.cons rfl (r.append hd)
 have hl:(Value.ref (s.heap.objs.size+1)::us++ds).length=ps.length:=by
  have e:=r2.length;rw [F.len _ _ _ _ hq] at e;exact e.symm
 refine wpAny_call (make_map (f:=f) I.kIn M.makes M.init (beq_iff_eq.mp M.fn) (codeAny_mono (F.run _ X.stack _ _ ⟨Value.ref (s.heap.objs.size+1)::us,[]⟩ (Value.ref (s.heap.objs.size+1)::(us++ds)) _ _ E (hr.make C us [])
  (I2.env0.make C us []) (hb _ (Value.ref (s.heap.objs.size+1)::us) I2.kIn hl) r2 hq) λr s' hq'=>?_))
 cases r with
 | error e=>exact hx pins σ _ _ e s' I2 hq'
 | ok fl =>
  cases fl with
  | ret u =>
   obtain ⟨v,H',I3,rv,ev,q3⟩:=I2.after hq';subst ev;exact ⟨rv,⟨V.ref (s.heap.objs.size+1),H',I3,rfl,q3⟩⟩
  | next=>exact False.elim hq'
  | brk=>exact False.elim hq'
  | cont=>exact False.elim hq'
def pe_make (M:Mk X.K C f) (F:FnOk X.prog X.w X.K X.mg X.base CX k f fd ps sp) (hr:Room (k+1) X.A) (hg:Gl X x) (hm:X.mg x=some (.ref C)) (hb:Binds X.K fd ps ds) (hd:Vals dvs ds) (hx:xo CX X E)
  (ha:PA X (e::es) t) (hdb:(x == ("__debug__":Str))=false:=by decide) (he:starEach (e::es) X.env=(false,eval e X.env)::starEach es X.env:=by rfl) (hpl:(backTo pos (starEach es X.env)).any (·.1)=false:=by rfl) :
  PE X (.Call (.Name x p) (e::es) [] pos) (tMake C sp dvs E t):=by
 intro pins s σ H Q I h;refine wpAny_Call_Name_kw (ZG I hg hm ?_ hdb);refine PySem.W.callWith_K (h₀:=X.base) I.ok.mod.kin M.kp (thn (ha pos pins s σ H _ I h) λus s1 ⟨vs,H1,I1,r,q⟩=>⟨I1.kIn,?_⟩) he hpl;exact run_make M F hr hb hd hx I1 r q
end
section
variable {X:Cx} {CX:CXT} {k:Nat} {f C:Ad} {fd:FuncData} {ps ks:Jd} {sp:Sp} {E:XK} {x m:Str} {p pos apos kpos:Pos} {e o:Expr} {es:Jf} {kws:List Keyword} {te ta:TE} {t tk:TA} {nm:Option Str}
structure KBinds (K:Fg) (fd:FuncData) (ps ks:Jd) (g:Jb->Jb->Jb) (gV:Jl->Jl->Jl):Prop where
 to:∀ (s:Sh) (us ws:Jb),K.In s.heap->(g us ws).length=ps.length->BindsTo s fd ⟨us,ks.zip ws⟩ (ps.zip (g us ws))
 rel:∀ {vs:Jl} {us:Jb} {zs:Jl} {ws:Jb},Vals vs us->Vals zs ws->Vals (gV vs zs) (g us ws)
variable {g:Jb->Jb->Jb} {gV:Jl->Jl->Jl}
end
structure FnScope (N P:Jd) (sc:Scope):Prop where
 kind:sc.kind=.function
 co:sc.isCoroutine=false
 gen:sc.isGenerator=false
 nd:N.Nodup
 pre:N.take P.length=P
 par:∀ x∈P,sc.names.lookup x=some .local∨sc.names.lookup x=some .cell
 nofree:∀ y∈sc.names,y.2≠.free
theorem X8 {kindOf:Str->Option NameKind} {x:Str}:∀ {binds:List (Str×Vl)} {m:J0},(∀ v,(x,v) ∉ binds)->bindL kindOf binds m x=m x
 | [],_,_=>rfl
 | (n,v)::r,m,h=>by
  unfold bindL;rw [X8 λw hw=>h w (q1y _ hw)]
  split
  ·have:x≠n:=by rintro rfl;exact h v q1z
   simp [this]
  ·rfl
theorem zaa {kindOf:Str->Option NameKind} {x:Str}:∀ {binds:List (Str×Vl)} {m:J0},(∀ v,(x,v) ∉ binds)->bindC kindOf binds m x=m x
 | [],_,_=>rfl
 | (n,v)::r,m,h=>by
  unfold bindC;rw [zaa λw hw=>h w (q1y _ hw)]
  split
  ·rfl
  ·have:x≠n:=by rintro rfl;exact h v q1z
   simp [this]
theorem X9 {kindOf:Str->Option NameKind} {x:Str} {v:Vl}:∀ {P:Jd} {vs:Jb} {i:Nat} {m:J0},P.Nodup->P[i]?=some x->vs[i]?=some v->kindOf x=some .local ->
  bindL kindOf (P.zip vs) m x=some v
 | [],_,_,_,_,h,_,_=>by simp at h
 | _::_,[],_,_,_,_,h,_=>by simp at h
 | p::P,w::vs,0,m,nd,h1,h2,hk=>by
  simp at h1 h2;subst h1;subst h2;show bindL kindOf ((p,w)::P.zip vs) m p=_;unfold bindL;rw [X8 λv hv=>(List.nodup_cons.mp nd).1 (List.of_mem_zip hv).1,if_pos hk];simp
 | p::P,w::vs,i+1,m,nd,h1,h2,hk=>by
  show bindL kindOf ((p,w)::P.zip vs) m x=_;unfold bindL;exact X9 (i:=i) (List.nodup_cons.mp nd).2 (by simpa using h1) (by simpa using h2) hk
theorem zab {kindOf:Str->Option NameKind} {x:Str} {v:Vl}:∀ {P:Jd} {vs:Jb} {i:Nat} {m:J0},P.Nodup->P[i]?=some x->vs[i]?=some v->kindOf x≠some .local ->
  bindC kindOf (P.zip vs) m x=some v
 | [],_,_,_,_,h,_,_=>by simp at h
 | _::_,[],_,_,_,_,h,_=>by simp at h
 | p::P,w::vs,0,m,nd,h1,h2,hk=>by
  simp at h1 h2;subst h1;subst h2;show bindC kindOf ((p,w)::P.zip vs) m p=_;unfold bindC;rw [zaa λv hv=>(List.nodup_cons.mp nd).1 (List.of_mem_zip hv).1,if_neg hk];simp
 | p::P,w::vs,i+1,m,nd,h1,h2,hk=>by
  show bindC kindOf ((p,w)::P.zip vs) m x=_;unfold bindC;exact zab (i:=i) (List.nodup_cons.mp nd).2 (by simpa using h1) (by simpa using h2) hk
def Z0 (N:Jd) (vs:Jl):St:=vs.map some++List.replicate (N.length-vs.length) none
def ym (CX:CXT) (P:Program) (w:World) (K:Fg) (mg:J0) (base:Heap) (N:Jd) (qual:Str) (scope:Scope) (f:Ad) (cd:Vl) (A:Around) (outer:List Env) (s:Sh) (H:Hp) (E:XK):Cx where
 prog:=P
 w:=w
 K:=K
 mg:=mg
 base:=base
 A:=A.deeper (envOfC qual scope s.heap.objs.size f cd)
 N:=N
 s₀:=s
 H₀:=H
 env:=envOfC qual scope s.heap.objs.size f cd
 outer:=outer
 stack:=envOfC qual scope s.heap.objs.size f cd::outer
 ex:=[]
 calm:=true
 fn:=λ_=>true
 pn:=[]
 xe:=λe s'=>wpAny (model P w) (A.deeper (envOfC qual scope s.heap.objs.size f cd)) (leaving (envOfC qual scope s.heap.objs.size f cd) e) (λ_ s''=>CX outer H s E e s'') (λe' s''=>CX outer H s E e' s'') s'
def zb0 {sc:Scope} {n:Nat} {x:Str} (h:sc.names.lookup x=some .cell):∃ c,(cellsFrom n sc.names []).lookup x=some c:=by
 have q:=PySem.W.cellsFrom_some sc.names n [] (.inl h);exact Option.isSome_iff_exists.mp q
theorem inv_start {CX:CXT} {P:Program} {w:World} {K:Fg} {mg:J0} {base:Heap} {N ps:Jd} {qual:Str} {scope:Scope} {f:Ad} {cd:Vl} {A:Around} {outer:List Env} {s s1:Sh} {H:Hp} {E:XK} {us:Jb} {vs:Jl}
  (S:FnScope N ps scope) (hd:A.handled=none) (e0:Env0 P w K mg base A outer s H) (hl:vs.length=ps.length) (r:Vals vs us)
  (x:InCallC s s.heap.objs.size (bindL (envOfC qual scope s.heap.objs.size f cd).kindOf (ps.zip us) λ_=>none) (cellsFrom (s.heap.objs.size+1) scope.names []) (bindC (envOfC qual scope s.heap.objs.size f cd).kindOf (ps.zip us) λ_=>none) s1) :
  Inv (ym CX P w K mg base N qual scope f cd A outer s H E) [] (Z0 N vs) H s1:=by
 have hpl:ps.length<=N.length:=by have:=congrArg List.length S.pre;rw [List.length_take] at this;omega
 obtain ⟨h1,tk,rfl,hk⟩:=x.done;have noA:∀ b:Ad,b ∉ (ym CX P w K mg base N qual scope f cd A outer s H E).ex:=λb z=>absurd (show b∈([]:Je) from z) (by simp)
 refine ⟨⟨e0.mod,S.kind,rfl,rfl,Nat.le_refl _,λy z c h1 h2=>?_,λy hy=>?_,λy c _ h=>?_,λ_=>hd,Around.frames_deeper e0.frames,.inr ⟨rfl,rfl⟩,λb z=>absurd z (noA b),e0.bs,e0.bsz,λb _ _=>noA b,λb z=>absurd z (noA b),e0.funs,e0.frf⟩,
  rfl,e0.bare,Un.kept hk,⟨_,x.toInCall.ns,λi y v h1 h2 h3=>?_⟩,λy c h=>⟨_,x.cell y c h⟩,e0.hok.fresh (Nat.le_refl _),λy c h=>?_,λp hp=>absurd (show p∈([]:Ja) from hp) (by simp),e0.hok.kept hk,?_⟩
 ·exact name_of_addr x.apart (PySem.mem_of_lookup h1) (PySem.mem_of_lookup h2)
 ·have hy:scope.names.lookup y=some .cell∨scope.names.lookup y=some .free:=hy
  rcases hy with hy | hy
  ·exact zb0 hy
  ·exact absurd rfl (S.nofree _ (PySem.mem_of_lookup hy))
 ·exact Nat.le_of_lt (x.above y c (PySem.mem_of_lookup h))
 ·have hi:i<vs.length:=by
   unfold Z0 at h2;by_cases hi:i<vs.length
   ·exact hi
   ·rw [List.getElem?_append_right (by simpa using hi)] at h2
    rw [List.getElem?_replicate] at h2
    split at h2 <;> cases h2
  have ha:vs[i]?=some v:=by
   unfold Z0 at h2;rw [q4x (by simpa using hi),List.getElem?_map] at h2
   cases e:vs[i]? with
   | none=>rw [e] at h2;cases h2
   | some a=>rw [e] at h2;cases h2;rfl
  obtain ⟨u,hu,rv⟩:=r.get ha
  have hp:ps[i]?=some y:=by
   rw [← S.pre,List.getElem?_take_of_lt (by omega)];exact h1
  have ndP:ps.Nodup:=by rw [← S.pre];exact S.nd.sublist (List.take_sublist _ _)
  refine ⟨u,rv,?_⟩;rcases S.par y (List.mem_of_getElem? hp) with k | k
  ·exact .inl ⟨k,X9 ndP hp hu k⟩
  ·obtain ⟨c,e⟩:=zb0 (n:=s.heap.objs.size+1) k
   refine .inr ⟨.inl k,c,e,?_⟩;have q:=x.cell y c e;rw [zab ndP hp hu (by show scope.names.lookup y≠_;rw [k];decide)] at q;exact q
 ·exact e0.hok.fresh (Nat.le_of_lt (x.above y c (PySem.mem_of_lookup h)))
 ·unfold Z0
  show _=N.length;rw [Jh,Jg,List.length_replicate];omega
theorem fn_of {CX:CXT} {P:Program} {w:World} {K:Fg} {mg:J0} {base:Heap} {k:Nat} {f:Ad} {name qual:Str} {params:Arguments} {body:List Stmt} {scope:Scope} {dV kV doc pm cdv ct oc:Vl} {an od:Option Ad}
  {osl:Array (Jc)} {N ps:Jd} {sp:Sp} (lk:K.lookup f=some ⟨oc,od,.func (PySem.W.fnOf name qual params body scope dV kV doc pm an cdv ct),osl⟩) (hcd:PySem.W.codeIn K cdv qual=true) (S:FnScope N ps scope)
  (len:∀ vs H Q E,sp vs H Q E->vs.length=ps.length)
  (hbody:∀ (A:Around) (outer:List Env) (s:Sh) (H:Hp) (vs:Jl) (Q:VK) (E:XK),Room k (A.deeper (envOfC qual scope s.heap.objs.size f cdv))->sp vs H Q E ->
   ∃ t,PSs (ym CX P w K mg base N qual scope f cdv A outer s H E) body t/\t { nx:=λ_ H'=>Q .non H',rt:=Q } (Z0 N vs) H) :
  FnOk P w K mg base CX (k+1) f (PySem.W.fnOf name qual params body scope dV kV doc pm an cdv ct) ps sp:=by
 refine ⟨len,λA outer s H args us vs Q E hr e0 hb r hsp=>?_⟩;have hl:=len _ _ _ _ hsp;have KX:K.In s.heap:=e0.mod.kin.keeps λb o e=>(e0.bs b o e).1;have lim:s.heap.NoLimit:=e0.mod.nolimit.keeps λb o e=>(e0.bs b o e).1
 have hkind:∀ y∈ps.zip us,scope.names.lookup y.1=some .local∨(scope.names.lookup y.1=some .cell/\((cellsFrom (s.heap.objs.size+1) scope.names []).lookup y.1).isSome=true):=λ⟨n,v⟩ hy=>by
  rcases S.par n (List.of_mem_zip hy).1 with q | q
  ·exact .inl q
  ·exact .inr ⟨q,PySem.W.cellsFrom_some _ _ _ (.inl q)⟩
 refine codeAny_call_function hr.depth (KX _ _ lk) rfl S.co S.gen rfl (PySem.W.codeRec_of KX hcd) (hb _ _ _ _ ?_);refine wpAny_newFunctionEnv_cells S.kind hkind λenv he s1 x=>?_;subst he;refine ⟨lim.keeps x.toInCall.keep,codeAny_func ?_⟩;obtain ⟨t,ht,hq⟩:=hbody A outer s H vs Q E (hr.deeper _) hsp;have I:Inv (ym CX P w K mg base N qual scope f cdv A outer s H E) [] (Z0 N vs) H s1:=inv_start S hr.hd e0 hl r x;refine wpAny_mono (ht [] s1 (Z0 N vs) H _ I hq) (λfl s' hs=>?_) λe s' hs=>hs
 have fin:∀ {σ':St} {H':Hp} {v:V} {u:Vl},Inv (ym CX P w K mg base N qual scope f cdv A outer s H E) [] σ' H' s'->RelV v u->Q v H'->CE outer P w H s Q u s' :=
  λ{σ' H' v u} J rv q=>⟨v,H',J.os,J.bare,J.base,J.hok,rv,q⟩
 cases fl with
 | ret u =>
  obtain ⟨v,σ',H',J,rv,q⟩:=hs;exact fin J rv q
 | next =>
  obtain ⟨σ',H',J,q⟩:=hs;exact fin (v:=V.non) (u:=Value.none) J rfl q
 | brk =>
  obtain ⟨_,_,_,q⟩:=hs;exact False.elim q
 | cont =>
  obtain ⟨_,_,_,q⟩:=hs;exact False.elim q
section
variable {X:Cx} {x:Str} {p pos:Pos} {e:Expr} {es:Jf} {t:TA} {id T:String} {r:Jl->Hp->VK->Prop}
def tCB (r:Jl->Hp->VK->Prop) (t:TA):TE:=λσ H Q=>t σ H λvs H1=>r vs H1 Q
def zD (hc:Zr X (.builtin id) r) (hg:Gl X x) (hm:X.mg x=none) (hv:bootBuiltins x=some (.builtin id)) (ha:PA X (e::es) t) (hn:x≠"__name__":=by decide) (hdb:(x == ("__debug__":Str))=false:=by decide)
  (he:starEach (e::es) X.env=(false,eval e X.env)::starEach es X.env:=by rfl) (hpl:(backTo pos (starEach es X.env)).any (·.1)=false:=by rfl):PE X (.Call (.Name x p) (e::es) [] pos) (tCB r t):=by
 intro pins s σ H Q I h;refine wpAny_Call_Name_kw (Zb I hg hm hv ?_ hn hdb);exact PyProof.Rows.callWith_builtin1 (thn (ha pos pins s σ H _ I h) λus s1 ⟨vs,H1,I1,r1,q1⟩=>hc pins s1 σ H1 vs us Q I1 r1 q1) he hpl
def yp (hc:Zr X (.type T) r) (hg:Gl X x) (hm:X.mg x=none) (hv:bootBuiltins x=some (.type T)) (ha:PA X (e::es) t) (hn:x≠"__name__":=by decide) (hdb:(x == ("__debug__":Str))=false:=by decide)
  (he:starEach (e::es) X.env=(false,eval e X.env)::starEach es X.env:=by rfl) (hpl:(backTo pos (starEach es X.env)).any (·.1)=false:=by rfl):PE X (.Call (.Name x p) (e::es) [] pos) (tCB r t):=by
 intro pins s σ H Q I h;refine wpAny_Call_Name_kw (Zb I hg hm hv ?_ hn hdb);exact PyProof.Rows.callWith_type1 (thn (ha pos pins s σ H _ I h) λus s1 ⟨vs,H1,I1,r1,q1⟩=>hc pins s1 σ H1 vs us Q I1 r1 q1) he hpl
end
end L2
namespace HT
open PySem PyProof.Rows
def lexLt:J9->J9->Bool
 | [],[]=>false
 | [],_::_=>true
 | _::_,[]=>false
 | x::xs,y::ys=>if x=y then lexLt xs ys else decide (x<y)
section
open PySem.SeqAt
open PySem.AutoSeq1 (wpAny_loadPart')
open PySem.MeetsSeq PySem.MeetsSeq2 PySem.MeetsSeq3
end
section
variable {prog:Program} {w:World} {A:Around} {E:J5} {s:Sh}
def sIx (n d:Nat):Option Int->Nat
 | none=>d
 | some v=>if v<0 then (v+(n:Int)).toNat else min v.toNat n
def sIx_none (n d:Nat):sIx n d none=d:=rfl
end
end HT
namespace L2
open PySem PySem.Spec PyProof.Rows
abbrev TO:=St->Hp->(Option Int->Hp->Prop)->Prop
def PO (X:Cx) (e:Option Expr) (t:TO):Prop :=
 ∀ (pins:Ja) (s:Sh) (σ:St) (H:Hp) (Q:Option Int->Hp->Prop),Inv X pins σ H s->t σ H Q ->
  wpAny (model X.prog X.w) X.A (evalPart e X.env) (λu s'=>∃ o H',Inv X pins σ H' s'/\IsPart u o/\Q o H') X.xe s
def tNoPart:TO:=λ_ H Q=>Q none H
inductive tPart_S (Q:(Option Int->Hp->Prop)) (x:V) (H1:Hp):Prop
 | mk (i:_) (_:x=.int i) (_:Q (some i) H1)
def tPart (t:TE):TO:=λσ H Q=>t σ H λx H1=>tPart_S Q x H1
section
variable {X:Cx} {e:Expr} {te:TE} {lo hi:Option Expr} {tl th:TO} {pos p2:Pos}
def YN:PO X none tNoPart:=by
 intro pins s σ H Q I h;rw [evalPart_none];exact q0y ⟨none,H,I,.none,h⟩
def YM (h:PE X e te):PO X (some e) (tPart te):=by
 intro pins s σ H Q I hw;rw [evalPart_some];refine thn (h pins s σ H _ I hw) λu s1 ⟨x,H1,I1,r1,q1⟩=>?_;obtain ⟨i,rfl,q⟩:=q1;obtain ⟨t,rfl⟩:=r1;exact ⟨some i,H1,I1,.int i t,q⟩
def SlR (X:Cx) (r:V->Option Int->Option Int->Hp->VK->Prop):Prop :=
 ∀ (pins:Ja) (s:Sh) (σ:St) (H:Hp) (x:V) (v vl vu:Vl) (lo hi:Option Int) (sl:Ad) (Q:VK),Inv X pins σ H s->RelV x v->s.heap.IsSliceOf sl vl vu .none->IsPart vl lo->IsPart vu hi->r x lo hi H Q ->
  ∃ T id,typeLookup (.type T) "__getitem__"=pure (some (.builtin id))/\s.TypeIs v T/\wpAny (model X.prog X.w) X.A (getItem v (.ref sl)) (EP X pins σ Q) X.xe s
def tSl (r:V->Option Int->Option Int->Hp->VK->Prop) (te:TE) (tl th:TO):TE:=λσ H Q=>te σ H λx H1=>tl σ H1 λl H2=>th σ H2 λu H3=>r x l u H3 Q
def Ya {r:V->Option Int->Option Int->Hp->VK->Prop} (hr:SlR X r) (he:PE X e te) (hl:PO X lo tl) (hu:PO X hi th):PE X (.Subscript e (.Slice lo hi none p2) pos) (tSl r te tl th):=by
 intro pins s σ H Q I h;refine Subscript_ (thn (he pins s σ H _ I h) λv s1 ⟨x,H1,I1,r1,q1⟩=>?_);refine wpAny_Slice (thn (hl pins s1 σ H1 _ I1 q1) λvl s2 ⟨l,H2,I2,pl,q2⟩=>thn (hu pins s2 σ H2 _ I2 q2) λvu s3 ⟨u,H3,I3,pu,q3⟩=>?_);rw [evalPart_none];refine q0y ?_;have I4:Inv X pins σ H3 { s3 with heap:=s3.heap.push { cls:=.type "slice",data:=.fields #[vl,vu,.none] } }:=I3.kept (t':=s3.toks) λb ob q=>Heap.get?_push_of_some _ q;obtain ⟨T,id,hT,ht,hg⟩:=hr pins { s3 with heap:=s3.heap.push { cls:=.type "slice",data:=.fields #[vl,vu,.none] } } σ H3 x v vl vu l u s3.heap.objs.size Q I4 r1 (Heap.IsSliceOf.new ..) pl pu q3;show wpAny (model X.prog X.w) X.A (subscriptTail e (.Slice lo hi none p2) v (.ref s3.heap.objs.size)) (EP X pins σ Q) X.xe { s3 with heap:=s3.heap.push { cls:=.type "slice",data:=.fields #[vl,vu,.none] } };exact tail_any (ops:=[.ref s3.heap.objs.size,v]) ht hT hg (by with_unfolding_all rfl)
def cutV (xs:Jl) (lo hi:Option Int):Jl:=(xs.drop (HT.sIx xs.length 0 lo)).take (HT.sIx xs.length xs.length hi-HT.sIx xs.length 0 lo)
def zbv (xs:Jl) (lo hi:Option Int):(cutV xs lo hi).length<=xs.length:=by
 unfold cutV;rw [List.length_take,List.length_drop];omega
end
def ixN (n:Nat) (i:Int):Option Nat:=if 0<=i then (if i<n then some i.toNat else none) else if -(n:Int)<=i then some (i+n).toNat else none
def atI {α:Type} (xs:List α) (i:Int):Option α:=(ixN xs.length i).bind λj=>xs[j]?
def ixN_seq {n:Nat} {i:Int} {j:Nat} (h:ixN n i=some j):seqIndex? i n=some j/\j<n/\-(n:Int)<=i/\i<n:=by
 unfold ixN at h;by_cases h0:0<=i
 ·rw [if_pos h0] at h
  by_cases h1:i<n
  ·rw [if_pos h1] at h
   have e:i.toNat=j:=Option.some.inj h;exact ⟨by rw [seqIndex_of h0 h1,e],by omega,by omega,h1⟩
  ·rw [if_neg h1] at h;cases h
 ·rw [if_neg h0] at h
  by_cases h1:-(n:Int)<=i
  ·rw [if_pos h1] at h
   have e:(i+n).toNat=j:=Option.some.inj h;exact ⟨by rw [seqIndex_neg (by omega) h1,e],by omega,h1,by omega⟩
  ·rw [if_neg h1] at h;cases h
theorem atI_get {α:Type} {xs:List α} {i:Int} {v:α} (h:atI xs i=some v):∃ j,seqIndex? i xs.length=some j/\xs[j]?=some v/\j<xs.length/\-(xs.length:Int)<=i/\i<xs.length:=by
 unfold atI at h
 cases e:ixN xs.length i with
 | none=>rw [e] at h;cases h
 | some j =>
  rw [e] at h;obtain ⟨h1,h2,h3,h4⟩:=ixN_seq e;exact ⟨j,h1,h,h2,h3,h4⟩
def zm {α:Type} {xs:List α} {j:Nat} {v:α} (h:xs[j]?=some v):atI xs (j:Int)=some v:=by
 have hj:j<xs.length:=(List.getElem?_eq_some_iff.mp h).1
 have e:ixN xs.length (j:Int)=some j:=by
  unfold ixN;rw [if_pos (by omega),if_pos (by omega)];simp
 unfold atI;rw [e];exact h
def atI_last {α:Type} (xs:List α) (v:α):atI (xs++[v]) (-1)=some v:=by
 have hl:(xs++[v]).length=xs.length+1:=by simp
 have e:ixN (xs++[v]).length (-1)=some xs.length:=by
  unfold ixN;rw [hl,if_neg (by decide),if_pos (by omega)];congr 1;omega
 unfold atI;rw [e];show (xs++[v])[xs.length]?=some v;simp
def PlainIx (b:Expr):Prop:=∀ o i,subscripted b false o i=operate [o,i] (getItem o i)
def IxR (X:Cx) (r:R2):Prop :=
 ∀ (value slice:Expr) (pins:Ja) (s:Sh) (σ:St) (H:Hp) (x y:V) (v u:Vl) (Q:VK),Inv X pins σ H s->RelV x v->RelV y u->r x y H Q ->
  subscripted slice false v u=operate [v,u] (getItem v u)->wpAny (model X.prog X.w) X.A (subscriptTail value slice v u) (EP X pins σ Q) X.xe s
def MtR (X:Cx) (id:String) (r:V->Jl->Hp->VK->Prop):Prop :=
 ∀ (pins:Ja) (s:Sh) (σ:St) (H:Hp) (x:V) (xs:Jl) (v:Vl) (us:Jb) (Q:VK),Inv X pins σ H s->RelV x v->Vals xs us->r x xs H Q ->
  wpAny (model X.prog X.w) X.A (call (.builtin id) (v::us)) (EP X pins σ Q) X.xe s
section
variable {X:Cx} {a b:Expr} {ta tb:TE} {pos:Pos}
def zq {r:R2} (hr:IxR X r) (ha:PE X a ta) (hb:PE X b tb) (hs:PlainIx b):PE X (.Subscript a b pos) (tOp r ta tb):=by
 intro pins s σ H Q I h;exact Subscript_ (binT ha hb I h λv u s2 x y H2 I2 rx ry q=>hr a b pins s2 σ H2 x y v u Q I2 rx ry q (hs _ _))
inductive rIxL (K:Fg) (x y:V) (H:Hp) (Q:VK):Prop
 | mk (p xs:_) (i v:_) (_:x=.ref p) (_:y=.int i) (_:SqL K H p xs) (_:atI xs i=some v) (_:Q v H)
inductive rIxT (K:Fg) (x y:V) (H:Hp) (Q:VK):Prop
 | mk (p xs:_) (i v:_) (_:x=.ref p) (_:y=.int i) (_:SqT K H p xs) (_:atI xs i=some v) (_:Q v H)
def zO:IxR X (rIxL X.K):=by
 intro value slice pins s σ H x y v u Q I rx ry h hs;obtain ⟨p,xs,i,z,rfl,rfl,hq,he,q⟩:=h;cases rx;obtain ⟨t,rfl⟩:=ry;obtain ⟨its,r,pl,hz⟩:=I.list hq;obtain ⟨j,h1,h2,h3,h4,h5⟩:=atI_get he;obtain ⟨w,ew,rw'⟩:=r.get h2;have hl:=r.length;have hn:=zav;have fin:EP X pins σ Q w s:=⟨z,H,I,rw',q⟩;by_cases h0:0<=i
 ·have hj:i.toNat=j:=by
   rw [seqIndex_of h0 h5] at h1;exact Option.some.inj h1
  exact item_listR pl.isList h0 (by omega) (by rw [hj];simpa using ew) fin hs
 ·have hj:(i+(its.toArray.size:Int)).toNat=j:=by
   rw [seqIndex_neg (by omega) h4] at h1;rw [List.size_toArray,← hl];exact Option.some.inj h1
  exact subscriptTail_builtinR (x:=w) pl.isList.typeIs slot_list_getitem.lookup
   (wpAny_getItem_list_neg (Q:=λr s'=>r=w/\EP X pins σ Q r s') pl.isList (by omega) (by rw [List.size_toArray] <;> omega) (by omega) (by rw [hj];simpa using ew) ⟨rfl,fin⟩) hs
def zy:IxR X (rIxT X.K):=by
 intro value slice pins s σ H x y v u Q I rx ry h hs;obtain ⟨p,xs,i,z,rfl,rfl,hq,he,q⟩:=h;cases rx;obtain ⟨t,rfl⟩:=ry;obtain ⟨its,r,pl,hz⟩:=I.tuple hq;obtain ⟨j,h1,h2,h3,h4,h5⟩:=atI_get he;obtain ⟨w,ew,rw'⟩:=r.get h2;have hl:=r.length;have hn:=zav;have fin:EP X pins σ Q w s:=⟨z,H,I,rw',q⟩;exact subscriptTail_builtinR (x:=w) pl.typeIs slot_tuple_getitem.lookup
  (getItem_tuple (j:=j) (Q:=λr s'=>r=w/\EP X pins σ Q r s') pl (by omega) (by omega) (by rw [List.size_toArray,← hl];exact h1) (by simpa using ew) ⟨rfl,fin⟩) hs
def zcm (its:Jb) (n j:Nat) (u:Vl):Obj.mapSeq (·.setIfInBounds j u) { cls:=.type "list",data:=.seq its.toArray n }={ cls:=.type "list",data:=.seq (its.set j u).toArray n }:=by
 simp [Obj.mapSeq]
def Inv.lst {pins:Ja} {σ:St} {H:Hp} {s:Sh} {p:Ad} {xs:Jl} (I:Inv X pins σ H s) (h:H p=some (.lst xs)) :
  ∃ (its:Jb) (n:Nat),Vals xs its/\s.heap.get? p=some { cls:=.type "list",data:=.seq its.toArray n }/\xs.length<=sizeLine:=by
 obtain ⟨z,its,n,r,e⟩:=I.hok p _ h;exact ⟨its,n,r,e,z⟩
def Inv.lstUpd {pins:Ja} {σ:St} {H:Hp} {s:Sh} {p:Ad} {xs ys:Jl} {its its':Jb} {n n':Nat} {f:Obj->Obj} (I:Inv X pins σ H s) (h:H p=some (.lst xs))
  (ho:s.heap.get? p=some { cls:=.type "list",data:=.seq its.toArray n }) (hf:f { cls:=.type "list",data:=.seq its.toArray n }={ cls:=.type "list",data:=.seq its'.toArray n' }) (r:Vals ys its') (hz:ys.length<=sizeLine) (t:Nat) :
  Inv X pins σ (upd H p (.lst ys)) { s with heap:=s.heap.update p f,toks:=t }:=by
 have e:(s.heap.update p f).get? p=some { cls:=.type "list",data:=.seq its'.toArray n' }:=by
  rw [Heap.get?_update_self f ho (by rw [hf] <;> rfl),hf]
 refine I.write (x:=p) (e:=p) (by rw [h];trivial) (.inl rfl) (λb u hb q=>(Heap.get?_update_other _ _ (Ne.symm hb)).trans q) ⟨_,e⟩ ?_;exact ⟨hz,its',n',r,e⟩
inductive rSetL (o i v:V) (H:Hp) (Q:(Hp->Prop)):Prop
 | mk (p xs:_) (k j:_) (_:o=.ref p) (_:i=.int k) (_:H p=some (.lst xs)) (_:ixN xs.length k=some j) (_:Q (upd H p (.lst (xs.set j v))))
def xw:PSet X rSetL:=by
 intro pins s σ H o i v ov iv u Q I ro ri rv h;obtain ⟨p,xs,k,j,rfl,rfl,hp,hj,q⟩:=h;cases ro;obtain ⟨t,rfl⟩:=ri;obtain ⟨its,n,r,ho,hz⟩:=I.lst hp;obtain ⟨h1,h2,h3,h4⟩:=ixN_seq hj;have hl:=r.length;have hn:=zav
 have I':Inv X pins σ (upd H p (.lst (xs.set j v))) { s with heap:=s.heap.update p (Obj.mapSeq (·.setIfInBounds j u)) } :=
  I.lstUpd hp ho (zcm its n j u) (r.set rv j) (by rw [List.length_set];exact hz) s.toks
 by_cases h0:0<=k
 ·have hk:k.toNat=j:=by
   rw [seqIndex_of h0 h4] at h1;exact Option.some.inj h1
  exact PySem.W.ki_setAt ho h0 (by omega) (by rw [List.size_toArray,← hl];exact h4) (by rw [hk];exact ⟨_,I',q⟩)
 ·have hk:(k+(its.toArray.size:Int)).toNat=j:=by
   rw [seqIndex_neg (by omega) h3] at h1;rw [List.size_toArray,← hl];exact Option.some.inj h1
  exact PySem.W.ki_setBack ho (by omega) (by rw [List.size_toArray,← hl];exact h3) (by omega) (by rw [hk];exact ⟨_,I',q⟩)
theorem zad (lo hi:Option Int) (n:Nat):(sliceBounds lo hi none n).1=((HT.sIx n 0 lo:Nat):Int)/\(sliceBounds lo hi none n).2.1=((HT.sIx n n hi:Nat):Int)/\(sliceBounds lo hi none n).2.2=1:=by
 refine ⟨?_,?_,rfl⟩
 ·cases lo with
  | none=>simp [sliceBounds,HT.sIx]
  | some i =>
   simp only [sliceBounds,HT.sIx,Option.getD_none,show (1:Int) > 0 by decide,if_true];by_cases h:i<0
   ·simp only [h,if_true] <;> omega
   ·simp only [h,if_false] <;> omega
 ·cases hi with
  | none=>simp [sliceBounds,HT.sIx]
  | some i =>
   simp only [sliceBounds,HT.sIx,Option.getD_none,show (1:Int) > 0 by decide,if_true];by_cases h:i<0
   ·simp only [h,if_true] <;> omega
   ·simp only [h,if_false] <;> omega
def XC (its:Jb) (lo hi:Option Int):slicePick its.toArray lo hi none=((its.drop (HT.sIx its.length 0 lo)).take (HT.sIx its.length its.length hi-HT.sIx its.length 0 lo)).toArray:=by
 obtain ⟨h1,h2,h3⟩:=zad lo hi its.toArray.size;unfold slicePick;rw [h1,h2,h3];simp only [sliceRange_one,pick_run,List.size_toArray] <;> rfl
inductive rSlL (K:Fg) (x:V) (lo hi:Option Int) (H:Hp) (Q:VK):Prop
 | mk (a xs:_) (_:x=.ref a) (_:SqL K H a xs) (_:∀ p,H p=none->Q (.ref p) (upd H p (.lst (cutV xs lo hi))))
def YI:SlR X (rSlL X.K):=by
 intro pins s σ H x v vl vu lo hi sl Q I rx hs pl pu h;obtain ⟨a,xs,rfl,hx,q⟩:=h;cases rx;obtain ⟨its,r,ht,hz⟩:=I.list hx;have hlen:=r.length;refine ⟨"list",_,slot_list_getitem.lookup,ht.isList.typeIs,?_⟩;refine wpAny_getItem_list_slice ht.isList hs pl pu .none (by simp) ?_ (by rw [List.size_toArray] <;> omega);rw [XC,← hlen];refine ⟨.ref s.heap.objs.size,_,I.laid (t':=s.toks) (o:=.lst (cutV xs lo hi)) (λb ob q=>Heap.get?_push_of_some _ q) (Nat.le_refl _) ?_,rfl,q _ (I.hok.fresh (Nat.le_refl _))⟩;exact ⟨Nat.le_trans (zbv xs lo hi) hz,_,0,(r.drop (HT.sIx xs.length 0 lo)).take (HT.sIx xs.length xs.length hi-HT.sIx xs.length 0 lo),Heap.get?_push_size _ rfl⟩
def flatV:V->Bool
 | .non=>true
 | .bl _=>true
 | .int _=>true
 | .str _=>true
 | _=>false
def eqV:V->V->Bool
 | .non,.non=>true
 | .bl a,.bl b=>a == b
 | .bl a,.int b=>(if a then 1 else 0) == b
 | .int a,.bl b=>a == (if b then 1 else 0)
 | .int a,.int b=>a == b
 | .str a,.str b=>a == b
 | _,_=>false
def inV (x:V) (xs:Jl):Bool:=xs.any λy=>eqV y x
def zV:Zr X (.builtin "len") (λxs H Q=>∃ p ys,xs=[.ref p]/\(SqL X.K H p ys∨SqT X.K H p ys)/\Q (.int ys.length) H):=by
 intro pins s σ H xs us Q I r h;obtain ⟨p,ys,rfl,hq,q⟩:=h;obtain ⟨u,rfl,rx⟩:=vals1 r;cases rx;have hn:=zav;rcases hq with hq | hq
 ·obtain ⟨its,r',pl,hz⟩:=I.list hq
  have hlen:=r'.length;exact Calls.call_len_list pl.isList (by simp only [List.size_toArray] <;> omega) ⟨.int ys.length,H,I.tok _,⟨s.toks+1,by rw [List.size_toArray,hlen]⟩,q⟩
 ·obtain ⟨its,r',pl,hz⟩:=I.tuple hq
  have hlen:=r'.length;exact len_tuple pl (by simp only [List.size_toArray] <;> omega) ⟨.int ys.length,H,I.tok _,⟨s.toks+1,by rw [List.size_toArray,hlen]⟩,q⟩
def ya:Zr X (.type "list") (λxs H Q=>∃ p ys,xs=[.ref p]/\(SqL X.K H p ys∨SqT X.K H p ys)/\∀ l,H l=none->Q (.ref l) (upd H l (.lst ys))):=by
 intro pins s σ H xs us Q I r h;obtain ⟨p,ys,rfl,hq,q⟩:=h;obtain ⟨u,rfl,rx⟩:=vals1 r;cases rx
 have fin:∀ (its:Jb),Vals ys its->ys.length<=sizeLine->∀ (h':Heap) (c':Nat),(∀ b o',s.heap.get? b=some o'->h'.get? b=some o') ->
   h'.get? s.heap.objs.size=some { cls:=.type "list",dict:=none,data:=.seq its.toArray c',slots:=#[] }->EP X pins σ Q (.ref s.heap.objs.size) { s with heap:=h' }:=λits r' hz h' c' kp e =>
  ⟨.ref s.heap.objs.size,_,I.laid (t':=s.toks) kp (Nat.le_refl _) (show ObjOk X.prog X.w _ h' _ (.lst ys) from ⟨hz,its,c',r',e⟩),rfl,q _ (I.hok.fresh (Nat.le_refl _))⟩
 rcases hq with hq | hq
 ·obtain ⟨its,r',pl,hz⟩:=I.list hq
  have hlen:=r'.length;obtain ⟨o,ho,hc,n,hd⟩:=pl.isList;exact call_list_seq p (.inl rfl) ho hc hd (λh' c' kp e=>fin its r' hz h' c' kp e) (by simp only [List.size_toArray] <;> omega)
 ·obtain ⟨its,r',pl,hz⟩:=I.tuple hq
  have hlen:=r'.length;obtain ⟨o,ho,hc,n,hd⟩:=pl;exact call_list_seq p (.inr rfl) ho hc hd (λh' c' kp e=>fin its r' hz h' c' kp e) (by simp only [List.size_toArray] <;> omega)
def tyV (K:Fg) (T:String) (x:V) (H:Hp):Prop:=match x with
 | .str _=>T="str"
 | .int _=>T="int"
 | .ref p=>(T="list"/\∃ xs,SqL K H p xs)∨(T="tuple"/\∃ o,K.lookup p=some o/\o.cls=.type "tuple"/\o.dict=none) ∨
   (T="dict"/\((∃ kvs,H p=some (.dK kvs))∨∃ kvs,H p=some (.dT kvs)))∨(T="set"/\∃ S n,H p=some (.set S n))
 | _=>False
theorem tyV_is {pins:Ja} {σ:St} {H:Hp} {s:Sh} {T:String} {x:V} {v:Vl} (I:Inv X pins σ H s) (r:RelV x v) (ty:tyV X.K T x H) :
  s.TypeIs v T/\∀ a,v=.ref a->∃ ob,s.heap.get? a=some ob/\ob.dict=none:=by
 cases x with
 | str z =>
  obtain ⟨t,rfl⟩:=r;cases (show T="str" from ty);exact ⟨typeIs_str s z t,λ_ e=>nomatch e⟩
 | int i =>
  obtain ⟨t,rfl⟩:=r;cases (show T="int" from ty);exact ⟨typeIs_int s i t,λ_ e=>nomatch e⟩
 | ref p =>
  cases r;rcases ty with ⟨rfl,xs,hq⟩ | ⟨rfl,o,hk,hc,hd⟩ | ⟨rfl,hk⟩ | ⟨rfl,S,n,hk⟩
  ·obtain ⟨its,_,pl,_⟩:=I.list hq
   refine ⟨pl.isList.typeIs,λa e=>?_⟩;cases e;obtain ⟨o,n,e,c,hd,_⟩:=pl;exact ⟨o,e,hd⟩
  ·refine ⟨⟨o,I.kIn p o hk,hc⟩,λa e=>?_⟩
   cases e;exact ⟨o,I.kIn _ o hk,hd⟩
  ·have z:∃ o,s.heap.get? p=some o/\o.ExactDict:=by
    rcases hk with ⟨kvs,hk⟩ | ⟨kvs,hk⟩
    ·obtain ⟨_,_,_,_,o,_,_,e,ex,_⟩:=I.hok p _ hk
     exact ⟨o,e,ex⟩
    ·obtain ⟨_,_,_,_,o,_,_,e,ex,_⟩:=I.hok p _ hk
     exact ⟨o,e,ex⟩
   obtain ⟨o,e,ex⟩:=z;refine ⟨⟨o,e,ex.1⟩,λa e2=>?_⟩;cases e2;exact ⟨o,e,ex.2.1⟩
  ·obtain ⟨o,_,_,_,e,ex,_⟩:=I.hok p _ hk
   refine ⟨⟨o,e,ex.1⟩,λa e2=>?_⟩;cases e2;exact ⟨o,e,ex.2.1⟩
 | _=>exact False.elim ty
def tBM0 (K:Fg) (T:String) (r:V->Jl->Hp->VK->Prop) (to:TE):TE:=λσ H Q=>to σ H λx H1=>tyV K T x H1/\r x [] H1 Q
def tBM (K:Fg) (T:String) (r:V->Jl->Hp->VK->Prop) (to:TE) (t:TA):TE:=λσ H Q=>to σ H λx H1=>tyV K T x H1/\t σ H1 λxs H2=>r x xs H2 Q
variable {o e:Expr} {es:Jf} {to:TE} {t:TA} {name:Str} {apos cpos:Pos} {T id:String} {r:V->Jl->Hp->VK->Prop}
def pe_bm0 (pa:PlainAttrs T) (slot:Slot T name id) (hty:typeOf (.builtin id)=pure (.type "method_descriptor")) (hm:MtR X id r) (ho:PE X o to)
  (hbase:attributeBase o name X.env (eval o X.env)=eval o X.env:=by rfl) (hline:(apos.endLine == cpos.line)=true:=by rfl):PE X (.Call (.Attribute o name apos) [] [] cpos) (tBM0 X.K T r to):=by
 intro pins s σ H Q I h;refine wpAny_Call_method0_late hbase hline (thn (ho pins s σ H _ I h) λv s1 ⟨x,H1,I1,r1,ty,q1⟩=>?_);obtain ⟨h1,h2⟩:=tyV_is I1 r1 ty;exact ⟨T,id,pa,slot,hty,h1,h2,Calls.callWith_builtin rfl (PySem.evalArgs_none (hm pins s1 σ H1 x [] v [] Q I1 r1 .nil q1))⟩
def pe_bm (pa:PlainAttrs T) (slot:Slot T name id) (hty:typeOf (.builtin id)=pure (.type "method_descriptor")) (hm:MtR X id r) (ho:PE X o to) (ha:PA X (e::es) t)
  (hbase:attributeBase o name X.env (eval o X.env)=eval o X.env:=by rfl)
  (hfew:((backTo cpos (starEach (e::es) X.env)).all (λx=>!x.1) && (backToKw cpos (keywordEach [] X.env)).all (λx=>x.1.isSome)
   && decide ((e::es).length+([]:List Keyword).length+(if ([]:List Keyword).isEmpty then 0 else 1)<30))=true:=by rfl)
  (hline:(apos.endLine == cpos.line)=true:=by rfl) (hs:starEach (e::es) X.env=(false,eval e X.env)::starEach es X.env:=by rfl) (hplain:(backTo cpos (starEach es X.env)).any (·.1)=false:=by rfl) :
  PE X (.Call (.Attribute o name apos) (e::es) [] cpos) (tBM X.K T r to t):=by
 intro pins s σ H Q I h;refine wpAny_Call_method_late hbase hfew hline rfl (thn (ho pins s σ H _ I h) λv s1 ⟨x,H1,I1,r1,ty,q1⟩=>?_);obtain ⟨h1,h2⟩:=tyV_is I1 r1 ty;refine ⟨T,id,pa,slot,hty,h1,h2,?_⟩;have hA:=ha cpos pins s1 σ H1 _ I1 q1;rw [hs] at hA ⊢;refine Calls.callWith_builtin (by show (false || (backTo cpos (starEach es X.env)).any (·.1))=false;rw [hplain] <;> rfl) (Calls.evalArgs_plain ?_);exact thn hA λus s2 ⟨vs,H2,I2,r2,q2⟩=>hm pins s2 σ H2 x vs v us Q I2 r1 r2 q2
/- xs.append(e),list.index on a module's tuple .. are MtR facts of 06m -/
end
def MtM (X:Cx) (id:String) (r:V->Jl->Hp->VK->Prop):Prop :=
 ∀ (pins:Ja) (s:Sh) (σ:St) (H:Hp) (x:V) (xs:Jl) (v:Vl) (us:Jb) (Q:VK),Inv X pins σ H s->RelV x v->Vals xs us->r x xs H Q ->
  wpAny (model X.prog X.w) X.A (call (.builtin id) (v::us)) (EP X pins σ Q) X.xe s
theorem Vals.one:∀ {x:V} {us:Jb},Vals [x] us->∃ u,us=[u]/\RelV x u
 | _,_,.cons r .nil=>⟨_,rfl,r⟩
theorem Vals.zero:∀ {us:Jb},Vals [] us->us=[]
 | _,.nil=>rfl
theorem Vals.dropLast {xs:Jl} {us:Jb} (h:Vals xs us):Vals xs.dropLast us.dropLast:=by
 induction h with
 | nil=>exact .nil
 | cons r t ih =>
  cases t with
  | nil=>exact .nil
  | cons q t'=>exact .cons r ih
theorem Vals.rep {xs:Jl} {us:Jb} (h:Vals xs us):∀ k:Nat,Vals (List.replicate k xs).flatten (List.replicate k us).flatten
 | 0=>.nil
 | k+1=>by
  rw [List.replicate_succ,List.replicate_succ,List.flatten_cons,List.flatten_cons];exact Vals.append h (Vals.rep h k)
theorem zcr {α:Type} (l:List α):l.eraseIdx (l.length-1)=l.dropLast:=by
 induction l with
 | nil=>rfl
 | cons a r ih =>
  cases r with
  | nil=>rfl
  | cons b r =>
   have e:(a::b::r).length-1=((b::r).length-1)+1:=by
    have h1:(a::b::r).length=r.length+2:=rfl;have h2:(b::r).length=r.length+1:=rfl;omega
   rw [e,List.eraseIdx_cons_succ,ih]
   all_goals rfl
theorem X0 (its:Jb):∀ (k:Nat) (acc:Jb),
  List.foldl (λx1 x2=>x1++x2) acc.toArray (List.replicate k its.toArray)=(acc++(List.replicate k its).flatten).toArray
 | 0,acc=>by simp
 | k+1,acc=>by
  have e:acc.toArray++its.toArray=(acc++its).toArray:=by simp
  have e2:(acc++its)++(List.replicate k its).flatten=acc++(List.replicate (k+1) its).flatten:=by
   rw [List.replicate_succ,List.flatten_cons,List.append_assoc]
  rw [← e2,← X0 its k (acc++its),← e,List.replicate_succ,List.foldl_cons]
section
variable {X:Cx} {pins:Ja} {σ:St} {H:Hp} {s:Sh} {l b:Ad} {xs ys zs:Jl}
def Inv.lset {its its':Jb} {n:Nat} {f:Array Vl->Array Vl} {t':Nat} (I:Inv X pins σ H s) (hH:H l=some (.lst xs))
  (e:s.heap.get? l=some { cls:=.type "list",data:=.seq its.toArray n }) (hf:f its.toArray=its'.toArray) (hv:Vals ys its') (hz:ys.length<=sizeLine) :
  Inv X pins σ (upd H l (.lst ys)) { s with heap:=s.heap.update l (Obj.mapSeq f),toks:=t' }:=by
 have q:=PySem.IsL.update e f;rw [hf] at q;refine I.write (x:=l) (e:=l) (by rw [hH];exact trivial) (.inl rfl) (λb' u hb hu=>(Heap.get?_update_other s.heap (Obj.mapSeq f) (Ne.symm hb)).trans hu) ⟨_,q⟩ ?_;exact ⟨hz,its',_,hv,q⟩
def Inv.lnew {its:Jb} {t':Nat} (I:Inv X pins σ H s) (hv:Vals ys its) (hz:ys.length<=sizeLine) :
  Inv X pins σ (upd H s.heap.objs.size (.lst ys)) { s with heap:=s.heap.push { cls:=.type "list",data:=.seq its.toArray },toks:=t' } :=
 I.laid (λ_ _ q=>Heap.get?_push_of_some _ q) (Nat.le_refl _) ⟨hz,its,0,hv,Heap.get?_push_size _ rfl⟩
def Inv.fresh (I:Inv X pins σ H s):H s.heap.objs.size=none:=I.hok.fresh (Nat.le_refl _)
def Inv.lstM (I:Inv X pins σ H s) (hH:H l=some (.lst xs)):xs.length<=sizeLine/\∃ (its:Jb) (n:Nat),Vals xs its/\xs.length=its.length/\s.heap.get? l=some { cls:=.type "list",data:=.seq its.toArray n }:=by
 obtain ⟨z,its,n,r,e⟩:=I.hok l _ hH;exact ⟨z,its,n,r,r.length,e⟩
def notLongL {n:Nat} (h:n<=sizeLine):Builtin.List.listTooLong n=false:=by
 unfold Builtin.List.listTooLong;exact decide_eq_false (by omega)
end
section
variable {X:Cx}
inductive rAppend (x:V) (vs:Jl) (H:Hp) (Q:VK):Prop
 | mk (l xs y:_) (_:x=.ref l) (_:vs=[y]) (_:H l=some (.lst xs)) (_:xs.length<sizeLine) (_:Q .non (upd H l (.lst (xs++[y]))))
def xj:MtM X "list.append" rAppend:=by
 intro pins s σ H x vs v us Q I rx rv h;obtain ⟨l,xs,y,rfl,rfl,hH,hz,q⟩:=h;cases rx;obtain ⟨u,rfl,ru⟩:=rv.one;obtain ⟨z,its,n,r,hl,e⟩:=I.lstM hH;refine call_meets F.slot_list_append ⟨_,e,rfl⟩ F.entry_list_append (F.args_list_append_2 _ _) (PySem.list_append l its.toArray n u (by rw [List.size_toArray];omega)) ⟨e,?_⟩;refine ⟨.non,_,I.lset (its':=its++[u]) hH e (by simp) (r.append (.cons ru .nil)) ?_,rfl,q⟩;rw [Jh,List.length_singleton];omega
inductive rPop (x:V) (vs:Jl) (H:Hp) (Q:VK):Prop
 | mk (l xs y:_) (_:x=.ref l) (_:vs=[]) (_:H l=some (.lst xs)) (_:xs[xs.length-1]?=some y) (_:Q y (upd H l (.lst xs.dropLast)))
def mt_pop:MtM X "list.pop" rPop:=by
 intro pins s σ H x vs v us Q I rx rv h;obtain ⟨l,xs,y,rfl,rfl,hH,hy,q⟩:=h;cases rx;have hus:=rv.zero;subst hus;obtain ⟨z,its,n,r,hl,e⟩:=I.lstM hH;obtain ⟨u,hu,ru⟩:=r.get hy
 have hy':its.toArray[its.toArray.size-1]?=some u:=by
  show its.toArray[its.length-1]?=some u;rw [← Array.getElem?_toList,← hl];exact hu
 refine call_meets F.slot_list_pop ⟨_,e,rfl⟩ F.entry_list_pop (F.args_list_pop_1 _) (MeetsSeq.list_pop_last l its.toArray n u hy' (by rw [List.size_toArray];omega)) ⟨e,?_⟩;refine ⟨y,_,I.lset (its':=its.dropLast) hH e ?_ r.dropLast ?_,ru,q⟩
 ·show its.toArray.eraseIdxIfInBounds (its.toArray.size-1)=its.dropLast.toArray
  rw [List.size_toArray,List.eraseIdxIfInBounds_toArray,zcr]
 ·rw [List.length_dropLast]
  omega
inductive rCat (x y:V) (H:Hp) (Q:VK):Prop
 | mk (l b:_) (xs zs:_) (_:x=.ref l) (_:y=.ref b) (_:H l=some (.lst xs)) (_:H b=some (.lst zs)) (_:xs.length+zs.length<=sizeLine) (_:∀ p,H p=none->Q (.ref p) (upd H p (.lst (xs++zs))))
def Zp:OpR X (binaryOp .Add) rCat:=by
 intro pins s σ H x y v u Q I rx ry h;obtain ⟨l,b,xs,zs,rfl,rfl,hH,hB,hz,q⟩:=h;cases rx;cases ry;obtain ⟨z,its,n,r,hl,e⟩:=I.lstM hH;obtain ⟨z2,its2,n2,r2,hl2,e2⟩:=I.lstM hB;refine PySem.P.add_list e e2 ?_ (by rw [List.size_toArray,List.size_toArray];omega);have ea:its.toArray++its2.toArray=(its++its2).toArray:=by simp
 rw [ea];exact ⟨.ref _,_,I.lnew (t':=s.toks) (r.append r2) (by rw [Jh];omega),rfl,q _ I.fresh⟩
inductive rRep (x y:V) (H:Hp) (Q:VK):Prop
 | mk (l k xs:_) (_:x=.ref l) (_:y=.int k) (_:H l=some (.lst xs)) (_:-(2 ^ 63)<=k) (_:k<2 ^ 63) (_:xs.length*k.toNat<=sizeLine) (_:∀ p,H p=none->Q (.ref p) (upd H p (.lst (List.replicate k.toNat xs).flatten)))
theorem len_rep {α:Type} (xs:List α) (k:Nat):(List.replicate k xs).flatten.length=k*xs.length:=by
 induction k with
 | zero=>simp
 | succ k ih=>rw [List.replicate_succ,List.flatten_cons,Jh,ih,Nat.succ_mul,Nat.add_comm]
theorem op_rep:OpR X (binaryOp .Mult) rRep:=by
 intro pins s σ H x y v u Q I rx ry h;obtain ⟨l,k,xs,rfl,rfl,hH,h1,h2,hz,q⟩:=h;cases rx;obtain ⟨t,rfl⟩:=ry;obtain ⟨z,its,n,r,hl,e⟩:=I.lstM hH;have hlen:its.toArray.size*k.toNat<=sizeLine:=by rw [List.size_toArray,← hl];exact hz
 have hcap:¬ its.toArray.size*k.toNat > (2 ^ 63-1) / 8:=by
  have:(sizeLine:Nat)<=(2 ^ 63-1) / 8:=by decide
  omega
 have hfit:¬ (!Builtin.List.listFitsIndex k)=true:=by
  rw [fitsIndex_both h1 h2];exact q2x
 have hlong:¬ Builtin.List.listTooLong (its.toArray.size*k.toNat)=true:=by
  rw [notLongL hlen];exact q2x
 have hnew:List.foldl (λx1 x2=>x1++x2) #[] (List.replicate (if its.toArray.isEmpty=true then 0 else k.toNat) its.toArray)=(List.replicate k.toNat its).flatten.toArray:=by
  have f0:∀ m:Nat,List.foldl (λx1 x2=>x1++x2) #[] (List.replicate m its.toArray)=(List.replicate m its).flatten.toArray:=λm=>by
   have:=X0 its m [];rw [List.nil_append] at this;exact this
  rw [f0]
  cases its with
  | nil=>simp
  | cons a r'=>rw [if_neg (by simp)]
 refine wpAny_binaryOp_repeat_ref (T:="list") (U:="int") (by decide) ⟨_,e,rfl⟩ (λs'=>typeIs_int s' k t) noFill_list_mul F.fills_int_mul F.slot_int_rmul repeat_list F.slot_int_index.lookup
  (call_meets F.slot_int_rmul (typeIs_int s k t) F.entry_int_rmul (F.args_int_rmul_2 _ _) (int___rmul___int_list k t l its.toArray n)
   ⟨e,rfl,⟨_,e,rfl⟩,call_meets F.slot_list_mul ⟨_,e,rfl⟩ F.entry_list_mul (F.args_list_mul_2 _ _) (AutoListH.list___mul___list_int_3 l its.toArray n k t hfit hcap hlong) ⟨e,?_⟩⟩)
 rw [hnew];exact ⟨.ref _,_,I.lnew (t':=s.toks) (r.rep k.toNat) (by rw [len_rep,Nat.mul_comm];exact hz),rfl,q _ I.fresh⟩
end
section
variable {prog:Program} {w:World} {A:Around} {E:J5} {s:Sh}
set_option maxRecDepth 100000 in
end
section
variable {X:Cx}
end
end L2
namespace Att
open PySem PySem.W PySem.Calls PyProof.Rows
theorem YH {P:Params} {h:Heap}:∀ (ns:J9) (vs:Jb),WellAll P h vs (ns.map WData.int)->IntsAre vs ns:=by
 intro ns
 induction ns with
 | nil =>
  intro vs w;rw [List.map_nil] at w;cases w;exact .nil
 | cons n ns ih =>
  intro vs w;rw [List.map_cons] at w
  cases w with
  | cons a b =>
   cases a;exact .cons _ _ (ih _ b)
theorem script_of {l:OpenLaw} {n:Nat} (hn:l.most=some n) {P:Params} {h:Heap} {args:List WData} {vals:Jb}
  (hpre:l.row.toRowW.claim.pre args=true) (hwl:WellAll P h vals args) :
  ∃ a vs ns,vals=[Value.ref a]/\args=[WData.list (ns.map WData.int)]/\h.get? a=some { cls:=.type "list",data:=.seq vs.toArray }/\IntsAre vs ns/\ns.length<=n:=by
 have hsh:WShape.hasAll [] args [.list .int]=true:=(pre_splitW hpre).1;have hc:l.pre.holds [] { args:=args }=true:=(pre_splitW hpre).2;obtain ⟨d,r,rfl,h1,h2⟩:=hasAllW_cons hsh;obtain rfl:=hasAllW_nil h2;obtain ⟨xs,rfl,h3⟩:=hasW_list h1;obtain ⟨ns,rfl⟩:=items_int h3
 have hlen:ns.length<=n:=by
  unfold OpenLaw.pre at hc
  have h4:(WTm.not (.lt (.lit (.int (n:Int))) (.len (.arg 0)))).holds [] { args:=[.list (ns.map .int)] }=true:=by
   have h4:=(holds_andW hc).1;rw [hn] at h4;exact h4
  have h5:=condW_of h4 (w_not (w_lt w_lit (w_len_list (w_arg rfl))));rw [Jg] at h5;refine Nat.le_of_not_lt λq=>?_;have q':(n:Int)<((ns.length:Nat):Int):=by omega
  first
   | (rw [decide_eq_true q'] at h5;exact absurd h5 (by decide))
   | (simp at h5;omega)
 cases hwl with
 | cons w1 w2 =>
  cases w2
  cases w1 with
  | list ho hall=>exact ⟨_,_,ns,rfl,rfl,ho,YH ns _ hall,hlen⟩
def post_true (l:OpenLaw) (args:List WData):l.row.toRowW.claim.post args (.bool true) args=true :=
 postW_of (r:=l.row.toRowW) (X:=(true == true))
  (show WShape.has [] (.bool true) .bool=true by first | rfl | decide | simp [WShape.has,WShape.arms,WShape.armsAll])
  (show (WTm.eq .res (.lit (.bool true))).value [] { args:=args,res:=some (.bool true),after:=args }=some (.bool (true == true)) from w_eq_bool (w_res rfl) w_lit) rfl
def attach_call {l:OpenLaw} {n:Nat} {q:Program} {loose:Jd} {XP:(J0)->Heap->Prop} {YP:World->Heap->Prop} {d:DefRec}
  (hn:l.most=some n) (hdf:d.params.defaults=[])
  (call:∀ (w:World) (s₀ s₁:Sh) (mg mb:J0) (fa:Ad) (o:Obj) (pm cd doc:Vl) (a:Ad) (vs:Jb) (ns:J9),
   Ground q loose [] XP w s₀ mg mb s₁.heap->YP w s₁.heap ->
   s₁.heap.get? fa=some o->o.data=.func (docDef d.name d.params d.body d.scope pm cd doc)->s₁.heap.CodeRec cd d.name->mg d.name=some (.ref fa) ->
   s₁.heap.get? a=some { cls:=.type "list",data:=.seq vs.toArray }->IntsAre vs ns->ns.length<=n->s₁.gens=#[] ->
   codeAny (model l.prog w) callerA (.call (.ref fa) ⟨[.ref a],[]⟩) (λr s'=>r=.ok (.ret (.bool true))/\OldK s₁.heap s'.heap/\s'.os=s₁.os/\AllBare s'.gens) s₁) :
  WalkO q loose XP YP l.row.toRowW d [] (λf vs=>PySem.call f vs):=by
 intro w s₀ s₁ mg mb G Y fa o pm cd doc dV kV ho hd hcd hD hmg hg args vals as hpre hlay hrd hwl hlo;obtain rfl:dV=.none:=Dflts.none hD hdf;obtain rfl:kV=.none:=Dflts.noKw hD;obtain ⟨a,vs,ns,rfl,rfl,hobj,hints,hlen⟩:=script_of hn hpre hwl;refine enter_call (codeAny_mono (call w s₀ s₁ mg mb fa o pm cd doc a vs ns G Y ho (fd_plain hd) hcd hmg hobj hints hlen hg) λr s' hq=>?_);obtain ⟨rfl,h2,h3,h4⟩:=hq;exact ⟨.inl ⟨.bool true,.bool true,[],rfl,λ_=>rfl,.bool true,post_true l _,λ_=>⟨List.Pairwise.nil,λ_ hm=>(nomatch hm)⟩⟩,h2,h3,h4⟩
section
variable {prog:Program} {w:World} {A:Around} {E:J5} {s:Sh} {K:Frag}
def noObjs (h:Heap):Heap:={ h with objs:=#[] }
theorem zcl (h:Heap) (b:Ad):(noObjs h).get? b=none:=by
 cases e:(noObjs h).get? b with
 | none=>rfl
 | some o=>exact absurd (Heap.lt_size e) (Nat.not_lt_zero _)
def ledger (h:Heap) (L d:Ad):Ja:=(List.range h.objs.size).filterMap λa=>if a=L∨a=d then none else (h.get? a).map λo=>(a,o)
def fr_all {h:Heap} {L:Ad} {m:J0} (n:h.Ns L m):Fr (noObjs h) L h m :=
 ⟨n,λb o e=>(by rw [zcl] at e;cases e),Nat.zero_le _⟩
end
end Att
namespace L2
open PySem PySem.Spec PyProof.Rows
theorem XN:∀ {vs:Jb} {ns:J9},IntsAre vs ns->Vals (ns.map V.int) vs
 | _,_,.nil=>.nil
 | _,_,.cons n t h=>.cons ⟨t,rfl⟩ (XN h)
def Only (H:Hp):Prop:=∀ b,H b=none∨∃ o xs,H b=some (.frz o (.lst xs))
theorem law_call {P:Program} {w:World} {K:Fg} {mg mb:J0} {CX:CXT} {k:Nat} {fa a:Ad} {fd:FuncData} {x:Str} {sp:Sp} {s₁:Sh} {vs:Jb} {ns:J9}
  (KX:K.In s₁.heap) (hns:s₁.heap.Ns mainGlobals mg) (hb:s₁.heap.Ns builtinsNs mb) (hbb:∀ x:Str,x≠"__name__"->mb x=bootBuiltins x) (hlim:s₁.heap.NoLimit) (hg:s₁.gens=#[])
  (ha:s₁.heap.get? a=some { cls:=.type "list",data:=.seq vs.toArray }) (hi:IntsAre vs ns) (hl:ns.length<=sizeLine) (hr:Room k callerA)
  (F:∀ base:Heap,K.In base->base.Ns mainGlobals mg->FnOk P w K mg base CX k fa fd [x] sp) (hbind:∀ (s:Sh) (u:Vl),BindsTo s fd ⟨[u],[]⟩ [(x,u)])
  (hsp:∀ H:Hp,Only H->SqL K H a (ns.map V.int)->sp [.ref a] H (λv _=>v=.bl true) λ_ _ _=>False)
  (hCX:∀ H e s',CX [] H s₁ (λ_ _ _=>False) e s'->False) :
  codeAny (model P w) callerA (.call (.ref fa) ⟨[.ref a],[]⟩) (λr s'=>r=.ok (.ret (.bool true))/\OldK s₁.heap s'.heap/\s'.os=s₁.os/\AllBare s'.gens) s₁:=by
 have rv:=XN hi;have lenV:=hi.length
 have core:∀ H:Hp,Only H->SqL K H a (ns.map V.int)->HOk P w H s₁.heap->(∀ b,H b≠none->b=a)->(H a≠none->K.lookup a=none) ->
   codeAny (model P w) callerA (.call (.ref fa) ⟨[.ref a],[]⟩) (λr s'=>r=.ok (.ret (.bool true))/\OldK s₁.heap s'.heap/\s'.os=s₁.os/\AllBare s'.gens) s₁:=by
  intro H hO hS hok hA hK;have base_of:∀ {b:Ad} {o:Obj},s₁.heap.get? b=some o->H b=none->(hidT s₁.heap H).get? b=some o:=λe n=>hidT_get e n
  have noA:∀ {b:Ad} {o:Obj} {es:Array DictEntry} {ep:Nat},s₁.heap.get? b=some o->o.data=.dict es ep->H b=none:=λ{b o es ep} e d=>by
   cases q:H b with
   | none=>rfl
   | some u =>
    have e':b=a:=hA b (by rw [q];simp);subst e';rw [ha] at e;cases e;have d':Data.seq vs.toArray _=Data.dict es ep:=d;cases d'
  have nsK:∀ {b:Ad} {m:J0},s₁.heap.Ns b m->(hidT s₁.heap H).Ns b m:=λ{b m} ⟨o,es,ep,e,d,r⟩=>⟨o,es,ep,base_of e (noA e d),d,r⟩
  have hKb:K.In (hidT s₁.heap H):=λb o e=>base_of (KX b o e) (by
   cases q:H b with
   | none=>rfl
   | some u =>
    have e':b=a:=hA b (by rw [q];simp);subst e';rw [hK (by rw [q];simp)] at e;cases e)
  have hM:Mod K mg (hidT s₁.heap H):=⟨hKb,nsK hns,⟨mb,nsK hb,hbb⟩,let ⟨mc,h1,h2⟩:=hlim;⟨mc,nsK h1,h2⟩⟩;have e0:Env0 P w K mg (hidT s₁.heap H) callerA [] s₁ H:=⟨rfl,hM,λb o e=>of_hidT e,Nat.le_of_eq (hidT_size _ _),trivial,λb hb=>absurd (show b∈([]:Je) from hb) (by simp),hok,.of_eq hg⟩;refine codeAny_mono ((F _ hKb (nsK hns)).run callerA [] s₁ H ⟨[.ref a],[]⟩ [.ref a] [.ref a] _ _ hr e0 (hbind s₁ (.ref a)) (.cons rfl .nil) (hsp H hO hS)) λr s' h=>?_
  cases r with
  | error e=>exact (hCX H e s' h).elim
  | ok fl =>
   cases fl with
   | next=>exact False.elim h
   | brk=>exact False.elim h
   | cont=>exact False.elim h
   | ret u =>
    obtain ⟨v,H',os,bare,un,hok',r',q⟩:=h;have q':v=.bl true:=q;subst q';obtain rfl:u=Value.bool true:=r';refine ⟨rfl,OldK.of_keep λb o e=>?_,os,bare⟩
    cases q:H b with
    | none=>exact un.keep b o e q (by intro z;exact absurd (show b∈([]:Je) from z) (by simp)) (by simp)
    | some u =>
     rcases hO b with z | ⟨ob,xs,z⟩
     ·rw [q] at z;cases z
     ·have z2:=un.frzs b ob _ z
      obtain ⟨e1,_⟩:=hok b _ z;obtain ⟨e2,_⟩:=hok' b _ z2;rw [e] at e1;cases e1;exact e2
 cases hk:K.lookup a with
 | some o =>
  have e:=KX a o hk;rw [ha] at e;cases e;refine core (λ_=>none) (λ_=>.inl rfl) (.inr ⟨_,vs.toArray,_,hk,rfl,rfl,rfl,by rw [List.size_toArray,lenV];exact hl,by simpa using rv⟩) (λb u z=>by have z':(none:Option HO)=some u:=z;cases z') (λb z=>absurd rfl z) λz=>absurd rfl z
 | none =>
  refine core (λb=>if b=a then some (.frz { cls:=.type "list",data:=.seq vs.toArray } (.lst (ns.map V.int))) else none) (λb=>?_) (.inl (.inr ⟨{ cls:=.type "list",data:=.seq vs.toArray },if_pos rfl⟩)) (λb u z=>?_) (λb z=>?_) λ_=>hk
  ·by_cases hb:b=a
   ·exact .inr ⟨_,_,if_pos hb⟩
   ·exact .inl (if_neg hb)
  ·by_cases hb:b=a
   ·have z':=(if_pos hb).symm.trans z
    cases z';subst hb;exact ⟨ha,by rw [Jg];exact hl,vs,_,rv,ha⟩
   ·have z':=(if_neg hb).symm.trans z
    cases z'
  ·by_cases hb:b=a
   ·exact hb
   ·exact absurd (if_neg hb) z
def walk_of {l:PySem.W.OpenLaw} {n k:Nat} {q:Program} {loose:Jd} {XP:(J0)->Heap->Prop} {YP:World->Heap->Prop} {d:DefRec} {K:Params->Fg} {CX:World->CXT} {sp:World->Sp} {x:Str}
  (hn:l.most=some n) (hn2:n<=sizeLine) (hdf:d.params.defaults=[]) (hr:Room k callerA)
  (hY:∀ (w:World) (h:Heap),YP w h->(K w.params).In h)
  (F:∀ (w:World) (mg:J0) (fa:Ad) (h:Heap),(K w.params).In h->h.Ns mainGlobals mg->mg d.name=some (.ref fa) ->
   ∃ fd:FuncData,(∀ (s:Sh) (u:Vl),BindsTo s fd ⟨[u],[]⟩ [(x,u)]) /\
    ∀ base:Heap,(K w.params).In base->base.Ns mainGlobals mg->FnOk l.prog w (K w.params) mg base (CX w) k fa fd [x] (sp w))
  (hsp:∀ (w:World) (H:Hp) (a:Ad) (ns:J9),ns.length<=n->Only H->SqL (K w.params) H a (ns.map V.int)->sp w [.ref a] H (λv _=>v=.bl true) λ_ _ _=>False)
  (hCX:∀ (w:World) (H:Hp) (s:Sh) (e:Vl) (s':Sh),CX w [] H s (λ_ _ _=>False) e s'->False) :
  PySem.W.WalkO q loose XP YP l.row.toRowW d [] (λf vs=>PySem.call f vs):=by
 refine Att.attach_call hn hdf λw s₀ s₁ mg mb fa o pm cd doc a vs ns G Y ho hd hcd hmg hobj hints hlen hg=>?_;have KX:=hY w _ Y;obtain ⟨fd,hb,hF⟩:=F w mg fa _ KX G.T.g hmg;exact law_call KX G.T.g G.T.b G.T.builtins G.T.nolimit hg hobj hints (Nat.le_trans hlen hn2) hr hF hb (λH hO hS=>hsp w H a ns hlen hO hS) λH e s'=>hCX w H s₁ e s'
end L2
/- THE LAST THEOREM (shape;LID,My.* are yours):
   My.Adr: a structure of the addresses that your layer names (classes,functions);My.Txt K t: a structure (Prop) of the equations over K;
   My.txt_mk:{K} {implicit addresses ..} (e1:nsIn K mainGlobals "law"=some (some (.ref f))) (e2:K.lookup f=some ⟨oc,od,.func (fnOf "law" "law" params body scope dV kV doc pm an cdv ct),sl⟩) (e3:codeIn K cdv "law"=true) ..:∃ t,My.Txt K t
set_option maxRecDepth 100000 in
set_option maxHeartbeats 0 in
(the tactic k_is has no namespace: write k_is) -/
namespace L2
open PySem PySem.Spec PyProof.Rows
def yo (s:Stmt) (j:Nat):Stmt:=match s with
 | .ClassDef _ _ _ body _ _ _ _ _ _ _=>body.getD j (.Pass ⟨0,0,0,0⟩)
 | _=>.Pass ⟨0,0,0,0⟩
def yO (s:Stmt):Arguments:=match s with
 | .FunctionDef _ a _ _ _ _ _ _ _ _=>a
 | _=>{ posonlyargs:=[],args:=[],vararg:=none,kwonlyargs:=[],kw_defaults:=[],kwarg:=none,defaults:=[] }
def yx (s:Stmt):List Stmt:=match s with
 | .FunctionDef _ _ b _ _ _ _ _ _ _=>b
 | _=>[]
def zg (s:Stmt):Scope:=match s with
 | .FunctionDef _ _ _ _ _ _ sc _ _ _=>sc
 | _=>{ kind:=.function,names:=[],isGenerator:=false,isCoroutine:=false }
abbrev CX0:CXT:=λ_ _ _ _ _ _=>False
abbrev E0:XK:=λ_ _ _=>False
def zt {X:Cx}:xo CX0 X E0:=λ_ _ _ _ _ _ _ h=>h.elim
structure Fun (K:Fg) (x qual:Str) (st:Stmt) (f:Ad) (fd:FuncData):Prop where
 ex:∃ (oc:Vl) (od:Option Ad) (kV doc pm:Vl) (an:Option Ad) (cdv ct:Vl) (osl:Array (Jc)),
  fd=PySem.W.fnOf x qual (yO st) (yx st) (zg st) .none kV doc pm an cdv ct/\K.lookup f=some ⟨oc,od,.func fd,osl⟩/\PySem.W.codeIn K cdv qual=true
 kp:PySem.W.keepIn K (.ref f)=true
section
variable {P:Program} {w:World} {K:Fg} {mg:J0} {base:Heap}
def Fun.ok {x qual:Str} {st:Stmt} {f:Ad} {fd:FuncData} {N ps:Jd} {k:Nat} {sp:Sp} (F:Fun K x qual st f fd) (S:FnScope N ps (zg st)) (len:∀ vs H Q E,sp vs H Q E->vs.length=ps.length)
  (hbody:∀ (cdv:Vl) (A:Around) (outer:List Env) (s:Sh) (H:Hp) (vs:Jl) (Q:VK) (E:XK),Room k (A.deeper (envOfC qual (zg st) s.heap.objs.size f cdv))->sp vs H Q E ->
   ∃ t,PSs (ym CX0 P w K mg base N qual (zg st) f cdv A outer s H E).nox (yx st) t/\t { nx:=λ_ H'=>Q .non H',rt:=Q } (Z0 N vs) H):FnOk P w K mg base CX0 (k+1) f fd ps sp:=by
 obtain ⟨oc,od,kV,doc,pm,an,cdv,ct,osl,rfl,lk,hcd⟩:=F.ex;refine fn_of lk hcd S len λA outer s H vs Q E hr hsp=>?_;obtain ⟨t,h,q⟩:=hbody cdv A outer s H vs Q E hr hsp;exact ⟨t,h.nox,q⟩
def Fun.binds {x qual:Str} {st:Stmt} {f:Ad} {fd:FuncData} {ps:Jd} (F:Fun K x qual st f fd)
  (h:∀ (kV doc pm:Vl) (an:Option Ad) (cdv ct:Vl) (us:Jb),us.length=ps.length->bindArgs (PySem.W.fnOf x qual (yO st) (yx st) (zg st) .none kV doc pm an cdv ct) ⟨us,[]⟩=pure (ps.zip us)):Binds K fd ps []:=by
 obtain ⟨oc,od,kV,doc,pm,an,cdv,ct,osl,rfl,lk,hcd⟩:=F.ex;exact .all (h kV doc pm an cdv ct)
def ZU {x qual:Str} {st:Stmt} {f:Ad} {oc:Vl} {od an:Option Ad} {osl:Array (Jc)} {kV doc pm cdv ct:Vl} (l:K.lookup f=some ⟨oc,od,.func (PySem.W.fnOf x qual (yO st) (yx st) (zg st) .none kV doc pm an cdv ct),osl⟩)
  (c:PySem.W.codeIn K cdv qual=true) (k:PySem.W.keepIn K (.ref f)=true):Fun K x qual st f (PySem.W.fnOf x qual (yO st) (yx st) (zg st) .none kV doc pm an cdv ct):=⟨⟨oc,od,kV,doc,pm,an,cdv,ct,osl,rfl,l,c⟩,k⟩
end
section
variable {X:Cx}
def pv (i:Nat) {x:Str} {pos:Pos} (hN:X.N[i]?=some x:=by rfl) (hv:Vis X.env.scope x:=by first | exact Or.inl rfl | exact Or.inr (Or.inl rfl) | exact Or.inr (Or.inr rfl)) (hd:(x == ("__debug__":Str))=false:=by decide)
  (hcd:(x == ("__classdict__":Str))=false:=by decide):PE X (.Name x pos) (tVar i):=pe_var hN hv hd hcd
end
def yw {A B:Prop} (h:B):if false=true then A else B:=by
 rw [if_neg q2x];exact h
def xN {A B:Prop} (h:A):if true=true then A else B:=by
 rw [if_pos rfl];exact h
def xA {c A B:Prop} [Decidable c] (h1:c->A) (h2:¬ c->B):if c then A else B:=by
 by_cases h:c
 ·rw [if_pos h]
  exact h1 h
 ·rw [if_neg h]
  exact h2 h
def Same (H H':Hp):Prop:=∀ b o,H b=some o->H' b=some o
def Same.refl (H:Hp):Same H H:=λ_ _ h=>h
def Same.trans {H H1 H2:Hp} (a:Same H H1) (b:Same H1 H2):Same H H2:=λc o h=>b c o (a c o h)
theorem Same.free {H H':Hp} (e:Same H H') {l:Ad} (h:H' l=Option.none):H l=Option.none:=by
 cases q:H l with
 | none=>rfl
 | some o =>
  rw [e l o q] at h;cases h
theorem ObjOk.here {P:Program} {w:World} {H:Hp} {h:Heap} {a:Ad} {o:HO} (x:ObjOk P w H h a o):∃ ob,h.get? a=some ob:=by
 cases o with
 | lst xs=>obtain ⟨_,_,_,_,e⟩:=x;exact ⟨_,e⟩
 | tup xs=>obtain ⟨_,_,_,ob,e,_⟩:=x;exact ⟨_,e⟩
 | dK kvs=>obtain ⟨_,_,_,_,ob,_,_,e,_⟩:=x;exact ⟨_,e⟩
 | dT kvs=>obtain ⟨_,_,_,_,ob,_,_,e,_⟩:=x;exact ⟨_,e⟩
 | set S n=>obtain ⟨ob,_,_,_,e,_⟩:=x;exact ⟨_,e⟩
 | ins C dx fs=>obtain ⟨_,_,_,e,_⟩:=x;exact ⟨_,e⟩
 | own y=>exact x
 | xd fs=>obtain ⟨_,⟨_,_,_,e,_⟩,_⟩:=x;exact ⟨_,e⟩
 | rng lo hi=>obtain ⟨_,_,_,e⟩:=x;exact ⟨_,e⟩
 | frz ob u=>obtain ⟨e,_⟩:=x;exact ⟨_,e⟩
 | tbl ps=>exact ⟨_,x⟩
 | met f y=>exact ⟨_,x⟩
 | ext φ=>obtain ⟨_,e,_⟩:=x;exact e
def mem_frs {env:Env} {l:List Env} {L:Ad} (hf:env.frame=some L):L∈frs (env::l):=by
 unfold frs;rw [List.filterMap_cons,hf];exact q1z
def xM {env:Env} {l:List Env} {L b:Ad} (hf:env.frame=some L) (hb:b∈frs l):b∈frs (env::l):=by
 unfold frs at *;rw [List.filterMap_cons,hf];exact q1y _ hb
theorem yX {h base base':Heap}:∀ {l:List Env},h.FunFrames base l->(∀ b∈frs l,base'.get? b=none)->h.FunFrames base' l
 | [],_,_=>trivial
 | _::_,⟨hk,⟨L,o,hf,_,ho,hd⟩,hr⟩,k=>⟨hk,⟨L,o,hf,k L (mem_frs hf),ho,hd⟩,yX hr λb hb=>k b (xM hf hb)⟩
structure Fly (base:Heap) (outer:List Env) (H:Hp) (s h:Heap) (e:Ad) (cls:Vl):Prop where
 stays:base.StaysIn h
 frames:h.FunFrames base outer
 baseE:base.get? e=none
 newE:s.get? e=none
 freeE:H e=none
 tr:∃ oe vs T oT ts,h.get? e=some oe/\oe.cls=cls/\oe.data=.fields vs/\vs[1]?=some (.ref T)/\T≠e/\h.get? T=some oT/\oT.data=.fields ts/\ts[3]?=some .none/\base.get? T=none/\s.get? T=none/\H T=none
def CXe (P:Program) (w:World) (base:Heap):CXT:=λouter H s E e s' =>
 ∃ (ea C:Ad) (H':Hp),e=.ref ea/\s'.os=s.os/\AllBare s'.gens/\Un (frs outer) [] H H' s.heap s'.heap/\HOk P w H' s'.heap/\Fly base outer H' s.heap s'.heap ea (.ref C)/\E (.ref C) none H'
section
variable {X:Cx} {pins:Ja} {σ:St} {H:Hp} {s:Sh} {e:Ad} {cls:Vl}
theorem lv_new {h1:Heap} {vs:Jb} {Q:Unit->Sh->Prop} {E:J5} (I:Inv X pins σ H s) (hst:X.stack=X.env::X.outer) (hf:X.env.frame=some X.env.locals) (hex:X.ex=[])
  (hx:Heap.MadeExcOf s.heap h1 e cls vs)
  (hQ:∀ h',Un X.fs [] X.H₀ H X.s₀.heap h'->HOk X.prog X.w H h'->Fly X.base X.outer H X.s₀.heap h' e cls->Q () { s with heap:=h' }) :
  wpAny (model X.prog X.w) X.A (leaving X.env (.ref e)) Q E { s with heap:=h1 }:=by
 have hfs:=I.stack;rw [hst] at hfs;have hfr:X.A.frames=some (X.env::X.outer):=by rw [← hst];exact I.ok.frames
 have fmem:∀ b∈frs (X.env::X.outer),X.base.get? b=none/\∃ o,s.heap.get? b=some o/\∀ vs,o.data≠.fields vs:=λb hb=>hfs.mem hb;have funt:∀ b∈frs (X.env::X.outer),H b=none:=λb hb=>I.stkFree b (by rw [hst];exact hb);have bget:∀ b o,b ∉ frs (X.env::X.outer)->s.heap.get? b=some o->(PySem.W.hideAll s.heap (frs (X.env::X.outer))).get? b=some o:=λb o n q=>PySem.W.hideAll_get _ q n;have bof:∀ b o,(PySem.W.hideAll s.heap (frs (X.env::X.outer))).get? b=some o->s.heap.get? b=some o:=λb o q=>PySem.W.of_hideAll _ q;have bno:∀ b∈frs (X.env::X.outer),(PySem.W.hideAll s.heap (frs (X.env::X.outer))).get? b=none:=λb hb=>PySem.W.hideAll_none _ hb
 have none_of:∀ b,s.heap.get? b=none->(PySem.W.hideAll s.heap (frs (X.env::X.outer))).get? b=none:=λb q=>by
  cases r:(PySem.W.hideAll s.heap (frs (X.env::X.outer))).get? b with
  | none=>rfl
  | some o=>rw [bof b o r] at q;cases q
 obtain ⟨t,he,_,_⟩:=hx.there;refine wpAny_leaving_first (base:=PySem.W.hideAll s.heap (frs (X.env::X.outer))) hfr (yX (hfs.of_keeps λb o hb _=>⟨o,hx.keeps b o hb,rfl⟩) bno) hf he (λb o q=>hx.keeps b o (bof b o q)) (none_of e hx.new) rfl rfl λh' hL=>?_;obtain ⟨k1,k2,k3,k4⟩:=hL;have neL:∀ b o,X.s₀.heap.get? b=some o->b≠X.env.locals:=λb o q=>Nat.ne_of_lt (q2z (Heap.lt_size q) I.ok.above)
 have inS:∀ b,b∈frs (X.env::X.outer)->b=X.env.locals∨b∈X.fs:=λb hb=>by
  rcases List.mem_cons.mp (I.stkSub b (by rw [hst];exact hb)) with z | z
  ·exact .inl z
  ·exact .inr z
 have keep:∀ b o,b ∉ frs (X.env::X.outer)->s.heap.get? b=some o->h'.get? b=some o:=λb o n q=>k1 b o (bget b o n q)
 have slot:∀ b o,b∈frs (X.env::X.outer)->s.heap.get? b=some o->∃ sl,h'.get? b=some { o with slots:=sl }:=λb o hb q=>by
  obtain ⟨_,o',q',nf⟩:=fmem b hb;rw [q] at q';cases q';exact k4 b o (hx.keeps b o q) nf
 have there0:∀ b,s.heap.get? b=none->X.s₀.heap.get? b=none:=λb q=>by
  cases r:X.s₀.heap.get? b with
  | none=>rfl
  | some o =>
   obtain ⟨o',z⟩:=I.base.there b o r (by rw [hex];simp);rw [z] at q;cases q
 have trk:∀ b o,H b=some o->b ∉ frs (X.env::X.outer):=λb o q hb=>by rw [funt b hb] at q;cases q
 refine hQ h' ⟨λb o q n hb _=>?_,λb o q n hb _=>?_,λb o q n _=>I.base.free b o q n (by rw [hex];simp),λb o q _=>?_,I.base.tups,I.base.frzs,I.base.tbls⟩ (λb o q=>?_) ⟨λb o q=>?_,?_,?_,there0 e hx.new,?_,?_⟩
 ·refine keep b o (λz=>?_) (I.base.keep b o q n hb (by rw [hex];simp))
  rcases inS b z with z | z
  ·exact neL b o q z
  ·exact hb z
 ·obtain ⟨sl,q1⟩:=I.base.slot b o q n hb (by rw [hex];simp)
  obtain ⟨sl',q2⟩:=slot b _ (xM hf hb) q1;exact ⟨sl',q2⟩
 ·obtain ⟨o',q1⟩:=I.base.there b o q (by rw [hex];simp)
  by_cases hb:b∈frs (X.env::X.outer)
  ·obtain ⟨sl,q2⟩:=slot b o' hb q1
   exact ⟨_,q2⟩
  ·exact ⟨_,keep b o' hb q1⟩
 ·exact (I.hok b o q).stay (λc u hc r=>keep c u (by
   rcases hc with rfl | hc
   ·exact trk _ _ q
   ·exact trk _ _ hc) r) (λ_ z=>z) λ_ _ z=>z
 ·refine keep b o (λz=>?_) (I.bk b o q)
  rw [(fmem b z).1] at q;cases q
 ·obtain ⟨_,_,k2⟩:=yX k2 (base':=X.base) λb hb=>(fmem b hb).1
  exact k2
 ·cases r:X.base.get? e with
  | none=>rfl
  | some o=>have:=I.bk e o r;rw [hx.new] at this;cases this
 ·cases r:H e with
  | none=>rfl
  | some o=>obtain ⟨ob,z⟩:=(I.hok e o r).here;rw [hx.new] at z;cases z
 ·obtain ⟨oe,ws,T,oT,ts,t1,t2,t3,t4,t5,t6,t7,t8,t9⟩:=k3
  have tf:T ∉ frs (X.env::X.outer):=λz=>by
   obtain ⟨_,o',q',nf⟩:=k2.mem z;rw [t7] at q';cases q';exact nf ts t8
  have tn:s.heap.get? T=none:=by
   cases r:s.heap.get? T with
   | none=>rfl
   | some o=>rw [bget T o tf r] at t5;cases t5
  refine ⟨oe,ws,T,oT,ts,t1,t2,t3,t4,t6,t7,t8,t9,?_,there0 T tn,?_⟩
  ·cases r:X.base.get? T with
   | none=>rfl
   | some o=>have:=I.bk T o r;rw [tn] at this;cases this
  ·cases r:H T with
   | none=>rfl
   | some o=>obtain ⟨ob,z⟩:=(I.hok T o r).here;rw [tn] at z;cases z
end
section
variable {X:Cx} {pins:Ja} {σ:St} {H H':Hp} {s s':Sh} {e:Ad} {cls:Vl}
theorem lv_on {Q:Unit->Sh->Prop} {E:J5} (I:Inv X pins σ H s) (hst:X.stack=X.env::X.outer) (hf:X.env.frame=some X.env.locals) (hex:X.ex=[])
  (u:Un (frs X.stack) [] H H' s.heap s'.heap) (hok:HOk X.prog X.w H' s'.heap) (fl:Fly X.base X.stack H' s.heap s'.heap e cls)
  (hQ:∀ h',Un X.fs [] X.H₀ H' X.s₀.heap h'->HOk X.prog X.w H' h'->Fly X.base X.outer H' X.s₀.heap h' e cls->Q () { s' with heap:=h' }) :
  wpAny (model X.prog X.w) X.A (leaving X.env (.ref e)) Q E s':=by
 obtain ⟨y1,y2,y3,y4,y5,oe,ws,T,oT,ts,t1,t2,t3,t4,t6,t7,t8,t9,t10,t11,t12⟩:=fl;rw [hst] at y2 u;have hfs:=I.stack;rw [hst] at hfs;have hfr:X.A.frames=some (X.env::X.outer):=by rw [← hst];exact I.ok.frames
 have fbase:∀ b∈frs (X.env::X.outer),X.base.get? b=none:=λb hb=>(hfs.mem hb).1;have fdat:∀ b∈frs (X.env::X.outer),∃ o,s'.heap.get? b=some o/\∀ vs,o.data≠.fields vs:=λb hb=>(y2.mem hb).2
 have funt:∀ b∈frs (X.env::X.outer),H' b=none:=λb hb=>by
  obtain ⟨_,o,ho,_⟩:=hfs.mem hb;exact u.free b o ho (I.stkFree b (by rw [hst];exact hb)) (by simp)
 have bget:∀ b o,b ∉ e::T::frs (X.env::X.outer)->s'.heap.get? b=some o->(PySem.W.hideAll s'.heap (e::T::frs (X.env::X.outer))).get? b=some o:=λb o n q=>PySem.W.hideAll_get _ q n;have bof:∀ b o,(PySem.W.hideAll s'.heap (e::T::frs (X.env::X.outer))).get? b=some o->s'.heap.get? b=some o:=λb o q=>PySem.W.of_hideAll _ q;have bno:∀ b∈e::T::frs (X.env::X.outer),(PySem.W.hideAll s'.heap (e::T::frs (X.env::X.outer))).get? b=none:=λb hb=>PySem.W.hideAll_none _ hb;refine wpAny_leaving_next (base:=PySem.W.hideAll s'.heap (e::T::frs (X.env::X.outer))) (cls:=cls) hfr (yX y2 λb hb=>bno b (by simp [hb])) hf
  ⟨oe,ws,T,oT,ts,t1,t2,t3,t4,bno T (by simp),t6,t7,t8,t9⟩ (λb o q=>bof b o q) (bno e (by simp)) λh' hL=>?_
 obtain ⟨k1,k2,k3,k4⟩:=hL;have neL:∀ b o,X.s₀.heap.get? b=some o->b≠X.env.locals:=λb o q=>Nat.ne_of_lt (q2z (Heap.lt_size q) I.ok.above)
 have inS:∀ b,b∈frs (X.env::X.outer)->b=X.env.locals∨b∈X.fs:=λb hb=>by
  rcases List.mem_cons.mp (I.stkSub b (by rw [hst];exact hb)) with z | z
  ·exact .inl z
  ·exact .inr z
 have keep:∀ b o,b ∉ frs (X.env::X.outer)->b≠e->b≠T->s'.heap.get? b=some o->h'.get? b=some o:=λb o n n1 n2 q=>k1 b o (bget b o (by simp [n,n1,n2]) q)
 have slot:∀ b o,b∈frs (X.env::X.outer)->s'.heap.get? b=some o->∃ sl,h'.get? b=some { o with slots:=sl }:=λb o hb q=>by
  obtain ⟨o',q',nf⟩:=fdat b hb;rw [q] at q';cases q';exact k4 b o q nf
 have old:∀ b o,s.heap.get? b=some o->b≠e/\b≠T:=λb o q=>⟨λz=>(by rw [z,y4] at q;cases q),λz=>(by rw [z,t11] at q;cases q)⟩
 have there0:∀ b,s.heap.get? b=none->X.s₀.heap.get? b=none:=λb q=>by
  cases r:X.s₀.heap.get? b with
  | none=>rfl
  | some o =>
   obtain ⟨o',z⟩:=I.base.there b o r (by rw [hex];simp);rw [z] at q;cases q
 have trk:∀ b o,H' b=some o->b ∉ frs (X.env::X.outer)/\b≠e/\b≠T:=λb o q=>⟨λhb=>(by rw [funt b hb] at q;cases q),λz=>(by rw [z,y5] at q;cases q),λz=>(by rw [z,t12] at q;cases q)⟩;refine hQ h' ⟨λb o q n hb _=>?_,λb o q n hb _=>?_,λb o q n _=>?_,λb o q _=>?_,λb xs q=>u.tups b xs (I.base.tups b xs q),λb o x q=>u.frzs b o x (I.base.frzs b o x q),λb ps q=>?_⟩ (λb o q=>?_) ⟨λb o q=>?_,?_,y3,there0 e y4,y5,?_⟩
 ·have q1:=I.base.keep b o q n hb (by rw [hex];simp)
  have n1:=I.base.free b o q n (by rw [hex];simp)
  have nf:b ∉ frs (X.env::X.outer):=λz=>by
   rcases inS b z with z | z
   ·exact neL b o q z
   ·exact hb z
  exact keep b o nf (old b o q1).1 (old b o q1).2 (u.keep b o q1 n1 nf (by simp))
 ·obtain ⟨sl,q1⟩:=I.base.slot b o q n hb (by rw [hex];simp)
  have n1:=I.base.free b o q n (by rw [hex];simp);obtain ⟨sl2,q2⟩:=u.slot b _ q1 n1 (xM hf hb) (by simp);obtain ⟨sl',q3⟩:=slot b _ (xM hf hb) q2;exact ⟨sl',q3⟩
 ·obtain ⟨o',q1⟩:=I.base.there b o q (by rw [hex];simp)
  exact u.free b o' q1 (I.base.free b o q n (by rw [hex];simp)) (by simp)
 ·obtain ⟨o',q1⟩:=I.base.there b o q (by rw [hex];simp)
  obtain ⟨o2,q2⟩:=u.there b o' q1 (by simp);by_cases hb:b∈frs (X.env::X.outer)
  ·obtain ⟨sl,q3⟩:=slot b o2 hb q2
   exact ⟨_,q3⟩
  ·exact ⟨_,keep b o2 hb (old b o' q1).1 (old b o' q1).2 q2⟩
 ·obtain ⟨m1,e1⟩:=I.base.tbls b ps q
  obtain ⟨m2,e2⟩:=u.tbls b _ e1;exact ⟨m1++m2,by rw [e2,Array.append_assoc]⟩
 ·exact (hok b o q).stay (λc v hc r=>by
   have z:c ∉ frs (X.env::X.outer)/\c≠e/\c≠T:=by
    rcases hc with rfl | hc
    ·exact trk _ _ q
    ·exact trk _ _ hc
   exact keep c v z.1 z.2.1 z.2.2 r) (λ_ z=>z) λ_ _ z=>z
 ·refine keep b o (λz=>by rw [fbase b z] at q;cases q) (λz=>by rw [z,y3] at q;cases q) (λz=>by rw [z,t10] at q;cases q) (y1 b o q)
 ·obtain ⟨_,_,k2⟩:=yX k2 (base':=X.base) λb hb=>fbase b hb
  exact k2
 ·obtain ⟨oe',ws',T',oT',ts',r1,r2,r3,r4,r5,r6,r7,r8,r9⟩:=k3
  by_cases hT:T'=T
  ·subst hT
   exact ⟨oe',ws',T',oT',ts',r1,r2,r3,r4,r6,r7,r8,r9,t10,there0 T' t11,t12⟩
  ·have tf:T' ∉ frs (X.env::X.outer):=λz=>by
    obtain ⟨_,o',q',nf⟩:=k2.mem z;rw [r7] at q';cases q';exact nf ts' r8
   have tn:s'.heap.get? T'=none:=by
    cases r:s'.heap.get? T' with
    | none=>rfl
    | some o=>rw [bget T' o (by simp [tf,r6,hT]) r] at r5;cases r5
   have tn0:s.heap.get? T'=none:=by
    cases r:s.heap.get? T' with
    | none=>rfl
    | some o =>
     obtain ⟨o',z⟩:=u.there T' o r (by simp);rw [tn] at z;cases z
   refine ⟨oe',ws',T',oT',ts',r1,r2,r3,r4,r6,r7,r8,r9,?_,there0 T' tn0,?_⟩
   ·cases r:X.base.get? T' with
    | none=>rfl
    | some o=>have:=y1 T' o r;rw [tn] at this;cases this
   ·cases r:H' T' with
    | none=>rfl
    | some o=>obtain ⟨ob,z⟩:=(hok T' o r).here;rw [tn] at z;cases z
end
section
variable {P:Program} {w:World} {K:Fg} {mg:J0} {base:Heap} {N:Jd} {qual:Str} {scope:Scope} {f:Ad} {cd:Vl} {A:Around} {outer:List Env} {s:Sh} {H:Hp} {E:XK}
def Xf:xo (CXe P w base) (ym (CXe P w base) P w K mg base N qual scope f cd A outer s H E) E:=by
 intro pins σ H1 s1 e s' I h;obtain ⟨ea,C,H',rfl,os,bare,un,hok,fl,q⟩:=h;exact lv_on I rfl rfl rfl un hok fl λh' u' hok' fl'=>⟨ea,C,H',rfl,os.trans I.os,bare,u',hok',fl',q⟩
def Throws (X:Cx) (E:XK):Prop:=∀ (pins:Ja) (σ:St) (H:Hp) (s:Sh) (h':Heap) (e C:Ad) (vs:Jb),Inv X pins σ H s->Heap.MadeExcOf s.heap h' e (.ref C) vs->E (.ref C) none H->X.xe (.ref e) { s with heap:=h' }
def throwE:Throws (ym (CXe P w base) P w K mg base N qual scope f cd A outer s H E) E:=by
 intro pins σ H1 s1 h1 e C vs I hx q;exact lv_new I rfl rfl rfl hx λh' u' hok' fl'=>⟨e,C,H1,rfl,I.os,I.bare,u',hok',fl',q⟩
end
end L2
namespace My
open PySem PySem.Spec PySem.Calls PySem.W PyProof.Rows PySem.Builtin PySem.Builtin.ObjectAttr PySem.Builtin.Getset_descriptor
def ClsAt (x D:Ad) (h:Heap):Prop:=∃ o,h.get? x=some o/\o.cls=.ref D
def clsAt_ty {x D:Ad} (M:Model) (h:Heap) (p:ClsAt x D h):Looks M h (typeOf (.ref x)) (.ref D):=by
 obtain ⟨o,a,b⟩:=p;exact b ▸ (Looks.ld a).andThen .now
def find_data {K:Frag} {M:Model} {h:Heap} (X:K.In h) {x D:Ad} {name:Str} {g a:Vl} (ha:findIn K (.ref D) name=some (some a)) (hn:specialIn K a "__get__"=some (some g)) (htk:takesIn K a=some true) :
  Looks M h (find (.ref x) (.ref D) name) (.bind g a) :=
 (looks_findIn X ha).andThen ((show Looks M h (getOf (some a)) (some g) from looks_specialIn X hn).andThen ((show Looks M h (dataDescriptor? (some a) (some g)) (some (g,a)) from (looks_takesIn X htk).andThen .now).andThen (Looks.tag .now)))
section
variable {prog:Program} {w:World} {A:Around} {E:J5} {s:Sh} {K:Frag} {x D:Ad} {R:Result->Sh->Prop}
def class_of {tp:Vl} (X:K.In s.heap) (p:ClsAt x D s.heap) (hm:mroIn K D (.type "object")=some true) (h:R (.ok (.ret (.ref D))) s) :
  codeAny (model prog w) A (.call (.builtin "getset_descriptor.__get__") ⟨[.builtin "object.__class__",.ref x,tp],[]⟩) R s:=by
 obtain ⟨h0,g0,d0,t0,o0⟩:=s;have T0:=clsAt_ty (model prog w) h0 p;have T1:=looks_mroIn (M:=model prog w) X hm;refine codeAny_call_builtin KF.slot_gs.plain KF.entry_gs (KF.slot_gs.check _ _ _ _ _ _ _ _ KF.type_class (KF.args_gs _ _ _) ?_);unfold Builtin.«getset_descriptor.__get__» descrGet;rw [dga_obj];refine q0x (q0y ?_);unfold descrGetter descrCheckInstance descrNameAndClass isInstance;simp only [KF.owner_class]
 repeat lk
 refine ⟨Code.quiet_builtin _ (by decide +kernel),codeAny_builtin KF.entry_class ?_⟩;unfold Builtin.«object.__class__» shownTypeOf
 repeat lk
 exact h
def ga_check {M:Model} {Q:Unit->Sh->Prop} {nameV:Vl} {h0:Heap} {g0:Array GenState} {d0:Drawn} {t0:Nat} {o0:OsState} (T0:Looks M h0 (typeOf (.ref x)) (.ref D)) (TS:Looks M h0 (isSubtype (.ref D) (.type "BaseException")) true) (hq:Q () ⟨h0,g0,d0,t0,o0⟩) :
  wpAny M A (checkBuiltinCall "BaseException.__getattribute__" ⟨[.ref x,nameV],[]⟩) Q E ⟨h0,g0,d0,t0,o0⟩:=by
 have e1:builtinKind "BaseException.__getattribute__"=some .slot:=by decide +kernel
 have e2:splitId "BaseException.__getattribute__"=some ("BaseException","__getattribute__"):=by decide +kernel
 have e3:=F.args_bexc_ga (.ref x) nameV;simp only [checkBuiltinCall,e1,e2];refine q0x ?_;unfold isInstance
 repeat (first | lk | wp_step)
 exact hq
def ga_entry {Q:Fin->Sh->Prop} {tk:Tok} {h0:Heap} {g0:Array GenState} {d0:Drawn} {t0:Nat} {o0:OsState} (X:K.In h0) (p:ClsAt x D h0) (ha:findIn K (.ref D) "__class__"=some (some (.builtin "object.__class__")))
  (hn:specialIn K (.builtin "object.__class__") "__get__"=some (some (.builtin "getset_descriptor.__get__"))) (htk:takesIn K (.builtin "object.__class__")=some true) (hm:mroIn K D (.type "object")=some true) (hq:Q (.done (.ret (.ref D))) ⟨h0,g0,d0,t0,o0⟩) :
  wpAny (model prog w) A (Builtin.«object.__getattribute__» ⟨[.ref x,.str "__class__" tk],[]⟩) Q E ⟨h0,g0,d0,t0,o0⟩:=by
 have T0:=clsAt_ty (model prog w) h0 p;have T2:=find_data (M:=model prog w) X (x:=x) ha hn htk;unfold Builtin.«object.__getattribute__»;refine q0x (q0y ?_)
 repeat (first | (with_reducible refine q0x (T0.at ?_)) | (with_reducible refine q0x (T2.at ?_)) | wp_step)
 refine class_of (s:=⟨h0,g0,d0,t0,o0⟩) X p hm ?_
 repeat (any_goals (first | assumption | wp_step))
def zcv {Q:Jc->Sh->Prop} (hg:findIn K (.ref D) "__getattribute__"=some (some (.builtin "BaseException.__getattribute__"))) (hgg:findIn K (.ref D) "__getattr__"=some none) (hsb:subIn K (.ref D) (.type "BaseException")=some true) (ha:findIn K (.ref D) "__class__"=some (some (.builtin "object.__class__")))
  (hn:specialIn K (.builtin "object.__class__") "__get__"=some (some (.builtin "getset_descriptor.__get__"))) (htk:takesIn K (.builtin "object.__class__")=some true) (hm:mroIn K D (.type "object")=some true)
  (X:K.In s.heap) (p:ClsAt x D s.heap) (h:Q (some (.ref D)) { s with toks:=s.toks+1 }):wpAny (model prog w) A (getAttr? (.ref x) "__class__") Q E s:=by
 obtain ⟨h0,g0,d0,t0,o0⟩:=s;have T0:=clsAt_ty (model prog w) h0 p;have T1:=looks_findIn (M:=model prog w) X hg;have T3:=looks_findIn (M:=model prog w) X hgg;have TS:=looks_subIn (M:=model prog w) X hsb;have f3:=F.excAttr_ValueError.ga.bind (.ref x);have hx2:(Value.builtin "BaseException.__getattribute__" == Value.builtin "object.__getattribute__")=false:=by decide +kernel
 have hx1:(onTheHeap (Value.ref D) && Value.builtin "BaseException.__getattribute__" == Value.builtin "object.__getattribute__")=false:=by rw [hx2];rfl
 unfold getAttr? getAttrBy? getAttrBy;refine q0x (wpAny_mkText (q0x (wpAny_attempt (wpAny_holding (q0x (T0.at (q0x (T1.at ?_))))))));dsimp only;rw [if_neg (by rw [hx1];exact q2x)];unfold getAttrByItsOwn hookBefore;rw [if_pos (show onTheHeap (Value.ref D)=true from rfl)];refine q0x (T3.at ?_)
 repeat (any_goals (first | assumption | wp_step | lk))
 refine codeAny_call_builtin F.excAttr_ValueError.ga.plain F.entry_bexc_ga (ga_check T0 TS (ga_entry (K:=K) X p ha hn htk hm ?_))
 repeat (any_goals (first | assumption | wp_step))
def kitx_exc (hg:findIn K (.ref D) "__getattribute__"=some (some (.builtin "BaseException.__getattribute__"))) (hgg:findIn K (.ref D) "__getattr__"=some none) (hsb:subIn K (.ref D) (.type "BaseException")=some true) (hd:hasDictIn K D=true) (ha:findIn K (.ref D) "__class__"=some (some (.builtin "object.__class__")))
  (hn:specialIn K (.builtin "object.__class__") "__get__"=some (some (.builtin "getset_descriptor.__get__"))) (htk:takesIn K (.builtin "object.__class__")=some true) (hm:mroIn K D (.type "object")=some true) :
  KitX K (.ref x) (.ref D) (ClsAt x D) where
 ty:=λM h _ p=>clsAt_ty M h p
 it:=λM h X _=>by
  obtain ⟨c,hc,_⟩:=any_some hd;unfold clsIn at hc
  split at hc
  ·rename_i u1 u2 u3 u4 ho
   intro A' Q' E' s' k q;unfold isType loadHead;exact q0x (wpAny_loadPart (k _ _ (X _ _ ho)) (q0y q))
  ·cases hc
 ne:=λh tp dd its n sl X e=>by
  obtain ⟨c,hc,_⟩:=any_some hd;refine Bool.eq_false_iff.mpr λq=>?_;obtain rfl:D=tp:=Value.ref.inj (beq_iff_eq.mp q);unfold clsIn at hc
  split at hc
  ·rename_i u1 u2 u3 u4 ho
   have z:=(X _ _ ho).symm.trans e;cases z
  ·cases hc
 ca:=λX p k=>zcv hg hgg hsb ha hn htk hm X p k
end
end My
namespace L2
open PySem PySem.Spec PyProof.Rows
section
variable {X:Cx} {pins:Ja} {σ:St} {H H':Hp} {s s':Sh} {e C:Ad}
structure Mid (X:Cx) (H':Hp) (s:Heap) (s':Heap) (e C:Ad) (B:Heap) (a0:Vl) (T:Ad) (h:Heap):Prop where
 fly:Heap.FlyingW B (X.env::X.outer) e (.ref C) a0 h
 slots:s'.UpToSlots h
def mid_inv {B h:Heap} {a0:Vl} {T:Ad} (I:Inv X pins σ H s) (hst:X.stack=X.env::X.outer)
  (u:Un (frs X.stack) [] H H' s.heap s'.heap) (hok:HOk X.prog X.w H' s'.heap) (bare:AllBare s'.gens) (os:s'.os=s.os) (fl:Fly X.base X.stack H' s.heap s'.heap e (.ref C))
  (nT:s.heap.get? T=none) (fT:H' T=none) (hB:∀ b o,b ∉ e::T::frs X.stack->s'.heap.get? b=some o->B.get? b=some o) (hfl:B.StaysIn h) (hsl:s'.heap.UpToSlots h) :
  Inv X pins σ H' { s' with heap:=h }:=by
 obtain ⟨y1,y2,y3,y4,y5,_⟩:=fl;have fdat:∀ b∈frs X.stack,∃ o,s'.heap.get? b=some o/\∀ vs,o.data≠.fields vs:=λb hb=>(y2.mem hb).2;have keep:∀ b o,b ∉ frs X.stack->b≠e->b≠T->s'.heap.get? b=some o->h.get? b=some o:=λb o n n1 n2 q=>hfl b o (hB b o (by simp [n,n1,n2]) q)
 have slot:∀ b o,b∈frs X.stack->s'.heap.get? b=some o->∃ sl,h.get? b=some { o with slots:=sl }:=λb o hb q=>by
  obtain ⟨o',q',nf⟩:=fdat b hb;rw [q] at q';cases q';exact hsl b o q nf
 have old:∀ b o,s.heap.get? b=some o->b≠e/\b≠T:=λb o q=>⟨λz=>(by rw [z,y4] at q;cases q),λz=>(by rw [z,nT] at q;cases q)⟩
 have funt:∀ b∈frs X.stack,H' b=none:=λb hb=>by
  obtain ⟨_,o,ho,_⟩:=I.stack.mem hb;exact u.free b o ho (I.stkFree b hb) (by simp)
 have trk:∀ b o,H' b=some o->b ∉ frs X.stack/\b≠e/\b≠T:=λb o q=>⟨λhb=>(by rw [funt b hb] at q;cases q),λz=>(by rw [z,y5] at q;cases q),λz=>(by rw [z,fT] at q;cases q)⟩;refine I.call' (s':={ s' with heap:=h }) (ch:=[]) os ⟨λb o q n hb _=>?_,λb o q n hb _=>?_,u.free,λb o q _=>?_,u.tups,u.frzs,u.tbls⟩ (λb o q=>?_) bare (λb z=>absurd z (by simp))
 ·exact keep b o hb (old b o q).1 (old b o q).2 (u.keep b o q n hb (by simp))
 ·obtain ⟨sl,q1⟩:=u.slot b o q n hb (by simp)
  obtain ⟨sl',q2⟩:=slot b _ hb q1;exact ⟨sl',q2⟩
 ·obtain ⟨o',q1⟩:=u.there b o q (by simp)
  by_cases hb:b∈frs X.stack
  ·obtain ⟨sl,q2⟩:=slot b o' hb q1
   exact ⟨_,q2⟩
  ·exact ⟨_,keep b o' hb (old b o q).1 (old b o q).2 q1⟩
 ·exact (hok b o q).stay (λc v hc r=>by
   have z:c ∉ frs X.stack/\c≠e/\c≠T:=by
    rcases hc with rfl | hc
    ·exact trk _ _ q
    ·exact trk _ _ hc
   exact keep c v z.1 z.2.1 z.2.2 r) (λ_ z=>z) λ_ _ z=>z
def Landed (X:Cx) (pins:Ja) (σ:St) (H':Hp) (e C:Ad) (s1:Sh):Prop :=
 ∃ (H:Hp) (s s':Sh) (B:Heap) (a0:Vl) (T:Ad),Inv X pins σ H s/\Un (frs X.stack) [] H H' s.heap s'.heap/\HOk X.prog X.w H' s'.heap/\AllBare s'.gens/\s'.os=s.os/\Fly X.base X.stack H' s.heap s'.heap e (.ref C) /\
  s.heap.get? T=none/\H' T=none/\(∀ b o,b ∉ e::T::frs X.stack->s'.heap.get? b=some o->B.get? b=some o)/\Heap.FlyingW B (X.env::X.outer) e (.ref C) a0 s1.heap/\s'.heap.UpToSlots s1.heap/\s1={ s' with heap:=s1.heap }
def Landed.inv {s1:Sh} (l:Landed X pins σ H' e C s1) (hst:X.stack=X.env::X.outer):Inv X pins σ H' s1:=by
 obtain ⟨H,s,s',B,a0,T,I,u,hok,bare,os,fl,nT,fT,hB,hfl,hsl,es⟩:=l;rw [es];exact mid_inv (a0:=a0) I hst u hok bare os fl nT fT hB hfl.1 hsl
def Landed.cls {s1:Sh} (l:Landed X pins σ H' e C s1):My.ClsAt e C s1.heap:=by
 obtain ⟨H,s,s',B,a0,T,I,u,hok,bare,os,fl,nT,fT,hB,hfl,hsl,es⟩:=l;exact hfl.there
def Landed.free {s1:Sh} (l:Landed X pins σ H' e C s1):H' e=none:=by
 obtain ⟨H,s,s',B,a0,T,I,u,hok,bare,os,fl,_⟩:=l;exact fl.freeE
def Landed.again {s1:Sh} {M:Model} {A:Around} {E:J5} {Q:Unit->Sh->Prop} (l:Landed X pins σ H' e C s1) (h:∀ s2,Landed X pins σ H' e C s2->Q () s2):wpAny M A (setFlight (.ref e) none) Q E s1:=by
 obtain ⟨H,s,s',B,a0,T,I,u,hok,bare,os,fl,nT,fT,hB,hfl,hsl,es⟩:=l;refine lands_againW hfl λh' f2 u2=>h _ ⟨H,s,s',B,a0,T,I,u,hok,bare,os,fl,nT,fT,hB,f2,hsl.trans u2,?_⟩;show ({ s1 with heap:=h' }:Sh)={ s' with heap:=h' };rw [es]
def land {E:XK} {ev:Vl} {E':J5} {F:Sh->Prop} (I:Inv X pins σ H s) (hst:X.stack=X.env::X.outer) (hf:X.env.frame=some X.env.locals) (h:CXe X.prog X.w X.base X.stack H s E ev s')
  (k:∀ e C H' s1,ev=.ref e->E (.ref C) none H'->Landed X pins σ H' e C s1->F s1) :
  wpAny (model X.prog X.w) X.A (noteFrame ev X.env) (λ_ s2=>wpAny (model X.prog X.w) X.A (setFlight ev none) (λ_ s3=>F s3) E' s2) E' s':=by
 obtain ⟨e,C,H',rfl,os,bare,u,hok,fl,q⟩:=h;obtain ⟨y1,y2,y3,y4,y5,oe,ws,T,oT,ts,t1,t2,t3,t4,t6,t7,t8,t9,t10,t11,t12⟩:=id fl;have hfr:X.A.frames=some (X.env::X.outer):=by rw [← hst];exact I.ok.frames
 have bno:∀ b∈e::T::frs (X.env::X.outer),(PySem.W.hideAll s'.heap (e::T::frs (X.env::X.outer))).get? b=none:=λb hb=>PySem.W.hideAll_none _ hb;have bof:∀ b o,(PySem.W.hideAll s'.heap (e::T::frs (X.env::X.outer))).get? b=some o->s'.heap.get? b=some o:=λb o q=>PySem.W.of_hideAll _ q;have sz:1<ws.size:=(Array.getElem?_eq_some_iff.mp t4).1
 have fw:Heap.FlyingW (PySem.W.hideAll s'.heap (e::T::frs (X.env::X.outer))) (X.env::X.outer) e (.ref C) ws[0] s'.heap :=
  ⟨λb o q=>bof b o q,bno e (by simp),yX (hst ▸ y2) (λb hb=>bno b (by simp [hb])),oe,ws,T,oT,ts,t1,⟨t2,by simp⟩,t3,t4,bno T (by simp),t6,t7,t8,t9⟩
 refine wpAny_looks_onW hfr hf fw λh1 k1 u1=>?_;refine wpAny_landsW k1 λh2 k2 u2=>?_;refine k e C H' _ rfl q ⟨H,s,s',_,_,T,I,u,hok,bare,os,fl,t11,t12,λb o hb r=>?_,k2,u1.trans u2,rfl⟩;rw [hst] at hb;exact PySem.W.hideAll_get _ r hb
end
abbrev Cx.exc (X:Cx) (e:Ad):Cx:={ X with A:=X.A.mark (some (.ref e)),calm:=false,xe:=λ_ _=>False }
def Cx.Ok.exc {X:Cx} (ok:X.Ok) (e:Ad):(X.exc e).Ok :=
 ⟨ok.mod,ok.kind,ok.glob,ok.blt,ok.above,ok.inj,ok.has,ok.cab,(λz=>nomatch z),ok.frames,ok.stk,ok.exf,ok.bs,ok.bsz,ok.noex,ok.exfs,ok.funs,ok.frf⟩
section
variable {X:Cx} {pins:Ja} {σ:St} {H H':Hp} {s s':Sh} {e C:Ad}
def Inv.exc (I:Inv X pins σ H s) (e:Ad):Inv (X.exc e) pins σ H s:=⟨I.ok.exc e,I.os,I.bare,I.base,I.loc,I.cell,I.free,I.freeC,I.pin,I.hok,I.len⟩
def Inv.unexc (I:Inv (X.exc e) pins σ H s) (ok:X.Ok):Inv X pins σ H s:=⟨ok,I.os,I.bare,I.base,I.loc,I.cell,I.free,I.freeC,I.pin,I.hok,I.len⟩
def excO (e C:Ad):HO:=.ext (My.ClsAt e C)
def Landed.held {s1:Sh} (l:Landed X pins σ H' e C s1) (hst:X.stack=X.env::X.outer):Inv X pins σ (upd H' e (excO e C)) s1:=by
 have J:=l.inv hst;have fe:=l.free;obtain ⟨oe,he,hc⟩:=l.cls;obtain ⟨H,s,s',B,a0,T,I,u,hok,bare,os,fl,_⟩:=l;have ne:∀ b o,s.heap.get? b=some o->b≠e:=λb o q z=>by rw [z,fl.newE] at q;cases q
 have ne0:∀ b o,X.s₀.heap.get? b=some o->b ∉ X.ex->b≠e:=λb o q hx=>by
  obtain ⟨o',q1⟩:=I.base.there b o q hx;exact ne b o' q1
 have neH:∀ b o,H' b=some o->b≠e:=λb o q z=>by rw [z,fe] at q;cases q
 refine ⟨J.ok,J.os,J.bare,⟨J.base.keep,J.base.slot,λb o q n hx=>?_,J.base.there,λb xs q=>?_,λb o x q=>?_,λb ps q=>?_⟩,J.loc,J.cell,?_,λx c q=>?_,λp hp=>?_,λb o q=>?_,J.len⟩
 ·rw [zj (ne0 b o q hx)];exact J.base.free b o q n hx
 ·have z:=J.base.tups b xs q
  rw [zj (neH _ _ z)];exact z
 ·have z:=J.base.frzs b o x q
  rw [zj (neH _ _ z)];exact z
 ·obtain ⟨m,z⟩:=J.base.tbls b ps q
  exact ⟨m,by rw [zj (neH _ _ z)];exact z⟩
 ·obtain ⟨m,⟨o,_,_,ho,_⟩,_⟩:=I.loc
  rw [zj (ne _ o ho)];exact J.free
 ·obtain ⟨v,o,ho,_⟩:=I.cell x c q
  rw [zj (ne _ o ho)];exact J.freeC x c q
 ·obtain ⟨q1,q2,q3,q4,q5⟩:=J.pin p hp
  obtain ⟨r1,_⟩:=I.pin p hp;exact ⟨q1,by rw [zj (ne _ _ r1)];exact q2,q3,q4,q5⟩
 ·by_cases hb:b=e
  ·subst hb
   rw [zh] at q;cases q;refine ⟨⟨oe,he,hc⟩,⟨oe,he⟩,λh1 h2 p k=>?_⟩;obtain ⟨o1,p1,p2⟩:=p;exact ⟨o1,k o1 p1,p2⟩
  ·rw [zj hb] at q
   exact (J.hok b o q).stay (λc v _ r=>r) (λc r=>by rw [zj (neH _ _ r)];exact r) λc xs r=>by rw [zj (neH _ _ r)];exact r
def PH (X:Cx) (hs:List ExceptHandler) (th:Ad->Ad->TS):Prop :=
 ∀ (pins:Ja) (s1:Sh) (σ:St) (H':Hp) (e C:Ad) (D:Ends),Landed X pins σ H' e C s1->th e C D σ H'->wpAny (model X.prog X.w) X.A (handleBy (.ref e) X.env hs) (SP X pins D) X.xe s1
def ph_nil:PH X [] (λ_ _ _ _ _=>False):=λ_ _ _ _ _ _ _ _ h=>h.elim
def hNo (K:Fg) (B:Ad) (t:Ad->TS) (tr:Ad->Ad->TS):Ad->Ad->TS:=λe C D σ H'=>∃ b,PySem.W.exmOne K (.ref C) (.ref B)=some b /\
 if b=true then t e D σ (upd H' e (excO e C)) else tr e C D σ H'
theorem ph_no {x:Str} {B:Ad} {np pos:Pos} {b₀:Stmt} {suite:List Stmt} {rest:List ExceptHandler} {t:Ad->TS} {tr:Ad->Ad->TS} (hst:X.stack=X.env::X.outer) (hg:Gl X x) (hm:X.mg x=some (.ref B))
  (hs:∀ e,PSs (X.exc e) (b₀::suite) (t e)) (hr:PH X rest tr) (hd:(x == ("__debug__":Str))=false:=by decide) :
  PH X (.ExceptHandler (some (.Name x np)) none (b₀::suite) pos::rest) (hNo X.K B t tr):=by
 intro pins s1 σ H' e C D l h;obtain ⟨b,hx,h⟩:=h;have J:=l.inv hst;refine wpAny_handleBy_cons (codeAny_handlers_test (ZG (J.exc e) hg hm ?_ hd)) (λz=>nomatch z);refine PySem.W.exm_one J.kIn (My.clsAt_ty _ _ l.cls) hx _ _ _ _ (λ_ _ z=>z) ?_
 cases b with
 | false=>exact hr pins s1 σ H' e C D l (by simpa using h)
 | true =>
  rw [if_pos rfl] at h;refine codeAny_handlers_suite (l.again λs2 l2=>?_);have I2:=(l2.held hst).exc e;refine wpAny_mono (hs e pins s2 _ _ _ I2 h) (λf s4 q=>?_) λ_ _ z=>z.elim
  cases f with
  | next=>obtain ⟨σ',H2,I4,q⟩:=q;exact ⟨_,_,I4.unexc J.ok,q⟩
  | brk=>obtain ⟨σ',H2,I4,q⟩:=q;exact ⟨_,_,I4.unexc J.ok,q⟩
  | cont=>obtain ⟨σ',H2,I4,q⟩:=q;exact ⟨_,_,I4.unexc J.ok,q⟩
  | ret u=>obtain ⟨v,σ',H2,I4,r,q⟩:=q;exact ⟨v,_,_,I4.unexc J.ok,r,q⟩
end
def trX (X:Cx) (pins:Ja) (σ₀:St) (R:Ad->Hp->Prop):J5:=λev s' =>
 ∃ (H:Hp) (s:Sh) (E:XK),Inv X pins σ₀ H s/\CXe X.prog X.w X.base X.stack H s E ev s'/\∀ C H',E (.ref C) none H'->R C H'
abbrev Cx.tr (X:Cx) (pins:Ja) (σ₀:St) (R:Ad->Hp->Prop):Cx:={ X with pn:=X.pn++pins,xe:=trX X pins σ₀ R }
def XE (R:Ad->Hp->Prop):XK:=λc _ H'=>∃ C,c=.ref C/\R C H'
section
variable {X:Cx} {pins:Ja} {σ σ₀:St} {H H':Hp} {s s':Sh} {R:Ad->Hp->Prop}
def Cx.Ok.tr (ok:X.Ok):(X.tr pins σ₀ R).Ok :=
 ⟨ok.mod,ok.kind,ok.glob,ok.blt,ok.above,ok.inj,ok.has,ok.cab,ok.hd,ok.frames,ok.stk,ok.exf,ok.bs,ok.bsz,ok.noex,ok.exfs,ok.funs,ok.frf⟩
def Inv.tr (I:Inv X pins σ H s):Inv (X.tr pins σ₀ R) [] σ H s :=
 ⟨I.ok.tr,I.os,I.bare,I.base,I.loc,I.cell,I.free,I.freeC,λp hp=>I.pin p (by simpa using hp),I.hok,I.len⟩
def Inv.untr {ps:Ja} (I:Inv (X.tr pins σ₀ R) ps σ H s) (ok:X.Ok):Inv X pins σ H s :=
 ⟨ok,I.os,I.bare,I.base,I.loc,I.cell,I.free,I.freeC,λp hp=>I.pin p (List.mem_append_left _ hp),I.hok,I.len⟩
def PS1 (X:Cx) (σ₀:St) (st:Stmt) (t:TS):Prop :=
 ∀ (pins:Ja) (s:Sh) (H:Hp) (D:Ends),Inv X pins σ₀ H s->t D σ₀ H->wpAny (model X.prog X.w) X.A (exec st X.env) (SP X pins D) X.xe s
def PE1 (X:Cx) (σ₀:St) (e:Expr) (t:TE):Prop :=
 ∀ (pins:Ja) (s:Sh) (H:Hp) (Q:VK),Inv X pins σ₀ H s->t σ₀ H Q->wpAny (model X.prog X.w) X.A (eval e X.env) (EP X pins σ₀ Q) X.xe s
def YT (CX:CXT) (X:Cx) (σ₀:St) (E:XK):Prop:=∀ (pins:Ja) (H:Hp) (s:Sh) (e:Vl) (s':Sh),Inv X pins σ₀ H s->CX X.stack H s E e s'->X.xe e s'
def pass_tr (ok:X.Ok):YT (CXe X.prog X.w X.base) (X.tr pins σ₀ R) σ₀ (XE R):=λps H s e s' I q=>⟨H,s,XE R,I.untr ok,q,λC H' ⟨C',z,r⟩=>by cases z;exact r⟩
theorem run_fn1 {CX:CXT} {k:Nat} {f:Ad} {fd:FuncData} {ps:Jd} {sp:Sp} {dvs:Jl} {ds:Jb} {E:XK} {Q:VK} {us:Jb} {vs:Jl} (F:FnOk X.prog X.w X.K X.mg X.base CX k f fd ps sp) (hr:Room k X.A) (hb:Binds X.K fd ps ds) (hd:Vals dvs ds) (hx:YT CX X σ₀ E)
  (I:Inv X pins σ₀ H s) (r:Vals vs us) (h:sp (vs++dvs) H Q E):wpAny (model X.prog X.w) X.A (call (.ref f) us) (EP X pins σ₀ Q) X.xe s:=by
 have r2:Vals (vs++dvs) (us++ds):=r.append hd;have hl:(us++ds).length=ps.length:=by rw [← r2.length];exact F.len _ _ _ _ h
 refine wpAny_call (codeAny_mono (F.run X.A X.stack s H ⟨us,[]⟩ (us++ds) (vs++dvs) Q E hr I.env0 (hb s us I.kIn hl) r2 h) λr s' hq=>?_)
 cases r with
 | error e=>exact hx pins H s e s' I hq
 | ok fl =>
  cases fl with
  | ret u=>exact I.after hq
  | next=>exact False.elim hq
  | brk=>exact False.elim hq
  | cont=>exact False.elim hq
def pe1_call {CX:CXT} {k:Nat} {f:Ad} {fd:FuncData} {ps:Jd} {sp:Sp} {E:XK} {x:Str} {p pos:Pos} {e:Expr} {es:Jf} {t:TA} (F:FnOk X.prog X.w X.K X.mg X.base CX k f fd ps sp) (hr:Room k X.A) (hg:Gl X x) (hm:X.mg x=some (.ref f)) (hk:PySem.W.keepIn X.K (.ref f)=true) (hb:Binds X.K fd ps []) (hx:YT CX X σ₀ E)
  (ha:PA X (e::es) t) (hdb:(x == ("__debug__":Str))=false:=by decide) (he:starEach (e::es) X.env=(false,eval e X.env)::starEach es X.env:=by rfl) (hpl:(backTo pos (starEach es X.env)).any (·.1)=false:=by rfl) :
  PE1 X σ₀ (.Call (.Name x p) (e::es) [] pos) (tCall sp [] E t):=by
 intro pins s H Q I h;refine wpAny_Call_Name_kw (ZG I hg hm ?_ hdb);refine PySem.W.callWith_K (h₀:=X.base) I.ok.mod.kin hk (thn (ha pos pins s σ₀ H _ I h) λus s1 ⟨vs,H1,I1,r,q⟩=>⟨I1.kIn,?_⟩) he hpl;exact run_fn1 F hr hb .nil hx I1 r q
structure Disp (P:Program) (w:World) (K:Fg) (mg:J0) (base:Heap) (CX:CXT) (k:Nat) (m:Str) (ps:Jd) (sp:Sp) (C:Ad):Prop where
 cl:Cls K C
 to:∃ (f:Ad) (fd:FuncData),Meth K C m f/\FnOk P w K mg base CX k f fd ps sp/\Binds K fd ps []
inductive tTry (t:(Ad->Hp->Prop)->TS) (th:Ad->Ad->TS) (D:Ends) (σ:St) (H:Hp):Prop
 | mk (R:Ad->Hp->Prop) (_:t R D σ H) (_:∀ e C H',H' e=none->R C H'->th e C D σ H')
theorem ps_try {st:Stmt} {h₀:ExceptHandler} {hs:List ExceptHandler} {pos:Pos} {t:(Ad->Hp->Prop)->TS} {th:Ad->Ad->TS} (hst:X.stack=X.env::X.outer) (hf:X.env.frame=some X.env.locals)
  (hb:∀ pins σ₀ R,X.Ok->PS1 (X.tr pins σ₀ R) σ₀ st (t R)) (hh:PH X (h₀::hs) th):PS X (.Try [st] (h₀::hs) [] [] pos) (tTry t th):=by
 intro pins s σ H D I h;obtain ⟨R,h,k⟩:=h;refine wpAny_Try_except (wpAny_execs_cons (wpAny_mono (hb pins σ R I.ok [] s H D I.tr h) (λf s1 q=>?_) λev s1 q=>?_))
 ·cases f with
  | next =>
   obtain ⟨σ',H2,I4,q⟩:=q;exact wpAny_execs_nil (wpAny_execs_nil ⟨_,_,I4.untr I.ok,q⟩)
  | brk=>obtain ⟨σ',H2,I4,q⟩:=q;exact ⟨_,_,I4.untr I.ok,q⟩
  | cont=>obtain ⟨σ',H2,I4,q⟩:=q;exact ⟨_,_,I4.untr I.ok,q⟩
  | ret u=>obtain ⟨v,σ',H2,I4,r,q⟩:=q;exact ⟨v,_,_,I4.untr I.ok,r,q⟩
 ·obtain ⟨H1,s0,E,I1,c,z⟩:=q
  exact land I1 hst hf c λe C H' s2 ee q l=>(by subst ee;exact hh pins s2 σ H' e C D l (k e C H' l.free (z C H' q)))
def ps_raise {x:Str} {C:Ad} {bm:Jb} {B newId initId:String} {np cpos pos:Pos} {e₀:Expr} {rest:Jf} {ta:TA} {E:XK} (O:OwnCls x C bm newId X.mg X.base) (FB:ExcBaseFacts B newId initId bm) (hc:X.calm=true) (hg:Gl X x) (ht:Throws X E) (ha:PA X (e₀::rest) ta)
  (he:starEach (e₀::rest) X.env=(false,eval e₀ X.env)::starEach rest X.env:=by rfl) (hplain:(backTo cpos (starEach rest X.env)).any (·.1)=false:=by rfl) (hd:(x == ("__debug__":Str))=false:=by decide) :
  PS X (.Raise (some (.Call (.Name x np) (e₀::rest) [] cpos)) none pos) (λ_ σ H=>ta σ H λvs H1=>vs.length<=sizeLine/\E (.ref C) none H1):=by
 intro pins s σ H D I h;obtain ⟨tl,N,nm,q,bs,hdct,sn,sub,ab,col,dd,k0,k1,k2,k3,k5,mN,hC,hN,hni,T⟩:=O.obj;refine wpAny_Raise_call_subT (C:=C) (nm:=nm) (q:=q) (N:=N) (bs:=bs) (bm:=tl) (hdct:=hdct) (sn:=sn) (sub:=sub) (ab:=ab) (col:=col) (dd:=dd) (k0:=k0) (k1:=k1) (k2:=k2) (k3:=k3) (k5:=k5)
  FB (mN:=mN) (T.hasType FB.hasBase) (I.ok.hd hc) (by rw [he];show (false || (backTo cpos (starEach rest X.env)).any (·.1))=false;rw [hplain];rfl) hni (ZG I hg O.bound ⟨rfl,?_⟩ hd)
 have h1:=ha cpos pins s σ H _ I h;rw [he] at h1 ⊢;refine Calls.evalArgs_plain (wpAny_mono h1 (λvs s2 hq=>?_) λ_ _ z=>z);obtain ⟨us,H1,I1,r,hl,q⟩:=hq;exact ⟨rfl,by rw [← r.length];exact hl,I1.bk _ _ hC,hN.keeps I1.bk,T.keeps I1.bk,λh' e m=>ht pins σ H1 s2 h' e C _ I1 m q⟩
end
def xu (w:World) (K:Fg) (a:Ad):Prop:=∃ es n,K.lookup a=some ⟨.type "dict",none,.dict es n,#[]⟩/\PySem.W.KeysLit w.params es.toList
section
variable {X:Cx} {a:Ad} {ke:Expr} {tk:TE} {p pos:Pos} {D:Str}
def top_item {pins:Ja} {σ:St} {H:Hp} {s:Sh} {x:Str} {t:Tok} {u:Vl} {A:Around} {E:J5} {Q:J5} (I:Inv X pins σ H s) (T:xu X.w X.K a) (e:PySem.W.nsIn X.K a x=some (some u)) (h:Q u { s with toks:=s.toks+1 }) :
  wpAny (model X.prog X.w) A (getItem (.ref a) (.str x t)) Q E s:=by
 obtain ⟨es,n,hl,hk⟩:=T;exact wpAny_getItem_of (strKind_is X.prog X.w x t) (PySem.W.mapOf_K (prog:=X.prog) I.kIn hl hk) (PySem.W.find_K hl e) h
def top_in {pins:Ja} {σ:St} {H:Hp} {s:Sh} {x:Str} {t:Tok} {r:Jc} {A:Around} {E:J5} {Q:J5} (I:Inv X pins σ H s) (T:xu X.w X.K a) (e:PySem.W.nsIn X.K a x=some r) (lo:(a == sysModules)=false) (h:Q (.bool r.isSome) { s with toks:=s.toks+1 }) :
  wpAny (model X.prog X.w) A (compareOp .In (.str x t) (.ref a)) Q E s:=by
 obtain ⟨es,n,hl,hk⟩:=T;exact wpAny_in_of (strKind_is X.prog X.w x t) lo (PySem.W.mapOf_K (prog:=X.prog) I.kIn hl hk) (by rw [PySem.W.find_K hl e];exact h)
inductive rTopIn (w:World) (K:Fg) (x y:V) (H:Hp) (Q:VK):Prop
 | mk (k:Str) (a:Ad) (r:Jc) (_:x=.str k) (_:y=.ref a) (_:xu w K a) (_:(a == sysModules)=false) (_:PySem.W.nsIn K a k=some r) (_:Q (.bl r.isSome) H)
def XS:OpR X (compareOp .In) (rTopIn X.w X.K):=by
 intro pins s σ H x y v u Q I rx ry h;obtain ⟨k,a,r,rfl,rfl,T,lo,e,q⟩:=h;obtain ⟨t,rfl⟩:=(show ∃ t,v=Value.str k t from rx);cases (show u=Value.ref a from ry);exact top_in I T e lo ⟨.bl r.isSome,H,I.tok _,rfl,q⟩
inductive tCallV_S (P:Program) (w:World) (K:Fg) (mg:J0) (base:Heap) (CX:CXT) (k:Nat) (E:XK) (t:TA) (σ:St) (Q:VK) (x:V) (H1:Hp):Prop
 | mk (f:Ad) (fd:FuncData) (ps:Jd) (sp:Sp) (_:x=.ref f) (_:FnOk P w K mg base CX k f fd ps sp) (_:PySem.W.keepIn K (.ref f)=true) (_:Binds K fd ps []) (_:t σ H1 λvs H2=>sp vs H2 Q E)
def tCallV (P:Program) (w:World) (K:Fg) (mg:J0) (base:Heap) (CX:CXT) (k:Nat) (E:XK) (tf:TE) (t:TA):TE:=λσ H Q=>tf σ H λx H1=>tCallV_S P w K mg base CX k E t σ Q x H1
def Yb {CX:CXT} {k:Nat} {E:XK} {func e:Expr} {es:Jf} {tf:TE} {t:TA} (hf:PE X func tf) (hr:Room k X.A) (hx:xo CX X E) (ha:PA X (e::es) t)
  (he:starEach (e::es) X.env=(false,eval e X.env)::starEach es X.env:=by rfl) (hpl:(backTo pos (starEach es X.env)).any (·.1)=false:=by rfl)
  (hc:eval (.Call func (e::es) [] pos) X.env=(do callWith pos (← eval func X.env) [] (backTo pos (starEach (e::es) X.env)) (backToKw pos (keywordEach [] X.env))):=by rfl) :
  PE X (.Call func (e::es) [] pos) (tCallV X.prog X.w X.K X.mg X.base CX k E tf t):=by
 intro pins s σ H Q I h;refine Call_ (thn (hf pins s σ H _ I h) λu s1 ⟨x,H1,I1,rx,f,fd,ps,sp,ex,F,hk,hb,q⟩=>?_) hc;subst ex;obtain rfl:u=Value.ref f:=rx;refine PySem.W.callWith_K (h₀:=X.base) I.ok.mod.kin hk (thn (ha pos pins s1 σ H1 _ I1 q) λus s2 ⟨vs,H2,I2,r,q2⟩=>⟨I2.kIn,?_⟩) he hpl;exact zan (dvs:=[]) (ds:=[]) F hr hb .nil hx I2 r (by simpa using q2)
end
section
variable {X:Cx}
inductive rIxTop (w:World) (K:Fg) (x y:V) (H:Hp) (Q:VK):Prop
 | mk (a:Ad) (k:Str) (u:Vl) (v:V) (_:x=.ref a) (_:y=.str k) (_:xu w K a) (_:PySem.W.nsIn K a k=some (some u)) (_:RelV v u) (_:Q v H)
def zax:IxR X (rIxTop X.w X.K):=by
 intro value slice pins s σ H x y v u Q I rx ry h hs;obtain ⟨a,k,u',z,rfl,rfl,T,e,r,q⟩:=h;cases (show v=Value.ref a from rx);obtain ⟨t,rfl⟩:=(show ∃ t,u=Value.str k t from ry);have T':=T;obtain ⟨es,n,hl,hk⟩:=T';exact tail_any (PySem.W.mapOf_K (prog:=X.prog) I.kIn hl hk).typeIs slot_dict_getitem.lookup (top_item I T e ⟨z,H,I.tok _,r,q⟩) hs
structure ExcCls (K:Fg) (C:Ad):Prop where
 hg:PySem.W.findIn K (.ref C) "__getattribute__"=some (some (.builtin "BaseException.__getattribute__"))
 hgg:PySem.W.findIn K (.ref C) "__getattr__"=some none
 hsb:PySem.W.subIn K (.ref C) (.type "BaseException")=some true
 hd:PySem.W.hasDictIn K C=true
 ha:PySem.W.findIn K (.ref C) "__class__"=some (some (.builtin "object.__class__"))
 hn:PySem.W.specialIn K (.builtin "object.__class__") "__get__"=some (some (.builtin "getset_descriptor.__get__"))
 ht:PySem.W.takesIn K (.builtin "object.__class__")=some true
 hm:PySem.W.mroIn K C (.type "object")=some true
def TyX (K:Fg) (H:Hp) (x:V) (t:Vl):Prop:=TyOf K H x t∨∃ e C,x=.ref e/\H e=some (excO e C)/\t=.ref C/\ExcCls K C
inductive rIsi (K:Fg) (vs:Jl) (H:Hp) (Q:VK):Prop
 | mk (x c:V) (cv t:Vl) (b:Bool) (_:vs=[x,c]) (_:RelV c cv) (_:(∀ u,RelV c u->u=cv)) (_:TyX K H x t) (_:PySem.W.kitOne K t cv=some b) (_:Q (.bl b) H)
def yi:Zr X (.builtin "isinstance") (rIsi X.K):=by
 intro pins s σ H xs us Q I r h;obtain ⟨x,c,cv,t,b,rfl,rc,ic,ty,e,q⟩:=h;obtain ⟨u,w',rfl,ru,rw'⟩:=YU r;cases ic w' rw';rcases ty with ty | ⟨ea,C,rfl,he,rfl,ec⟩
 ·exact isinst_ok I ru ty e λtk=>⟨.bl b,H,I.tok _,rfl,q⟩
 ·cases (show u=Value.ref ea from ru)
  obtain ⟨p,_⟩:=(show ObjOk X.prog X.w H s.heap ea (excO ea C) from I.hok ea _ he);exact PySem.W.kia_one (My.kitx_exc ec.hg ec.hgg ec.hsb ec.hd ec.ha ec.hn ec.ht ec.hm) I.kIn p e (λz=>nomatch z) λtk=>⟨.bl b,H,I.tok _,rfl,q⟩
end
section
variable {P:Program} {w:World} {K:Fg} {mg:J0} {base:Heap}
def Fun.okE {x qual:Str} {st:Stmt} {f:Ad} {fd:FuncData} {N ps:Jd} {k:Nat} {sp:Sp} (F:Fun K x qual st f fd) (S:FnScope N ps (zg st)) (len:∀ vs H Q E,sp vs H Q E->vs.length=ps.length)
  (hbody:∀ (cdv:Vl) (A:Around) (outer:List Env) (s:Sh) (H:Hp) (vs:Jl) (Q:VK) (E:XK),Room k (A.deeper (envOfC qual (zg st) s.heap.objs.size f cdv))->sp vs H Q E ->
   ∃ t,PSs (ym (CXe P w base) P w K mg base N qual (zg st) f cdv A outer s H E) (yx st) t/\t { nx:=λ_ H'=>Q .non H',rt:=Q } (Z0 N vs) H):FnOk P w K mg base (CXe P w base) (k+1) f fd ps sp:=by
 obtain ⟨oc,od,kV,doc,pm,an,cdv,ct,osl,rfl,lk,hcd⟩:=F.ex;exact fn_of lk hcd S len λA outer s H vs Q E hr hsp=>hbody cdv A outer s H vs Q E hr hsp
def zk (K:Fg) (mg:J0) (x:Str) (st:Stmt) (ps:Jd):Prop:=∃ (f:Ad) (fd:FuncData),mg x=some (.ref f)/\Fun K x x st f fd/\Binds K fd ps []
def defIn_mk {h:Heap} {x:Str} {st:Stmt} {ps:Jd} {f:Ad} {oc:Vl} {od an:Option Ad} {osl:Array (Jc)} {kV doc pm cdv ct:Vl} (X:K.In h) (G:h.Ns mainGlobals mg)
  (a:PySem.W.nsIn K mainGlobals x=some (some (.ref f))) (l:K.lookup f=some ⟨oc,od,.func (PySem.W.fnOf x x (yO st) (yx st) (zg st) .none kV doc pm an cdv ct),osl⟩)
  (c:PySem.W.codeIn K cdv x=true) (k:PySem.W.keepIn K (.ref f)=true)
  (b:∀ (kV doc pm:Vl) (an:Option Ad) (cdv ct:Vl) (us:Jb),us.length=ps.length->bindArgs (PySem.W.fnOf x x (yO st) (yx st) (zg st) .none kV doc pm an cdv ct) ⟨us,[]⟩=pure (ps.zip us)):zk K mg x st ps :=
 ⟨f,_,PySem.W.mg_of X G a,ZU l c k,(ZU l c k).binds b⟩
def Ok (P:Program) (w:World) (K:Fg) (mg:J0) (base:Heap) (CX:CXT) (k:Nat) (x:Str) (ps:Jd) (sp:Sp):Prop :=
 ∃ (f:Ad) (fd:FuncData),mg x=some (.ref f)/\PySem.W.keepIn K (.ref f)=true/\Binds K fd ps []/\FnOk P w K mg base CX k f fd ps sp
def Ok.mono {CX:CXT} {j k:Nat} {x:Str} {ps:Jd} {sp:Sp} (o:Ok P w K mg base CX j x ps sp) (h:j<=k):Ok P w K mg base CX k x ps sp:=by
 obtain ⟨f,fd,a,b,c,d⟩:=o;exact ⟨f,fd,a,b,c,d.mono h⟩
end
def zH {X:Cx} {CX:CXT} {k:Nat} {x:Str} {ps:Jd} {sp:Sp} {E:XK} {p pos:Pos} {e:Expr} {es:Jf} {t:TA} (o:Ok X.prog X.w X.K X.mg X.base CX k x ps sp) (hr:Room k X.A) (hg:Gl X x) (hx:xo CX X E) (ha:PA X (e::es) t)
  (hdb:(x == ("__debug__":Str))=false:=by decide) (he:starEach (e::es) X.env=(false,eval e X.env)::starEach es X.env:=by rfl) (hpl:(backTo pos (starEach es X.env)).any (·.1)=false:=by rfl) :
  PE X (.Call (.Name x p) (e::es) [] pos) (tCall sp [] E t):=by
 obtain ⟨f,fd,a,b,c,d⟩:=o;exact pe_call d hr hg a b c .nil hx ha hdb he hpl
def pe1_ok {X:Cx} {σ₀:St} {CX:CXT} {k:Nat} {x:Str} {ps:Jd} {sp:Sp} {E:XK} {p pos:Pos} {e:Expr} {es:Jf} {t:TA} (o:Ok X.prog X.w X.K X.mg X.base CX k x ps sp) (hr:Room k X.A) (hg:Gl X x) (hx:YT CX X σ₀ E) (ha:PA X (e::es) t)
  (hdb:(x == ("__debug__":Str))=false:=by decide) (he:starEach (e::es) X.env=(false,eval e X.env)::starEach es X.env:=by rfl) (hpl:(backTo pos (starEach es X.env)).any (·.1)=false:=by rfl) :
  PE1 X σ₀ (.Call (.Name x p) (e::es) [] pos) (tCall sp [] E t):=by
 obtain ⟨f,fd,a,b,c,d⟩:=o;exact pe1_call d hr hg a b c hx ha hdb he hpl
theorem ints_of:∀ {ns:J9} {us:Jb},Vals (ns.map V.int) us->IntsAre us ns
 | [],_,.nil=>.nil
 | n::ns,_,.cons ⟨t,e⟩ r=>by subst e;exact .cons n t (ints_of r)
section
variable {X:Cx}
def Yc:OpR X (binaryOp .FloorDiv) (rI (λ_ j=>j≠0/\-18446744073709551616<j/\j<18446744073709551616) λi j=>.int (i.fdiv j)):=opI λi j _ _ _ _ _ hc q=>floordiv_int hc.1 q (.inl (PyProof.noPylong_of_log2 (by
 have h64:j.natAbs<2 ^ 65:=by omega
 have:=(Nat.log2_lt (by omega:j.natAbs≠0)).mpr h64;omega)))
end
inductive sp1 (g:Int->V) (vs:Jl) (H:Hp) (Q:VK) (_:XK):Prop
 | mk (n:_) (_:vs=[.int n]) (_:Q (g n) H)
inductive sp2 (C:Int->Int->Prop) (g:Int->Int->Int) (vs:Jl) (H:Hp) (Q:VK) (_:XK):Prop
 | mk (a b:_) (_:vs=[.int a,.int b]) (_:C a b) (_:Q (.int (g a b)) H)
def len1 {g:Int->V}:∀ vs H Q E,sp1 g vs H Q E->vs.length=1:=by rintro vs H Q E ⟨n,e,_⟩;rw [e];rfl
def len2 {C:Int->Int->Prop} {g:Int->Int->Int}:∀ vs H Q E,sp2 C g vs H Q E->vs.length=2:=by rintro vs H Q E ⟨a,b,e,_⟩;rw [e];rfl
def ZE {X:Cx} {x:Str} {i:Int} {t:Tok} {pos:Pos} (hm:X.mg x=some (.int i t)) (hg:Gl X x:=by rfl) (hd:(x == ("__debug__":Str))=false:=by decide):PE X (.Name x pos) (tC (.int i)):=pe_glob hg hm (v:=.int i) ⟨_,rfl⟩ hd
def ZD {X:Cx} {x:Str} {a:Ad} {pos:Pos} (hm:X.mg x=some (.ref a)) (hg:Gl X x:=by rfl) (hd:(x == ("__debug__":Str))=false:=by decide):PE X (.Name x pos) (tC (.ref a)):=pe_glob hg hm (v:=.ref a) rfl hd
def xR {X:Cx} {x:Str} {n:String} {pos:Pos} (hm:X.mg x=none) (hv:bootBuiltins x=some (.type n)) (hg:Gl X x:=by rfl) (hn:x≠"__name__":=by decide) (hd:(x == ("__debug__":Str))=false:=by decide):PE X (.Name x pos) (tC (.ty n)):=pe_bltn hg hm hv (v:=.ty n) rfl hn hd
abbrev Cx.comp (X:Cx) (scope:Scope) (cl:List (Str×Ad)) (NY:Jd) (s3:Sh) (H3:Hp) (fp:Je):Cx :=
 { X with N:=NY,s₀:=s3,H₀:=H3,env:=compEnvC scope cl s3.heap.objs.size X.env,outer:=X.stack,ex:=fp,fn:=λ_=>false,pn:=[],xe:=λ_ _=>False }
abbrev Lz:Obj:={ cls:=.type "list",data:=.seq ([]:Jb).toArray }
abbrev pz (s:Sh):Sh:={ s with heap:=s.heap.push Lz }
abbrev Xz (X:Cx) (scope:Scope) (cl:List (Str×Ad)) (NY:Jd) (s2:Sh) (H2:Hp) (fp:Je):Cx:=X.comp scope cl NY (pz s2) (upd H2 s2.heap.objs.size (.lst [])) fp
structure Sees (X:Cx) (scope:Scope) (cl:List (Str×Ad)):Prop where
 kind:scope.kind=.function
 clos:closureFor scope X.env=pure cl
 nocell:∀ y∈scope.names,y.2≠.cell
 names:∀ y∈scope.names,y.2=.local->scope.names.lookup y.1=some .local
 sub:∀ x c,cl.lookup x=some c->X.env.cells.lookup x=some c
 has:∀ x,((compEnvC scope cl 0 X.env).kindOf x=some .cell∨(compEnvC scope cl 0 X.env).kindOf x=some .free)->∃ c,cl.lookup x=some c
section
variable {X:Cx} {pins:Ja} {σ:St} {H3:Hp} {s3:Sh} {scope:Scope} {cl:List (Str×Ad)} {NY:Jd} {fp:Je}
def comp_ok (I:Inv X pins σ H3 s3) (S:Sees X scope cl) (hfp:∀ b∈fp,Zh X pins H3 b) (hob:∀ b∈fp,∃ o,s3.heap.get? b=some o):(X.comp scope cl NY s3 H3 fp).Ok where
 mod:=I.ok.mod
 kind:=S.kind
 glob:=I.ok.glob
 blt:=I.ok.blt
 above:=Nat.le_refl _
 inj:=λx y c a b=>I.ok.inj x y c (S.sub _ _ a) (S.sub _ _ b)
 has:=λx h=>S.has x h
 cab:=λ_ _ h=>nomatch h
 hd:=I.ok.hd
 frames:=I.ok.frames
 stk:=.inl rfl
 exf:=λb hb=>⟨λz=>by
  obtain ⟨o,q⟩:=hob b hb;exact absurd (Heap.lt_size q) (by rw [z];exact Nat.lt_irrefl _),λx c q=>(hfp b hb).2.2.2.2.1 x c (S.sub _ _ q)⟩
 bs:=I.bs
 bsz:=Nat.le_trans I.ok.bsz I.sz
 noex:=λb o q hb=>by
  rcases (hfp b hb).2.2.2.1 with z | z
  ·exact I.ok.noex b o q z
  ·exact absurd (q2z (Heap.lt_size q) (Nat.le_trans I.ok.bsz z)) (Nat.lt_irrefl _)
 exfs:=λb hb z=>by
  rcases List.mem_cons.mp (I.stkSub b z) with y | y
  ·exact (hfp b hb).2.1 y
  ·exact (hfp b hb).2.2.1 y
 funs:=I.stack
 frf:=I.stkFree
def zbw {h1:Heap} {t:Nat} {σY:St} (I:Inv X pins σ H3 s3) (S:Sees X scope cl) (hfp:∀ b∈fp,Zh X pins H3 b) (hob:∀ b∈fp,∃ o,s3.heap.get? b=some o)
  (hn:h1.Ns s3.heap.objs.size λ_=>none) (hk:∀ b o,s3.heap.get? b=some o->h1.get? b=some o) (hl:σY.length=NY.length)
  (hσ:∀ (i:Nat) (x:Str) (v:V),NY[i]?=some x->σY[i]?=some (some v)->∃ c u,(((compEnvC scope cl 0 X.env).kindOf x=some .cell∨(compEnvC scope cl 0 X.env).kindOf x=some .free))/\cl.lookup x=some c/\RelV v u/\s3.heap.IsCell c (some u)) :
  Inv (X.comp scope cl NY s3 H3 fp) [] σY H3 { s3 with heap:=h1,toks:=t } where
 ok:=comp_ok I S hfp hob
 os:=rfl
 bare:=I.bare
 base:=Un.kept hk
 loc:=⟨_,hn,λi x v e1 e2 _=>by
  obtain ⟨c,u,k,q,r,z⟩:=hσ i x v e1 e2;obtain ⟨o,z1,z2⟩:=z;exact ⟨u,r,.inr ⟨k,c,q,o,hk _ _ z1,z2⟩⟩⟩
 cell:=λx c q=>by
  obtain ⟨v,o,z1,z2⟩:=I.cell x c (S.sub _ _ q);exact ⟨v,o,hk _ _ z1,z2⟩
 free:=I.hok.fresh (Nat.le_refl _)
 freeC:=λx c q=>I.freeC x c (S.sub _ _ q)
 pin:=λp hp=>absurd hp (by simp)
 hok:=I.hok.kept hk
 len:=hl
def X5 {Y:Ja} {σY:St} {H':Hp} {s':Sh} {h':Heap} (I:Inv X pins σ H3 s3) (hfp:∀ b∈fp,Zh X pins H3 b) (J:Inv (X.comp scope cl NY s3 H3 fp) Y σY H' s') (hs:Heap.SameBut s3.heap.objs.size s'.heap h') :
  Inv X pins σ H' { s' with heap:=h' }:=by
 have ne:∀ b o,s3.heap.get? b=some o->b≠s3.heap.objs.size:=λb o q=>Nat.ne_of_lt (Heap.lt_size q);have B:=J.base;refine I.call' (s':={ s' with heap:=h' }) (ch:=fp) J.os ⟨λb o q n hb hx=>?_,λb o q n hb hx=>?_,B.free,λb o q hx=>?_,B.tups,B.frzs,B.tbls⟩ (λb o q=>?_) J.bare λb hb=>?_
 ·exact (hs.2 b (ne b o q)).trans (B.keep b o q n hb hx)
 ·obtain ⟨sl,z⟩:=B.slot b o q n hb hx
  exact ⟨sl,(hs.2 b (ne b o q)).trans z⟩
 ·obtain ⟨o',z⟩:=B.there b o q hx
  exact ⟨o',(hs.2 b (ne b o q)).trans z⟩
 ·have hf:H' s3.heap.objs.size=none:=J.free
  refine (J.hok b o q).stay (λc v hc r=>(hs.2 c ?_).trans r) (λ_ z=>z) λ_ _ z=>z;rintro rfl;rcases hc with z | z
  ·rw [← z,hf] at q;cases q
  ·rw [hf] at z;cases z
 ·obtain ⟨_,f2,_,f4,f5,f6⟩:=hfp b hb
  exact ⟨f4,f2,f5,f6⟩
end
section
variable {prog:Program} {w:World} {A:Around} {R:Result->Sh->Prop} {s:Sh}
theorem comp_loop {elt target iter:Expr} {scope:Scope} {pos:Pos} {it acc:Vl} {env:Env} (I:Nat->Sh->Prop)
  (turn:∀ n s,I n s->wpAny (model prog w) A (pyNext it) (λr s₁=>match r with
   | none=>R (.ok .next) s₁
   | some v=>wpAny (model prog w) A (letOwnedTupleGo target it v) (λ_ s₂=>wpAny (model prog w) A (assign target env v) (λ_ s₃=>wpAny (model prog w) A (eval elt env) (λx s₄ =>
     wpAny (model prog w) A (call (.builtin "list.append") [acc,x]) (λ_ s₅=>∃ m,m<n/\I m s₅) (λ_ _=>False) s₄) (λ_ _=>False) s₃) (λ_ _=>False) s₂) (λ_ _=>False) s₁) (λ_ _=>False) s)
  (n:Nat) (h:I n s):codeAny (model prog w) A (.compLoop (.ListComp elt [⟨target,iter,[],0⟩] scope pos) 0 it acc env) R s:=by
 refine codeAny_loop rfl I (λn s hI=>?_) n h;show wpAny _ _ ((compTurn (.ListComp elt [⟨target,iter,[],0⟩] scope pos) 0 it acc env).onRaise (λx=>do noteFrame x env;theTreesLotGoes x)) _ _ s;refine wpAny_noted ?_;rw [compTurn_list1];refine q0x (wpAny_standAt (q0x (wpAny_mono (turn n s hI) (λr s₁ h₁=>?_) λ_ _ z=>z.elim)))
 cases r with
 | none=>exact q0y h₁
 | some v =>
  refine q0x (wpAny_mono h₁ (λ_ s₂ h₂=>?_) λ_ _ z=>z.elim);refine q0x (wpAny_mono h₂ (λ_ s₃ h₃=>?_) λ_ _ z=>z.elim);refine q0x (q0x (wpAny_mono h₃ (λx s₄ h₄=>?_) λ_ _ z=>z.elim));exact q0x (wpAny_mono h₄ (λ_ s₅ h₅=>q0y (q0y ⟨rfl,h₅⟩)) λ_ _ z=>z.elim)
end
inductive CompW (J:It) (g:TG) (te:TE) (σY:St) (H1:Hp) (D:Ad) (Q:VK):Prop
 | mk (W:Nat->Nat->St->Hp->Prop) (_:(∃ m,W 0 m σY H1)) (_:∀ i m σ' H',W i m σ' H'->(J.stop i H'/\Q (.ref D) H')∨(J.go i H'/\∃ N:St->Hp->Prop,(∀ σ2 H2,N σ2 H2->∃ m',m'<m/\W (i+1) m' σ2 H2)/\∀ x H2,J.yld i H' x H2->g x σ' H2 λσ3 H3=>te σ3 H3 λv H4=>∃ xs,H4 D=some (.lst xs)/\xs.length<sizeLine/\N σ3 (upd H4 D (.lst (xs++[v]))))):CompW J g te σY H1 D Q
inductive tComp_S (g:TG) (te:TE) (σ0:St->Hp->St->Prop) (σ:St) (Q:VK) (J:It) (H1:Hp):Prop
 | mk (σY:_) (_:σ0 σ H1 σY) (_:∀ D,H1 D=none->CompW J g te σY (upd H1 D (.lst [])) D Q)
def tComp (wi:TI) (g:TG) (te:TE) (σ0:St->Hp->St->Prop):TE:=λσ H Q=>wi σ H λJ H1=>tComp_S g te σ0 σ Q J H1
section
variable {X:Cx} {tg:Expr}
structure CompEnd (X:Cx) (pins:Ja) (σ:St) (H5:Hp) (s6:Sh) (C:Ad):Prop where
 ns:∃ m,s6.heap.Ns C m
 hn:H5 C=none
 hL:C≠X.env.locals
 h1:X.s₀.heap.objs.size<=C
 h2:∀ x c,X.env.cells.lookup x=some c->c≠C
 h3:∀ p∈X.pn++pins,p.1≠C
 inv:∀ h',Heap.SameBut C s6.heap h'->Inv X pins σ H5 { s6 with heap:=h' }
def X4 {iter elt:Expr} {scope:Scope} {pos pos':Pos} {cl:List (Str×Ad)} {NY:Jd} {wi:TI} {g:TG} {te:TE} {σ0:St->Hp->St->Prop} (hc:X.calm=true) (S:Sees X scope cl) (hi:PI X tg iter wi)
  (hY:∀ (s3:Sh) (H3:Hp) (fp:Je),PG (X.comp scope cl NY s3 H3 fp) tg g/\PE (X.comp scope cl NY s3 H3 fp) elt te)
  (h0:∀ (pins:Ja) (σ:St) (H:Hp) (s3:Sh) (σY:St),Inv X pins σ H s3->σ0 σ H σY->σY.length=NY.length/\∀ (i:Nat) (x:Str) (v:V),NY[i]?=some x->σY[i]?=some (some v) ->
   ∃ c u,(((compEnvC scope cl 0 X.env).kindOf x=some .cell∨(compEnvC scope cl 0 X.env).kindOf x=some .free))/\cl.lookup x=some c/\RelV v u/\s3.heap.IsCell c (some u))
  (hs:∀ x,foldedSetIterable iter X.env x=pure x) {use:Option (Vl->Sem Unit)} {R:J5} {pins:Ja} {s:Sh} {σ:St} {H:Hp} {Q:VK} (I:Inv X pins σ H s) (h:tComp wi g te σ0 σ H Q)
  (fin:∀ (C D:Ad) (H5:Hp) (s6:Sh),CompEnd X pins σ H5 s6 C->Q (.ref D) H5->compPost (model X.prog X.w) X.A X.xe use R (.ref D) C (.ok .next) s6) :
  wpAny (model X.prog X.w) X.A (comprehension (.ListComp elt [⟨tg,iter,[],0⟩] scope pos) scope X.env pos' (newList []) (firstAsync [⟨tg,iter,[],0⟩]) (firstIter [⟨tg,iter,[],0⟩] X.env) use) R X.xe s:=by
 refine wpAny_comprehension_free rfl hs S.clos S.kind S.names (thn (hi pins s σ H _ I h) λv s1 h1=>thn h1 λitv s2 h2=>?_);obtain ⟨it,fp,tn,J,H2,e,I2,T,st2,f2,σY,hσ,hW⟩:=h2;subst e;refine wpAny_newObj_type ?_;have I3:Inv X pins σ (upd H2 s2.heap.objs.size (.lst [])) (pz s2):=I2.lnew (t':=s2.toks) (its:=[]) .nil (Nat.zero_le _);obtain ⟨W,⟨m0,w0⟩,turn⟩:=hW s2.heap.objs.size (I2.hok.fresh (Nat.le_refl _));have ob2:=T.obj _ _ st2
 have hfp:∀ b∈fp,Zh X pins (upd H2 s2.heap.objs.size (.lst [])) b:=λb hb=>by
  obtain ⟨o,q,_⟩:=ob2 b hb;exact ⟨by rw [zj (Nat.ne_of_lt (Heap.lt_size q))];exact (f2 b hb).1,(f2 b hb).2⟩
 have hob:∀ b∈fp,∃ o,(s2.heap.push Lz).get? b=some o:=λb hb=>by
  obtain ⟨o,q,_⟩:=ob2 b hb;exact ⟨o,Heap.get?_push_of_some _ q⟩
 refine wpAny_newFunctionEnv S.nocell (λy hy=>absurd hy (by simp)) (λh1 hn1 hs1=>?_) S.kind;obtain ⟨hl,hY0⟩:=h0 pins σ H2 s2 σY I2 hσ;have k23:∀ b o,s2.heap.get? b=some o->(s2.heap.push Lz).get? b=some o:=λb o q=>Heap.get?_push_of_some _ q;have k34:∀ b o,(s2.heap.push Lz).get? b=some o->h1.get? b=some o:=λb o q=>(hs1.2 b (Nat.ne_of_lt (Heap.lt_size q))).trans (Heap.get?_push_of_some _ q)
 have I4:=zbw (scope:=scope) (cl:=cl) (NY:=NY) (fp:=fp) (h1:=h1) (t:=s2.toks) (σY:=σY) I3 S hfp hob hn1 k34 hl λi x v e1 e2=>by
  obtain ⟨c,u,k,q,r,o,z1,z2⟩:=hY0 i x v e1 e2;exact ⟨c,u,k,q,r,o,k23 _ _ z1,z2⟩
 have st4:tn 0 h1:=T.keep _ _ _ st2 λb hb o q=>k34 _ _ (k23 _ _ q);have fr4:∀ b∈fp,(upd H2 s2.heap.objs.size (.lst [])) b=none:=λb hb=>(hfp b hb).1;obtain ⟨hg,he⟩:=hY (pz s2) (upd H2 s2.heap.objs.size (.lst [])) fp;have okY:=I4.ok
 have statY:∀ {H':Hp},(∀ b∈fp,H' b=none)->∀ b∈fp,Zh (Xz X scope cl NY s2 H2 fp) [] H' b :=
  λhn b hb=>⟨hn b hb,(okY.exf b hb).1,okY.exfs b hb,.inl hb,(okY.exf b hb).2,λp hp=>absurd hp (by simp)⟩
 have loop:codeAny (model X.prog X.w) X.A (.compLoop (.ListComp elt [⟨tg,iter,[],0⟩] scope pos) 0 (.ref it) (.ref s2.heap.objs.size) (compEnvC scope cl (s2.heap.push Lz).objs.size X.env))
   (compPost (model X.prog X.w) X.A X.xe use R (.ref s2.heap.objs.size) (s2.heap.push Lz).objs.size) { s2 with heap:=h1,toks:=s2.toks }:=by
  refine comp_loop (λn s'=>∃ i σ' H',Inv (Xz X scope cl NY s2 H2 fp) [] σ' H' s'/\tn i s'.heap/\(∀ b∈fp,H' b=none)/\W i n σ' H') ?_ m0 ⟨0,σY,_,I4,st4,fr4,w0⟩;rintro n s5 ⟨i,σ5,H5,I5,st5,fr5,w5⟩;rcases turn i n σ5 H5 w5 with ⟨stop,q⟩ | ⟨go,N,hN,step⟩
  ·refine thn (T.done (Xz X scope cl NY s2 H2 fp) rfl rfl rfl hc i [] s5 σ5 H5 _ I5 (statY fr5) st5 stop) λr s6 ⟨hr,I6⟩=>?_
   subst hr;obtain ⟨m,hm,_⟩:=I6.loc;refine fin _ _ H5 s6 ⟨⟨m,hm⟩,I6.free,Ne.symm (Nat.ne_of_lt I3.lt),I3.sz,λx c z=>?_,λp hp=>?_,λh' hs'=>X5 I3 hfp I6 hs'⟩ q
   ·obtain ⟨_,o,z1,_⟩:=I3.cell x c z
    exact Nat.ne_of_lt (Heap.lt_size z1)
   ·exact Nat.ne_of_lt (Heap.lt_size (I3.pin p hp).1)
  ·refine thn (T.item (Xz X scope cl NY s2 H2 fp) rfl rfl rfl hc i [] s5 σ5 H5 _ I5 (statY fr5) st5 go) λr s6 ⟨u,hr,h6⟩=>?_
   subst hr;refine thn h6 λ_ s7 ⟨x,H7,I7,r7,y7,st7,fr7⟩=>?_;have I7':=I7.pinned (statY fr7) (T.obj _ _ st7);refine thn (hg _ s7 σ5 H7 x u _ I7' r7 (step x H7 y7)) λ_ s8 ⟨σ8,H8,I8,q8⟩=>?_;refine thn (he _ s8 σ8 H8 _ I8 q8) λz s9 ⟨v9,H9,I9,r9,xs,hx9,hz9,n9⟩=>?_;refine thn (xj _ s9 σ8 H9 (.ref s2.heap.objs.size) [v9] (.ref s2.heap.objs.size) [z] (λ_ H'=>H'=upd H9 s2.heap.objs.size (.lst (xs++[v9]))) I9 rfl (.cons r9 .nil) ⟨s2.heap.objs.size,xs,v9,rfl,rfl,hx9,hz9,rfl⟩) λy s10 ⟨v10,H10,I10,_,e10⟩=>?_;subst e10;obtain ⟨m',hm,w10⟩:=hN _ _ n9;refine ⟨m',hm,i+1,σ8,_,I10.unpinned,T.keep _ _ _ st7 λb hb o q=>(I10.pin (b,o) (q2y _ (q2y _ (xk hb q)))).1,λb hb=>?_,w10⟩;obtain ⟨o,q,d⟩:=T.obj _ _ st7 b hb;exact (I10.pin (b,o) (q2y _ (q2y _ (xk hb q)))).2.1
 exact codeAny_compStart_list loop (T.self _ 0 _ _ _ st4 loop)
def pe_comp {iter elt:Expr} {scope:Scope} {pos:Pos} {cl:List (Str×Ad)} {NY:Jd} {wi:TI} {g:TG} {te:TE} {σ0:St->Hp->St->Prop} (hc:X.calm=true) (S:Sees X scope cl) (hi:PI X tg iter wi)
  (hY:∀ (s3:Sh) (H3:Hp) (fp:Je),PG (X.comp scope cl NY s3 H3 fp) tg g/\PE (X.comp scope cl NY s3 H3 fp) elt te)
  (h0:∀ (pins:Ja) (σ:St) (H:Hp) (s3:Sh) (σY:St),Inv X pins σ H s3->σ0 σ H σY->σY.length=NY.length/\∀ (i:Nat) (x:Str) (v:V),NY[i]?=some x->σY[i]?=some (some v) ->
   ∃ c u,(((compEnvC scope cl 0 X.env).kindOf x=some .cell∨(compEnvC scope cl 0 X.env).kindOf x=some .free))/\cl.lookup x=some c/\RelV v u/\s3.heap.IsCell c (some u))
  (hs:∀ x,foldedSetIterable iter X.env x=pure x:=by intro _;rfl) :
  PE X (.ListComp elt [⟨tg,iter,[],0⟩] scope pos) (tComp wi g te σ0):=by
 intro pins s σ H Q I h;rw [eval_ListComp];refine X4 (use:=none) hc S hi hY h0 hs I h λC D H5 s6 e q=>?_;obtain ⟨m,hm⟩:=e.ns;exact ⟨m,hm,λh' hs'=>⟨.ref D,H5,e.inv h' hs',rfl,q⟩⟩
def ps_comp {iter elt:Expr} {scope:Scope} {pos pos' spos:Pos} {cl:List (Str×Ad)} {NY:Jd} {wi:TI} {g:TG} {te:TE} {σ0:St->Hp->St->Prop} {i:Nat} {y:Str} (hc:X.calm=true) (S:∀ {pins σ H s},Inv X pins σ H s->Sees X scope cl) (hi:PI X tg iter wi)
  (hY:∀ (s3:Sh) (H3:Hp) (fp:Je),PG (X.comp scope cl NY s3 H3 fp) tg g/\PE (X.comp scope cl NY s3 H3 fp) elt te)
  (h0:∀ (pins:Ja) (σ:St) (H:Hp) (s3:Sh) (σY:St),Inv X pins σ H s3->σ0 σ H σY->σY.length=NY.length/\∀ (i:Nat) (x:Str) (v:V),NY[i]?=some x->σY[i]?=some (some v) ->
   ∃ c u,(((compEnvC scope cl 0 X.env).kindOf x=some .cell∨(compEnvC scope cl 0 X.env).kindOf x=some .free))/\cl.lookup x=some c/\RelV v u/\s3.heap.IsCell c (some u))
  (hs:∀ x,foldedSetIterable iter X.env x=pure x) (hN:X.N.Nodup) (hi':X.N[i]?=some y) (hx:Loc X.env.scope y) (hf:X.fn y=true∨X.env.scope.names.lookup y=some .local)
  (hw:swapsWith (.ListComp elt [⟨tg,iter,[],0⟩] scope pos) (some (.Name y pos')) spos.line X.env=pure true):PS X (.Assign [.Name y pos'] (.ListComp elt [⟨tg,iter,[],0⟩] scope pos) spos) (tAsg (tComp wi g te σ0) (gName i)):=by
 intro pins s σ H D I h;rw [exec_Assign_Name_used _ _ _ _ hw,arm_evalThenUse_ListComp];refine q0x (wpAny_standAt (q0x (q0x (wpAny_mono (X4 (use:=some (assign (.Name y pos') X.env)) (R:=λ_ s'=>SP X pins D .next s') hc (S I) hi hY h0 hs I h λC L H5 s6 e q=>?_) (λ_ s' z=>q0y (q0y z)) λ_ _ z=>z))));obtain ⟨m,hm⟩:=e.ns;have I6:Inv X pins σ H5 s6:=e.inv s6.heap ⟨rfl,λ_ _=>rfl⟩;refine wpAny_assign_Name (XQ I6 hN hi' hx (v:=.ref L) rfl (λs' I' ⟨a,sb,ha⟩=>?_) hf)
 have ne:C≠a:=by
  rintro rfl;rcases ha with z | z
  ·exact e.hL z
  ·exact e.h2 _ _ z rfl
 refine ⟨m,?_,λh' hs'=>?_⟩
 ·obtain ⟨o,es,ep,z,r⟩:=hm
  exact ⟨o,es,ep,(sb.2 _ ne).trans z,r⟩
 ·exact ⟨_,H5,I'.turned (t':=s'.toks) (it:=C) (λb o nb z=>(hs'.2 b nb).trans z) e.hn e.hL (.inr e.h1) e.h2 e.h3,q⟩
end
def X3 {K:Fg} {a D:Ad} {xs:Jl} {g:TG} {te:TE} {σY:St} {H1:Hp} {Q:VK} (Pv:Nat->St->Hp->Prop) (h0:Pv 0 σY H1) (hl:∀ i σ H,i<=xs.length->Pv i σ H->SqL K H a xs)
  (hs:∀ i x σ H,xs[i]?=some x->Pv i σ H->g x σ H λσ3 H3=>te σ3 H3 λv H4=>∃ ys,H4 D=some (.lst ys)/\ys.length<sizeLine/\Pv (i+1) σ3 (upd H4 D (.lst (ys++[v])))) (hd:∀ σ H,Pv xs.length σ H->Q (.ref D) H) :
  CompW (Itl K a) g te σY H1 D Q:=by
 refine ⟨λi m σ H=>m=xs.length-i/\i<=xs.length/\Pv i σ H,⟨xs.length,by simp,Nat.zero_le _,h0⟩,?_⟩;rintro i m σ H ⟨rfl,hi,p⟩;have q:=hl i σ H hi p;by_cases hlt:i<xs.length
 ·refine .inr ⟨⟨xs,xs[i],q,by simp [hlt]⟩,Pv (i+1),λσ' H' p'=>⟨xs.length-(i+1),by omega,rfl,hlt,p'⟩,λx H' y=>?_⟩
  obtain ⟨e,y⟩:=y;subst e;exact hs i x σ _ (y xs q) p
 ·have e:i=xs.length:=by omega
  subst e;exact .inl ⟨⟨xs,q,Nat.le_refl _⟩,hd σ H p⟩
def xS {lo:Int} {n:Nat} {D:Ad} {g:TG} {te:TE} {σY:St} {H1:Hp} {Q:VK} (Pv:Nat->St->Hp->Prop) (h0:Pv 0 σY H1)
  (hs:∀ i σ H,i<n->Pv i σ H->g (.int (lo+i)) σ H λσ3 H3=>te σ3 H3 λv H4=>∃ ys,H4 D=some (.lst ys)/\ys.length<sizeLine/\Pv (i+1) σ3 (upd H4 D (.lst (ys++[v])))) (hd:∀ σ H,Pv n σ H->Q (.ref D) H) :
  CompW (Itr lo n) g te σY H1 D Q:=by
 refine ⟨λi m σ H=>m=n-i/\i<=n/\Pv i σ H,⟨n,by simp,Nat.zero_le _,h0⟩,?_⟩;rintro i m σ H ⟨rfl,hi,p⟩;by_cases hlt:i<n
 ·refine .inr ⟨hlt,Pv (i+1),λσ' H' p'=>⟨n-(i+1),by omega,rfl,hlt,p'⟩,λx H' y=>?_⟩
  obtain ⟨e,y⟩:=y;subst e y;exact hs i σ _ hlt p
 ·have e:i=n:=by omega
  subst e;exact .inl ⟨Nat.le_refl _,hd σ H p⟩
def clGo (env:Env):List (Str×NameKind)->List (Str×Ad)->List (Str×Ad)
 | [],cs=>cs
 | y::r,cs=>clGo env r (if y.2 == .free then (y.1,(env.cells.lookup y.1).getD 0)::cs else cs)
abbrev Zx (env:Env) (scope:Scope):List (Str×Ad):=clGo env scope.names []
theorem zcu {scope:Scope} {env:Env} (h:∀ y∈scope.names,y.2=.free->∃ c,env.cells.lookup y.1=some c):closureFor scope env=pure (Zx env scope):=by
 rw [closureFor.eq_1]
 suffices q:∀ (names:List (Str×NameKind)) (cs:List (Str×Ad)),(∀ y∈names,y.2=.free->∃ c,env.cells.lookup y.1=some c) ->
   (do
    let s ← forIn names cs λx __s =>
     have cs:=__s
     match x with
     | (name,kind) =>
      if (kind == NameKind.free)=true then do
       let l ← cellOf env name;have cs:List (Str×Ad):=(name,l)::cs
       pure (ForInStep.yield cs)
      else pure (ForInStep.yield cs)
    pure s:Sem (List (Str×Ad)))=pure (clGo env names cs) from (congrArg (λ(m:Sem (List (Str×Ad)))=>m >>= λs=>(pure s:Sem (List (Str×Ad)))) (q scope.names [] h)).trans rfl
 intro names
 induction names with
 | nil=>intro cs _;rfl
 | cons y r ih =>
  intro cs h;obtain ⟨n,k⟩:=y;have hr:=λy hy=>h y (q1y _ hy);rw [List.forIn_cons];show _=pure (clGo env r (if k == .free then (n,(env.cells.lookup n).getD 0)::cs else cs));by_cases e:k=.free
  ·subst e
   obtain ⟨c,hc⟩:=h (n,.free) q1z rfl;have e1:cellOf env n=pure c:=by unfold cellOf;rw [show env.cells.lookup n=some c from hc]
   simp only [e1,show env.cells.lookup n=some c from hc,Option.getD_some,beq_self_eq_true,if_true];exact ih _ hr
  ·have e0:(k == NameKind.free)=false:=by simp [e]
   simp only [e0,Bool.false_eq_true,if_false];exact ih _ hr
theorem zbz {env:Env} {x:Str} {c:Ad}:∀ {names:List (Str×NameKind)} {cs:List (Str×Ad)},(∀ y∈names,y.2=.free->∃ c,env.cells.lookup y.1=some c)->(∀ x c,cs.lookup x=some c->env.cells.lookup x=some c)->(clGo env names cs).lookup x=some c->env.cells.lookup x=some c
 | [],cs,_,hc,h=>hc _ _ h
 | (n,k)::r,cs,hn,hc,h=>by
  refine zbz (λy hy=>hn y (q1y _ hy)) (λx c q=>?_) h;by_cases e:k=.free
  ·subst e
   obtain ⟨c',hc'⟩:=hn (n,.free) q1z rfl;simp only [beq_self_eq_true,if_true,show env.cells.lookup n=some c' from hc',Option.getD_some,List.lookup_cons] at q;by_cases z:x=n
   ·subst z;simp at q;rw [← q];exact hc'
   ·have z':(x == n)=false:=by simp [z]
    rw [z'] at q;exact hc _ _ q
  ·have e0:(k == NameKind.free)=false:=by simp [e]
   rw [e0] at q;exact hc _ _ q
theorem X6 {env:Env} {x:Str}:∀ {names:List (Str×NameKind)} {cs:List (Str×Ad)},(∃ c,cs.lookup x=some c)->∃ c,(clGo env names cs).lookup x=some c
 | [],_,h=>h
 | (n,k)::r,cs,h=>by
  refine X6 (names:=r) ?_;by_cases e:(k == NameKind.free)=true
  ·simp only [e,if_true,List.lookup_cons]
   cases hx:x == n with
   | true=>exact ⟨_,rfl⟩
   | false=>exact h
  ·simp only [e,if_false];exact h
theorem Xw {env:Env} {x:Str}:∀ {names:List (Str×NameKind)} {cs:List (Str×Ad)},(x,NameKind.free)∈names->∃ c,(clGo env names cs).lookup x=some c
 | (n,k)::r,cs,h=>by
  rcases List.mem_cons.mp h with e | e
  ·cases e
   refine X6 (names:=r) ⟨(env.cells.lookup x).getD 0,?_⟩;simp
  ·show ∃ c,(clGo env r _).lookup x=some c
   exact Xw e
def Y0 (X:Cx) (scope:Scope):Bool :=
 (match scope.kind with | .function=>true | _=>false) && scope.names.all λy=>match y.2 with
  | .cell=>false
  | .free=>(match X.env.kindOf y.1 with | some .cell=>true | some .free=>true | _=>false)
  | .local=>(match scope.names.lookup y.1 with | some .local=>true | _=>false)
  | _=>true
theorem Z2 {X:Cx} {scope:Scope} (ok:X.Ok) (h:Y0 X scope=true):Sees X scope (Zx X.env scope):=by
 unfold Y0 at h;rw [Bool.and_eq_true,List.all_eq_true] at h;obtain ⟨hk,hn⟩:=h
 have fr:∀ y∈scope.names,y.2=.free->∃ c,X.env.cells.lookup y.1=some c:=λy hy e=>by
  have q:=hn y hy;rw [e] at q;refine ok.has y.1 ?_;revert q;dsimp only
  split
  ·rename_i z;intro _;exact .inl z
  ·rename_i z;intro _;exact .inr z
  ·intro q;cases q
 refine ⟨?_,zcu fr,λy hy e=>?_,λy hy e=>?_,λx c q=>zbz fr (λ_ _ z=>by cases z) q,λx q=>?_⟩
 ·revert hk
  cases scope.kind <;> simp
 ·have q:=hn y hy
  rw [e] at q;exact q2x q
 ·have q:=hn y hy
  rw [e] at q;revert q;dsimp only
  split
  ·rename_i z;intro _;exact z
  ·intro q;cases q
 ·have key:∀ k,(compEnvC scope (Zx X.env scope) 0 X.env).kindOf x=some k->(k=.cell∨k=.free)->(x,NameKind.free)∈scope.names:=by
   intro k hk' hkk;have q:((scope.names.map λy=>match y with | (n,k)=>if (k == NameKind.free && X.env.scope.kind == ScopeKind.function && X.env.kindOf n == some NameKind.cell)=true then (n,NameKind.cell) else (n,k))).lookup x=some k:=hk'
   obtain ⟨n,k',e1,e2⟩:∃ n k',(n,k')∈scope.names/\(match (n,k') with | (n,k)=>if (k == NameKind.free && X.env.scope.kind == ScopeKind.function && X.env.kindOf n == some NameKind.cell)=true then (n,NameKind.cell) else (n,k))=(x,k):=by
    have m:(x,k)∈(scope.names.map λy=>match y with | (n,k)=>if (k == NameKind.free && X.env.scope.kind == ScopeKind.function && X.env.kindOf n == some NameKind.cell)=true then (n,NameKind.cell) else (n,k)):=by
     revert q;generalize (scope.names.map λy=>match y with | (n,k)=>if (k == NameKind.free && X.env.scope.kind == ScopeKind.function && X.env.kindOf n == some NameKind.cell)=true then (n,NameKind.cell) else (n,k))=l
     induction l with
     | nil=>intro q;cases q
     | cons a l ih =>
      intro q;obtain ⟨a1,a2⟩:=a;rw [List.lookup_cons] at q
      cases hx:x == a1 with
      | true=>rw [hx] at q;cases q;have:=beq_iff_eq.mp hx;subst this;exact q1z
      | false=>rw [hx] at q;exact q1y _ (ih q)
    obtain ⟨⟨n,k'⟩,h1,h2⟩:=List.mem_map.mp m;exact ⟨n,k',h1,h2⟩
   dsimp only at e2
   split at e2
   ·rename_i z
    cases e2;simp only [Bool.and_eq_true,beq_iff_eq] at z;rw [z.1.1] at e1;exact e1
   ·cases e2
    rcases hkk with rfl | rfl
    ·have z:=hn _ e1
     exact absurd z q2x
    ·exact e1
  rcases q with q | q
  ·exact Xw (key _ q (.inl rfl))
  ·exact Xw (key _ q (.inr rfl))
def Xx (X:Cx) (scope:Scope):Jd->List (Option Nat)->Bool
 | [],[]=>true
 | _::r,none::c=>Xx X scope r c
 | x::r,some j::c=>(match X.N[j]? with | some y=>x == y | none=>false) && (match (compEnvC scope (Zx X.env scope) 0 X.env).kindOf x with | some .cell=>true | some .free=>true | _=>false)
   && (match X.env.kindOf x with | some .cell=>true | some .free=>true | _=>false) && Xx X scope r c
 | _,_=>false
def capt (cap:List (Option Nat)) (σ:St):St:=cap.map λo=>o.bind λj=>(σ[j]?).join
theorem Ym {X:Cx} {scope:Scope} {pins:Ja} {σ:St} {H:Hp} {s:Sh} (I:Inv X pins σ H s) (S:Sees X scope (Zx X.env scope)):∀ {NY:Jd} {cap:List (Option Nat)},Xx X scope NY cap=true->(capt cap σ).length=NY.length/\∀ (i:Nat) (x:Str) (v:V),NY[i]?=some x->(capt cap σ)[i]?=some (some v) ->
   ∃ c u,(((compEnvC scope (Zx X.env scope) 0 X.env).kindOf x=some .cell∨(compEnvC scope (Zx X.env scope) 0 X.env).kindOf x=some .free))/\(Zx X.env scope).lookup x=some c/\RelV v u/\s.heap.IsCell c (some u)
 | [],[],_=>⟨rfl,λi x v e _=>by cases e⟩
 | [],_::_,h=>by cases h
 | y::r,[],h=>by cases h
 | y::r,none::c,h=>by
  obtain ⟨l,q⟩:=Ym I S (NY:=r) (cap:=c) h;refine ⟨by rw [q3x,← l];rfl,λi x v e1 e2=>?_⟩
  cases i with
  | zero=>cases e2
  | succ i=>exact q i x v e1 e2
 | y::r,some j::c,h=>by
  unfold Xx at h;rw [Bool.and_eq_true,Bool.and_eq_true,Bool.and_eq_true] at h;obtain ⟨⟨⟨h1,h2⟩,h3⟩,h4⟩:=h;obtain ⟨l,q⟩:=Ym I S (NY:=r) (cap:=c) h4;refine ⟨by rw [q3x,← l];rfl,λi x v e1 e2=>?_⟩
  cases i with
  | succ i=>exact q i x v e1 e2
  | zero =>
   have ey:y=x:=Option.some.inj e1;subst ey;have ev:(σ[j]?).join=some v:=Option.some.inj e2
   have hσ:σ[j]?=some (some v):=by
    cases z:σ[j]? with
    | none=>rw [z] at ev;cases ev
    | some o=>rw [z] at ev;rw [show o=some v from ev]
   have hN:X.N[j]?=some y:=by
    cases z:X.N[j]? with
    | none=>rw [z] at h1;cases h1
    | some y'=>rw [z] at h1;rw [beq_iff_eq.mp h1]
   have hK:(compEnvC scope (Zx X.env scope) 0 X.env).kindOf y=some .cell∨(compEnvC scope (Zx X.env scope) 0 X.env).kindOf y=some .free:=by
    revert h2
    split
    ·rename_i z;intro _;exact .inl z
    ·rename_i z;intro _;exact .inr z
    ·intro q;cases q
   have hV:X.env.kindOf y=some .cell∨X.env.kindOf y=some .free:=by
    revert h3
    split
    ·rename_i z;intro _;exact .inl z
    ·rename_i z;intro _;exact .inr z
    ·intro q;cases q
   obtain ⟨c',hc'⟩:=S.has y hK;obtain ⟨m,_,hl⟩:=I.loc;obtain ⟨u,ru,lk⟩:=hl j y v hN hσ (.inr hV);refine ⟨c',u,hK,hc',ru,?_⟩;rcases lk with ⟨k,_⟩ | ⟨_,c2,e3,e4⟩
   ·have k':X.env.kindOf y=some .local:=k
    rcases hV with z | z <;> rw [z] at k' <;> cases k'
   ·have e5:=S.sub _ _ hc'
    rw [e3] at e5;cases e5;exact e4
abbrev tCompC (wi:TI) (g:TG) (te:TE) (cap:List (Option Nat)):TE:=tComp wi g te λσ _ σY=>σY=capt cap σ
section
variable {X:Cx} {tg:Expr}
def Zf {iter elt:Expr} {scope:Scope} {pos:Pos} {wi:TI} {g:TG} {te:TE} (NY:Jd) (cap:List (Option Nat)) (hc:X.calm=true) (hk:Y0 X scope=true) (hcap:Xx X scope NY cap=true) (hi:PI X tg iter wi)
  (hY:∀ (s3:Sh) (H3:Hp) (fp:Je),PG (X.comp scope (Zx X.env scope) NY s3 H3 fp) tg g/\PE (X.comp scope (Zx X.env scope) NY s3 H3 fp) elt te)
  (hs:∀ x,foldedSetIterable iter X.env x=pure x:=by intro _;rfl):PE X (.ListComp elt [⟨tg,iter,[],0⟩] scope pos) (tCompC wi g te cap):=by
 intro pins s σ H Q I h;have S:=Z2 I.ok hk;refine pe_comp (NY:=NY) hc S hi hY (λpins σ H s3 σY I3 e=>?_) hs pins s σ H Q I h;subst e;exact Ym I3 S hcap
def zbf {iter elt:Expr} {scope:Scope} {pos pos' spos:Pos} {wi:TI} {g:TG} {te:TE} {i:Nat} {y:Str} (NY:Jd) (cap:List (Option Nat)) (hc:X.calm=true) (hk:Y0 X scope=true) (hcap:Xx X scope NY cap=true) (hi:PI X tg iter wi)
  (hY:∀ (s3:Sh) (H3:Hp) (fp:Je),PG (X.comp scope (Zx X.env scope) NY s3 H3 fp) tg g/\PE (X.comp scope (Zx X.env scope) NY s3 H3 fp) elt te) (hN:X.N.Nodup) (hi':X.N[i]?=some y) (hx:Loc X.env.scope y)
  (hf:X.fn y=true∨X.env.scope.names.lookup y=some .local:=by first | exact .inl rfl | exact .inr rfl) (hw:swapsWith (.ListComp elt [⟨tg,iter,[],0⟩] scope pos) (some (.Name y pos')) spos.line X.env=pure true:=by rfl)
  (hs:∀ x,foldedSetIterable iter X.env x=pure x:=by intro _;rfl):PS X (.Assign [.Name y pos'] (.ListComp elt [⟨tg,iter,[],0⟩] scope pos) spos) (tAsg (tCompC wi g te cap) (gName i)):=by
 refine ps_comp (NY:=NY) hc (λI=>Z2 I.ok hk) hi hY (λpins σ H s3 σY I3 e=>?_) hs hN hi' hx hf hw;subst e;exact Ym I3 (Z2 I3.ok hk) hcap
end
section
variable {X:Cx}
def ix_listK {K:Fg} (e:X.K=K):IxR X (rIxL K):=by subst e;exact zO
end
def xl {ns:J9} {j:Int} (i:Nat) (h:i<ns.length) (e:j=i):atI (ns.map V.int) j=some (.int (ns.getD i 0)):=by
 subst e;refine zm ?_;rw [List.getElem?_map,List.getElem?_eq_getElem h];simp [List.getD,h]
def getD_mem {ns:J9} {i:Nat} (h:i<ns.length):ns.getD i 0∈ns:=by
 rw [q1x,List.getElem?_eq_getElem h];exact List.getElem_mem h
theorem ZQ {ns:J9} {i:Nat} {x:V} (h:(ns.map V.int)[i]?=some x):i<ns.length/\x=.int (ns.getD i 0):=by
 rw [List.getElem?_map] at h
 cases e:ns[i]? with
 | none=>rw [e] at h;cases h
 | some n =>
  rw [e] at h;refine ⟨(List.getElem?_eq_some_iff.mp e).1,?_⟩;rw [q1x,e];exact (Option.some.inj h).symm
section
variable {X:Cx} {pins:Ja} {σ:St} {H:Hp} {s:Sh}
def Inv.keptL {h':Heap} {t':Nat} (I:Inv X pins σ H s) {m:J0} (hl:∀ (i:Nat) (x:Str) (v:V),X.N[i]?=some x->σ[i]?=some (some v)->Vis X.env.scope x->∃ u,RelV v u/\Look X.env s.heap m x u)
  (k:∀ b o,b≠X.env.locals->s.heap.get? b=some o->h'.get? b=some o) (hn:h'.Ns X.env.locals m):Inv X pins σ H { s with heap:=h',toks:=t' }:=by
 have B:=I.base
 have ne0:∀ b o,X.s₀.heap.get? b=some o->b≠X.env.locals:=λb o q z=>by
  have h1:b<X.s₀.heap.objs.size:=Heap.lt_size q;have h2:X.s₀.heap.objs.size<=X.env.locals:=I.ok.above;rw [z] at h1;exact absurd (q2z h1 h2) (Nat.lt_irrefl _)
 refine ⟨I.ok,I.os,I.bare,⟨λb o q n hb hx=>?_,λb o q n hb hx=>?_,B.free,λb o q hx=>?_,B.tups,B.frzs,B.tbls⟩,⟨m,hn,λi x v e1 e2 vs=>?_⟩,λx c q=>?_,I.free,I.freeC,λp hp=>?_,λb o q=>?_,I.len⟩
 ·exact k _ _ (ne0 _ _ q) (B.keep b o q n hb hx)
 ·obtain ⟨sl,z⟩:=B.slot b o q n hb hx
  exact ⟨sl,k _ _ (ne0 _ _ q) z⟩
 ·obtain ⟨o',z⟩:=B.there b o q hx
  exact ⟨o',k _ _ (ne0 _ _ q) z⟩
 ·obtain ⟨u,r,lk⟩:=hl i x v e1 e2 vs
  refine ⟨u,r,?_⟩;rcases lk with z | ⟨z1,c,z2,o,z3,z4⟩
  ·exact .inl z
  ·exact .inr ⟨z1,c,z2,o,k _ _ (I.cne _ _ z2) z3,z4⟩
 ·obtain ⟨v,o,z1,z2⟩:=I.cell x c q
  exact ⟨v,o,k _ _ (I.cne _ _ q) z1,z2⟩
 ·obtain ⟨z1,z2,z3,z4⟩:=I.pin p hp
  exact ⟨k _ _ z3 z1,z2,z3,z4⟩
 ·refine (I.hok b o q).stay (λc v hc r=>k _ _ ?_ r) (λ_ z=>z) λ_ _ z=>z
  rintro rfl;rcases hc with z | z
  ·rw [← z,I.free] at q;cases q
  ·rw [I.free] at z;cases z
def fr_all (I:Inv X pins σ H s) {m:J0} (hm:s.heap.Ns X.env.locals m):Fr X.base X.env.locals s.heap m:=⟨hm,I.bk,Nat.le_trans I.ok.bsz I.ok.above⟩
theorem kept_all {h':Heap} {m:J0} (F:Fr X.base X.env.locals h' m) (N:News X.base X.env.locals h' (Yn X.base s.heap X.env.locals)) (I:Inv X pins σ H s):∀ b o,b≠X.env.locals->s.heap.get? b=some o->h'.get? b=some o:=λb o n q=>by
 cases e:X.base.get? b with
 | none=>exact (N (b,o) (zbs n e q)).1
 | some o' =>
  have z:=I.bk b o' e;rw [q] at z;cases z;exact F.keep b o e
end
section
variable {X:Cx}
inductive rSum (K:Fg) (xs:Jl) (H:Hp) (Q:VK):Prop
 | mk (p:Ad) (ns:J9) (_:xs=[.ref p]) (_:SqL K H p (ns.map V.int)) (_:Q (.int ns.sum) H)
def Xy (hc:X.calm=true):Zr X (.builtin "sum") (rSum X.K):=by
 intro pins s σ H xs us Q I r h;obtain ⟨p,ns,rfl,hp,q⟩:=h;obtain ⟨u,rfl,ru⟩:=r.one;cases (show u=Value.ref p from ru);obtain ⟨its,rv,pl,_⟩:=I.list hp;obtain ⟨m,hm,hl⟩:=I.loc
 exact LSm.sum_ints (fr_all I hm) news_all (I.ok.hd hc) pl.isList (ints_of rv) λh' tk t' F N =>
  ⟨.int ns.sum,H,I.keptL hl (kept_all F N I) F.ns,⟨_,rfl⟩,q⟩
end
mutual
inductive DV (K:Fg) (H:Hp):V->PyData->Prop
 | non:DV K H .non .none
 | bl (b:Bool):DV K H (.bl b) (.bool b)
 | int (i:Int):DV K H (.int i) (.int i)
 | str (x:Str):DV K H (.str x) (.str x)
 | lst {a:Ad} {xs:Jl} {ds:List PyData}:SqL K H a xs->DVs K H xs ds->DV K H (.ref a) (.list ds)
 | tup {a:Ad} {xs:Jl} {ds:List PyData}:SqT K H a xs->DVs K H xs ds->DV K H (.ref a) (.tuple ds)
inductive DVs (K:Fg) (H:Hp):Jl->List PyData->Prop
 | nil:DVs K H [] []
 | cons {v:V} {vs:Jl} {d:PyData} {ds:List PyData}:DV K H v d->DVs K H vs ds->DVs K H (v::vs) (d::ds)
end
section
variable {X:Cx} {pins:Ja} {σ:St} {H:Hp} {s:Sh}
mutual
theorem Xq (I:Inv X pins σ H s):∀ {v:V} {d:PyData} {u:Vl},DV X.K H v d->RelV v u->∃ as,Reads s.heap u d as
 | _,_,u,.non,r=>by cases (show u=Value.none from r);exact ⟨_,.none⟩
 | _,_,u,.bl b,r=>by cases (show u=Value.bool b from r);exact ⟨_,.bool b⟩
 | _,_,u,.int i,r=>by obtain ⟨t,rfl⟩:=(show ∃ t,u=Value.int i t from r);exact ⟨_,.int i t⟩
 | _,_,u,.str x,r=>by obtain ⟨t,rfl⟩:=(show ∃ t,u=Value.str x t from r);exact ⟨_,.str x t⟩
 | _,_,u,.lst (a:=a) h q,r=>by
  cases (show u=Value.ref a from r);obtain ⟨its,rv,⟨o,n,e,c,d,f⟩,_⟩:=I.list h;obtain ⟨as,ra⟩:=Yx I q rv;exact ⟨_,.list e c f ra⟩
 | _,_,u,.tup (a:=a) h q,r=>by
  cases (show u=Value.ref a from r);obtain ⟨its,rv,⟨o,e,c,n,f⟩,_⟩:=I.tuple h;obtain ⟨as,ra⟩:=Yx I q rv;exact ⟨_,.tuple e c f ra⟩
theorem Yx (I:Inv X pins σ H s):∀ {vs:Jl} {ds:List PyData} {us:Jb},DVs X.K H vs ds->Vals vs us->∃ as,ReadsAll s.heap us ds as
 | _,_,_,.nil,.nil=>⟨_,.nil⟩
 | _,_,_,.cons h q,.cons r rr=>by
  obtain ⟨as,ra⟩:=Xq I h r;obtain ⟨bs,rb⟩:=Yx I q rr;exact ⟨_,.cons ra rb⟩
end
end
section
variable {X:Cx}
inductive rEqD (K:Fg) (f:Bool->Bool) (x y:V) (H:Hp) (Q:VK):Prop
 | mk (d e:_) (_:DV K H x d) (_:DV K H y e) (_:d.canLay0=true) (_:e.canLay0=true) (_:d.depth<=64) (_:Q (.bl (f (d.eqv e))) H)
def op_neD (hu:X.A.units+64<cLine):OpR X (compareOp .NotEq) (rEqD X.K not):=by
 intro pins s σ H x y v u Q I rx ry h;obtain ⟨d,e,hd,he,c1,c2,dp,q⟩:=h;obtain ⟨as,ra⟩:=Xq I hd rx;obtain ⟨bs,rb⟩:=Xq I he ry;exact SeqAt.compareNe_reads ra rb c1 c2 (by omega) ⟨.bl _,H,I,rfl,q⟩
end
def dI (ns:J9):PyData:=.list (ns.map PyData.int)
theorem zbt {K:Fg} {H:Hp}:∀ {ns:J9},DVs K H (ns.map V.int) (ns.map PyData.int)
 | []=>.nil
 | n::ns=>.cons (.int n) zbt
def x8 {K:Fg} {H:Hp} {a:Ad} {ns:J9} (h:SqL K H a (ns.map V.int)):DV K H (.ref a) (dI ns):=.lst h zbt
theorem Zw:∀ {ns:J9},PyData.canLayAll0 (ns.map PyData.int)=true
 | []=>rfl
 | n::ns=>by
  rw [List.map_cons];show (PyData.canLay0 (.int n) && PyData.canLayAll0 (ns.map PyData.int))=true;rw [Zw];rfl
def Yg {ns:J9}:(dI ns).canLay0=true:=Zw
theorem ZL:∀ {ns:J9},PyData.depthAll (ns.map PyData.int)<=1
 | []=>by decide
 | n::ns=>by
  have:=ZL (ns:=ns);rw [List.map_cons];show max (PyData.depth (.int n)) (PyData.depthAll (ns.map PyData.int))<=1;have e:PyData.depth (.int n)<=1:=by show _<=_;simp [PyData.depth]
  omega
end L2
namespace L2
open PySem
def Xr {xs:List PyData} {n:Nat} (h:PyData.depthAll xs<=n):(PyData.list xs).depth<=n+1:=by
 have e:(PyData.list xs).depth=PyData.depthAll xs+1:=by first | rfl | (simp [PyData.depth];done) | (simp [PyData.depth];omega)
 omega
def dep_tup {xs:List PyData} {n:Nat} (h:PyData.depthAll xs<=n):(PyData.tuple xs).depth<=n+1:=by
 have e:(PyData.tuple xs).depth=PyData.depthAll xs+1:=by first | rfl | (simp [PyData.depth];done) | (simp [PyData.depth];omega)
 omega
def YS {n:Nat}:PyData.depthAll []<=n:=by
 have e:PyData.depthAll []=0:=by first | rfl | simp [PyData.depthAll]
 omega
def yh {x:PyData} {xs:List PyData} {n:Nat} (h:x.depth<=n) (h':PyData.depthAll xs<=n):PyData.depthAll (x::xs)<=n:=by
 have e:PyData.depthAll (x::xs)=max x.depth (PyData.depthAll xs):=by first | rfl | simp [PyData.depthAll]
 omega
def Yi {ns:J9}:(dI ns).depth<=2:=Xr ZL
end L2
namespace L2
open PySem PySem.Spec PyProof.Rows
def zw {K:Fg} {H H':Hp} {a:Ad} {xs:Jl} (h:SqL K H a xs) (s:Same H H'):SqL K H' a xs:=by
 rcases h with h | h
 ·exact .inl (h.imp (λz=>s _ _ z) λ⟨o,z⟩=>⟨o,s _ _ z⟩)
 ·exact .inr h
def zn {H H':Hp} {a:Ad} {o:HO} (s:Same H H') (h:H a=none):Same H (upd H' a o):=λc x z=>by rw [zj (zr z h)];exact s _ _ z
def sIx_pos {n d:Nat} {a:Int} (h:0<=a):HT.sIx n d (some a)=min a.toNat n:=by
 show (if a<0 then (a+(n:Int)).toNat else min a.toNat n)=min a.toNat n;rw [if_neg (by omega)]
def X2 {cs:J9} {b:Int} (hb:0<=b):cutV (cs.map V.int) none (some b)=(cs.take b.toNat).map V.int:=by
 unfold cutV;rw [HT.sIx_none,sIx_pos hb,Jg,List.drop_zero,Nat.sub_zero,← List.map_take];congr 1;rw [List.take_eq_take_iff];omega
section
variable {P:Program} {w:World} {K:Fg} {mg:J0} {base:Heap}
def zY (K:Fg) (C:Ad) (x qual:Str) (st:Stmt) (ps:Jd):Prop:=∃ (f:Ad) (fd:FuncData),Meth K C x f/\Fun K x qual st f fd/\Binds K fd ps []
def OkM (P:Program) (w:World) (K:Fg) (mg:J0) (base:Heap) (CX:CXT) (k:Nat) (C:Ad) (x:Str) (ps:Jd) (sp:Sp):Prop :=
 ∃ (f:Ad) (fd:FuncData),Meth K C x f/\Binds K fd ps []/\FnOk P w K mg base CX k f fd ps sp
def ZX (K:Fg) (C:Ad) (qual:Str) (st:Stmt) (ps:Jd):Prop:=∃ (f:Ad) (fd:FuncData),Mk K C f/\Fun K "__init__" qual st f fd/\Binds K fd ps []
def OkI (P:Program) (w:World) (K:Fg) (mg:J0) (base:Heap) (CX:CXT) (k:Nat) (C:Ad) (ps:Jd) (sp:Sp):Prop :=
 ∃ (f:Ad) (fd:FuncData),Mk K C f/\Binds K fd ps []/\FnOk P w K mg base CX k f fd ps sp
end
section
variable {X:Cx} {CX:CXT} {k:Nat} {C:Ad} {ps:Jd} {sp:Sp} {E:XK} {x m:Str} {p pos apos:Pos} {e o:Expr} {es:Jf} {ta:TE} {t:TA}
def yb (h:OkM X.prog X.w X.K X.mg X.base CX k C m ps sp) (c:Cls X.K C) (hr:Room k X.A) (hx:xo CX X E) {pl:Sem Bool} (he:PE X o ta) (ha:PA X (e::es) t)
  (hst:starEach (e::es) X.env=(false,eval e X.env)::starEach es X.env:=by rfl) (hpl:(backTo pos (starEach es X.env)).any (·.1)=false:=by rfl)
  (ht:eval (.Call (.Attribute o m apos) (e::es) [] pos) X.env=(do
   let ov ← eval o X.env
   standAt apos.atName
   let (f,first) ← holding [ov] (getMethod ov m pl)
   callWith pos f first (backTo pos (starEach (e::es) X.env)) (backToKw pos (keywordEach [] X.env))):=by rfl) :
  PE X (.Call (.Attribute o m apos) (e::es) [] pos) (tMeth C m sp [] E ta t):=by
 obtain ⟨f,fd,a,b,d⟩:=h;exact pe_meth he c a d hr b .nil hx ha hst hpl ht
def pe_okM0 (h:OkM X.prog X.w X.K X.mg X.base CX k C m ps sp) (c:Cls X.K C) (hr:Room k X.A) (hx:xo CX X E) {pl:Sem Bool} (he:PE X o ta)
  (ht:eval (.Call (.Attribute o m apos) [] [] pos) X.env=(do
   let ov ← eval o X.env
   standAt apos.atName
   let (f,first) ← holding [ov] (getMethod ov m pl)
   callWith pos f first (backTo pos (starEach [] X.env)) (backToKw pos (keywordEach [] X.env))):=by rfl) :
  PE X (.Call (.Attribute o m apos) [] [] pos) (tMeth C m sp [] E ta tNil):=by
 obtain ⟨f,fd,a,b,d⟩:=h;exact pe_meth0 he c a d hr b .nil hx ht
def zar (h:OkI X.prog X.w X.K X.mg X.base CX k C ps sp) (hm:X.mg x=some (.ref C)) (hr:Room (k+1) X.A) (hg:Gl X x) (hx:xo CX X E) (ha:PA X (e::es) t) (hdb:(x == ("__debug__":Str))=false:=by decide)
  (he:starEach (e::es) X.env=(false,eval e X.env)::starEach es X.env:=by rfl) (hpl:(backTo pos (starEach es X.env)).any (·.1)=false:=by rfl):PE X (.Call (.Name x p) (e::es) [] pos) (tMake C sp [] E t):=by
 obtain ⟨f,fd,a,b,d⟩:=h;exact pe_make a d hr hg hm b .nil hx ha hdb he hpl
end
theorem rep_ints (n:Nat):(List.replicate n [V.int 0]).flatten=(List.replicate n (0:Int)).map V.int:=by
 induction n with
 | zero=>rfl
 | succ n ih=>rw [List.replicate_succ,List.flatten_cons,ih];rfl
def set_ints {ns:J9} {j:Nat} {n:Int}:(ns.map V.int).set j (.int n)=(ns.set j n).map V.int:=by rw [List.map_set]
def ixN_nat {n:Nat} {i:Int} (h0:0<=i) (h1:i<n):ixN n i=some i.toNat:=by
 unfold ixN;rw [if_pos h0,if_pos h1]
def FH (K:Fg) (x qual:Str) (st:Stmt) (f:Ad):Prop:=∃ (oc:Vl) (od:Option Ad) (kV dc pm:Vl) (an:Option Ad) (cd ct:Vl) (sl:Array (Jc)),K.lookup f=some ⟨oc,od,.func (PySem.W.fnOf x qual (yO st) (yx st) (zg st) .none kV dc pm an cd ct),sl⟩/\PySem.W.codeIn K cd qual=true/\PySem.W.keepIn K (.ref f)=true
def DH (K:Fg) (x:Str) (st:Stmt) (f:Ad):Prop:=PySem.W.nsIn K mainGlobals x=some (some (.ref f))/\FH K x x st f
def MH (K:Fg) (C:Ad) (x qual:Str) (st:Stmt):Prop:=∃ f:Ad,(PySem.W.findIn K (.ref C) x=some (some (.ref f))/\PySem.W.isFn K (.ref f)=true)/\FH K x qual st f
def CH (K:Fg) (C:Ad):Prop:=PySem.W.plainGet K C Str.empty=true/\PySem.W.hasDictIn K C=true/\PySem.W.plainOver K C=true/\PySem.W.findIn K (.ref C) "__setattr__"=some (some (.builtin "object.__setattr__"))
def FN (K:Fg) (C:Ad):Jd->Prop
 | []=>True
 | f::r=>PySem.W.findIn K (.ref C) f=some none/\FN K C r
section
variable {K:Fg} {mg:J0} {x qual:Str} {st:Stmt} {f C:Ad} {h:Heap} {ps:Jd}
def DH.d (d:DH K x st f) (X:K.In h) (G:h.Ns mainGlobals mg)
  (b:∀ (kV doc pm:Vl) (an:Option Ad) (cdv ct:Vl) (us:Jb),us.length=ps.length->bindArgs (PySem.W.fnOf x x (yO st) (yx st) (zg st) .none kV doc pm an cdv ct) ⟨us,[]⟩=pure (ps.zip us)):zk K mg x st ps :=
 let ⟨a,_,_,_,_,_,_,_,_,_,l,c,k⟩:=d;defIn_mk X G a l c k b
def MH.m (d:MH K C x qual st)
  (b:∀ (kV doc pm:Vl) (an:Option Ad) (cdv ct:Vl) (us:Jb),us.length=ps.length->bindArgs (PySem.W.fnOf x qual (yO st) (yx st) (zg st) .none kV doc pm an cdv ct) ⟨us,[]⟩=pure (ps.zip us)):zY K C x qual st ps :=
 let ⟨f,⟨a,n⟩,_,_,_,_,_,_,_,_,_,l,c,k⟩:=d;⟨f,_,⟨a,n,k⟩,ZU l c k,(ZU l c k).binds b⟩
def MH.i (d:MH K C "__init__" qual st) (mk:PySem.W.makesIn K C=true) (kC:PySem.W.keepIn K (.ref C)=true)
  (b:∀ (kV doc pm:Vl) (an:Option Ad) (cdv ct:Vl) (us:Jb),us.length=ps.length->bindArgs (PySem.W.fnOf "__init__" qual (yO st) (yx st) (zg st) .none kV doc pm an cdv ct) ⟨us,[]⟩=pure (ps.zip us)):ZX K C qual st ps :=
 let ⟨f,⟨a,n⟩,_,_,_,_,_,_,_,_,_,l,c,k⟩:=d;⟨f,_,⟨mk,a,n,kC⟩,ZU l c k,(ZU l c k).binds b⟩
def CH.c (d:CH K C):Cls K C:=⟨d.1,d.2.1,d.2.2.1,d.2.2.2⟩
end
end L2
namespace L2
open PySem
def DH.mk {K:Fg} {x:Str} {st:Stmt} {f:Ad} {oc:Vl} {od an:Option Ad} {kV dc pm cd ct:Vl} {sl:Array (Jc)} (a:PySem.W.nsIn K mainGlobals x=some (some (.ref f))) (l:K.lookup f=some ⟨oc,od,.func (PySem.W.fnOf x x (yO st) (yx st) (zg st) .none kV dc pm an cd ct),sl⟩) (c:PySem.W.codeIn K cd x=true) (k:PySem.W.keepIn K (.ref f)=true):DH K x st f:=⟨a,_,_,_,_,_,_,_,_,_,l,c,k⟩
def MH.mk {K:Fg} {C:Ad} {x qual:Str} {st:Stmt} {f:Ad} {oc:Vl} {od an:Option Ad} {kV dc pm cd ct:Vl} {sl:Array (Jc)} (a:PySem.W.findIn K (.ref C) x=some (some (.ref f))) (n:PySem.W.isFn K (.ref f)=true) (l:K.lookup f=some ⟨oc,od,.func (PySem.W.fnOf x qual (yO st) (yx st) (zg st) .none kV dc pm an cd ct),sl⟩) (c:PySem.W.codeIn K cd qual=true) (k:PySem.W.keepIn K (.ref f)=true):MH K C x qual st:=⟨f,⟨a,n⟩,_,_,_,_,_,_,_,_,_,l,c,k⟩
def scK {N P:Jd} {sc:Scope} (h:(decide (sc.kind=.function) && (!sc.isCoroutine && (!sc.isGenerator && (decide N.Nodup && (decide (N.take P.length=P) && ((P.all λx=>decide (sc.names.lookup x=some .local∨sc.names.lookup x=some .cell)) && sc.names.all λy=>decide (y.2≠.free)))))))=true:=by decide +kernel):FnScope N P sc:=by
 simp only [Bool.and_eq_true,decide_eq_true_eq,Bool.not_eq_true',List.all_eq_true] at h;obtain ⟨h1,h2,h3,h4,h5,h6,h7⟩:=h;exact ⟨h1,h2,h3,h4,h5,h6,h7⟩
def TB (K:Fg) (T:Ad):List (Str×Ad)->Prop
 | []=>True
 | p::r=>PySem.W.nsIn K T p.1=some (some (.ref p.2))/\TB K T r
def TN (K:Fg) (T:Ad):Jd->Prop
 | []=>True
 | x::r=>PySem.W.nsIn K T x=some none/\TN K T r
end L2
namespace L2
open PySem PySem.Spec PyProof.Rows
structure Hd (B:Hp) (L:Jk) (H:Hp):Prop where
 nd:(L.map Prod.fst).Nodup
 nw:∀ p∈L,B p.1=none
 st:∀ p∈L,H p.1=some p.2
 sm:Same B H
namespace Hd
variable {B:Hp} {L:Jk} {H H':Hp} {a b:Ad} {o o':HO}
def base:Hd B [] B:=⟨List.nodup_nil,(λ_ h=>nomatch h),(λ_ h=>nomatch h),Same.refl B⟩
def get (h:Hd B L H) (i:Nat) (e:L[i]?=some (a,o)):H a=some o:=h.st _ (List.mem_of_getElem? e)
def same (h:Hd B L H) (s:Same H H'):Hd B L H':=⟨h.nd,h.nw,λp m=>s _ _ (h.st p m),h.sm.trans s⟩
def new (h:Hd B L H) (n:H a=none):Hd B ((a,o)::L) (upd H a o):=by
 have ne:∀ p∈L,p.1≠a:=λp m=>zr (h.st p m) n;refine ⟨List.nodup_cons.mpr ⟨λm=>?_,h.nd⟩,λp m=>?_,λp m=>?_,zn h.sm (h.sm.free n)⟩
 ·obtain ⟨p,mp,e⟩:=List.mem_map.mp m
  exact ne p mp e
 ·rcases List.mem_cons.mp m with rfl | m
  ·exact h.sm.free n
  ·exact h.nw p m
 ·rcases List.mem_cons.mp m with rfl | m
  ·exact zh
  ·rw [zj (ne p m)];exact h.st p m
def fst_set (i:Nat) (e:L[i]?=some (a,o)):(L.set i (a,o')).map Prod.fst=L.map Prod.fst:=by
 rw [List.map_set];apply List.ext_getElem?;intro j;rw [List.getElem?_set]
 split
 ·rename_i q
  subst q
  split
  ·rw [List.getElem?_map,e];rfl
  ·rename_i q
   rw [List.getElem?_eq_none (by omega)]
 ·rfl
theorem ne (h:Hd B L H) (i j:Nat) (ei:L[i]?=some (a,o)) (ej:L[j]?=some (b,o')) (hij:i≠j):a≠b:=λe=>by
 subst e;have h1:(L.map Prod.fst)[i]?=some a:=by rw [List.getElem?_map,ei];rfl
 have h2:(L.map Prod.fst)[j]?=some a:=by rw [List.getElem?_map,ej];rfl
 obtain ⟨b1,e1⟩:=List.getElem?_eq_some_iff.mp h1;obtain ⟨b2,e2⟩:=List.getElem?_eq_some_iff.mp h2
 have key:∀ (l:Je),l.Nodup->∀ (i j:Nat) (b1:i<l.length) (b2:j<l.length),l[i]=l[j]->i=j:=by
  intro l hl
  induction l with
  | nil=>intro i j b1;cases b1
  | cons x r ih =>
   intro i j b1 b2 q;have nr:=List.nodup_cons.mp hl
   cases i with
   | zero =>
    cases j with
    | zero=>rfl
    | succ j=>exact absurd (by rw [List.getElem_cons_zero,List.getElem_cons_succ] at q;rw [q];exact List.getElem_mem _) nr.1
   | succ i =>
    cases j with
    | zero=>exact absurd (by rw [List.getElem_cons_zero,List.getElem_cons_succ] at q;rw [← q];exact List.getElem_mem _) nr.1
    | succ j=>rw [List.getElem_cons_succ,List.getElem_cons_succ] at q;rw [ih nr.2 i j _ _ q]
 exact hij (key _ h.nd i j b1 b2 (e1.trans e2.symm))
def chg (h:Hd B L H) (i:Nat) (e:L[i]?=some (a,o)) (k:∀ c u,c≠a->H c=some u->H' c=some u) (q:H' a=some o'):Hd B (L.set i (a,o')) H':=by
 have nb:B a=none:=h.nw _ (List.mem_of_getElem? e);refine ⟨by rw [fst_set i e];exact h.nd,λp m=>?_,λp m=>?_,λc u z=>k c u (zr z nb) (h.sm c u z)⟩
 ·rcases List.mem_or_eq_of_mem_set m with m | rfl
  ·exact h.nw p m
  ·exact nb
 ·obtain ⟨j,lt,ej⟩:=List.getElem_of_mem m
  have ej:(L.set i (a,o'))[j]?=some p:=by rw [List.getElem?_eq_getElem lt,ej]
  rw [List.getElem?_set] at ej
  split at ej
  ·split at ej
   ·cases ej;exact q
   ·cases ej
  ·rename_i hij
   obtain ⟨c,u⟩:=p;exact k c u (Ne.symm (h.ne i j e ej hij)) (h.get j ej)
def put (h:Hd B L H) (i:Nat) (e:L[i]?=some (a,o)):Hd B (L.set i (a,o')) (upd H a o'):=h.chg i e (λc u n z=>by rw [zj n];exact z) zh
def sql (h:Hd B L H) {K:Fg} {xs:Jl} (q:SqL K B a xs):SqL K H a xs:=zw q h.sm
def sqt (h:Hd B L H) {K:Fg} {xs:Jl} (q:SqT K B a xs):SqT K H a xs:=by
 rcases q with (q | ⟨o,q⟩) | q
 ·exact .inl (.inl (h.sm _ _ q))
 ·exact .inl (.inr ⟨o,h.sm _ _ q⟩)
 ·exact .inr q
def lst (h:Hd B L H) {K:Fg} {xs:Jl} (i:Nat) (e:L[i]?=some (a,.lst xs)):SqL K H a xs:=SqL.of (h.get i e)
def tup (h:Hd B L H) {K:Fg} {xs:Jl} (i:Nat) (e:L[i]?=some (a,.tup xs)):SqT K H a xs:=SqT.of (h.get i e)
def sub {L':Jk} (h:Hd B L H) (s:List.Sublist L' L):Hd B L' H:=⟨h.nd.sublist (s.map _),λp m=>h.nw p (s.subset m),λp m=>h.st p (s.subset m),h.sm⟩
def tl {p:Ad×HO} (h:Hd B (p::L) H):Hd B L H:=h.sub (List.sublist_cons_self _ _)
def free (h:Hd B L H) (n:H a=none):B a=none:=h.sm.free n
def add (h:Hd B L H) (n:∀ p∈L,p.1≠a) (nb:B a=none) (e:H a=some o):Hd B ((a,o)::L) H:=by
 refine ⟨List.nodup_cons.mpr ⟨λm=>?_,h.nd⟩,λp m=>?_,λp m=>?_,h.sm⟩
 ·obtain ⟨p,mp,e⟩:=List.mem_map.mp m
  exact n p mp e
 ·rcases List.mem_cons.mp m with rfl | m
  ·exact nb
  ·exact h.nw p m
 ·rcases List.mem_cons.mp m with rfl | m
  ·exact e
  ·exact h.st p m
def made {C x dx l:Ad} {ox ol:HO} (h:Hd B L H) (nx:H x=none) (ndx:H dx=none) (ne:dx≠x) (k:∀ b u,b≠x->upd (upd H dx (.own x)) x (.ins C dx []) b=some u->H' b=some u)
  (nl:upd (upd H dx (.own x)) x (.ins C dx []) l=none) (ex:H' x=some ox) (el:H' l=some ol):Hd B ((l,ol)::(x,ox)::(dx,.own x)::L) H':=by
 have h1:Hd B ((dx,.own x)::L) (upd H dx (.own x)):=h.new ndx;have h2:Hd B ((x,.ins C dx [])::(dx,.own x)::L) (upd (upd H dx (.own x)) x (.ins C dx [])):=h1.new (by rw [zj (Ne.symm ne)];exact nx);have h3:Hd B ((x,ox)::(dx,.own x)::L) H':=h2.chg 0 rfl k ex;refine h3.add (λp m=>?_) (h2.free nl) el;rcases List.mem_cons.mp m with rfl | m
 ·exact zr (h2.get 0 rfl) nl
 ·exact zr (h2.st p (q1y _ m)) nl
def perm {B:Hp} {L L':Jk} {H:Hp} (h:Hd B L H) (p:L.Perm L'):Hd B L' H:=⟨(p.map Prod.fst).nodup h.nd,λq m=>h.nw q (p.mem_iff.mpr m),λq m=>h.st q (p.mem_iff.mpr m),h.sm⟩
end Hd
section
variable {X:Cx} {st:Stmt} {t:TS} {e:Expr} {te:TE}
inductive tMid (t:TS) (D:Ends) (σ:St) (H:Hp):Prop
 | mk (M:St->Hp->Prop) (_:t { D with nx:=M } σ H) (_:∀ σ' H',M σ' H'->D.nx σ' H')
theorem xb (h:PS X st t):PS X st (tMid t):=by
 intro pins s σ H D I q;obtain ⟨M,q,k⟩:=q;refine thn (h pins s σ H _ I q) λf s1 z=>?_
 cases f with
 | next=>exact let ⟨σ',H',I',z⟩:=z;⟨σ',H',I',k _ _ z⟩
 | ret v=>exact z
 | brk=>exact z
 | cont=>exact z
end
def but (H:Hp) (ls:Je):Hp:=λb=>if b∈ls then none else H b
def but_none {H:Hp} {ls:Je} {b:Ad} (h:b∈ls):but H ls b=none:=by unfold but;rw [if_pos h]
def but_of {H:Hp} {ls:Je} {b:Ad} {o:HO} (h:H b=some o) (n:b ∉ ls):but H ls b=some o:=by unfold but;rw [if_neg n];exact h
def but_sub {H:Hp} {ls:Je}:Same (but H ls) H:=λb o z=>by
 unfold but at z
 split at z
 ·cases z
 ·exact z
namespace Hd
variable {B B':Hp} {L:Jk} {H H':Hp} {a:Ad} {o:HO}
def into (h:Hd B [(a,o)] H):Same B (but H [a]):=λb u z=>but_of (h.sm _ _ z) (by
 intro q;have q:=List.mem_singleton.mp q;subst q;rw [h.nw _ (List.mem_singleton.mpr rfl)] at z;cases z)
end Hd
section
variable {X:Cx} {pins:Ja} {σ σ':St} {H H':Hp} {s s':Sh} {a:Ad} {xs:Jl}
end
namespace Hd
variable {B:Hp} {L L':Jk} {H:Hp}
def split (h:Hd B L H) (s:List.Sublist L' L):Same B (but H (L'.map Prod.fst))/\Hd (but H (L'.map Prod.fst)) L' H:=by
 refine ⟨λb o z=>but_of (h.sm _ _ z) λm=>?_,(h.sub s).nd,λp m=>but_none (List.mem_map_of_mem m),(h.sub s).st,but_sub⟩;obtain ⟨p,mp,e⟩:=List.mem_map.mp m;have:=h.nw p (s.subset mp);rw [e] at this;rw [this] at z;cases z
end Hd
def ItS (lo c:Int) (n:Nat):It:=⟨λi _=>i<n,λi H x H'=>H'=H/\x=.int (lo+i*c),λi _=>n<=i⟩
section
variable {X:Cx} {tg:Expr}
end
section
variable {X:Cx}
end
section
variable {X:Cx} {pins:Ja} {σ σ':St} {H H':Hp} {s s':Sh} {a:Ad} {xs:Jl}
def Part (H H':Hp):Prop:=∀ b o,(∀ x u,o≠.frz x u)->H b=some o->H' b=some o
def lsts (L:List (Ad×Jl)):Jk:=L.map λp=>(p.1,.lst p.2)
end
theorem ints_at {ns:J9} {us:Jb} (h:Vals (ns.map V.int) us) (i:Nat) (v:Vl) (e:us[i]?=some v):∃ n t,ns[i]?=some n/\v=.int n t:=by
 induction ns generalizing us i with
 | nil=>cases h;cases e
 | cons n ns ih =>
  cases h with
  | cons r rr =>
   cases i with
   | zero=>obtain ⟨t,rfl⟩:=r;cases (show some _=some v from e);exact ⟨n,t,rfl,rfl⟩
   | succ i=>exact ih rr i e
theorem vals_len {vs:Jl} {us:Jb} (h:Vals vs us):us.length=vs.length:=by
 induction h with
 | nil=>rfl
 | cons _ _ ih=>rw [q3x,q3x,ih]
inductive rAnyI (K:Fg) (xs:Jl) (H:Hp) (Q:VK):Prop
 | mk (p:Ad) (ns:J9) (_:xs=[.ref p]) (_:SqL K H p (ns.map V.int)) (_:Q (.bl (ns.any λv=>decide (v≠0))) H)
theorem zcd (ns:J9):((List.range ns.length).any λi=>(ns[i]?).elim false λv=>decide (v≠0))=ns.any λv=>decide (v≠0):=by
 induction ns with
 | nil=>rfl
 | cons n ns ih =>
  rw [q3x,List.range_succ_eq_map,List.any_cons,List.any_map,List.any_cons,← ih];rfl
section
variable {X:Cx}
def call_anyI (hc:X.calm=true):Zr X (.builtin "any") (rAnyI X.K):=by
 intro pins s σ H xs us Q I r h;obtain ⟨p,ns,rfl,hp,q⟩:=h;obtain ⟨u,rfl,ru⟩:=r.one;cases (show u=Value.ref p from ru);obtain ⟨its,rv,pl,_⟩:=I.list hp;have hl:=pl.isList;have hlt:p<s.heap.objs.size:=by obtain ⟨_,e,_⟩:=hl;exact Heap.lt_size e
 refine call_any_walk (wpAny_pyIter_list hl ?_)
 refine ⟨s.heap.objs.size,[s.heap.objs.size,p],[s.heap.objs.size],its.toArray.size,_,_,λi=>(ns[i]?).elim false λv=>decide (v≠0),rfl,Walks.list (A:=X.A.in1) (I.ok.hd hc) _ p (Nat.ne_of_lt hlt) its.toArray,
  ⟨⟨_,Heap.get?_push_size _ rfl,rfl,rfl⟩,hl.push _⟩,λi v s' Q' E' hP hQ=>?_,λh' tk hk=>?_⟩
 ·obtain ⟨n,t,e,rfl⟩:=ints_at rv i v (by simpa using hP)
  simp only [e,Option.elim] at hQ;have ed:decide (n≠0)=(n != 0):=by by_cases z:n=0 <;> simp [z]
  rw [ed] at hQ;exact PySem.P.truthy_int hQ
 ·obtain ⟨m,hm,hl⟩:=I.loc
  have ek:((List.range its.toArray.size).any λi=>(ns[i]?).elim false λv=>decide (v≠0))=ns.any λv=>decide (v≠0):=by
   have:=vals_len rv;rw [Jg] at this;rw [List.size_toArray,this];exact zcd ns
  rw [ek];exact ⟨.bl _,H,I.kept λb o e=>hk b o (λhm=>by rw [List.mem_singleton.mp hm] at e;exact Nat.lt_irrefl _ (Heap.lt_size e)) (Heap.get?_push_of_some _ e),rfl,q⟩
end
section
variable {X:Cx} {pins:Ja} {σ:St} {H:Hp} {s:Sh}
theorem kit_of {x:V} {u t:Vl} (I:Inv X pins σ H s) (rx:RelV x u) (ty:TyOf X.K H x t):∃ Z:Heap->Prop,PySem.W.KitX X.K u t Z/\Z s.heap/\u≠.builtin "__main__.__loader__#opaque":=by
 cases ty with
 | non=>cases (show u=Value.none from rx);exact ⟨_,PySem.W.kitx_none,True.intro,λz=>nomatch z⟩
 | bl y=>cases (show u=Value.bool y from rx);exact ⟨_,PySem.W.kitx_bool,True.intro,λz=>nomatch z⟩
 | int i=>obtain ⟨t,q⟩:=(show ∃ t,u=Value.int i t from rx);cases q;exact ⟨_,PySem.W.kitx_int,True.intro,λz=>nomatch z⟩
 | str y=>obtain ⟨t,q⟩:=(show ∃ t,u=Value.str y t from rx);cases q;exact ⟨_,PySem.W.kitx_str,True.intro,λz=>nomatch z⟩
 | flt y=>obtain ⟨t,q⟩:=(show ∃ t,u=Value.float y t from rx);cases q;exact ⟨_,PySem.W.kitx_float,True.intro,λz=>nomatch z⟩
 | @lst a xs ea =>
  cases (show u=Value.ref a from rx);obtain ⟨_,_,n,_,e1⟩:=(show ObjOk X.prog X.w H s.heap a (.lst xs) from I.hok a _ ea);exact ⟨_,PySem.W.kitx_list,⟨_,e1,rfl⟩,λz=>nomatch z⟩
 | @frz a ob xs ea =>
  cases (show u=Value.ref a from rx);obtain ⟨_,_,_,n,_,e1⟩:=(show ObjOk X.prog X.w H s.heap a (.frz ob (.lst xs)) from I.hok a _ ea);exact ⟨_,PySem.W.kitx_list,⟨_,e1,rfl⟩,λz=>nomatch z⟩
 | @tup a xs ea =>
  cases (show u=Value.ref a from rx);obtain ⟨_,_,_,p⟩:=(show ObjOk X.prog X.w H s.heap a (.tup xs) from I.hok a _ ea);obtain ⟨o,e1,e2,_⟩:=p;exact ⟨_,PySem.W.kitx_tuple,⟨o,e1,e2⟩,λz=>nomatch z⟩
 | @dK a kvs ea =>
  cases (show u=Value.ref a from rx);obtain ⟨_,_,vs,_,p⟩:=(show ObjOk X.prog X.w H s.heap a (.dK kvs) from I.hok a _ ea);obtain ⟨o,es,ep,e1,e2,_⟩:=p;exact ⟨_,PySem.W.kitx_dict,⟨o,e1,e2.1⟩,λz=>nomatch z⟩
 | @dT a kvs ea =>
  cases (show u=Value.ref a from rx);obtain ⟨_,_,xs,_,p⟩:=(show ObjOk X.prog X.w H s.heap a (.dT kvs) from I.hok a _ ea);obtain ⟨o,es,ep,e1,e2,_⟩:=p;exact ⟨_,PySem.W.kitx_dict,⟨o,e1,e2.1⟩,λz=>nomatch z⟩
 | @ins a C dx fs ea cl ha hn htk hm =>
  cases (show u=Value.ref a from rx);obtain ⟨mA,O,_⟩:=Yh I.hok ea;obtain ⟨od,J,_⟩:=O.look;exact ⟨_,PySem.W.kitx_own (cl.get _) cl.hd ha hn htk hm,J,λz=>nomatch z⟩
def clsV:V->Vl
 | .ref a=>.ref a
 | .ty n=>.type n
 | _=>.none
def isClsV:V->Bool
 | .ref _=>true
 | .ty _=>true
 | _=>false
theorem za1:∀ {cs:Jl} {us:Jb},cs.all isClsV=true->Vals cs us->us=cs.map clsV
 | [],_,_,.nil=>rfl
 | c::cs,_,h,.cons r rr=>by
  rw [List.all_cons,Bool.and_eq_true] at h;rw [za1 h.2 rr]
  cases c with
  | ref a=>cases (show _=Value.ref a from r);rfl
  | ty n=>cases (show _=Value.type n from r);rfl
  | _=>cases h.1
inductive rIsiT (K:Fg) (vs:Jl) (H:Hp) (Q:VK):Prop
 | mk (x:V) (tp:Ad) (cs:Jl) (t:Vl) (b:Bool) (_:vs=[x,.ref tp]) (_:H tp=some (.tup cs)) (_:cs.all isClsV=true) (_:TyOf K H x t) (_:PySem.W.kitAny K t (cs.map clsV)=some b) (_:Q (.bl b) H)
def zaz:Zr X (.builtin "isinstance") (rIsiT X.K):=by
 intro pins s σ H xs us Q I r h;obtain ⟨x,tp,cs,t,b,rfl,et,hc,ty,e,q⟩:=h;obtain ⟨u,w',rfl,ru,rw'⟩:=YU r;cases (show w'=Value.ref tp from rw');obtain ⟨Z,kx,hz,nl⟩:=kit_of I ru ty;obtain ⟨_,its,rv,⟨cls,dd,data,sl⟩,e1,e2,n,e3⟩:=(show ObjOk X.prog X.w H s.heap tp (.tup cs) from I.hok tp _ et);simp only at e2 e3;subst e2 e3;rw [← za1 hc rv] at e;exact PySem.W.kia_tup kx I.kIn hz e1 e nl λtk=>⟨.bl b,H,I.tok _,rfl,q⟩
end
section
variable {prog:Program} {w:World} {A:Around} {E:J5} {s:Sh}
end
section
variable {X:Cx} {pos:Pos}
end
section
variable {X:Cx} {pins:Ja} {σ:St} {H:Hp} {s:Sh} {h':Heap}
def Inv.turnedT {its:Je} {T:Ad} {o:HO} {t':Nat} (I:Inv X pins σ H s) (k:∀ b u,b ∉ its->s.heap.get? b=some u->h'.get? b=some u) (hf:∀ b∈its,Zh X pins H b) (hT:s.heap.objs.size<=T) (new:ObjOk X.prog X.w (upd H T o) h' T o) :
  Inv X pins σ (upd H T o) { s with heap:=h',toks:=t' }:=by
 have fr:=I.hok.fresh hT;have neT:∀ {b:Ad} {u:Obj},s.heap.get? b=some u->b≠T:=λe=>Nat.ne_of_lt (q2z (Heap.lt_size e) hT);have ni:∀ {b:Ad} {u:HO},H b=some u->b ∉ its:=λe m=>by rw [(hf _ m).1] at e;cases e
 refine I.step (g':=s.gens) (d':=s.drawn) (ch:=its) (λb hb=>?_) (λb u _ _ hc e _=>k b u hc e) (λb u _ _ hc e _=>⟨u.slots,k b u hc e⟩) (λb u _ e n=>by rw [zj (neT e)];exact n)
  (λb u hc e=>⟨u,k b u hc e⟩) (λb ys e=>by rw [zj (zr e fr)];exact e) (λb u v e=>by rw [zj (zr e fr)];exact e) (λb ps e=>⟨#[],by rw [zj (zr e fr),e];simp⟩) (λm hm=>?_) (λb u e=>?_) I.bare
 ·obtain ⟨_,f1,_,f3,f4,f5⟩:=hf b hb
  exact ⟨f3,f1,f4,f5⟩
 ·obtain ⟨ob,es,ep,ho,r⟩:=hm
  exact ⟨ob,es,ep,k _ ob (λm=>(hf _ m).2.1 rfl) ho,r⟩
 ·by_cases hb:b=T
  ·subst hb;rw [zh] at e;cases e;exact new
  ·rw [zj hb] at e
   refine (I.hok b u e).stay (λc v hc q=>k c v ?_ q) (λc q=>by rw [zj (zr q fr)];exact q) λc ys q=>by rw [zj (zr q fr)];exact q
   rcases hc with z | z
   ·rw [z];exact ni e
   ·exact ni z
def Inv.turnedL {its:Je} {t':Nat} (I:Inv X pins σ H s) (k:∀ b u,b ∉ its->s.heap.get? b=some u->h'.get? b=some u) (hf:∀ b∈its,Zh X pins H b):Inv X pins σ H { s with heap:=h',toks:=t' }:=by
 have ni:∀ {b:Ad} {u:HO},H b=some u->b ∉ its:=λe m=>by rw [(hf _ m).1] at e;cases e
 refine I.step (g':=s.gens) (d':=s.drawn) (ch:=its) (λb hb=>?_) (λb u _ _ hc e _=>k b u hc e) (λb u _ _ hc e _=>⟨u.slots,k b u hc e⟩) (λ_ _ _ _ n=>n)
  (λb u hc e=>⟨u,k b u hc e⟩) (λ_ _ e=>e) (λ_ _ _ e=>e) (λb ps e=>⟨#[],by rw [e];simp⟩) (λm hm=>?_) (λb u e=>?_) I.bare
 ·obtain ⟨_,f1,_,f3,f4,f5⟩:=hf b hb
  exact ⟨f3,f1,f4,f5⟩
 ·obtain ⟨ob,es,ep,ho,r⟩:=hm
  exact ⟨ob,es,ep,k _ ob (λm=>(hf _ m).2.1 rfl) ho,r⟩
 ·refine (I.hok b u e).stay (λc v hc q=>k c v ?_ q) (λ_ q=>q) λ_ _ q=>q
  rcases hc with z | z
  ·rw [z];exact ni e
  ·exact ni z
end
def Itz (K:Fg) (l1 l2:Ad):It :=
  ⟨λi H=>∃ xs ys x y,SqL K H l1 xs/\SqL K H l2 ys/\xs[i]?=some x/\ys[i]?=some y,
   λi H x H'=>∃ T u v,x=.ref T/\H T=none/\H'=upd H T (.tup [u,v])/\∀ xs ys,SqL K H l1 xs->SqL K H l2 ys->xs[i]?=some u/\ys[i]?=some v,
   λi H=>∃ xs ys,SqL K H l1 xs/\SqL K H l2 ys/\(xs.length<=i∨ys.length<=i)⟩
def za3 {P:Program} {w:World} {K:Fg} {es:Jf} {kt:Nat} {pos:Pos} {z TI TO i1 i2 l1 l2:Ad} (D:ZipApart z TI TO i1 i2 l1 l2) :
  Turn P w K (.Tuple es kt pos) (Itz K l1 l2) [z,TI,TO,i1,i2] z (λi h=>IsZip h z TI TO .none/\IsPair h TI (.ref i1) (.ref i2)/\(∃ a b,IsPair h TO a b)/\h.IsListIter i1 l1 i/\h.IsListIter i2 l2 i) where
 mem:=by simp
 obj:=λi h st b hb=>by
  obtain ⟨hz,hI,⟨a,b',hO⟩,⟨o1,e1,c1,d1⟩,⟨o2,e2,c2,d2⟩⟩:=st;simp at hb;rcases hb with rfl | rfl | rfl | rfl | rfl
  ·exact ⟨_,hz,λv q=>by cases q⟩
  ·exact ⟨_,hI,λv q=>by cases q⟩
  ·exact ⟨_,hO,λv q=>by cases q⟩
  ·exact ⟨_,e1,λv q=>by rw [d1] at q;cases q⟩
  ·exact ⟨_,e2,λv q=>by rw [d2] at q;cases q⟩
 keep:=λi h h' st k=>by
  obtain ⟨hz,hI,⟨a,b',hO⟩,h1,h2⟩:=st;exact ⟨k z (by simp) _ hz,k TI (by simp) _ hI,⟨a,b',k TO (by simp) _ hO⟩,h1.at λo e=>k i1 (by simp) o e,h2.at λo e=>k i2 (by simp) o e⟩
 item:=by
  intro X hP hw hK hc i pins s σ H E I hf st hg;subst hP hw hK;obtain ⟨hz,hI,⟨a,b',hO⟩,h1,h2⟩:=st;obtain ⟨xs,ys,x,y,q1,q2,ex,ey⟩:=hg;obtain ⟨is1,r1,p1,_⟩:=I.list q1;obtain ⟨is2,r2,p2,_⟩:=I.list q2;obtain ⟨u,hu,ru⟩:=r1.get ex;obtain ⟨v,hv,rv⟩:=r2.get ey;refine wpAny_pyNext_zip_item D hz hI hO h1 h2 p1.isList p2.isList (x:=u) (y:=v) (by simpa using hu) (by simpa using hv) λh1' a1 a2 a3 a4 a5 a6 hk=>?_;refine ⟨_,rfl,wpAny_letOwnedTupleGo_zip (s:={ s with heap:=h1' }) a1 λh2' z' sb=>?_⟩;have lt:∀ {c:Ad} {o:Obj},s.heap.get? c=some o->c≠s.heap.objs.size:=λe=>Nat.ne_of_lt (Heap.lt_size e);have Tz:s.heap.objs.size≠z:=(lt hz).symm;have fr:=I.hok.fresh (Nat.le_refl _);refine ⟨.ref s.heap.objs.size,upd H s.heap.objs.size (.tup [x,y]),I.turnedT (its:=[z,TI,TO,i1,i2]) (t':=s.toks) (λb o nb e=>?_) hf (Nat.le_refl _) ⟨by show 2<=sizeLine;decide,[u,v],.cons ru (.cons rv .nil),_,sb.extBut _ _ Tz a5,rfl,_,rfl⟩,rfl,⟨s.heap.objs.size,x,y,rfl,fr,rfl,λxs' ys' q1' q2'=>?_⟩,?_,λb hb=>?_⟩
  ·have nb':b≠z/\b≠TI/\b≠TO/\b≠i1/\b≠i2:=by simpa using nb
   exact sb.extBut _ _ nb'.1 (hk b o nb'.1 nb'.2.2.1 nb'.2.2.2.1 nb'.2.2.2.2 e)
  ·rw [I.list_inj q1' q1,I.list_inj q2' q2];exact ⟨ex,ey⟩
  ·exact ⟨z',sb.extBut _ _ D.TIz (hk _ _ D.TIz D.TITO D.TIi1 D.TIi2 hI),⟨_,_,sb.extBut _ _ D.TOz a2⟩,a3.extBut sb.extBut D.i1z,a4.extBut sb.extBut D.i2z⟩
  ·have e:=(hf b hb).1
   have:∃ o,s.heap.get? b=some o:=by
    simp at hb;rcases hb with rfl | rfl | rfl | rfl | rfl
    ·exact ⟨_,hz⟩
    ·exact ⟨_,hI⟩
    ·exact ⟨_,hO⟩
    ·obtain ⟨o,e,_⟩:=h1;exact ⟨o,e⟩
    ·obtain ⟨o,e,_⟩:=h2;exact ⟨o,e⟩
   obtain ⟨o,eo⟩:=this;rw [zj (lt eo)];exact e
 done:=by
  intro X hP hw hK hc i pins s σ H E I hf st hg;subst hP hw hK;obtain ⟨hz,hI,⟨a,b',hO⟩,h1,h2⟩:=st;obtain ⟨xs,ys,q1,q2,le⟩:=hg;obtain ⟨is1,r1,p1,_⟩:=I.list q1;obtain ⟨is2,r2,p2,_⟩:=I.list q2;have g1:=r1.length;have g2:=r2.length;refine wpAny_pyNext_zip_end (I.ok.hd hc) D hz hI hO h1 h2 p1.isList p2.isList (by rcases le with le | le;exact .inl (by simp;omega);exact .inr (by simp;omega)) λh1' hk=>⟨rfl,I.turnedL (its:=[z,TI,TO,i1,i2]) (t':=s.toks) (λb o nb e=>?_) hf⟩;have nb':b≠z/\b≠TI/\b≠TO/\b≠i1/\b≠i2:=by simpa using nb
  exact hk b o nb'.1 nb'.2.2.1 nb'.2.2.2.1 nb'.2.2.2.2 e
 self:=λ_ _ _ _ _ st h=>wpAny_pyIter_zip st.1 h
section
variable {X:Cx} {es:Jf} {kt:Nat} {tp:Pos}
inductive iZip_S (K:Fg) (R:(It->Hp->Prop)) (vs:Jl) (H1:Hp):Prop
 | mk (l1 l2:_) (_:vs=[.ref l1,.ref l2]) (_:(∃ xs,SqL K H1 l1 xs)) (_:(∃ ys,SqL K H1 l2 ys)) (_:R (Itz K l1 l2) H1)
def iZip (K:Fg) (ta:TA):TI:=λσ H R=>ta σ H λvs H1=>iZip_S K R vs H1
def pi_zip {a b:Expr} {ta:TA} {p pos:Pos} (hg:Gl X "zip") (hm:X.mg "zip"=none) (ha:PA X [a,b] ta) (hs:starEach [a,b] X.env=[(false,eval a X.env),(false,eval b X.env)]:=by rfl)
  (hs2:starEach [b] X.env=[(false,eval b X.env)]:=by rfl):PI X (.Tuple es kt tp) (.Call (.Name "zip" p) [a,b] [] pos) (iZip X.K ta):=by
 intro pins s σ H R I h;refine Call_ (Zb I hg hm boot_zip (PyProof.Rows.callWith_type1 (thn (ha pos pins s σ H _ I h) λus s1 ⟨vs,H1,I1,r1,q1⟩=>?_) (by rw [hs,hs2]) (by rw [hs2];rfl)));obtain ⟨l1,l2,e,⟨xs,x1⟩,⟨ys,x2⟩,q⟩:=q1;subst e;obtain ⟨u,v,rfl,ru,rv⟩:=YU r1;cases (show u=Value.ref l1 from ru);cases (show v=Value.ref l2 from rv);obtain ⟨is1,g1,p1,_⟩:=I1.list x1;obtain ⟨is2,g2,p2,_⟩:=I1.list x2;have L1:l1<s1.heap.objs.size:=by obtain ⟨_,e,_⟩:=p1.isList;exact Heap.lt_size e
 have L2:l2<s1.heap.objs.size:=by obtain ⟨_,e,_⟩:=p2.isList;exact Heap.lt_size e
 refine call_zip_2 p1.isList p2.isList λh' a1 a2 a3 a4 a5 a6 hk=>?_;refine wpAny_pyIter_zip (s:={ s1 with heap:=h' }) a1 ?_;have J:Inv X pins σ H1 { s1 with heap:=h' }:=I1.kept (t':=s1.toks) λb o e=>hk b o e;have fp:∀ n,Zh X pins H1 (s1.heap.objs.size+n):=λn=>I1.fpOk (Nat.le_add_right _ _) (I1.hok.fresh (Nat.le_add_right _ _));refine ⟨_,_,_,_,H1,rfl,J,za3 (zipApart_new L1 L2),⟨a1,a2,⟨_,_,a3⟩,a4,a5⟩,λb hb=>?_,q⟩;simp at hb;rcases hb with rfl | rfl | rfl | rfl | rfl
 ·exact fp 4
 ·exact fp 2
 ·exact fp 3
 ·exact fp 0
 ·exact fp 1
end
def for_zip {K:Fg} {l1 l2:Ad} {xs ys:Jl} {g:TG} {tb:TS} {D:Ends} {σ:St} {H:Hp} (Pv:Nat->St->Hp->Prop) (h0:Pv 0 σ H) (hl:∀ i σ H,i<=xs.length->Pv i σ H->SqL K H l1 xs/\SqL K H l2 ys) (he:ys.length=xs.length)
  (hs:∀ i x y σ H T,xs[i]?=some x->ys[i]?=some y->Pv i σ H->H T=none->g (.ref T) σ (upd H T (.tup [x,y])) λσ2 H2=>tb { D with nx:=Pv (i+1),ct:=Pv (i+1),bk:=D.nx } σ2 H2) (hd:∀ σ H,Pv xs.length σ H->D.nx σ H) :
  tFor_S g tb D σ (Itz K l1 l2) H:=by
 refine ⟨λi m σ H=>m=xs.length-i/\i<=xs.length/\Pv i σ H,⟨xs.length,by simp,Nat.zero_le _,h0⟩,?_⟩;rintro i m σ H ⟨rfl,hi,p⟩;obtain ⟨q1,q2⟩:=hl i σ H hi p;by_cases hlt:i<xs.length
 ·refine .inr ⟨⟨xs,ys,xs[i],ys[i],q1,q2,by simp [hlt],by simp [he,hlt]⟩,Pv (i+1),λσ' H' p'=>⟨xs.length-(i+1),by omega,rfl,hlt,p'⟩,λx H' y=>?_⟩
  obtain ⟨T,u,v,e,nT,e',y⟩:=y;subst e e';obtain ⟨y1,y2⟩:=y xs ys q1 q2;exact hs i u v σ H T y1 y2 p nT
 ·have e:i=xs.length:=by omega
  subst e;exact .inl ⟨⟨xs,ys,q1,q2,.inl (Nat.le_refl _)⟩,hd σ H p⟩
section
variable (P:Program) (w:World)
end
section
variable {P:Program} {w:World} {H H':Hp} {h h':Heap} {a:Ad} {o:HO}
end
section
variable {P:Program} {w:World} {H:Hp} {h h':Heap} {x e:Ad} {o':HO}
end
section
variable {fs fs' ex ex':Je} {H H1 H2:Hp} {h h1 h2 h':Heap} {a x e:Ad} {o:HO}
end
section
variable {X:Cx} {pins:Ja} {σ:List (Jm)} {H H':Hp} {s:Sh} {h':Heap}
end
section
variable {X:Cx}
variable {a b:Expr} {ta tb:TE} {pos:Pos}
variable {tA tB':TT} {rest:Jf}
end
section
variable {X:Cx} {pins:Ja} {σ:St} {H:Hp} {s:Sh} {a:Ad} {xs ys:Jl}
end
section
variable {X:Cx} {pins:Ja} {σ:St} {H:Hp} {s:Sh} {E:J5}
end
section
variable {X:Cx} {st:Stmt} {rest:List Stmt} {t u:TS} {e:Expr} {te:TE} {pos:Pos}
end
section
variable {X:Cx} {pos:Pos}
end
section
variable {X:Cx} {tg:Expr}
end
section
variable {X:Cx} {a b c:Expr} {ta tb tc:TE} {pos:Pos}
end
section
variable {prog:Program} {w:World} {A:Around} {E:J5} {s:Sh} {K:Fg} {x dx C f:Ad} {mA:J0} {name:Str} {v:Vl}
end
section
variable {P:Program} {w:World} {H H':Hp} {h h':Heap} {a C dx:Ad} {fs fs':List (Str×V)}
end
section
variable {X:Cx} {pins:Ja} {σ:St} {H:Hp} {s:Sh} {a C dx:Ad} {fs:List (Str×V)} {f:Str} {v:V} {A:Around} {E:J5}
end
section
variable {X:Cx} {o e value:Expr} {f:Str} {pos pos' tpos:Pos} {ta tv:TE}
end
section
variable {X:Cx} {pins:Ja} {σ:St} {H:Hp} {s:Sh} {A:Around} {E:J5} {Q:J5} {c:Vl} {b:Bool}
end
section
variable {X:Cx} {e:Expr} {es:Jf} {te:TE} {t:TA} {pos:Pos}
end
section
variable {X:Cx} {pins:Ja} {σ:St} {H:Hp} {s s':Sh}
end
section
variable {X:Cx} {CX:CXT} {k:Nat} {f C:Ad} {fd:FuncData} {ps:Jd} {sp:Sp} {dvs:Jl} {ds:Jb} {E:XK} {x m:Str} {p pos apos:Pos} {e o:Expr} {es:Jf} {ta:TE} {t:TA}
end
section
variable {X:Cx} {CX:CXT} {k:Nat} {f C:Ad} {fd:FuncData} {ps ks:Jd} {sp:Sp} {E:XK} {x m:Str} {p pos apos kpos:Pos} {e o:Expr} {es:Jf} {kws:List Keyword} {te ta:TE} {t tk:TA} {nm:Option Str}
variable {g:Jb->Jb->Jb} {gV:Jl->Jl->Jl}
end
section
variable {X:Cx} {x:Str} {p pos:Pos} {e:Expr} {es:Jf} {t:TA} {id T:String} {r:Jl->Hp->VK->Prop}
end
section
variable {κ:Type} [DecidableEq κ]
def yd (kvs:List (κ×V)) (k:κ):Jm:=(kvs.find? λkv=>decide (kv.1=k)).map (·.2)
def xx (kvs:List (κ×V)) (k:κ) (v:V):List (κ×V) :=
 if (kvs.any λkv=>decide (kv.1=k))=true then kvs.map (λkv=>if kv.1=k then (kv.1,v) else kv) else kvs++[(k,v)]
def dropK (kvs:List (κ×V)) (k:κ):List (κ×V):=kvs.filter λkv=>decide (kv.1≠k)
def yB {p:κ×V} {r:List (κ×V)} {k:κ} (e:p.1=k):yd (p::r) k=some p.2:=by simp [yd,List.find?_cons,e]
def yC {p:κ×V} {r:List (κ×V)} {k:κ} (e:¬ p.1=k):yd (p::r) k=yd r k:=by simp [yd,List.find?_cons,e]
theorem ZZ (k:κ):∀ kvs:List (κ×V),(kvs.any λkv=>decide (kv.1=k))=(yd kvs k).isSome
 | []=>rfl
 | p::r=>by
  rw [List.any_cons];by_cases e:p.1=k
  ·simp only [yB e,decide_eq_true e,Bool.true_or,Option.isSome_some]
  ·rw [yC e,decide_eq_false e,Bool.false_or];exact ZZ k r
theorem za2 (k j:κ) (y:V):∀ kvs:List (κ×V),yd (kvs.map λkv=>if kv.1=k then (kv.1,y) else kv) j=(yd kvs j).map λx=>if j=k then y else x
 | []=>rfl
 | p::r=>by
  have ih:=za2 k j y r;rw [List.map_cons];by_cases h:p.1=k
  ·rw [if_pos h]
   by_cases e:p.1=j
   ·rw [yB (p:=(p.1,y)) e,yB e,Option.map_some,if_pos (e.symm.trans h)]
   ·rw [yC (p:=(p.1,y)) e,yC e,ih]
  ·rw [if_neg h]
   by_cases e:p.1=j
   ·rw [yB (p:=p) e,yB e,Option.map_some,if_neg (λz=>h (e.trans z))]
   ·rw [yC (p:=p) e,yC e,ih]
theorem XO (k j:κ) (y:V):∀ kvs:List (κ×V),yd kvs k=none->yd (kvs++[(k,y)]) j=if j=k then some y else yd kvs j
 | [],_=>by
  by_cases e:k=j
  ·rw [if_pos e.symm];exact yB (p:=(k,y)) e
  ·rw [if_neg (λz=>e z.symm)];exact yC (p:=(k,y)) e
 | p::r,hn=>by
  rw [List.cons_append];have hk:¬ p.1=k:=λz=>by rw [yB z] at hn;cases hn
  rw [yC hk] at hn;have ih:=XO k j y r hn;by_cases e:p.1=j
  ·rw [yB e,yB e,if_neg (λz=>hk (e.trans z))]
  ·rw [yC e,yC e,ih]
theorem ZY (kvs:List (κ×V)) (k j:κ) (y:V):yd (xx kvs k y) j=if j=k then some y else yd kvs j:=by
 unfold xx;by_cases a:(kvs.any λkv=>decide (kv.1=k))=true
 ·rw [if_pos a,za2]
  rw [ZZ] at a;by_cases e:j=k
  ·obtain ⟨x,hx⟩:=Option.isSome_iff_exists.mp a
   rw [if_pos e,e,hx,Option.map_some,if_pos rfl]
  ·rw [if_neg e]
   cases yd kvs j with
   | none=>rfl
   | some x=>rw [Option.map_some,if_neg e]
 ·rw [if_neg a]
  refine XO k j y kvs ?_;rw [ZZ] at a
  cases q:yd kvs k with
  | none=>rfl
  | some x=>rw [q] at a;exact (a rfl).elim
def x6 (kvs:List (κ×V)) (k:κ) (v:V):(xx kvs k v).length<=kvs.length+1:=by
 unfold xx
 split
 ·rw [Jg];omega
 ·rw [Jh,q3x,List.length_nil];omega
theorem RelO.isSome_eq {o:Jm} {u:Jc} (r:RelO o u):o.isSome=u.isSome:=by
 cases o with
 | none=>cases u with
  | none=>rfl
  | some _=>exact (show False from r).elim
 | some _=>cases u with
  | none=>exact (show False from r).elim
  | some _=>rfl
theorem RelO.getD {o:Jm} {u:Jc} {d:V} {d':Vl} (r:RelO o u) (rd:RelV d d'):RelV (o.getD d) (u.getD d'):=by
 cases o with
 | none=>cases u with
  | none=>exact rd
  | some _=>exact (show False from r).elim
 | some _=>cases u with
  | none=>exact (show False from r).elim
  | some _=>exact r
theorem KV.val {kvs:List (κ×V)} {vs:List (κ×Vl)} (r:KV kvs vs) (k:κ):RelO (yd kvs k) (valueAt vs k):=by
 unfold KV at r
 induction r with
 | nil=>exact True.intro
 | @cons p q ps qs h t ih =>
  obtain ⟨h1,h2⟩:=h;by_cases e:p.1=k
  ·have e':q.1=k:=h1.symm.trans e
   have b:valueAt (q::qs) k=some q.2:=by simp [valueAt,List.find?_cons,e']
   rw [yB e,b];exact h2
  ·have e':¬ q.1=k:=λz=>e (h1.trans z)
   have b:valueAt (q::qs) k=valueAt qs k:=by simp [valueAt,List.find?_cons,e']
   rw [yC e,b];exact ih
theorem KV.any {kvs:List (κ×V)} {vs:List (κ×Vl)} (r:KV kvs vs) (k:κ):(kvs.any λkv=>decide (kv.1=k))=vs.any λkv=>decide (kv.1=k):=by
 unfold KV at r
 induction r with
 | nil=>rfl
 | cons h t ih=>rw [List.any_cons,List.any_cons,ih,h.1]
theorem KV.repl {kvs:List (κ×V)} {vs:List (κ×Vl)} (r:KV kvs vs) (k:κ) {y:V} {u:Vl} (ry:RelV y u) :
  KV (kvs.map λkv=>if kv.1=k then (kv.1,y) else kv) (vs.map λkv=>if kv.1=k then (kv.1,u) else kv):=by
 unfold KV at r ⊢
 induction r with
 | nil=>exact .nil
 | @cons p q ps qs h t ih =>
  rw [List.map_cons,List.map_cons];refine .cons ?_ ih;obtain ⟨h1,h2⟩:=h;by_cases e:p.1=k
  ·rw [if_pos e,if_pos (h1.symm.trans e)];exact ⟨h1,ry⟩
  ·rw [if_neg e,if_neg (λz=>e (h1.trans z))];exact ⟨h1,h2⟩
def KV.put {kvs:List (κ×V)} {vs:List (κ×Vl)} (r:KV kvs vs) (k:κ) {y:V} {u:Vl} (ry:RelV y u):KV (xx kvs k y) (stored vs k u):=by
 unfold xx stored;rw [r.any k];by_cases e:(vs.any λkv=>decide (kv.1=k))=true
 ·rw [if_pos e,if_pos e];exact r.repl k ry
 ·rw [if_neg e,if_neg e];exact Paired.snoc r ⟨rfl,ry⟩
def KV.length {kvs:List (κ×V)} {vs:List (κ×Vl)} (r:KV kvs vs):kvs.length=vs.length:=Paired.length r
end
theorem kV_is {P:Program} {w:World} {k:Key} {u:Vl} (r:RelV (kV k) u):(zS P w).is k u=true:=by
 cases k with
 | inl i=>obtain ⟨t,e⟩:=(show ∃ t,u=Value.int i t from r);subst e;exact zbr P w i t
 | inr x=>obtain ⟨t,e⟩:=(show ∃ t,u=Value.str x t from r);subst e;exact zbq P w x t
theorem XZ {P:Program} {w:World}:∀ {ks:List Key} {us:Jb},Vals (ks.map kV) us->ItemsAre (zS P w) ks us
 | [],_,r=>by rw [List.map_nil] at r;cases r;exact .nil
 | k::ks,_,r=>by
  rw [List.map_cons] at r
  cases r with
  | cons h t=>exact .cons (kV_is h) (XZ t)
abbrev KT (H:Hp):List (List Key×V)->List (List Key×Ad×Vl)->Prop:=Paired λp q=>p.1=q.1/\H q.2.1=some (.tup (p.1.map kV))/\RelV p.2 q.2.2
theorem KT.val {H:Hp} {kvs:List (List Key×V)} {xs:List (List Key×Ad×Vl)} (r:KT H kvs xs) (k:List Key):RelO (yd kvs k) ((atKey xs k).map (·.2)):=by
 induction r with
 | nil=>exact True.intro
 | @cons p q ps qs h t ih =>
  obtain ⟨h1,_,h2⟩:=h;by_cases e:p.1=k
  ·have e':q.1=k:=h1.symm.trans e
   have b:atKey (q::qs) k=some q.2:=by simp [atKey,List.find?_cons,e']
   rw [yB e,b];exact h2
  ·have e':¬ q.1=k:=λz=>e (h1.trans z)
   have b:atKey (q::qs) k=atKey qs k:=by simp [atKey,List.find?_cons,e']
   rw [yC e,b];exact ih
theorem KT.repl {H:Hp} {kvs:List (List Key×V)} {xs:List (List Key×Ad×Vl)} (r:KT H kvs xs) (k:List Key) {y:V} {u:Vl} (ry:RelV y u) :
  KT H (kvs.map λkv=>if kv.1=k then (kv.1,y) else kv) (xs.map (putAt k u)):=by
 induction r with
 | nil=>exact .nil
 | @cons p q ps qs h t ih =>
  rw [List.map_cons,List.map_cons];refine .cons ?_ ih;obtain ⟨h1,h2,h3⟩:=h;unfold putAt;by_cases e:p.1=k
  ·rw [if_pos e,if_pos (h1.symm.trans e)];exact ⟨h1,h2,ry⟩
  ·rw [if_neg e,if_neg (λz=>e (h1.trans z))];exact ⟨h1,h2,h3⟩
def KT.put {H:Hp} {kvs:List (List Key×V)} {xs:List (List Key×Ad×Vl)} (r:KT H kvs xs) (k:List Key) {b:Ad} {y:V} {u:Vl} (hb:H b=some (.tup (k.map kV))) (ry:RelV y u) :
  KT H (xx kvs k y) (storedH xs k b u):=by
 have e:(kvs.any λkv=>decide (kv.1=k))=(atKey xs k).isSome:=by
  rw [ZZ,(r.val k).isSome_eq,Option.isSome_map]
 unfold xx storedH;rw [e];by_cases q:(atKey xs k).isSome=true
 ·rw [if_pos q,if_pos q];exact r.repl k ry
 ·rw [if_neg q,if_neg q];exact Paired.snoc r ⟨rfl,hb,ry⟩
def KT.keeps {H H':Hp} {kvs:List (List Key×V)} {xs:List (List Key×Ad×Vl)} (r:KT H kvs xs) (ht:∀ b ys,H b=some (.tup ys)->H' b=some (.tup ys)):KT H' kvs xs :=
 Paired.mapP r λ_ _ z=>⟨z.1,ht _ _ z.2.1,z.2.2⟩
section
variable {P:Program} {w:World} {H:Hp} {h:Heap} {a:Ad}
def rd_of {u:HO} (ok:HOk P w H h) (e:Rd H a u):ObjOk P w H h a u:=e.ok ok
def dk_rd {kvs:Jj} (ok:HOk P w H h) (e:Rd H a (.dK kvs)):kvs.length<=sizeLine/\(a == sysModules)=false/\∃ vs,KV kvs vs/\h.DictOf (zS P w) a vs :=
 show ObjOk P w H h a (.dK kvs) from rd_of ok e
def dk_of {kvs:Jj} (ok:HOk P w H h) (e:H a=some (.dK kvs)):kvs.length<=sizeLine/\(a == sysModules)=false/\∃ vs,KV kvs vs/\h.DictOf (zS P w) a vs:=dk_rd ok (.inl e)
def zaw {ks:List Key} (ok:HOk P w H h) (e:H a=some (.tup (ks.map kV))):(tupleKind (zS P w)).is h ks a:=by
 obtain ⟨_,its,r,o,h1,h2,n,h3⟩:=(show ObjOk P w H h a (.tup (ks.map kV)) from ok a _ e);exact ⟨o,its.toArray,n,h1,h2,h3,by simpa using XZ r⟩
theorem dt_rd {kvs:List (List Key×V)} (ok:HOk P w H h) (e:Rd H a (.dT kvs)):kvs.length<=sizeLine/\(a == sysModules)=false /\
  ∃ xs,KT H kvs xs/\h.DictOfH (tupleKind (zS P w)) a xs:=by
 obtain ⟨z,y,xs,r,o,es,ep,h1,h2,h3,h4,h5⟩:=(show ObjOk P w H h a (.dT kvs) from rd_of ok e);refine ⟨z,y,xs,r,o,es,ep,h1,h2,h3,h4,λx hx=>?_,h5⟩
 have all:∀ {l:List (List Key×V)} {m:List (List Key×Ad×Vl)},KT H l m->∀ x∈m,(tupleKind (zS P w)).is h x.1 x.2.1:=by
  intro l m q
  induction q with
  | nil=>intro x hx;exact nomatch hx
  | @cons p q ps qs hq t ih =>
   intro x hx;rcases List.mem_cons.mp hx with e | hx
   ·subst e
    exact zaw ok (by rw [← hq.1];exact hq.2.1)
   ·exact ih x hx
 exact all r x hx
def dt_of {kvs:List (List Key×V)} (ok:HOk P w H h) (e:H a=some (.dT kvs)):kvs.length<=sizeLine/\(a == sysModules)=false /\
  ∃ xs,KT H kvs xs/\h.DictOfH (tupleKind (zS P w)) a xs:=dt_rd ok (.inl e)
end
def DGet (H:Hp) (a:Ad) (y:V) (r:Jm):Prop :=
 (∃ kvs k,Rd H a (.dK kvs)/\y=kV k/\r=yd kvs k)∨∃ kvs k b,Rd H a (.dT kvs)/\y=.ref b/\H b=some (.tup (k.map kV))/\r=yd kvs k
def DPut (H:Hp) (a:Ad) (y v:V) (H':Hp):Prop :=
 (∃ kvs k,H a=some (.dK kvs)/\y=kV k/\kvs.length<sizeLine/\H'=upd H a (.dK (xx kvs k v))) ∨
 ∃ kvs k b,H a=some (.dT kvs)/\y=.ref b/\H b=some (.tup (k.map kV))/\kvs.length<sizeLine/\H'=upd H a (.dT (xx kvs k v))
def DGet.k {H:Hp} {a:Ad} {kvs:Jj} {k:Key} (e:H a=some (.dK kvs)):DGet H a (kV k) (yd kvs k):=.inl ⟨kvs,k,.inl e,rfl,rfl⟩
def DPut.k {H:Hp} {a:Ad} {kvs:Jj} {k:Key} {v:V} (e:H a=some (.dK kvs)) (hl:kvs.length<sizeLine):DPut H a (kV k) v (upd H a (.dK (xx kvs k v))):=.inl ⟨kvs,k,e,rfl,hl,rfl⟩
section
variable {X:Cx} {pins:Ja} {σ:St} {H:Hp} {s:Sh} {a:Ad} {y v:V} {u r:Vl} {o:Jm} {A:Around} {E:J5}
def Inv.big (I:Inv X pins σ H s):sysModules<s.heap.objs.size:=by
 have h:mainGlobals<s.heap.objs.size:=(I.mod.glob.keeps I.bk).lt;exact Nat.lt_trans (by decide) h
def d_notIn {Q:J5} (hu:A.units+1<cLine) (I:Inv X pins σ H s) (g:DGet H a y o) (ry:RelV y u) (h:∀ s',Inv X pins σ H s'->Q (.bool (!o.isSome)) s') :
  wpAny (model X.prog X.w) A (compareOp .NotIn u (.ref a)) Q E s:=by
 rcases g with ⟨kvs,k,e,ey,l⟩ | ⟨kvs,k,b,e,ey,eb,l⟩
 ·subst ey
  obtain ⟨z,hd,vs,rel,dd⟩:=dk_rd I.hok e;refine wpAny_notIn_of (kV_is ry) hd dd.mapOf ?_;rw [← (rel.val k).isSome_eq,← l];exact h _ (I.tok _)
 ·subst ey
  cases (show u=Value.ref b from ry);obtain ⟨z,hd,xs,rel,dd⟩:=dt_rd I.hok e;refine wpAny_notIn_heap (tupleKind_room_in1 hu) (zaw I.hok eb) hd dd ?_;have q:=(rel.val k).isSome_eq;rw [Option.isSome_map] at q;rw [← q,← l];exact h _ (I.tok _)
def d_write {h':Heap} {t':Nat} {ob:HO} (I:Inv X pins σ H s) (mu:Mut (H a)) (hs:Heap.SameBut a s.heap h') (he:∃ q,h'.get? a=some q) (new:ObjOk X.prog X.w (upd H a ob) h' a ob) :
  Inv X pins σ (upd H a ob) { s with heap:=h',toks:=t' } :=
 I.write (x:=a) (e:=a) mu (.inl rfl) (λb q hb z=>(hs.2 b hb).trans z) he new
def dk_new {P:Program} {w:World} {H':Hp} {h':Heap} {kvs:Jj} {vs:List (Key×Vl)} (z:kvs.length<=sizeLine) (hd:(a == sysModules)=false) (rel:KV kvs vs) (dd:h'.DictOf (zS P w) a vs) :
  ObjOk P w H' h' a (.dK kvs):=⟨z,hd,vs,rel,dd⟩
def d_setItem {H':Hp} {Q:Unit->Sh->Prop} (hu:A.units+1<cLine) (I:Inv X pins σ H s) (g:DPut H a y v H') (ry:RelV y u) (rv:RelV v r) (h:∀ s',Inv X pins σ H' s'->Q () s') :
  wpAny (model X.prog X.w) A (setItem (.ref a) u r) Q E s:=by
 rcases g with ⟨kvs,k,e,ey,l,eH⟩ | ⟨kvs,k,b,e,ey,eb,l,eH⟩
 ·subst ey eH
  obtain ⟨z,hd,vs,rel,dd⟩:=dk_of I.hok e;have hz:vs.length<=sizeLine:=by rw [← rel.length];exact z
  have hl:(xx kvs k v).length<=sizeLine:=by have:=x6 kvs k v;omega
  refine wpAny_setItem_pairs (hsz:=hz) (kV_is ry) dd λh' dd' hs=>h _ ?_;have he:∃ q,h'.get? a=some q:=let ⟨q,_,_,hq,_⟩:=dd';⟨q,hq⟩;exact d_write I (by rw [e];exact True.intro) hs he (dk_new hl hd (rel.put k rv) dd')
 ·subst ey eH
  cases (show u=Value.ref b from ry);obtain ⟨z,hd,xs,rel,dd⟩:=dt_of I.hok e;have hz:xs.length<=sizeLine:=by rw [← Paired.length rel];exact z
  have hl:(xx kvs k v).length<=sizeLine:=by have:=x6 kvs k v;omega
  refine wpAny_setItem_heap (hsz:=hz) (tupleKind_room_in1 hu) (zaw I.hok eb) dd λh' dd' hs=>h _ ?_;obtain ⟨q,es,ep,hq,h2,h3,h4,_,h5⟩:=dd';refine d_write I (by rw [e];exact True.intro) hs ⟨q,hq⟩ ⟨hl,hd,_,(rel.put k eb rv).keeps λc ys ec=>?_,q,es,ep,hq,h2,h3,h4,h5⟩;rw [zj (ne_of ec e (λz=>nomatch z))];exact ec
end
section
variable {X:Cx} {pins:Ja} {σ:St} {H:Hp} {s:Sh} {a:Ad} {kvs:Jj} {k:Key} {u:Vl} {A:Around} {E:J5}
end
inductive tDNotIn_S (Q:VK) (y x:V) (H2:Hp):Prop
 | mk (a o:_) (_:x=.ref a) (_:DGet H2 a y o) (_:Q (.bl (!o.isSome)) H2)
def tDNotIn (ty td:TE):TE:=λσ H Q=>ty σ H λy H1=>td σ H1 λx H2=>tDNotIn_S Q y x H2
inductive sDPut_S (D:Ends) (σ:St) (v x y:V) (H3:Hp):Prop
 | mk (a H4:_) (_:x=.ref a) (_:DPut H3 a y v H4) (_:D.nx σ H4)
def sDPut (td ty tv:TE):TS:=λD σ H=>tv σ H λv H1=>td σ H1 λx H2=>ty σ H2 λy H3=>sDPut_S D σ v x y H3
section
variable {X:Cx} {o i e value:Expr} {pos pos' tpos:Pos} {td ty tv:TE}
def pc_dnotin (hu:X.A.units+1<cLine) (hi:PE X i ty) (ho:PE X o td):PC X .NotIn i o (tDNotIn ty td):=by
 intro pins s σ H Q I h;refine thn (hi pins s σ H _ I h) λiv s1 ⟨y,H1,I1,ry,q1⟩=>thn (ho pins s1 σ H1 _ I1 q1) λu s2 ⟨x,H2,I2,rx,a,ov,ex,g,q2⟩=>?_;subst ex;obtain rfl:u=Value.ref a:=rx;exact d_notIn hu I2 g ry λs3 I3=>⟨.bl (!ov.isSome),H2,I3,rfl,q2⟩
def ps_dput (hu:X.A.units+1<cLine) (ho:PE X o td) (hi:PE X i ty) (hv:PE X value tv) (hs:swapsWith value (some (.Subscript o i pos')) pos.line X.env=pure false) :
  PS X (.Assign [.Subscript o i pos'] value pos) (sDPut td ty tv):=by
 intro pins s σ H D I h;refine wpAny_Assign_Subscript (thn (hv pins s σ H _ I h) λr s1 ⟨v,H1,I1,rv,q1⟩=>thn (ho pins s1 σ H1 _ I1 q1) λu s2 ⟨x,H2,I2,rx,q2⟩=>thn (hi pins s2 σ H2 _ I2 q2) λiv s3 ⟨y,H3,I3,ry,a,H4,ex,g,q3⟩=>?_) hs;subst ex;obtain rfl:u=Value.ref a:=rx;exact d_setItem hu I3 g ry rv λs4 I4=>⟨σ,H4,I4,q3⟩
end
def dk_empty {P:Program} {w:World} {H:Hp} (h:Heap) (hb:sysModules<h.objs.size):ObjOk P w H (h.push { cls:=.type "dict",data:=.dict #[] }) h.objs.size (.dK []) :=
 ⟨Nat.zero_le _,beq_eq_false_iff_ne.mpr (Ne.symm (Nat.ne_of_lt hb)),[],.nil,Heap.DictOf.new h⟩
def tDNewK:TE:=λ_ H Q=>∀ p,H p=none->Q (.ref p) (upd H p (.dK []))
section
variable {X:Cx} {pos:Pos}
def Xe:PE X (.Dict [] [] pos) tDNewK:=λpins s σ H Q I h =>
 wpAny_Dict_empty ⟨.ref s.heap.objs.size,_,I.laid (a:=s.heap.objs.size) (o:=.dK []) (t':=s.toks) (λ_ _ q=>Heap.get?_push_of_some _ q) (Nat.le_refl _) (dk_empty s.heap I.big),rfl,h _ (I.hok.fresh (Nat.le_refl _))⟩
end
structure M1 (X:Cx) (o:Expr) (m:Str) (apos:Pos) (e:Expr) (cpos:Pos):Prop where
 base:attributeBase o m X.env (eval o X.env)=eval o X.env
 few:((backTo cpos (starEach [e] X.env)).all (λx=>!x.1) && (backToKw cpos (keywordEach [] X.env)).all (λx=>x.1.isSome)
  && decide (([e]:Jf).length+([]:List Keyword).length+(if ([]:List Keyword).isEmpty then 0 else 1)<30))=true
 line:(apos.endLine == cpos.line)=true
 trees:backTo cpos (starEach [e] X.env)=[(false,eval e X.env)]
structure M2 (X:Cx) (o:Expr) (m:Str) (apos:Pos) (e f:Expr) (cpos:Pos):Prop where
 base:attributeBase o m X.env (eval o X.env)=eval o X.env
 few:((backTo cpos (starEach [e,f] X.env)).all (λx=>!x.1) && (backToKw cpos (keywordEach [] X.env)).all (λx=>x.1.isSome)
  && decide (([e,f]:Jf).length+([]:List Keyword).length+(if ([]:List Keyword).isEmpty then 0 else 1)<30))=true
 line:(apos.endLine == cpos.line)=true
 trees:backTo cpos (starEach [e,f] X.env)=[(false,eval e X.env),(false,eval f X.env)]
def IsD (H:Hp) (a:Ad):Prop:=(∃ kvs,Rd H a (.dK kvs))∨∃ kvs,Rd H a (.dT kvs)
def isD_at {X:Cx} {pins:Ja} {σ:St} {H:Hp} {s:Sh} {a:Ad} (I:Inv X pins σ H s) (d:IsD H a) :
  s.TypeIs (.ref a) "dict"/\(∀ b,Value.ref a=.ref b->∃ ob,s.heap.get? b=some ob/\ob.dict=none)/\(a == sysModules)=false:=by
 rcases d with ⟨kvs,e⟩ | ⟨kvs,e⟩
 ·obtain ⟨_,hd,vs,_,dd⟩:=dk_rd I.hok e
  refine ⟨dd.typeIs,λb q=>?_,hd⟩;cases q;obtain ⟨ob,_,_,h1,h2,_⟩:=dd;exact ⟨ob,h1,h2.2.1⟩
 ·obtain ⟨_,hd,xs,_,dd⟩:=dt_rd I.hok e
  refine ⟨dd.typeIs,λb q=>?_,hd⟩;cases q;obtain ⟨ob,_,_,h1,h2,_⟩:=dd;exact ⟨ob,h1,h2.2.1⟩
section
variable {X:Cx} {pins:Ja} {σ:St} {H:Hp} {s:Sh} {a:Ad} {y d:V} {u r:Vl} {o:Jm} {A:Around} {E:J5}
def d_get1 {Q:J5} (hu:A.units+1<cLine) (I:Inv X pins σ H s) (g:DGet H a y o) (ry:RelV y u) (h:∀ w' s',Inv X pins σ H s'->RelV (o.getD .non) w'->Q w' s') :
  wpAny (model X.prog X.w) A (call (.builtin "dict.get") [.ref a,u]) Q E s:=by
 rcases g with ⟨kvs,k,e,ey,l⟩ | ⟨kvs,k,b,e,ey,eb,l⟩
 ·subst ey
  obtain ⟨z,hd,vs,rel,dd⟩:=dk_rd I.hok e;refine call_meetsIn PySem.F.slot_dict_get dd.typeIs PySem.F.entry_dict_get (PySem.F.args_dict_get_2 _ _) (meets_dict_get (zS X.prog X.w) a (kV_is ry) hd) ⟨_,dd.mapOf,h _ _ (I.tok _) ?_⟩;rw [l];exact (rel.val k).getD rfl
 ·subst ey
  cases (show u=Value.ref b from ry);obtain ⟨z,hd,xs,rel,dd⟩:=dt_rd I.hok e;refine call_meetsIn PySem.F.slot_dict_get dd.typeIs PySem.F.entry_dict_get (PySem.F.args_dict_get_2 _ _) (meetsH_dict_get (tupleKind (zS X.prog X.w)) a b hd) ⟨tupleKind_room_in1 hu,k,xs,zaw I.hok eb,dd,h _ _ (I.tok _) ?_⟩;rw [l];exact (rel.val k).getD rfl
end
inductive tDGet1_S (ty:TE) (σ:St) (Q:VK) (x:V) (H1:Hp):Prop
 | mk (a:_) (_:x=.ref a) (_:IsD H1 a) (_:ty σ H1 λy H2=>∃ o,DGet H2 a y o/\Q (o.getD .non) H2)
def tDGet1 (td ty:TE):TE:=λσ H Q=>td σ H λx H1=>tDGet1_S ty σ Q x H1
section
variable {X:Cx} {o e f:Expr} {apos cpos:Pos} {td ty tx:TE}
def pe_dget1 (hu:X.A.units+1<cLine) (ho:PE X o td) (he:PE X e ty) (m:M1 X o "get" apos e cpos):PE X (.Call (.Attribute o "get" apos) [e] [] cpos) (tDGet1 td ty):=by
 intro pins s σ H Q I h;refine wpAny_Call_method m.base m.few m.line PySem.F.plainAttrs_dict PySem.F.slot_dict_get PySem.F.type_dict_get (thn (ho pins s σ H _ I h) λu s1 ⟨x,H1,I1,rx,a,ex,d,q1⟩=>?_);subst ex;obtain rfl:u=Value.ref a:=rx;obtain ⟨t1,t2,_⟩:=isD_at I1 d;refine ⟨t1,t2,?_⟩;rw [m.trees];refine Calls.callWith_builtin rfl (Calls.evalArgs_plain (Calls.spliced_cons (thn (he pins s1 σ H1 _ I1 q1) λiv s2 ⟨y,H2,I2,ry,ov,g,q2⟩=>Calls.spliced_nil ?_)));exact d_get1 hu I2 g ry λw' s3 I3 rw'=>⟨_,H2,I3,rw',q2⟩
end
section
variable {X:Cx} {pins:Ja} {σ:St} {H:Hp} {s:Sh} {a:Ad} {kvs:Jj} {A:Around} {E:J5}
end
section
variable {X:Cx} {pins:Ja} {σ:St} {H:Hp} {s:Sh} {a:Ad} {y:V} {u:Vl} {A:Around} {E:J5}
end
end L2
namespace Att
open PySem PySem.W PySem.Calls PyProof.Rows
section
variable {prog:Program} {w:World} {A:Around} {E:J5} {s:Sh} {K:Frag}
end
end Att
namespace L2
open PySem PySem.Spec PyProof.Rows
section
variable {P:Program} {w:World} {K:Fg} {mg:J0} {base:Heap}
end
section
variable {X:Cx}
end
section
variable {κ:Type} [DecidableEq κ]
end
abbrev YB (h:Heap) (z TI TO T:Ad) (f1:Vl):Prop :=
 h.get? z=some { cls:=.type "zip",dict:=none,data:=.fields #[rawInt T,f1,.bool false,.ref TI,.ref TO],slots:=#[] }
section
variable {prog:Program} {w:World} {A:Around} {E:J5} {s:Sh}
def alive_at {a:Ad} {Q:Option Obj->Sh->Prop} (h:Q (s.heap.get? a) s):wpAny (model prog w) A (loadIfAlive a) Q E s:=λ_ _ _=>h
theorem ZI {z TI TO T:Ad} {b1:Bool} {Q:Bool->Sh->Prop} (zz:YB s.heap z TI TO T (.bool b1)) (al:∃ o,s.heap.get? T=some o)
  (q:∀ h2,YB h2 z TI TO T (.bool true)->Heap.SameBut z s.heap h2->Q false { s with heap:=h2 }):wpAny (model prog w) A (Builtin.SmallTypes.ownedTupleIsFree (.ref z)) Q E s:=by
 obtain ⟨o,eo⟩:=al;unfold Builtin.SmallTypes.ownedTupleIsFree;refine q0x (wpAny_field zz rfl (x:=rawInt T) rfl ?_);show wpAny _ _ (loadIfAlive (T:Int).toNat >>= _) _ _ _;refine q0x (alive_at ?_);rw [q0z,eo];simp only [Option.isNone_some,Bool.false_eq_true,if_false];refine q0x (wpAny_field zz rfl (x:=.bool b1) rfl ?_)
 cases b1 with
 | true =>
  rw [if_neg (by decide)];exact q0y (q s.heap zz (Heap.SameBut.refl ..))
 | false =>
  rw [if_pos (by decide)];refine q0x (wpAny_setField_rec zz (by simp) λh2 z2 sb=>q0y (q h2 z2 sb))
def XB {z TI TO T i1 i2 l1 l2:Ad} {b1:Bool} {k:Nat} {xs ys:Array Vl} {x y:Vl} {Q:Jc->Sh->Prop} (D:ZipApart z TI TO i1 i2 l1 l2) (zz:YB s.heap z TI TO T (.bool b1)) (al:∃ o,s.heap.get? T=some o)
  (pI:IsPair s.heap TI (.ref i1) (.ref i2)) (h1:s.heap.IsListIter i1 l1 k) (h2:s.heap.IsListIter i2 l2 k) (hl1:s.heap.IsList l1 xs) (hl2:s.heap.IsList l2 ys) (ex:xs[k]?=some x) (ey:ys[k]?=some y)
  (q:∀ h',YB h' z TI TO T (.bool true)->h'.IsListIter i1 l1 (k+1)->h'.IsListIter i2 l2 (k+1)->IsPair h' s.heap.objs.size x y->(∀ c o,c≠z->c≠i1->c≠i2->s.heap.get? c=some o->h'.get? c=some o)->h'.objs.size=s.heap.objs.size+1->Q (some (.ref s.heap.objs.size)) { s with heap:=h' }) :
  wpAny (model prog w) A (pyNext (.ref z)) Q E s:=by
 have ty:s.TypeIs (.ref z) "zip":=⟨_,zz,rfl⟩;unfold pyNext;refine q0x (wpAny_attempt (wpAny_callSpecial?_slot (name:=Str.ofString "__next__") ty F.slot_zip_next (wpAny_call_entry F.slot_zip_next ty F.entry_zip_next ?_ (F.args_zip_next_1 _))));show wpAny _ _ (field (.ref z) 2 >>= _) _ _ _;refine q0x (wpAny_field zz rfl (x:=.bool false) rfl ?_);show wpAny _ _ (field (.ref z) 3 >>= _) _ _ _;refine q0x (wpAny_field zz rfl (x:=.ref TI) rfl ?_);refine q0x (wpAny_seqItems pI rfl ?_);show wpAny _ _ (Builtin.SmallTypes.ownedTupleIsFree (.ref z) >>= _) _ _ _;refine q0x (ZI zz al λh3 z3 sb=>?_);simp only [Bool.false_eq_true,if_false];rw [show (forIn (#[Value.ref i1,Value.ref i2]:Array Vl):(Option Fin×Array Vl)->_->Sem _)=forIn [Value.ref i1,Value.ref i2] from funext λ_=>funext λ_=>by simp];simp only [List.forIn_cons,List.forIn_nil];have h13:=h1.extBut sb.extBut D.i1z;have h23:=h2.extBut sb.extBut D.i2z;have hl13:=hl1.extBut sb.extBut D.l1z;have hl23:=hl2.extBut sb.extBut D.l2z;refine q0x (q0x (q0x (wpAny_holding ?_)));show wpAny _ _ (Builtin.SmallTypes.nextOf (.ref i1) >>= _) _ _ _;refine q0x (wpAny_nextOf_list_item h13 hl13 ex λh4 a4 sb4=>q0y (q0y ?_));refine q0x (q0x (wpAny_holding ?_));show wpAny _ _ (Builtin.SmallTypes.nextOf (.ref i2) >>= _) _ _ _;refine q0x (wpAny_nextOf_list_item (h23.extBut sb4.extBut D.i12.symm) (hl23.extBut sb4.extBut D.l2i1) ey λh5 a5 sb5=>q0y (q0y (q0y ?_)));show wpAny _ _ (newTuple [x,y] >>= _) _ _ _;refine q0x (wpAny_newTuple ?_);have sz:h5.objs.size=s.heap.objs.size:=by rw [sb5.1,sb4.1,sb.1]
 have up:∀ c o,c≠z->c≠i1->c≠i2->s.heap.get? c=some o->(h5.push { cls:=.type "tuple",data:=.seq #[x,y] }).get? c=some o:=λc o c1 c2 c3 e=>Heap.get?_push_of_some _ (sb5.extBut _ _ c3 (sb4.extBut _ _ c2 (sb.extBut _ _ c1 e)));refine q0y ⟨_,rfl,q0y ?_⟩;show Q (some (.ref h5.objs.size)) _;rw [sz];have fin:=q (h5.push { cls:=.type "tuple",data:=.seq #[x,y] }) (Heap.get?_push_of_some _ (sb5.extBut _ _ D.i2z.symm (sb4.extBut _ _ D.i1z.symm z3))) ((a4.extBut sb5.extBut D.i12).at λo e=>Heap.get?_push_of_some _ e) (a5.at λo e=>Heap.get?_push_of_some _ e) (by rw [← sz];exact Heap.get?_push_size _ rfl) up (by rw [Heap.size_push,sz]);exact fin
def zac {z TI TO T i1 i2 l1 l2:Ad} {b1:Bool} {k:Nat} {xs ys:Array Vl} {Q:Jc->Sh->Prop} (hd:A.handled=none) (D:ZipApart z TI TO i1 i2 l1 l2) (zz:YB s.heap z TI TO T (.bool b1)) (al:∃ o,s.heap.get? T=some o)
  (pI:IsPair s.heap TI (.ref i1) (.ref i2)) (h1:s.heap.IsListIter i1 l1 k) (hl1:s.heap.IsList l1 xs) (ex:xs[k]?=none)
  (q:∀ h',(∀ c o,c≠z->c≠i1->c≠i2->s.heap.get? c=some o->h'.get? c=some o)->Q none { s with heap:=h' }) :
  wpAny (model prog w) A (pyNext (.ref z)) Q E s:=by
 have ty:s.TypeIs (.ref z) "zip":=⟨_,zz,rfl⟩;unfold pyNext;refine q0x (wpAny_attempt (wpAny_callSpecial?_slot (name:=Str.ofString "__next__") ty F.slot_zip_next (wpAny_call_entry F.slot_zip_next ty F.entry_zip_next ?_ (F.args_zip_next_1 _))));show wpAny _ _ (field (.ref z) 2 >>= _) _ _ _;refine q0x (wpAny_field zz rfl (x:=.bool false) rfl ?_);show wpAny _ _ (field (.ref z) 3 >>= _) _ _ _;refine q0x (wpAny_field zz rfl (x:=.ref TI) rfl ?_);refine q0x (wpAny_seqItems pI rfl ?_);show wpAny _ _ (Builtin.SmallTypes.ownedTupleIsFree (.ref z) >>= _) _ _ _;refine q0x (ZI zz al λh3 z3 sb=>?_);simp only [Bool.false_eq_true,if_false];rw [show (forIn (#[Value.ref i1,Value.ref i2]:Array Vl):(Option Fin×Array Vl)->_->Sem _)=forIn [Value.ref i1,Value.ref i2] from funext λ_=>funext λ_=>by simp];simp only [List.forIn_cons,List.forIn_nil];refine q0x (q0x (q0x (wpAny_holding ?_)));show wpAny _ _ (Builtin.SmallTypes.nextOf (.ref i1) >>= _) _ _ _;refine q0x (wpAny_nextOf_list_end hd (h1.extBut sb.extBut D.i1z) (hl1.extBut sb.extBut D.l1z) ex λh4 e sb4 he=>?_);obtain ⟨o,ho,hc⟩:=he;refine q0x (wpAny_isInstance (T:="StopIteration") (b:=true) ⟨o,ho,hc⟩ isSubtype_stop ?_);exact q0y (q _ λc o c1 c2 c3 e=>sb4 c o c2 (sb.extBut _ _ c1 e))
end
end L2
namespace PySem
open Sem (wp)
namespace F
def my_entry_zip_ga:entryFor table "zip.__getattribute__"=some Builtin.«object.__getattribute__» :=
 entryFor_alias (id':="object.__getattribute__") (by kernel_rfl) (by first | rfl | decide +kernel) (by decide +kernel) (by kernel_rfl)
def my_lk_zip_keys:typeLookup (.type "zip") "keys"=pure none:=by rw [typeLookup_type,builtinLookup_eq_fast];kernel_rfl
def my_lk_zip_hook:typeLookup (.type "zip") "__getattr__"=pure none:=by rw [typeLookup_type,builtinLookup_eq_fast];kernel_rfl
end F
def Yt (a:Ad) (fs:Array Vl) (u:Tok) :
  Meets (Builtin.«object.__getattribute__» ⟨[.ref a,.str "keys" u],[]⟩) (λA R s=>s.heap.get? a=some { cls:=.type "zip",dict:=none,data:=.fields fs,slots:=#[] }/\raisesAttr (.ref a) "keys" A R s) :=
 Meets.of_wp λprog w A R s z=>by
  obtain ⟨hp,g,d,tk,os⟩:=s;obtain ⟨zx,zs⟩:=z;have zT:(⟨hp,g,d,tk,os⟩:Sh).TypeIs (.ref a) "zip":=⟨_,zx,rfl⟩;have f4:=F.my_lk_zip_keys;unfold Builtin.«object.__getattribute__»;repeat (any_goals (first | assumption | wp_step | fail))
  exact wpAny_raiseAttrError zs.1 zs.2 (attrMsg_fits (by decide +kernel) (by decide +kernel))
def Xk {prog:Program} {w:World} {A:Around} {E:J5} {s:Sh} {a:Ad} {fs:Array Vl} {Q:Jc->Sh->Prop} (zx:s.heap.get? a=some { cls:=.type "zip",dict:=none,data:=.fields fs,slots:=#[] }) (zA:A.handled=none)
  (q:∀ h' tk e,Heap.NewExcOf s.heap h' e "AttributeError"->Q none { s with heap:=h',toks:=tk }):wpAny (model prog w) A (getAttr? (.ref a) "keys") Q E s:=by
 obtain ⟨hp,g,d,tk,os⟩:=s;have zT:∀ tk',(⟨hp,g,d,tk',os⟩:Sh).TypeIs (.ref a) "zip":=λ_=>⟨_,zx,rfl⟩;have f1:=sub_AttributeError;have f3:=F.slot_zip_getattribute.lookup;have f4:=F.slot_zip_getattribute.bind (.ref a);have f5:=F.my_lk_zip_hook;unfold getAttr? getAttrBy? getAttrBy
 repeat (any_goals (first | assumption | exact zT _ | ((with_reducible show wpAny _ _ (call (Value.builtin "zip.__getattribute__") _ _) _ _ _);refine call_meets F.slot_zip_getattribute (zT _) F.my_entry_zip_ga (F.args_zip_getattribute_2 _ _) (Yt a fs _) ⟨zx,zA,λh9 k9 e9 n9=>?_⟩) | wp_step))
 obtain ⟨t9,u9,x9⟩:=n9.there;show wpAny _ _ (getattributeRaised _ _ _ _ _ _ _) _ _ _;unfold getattributeRaised
 repeat (any_goals (first | assumption | wp_step | fail))
 exact q _ _ _ n9.of
end PySem
namespace L2
open PySem PySem.Spec PyProof.Rows
def Zq:entryFor table "dict.update.loop"=some Builtin.«dict.update.loop»:=entryFor_of_tree (by kernel_rfl)
def ZS (z TI TO i1 i2 l1 l2:Ad) (k:Nat) (h:Heap):Prop :=
 (IsZip h z TI TO .none∨∃ T b,YB h z TI TO T (.bool b)/\(∃ o,h.get? T=some o)/\T≠z/\T≠TO/\T≠i1/\T≠i2)/\IsPair h TI (.ref i1) (.ref i2)/\(∃ a b,IsPair h TO a b)/\h.IsListIter i1 l1 k/\h.IsListIter i2 l2 k
section
variable {prog:Program} {w:World} {A:Around} {E:J5} {s:Sh} {z TI TO i1 i2 l1 l2 d:Ad} {xs ys:Array Vl}
def zs_item {k:Nat} {x y:Vl} {Q:Jc->Sh->Prop} (D:ZipApart z TI TO i1 i2 l1 l2) (st:ZS z TI TO i1 i2 l1 l2 k s.heap) (hl1:s.heap.IsList l1 xs) (hl2:s.heap.IsList l2 ys) (ex:xs[k]?=some x) (ey:ys[k]?=some y)
  (q:∀ h',ZS z TI TO i1 i2 l1 l2 (k+1) h'->IsPair h' s.heap.objs.size x y->(∀ c o,c≠z->c≠TO->c≠i1->c≠i2->s.heap.get? c=some o->h'.get? c=some o)->Q (some (.ref s.heap.objs.size)) { s with heap:=h' }) :
  wpAny (model prog w) A (pyNext (.ref z)) Q E s:=by
 obtain ⟨zz,pI,⟨a,b,pO⟩,h1,h2⟩:=st;have lt:∀ {c:Ad} {o:Obj},s.heap.get? c=some o->s.heap.objs.size≠c:=λe=>Nat.ne_of_gt (Heap.lt_size e);have n1:s.heap.objs.size≠i1:=by obtain ⟨o,e,_⟩:=h1;exact lt e
 have n2:s.heap.objs.size≠i2:=by obtain ⟨o,e,_⟩:=h2;exact lt e
 rcases zz with zz | ⟨T,b1,zz,al,t1,t2,t3,t4⟩
 ·refine wpAny_pyNext_zip_item D zz pI pO h1 h2 hl1 hl2 ex ey λh' a1 a2 a3 a4 a5 a6 hk=>?_
  exact q h' ⟨.inr ⟨_,_,a1,⟨_,a5⟩,lt zz,lt pO,n1,n2⟩,hk _ _ D.TIz D.TITO D.TIi1 D.TIi2 pI,⟨_,_,a2⟩,a3,a4⟩ a5 hk
 ·obtain ⟨o,eo⟩:=al
  refine XB D zz ⟨o,eo⟩ pI h1 h2 hl1 hl2 ex ey λh' a1 a3 a4 a5 hk _=>?_;exact q h' ⟨.inr ⟨T,true,a1,⟨o,hk _ _ t1 t3 t4 eo⟩,t1,t2,t3,t4⟩,hk _ _ D.TIz D.TIi1 D.TIi2 pI,⟨_,_,hk _ _ D.TOz D.TOi1 D.TOi2 pO⟩,a3,a4⟩ a5 λc o c1 _ c3 c4 e=>hk c o c1 c3 c4 e
def zs_end {k:Nat} {Q:Jc->Sh->Prop} (hd:A.handled=none) (D:ZipApart z TI TO i1 i2 l1 l2) (st:ZS z TI TO i1 i2 l1 l2 k s.heap) (hl1:s.heap.IsList l1 xs) (hl2:s.heap.IsList l2 ys) (ex:xs[k]?=none)
  (q:∀ h',(∀ c o,c≠z->c≠TO->c≠i1->c≠i2->s.heap.get? c=some o->h'.get? c=some o)->Q none { s with heap:=h' }):wpAny (model prog w) A (pyNext (.ref z)) Q E s:=by
 obtain ⟨zz,pI,⟨a,b,pO⟩,h1,h2⟩:=st;rcases zz with zz | ⟨T,b1,zz,al,_⟩
 ·exact wpAny_pyNext_zip_end hd D zz pI pO h1 h2 hl1 hl2 (.inl ex) λh' hk=>q h' hk
 ·exact zac (ys:=ys) hd D zz al pI h1 hl1 ex λh' hk=>q h' λc o c1 _ c3 c4 e=>hk c o c1 c3 c4 e
def Xm (kvs:List (Key×Vl)):List (Key×Vl)->List (Key×Vl)
 | []=>kvs
 | p::r=>Xm (stored kvs p.1 p.2) r
def ZS.same {k:Nat} {h h2:Heap} (st:ZS z TI TO i1 i2 l1 l2 k h) (dz:d≠z) (dI:d≠TI) (dO:d≠TO) (d1:d≠i1) (d2:d≠i2) (kp:∀ c o,c≠d->h.get? c=some o->h2.get? c=some o) (hd:∃ o,h2.get? d=some o):ZS z TI TO i1 i2 l1 l2 k h2:=by
 obtain ⟨zz,pI,⟨a,b,pO⟩,h1,h2'⟩:=st;refine ⟨?_,kp _ _ dI.symm pI,⟨a,b,kp _ _ dO.symm pO⟩,h1.at λo e=>kp _ o d1.symm e,h2'.at λo e=>kp _ o d2.symm e⟩;rcases zz with zz | ⟨T,b1,zz,⟨o,eo⟩,t⟩
 ·exact .inl (kp _ _ dz.symm zz)
 ·refine .inr ⟨T,b1,kp _ _ dz.symm zz,?_,t⟩
  by_cases e:T=d
  ·rw [e];exact hd
  ·exact ⟨o,kp _ _ e eo⟩
theorem dz_loop (hd:A.handled=none) (D:ZipApart z TI TO i1 i2 l1 l2) (dz:d≠z) (dI:d≠TI) (dO:d≠TO) (d1:d≠i1) (d2:d≠i2) (dl1:d≠l1) (dl2:d≠l2) :
  ∀ (ps:List (Key×Vl)) (k:Nat) (s:Sh) (kvs:List (Key×Vl)) (i:Int) (t:Tok) (R:Result->Sh->Prop),ZS z TI TO i1 i2 l1 l2 k s.heap->s.heap.IsList l1 xs->s.heap.IsList l2 ys->s.heap.DictOf (zS prog w) d kvs->kvs.length+ps.length<=sizeLine ->
   xs.size=k+ps.length->(∀ j (p:Key×Vl),ps[j]?=some p->∃ u,xs[k+j]?=some u/\(zS prog w).is p.1 u=true/\ys[k+j]?=some p.2) ->
   (∀ h' tk,h'.DictOf (zS prog w) d (Xm kvs ps)->(∀ c o,c≠z->c≠TO->c≠i1->c≠i2->c≠d->s.heap.get? c=some o->h'.get? c=some o)->R (.ok (.ret .none)) { s with heap:=h',toks:=tk }) ->
   codeAny (model prog w) A (.builtin "dict.update.loop" ⟨[.ref d,.ref z,.int i t,.none],[]⟩) R s
 | [],k,s,kvs,i,t,R,st,hl1,hl2,hm,hz,hn,hp,q=>by
  refine codeAny_builtin Zq ?_;show wpAny _ _ (pyNext (.ref z) >>= _) _ _ _;refine q0x (zs_end hd D st hl1 hl2 (Array.getElem?_eq_none (by rw [hn];exact Nat.le_refl _)) λh' hk=>?_);show wpAny _ _ (Builtin.Dict.addKeywords d [] >>= _) _ _ _;refine q0x (q0y (q0y ?_))
  have hd':h'.DictOf (zS prog w) d kvs:=by
   obtain ⟨o,es,ep,ho,r⟩:=hm;exact ⟨o,es,ep,hk _ _ dz dO d1 d2 ho,r⟩
  exact q h' s.toks hd' λc o c1 c2 c3 c4 _ e=>hk c o c1 c2 c3 c4 e
 | p::ps,k,s,kvs,i,t,R,st,hl1,hl2,hm,hz,hn,hp,q=>by
  refine codeAny_builtin Zq ?_;obtain ⟨u,eu,ku,ev⟩:=hp 0 p rfl;show wpAny _ _ (pyNext (.ref z) >>= _) _ _ _;refine q0x (zs_item D st hl1 hl2 eu ev λh' st' pT hk=>?_)
  have hm':h'.DictOf (zS prog w) d kvs:=by
   obtain ⟨o,es,ep,ho,r⟩:=hm;exact ⟨o,es,ep,hk _ _ dz dO d1 d2 ho,r⟩
  have hl1':h'.IsList l1 xs:=hl1.at λo e=>hk _ o D.l1z D.l1TO D.l1i1 D.l1i2 e;have hl2':h'.IsList l2 ys:=hl2.at λo e=>hk _ o D.l2z D.l2TO D.l2i1 D.l2i2 e;refine q0x (wpAny_holding ?_);refine q0x (wpAny_tryCatch ?_);unfold Builtin.Dict.pairItems;refine q0x (wpAny_typeOf (T:="tuple") ⟨_,pT,rfl⟩ ?_);rw [if_pos (by decide)];refine q0x (wpAny_seqItems pT rfl (q0y ?_));show wpAny _ _ (holding [u,p.2] (dictSet d u p.2)) _ _ _;refine wpAny_holding (wpAny_dictSet_pairs (hsz:=by rw [q3x] at hz;omega) ku hm' λh2 hm2 sb=>?_);refine q0y ⟨Code.quiet_builtin _ (by decide +kernel),?_⟩;have nd:∃ o,h2.get? d=some o:=by obtain ⟨o,_,_,e,_⟩:=hm2;exact ⟨o,e⟩
  have ls:(stored kvs p.1 p.2).length<=kvs.length+1:=by
   unfold stored;split
   ·rw [Jg];omega
   ·rw [Jh];exact Nat.le_refl _
  refine dz_loop hd D dz dI dO d1 d2 dl1 dl2 ps (k+1) { s with heap:=h2,toks:=s.toks+1 } (stored kvs p.1 p.2) (i+1) 0 R (st'.same dz dI dO d1 d2 (λc o n e=>sb.extBut _ _ n e) nd) (hl1'.extBut sb.extBut dl1.symm) (hl2'.extBut sb.extBut dl2.symm) hm2 (by rw [q3x] at hz;omega) (by rw [hn,q3x];omega) (λj r hj=>?_) (λh3 tk hm3 hk3=>?_)
  ·have:=hp (j+1) r hj
   rw [show k+1+j=k+(j+1) by omega];exact this
  ·exact q h3 tk hm3 λc o c1 c2 c3 c4 c5 e=>hk3 c o c1 c2 c3 c4 c5 (sb.extBut _ _ c5 (hk c o c1 c2 c3 c4 e))
end
def putAll (kvs:Jj):Jj->Jj
 | []=>kvs
 | p::r=>putAll (xx kvs p.1 p.2) r
theorem KV.putAll:∀ {ps:Jj} {qs:List (Key×Vl)} {kvs:Jj} {vs:List (Key×Vl)},KV ps qs->KV kvs vs->KV (L2.putAll kvs ps) (Xm vs qs)
 | [],_,_,_,.nil,h=>h
 | p::ps,_,_,_,.cons (b:=q) r rr,h=>by
  have e:q.1=p.1:=r.1.symm;show KV (L2.putAll (xx _ p.1 p.2) ps) (Xm (stored _ q.1 q.2) _);rw [e];exact KV.putAll rr (h.put p.1 r.2)
theorem Y9:∀ (ps:Jj) (kvs:Jj),(putAll kvs ps).length<=kvs.length+ps.length
 | [],_=>Nat.le_refl _
 | p::ps,kvs=>by
  have:=Y9 ps (xx kvs p.1 p.2);have:=x6 kvs p.1 p.2;show (putAll (xx kvs p.1 p.2) ps).length<=kvs.length+(ps.length+1);omega
section
variable {prog:Program} {w:World} {A:Around} {E:J5} {s:Sh} {z TI TO i1 i2 l1 l2:Ad} {xs ys:Array Vl}
def ZS.keeps {k:Nat} {h h2:Heap} (st:ZS z TI TO i1 i2 l1 l2 k h) (kp:∀ c o,h.get? c=some o->h2.get? c=some o):ZS z TI TO i1 i2 l1 l2 k h2:=by
 obtain ⟨zz,pI,⟨a,b,pO⟩,h1,h2'⟩:=st;refine ⟨?_,kp _ _ pI,⟨a,b,kp _ _ pO⟩,h1.at λo e=>kp _ o e,h2'.at λo e=>kp _ o e⟩;rcases zz with zz | ⟨T,b1,zz,⟨o,eo⟩,t⟩
 ·exact .inl (kp _ _ zz)
 ·exact .inr ⟨T,b1,kp _ _ zz,⟨o,kp _ _ eo⟩,t⟩
def XL {ps:List (Key×Vl)} {Q:J5} (hd:A.handled=none) (D:ZipApart z TI TO i1 i2 l1 l2) (zz:IsZip s.heap z TI TO .none) (st:ZS z TI TO i1 i2 l1 l2 0 s.heap) (hl1:s.heap.IsList l1 xs) (hl2:s.heap.IsList l2 ys) (hz:ps.length<=sizeLine) (hn:xs.size=ps.length)
  (hp:∀ (j:Nat) (p:Key×Vl),ps[j]?=some p->∃ u,xs[j]?=some u/\(zS prog w).is p.1 u=true/\ys[j]?=some p.2)
  (q:∀ h' tk,h'.DictOf (zS prog w) s.heap.objs.size (Xm [] ps)->(∀ c o,c≠z->c≠TO->c≠i1->c≠i2->s.heap.get? c=some o->h'.get? c=some o)->Q (.ref s.heap.objs.size) { s with heap:=h',toks:=tk }):wpAny (model prog w) A (call (.type "dict") [.ref z]) Q E s:=by
 refine callType_codes (Q₁:=λobj s₁=>obj=.ref s.heap.objs.size/\s₁={ s with heap:=s.heap.push { cls:=.type "dict",data:=.dict #[] } }) F.kt_called_dict (F.kt_typeCall_dict_1 _) F.entry_dict_init (kt_code_dict_new _ ⟨rfl,rfl⟩) λobj s1 y=>?_;obtain ⟨rfl,rfl⟩:=y;have nw:(s.heap.push { cls:=.type "dict",data:=.dict #[] }).DictOf (zS prog w) s.heap.objs.size []:=Heap.DictOf.new s.heap;have kp:∀ c o,s.heap.get? c=some o->(s.heap.push { cls:=.type "dict",data:=.dict #[] }).get? c=some o:=λc o e=>Heap.get?_push_of_some _ e;have lt:∀ {c:Ad} {o:Obj},s.heap.get? c=some o->s.heap.objs.size≠c:=λe=>Nat.ne_of_gt (Heap.lt_size e);obtain ⟨_,pI,⟨a,b,pO⟩,g1,g2⟩:=id st;have e1:s.heap.objs.size≠i1:=by obtain ⟨o,e,_⟩:=g1;exact lt e
 have e2:s.heap.objs.size≠i2:=by obtain ⟨o,e,_⟩:=g2;exact lt e
 have e3:s.heap.objs.size≠l1:=by obtain ⟨o,e,_⟩:=hl1;exact lt e
 have e4:s.heap.objs.size≠l2:=by obtain ⟨o,e,_⟩:=hl2;exact lt e
 refine ⟨nw.typeIs,F.args_dict_init_2 _ _,?_⟩;unfold Builtin.«dict.__init__»;refine q0x ?_;unfold Builtin.Dict.selfAndRest;refine q0x (wpAny_notOrdered_dict nw.typeIs ?_);show wpAny _ _ (pure (s.heap.objs.size,[Value.ref z])) _ _ _;refine q0y ?_;show wpAny _ _ (Builtin.Dict.updateFrom "dict.__init__" s.heap.objs.size (.ref z) [] .none) _ _ _;unfold Builtin.Dict.updateFrom;refine q0x (wpAny_typeOf (T:="zip") ⟨_,kp _ _ zz,rfl⟩ ?_);rw [if_pos (by decide)];refine q0x (Xk (kp _ _ zz) hd λh3 tk e ne=>?_);simp only [Option.isNone_none,if_true];have k3:∀ c o,s.heap.get? c=some o->h3.get? c=some o:=λc o e=>ne.keeps c o (kp c o e);refine q0x (wpAny_rule (q0x (wpAny_pyIter_zip (f0:=.none) (k3 _ _ zz) ?_)));refine q0y ⟨Code.quiet_builtin _ (by decide +kernel),?_⟩
 have d3:h3.DictOf (zS prog w) s.heap.objs.size []:=by
  obtain ⟨o,es,ep,ho,r⟩:=nw;exact ⟨o,es,ep,ne.keeps _ _ ho,r⟩
 refine dz_loop (A:=A.in1) (xs:=xs) (ys:=ys) hd D (lt zz) (lt pI) (lt pO) e1 e2 e3 e4 ps 0 { s with heap:=h3,toks:=tk } [] 0 0 _ (st.keeps k3) (hl1.at λo e=>k3 _ o e) (hl2.at λo e=>k3 _ o e) d3 (by show 0+ps.length<=_;omega) (by rw [hn,Nat.zero_add]) (λj r hj=>by rw [Nat.zero_add];exact hp j r hj) λh4 tk4 d4 k4=>?_;exact ⟨rfl,q h4 tk4 d4 λc o c1 c2 c3 c4 e=>k4 c o c1 c2 c3 c4 (lt e).symm (k3 c o e)⟩
end
theorem kv_zip:∀ (ks:List Key) {ys:Jl} {us:Jb},Vals ys us->ks.length=ys.length->KV (ks.zip ys) (ks.zip us)
 | [],_,_,_,_=>.nil
 | k::ks,_,_,.nil,h=>by cases h
 | k::ks,_,_,.cons r rr,h=>.cons ⟨rfl,r⟩ (kv_zip ks rr (by simpa using h))
section
variable {X:Cx}
inductive tDictZip_S (K:Fg) (Q:VK) (vs:Jl) (H1:Hp):Prop
 | mk (l1 l2:Ad) (ks:List Key) (ys:Jl) (_:vs=[.ref l1,.ref l2]) (_:SqL K H1 l1 (ks.map kV)) (_:SqL K H1 l2 ys) (_:ks.length=ys.length) (_:∀ d,H1 d=none->Q (.ref d) (upd H1 d (.dK (putAll [] (ks.zip ys)))))
def tDictZip (K:Fg) (ta:TA):TE:=λσ H Q=>ta σ H λvs H1=>tDictZip_S K Q vs H1
def zcf {a b:Expr} {ta:TA} {p p2 pos pos2:Pos} (hc:X.calm=true) (hg:Gl X "dict") (hm:X.mg "dict"=none) (hg2:Gl X "zip") (hm2:X.mg "zip"=none) (ha:PA X [a,b] ta)
  (hs:starEach [a,b] X.env=[(false,eval a X.env),(false,eval b X.env)]:=by rfl) (hs2:starEach [b] X.env=[(false,eval b X.env)]:=by rfl)
  (hs3:starEach [Expr.Call (.Name "zip" p2) [a,b] [] pos2] X.env=[(false,eval (.Call (.Name "zip" p2) [a,b] [] pos2) X.env)]:=by rfl):PE X (.Call (.Name "dict" p) [.Call (.Name "zip" p2) [a,b] [] pos2] [] pos) (tDictZip X.K ta):=by
 intro pins s σ H Q I h;refine wpAny_Call_Name_kw (Zb I hg hm boot_dict (PyProof.Rows.callWith_type1 ?_ (by rw [hs3];rfl) (by rfl)));rw [hs3];show wpAny _ _ (spliced [(false,eval (.Call (.Name "zip" p2) [a,b] [] pos2) X.env)]) _ _ s;refine Calls.spliced_cons (Call_ (Zb I hg2 hm2 boot_zip (PyProof.Rows.callWith_type1 (thn (ha pos2 pins s σ H _ I h) λus s1 ⟨vs,H1,I1,r1,q1⟩=>?_) (by rw [hs,hs2]) (by rw [hs2];rfl))));obtain ⟨l1,l2,ks,ys,e,x1,x2,le,q⟩:=q1;subst e;obtain ⟨u,v,rfl,ru,rv⟩:=YU r1;cases (show u=Value.ref l1 from ru);cases (show v=Value.ref l2 from rv);obtain ⟨is1,g1,p1,z1⟩:=I1.list x1;obtain ⟨is2,g2,p2',z2⟩:=I1.list x2;have L1:l1<s1.heap.objs.size:=by obtain ⟨_,e,_⟩:=p1.isList;exact Heap.lt_size e
 have L2:l2<s1.heap.objs.size:=by obtain ⟨_,e,_⟩:=p2'.isList;exact Heap.lt_size e
 have n1:=g1.length;have n2:=g2.length;rw [Jg] at n1;refine call_zip_2 p1.isList p2'.isList λh' a1 a2 a3 a4 a5 a6 hk=>Calls.spliced_nil ?_;have J:Inv X pins σ H1 { s1 with heap:=h' }:=I1.kept (t':=s1.toks) λb o e=>hk b o e;have fp:∀ n,Zh X pins H1 (s1.heap.objs.size+n):=λn=>I1.fpOk (Nat.le_add_right _ _) (I1.hok.fresh (Nat.le_add_right _ _));have rel:KV (ks.zip ys) (ks.zip is2):=kv_zip ks g2 le;have lz:(ks.zip is2).length=ks.length:=by rw [List.length_zip,Nat.min_eq_left];omega
 rw [Jg] at z1;refine XL (s:={ s1 with heap:=h' }) (xs:=is1.toArray) (ys:=is2.toArray) (ps:=ks.zip is2) (I1.ok.hd hc) (zipApart_new L1 L2) a1 ⟨.inl a1,a2,⟨_,_,a3⟩,a4,a5⟩ (p1.isList.at λo e=>hk _ o e) (p2'.isList.at λo e=>hk _ o e) (by omega) (by rw [lz,List.size_toArray];omega) (λj r hj=>?_) λh3 tk d3 k3=>?_
 ·obtain ⟨ek,ev⟩:ks[j]?=some r.1/\is2[j]?=some r.2:=by
   rw [List.getElem?_zip_eq_some] at hj;exact hj
  obtain ⟨u,eu,ru⟩:=g1.get (show (ks.map kV)[j]?=some (kV r.1) by rw [List.getElem?_map,ek];rfl);exact ⟨u,by simpa using eu,kV_is ru,by simpa using ev⟩
 ·have fr:H1 h'.objs.size=none:=I1.hok.fresh (by rw [a6];omega)
  have b4:=fp 4;have b3:=fp 3;have b0:=fp 0;have b1:=fp 1;have b2:=fp 2
  have lay:ObjOk X.prog X.w (upd H1 h'.objs.size (.dK (putAll [] (ks.zip ys)))) h3 h'.objs.size (.dK (putAll [] (ks.zip ys))):=by
   refine ⟨?_,?_,_,KV.putAll rel .nil,d3⟩
   ·have:=Y9 (ks.zip ys) []
    rw [List.length_zip] at this;have:([]:Jj).length=0:=rfl;omega
   ·have:=J.big
    exact beq_eq_false_iff_ne.mpr (Nat.ne_of_gt this)
  refine ⟨.ref h'.objs.size,upd H1 h'.objs.size (.dK (putAll [] (ks.zip ys))),?_,rfl,q _ fr⟩
  exact J.turnedT (its:=[s1.heap.objs.size+4,s1.heap.objs.size+2,s1.heap.objs.size+3,s1.heap.objs.size,s1.heap.objs.size+1]) (λc o nc e=>by
   have nc':c≠s1.heap.objs.size+4/\c≠s1.heap.objs.size+2/\c≠s1.heap.objs.size+3/\c≠s1.heap.objs.size/\c≠s1.heap.objs.size+1:=by simpa using nc
   exact k3 c o nc'.1 nc'.2.2.1 nc'.2.2.2.1 nc'.2.2.2.2 e) (λc hc'=>by
   simp at hc';rcases hc' with rfl | rfl | rfl | rfl | rfl
   ·exact b4
   ·exact b2
   ·exact b3
   ·exact b0
   ·exact b1) (Nat.le_refl _) lay
end
section
variable {prog:Program} {w:World} {A:Around} {R:Result->Sh->Prop} {s:Sh}
theorem zcs {elt target iter tst:Expr} {scope:Scope} {pos:Pos} {it acc:Vl} {env:Env} (I:Nat->Sh->Prop)
  (turn:∀ n s,I n s->wpAny (model prog w) A (pyNext it) (λr s₁=>match r with
   | none=>R (.ok .next) s₁
   | some v=>wpAny (model prog w) A (letOwnedTupleGo target it v) (λ_ s₂=>wpAny (model prog w) A (assign target env v) (λ_ s₃=>wpAny (model prog w) A (isTrue tst env (eval tst env)) (λok t₃=>match ok with
     | true=>wpAny (model prog w) A (eval elt env) (λx s₄=>wpAny (model prog w) A (call (.builtin "list.append") [acc,x]) (λ_ s₅=>∃ m,m<n/\I m s₅) (λ_ _=>False) s₄) (λ_ _=>False) t₃
     | false=>∃ m,m<n/\I m t₃) (λ_ _=>False) s₃) (λ_ _=>False) s₂) (λ_ _=>False) s₁) (λ_ _=>False) s)
  (n:Nat) (h:I n s):codeAny (model prog w) A (.compLoop (.ListComp elt [⟨target,iter,[tst],0⟩] scope pos) 0 it acc env) R s:=by
 refine codeAny_loop rfl I (λn s hI=>?_) n h;show wpAny _ _ ((compTurn (.ListComp elt [⟨target,iter,[tst],0⟩] scope pos) 0 it acc env).onRaise (λx=>do noteFrame x env;theTreesLotGoes x)) _ _ s;refine wpAny_noted ?_;rw [compTurn_list];refine q0x (wpAny_standAt (q0x (wpAny_mono (turn n s hI) (λr s₁ h₁=>?_) λ_ _ z=>z.elim)))
 cases r with
 | none=>exact q0y h₁
 | some v =>
  refine q0x (wpAny_mono h₁ (λ_ s₂ h₂=>?_) λ_ _ z=>z.elim);refine q0x (wpAny_mono h₂ (λ_ s₃ h₃=>?_) λ_ _ z=>z.elim);refine q0x (wpAny_tests_one (wpAny_mono h₃ (λok t₃ h₃=>?_) λ_ _ z=>z.elim))
  cases ok with
  | false=>exact q0y ⟨rfl,h₃⟩
  | true =>
   refine q0x (q0x (wpAny_mono h₃ (λx s₄ h₄=>?_) λ_ _ z=>z.elim));exact q0x (wpAny_mono h₄ (λ_ s₅ h₅=>q0y (q0y ⟨rfl,h₅⟩)) λ_ _ z=>z.elim)
end
inductive CompWF (J:It) (g:TG) (tt:TT) (te:TE) (σY:St) (H1:Hp) (D:Ad) (Q:VK):Prop
 | mk (W:Nat->Nat->St->Hp->Prop) (_:(∃ m,W 0 m σY H1)) (_:∀ i m σ' H',W i m σ' H'->(J.stop i H'/\Q (.ref D) H')∨(J.go i H'/\∃ N:St->Hp->Prop,(∀ σ2 H2,N σ2 H2->∃ m',m'<m/\W (i+1) m' σ2 H2)/\∀ x H2,J.yld i H' x H2->g x σ' H2 λσ3 H3=>tt σ3 H3 λb H4=>if b=true then te σ3 H4 λv H5=>∃ xs,H5 D=some (.lst xs)/\xs.length<sizeLine/\N σ3 (upd H5 D (.lst (xs++[v]))) else N σ3 H4)):CompWF J g tt te σY H1 D Q
inductive tCompF_S (g:TG) (tt:TT) (te:TE) (σ0:St->Hp->St->Prop) (σ:St) (Q:VK) (J:It) (H1:Hp):Prop
 | mk (σY:_) (_:σ0 σ H1 σY) (_:∀ D,H1 D=none->CompWF J g tt te σY (upd H1 D (.lst [])) D Q)
def tCompF (wi:TI) (g:TG) (tt:TT) (te:TE) (σ0:St->Hp->St->Prop):TE:=λσ H Q=>wi σ H λJ H1=>tCompF_S g tt te σ0 σ Q J H1
section
variable {X:Cx} {tg:Expr}
theorem zct {iter elt tst:Expr} {scope:Scope} {pos pos':Pos} {cl:List (Str×Ad)} {NY:Jd} {wi:TI} {g:TG} {tt:TT} {te:TE} {σ0:St->Hp->St->Prop} (hc:X.calm=true) (S:Sees X scope cl) (hi:PI X tg iter wi)
  (hY:∀ (s3:Sh) (H3:Hp) (fp:Je),PG (X.comp scope cl NY s3 H3 fp) tg g/\PT (X.comp scope cl NY s3 H3 fp) tst tt/\PE (X.comp scope cl NY s3 H3 fp) elt te)
  (h0:∀ (pins:Ja) (σ:St) (H:Hp) (s3:Sh) (σY:St),Inv X pins σ H s3->σ0 σ H σY->σY.length=NY.length/\∀ (i:Nat) (x:Str) (v:V),NY[i]?=some x->σY[i]?=some (some v) ->
   ∃ c u,(((compEnvC scope cl 0 X.env).kindOf x=some .cell∨(compEnvC scope cl 0 X.env).kindOf x=some .free))/\cl.lookup x=some c/\RelV v u/\s3.heap.IsCell c (some u))
  (hs:∀ x,foldedSetIterable iter X.env x=pure x) {use:Option (Vl->Sem Unit)} {R:J5} {pins:Ja} {s:Sh} {σ:St} {H:Hp} {Q:VK} (I:Inv X pins σ H s) (h:tCompF wi g tt te σ0 σ H Q)
  (fin:∀ (C D:Ad) (H5:Hp) (s6:Sh),CompEnd X pins σ H5 s6 C->Q (.ref D) H5->compPost (model X.prog X.w) X.A X.xe use R (.ref D) C (.ok .next) s6) :
  wpAny (model X.prog X.w) X.A (comprehension (.ListComp elt [⟨tg,iter,[tst],0⟩] scope pos) scope X.env pos' (newList []) (firstAsync [⟨tg,iter,[tst],0⟩]) (firstIter [⟨tg,iter,[tst],0⟩] X.env) use) R X.xe s:=by
 refine wpAny_comprehension_free rfl hs S.clos S.kind S.names (thn (hi pins s σ H _ I h) λv s1 h1=>thn h1 λitv s2 h2=>?_);obtain ⟨it,fp,tn,J,H2,e,I2,T,st2,f2,σY,hσ,hW⟩:=h2;subst e;refine wpAny_newObj_type ?_;have I3:Inv X pins σ (upd H2 s2.heap.objs.size (.lst [])) (pz s2):=I2.lnew (t':=s2.toks) (its:=[]) .nil (Nat.zero_le _);obtain ⟨W,⟨m0,w0⟩,turn⟩:=hW s2.heap.objs.size (I2.hok.fresh (Nat.le_refl _));have ob2:=T.obj _ _ st2
 have hfp:∀ b∈fp,Zh X pins (upd H2 s2.heap.objs.size (.lst [])) b:=λb hb=>by
  obtain ⟨o,q,_⟩:=ob2 b hb;exact ⟨by rw [zj (Nat.ne_of_lt (Heap.lt_size q))];exact (f2 b hb).1,(f2 b hb).2⟩
 have hob:∀ b∈fp,∃ o,(s2.heap.push Lz).get? b=some o:=λb hb=>by
  obtain ⟨o,q,_⟩:=ob2 b hb;exact ⟨o,Heap.get?_push_of_some _ q⟩
 refine wpAny_newFunctionEnv S.nocell (λy hy=>absurd hy (by simp)) (λh1 hn1 hs1=>?_) S.kind;obtain ⟨hl,hY0⟩:=h0 pins σ H2 s2 σY I2 hσ;have k23:∀ b o,s2.heap.get? b=some o->(s2.heap.push Lz).get? b=some o:=λb o q=>Heap.get?_push_of_some _ q;have k34:∀ b o,(s2.heap.push Lz).get? b=some o->h1.get? b=some o:=λb o q=>(hs1.2 b (Nat.ne_of_lt (Heap.lt_size q))).trans (Heap.get?_push_of_some _ q)
 have I4:=zbw (scope:=scope) (cl:=cl) (NY:=NY) (fp:=fp) (h1:=h1) (t:=s2.toks) (σY:=σY) I3 S hfp hob hn1 k34 hl λi x v e1 e2=>by
  obtain ⟨c,u,k,q,r,o,z1,z2⟩:=hY0 i x v e1 e2;exact ⟨c,u,k,q,r,o,k23 _ _ z1,z2⟩
 have st4:tn 0 h1:=T.keep _ _ _ st2 λb hb o q=>k34 _ _ (k23 _ _ q);have fr4:∀ b∈fp,(upd H2 s2.heap.objs.size (.lst [])) b=none:=λb hb=>(hfp b hb).1;obtain ⟨hg,ht,he⟩:=hY (pz s2) (upd H2 s2.heap.objs.size (.lst [])) fp;have okY:=I4.ok
 have statY:∀ {H':Hp},(∀ b∈fp,H' b=none)->∀ b∈fp,Zh (Xz X scope cl NY s2 H2 fp) [] H' b :=
  λhn b hb=>⟨hn b hb,(okY.exf b hb).1,okY.exfs b hb,.inl hb,(okY.exf b hb).2,λp hp=>absurd hp (by simp)⟩
 have loop:codeAny (model X.prog X.w) X.A (.compLoop (.ListComp elt [⟨tg,iter,[tst],0⟩] scope pos) 0 (.ref it) (.ref s2.heap.objs.size) (compEnvC scope cl (s2.heap.push Lz).objs.size X.env))
   (compPost (model X.prog X.w) X.A X.xe use R (.ref s2.heap.objs.size) (s2.heap.push Lz).objs.size) { s2 with heap:=h1,toks:=s2.toks }:=by
  refine zcs (λn s'=>∃ i σ' H',Inv (Xz X scope cl NY s2 H2 fp) [] σ' H' s'/\tn i s'.heap/\(∀ b∈fp,H' b=none)/\W i n σ' H') ?_ m0 ⟨0,σY,_,I4,st4,fr4,w0⟩;rintro n s5 ⟨i,σ5,H5,I5,st5,fr5,w5⟩;rcases turn i n σ5 H5 w5 with ⟨stop,q⟩ | ⟨go,N,hN,step⟩
  ·refine thn (T.done (Xz X scope cl NY s2 H2 fp) rfl rfl rfl hc i [] s5 σ5 H5 _ I5 (statY fr5) st5 stop) λr s6 ⟨hr,I6⟩=>?_
   subst hr;obtain ⟨m,hm,_⟩:=I6.loc;refine fin _ _ H5 s6 ⟨⟨m,hm⟩,I6.free,Ne.symm (Nat.ne_of_lt I3.lt),I3.sz,λx c z=>?_,λp hp=>?_,λh' hs'=>X5 I3 hfp I6 hs'⟩ q
   ·obtain ⟨_,o,z1,_⟩:=I3.cell x c z
    exact Nat.ne_of_lt (Heap.lt_size z1)
   ·exact Nat.ne_of_lt (Heap.lt_size (I3.pin p hp).1)
  ·refine thn (T.item (Xz X scope cl NY s2 H2 fp) rfl rfl rfl hc i [] s5 σ5 H5 _ I5 (statY fr5) st5 go) λr s6 ⟨u,hr,h6⟩=>?_
   subst hr;refine thn h6 λ_ s7 ⟨x,H7,I7,r7,y7,st7,fr7⟩=>?_;have I7':=I7.pinned (statY fr7) (T.obj _ _ st7);refine thn (hg _ s7 σ5 H7 x u _ I7' r7 (step x H7 y7)) λ_ s8 ⟨σ8,H8,I8,q8⟩=>?_
   have pk:∀ {H':Hp} {s':Sh} {σ':St},Inv (Xz X scope cl NY s2 H2 fp) ([]++Xc fp s7.heap) σ' H' s'->tn (i+1) s'.heap/\∀ b∈fp,H' b=none:=λI'=>by
    refine ⟨T.keep _ _ _ st7 λb hb o q=>(I'.pin (b,o) (q2y _ (q2y _ (xk hb q)))).1,λb hb=>?_⟩;obtain ⟨o,q,d⟩:=T.obj _ _ st7 b hb;exact (I'.pin (b,o) (q2y _ (q2y _ (xk hb q)))).2.1
   refine thn (ht _ s8 σ8 H8 _ I8 q8) λbb s8' ⟨H8',I8',q8'⟩=>?_
   cases bb with
   | false =>
    have q8':=(show N σ8 H8' by simpa using q8');obtain ⟨m',hm,w10⟩:=hN _ _ q8';exact ⟨m',hm,i+1,σ8,_,I8'.unpinned,(pk I8').1,(pk I8').2,w10⟩
   | true =>
    have q8':=(show te σ8 H8' _ by simpa using q8');refine thn (he _ s8' σ8 H8' _ I8' q8') λz s9 ⟨v9,H9,I9,r9,xs,hx9,hz9,n9⟩=>?_;refine thn (xj _ s9 σ8 H9 (.ref s2.heap.objs.size) [v9] (.ref s2.heap.objs.size) [z] (λ_ H'=>H'=upd H9 s2.heap.objs.size (.lst (xs++[v9]))) I9 rfl (.cons r9 .nil) ⟨s2.heap.objs.size,xs,v9,rfl,rfl,hx9,hz9,rfl⟩) λy s10 ⟨v10,H10,I10,_,e10⟩=>?_;subst e10;obtain ⟨m',hm,w10⟩:=hN _ _ n9;exact ⟨m',hm,i+1,σ8,_,I10.unpinned,(pk I10).1,(pk I10).2,w10⟩
 exact codeAny_compStart_list loop (T.self _ 0 _ _ _ st4 loop)
def pe_compF0 {iter elt tst:Expr} {scope:Scope} {pos:Pos} {cl:List (Str×Ad)} {NY:Jd} {wi:TI} {g:TG} {tt:TT} {te:TE} {σ0:St->Hp->St->Prop} (hc:X.calm=true) (S:Sees X scope cl) (hi:PI X tg iter wi)
  (hY:∀ (s3:Sh) (H3:Hp) (fp:Je),PG (X.comp scope cl NY s3 H3 fp) tg g/\PT (X.comp scope cl NY s3 H3 fp) tst tt/\PE (X.comp scope cl NY s3 H3 fp) elt te)
  (h0:∀ (pins:Ja) (σ:St) (H:Hp) (s3:Sh) (σY:St),Inv X pins σ H s3->σ0 σ H σY->σY.length=NY.length/\∀ (i:Nat) (x:Str) (v:V),NY[i]?=some x->σY[i]?=some (some v) ->
   ∃ c u,(((compEnvC scope cl 0 X.env).kindOf x=some .cell∨(compEnvC scope cl 0 X.env).kindOf x=some .free))/\cl.lookup x=some c/\RelV v u/\s3.heap.IsCell c (some u))
  (hs:∀ x,foldedSetIterable iter X.env x=pure x:=by intro _;rfl) :
  PE X (.ListComp elt [⟨tg,iter,[tst],0⟩] scope pos) (tCompF wi g tt te σ0):=by
 intro pins s σ H Q I h;rw [eval_ListComp];refine zct (use:=none) hc S hi hY h0 hs I h λC D H5 s6 e q=>?_;obtain ⟨m,hm⟩:=e.ns;exact ⟨m,hm,λh' hs'=>⟨.ref D,H5,e.inv h' hs',rfl,q⟩⟩
end
abbrev tCompFC (wi:TI) (g:TG) (tt:TT) (te:TE) (cap:List (Option Nat)):TE:=tCompF wi g tt te λσ _ σY=>σY=capt cap σ
section
variable {X:Cx} {tg:Expr}
def zbh {iter elt tst:Expr} {scope:Scope} {pos:Pos} {wi:TI} {g:TG} {tt:TT} {te:TE} (NY:Jd) (cap:List (Option Nat)) (hc:X.calm=true) (hk:Y0 X scope=true) (hcap:Xx X scope NY cap=true) (hi:PI X tg iter wi)
  (hY:∀ (s3:Sh) (H3:Hp) (fp:Je),PG (X.comp scope (Zx X.env scope) NY s3 H3 fp) tg g/\PT (X.comp scope (Zx X.env scope) NY s3 H3 fp) tst tt/\PE (X.comp scope (Zx X.env scope) NY s3 H3 fp) elt te)
  (hs:∀ x,foldedSetIterable iter X.env x=pure x:=by intro _;rfl):PE X (.ListComp elt [⟨tg,iter,[tst],0⟩] scope pos) (tCompFC wi g tt te cap):=by
 intro pins s σ H Q I h;have S:=Z2 I.ok hk;refine pe_compF0 (NY:=NY) hc S hi hY (λpins σ H s3 σY I3 e=>?_) hs pins s σ H Q I h;subst e;exact Ym I3 (Z2 I3.ok hk) hcap
end
def zbx {lo:Int} {n:Nat} {D:Ad} {g:TG} {tt:TT} {te:TE} {σY:St} {H1:Hp} {Q:VK} (Pv:Nat->St->Hp->Prop) (h0:Pv 0 σY H1)
  (hs:∀ i σ H,i<n->Pv i σ H->g (.int (lo+i)) σ H λσ3 H3=>tt σ3 H3 λb H4=>if b=true then te σ3 H4 λv H5=>∃ ys,H5 D=some (.lst ys)/\ys.length<sizeLine/\Pv (i+1) σ3 (upd H5 D (.lst (ys++[v]))) else Pv (i+1) σ3 H4) (hd:∀ σ H,Pv n σ H->Q (.ref D) H) :
  CompWF (Itr lo n) g tt te σY H1 D Q:=by
 refine ⟨λi m σ H=>m=n-i/\i<=n/\Pv i σ H,⟨n,by simp,Nat.zero_le _,h0⟩,?_⟩;rintro i m σ H ⟨rfl,hi,p⟩;by_cases hlt:i<n
 ·refine .inr ⟨hlt,Pv (i+1),λσ' H' p'=>⟨n-(i+1),by omega,rfl,hlt,p'⟩,λx H' y=>?_⟩
  obtain ⟨e,y⟩:=y;subst e y;exact hs i σ _ hlt p
 ·have e:i=n:=by omega
  subst e;exact .inl ⟨Nat.le_refl _,hd σ H p⟩
section
variable {prog:Program} {w:World} {A:Around} {s:Sh}
end
section
variable {prog:Program} {w:World} {A:Around} {E:J5} {s:Sh}
end
section
variable {X:Cx} {e:Expr} {te:TE} {p p' pos pos':Pos}
end
end L2
namespace L2
open PySem PySem.Spec PyProof.Rows PyProof
section
variable {X:Cx}
def zb1:Zr X (.type "range") (λxs H Q=>∃ j:Int,xs=[.int j]/\∀ l,H l=none->Q (.ref l) (upd H l (.rng 0 j))):=by
 intro pins s σ H xs us Q I r h;obtain ⟨j,rfl,q⟩:=h;obtain ⟨u,rfl,rx⟩:=vals1 r;obtain ⟨t,rfl⟩:=rx;refine call_range_1 ?_;exact ⟨.ref s.heap.objs.size,_,I.laid (λb o e=>Heap.get?_push_of_some _ e) (Nat.le_refl _) (show ObjOk X.prog X.w _ _ _ (.rng 0 j) from ⟨_,_,_,Heap.get?_push_size _ rfl⟩),rfl,q _ (I.hok.fresh (Nat.le_refl _))⟩
def yZ (n:Nat):J9:=(List.range n).map Int.ofNat
theorem vals_upto:∀ (n:Nat) (us:Jb),us.length=n->(∀ (i:Nat) (v:Vl),us[i]?=some v->∃ t,v=Value.int (0+(i:Nat)*1) t)->Vals ((yZ n).map V.int) us:=by
 intro n
 induction n with
 | zero=>intro us hl _;cases us with
  | nil=>exact .nil
  | cons _ _=>cases hl
 | succ n ih =>
  intro us hl h;obtain ⟨ini,last,rfl⟩:∃ ini last,us=ini++[last]:=⟨us.dropLast,us.getLast (by intro e;rw [e] at hl;cases hl),(List.dropLast_concat_getLast _).symm⟩;have hi:ini.length=n:=by rw [Jh] at hl;simpa using hl
  have e:yZ (n+1)=yZ n++[(n:Int)]:=by unfold yZ;rw [List.range_succ,Ji];rfl
  rw [e,Ji];refine (ih ini hi λi v hv=>?_).append (.cons ?_ .nil)
  ·have:i<ini.length:=(List.getElem?_eq_some_iff.mp hv).1
   exact h i v (by rw [q4x this];exact hv)
  ·obtain ⟨t,rfl⟩:=h n last (by rw [List.getElem?_append_right (by omega),hi,Nat.sub_self];rfl)
   exact ⟨t,by show Value.int (0+(n:Int)*1) t=Value.int n t;congr 1;omega⟩
def XM (hc:X.calm=true):Zr X (.type "list") (λxs H Q=>∃ (p:Ad) (n:Nat),xs=[.ref p]/\H p=some (.rng 0 n)/\n<=1000/\∀ l,H l=none->Q (.ref l) (upd H l (.lst ((yZ n).map V.int)))):=by
 intro pins s σ H xs us Q I r h;obtain ⟨p,n,rfl,hp,hn,q⟩:=h;obtain ⟨u,rfl,rx⟩:=vals1 r;cases rx;obtain ⟨t,u,v,e⟩:=I.hok p _ hp;have hs:Builtin.Range.small 0 (n:Int) 1=true:=small_one (by omega) (by omega) (by omega) (by omega);have hz:Builtin.Range.rangeSize 0 (n:Int) 1=n:=by rw [rangeSize_one];split <;> omega
 have SL:(1000:Nat)<=sizeLine:=by decide
 refine call_list_range (I.ok.hd hc) e hs hz (by omega) λh' tk acc c' hk hS ha=>?_;refine ⟨.ref s.heap.objs.size,_,I.laid (t':=tk) hk (Nat.le_refl _) (show ObjOk X.prog X.w _ h' _ (.lst ((yZ n).map V.int)) from ⟨?_,acc.toList,c',vals_upto n acc.toList ?_ ?_,?_⟩),rfl,q _ (I.hok.fresh (Nat.le_refl _))⟩
 ·rw [Jg];unfold yZ;rw [Jg,List.length_range];omega
 ·simpa using ha.1
 ·intro i v hv
  exact ha.2 i v (by simpa using hv)
 ·simpa using hS
end
end L2
namespace L2
open PySem PySem.Spec PyProof.Rows
section
variable {X:Cx}
end
def Xt {xs:Jl} {a:Int} (ha:0<=a):cutV xs (some a) none=xs.drop a.toNat:=by
 unfold cutV;rw [HT.sIx_none,sIx_pos ha];by_cases h:a.toNat<=xs.length
 ·rw [Nat.min_eq_left h]
  exact List.take_of_length_le (by rw [List.length_drop];omega)
 ·have e1:xs.drop xs.length=[]:=List.drop_length
  have e2:xs.drop a.toNat=[]:=List.drop_eq_nil_of_le (by omega);rw [Nat.min_eq_right (by omega),e1,e2];simp
def ps1_ret {X:Cx} {σ₀:St} {e:Expr} {te:TE} {pos:Pos} (he:PE1 X σ₀ e te):PS1 X σ₀ (.Return (some e) pos) (tRet te):=by
 intro pins s H D I h;exact wpAny_Return_some (thn (he pins s H _ I h) λv s1 ⟨x,H1,I1,r1,q1⟩=>⟨x,σ₀,H1,I1,r1,q1⟩)
end L2
namespace L2
open PySem
namespace Hd
variable {B:Hp} {L:Jk} {H H' J:Hp} {a b:Ad} {o o':HO}
def grow (h:Hd B L H) (n:H a=none):Hd (upd B a o) L (upd H a o):=by
 refine ⟨h.nd,λp q=>?_,λp q=>?_,λb u z=>?_⟩
 ·rw [zj (zr (h.st p q) n)];exact h.nw p q
 ·rw [zj (zr (h.st p q) n)];exact h.st p q
 ·by_cases e:b=a
  ·subst e;rw [zh] at z ⊢;exact z
  ·rw [zj e] at z ⊢;exact h.sm _ _ z
def adopt (m:Hd B L H) (h:Hd H [(a,o)] J):Hd (upd B a o) L J:=by
 have na:H a=none:=h.nw _ (List.mem_singleton.mpr rfl);refine ⟨m.nd,λp q=>?_,λp q=>h.sm _ _ (m.st p q),λb u z=>?_⟩
 ·rw [zj (zr (m.st p q) na)];exact m.nw p q
 ·by_cases e:b=a
  ·subst e;rw [zh] at z;cases z;exact h.get 0 rfl
  ·rw [zj e] at z;exact h.sm _ _ (m.sm _ _ z)
def settle (m:Hd B ((a,o)::L) H):Hd (upd B a o) L H:=by
 have h:=m.tl;have na:a ∉ L.map Prod.fst:=(List.nodup_cons.mp m.nd).1;refine ⟨h.nd,λp q=>?_,h.st,λb u z=>?_⟩
 ·rw [zj (λe=>na (by rw [← e];exact List.mem_map_of_mem q))];exact h.nw p q
 ·by_cases e:b=a
  ·subst e;rw [zh] at z;cases z;exact m.get 0 rfl
  ·rw [zj e] at z;exact m.sm _ _ z
def settled (m:Hd B ((a,o)::L) H):Same B (upd B a o):=zn (Same.refl _) (m.nw (a,o) (q1z ..))
def waste (h:Hd B L H) (n:H a=none):Hd B L (upd H a o):=h.same (zn (Same.refl _) n)
def fnew {p:Ad×HO} (h:Hd B (p::L) H) (n:H a=none):Hd B (p::(a,o)::L) (upd H a o):=(h.new n).perm (List.Perm.swap _ _ _)
def fput (h:Hd B ((a,o)::L) H):Hd B ((a,o')::L) (upd H a o'):=h.put 0 rfl
end Hd
namespace Hd
variable {B:Hp} {L L2:Jk} {H H' J:Hp} {a b:Ad} {o o':HO}
def join (m:Hd B L H) (h:Hd H L2 J):Hd B (L++L2) J:=by
 refine ⟨?_,λp q=>?_,λp q=>?_,λb u z=>h.sm _ _ (m.sm _ _ z)⟩
 ·rw [Ji]
  refine List.nodup_append.mpr ⟨m.nd,h.nd,λx hx y hy e=>?_⟩;obtain ⟨p,hp,rfl⟩:=List.mem_map.mp hx;obtain ⟨q,hq,rfl⟩:=List.mem_map.mp hy;have:=m.st p hp;rw [e,h.nw q hq] at this;cases this
 ·rcases List.mem_append.mp q with q | q
  ·exact m.nw p q
  ·exact m.free (h.nw p q)
 ·rcases List.mem_append.mp q with q | q
  ·exact h.sm _ _ (m.st p q)
  ·exact h.st p q
theorem settles {S:Jk}:∀ {B:Hp},Hd B (S++L) H->∃ B',Same B B'/\(∀ p∈S,B' p.1=some p.2)/\Hd B' L H:=by
 induction S with
 | nil=>exact λ{B} h=>⟨B,Same.refl _,(λp m=>by cases m),h⟩
 | cons p S ih =>
  intro B h;obtain ⟨a,o⟩:=p;obtain ⟨B',s,e,h'⟩:=ih (Hd.settle h);refine ⟨B',(Hd.settled h).trans s,λp m=>?_,h'⟩;rcases List.mem_cons.mp m with rfl | m
  ·exact s _ _ zh
  ·exact e p m
end Hd
end L2
namespace L2
open PySem PySem.Spec PyProof.Rows
open Sem (wp)
section
variable {prog:Program} {w:World} {A:Around} {E:J5} {s:Sh}
def nxt_tup {j t:Ad} {k:Nat} {us:Array Vl} {v:Vl} {Q:J5} (hj:s.heap.IsTupleIter j t k) (ht:s.heap.IsTuple t us) (hv:us[k]?=some v)
  (q:∀ g,g.IsTupleIter j t (k+1)->Heap.SameBut j s.heap g->Q v { s with heap:=g }):wpAny (model prog w) A (Builtin.SmallTypes.nextOf (.ref j)) Q E s:=by
 have ty:=hj.typeIs;obtain ⟨o,eo,ec,ed⟩:=hj;obtain ⟨o2,eo2,_,m,ed2⟩:=ht;unfold Builtin.SmallTypes.nextOf;refine q0x (wpAny_callSpecial?_slot (name:=Str.ofString "__next__") ty F.slot_tuple_iterator_next (wpAny_call_entry F.slot_tuple_iterator_next ty F.entry_tuple_iterator_next ?_ (F.args_tuple_iterator_next_1 _)));refine q0x (m:=field (.ref j) 0) (wpAny_field eo ed (x:=.ref t) rfl ?_);show wpAny _ _ (if (Value.ref t == Value.none)=true then _ else _) _ _ s;rw [if_neg (show ¬ ((Value.ref t == Value.none)=true) from nofun)];refine q0x (m:=field (.ref j) 1) (wpAny_field eo ed (x:=.int k 0) rfl ?_);refine q0x (m:=seqItems? (.ref t)) (wpAny_seqItems eo2 ed2 ?_);simp only [q0z,hv];refine q0x (wpAny_setField eo ed (by simp) (q0y ⟨v,rfl,q0y (q _ ?_ (Heap.SameBut.update ..))⟩));exact ⟨_,Heap.get?_update_self _ eo (Obj.isFreed_of_fields (Obj.data_mapFields ed _)),(Obj.cls_mapFields ..).trans ec,by rw [Obj.data_mapFields ed];simp [rawInt]⟩
def zbm {j t:Ad} {k:Nat} {us:Array Vl} {Q:J5} (hh:A.handled=none) (hj:s.heap.IsTupleIter j t k) (ht:s.heap.IsTuple t us) (hv:us[k]?=none)
  (q:∀ g e,Heap.ExtBut j s.heap g->(∃ o,g.get? e=some o/\o.cls=.type "StopIteration")->E (.ref e) { s with heap:=g }):wpAny (model prog w) A (Builtin.SmallTypes.nextOf (.ref j)) Q E s:=by
 have ty:=hj.typeIs;obtain ⟨o,eo,ec,ed⟩:=hj;obtain ⟨o2,eo2,_,m,ed2⟩:=ht;unfold Builtin.SmallTypes.nextOf;refine q0x (wpAny_callSpecial?_slot (name:=Str.ofString "__next__") ty F.slot_tuple_iterator_next (wpAny_call_entry F.slot_tuple_iterator_next ty F.entry_tuple_iterator_next ?_ (F.args_tuple_iterator_next_1 _)));refine q0x (m:=field (.ref j) 0) (wpAny_field eo ed (x:=.ref t) rfl ?_);show wpAny _ _ (if (Value.ref t == Value.none)=true then _ else _) _ _ s;rw [if_neg (show ¬ ((Value.ref t == Value.none)=true) from nofun)];refine q0x (m:=field (.ref j) 1) (wpAny_field eo ed (x:=.int k 0) rfl ?_);refine q0x (m:=seqItems? (.ref t)) (wpAny_seqItems eo2 ed2 ?_);simp only [q0z,hv];refine q0x (wpAny_rule (q0x (wpAny_setField eo ed (by simp) (q0x (m:=newExc (.type "StopIteration") []) ?_))));simp only [newExc,newTuple];refine q0x (wpAny_newObj_type (q0x (m:=firstArgMember _ _) (wpAny_of_eq (a:=Value.none) (by first | rfl | (simp only [firstArgMember];rfl)) (wpAny_newObj_type ?_ (by size_fits)))) (by size_fits));simp only [raiseNew];refine q0x (wpAny_handled ?_)
 first | rw [show A.in1.handled=none from hh] | rw [hh]
 refine q0x (q0y (wpAny_throw ?_));exact q _ _ (((Heap.SameBut.update ..).extBut.push _).push _) ⟨_,Heap.get?_push_size _ rfl,rfl⟩
def zt_item {z TI TO j1 j2 t1 t2:Ad} {k1 k2:Nat} {us vs:Array Vl} {u v a b:Vl} {Q:J5} (D:ZipApart z TI TO j1 j2 t1 t2) (hz:IsZip s.heap z TI TO .none) (hI:IsPair s.heap TI (.ref j1) (.ref j2)) (hO:IsPair s.heap TO a b)
  (i1:s.heap.IsTupleIter j1 t1 k1) (i2:s.heap.IsTupleIter j2 t2 k2) (e1:s.heap.IsTuple t1 us) (e2:s.heap.IsTuple t2 vs) (hu:us[k1]?=some u) (hv:vs[k2]?=some v)
  (q:∀ g,IsZip g z TI TO (rawInt s.heap.objs.size)->IsPair g TO u v->g.IsTupleIter j1 t1 (k1+1)->g.IsTupleIter j2 t2 (k2+1)->IsPair g s.heap.objs.size u v->g.objs.size=s.heap.objs.size+1->(∀ c o,c≠z->c≠TO->c≠j1->c≠j2->s.heap.get? c=some o->g.get? c=some o)->Q (.ref s.heap.objs.size) { s with heap:=g }) :
  wpAny (model prog w) A (Builtin.«zip.__next__» ⟨[.ref z],[]⟩) (λfin s'=>∃ v,fin=.done (.ret v)/\Q v s') E s:=by
 refine q0x (m:=field (.ref z) 2) (wpAny_field hz rfl (x:=.bool false) rfl ?_);refine q0x (m:=field (.ref z) 3) (wpAny_field hz rfl (x:=.ref TI) rfl (q0x (wpAny_seqItems hI rfl ?_)));refine q0x (m:=Builtin.SmallTypes.ownedTupleIsFree (.ref z)) ?_;unfold Builtin.SmallTypes.ownedTupleIsFree;refine q0x (wpAny_field hz rfl (x:=.none) rfl (q0y ?_));simp only [if_true];refine q0x (wpAny_rule (q0x (wpAny_field hz rfl (x:=.ref TO) rfl ?_)));refine q0x (wpAny_setField_rec hz (by simp) λg1 z1 c1=>q0x ?_);replace z1:IsZip g1 z TI TO .ellipsis:=z1;simp only [List.zipIdx_cons,List.zipIdx_nil,List.forIn_cons,List.forIn_nil];refine q0x (q0x (wpAny_onRaise ?_));refine q0x (m:=Builtin.SmallTypes.nextOf (.ref j1)) (nxt_tup (i1.extBut c1.extBut D.i1z) (e1.extBut c1.extBut D.l1z) hu λg2 n1 c2=>q0y ?_);have o2:IsPair g2 TO a b:=c2.extBut _ _ D.TOi1 (c1.extBut _ _ D.TOz hO);refine q0x (wpAny_seqItems o2 rfl (q0x (wpAny_updateSeq_pair o2 λg3 o3 c3=>?_)));replace o3:IsPair g3 TO u b:=o3;refine q0x (wpAny_letGo (q0y (q0x (q0x (wpAny_onRaise ?_)))));refine q0x (m:=Builtin.SmallTypes.nextOf (.ref j2)) (nxt_tup (((i2.extBut c1.extBut D.i2z).extBut c2.extBut D.i12.symm).extBut c3.extBut D.TOi2.symm) (((e2.extBut c1.extBut D.l2z).extBut c2.extBut D.l2i1).extBut c3.extBut D.l2TO) hv λg4 n2 c4=>q0y ?_);have o4:IsPair g4 TO u b:=c4.extBut _ _ D.TOi2 o3;refine q0x (wpAny_seqItems o4 rfl (q0x (wpAny_updateSeq_pair o4 λg5 o5 c5=>?_)));replace o5:IsPair g5 TO u v:=o5;refine q0x (wpAny_letGo (q0y (q0y (q0x (wpAny_seqItems o5 rfl (q0x (wpAny_newTuple ?_)))))));have sz:g5.objs.size=s.heap.objs.size:=by rw [c5.1,c4.1,c3.1,c2.1,c1.1]
 have z5:IsZip g5 z TI TO .ellipsis:=c5.extBut _ _ D.TOz.symm (c4.extBut _ _ D.i2z.symm (c3.extBut _ _ D.TOz.symm (c2.extBut _ _ D.i1z.symm z1)));have k5:∀ c o,c≠z->c≠TO->c≠j1->c≠j2->s.heap.get? c=some o->g5.get? c=some o:=λc o d1 d2 d3 d4 e=>c5.extBut _ _ d2 (c4.extBut _ _ d4 (c3.extBut _ _ d2 (c2.extBut _ _ d3 (c1.extBut _ _ d1 e))));have m1:g5.IsTupleIter j1 t1 (k1+1):=((n1.extBut c3.extBut D.TOi1.symm).extBut c4.extBut D.i12).extBut c5.extBut D.TOi1.symm;have m2:g5.IsTupleIter j2 t2 (k2+1):=n2.extBut c5.extBut D.TOi2.symm;have zl:z<g5.objs.size:=Heap.lt_size z5;refine q0x (m:=Builtin.SmallTypes.ownedTupleHandOut (.ref z) (.ref g5.objs.size)) ?_;unfold Builtin.SmallTypes.ownedTupleHandOut;have z6:IsZip (g5.push { cls:=.type "tuple",data:=.seq #[u,v] }) z TI TO .ellipsis:=Heap.get?_push_of_some _ z5;refine q0x (wpAny_setField_rec z6 (by simp) λg7 z7 c7=>?_);replace z7:IsZip g7 z TI TO (rawInt g5.objs.size):=z7;refine wpAny_setField_rec z7 (by simp) λg8 z8 c8=>?_;replace z8:IsZip g8 z TI TO (rawInt g5.objs.size):=z8;have up:∀ c o,c≠z->g5.get? c=some o->g8.get? c=some o:=λc o d e=>c8.extBut _ _ d (c7.extBut _ _ d (Heap.get?_push_of_some _ e));have T8:IsPair g8 g5.objs.size u v:=c8.extBut _ _ (Nat.ne_of_gt zl) (c7.extBut _ _ (Nat.ne_of_gt zl) (Heap.get?_push_size _ rfl));have s8:g8.objs.size=g5.objs.size+1:=by rw [c8.1,c7.1,Heap.size_push]
 rw [sz] at z8 T8 s8;refine q0y ⟨_,rfl,?_⟩;show Q (.ref g5.objs.size) _;rw [sz];exact q g8 z8 (up _ _ D.TOz o5) (m1.at λo e=>up _ o D.i1z e) (m2.at λo e=>up _ o D.i2z e) T8 s8 λc o d1 d2 d3 d4 e=>up c o d1 (k5 c o d1 d2 d3 d4 e)
def zt_end {z TI TO j1 j2 t1 t2:Ad} {k1 k2:Nat} {us vs:Array Vl} {a b:Vl} {Q:Fin->Sh->Prop} (hh:A.handled=none) (D:ZipApart z TI TO j1 j2 t1 t2) (hz:IsZip s.heap z TI TO .none) (hI:IsPair s.heap TI (.ref j1) (.ref j2)) (hO:IsPair s.heap TO a b)
  (i1:s.heap.IsTupleIter j1 t1 k1) (i2:s.heap.IsTupleIter j2 t2 k2) (e1:s.heap.IsTuple t1 us) (e2:s.heap.IsTuple t2 vs) (he:us[k1]?=none)
  (q:∀ g e,(∀ c o,c≠z->c≠TO->c≠j1->c≠j2->s.heap.get? c=some o->g.get? c=some o)->(∃ o,g.get? e=some o/\o.cls=.type "StopIteration")->E (.ref e) { s with heap:=g }) :
  wpAny (model prog w) A (Builtin.«zip.__next__» ⟨[.ref z],[]⟩) Q E s:=by
 refine q0x (m:=field (.ref z) 2) (wpAny_field hz rfl (x:=.bool false) rfl ?_);refine q0x (m:=field (.ref z) 3) (wpAny_field hz rfl (x:=.ref TI) rfl (q0x (wpAny_seqItems hI rfl ?_)));refine q0x (m:=Builtin.SmallTypes.ownedTupleIsFree (.ref z)) ?_;unfold Builtin.SmallTypes.ownedTupleIsFree;refine q0x (wpAny_field hz rfl (x:=.none) rfl (q0y ?_));simp only [if_true];refine q0x (wpAny_rule (q0x (wpAny_field hz rfl (x:=.ref TO) rfl ?_)));refine q0x (wpAny_setField_rec hz (by simp) λg1 z1 c1=>q0x ?_);replace z1:IsZip g1 z TI TO .ellipsis:=z1;simp only [List.zipIdx_cons,List.zipIdx_nil,List.forIn_cons,List.forIn_nil];refine q0x (q0x (wpAny_onRaise ?_));refine q0x (m:=Builtin.SmallTypes.nextOf (.ref j1)) (zbm hh (i1.extBut c1.extBut D.i1z) (e1.extBut c1.extBut D.l1z) he λg2 e c2 ⟨oe,ho,hc⟩=>?_);have z2:IsZip g2 z TI TO .ellipsis:=c2 _ _ D.i1z.symm z1;have ne:e≠z:=λx=>by subst x;rw [z2] at ho;cases ho;simp at hc
 exact wpAny_setField_rec z2 (by simp) λg3 _ c3=>q g3 e (λc o d1 _ d3 _ x=>c3.extBut _ _ d1 (c2 _ _ d3 (c1.extBut _ _ d1 x))) ⟨oe,c3.extBut _ _ ne ho,hc⟩
def next_zt {z TI TO j1 j2 t1 t2:Ad} {k1 k2:Nat} {us vs:Array Vl} {u v a b:Vl} {Q:Jc->Sh->Prop} (D:ZipApart z TI TO j1 j2 t1 t2) (hz:IsZip s.heap z TI TO .none) (hI:IsPair s.heap TI (.ref j1) (.ref j2)) (hO:IsPair s.heap TO a b)
  (i1:s.heap.IsTupleIter j1 t1 k1) (i2:s.heap.IsTupleIter j2 t2 k2) (e1:s.heap.IsTuple t1 us) (e2:s.heap.IsTuple t2 vs) (hu:us[k1]?=some u) (hv:vs[k2]?=some v)
  (q:∀ g,IsZip g z TI TO (rawInt s.heap.objs.size)->IsPair g TO u v->g.IsTupleIter j1 t1 (k1+1)->g.IsTupleIter j2 t2 (k2+1)->IsPair g s.heap.objs.size u v->g.objs.size=s.heap.objs.size+1->(∀ c o,c≠z->c≠TO->c≠j1->c≠j2->s.heap.get? c=some o->g.get? c=some o)->Q (some (.ref s.heap.objs.size)) { s with heap:=g }) :
  wpAny (model prog w) A (pyNext (.ref z)) Q E s:=by
 have ty:s.TypeIs (.ref z) "zip":=⟨_,hz,rfl⟩;unfold pyNext;exact q0x (wpAny_attempt (wpAny_callSpecial?_slot (name:=Str.ofString "__next__") ty F.slot_zip_next (wpAny_call_entry F.slot_zip_next ty F.entry_zip_next (zt_item D hz hI hO i1 i2 e1 e2 hu hv λg a1 a2 a3 a4 a5 a6 a7=>q0y (q g a1 a2 a3 a4 a5 a6 a7)) (F.args_zip_next_1 _))))
def zbo {z TI TO j1 j2 t1 t2:Ad} {k1 k2:Nat} {us vs:Array Vl} {a b:Vl} {Q:Jc->Sh->Prop} (hh:A.handled=none) (D:ZipApart z TI TO j1 j2 t1 t2) (hz:IsZip s.heap z TI TO .none) (hI:IsPair s.heap TI (.ref j1) (.ref j2)) (hO:IsPair s.heap TO a b)
  (i1:s.heap.IsTupleIter j1 t1 k1) (i2:s.heap.IsTupleIter j2 t2 k2) (e1:s.heap.IsTuple t1 us) (e2:s.heap.IsTuple t2 vs) (he:us[k1]?=none)
  (q:∀ g,(∀ c o,c≠z->c≠TO->c≠j1->c≠j2->s.heap.get? c=some o->g.get? c=some o)->Q none { s with heap:=g }):wpAny (model prog w) A (pyNext (.ref z)) Q E s:=by
 have ty:s.TypeIs (.ref z) "zip":=⟨_,hz,rfl⟩;unfold pyNext;refine q0x (wpAny_attempt (wpAny_callSpecial?_slot (name:=Str.ofString "__next__") ty F.slot_zip_next (wpAny_call_entry F.slot_zip_next ty F.entry_zip_next (zt_end hh D hz hI hO i1 i2 e1 e2 he λg e hk ⟨o,ho,hc⟩=>?_) (F.args_zip_next_1 _))));exact q0x (wpAny_isInstance (T:="StopIteration") (b:=true) ⟨o,ho,hc⟩ isSubtype_stop (q0y (q _ hk)))
abbrev zt1 (h:Heap) (t1:Ad):Heap:=h.push { cls:=.type "tuple_iterator",data:=.fields #[.ref t1,.int 0 0] }
abbrev zt2 (h:Heap) (t1 t2:Ad):Heap:=(zt1 h t1).push { cls:=.type "tuple_iterator",data:=.fields #[.ref t2,.int 0 0] }
abbrev zt3 (h:Heap) (t1 t2:Ad):Heap:=(zt2 h t1 t2).push { cls:=.type "tuple",data:=.seq #[.ref h.objs.size,.ref (zt1 h t1).objs.size] }
abbrev zt4 (h:Heap) (t1 t2:Ad):Heap:=(zt3 h t1 t2).push { cls:=.type "tuple",data:=.seq #[.none,.none] }
abbrev zt5 (h:Heap) (t1 t2:Ad):Heap:=(zt4 h t1 t2).push { cls:=.type "zip",data:=.fields #[.none,.bool false,.bool false,.ref (zt2 h t1 t2).objs.size,.ref (zt3 h t1 t2).objs.size] }
def meets_zt (t1 t2:Ad) (us vs:Array Vl):Meets (Builtin.«zip.__new__» ⟨[.type "zip",.ref t1,.ref t2],[]⟩) (λ_ R s=>s.heap.IsTuple t1 us/\s.heap.IsTuple t2 vs/\R (.ok (.ret (.ref (zt4 s.heap t1 t2).objs.size))) { s with heap:=zt5 s.heap t1 t2 }) :=
 .of_wp λprog w A R s h=>by
  obtain ⟨hp,g,d,tk,os⟩:=s;obtain ⟨x1,x2,h⟩:=h;have hsub:=sub_zip;have y1:Heap.IsTuple (Shared.heap ⟨hp,g,d,tk,os⟩) t1 us:=x1;have y2:Heap.IsTuple (Shared.heap ⟨hp.push { cls:=.type "tuple_iterator",data:=.fields #[.ref t1,.int 0 0] },g,d,tk,os⟩) t2 vs:=Heap.IsTuple.push x2 _
  wp_walk using wpAny_pyIter_tuple y1,wpAny_pyIter_tuple y2
  exact ⟨_,rfl,h⟩
def call_zt {t1 t2:Ad} {us vs:Array Vl} {Q:J5} (x1:s.heap.IsTuple t1 us) (x2:s.heap.IsTuple t2 vs)
  (q:∀ g,IsZip g (s.heap.objs.size+4) (s.heap.objs.size+2) (s.heap.objs.size+3) .none->IsPair g (s.heap.objs.size+2) (.ref s.heap.objs.size) (.ref (s.heap.objs.size+1))->IsPair g (s.heap.objs.size+3) .none .none->g.IsTupleIter s.heap.objs.size t1 0->g.IsTupleIter (s.heap.objs.size+1) t2 0->(∀ c o,s.heap.get? c=some o->g.get? c=some o)->Q (.ref (s.heap.objs.size+4)) { s with heap:=g }) :
  wpAny (model prog w) A (call (.type "zip") [.ref t1,.ref t2]) Q E s:=by
 refine callType_new F.called_zip (by decide) (F.typeCall_zip_2 _ _) (F.newCall_zip_2 _ _) (λobj=>F.args_object_init_3 obj _ _) F.entry_zip_new (meets_zt t1 t2 us vs) ⟨x1,x2,?_⟩;have z1:(zt1 s.heap t1).objs.size=s.heap.objs.size+1:=Heap.size_push ..;have z2:(zt2 s.heap t1 t2).objs.size=s.heap.objs.size+2:=by rw [Heap.size_push,z1]
 have z3:(zt3 s.heap t1 t2).objs.size=s.heap.objs.size+3:=by rw [Heap.size_push,z2]
 have z4:(zt4 s.heap t1 t2).objs.size=s.heap.objs.size+4:=by rw [Heap.size_push,z3]
 have up:∀ {h:Heap} {c:Ad} {o o':Obj},h.get? c=some o->(h.push o').get? c=some o:=λe=>Heap.get?_push_of_some _ e;have g5:(zt5 s.heap t1 t2).get? (zt4 s.heap t1 t2).objs.size=some _:=Heap.get?_push_size _ rfl;have g4:(zt5 s.heap t1 t2).get? (zt3 s.heap t1 t2).objs.size=some _:=up (Heap.get?_push_size _ rfl);have g3:(zt5 s.heap t1 t2).get? (zt2 s.heap t1 t2).objs.size=some _:=up (up (Heap.get?_push_size _ rfl));have g2:(zt5 s.heap t1 t2).get? (zt1 s.heap t1).objs.size=some _:=up (up (up (Heap.get?_push_size _ rfl)));have g1:(zt5 s.heap t1 t2).get? s.heap.objs.size=some _:=up (up (up (up (Heap.get?_push_size _ rfl))));show _/\_;rw [z2,z3,z4] at g5;rw [z1,z2] at g3;rw [z3] at g4;rw [z1] at g2;rw [z4];exact ⟨⟨_,g5,rfl⟩,q _ g5 g3 g4 ⟨_,g1,rfl,rfl⟩ ⟨_,g2,rfl,rfl⟩ λc o x=>up (up (up (up (up x))))⟩
end
def Itzt (K:Fg) (l1 l2:Ad):It :=
  ⟨λi H=>∃ xs ys x y,SqT K H l1 xs/\SqT K H l2 ys/\xs[i]?=some x/\ys[i]?=some y,
   λi H x H'=>∃ T u v,x=.ref T/\H T=none/\H'=upd H T (.tup [u,v])/\∀ xs ys,SqT K H l1 xs->SqT K H l2 ys->xs[i]?=some u/\ys[i]?=some v,
   λi H=>∃ xs ys,SqT K H l1 xs/\SqT K H l2 ys/\xs.length<=i⟩
def turn_zt {P:Program} {w:World} {K:Fg} {es:Jf} {kt:Nat} {pos:Pos} {z TI TO i1 i2 l1 l2:Ad} (D:ZipApart z TI TO i1 i2 l1 l2) :
  Turn P w K (.Tuple es kt pos) (Itzt K l1 l2) [z,TI,TO,i1,i2] z (λi h=>IsZip h z TI TO .none/\IsPair h TI (.ref i1) (.ref i2)/\(∃ a b,IsPair h TO a b)/\h.IsTupleIter i1 l1 i/\h.IsTupleIter i2 l2 i) where
 mem:=by simp
 obj:=λi h st b hb=>by
  obtain ⟨hz,hI,⟨a,b',hO⟩,⟨o1,e1,c1,d1⟩,⟨o2,e2,c2,d2⟩⟩:=st;simp at hb;rcases hb with rfl | rfl | rfl | rfl | rfl
  ·exact ⟨_,hz,λv q=>by cases q⟩
  ·exact ⟨_,hI,λv q=>by cases q⟩
  ·exact ⟨_,hO,λv q=>by cases q⟩
  ·exact ⟨_,e1,λv q=>by rw [d1] at q;cases q⟩
  ·exact ⟨_,e2,λv q=>by rw [d2] at q;cases q⟩
 keep:=λi h h' st k=>by
  obtain ⟨hz,hI,⟨a,b',hO⟩,h1,h2⟩:=st;exact ⟨k z (by simp) _ hz,k TI (by simp) _ hI,⟨a,b',k TO (by simp) _ hO⟩,h1.at λo e=>k i1 (by simp) o e,h2.at λo e=>k i2 (by simp) o e⟩
 item:=by
  intro X hP hw hK hc i pins s σ H E I hf st hg;subst hP hw hK;obtain ⟨hz,hI,⟨a,b',hO⟩,h1,h2⟩:=st;obtain ⟨xs,ys,x,y,q1,q2,ex,ey⟩:=hg;obtain ⟨is1,r1,p1,_⟩:=I.tuple q1;obtain ⟨is2,r2,p2,_⟩:=I.tuple q2;obtain ⟨u,hu,ru⟩:=r1.get ex;obtain ⟨v,hv,rv⟩:=r2.get ey;refine next_zt D hz hI hO h1 h2 (show s.heap.IsTuple l1 is1.toArray from p1) (show s.heap.IsTuple l2 is2.toArray from p2) (u:=u) (v:=v) (by simpa using hu) (by simpa using hv) λh1' a1 a2 a3 a4 a5 a6 hk=>?_;refine ⟨_,rfl,wpAny_letOwnedTupleGo_zip (s:={ s with heap:=h1' }) a1 λh2' z' sb=>?_⟩;have lt:∀ {c:Ad} {o:Obj},s.heap.get? c=some o->c≠s.heap.objs.size:=λe=>Nat.ne_of_lt (Heap.lt_size e);have Tz:s.heap.objs.size≠z:=(lt hz).symm;have fr:=I.hok.fresh (Nat.le_refl _);refine ⟨.ref s.heap.objs.size,upd H s.heap.objs.size (.tup [x,y]),I.turnedT (its:=[z,TI,TO,i1,i2]) (t':=s.toks) (λb o nb e=>?_) hf (Nat.le_refl _) ⟨by show 2<=sizeLine;decide,[u,v],.cons ru (.cons rv .nil),_,sb.extBut _ _ Tz a5,rfl,_,rfl⟩,rfl,⟨s.heap.objs.size,x,y,rfl,fr,rfl,λxs' ys' q1' q2'=>?_⟩,?_,λb hb=>?_⟩
  ·have nb':b≠z/\b≠TI/\b≠TO/\b≠i1/\b≠i2:=by simpa using nb
   exact sb.extBut _ _ nb'.1 (hk b o nb'.1 nb'.2.2.1 nb'.2.2.2.1 nb'.2.2.2.2 e)
  ·rw [I.tuple_inj q1' q1,I.tuple_inj q2' q2];exact ⟨ex,ey⟩
  ·exact ⟨z',sb.extBut _ _ D.TIz (hk _ _ D.TIz D.TITO D.TIi1 D.TIi2 hI),⟨_,_,sb.extBut _ _ D.TOz a2⟩,a3.extBut sb.extBut D.i1z,a4.extBut sb.extBut D.i2z⟩
  ·have e:=(hf b hb).1
   have:∃ o,s.heap.get? b=some o:=by
    simp at hb;rcases hb with rfl | rfl | rfl | rfl | rfl
    ·exact ⟨_,hz⟩
    ·exact ⟨_,hI⟩
    ·exact ⟨_,hO⟩
    ·obtain ⟨o,e,_⟩:=h1;exact ⟨o,e⟩
    ·obtain ⟨o,e,_⟩:=h2;exact ⟨o,e⟩
   obtain ⟨o,eo⟩:=this;rw [zj (lt eo)];exact e
 done:=by
  intro X hP hw hK hc i pins s σ H E I hf st hg;subst hP hw hK;obtain ⟨hz,hI,⟨a,b',hO⟩,h1,h2⟩:=st;obtain ⟨xs,ys,q1,q2,le⟩:=hg;obtain ⟨is1,r1,p1,_⟩:=I.tuple q1;obtain ⟨is2,r2,p2,_⟩:=I.tuple q2;have g1:=r1.length;have g2:=r2.length;refine zbo (I.ok.hd hc) D hz hI hO h1 h2 (show s.heap.IsTuple l1 is1.toArray from p1) (show s.heap.IsTuple l2 is2.toArray from p2) (by simp;omega) λh1' hk=>⟨rfl,I.turnedL (its:=[z,TI,TO,i1,i2]) (t':=s.toks) (λb o nb e=>?_) hf⟩;have nb':b≠z/\b≠TI/\b≠TO/\b≠i1/\b≠i2:=by simpa using nb
  exact hk b o nb'.1 nb'.2.2.1 nb'.2.2.2.1 nb'.2.2.2.2 e
 self:=λ_ _ _ _ _ st h=>wpAny_pyIter_zip st.1 h
section
variable {X:Cx} {es:Jf} {kt:Nat} {tp:Pos}
end
def for_zt {K:Fg} {l1 l2:Ad} {xs ys:Jl} {g:TG} {tb:TS} {D:Ends} {σ:St} {H:Hp} (Pv:Nat->St->Hp->Prop) (h0:Pv 0 σ H) (hl:∀ i σ H,i<=xs.length->Pv i σ H->SqT K H l1 xs/\SqT K H l2 ys) (he:ys.length=xs.length)
  (hs:∀ i x y σ H T,xs[i]?=some x->ys[i]?=some y->Pv i σ H->H T=none->g (.ref T) σ (upd H T (.tup [x,y])) λσ2 H2=>tb { D with nx:=Pv (i+1),ct:=Pv (i+1),bk:=D.nx } σ2 H2) (hd:∀ σ H,Pv xs.length σ H->D.nx σ H) :
  tFor_S g tb D σ (Itzt K l1 l2) H:=by
 refine ⟨λi m σ H=>m=xs.length-i/\i<=xs.length/\Pv i σ H,⟨xs.length,by simp,Nat.zero_le _,h0⟩,?_⟩;rintro i m σ H ⟨rfl,hi,p⟩;obtain ⟨q1,q2⟩:=hl i σ H hi p;by_cases hlt:i<xs.length
 ·refine .inr ⟨⟨xs,ys,xs[i],ys[i],q1,q2,by simp [hlt],by simp [he,hlt]⟩,Pv (i+1),λσ' H' p'=>⟨xs.length-(i+1),by omega,rfl,hlt,p'⟩,λx H' y=>?_⟩
  obtain ⟨T,u,v,e,nT,e',y⟩:=y;subst e e';obtain ⟨y1,y2⟩:=y xs ys q1 q2;exact hs i u v σ H T y1 y2 p nT
 ·have e:i=xs.length:=by omega
  subst e;exact .inl ⟨⟨xs,ys,q1,q2,Nat.le_refl _⟩,hd σ H p⟩
section
variable {X:Cx} {es:Jf} {kt:Nat} {tp:Pos}
inductive iZb_S (K:Fg) (R:(It->Hp->Prop)) (vs:Jl) (H1:Hp):Prop
 | mk (l1 l2:_) (_:vs=[.ref l1,.ref l2]) (_:(((∃ xs,SqL K H1 l1 xs)/\(∃ ys,SqL K H1 l2 ys)/\R (Itz K l1 l2) H1)∨((∃ xs,SqT K H1 l1 xs)/\(∃ ys,SqT K H1 l2 ys)/\R (Itzt K l1 l2) H1)))
def iZb (K:Fg) (ta:TA):TI:=λσ H R=>ta σ H λvs H1=>iZb_S K R vs H1
def pi_zb {a b:Expr} {ta:TA} {p pos:Pos} (hg:Gl X "zip") (hm:X.mg "zip"=none) (ha:PA X [a,b] ta) (hs:starEach [a,b] X.env=[(false,eval a X.env),(false,eval b X.env)]:=by rfl)
  (hs2:starEach [b] X.env=[(false,eval b X.env)]:=by rfl):PI X (.Tuple es kt tp) (.Call (.Name "zip" p) [a,b] [] pos) (iZb X.K ta):=by
 intro pins s σ H R I h;refine Call_ (Zb I hg hm boot_zip (PyProof.Rows.callWith_type1 (thn (ha pos pins s σ H _ I h) λus s1 ⟨vs,H1,I1,r1,q1⟩=>?_) (by rw [hs,hs2]) (by rw [hs2];rfl)));obtain ⟨l1,l2,e,q1⟩:=q1;subst e;obtain ⟨u,v,rfl,ru,rv⟩:=YU r1;cases (show u=Value.ref l1 from ru);cases (show v=Value.ref l2 from rv);have fp:∀ n,Zh X pins H1 (s1.heap.objs.size+n):=λn=>I1.fpOk (Nat.le_add_right _ _) (I1.hok.fresh (Nat.le_add_right _ _))
 have fps:∀ b∈[s1.heap.objs.size+4,s1.heap.objs.size+2,s1.heap.objs.size+3,s1.heap.objs.size,s1.heap.objs.size+1],Zh X pins H1 b:=λb hb=>by
  simp at hb;rcases hb with rfl | rfl | rfl | rfl | rfl
  ·exact fp 4
  ·exact fp 2
  ·exact fp 3
  ·exact fp 0
  ·exact fp 1
 rcases q1 with ⟨⟨xs,x1⟩,⟨ys,x2⟩,q⟩ | ⟨⟨xs,x1⟩,⟨ys,x2⟩,q⟩
 ·obtain ⟨is1,g1,p1,_⟩:=I1.list x1
  obtain ⟨is2,g2,p2,_⟩:=I1.list x2;have L1:l1<s1.heap.objs.size:=by obtain ⟨_,e,_⟩:=p1.isList;exact Heap.lt_size e
  have L2:l2<s1.heap.objs.size:=by obtain ⟨_,e,_⟩:=p2.isList;exact Heap.lt_size e
  refine call_zip_2 p1.isList p2.isList λh' a1 a2 a3 a4 a5 a6 hk=>wpAny_pyIter_zip (s:={ s1 with heap:=h' }) a1 ?_;exact ⟨_,_,_,_,H1,rfl,I1.kept (t':=s1.toks) λb o e=>hk b o e,za3 (zipApart_new L1 L2),⟨a1,a2,⟨_,_,a3⟩,a4,a5⟩,fps,q⟩
 ·obtain ⟨is1,g1,p1,_⟩:=I1.tuple x1
  obtain ⟨is2,g2,p2,_⟩:=I1.tuple x2;have L1:l1<s1.heap.objs.size:=by obtain ⟨_,e,_⟩:=p1;exact Heap.lt_size e
  have L2:l2<s1.heap.objs.size:=by obtain ⟨_,e,_⟩:=p2;exact Heap.lt_size e
  refine call_zt (show s1.heap.IsTuple l1 is1.toArray from p1) (show s1.heap.IsTuple l2 is2.toArray from p2) λh' a1 a2 a3 a4 a5 hk=>wpAny_pyIter_zip (s:={ s1 with heap:=h' }) a1 ?_;exact ⟨_,_,_,_,H1,rfl,I1.kept (t':=s1.toks) λb o e=>hk b o e,turn_zt (zipApart_new L1 L2),⟨a1,a2,⟨_,_,a3⟩,a4,a5⟩,fps,q⟩
end
end L2
namespace L2
open PySem
def pg_tupK {X:Cx} {K:Fg} {es:Jf} {k:Nat} {t:TGs} {n:Nat} {pos:Pos} (e:X.K=K) (hc:X.calm=true) (h:PGs X es t) (hn:(assignEach es X.env).length=n:=by rfl) (hst:(assignEach es X.env).findIdx? (·.1)=none:=by rfl):PG X (.Tuple es k pos) (gTup K n t):=e ▸ pg_tup hc h hn hst
def compF_zip {K:Fg} {l1 l2 D:Ad} {xs ys:Jl} {g:TG} {tt:TT} {te:TE} {σY:St} {H1:Hp} {Q:VK} (Pv:Nat->St->Hp->Prop) (h0:Pv 0 σY H1) (hl:∀ i σ H,i<=xs.length->Pv i σ H->SqL K H l1 xs/\SqL K H l2 ys) (he:ys.length=xs.length)
  (hs:∀ i x y σ H T,xs[i]?=some x->ys[i]?=some y->Pv i σ H->H T=none->g (.ref T) σ (upd H T (.tup [x,y])) λσ3 H3=>tt σ3 H3 λb H4=>if b=true then te σ3 H4 λv H5=>∃ zs,H5 D=some (.lst zs)/\zs.length<sizeLine/\Pv (i+1) σ3 (upd H5 D (.lst (zs++[v]))) else Pv (i+1) σ3 H4) (hd:∀ σ H,Pv xs.length σ H->Q (.ref D) H) :
  CompWF (Itz K l1 l2) g tt te σY H1 D Q:=by
 refine ⟨λi m σ H=>m=xs.length-i/\i<=xs.length/\Pv i σ H,⟨xs.length,by simp,Nat.zero_le _,h0⟩,?_⟩;rintro i m σ H ⟨rfl,hi,p⟩;obtain ⟨q1,q2⟩:=hl i σ H hi p;by_cases hlt:i<xs.length
 ·refine .inr ⟨⟨xs,ys,xs[i],ys[i],q1,q2,by simp [hlt],by simp [he,hlt]⟩,Pv (i+1),λσ' H' p'=>⟨xs.length-(i+1),by omega,rfl,hlt,p'⟩,λx H' y=>?_⟩
  obtain ⟨T,u,v,e,nT,e',y⟩:=y;subst e e';obtain ⟨y1,y2⟩:=y xs ys q1 q2;exact hs i u v σ H T y1 y2 p nT
 ·have e:i=xs.length:=by omega
  subst e;exact .inl ⟨⟨xs,ys,q1,q2,.inl (Nat.le_refl _)⟩,hd σ H p⟩
end L2
namespace L2
open PySem PySem.Spec PyProof.Rows
section
variable {X:Cx} {pins:Ja} {σ σ':St} {H H':Hp} {s s':Sh} {a:Ad} {kvs:Jj}
end
def Itk (kvs:Jj):It:=⟨λi _=>i<kvs.length,λi H x H'=>H'=H/\∃ p,kvs[i]?=some p/\x=kV p.1,λi _=>kvs.length<=i⟩
section
variable {X:Cx} {tg:Expr}
end
section
variable {X:Cx}
end
end L2
namespace L2
open PySem PySem.Spec PyProof.Rows
open Sem (wp)
@[reducible] def IsTrip (h:Heap) (T:Ad) (a b c:Vl):Prop:=h.get? T=some { cls:=.type "tuple",data:=.seq #[a,b,c] }
structure Apart3 (z TI TO i1 i2 i3 l1 l2 l3:Ad):Prop where
 TIz:TI≠z
 TOz:TO≠z
 TITO:TI≠TO
 i1z:i1≠z
 i2z:i2≠z
 i3z:i3≠z
 TIi1:TI≠i1
 TIi2:TI≠i2
 TIi3:TI≠i3
 TOi1:TO≠i1
 TOi2:TO≠i2
 TOi3:TO≠i3
 i12:i1≠i2
 i13:i1≠i3
 i23:i2≠i3
 l1z:l1≠z
 l2z:l2≠z
 l3z:l3≠z
 l2i1:l2≠i1
 l2TO:l2≠TO
 l3i1:l3≠i1
 l3i2:l3≠i2
 l3TO:l3≠TO
section
variable {prog:Program} {w:World} {A:Around} {E:J5} {s:Sh}
def YV {T:Ad} {a b c x:Vl} {k:Nat} {Q:Unit->Sh->Prop} (h:IsTrip s.heap T a b c) (q:∀ h',h'.get? T=some { cls:=.type "tuple",data:=.seq (#[a,b,c].setIfInBounds k x) }->Heap.SameBut T s.heap h'->Q () { s with heap:=h' }) :
  wpAny (model prog w) A (updateSeq T λy=>y.setIfInBounds k x) Q E s:=by
 refine wpAny_updateSeq h rfl (q _ ?_ (Heap.SameBut.update ..)) (by show 3<=sizeLine;decide) (by rw [Array.size_setIfInBounds];show 3<=sizeLine+1;decide);rw [Heap.get?_update_self _ h (by simp [Obj.mapSeq,Obj.isFreed])];simp [Obj.mapSeq]
def z3_item {z TI TO j1 j2 j3 t1 t2 t3:Ad} {k:Nat} {us vs ws:Array Vl} {u v y a b c:Vl} {Q:J5} (D:Apart3 z TI TO j1 j2 j3 t1 t2 t3) (hz:IsZip s.heap z TI TO .none) (hI:IsTrip s.heap TI (.ref j1) (.ref j2) (.ref j3)) (hO:IsTrip s.heap TO a b c)
  (i1:s.heap.IsListIter j1 t1 k) (i2:s.heap.IsListIter j2 t2 k) (i3:s.heap.IsListIter j3 t3 k) (e1:s.heap.IsList t1 us) (e2:s.heap.IsList t2 vs) (e3:s.heap.IsList t3 ws) (hu:us[k]?=some u) (hv:vs[k]?=some v) (hy:ws[k]?=some y)
  (q:∀ g,IsZip g z TI TO (rawInt s.heap.objs.size)->IsTrip g TO u v y->g.IsListIter j1 t1 (k+1)->g.IsListIter j2 t2 (k+1)->g.IsListIter j3 t3 (k+1)->IsTrip g s.heap.objs.size u v y->g.objs.size=s.heap.objs.size+1->(∀ c o,c≠z->c≠TO->c≠j1->c≠j2->c≠j3->s.heap.get? c=some o->g.get? c=some o)->Q (.ref s.heap.objs.size) { s with heap:=g }) :
  wpAny (model prog w) A (Builtin.«zip.__next__» ⟨[.ref z],[]⟩) (λfin s'=>∃ v,fin=.done (.ret v)/\Q v s') E s:=by
 refine q0x (m:=field (.ref z) 2) (wpAny_field hz rfl (x:=.bool false) rfl ?_);refine q0x (m:=field (.ref z) 3) (wpAny_field hz rfl (x:=.ref TI) rfl (q0x (wpAny_seqItems hI rfl ?_)));refine q0x (m:=Builtin.SmallTypes.ownedTupleIsFree (.ref z)) ?_;unfold Builtin.SmallTypes.ownedTupleIsFree;refine q0x (wpAny_field hz rfl (x:=.none) rfl (q0y ?_));simp only [if_true];refine q0x (wpAny_rule (q0x (wpAny_field hz rfl (x:=.ref TO) rfl ?_)));refine q0x (wpAny_setField_rec hz (by simp) λg1 z1 c1=>q0x ?_);replace z1:IsZip g1 z TI TO .ellipsis:=z1;simp only [List.zipIdx_cons,List.zipIdx_nil,List.forIn_cons,List.forIn_nil];refine q0x (q0x (wpAny_onRaise ?_));refine q0x (m:=Builtin.SmallTypes.nextOf (.ref j1)) (wpAny_nextOf_list_item (i1.extBut c1.extBut D.i1z) (e1.extBut c1.extBut D.l1z) hu λg2 n1 c2=>q0y ?_);have o2:IsTrip g2 TO a b c:=c2.extBut _ _ D.TOi1 (c1.extBut _ _ D.TOz hO);refine q0x (wpAny_seqItems o2 rfl (q0x (YV o2 λg3 o3 c3=>?_)));replace o3:IsTrip g3 TO u b c:=o3;refine q0x (wpAny_letGo (q0y (q0x (q0x (wpAny_onRaise ?_)))));have k13:∀ {x:Ad},x≠z->x≠j1->x≠TO->∀ o,s.heap.get? x=some o->g3.get? x=some o:=λd1 d2 d3 o e=>c3.extBut _ _ d3 (c2.extBut _ _ d2 (c1.extBut _ _ d1 e));refine q0x (m:=Builtin.SmallTypes.nextOf (.ref j2)) (wpAny_nextOf_list_item (((i2.extBut c1.extBut D.i2z).extBut c2.extBut D.i12.symm).extBut c3.extBut D.TOi2.symm) (((e2.extBut c1.extBut D.l2z).extBut c2.extBut D.l2i1).extBut c3.extBut D.l2TO) hv λg4 n2 c4=>q0y ?_);have o4:IsTrip g4 TO u b c:=c4.extBut _ _ D.TOi2 o3;refine q0x (wpAny_seqItems o4 rfl (q0x (YV o4 λg5 o5 c5=>?_)));replace o5:IsTrip g5 TO u v c:=o5;refine q0x (wpAny_letGo (q0y (q0x (q0x (wpAny_onRaise ?_)))));refine q0x (m:=Builtin.SmallTypes.nextOf (.ref j3)) (wpAny_nextOf_list_item (((((i3.extBut c1.extBut D.i3z).extBut c2.extBut D.i13.symm).extBut c3.extBut D.TOi3.symm).extBut c4.extBut D.i23.symm).extBut c5.extBut D.TOi3.symm) (((((e3.extBut c1.extBut D.l3z).extBut c2.extBut D.l3i1).extBut c3.extBut D.l3TO).extBut c4.extBut D.l3i2).extBut c5.extBut D.l3TO) hy λg6 n3 c6=>q0y ?_);have o6:IsTrip g6 TO u v c:=c6.extBut _ _ D.TOi3 o5;refine q0x (wpAny_seqItems o6 rfl (q0x (YV o6 λg7 o7 c7=>?_)));replace o7:IsTrip g7 TO u v y:=o7;refine q0x (wpAny_letGo (q0y (q0y (q0x (wpAny_seqItems o7 rfl (q0x (wpAny_newTuple ?_)))))));have sz:g7.objs.size=s.heap.objs.size:=by rw [c7.1,c6.1,c5.1,c4.1,c3.1,c2.1,c1.1]
 have z7:IsZip g7 z TI TO .ellipsis:=c7.extBut _ _ D.TOz.symm (c6.extBut _ _ D.i3z.symm (c5.extBut _ _ D.TOz.symm (c4.extBut _ _ D.i2z.symm (c3.extBut _ _ D.TOz.symm (c2.extBut _ _ D.i1z.symm z1)))));have k7:∀ c o,c≠z->c≠TO->c≠j1->c≠j2->c≠j3->s.heap.get? c=some o->g7.get? c=some o:=λc o d1 d2 d3 d4 d5 e=>c7.extBut _ _ d2 (c6.extBut _ _ d5 (c5.extBut _ _ d2 (c4.extBut _ _ d4 (c3.extBut _ _ d2 (c2.extBut _ _ d3 (c1.extBut _ _ d1 e))))));have m1:g7.IsListIter j1 t1 (k+1):=((((n1.extBut c3.extBut D.TOi1.symm).extBut c4.extBut D.i12).extBut c5.extBut D.TOi1.symm).extBut c6.extBut D.i13).extBut c7.extBut D.TOi1.symm;have m2:g7.IsListIter j2 t2 (k+1):=((n2.extBut c5.extBut D.TOi2.symm).extBut c6.extBut D.i23).extBut c7.extBut D.TOi2.symm;have m3:g7.IsListIter j3 t3 (k+1):=n3.extBut c7.extBut D.TOi3.symm;have zl:z<g7.objs.size:=Heap.lt_size z7;refine q0x (m:=Builtin.SmallTypes.ownedTupleHandOut (.ref z) (.ref g7.objs.size)) ?_;unfold Builtin.SmallTypes.ownedTupleHandOut;have z8:IsZip (g7.push { cls:=.type "tuple",data:=.seq #[u,v,y] }) z TI TO .ellipsis:=Heap.get?_push_of_some _ z7;refine q0x (wpAny_setField_rec z8 (by simp) λg9 z9 c9=>?_);replace z9:IsZip g9 z TI TO (rawInt g7.objs.size):=z9;refine wpAny_setField_rec z9 (by simp) λga za ca=>?_;replace za:IsZip ga z TI TO (rawInt g7.objs.size):=za;have up:∀ c o,c≠z->g7.get? c=some o->ga.get? c=some o:=λc o d e=>ca.extBut _ _ d (c9.extBut _ _ d (Heap.get?_push_of_some _ e));have T8:IsTrip ga g7.objs.size u v y:=ca.extBut _ _ (Nat.ne_of_gt zl) (c9.extBut _ _ (Nat.ne_of_gt zl) (Heap.get?_push_size _ rfl));have s8:ga.objs.size=g7.objs.size+1:=by rw [ca.1,c9.1,Heap.size_push]
 rw [sz] at za T8 s8;refine q0y ⟨_,rfl,?_⟩;show Q (.ref g7.objs.size) _;rw [sz];exact q ga za (up _ _ D.TOz o7) (m1.at λo e=>up _ o D.i1z e) (m2.at λo e=>up _ o D.i2z e) (m3.at λo e=>up _ o D.i3z e) T8 s8 λc o d1 d2 d3 d4 d5 e=>up c o d1 (k7 c o d1 d2 d3 d4 d5 e)
def z3_end {z TI TO j1 j2 j3 t1 t2 t3:Ad} {k:Nat} {us:Array Vl} {a b c:Vl} {Q:Fin->Sh->Prop} (hh:A.handled=none) (D:Apart3 z TI TO j1 j2 j3 t1 t2 t3) (hz:IsZip s.heap z TI TO .none) (hI:IsTrip s.heap TI (.ref j1) (.ref j2) (.ref j3)) (hO:IsTrip s.heap TO a b c)
  (i1:s.heap.IsListIter j1 t1 k) (e1:s.heap.IsList t1 us) (he:us[k]?=none)
  (q:∀ g e,(∀ c o,c≠z->c≠TO->c≠j1->c≠j2->c≠j3->s.heap.get? c=some o->g.get? c=some o)->(∃ o,g.get? e=some o/\o.cls=.type "StopIteration")->E (.ref e) { s with heap:=g }) :
  wpAny (model prog w) A (Builtin.«zip.__next__» ⟨[.ref z],[]⟩) Q E s:=by
 refine q0x (m:=field (.ref z) 2) (wpAny_field hz rfl (x:=.bool false) rfl ?_);refine q0x (m:=field (.ref z) 3) (wpAny_field hz rfl (x:=.ref TI) rfl (q0x (wpAny_seqItems hI rfl ?_)));refine q0x (m:=Builtin.SmallTypes.ownedTupleIsFree (.ref z)) ?_;unfold Builtin.SmallTypes.ownedTupleIsFree;refine q0x (wpAny_field hz rfl (x:=.none) rfl (q0y ?_));simp only [if_true];refine q0x (wpAny_rule (q0x (wpAny_field hz rfl (x:=.ref TO) rfl ?_)));refine q0x (wpAny_setField_rec hz (by simp) λg1 z1 c1=>q0x ?_);replace z1:IsZip g1 z TI TO .ellipsis:=z1;simp only [List.zipIdx_cons,List.zipIdx_nil,List.forIn_cons,List.forIn_nil];refine q0x (q0x (wpAny_onRaise ?_));refine q0x (m:=Builtin.SmallTypes.nextOf (.ref j1)) (wpAny_nextOf_list_end hh (i1.extBut c1.extBut D.i1z) (e1.extBut c1.extBut D.l1z) he λg2 e c2 ⟨oe,ho,hc⟩=>?_);have z2:IsZip g2 z TI TO .ellipsis:=c2 _ _ D.i1z.symm z1;have ne:e≠z:=λx=>by subst x;rw [z2] at ho;cases ho;simp at hc
 exact wpAny_setField_rec z2 (by simp) λg3 _ c3=>q g3 e (λc o d1 _ d3 _ _ x=>c3.extBut _ _ d1 (c2 _ _ d3 (c1.extBut _ _ d1 x))) ⟨oe,c3.extBut _ _ ne ho,hc⟩
def next_z3 {z TI TO j1 j2 j3 t1 t2 t3:Ad} {k:Nat} {us vs ws:Array Vl} {u v y a b c:Vl} {Q:Jc->Sh->Prop} (D:Apart3 z TI TO j1 j2 j3 t1 t2 t3) (hz:IsZip s.heap z TI TO .none) (hI:IsTrip s.heap TI (.ref j1) (.ref j2) (.ref j3)) (hO:IsTrip s.heap TO a b c)
  (i1:s.heap.IsListIter j1 t1 k) (i2:s.heap.IsListIter j2 t2 k) (i3:s.heap.IsListIter j3 t3 k) (e1:s.heap.IsList t1 us) (e2:s.heap.IsList t2 vs) (e3:s.heap.IsList t3 ws) (hu:us[k]?=some u) (hv:vs[k]?=some v) (hy:ws[k]?=some y)
  (q:∀ g,IsZip g z TI TO (rawInt s.heap.objs.size)->IsTrip g TO u v y->g.IsListIter j1 t1 (k+1)->g.IsListIter j2 t2 (k+1)->g.IsListIter j3 t3 (k+1)->IsTrip g s.heap.objs.size u v y->g.objs.size=s.heap.objs.size+1->(∀ c o,c≠z->c≠TO->c≠j1->c≠j2->c≠j3->s.heap.get? c=some o->g.get? c=some o)->Q (some (.ref s.heap.objs.size)) { s with heap:=g }) :
  wpAny (model prog w) A (pyNext (.ref z)) Q E s:=by
 have ty:s.TypeIs (.ref z) "zip":=⟨_,hz,rfl⟩;unfold pyNext;exact q0x (wpAny_attempt (wpAny_callSpecial?_slot (name:=Str.ofString "__next__") ty F.slot_zip_next (wpAny_call_entry F.slot_zip_next ty F.entry_zip_next (z3_item D hz hI hO i1 i2 i3 e1 e2 e3 hu hv hy λg a1 a2 a3 a4 a5 a6 a7 a8=>q0y (q g a1 a2 a3 a4 a5 a6 a7 a8)) (F.args_zip_next_1 _))))
def zbp {z TI TO j1 j2 j3 t1 t2 t3:Ad} {k:Nat} {us:Array Vl} {a b c:Vl} {Q:Jc->Sh->Prop} (hh:A.handled=none) (D:Apart3 z TI TO j1 j2 j3 t1 t2 t3) (hz:IsZip s.heap z TI TO .none) (hI:IsTrip s.heap TI (.ref j1) (.ref j2) (.ref j3)) (hO:IsTrip s.heap TO a b c)
  (i1:s.heap.IsListIter j1 t1 k) (e1:s.heap.IsList t1 us) (he:us[k]?=none)
  (q:∀ g,(∀ c o,c≠z->c≠TO->c≠j1->c≠j2->c≠j3->s.heap.get? c=some o->g.get? c=some o)->Q none { s with heap:=g }):wpAny (model prog w) A (pyNext (.ref z)) Q E s:=by
 have ty:s.TypeIs (.ref z) "zip":=⟨_,hz,rfl⟩;unfold pyNext;refine q0x (wpAny_attempt (wpAny_callSpecial?_slot (name:=Str.ofString "__next__") ty F.slot_zip_next (wpAny_call_entry F.slot_zip_next ty F.entry_zip_next (z3_end hh D hz hI hO i1 e1 he λg e hk ⟨o,ho,hc⟩=>?_) (F.args_zip_next_1 _))));exact q0x (wpAny_isInstance (T:="StopIteration") (b:=true) ⟨o,ho,hc⟩ isSubtype_stop (q0y (q _ hk)))
abbrev z31 (h:Heap) (t1:Ad):Heap:=h.push { cls:=.type "list_iterator",data:=.fields #[.ref t1,.int 0 0] }
abbrev z32 (h:Heap) (t1 t2:Ad):Heap:=(z31 h t1).push { cls:=.type "list_iterator",data:=.fields #[.ref t2,.int 0 0] }
abbrev z33 (h:Heap) (t1 t2 t3:Ad):Heap:=(z32 h t1 t2).push { cls:=.type "list_iterator",data:=.fields #[.ref t3,.int 0 0] }
abbrev z34 (h:Heap) (t1 t2 t3:Ad):Heap:=(z33 h t1 t2 t3).push { cls:=.type "tuple",data:=.seq #[.ref h.objs.size,.ref (z31 h t1).objs.size,.ref (z32 h t1 t2).objs.size] }
abbrev z35 (h:Heap) (t1 t2 t3:Ad):Heap:=(z34 h t1 t2 t3).push { cls:=.type "tuple",data:=.seq #[.none,.none,.none] }
abbrev z36 (h:Heap) (t1 t2 t3:Ad):Heap:=(z35 h t1 t2 t3).push { cls:=.type "zip",data:=.fields #[.none,.bool false,.bool false,.ref (z33 h t1 t2 t3).objs.size,.ref (z34 h t1 t2 t3).objs.size] }
def meets_z3 (t1 t2 t3:Ad) (us vs ws:Array Vl):Meets (Builtin.«zip.__new__» ⟨[.type "zip",.ref t1,.ref t2,.ref t3],[]⟩) (λ_ R s=>s.heap.IsList t1 us/\s.heap.IsList t2 vs/\s.heap.IsList t3 ws/\R (.ok (.ret (.ref (z35 s.heap t1 t2 t3).objs.size))) { s with heap:=z36 s.heap t1 t2 t3 }) :=
 .of_wp λprog w A R s h=>by
  obtain ⟨hp,g,d,tk,os⟩:=s;obtain ⟨x1,x2,x3,h⟩:=h;have hsub:=sub_zip;have y1:Heap.IsList (Shared.heap ⟨hp,g,d,tk,os⟩) t1 us:=x1;have y2:Heap.IsList (Shared.heap ⟨hp.push { cls:=.type "list_iterator",data:=.fields #[.ref t1,.int 0 0] },g,d,tk,os⟩) t2 vs:=Heap.IsList.push x2 _;have y3:Heap.IsList (Shared.heap ⟨(hp.push { cls:=.type "list_iterator",data:=.fields #[.ref t1,.int 0 0] }).push { cls:=.type "list_iterator",data:=.fields #[.ref t2,.int 0 0] },g,d,tk,os⟩) t3 ws:=Heap.IsList.push (Heap.IsList.push x3 _) _
  wp_walk using wpAny_pyIter_list y1,wpAny_pyIter_list y2,wpAny_pyIter_list y3
  exact ⟨_,rfl,h⟩
def call_z3 {t1 t2 t3:Ad} {us vs ws:Array Vl} {Q:J5} (x1:s.heap.IsList t1 us) (x2:s.heap.IsList t2 vs) (x3:s.heap.IsList t3 ws)
  (q:∀ g,IsZip g (s.heap.objs.size+5) (s.heap.objs.size+3) (s.heap.objs.size+4) .none->IsTrip g (s.heap.objs.size+3) (.ref s.heap.objs.size) (.ref (s.heap.objs.size+1)) (.ref (s.heap.objs.size+2))->IsTrip g (s.heap.objs.size+4) .none .none .none->g.IsListIter s.heap.objs.size t1 0->g.IsListIter (s.heap.objs.size+1) t2 0->g.IsListIter (s.heap.objs.size+2) t3 0->(∀ c o,s.heap.get? c=some o->g.get? c=some o)->Q (.ref (s.heap.objs.size+5)) { s with heap:=g }) :
  wpAny (model prog w) A (call (.type "zip") [.ref t1,.ref t2,.ref t3]) Q E s:=by
 refine callType_new F.called_zip (by decide) (by rfl) (by with_unfolding_all rfl) (λobj=>by rfl) F.entry_zip_new (meets_z3 t1 t2 t3 us vs ws) ⟨x1,x2,x3,?_⟩;have z1:(z31 s.heap t1).objs.size=s.heap.objs.size+1:=Heap.size_push ..;have z2:(z32 s.heap t1 t2).objs.size=s.heap.objs.size+2:=by rw [Heap.size_push,z1]
 have z3:(z33 s.heap t1 t2 t3).objs.size=s.heap.objs.size+3:=by rw [Heap.size_push,z2]
 have z4:(z34 s.heap t1 t2 t3).objs.size=s.heap.objs.size+4:=by rw [Heap.size_push,z3]
 have z5:(z35 s.heap t1 t2 t3).objs.size=s.heap.objs.size+5:=by rw [Heap.size_push,z4]
 have up:∀ {h:Heap} {c:Ad} {o o':Obj},h.get? c=some o->(h.push o').get? c=some o:=λe=>Heap.get?_push_of_some _ e;have g6:(z36 s.heap t1 t2 t3).get? (z35 s.heap t1 t2 t3).objs.size=some _:=Heap.get?_push_size _ rfl;have g5:(z36 s.heap t1 t2 t3).get? (z34 s.heap t1 t2 t3).objs.size=some _:=up (Heap.get?_push_size _ rfl);have g4:(z36 s.heap t1 t2 t3).get? (z33 s.heap t1 t2 t3).objs.size=some _:=up (up (Heap.get?_push_size _ rfl));have g3:(z36 s.heap t1 t2 t3).get? (z32 s.heap t1 t2).objs.size=some _:=up (up (up (Heap.get?_push_size _ rfl)));have g2:(z36 s.heap t1 t2 t3).get? (z31 s.heap t1).objs.size=some _:=up (up (up (up (Heap.get?_push_size _ rfl))));have g1:(z36 s.heap t1 t2 t3).get? s.heap.objs.size=some _:=up (up (up (up (up (Heap.get?_push_size _ rfl)))));show _/\_;rw [z3,z4,z5] at g6;rw [z1,z2,z3] at g4;rw [z4] at g5;rw [z2] at g3;rw [z1] at g2;rw [z5];exact ⟨⟨_,g6,rfl⟩,q _ g6 g4 g5 ⟨_,g1,rfl,rfl⟩ ⟨_,g2,rfl,rfl⟩ ⟨_,g3,rfl,rfl⟩ λc o x=>up (up (up (up (up (up x)))))⟩
end
def Itz3 (K:Fg) (l1 l2 l3:Ad):It :=
  ⟨λi H=>∃ xs ys zs x y z,SqL K H l1 xs/\SqL K H l2 ys/\SqL K H l3 zs/\xs[i]?=some x/\ys[i]?=some y/\zs[i]?=some z,
   λi H x H'=>∃ T u v w,x=.ref T/\H T=none/\H'=upd H T (.tup [u,v,w])/\∀ xs ys zs,SqL K H l1 xs->SqL K H l2 ys->SqL K H l3 zs->xs[i]?=some u/\ys[i]?=some v/\zs[i]?=some w,
   λi H=>∃ xs,SqL K H l1 xs/\xs.length<=i⟩
def zcp {P:Program} {w:World} {A:Around} {E:J5} {s:Sh} {es:Jf} {kt:Nat} {pos:Pos} {z TI TO T:Ad} {Q:Unit->Sh->Prop} (hz:IsZip s.heap z TI TO (rawInt T)) (q:∀ h',IsZip h' z TI TO .none->Heap.SameBut z s.heap h'->Q () { s with heap:=h' }) :
  wpAny (model P w) A (letOwnedTupleGo (.Tuple es kt pos) (.ref z) (.ref T)) Q E s:=wpAny_letOwnedTupleGo_zip hz q
def turn_z3 {P:Program} {w:World} {K:Fg} {es:Jf} {kt:Nat} {pos:Pos} {z TI TO i1 i2 i3 l1 l2 l3:Ad} (D:Apart3 z TI TO i1 i2 i3 l1 l2 l3) :
  Turn P w K (.Tuple es kt pos) (Itz3 K l1 l2 l3) [z,TI,TO,i1,i2,i3] z (λi h=>IsZip h z TI TO .none/\IsTrip h TI (.ref i1) (.ref i2) (.ref i3)/\(∃ a b c,IsTrip h TO a b c)/\h.IsListIter i1 l1 i/\h.IsListIter i2 l2 i/\h.IsListIter i3 l3 i) where
 mem:=by simp
 obj:=λi h st b hb=>by
  obtain ⟨hz,hI,⟨a,b',c',hO⟩,⟨o1,e1,c1,d1⟩,⟨o2,e2,c2,d2⟩,⟨o3,e3,c3,d3⟩⟩:=st;simp at hb;rcases hb with rfl | rfl | rfl | rfl | rfl | rfl
  ·exact ⟨_,hz,λv q=>by cases q⟩
  ·exact ⟨_,hI,λv q=>by cases q⟩
  ·exact ⟨_,hO,λv q=>by cases q⟩
  ·exact ⟨_,e1,λv q=>by rw [d1] at q;cases q⟩
  ·exact ⟨_,e2,λv q=>by rw [d2] at q;cases q⟩
  ·exact ⟨_,e3,λv q=>by rw [d3] at q;cases q⟩
 keep:=λi h h' st k=>by
  obtain ⟨hz,hI,⟨a,b',c',hO⟩,h1,h2,h3⟩:=st;exact ⟨k z (by simp) _ hz,k TI (by simp) _ hI,⟨a,b',c',k TO (by simp) _ hO⟩,h1.at λo e=>k i1 (by simp) o e,h2.at λo e=>k i2 (by simp) o e,h3.at λo e=>k i3 (by simp) o e⟩
 item:=by
  intro X hP hw hK hc i pins s σ H E I hf st hg;subst hP hw hK;obtain ⟨hz,hI,⟨a,b',c',hO⟩,h1,h2,h3⟩:=st;obtain ⟨xs,ys,zs,x,y,z',q1,q2,q3,ex,ey,ez⟩:=hg;obtain ⟨is1,r1,p1,_⟩:=I.list q1;obtain ⟨is2,r2,p2,_⟩:=I.list q2;obtain ⟨is3,r3,p3,_⟩:=I.list q3;obtain ⟨u,hu,ru⟩:=r1.get ex;obtain ⟨v,hv,rv⟩:=r2.get ey;obtain ⟨t,ht,rt⟩:=r3.get ez;refine next_z3 D hz hI hO h1 h2 h3 p1.isList p2.isList p3.isList (u:=u) (v:=v) (y:=t) (by simpa using hu) (by simpa using hv) (by simpa using ht) λh1' a1 a2 a3 a4 a4' a5 a6 hk=>?_;refine ⟨_,rfl,zcp (s:={ s with heap:=h1' }) a1 λh2' z'' sb=>?_⟩;have lt:∀ {c:Ad} {o:Obj},s.heap.get? c=some o->c≠s.heap.objs.size:=λe=>Nat.ne_of_lt (Heap.lt_size e);have Tz:s.heap.objs.size≠z:=(lt hz).symm;have fr:=I.hok.fresh (Nat.le_refl _);refine ⟨.ref s.heap.objs.size,upd H s.heap.objs.size (.tup [x,y,z']),I.turnedT (its:=[z,TI,TO,i1,i2,i3]) (t':=s.toks) (λb o nb e=>?_) hf (Nat.le_refl _) ⟨by show 3<=sizeLine;decide,[u,v,t],.cons ru (.cons rv (.cons rt .nil)),_,sb.extBut _ _ Tz a5,rfl,_,rfl⟩,rfl,⟨s.heap.objs.size,x,y,z',rfl,fr,rfl,λxs' ys' zs' q1' q2' q3'=>?_⟩,?_,λb hb=>?_⟩
  ·have nb':b≠z/\b≠TI/\b≠TO/\b≠i1/\b≠i2/\b≠i3:=by simpa using nb
   exact sb.extBut _ _ nb'.1 (hk b o nb'.1 nb'.2.2.1 nb'.2.2.2.1 nb'.2.2.2.2.1 nb'.2.2.2.2.2 e)
  ·rw [I.list_inj q1' q1,I.list_inj q2' q2,I.list_inj q3' q3];exact ⟨ex,ey,ez⟩
  ·exact ⟨z'',sb.extBut _ _ D.TIz (hk _ _ D.TIz D.TITO D.TIi1 D.TIi2 D.TIi3 hI),⟨_,_,_,sb.extBut _ _ D.TOz a2⟩,a3.extBut sb.extBut D.i1z,a4.extBut sb.extBut D.i2z,a4'.extBut sb.extBut D.i3z⟩
  ·have e:=(hf b hb).1
   have:∃ o,s.heap.get? b=some o:=by
    simp at hb;rcases hb with rfl | rfl | rfl | rfl | rfl | rfl
    ·exact ⟨_,hz⟩
    ·exact ⟨_,hI⟩
    ·exact ⟨_,hO⟩
    ·obtain ⟨o,e,_⟩:=h1;exact ⟨o,e⟩
    ·obtain ⟨o,e,_⟩:=h2;exact ⟨o,e⟩
    ·obtain ⟨o,e,_⟩:=h3;exact ⟨o,e⟩
   obtain ⟨o,eo⟩:=this;rw [zj (lt eo)];exact e
 done:=by
  intro X hP hw hK hc i pins s σ H E I hf st hg;subst hP hw hK;obtain ⟨hz,hI,⟨a,b',c',hO⟩,h1,h2,h3⟩:=st;obtain ⟨xs,q1,le⟩:=hg;obtain ⟨is1,r1,p1,_⟩:=I.list q1;have g1:=r1.length;refine zbp (I.ok.hd hc) D hz hI hO h1 p1.isList (by simp;omega) λh1' hk=>⟨rfl,I.turnedL (its:=[z,TI,TO,i1,i2,i3]) (t':=s.toks) (λb o nb e=>?_) hf⟩;have nb':b≠z/\b≠TI/\b≠TO/\b≠i1/\b≠i2/\b≠i3:=by simpa using nb
  exact hk b o nb'.1 nb'.2.2.1 nb'.2.2.2.1 nb'.2.2.2.2.1 nb'.2.2.2.2.2 e
 self:=λ_ _ _ _ _ st h=>wpAny_pyIter_zip st.1 h
section
variable {X:Cx} {es:Jf} {kt:Nat} {tp:Pos}
inductive iZip3_S (K:Fg) (R:(It->Hp->Prop)) (vs:Jl) (H1:Hp):Prop
 | mk (l1 l2 l3:_) (_:vs=[.ref l1,.ref l2,.ref l3]) (_:(∃ xs,SqL K H1 l1 xs)) (_:(∃ ys,SqL K H1 l2 ys)) (_:(∃ zs,SqL K H1 l3 zs)) (_:R (Itz3 K l1 l2 l3) H1)
def iZip3 (K:Fg) (ta:TA):TI:=λσ H R=>ta σ H λvs H1=>iZip3_S K R vs H1
theorem vals3 {x y z:V} {us:Jb} (r:Vals [x,y,z] us):∃ u v t,us=[u,v,t]/\RelV x u/\RelV y v/\RelV z t:=by
 cases r with
 | cons ru r =>
  cases r with
  | cons rv r =>
   cases r with
   | cons rt r=>cases r;exact ⟨_,_,_,rfl,ru,rv,rt⟩
def zcx {n l1 l2 l3:Nat} (h1:l1<n) (h2:l2<n) (h3:l3<n):Apart3 (n+5) (n+3) (n+4) n (n+1) (n+2) l1 l2 l3 :=
 have lt:∀ {a b:Nat},a<b->n+a≠n+b:=λh=>Nat.ne_of_lt (Nat.add_lt_add_left h n);have gt:∀ {a b:Nat},b<a->n+a≠n+b:=λh=>Nat.ne_of_gt (Nat.add_lt_add_left h n);have l:∀ {a:Nat},a<n->∀ k,a≠n+k:=λh k=>Nat.ne_of_lt (q2z h (Nat.le_add_right _ _))
 ⟨lt (by decide),lt (by decide),lt (by decide),lt (a:=0) (by decide),lt (by decide),lt (by decide),gt (b:=0) (by decide),gt (by decide),gt (by decide),gt (b:=0) (by decide),gt (by decide),gt (by decide),lt (a:=0) (by decide),lt (a:=0) (by decide),lt (by decide),l h1 5,l h2 5,l h3 5,l h2 0,l h2 4,l h3 0,l h3 1,l h3 4⟩
def pi_zip3 {a b c:Expr} {ta:TA} {p pos:Pos} (hg:Gl X "zip") (hm:X.mg "zip"=none) (ha:PA X [a,b,c] ta) (hs:starEach [a,b,c] X.env=[(false,eval a X.env),(false,eval b X.env),(false,eval c X.env)]:=by rfl)
  (hs2:starEach [b,c] X.env=[(false,eval b X.env),(false,eval c X.env)]:=by rfl):PI X (.Tuple es kt tp) (.Call (.Name "zip" p) [a,b,c] [] pos) (iZip3 X.K ta):=by
 intro pins s σ H R I h;refine Call_ (Zb I hg hm boot_zip (PyProof.Rows.callWith_type1 (thn (ha pos pins s σ H _ I h) λus s1 ⟨vs,H1,I1,r1,q1⟩=>?_) (by rw [hs,hs2]) (by rw [hs2];rfl)));obtain ⟨l1,l2,l3,e,⟨xs,x1⟩,⟨ys,x2⟩,⟨zs,x3⟩,q⟩:=q1;subst e;obtain ⟨u,v,t,rfl,ru,rv,rt⟩:=vals3 r1;cases (show u=Value.ref l1 from ru);cases (show v=Value.ref l2 from rv);cases (show t=Value.ref l3 from rt);obtain ⟨is1,g1,p1,_⟩:=I1.list x1;obtain ⟨is2,g2,p2,_⟩:=I1.list x2;obtain ⟨is3,g3,p3,_⟩:=I1.list x3;have L1:l1<s1.heap.objs.size:=by obtain ⟨_,e,_⟩:=p1.isList;exact Heap.lt_size e
 have L2:l2<s1.heap.objs.size:=by obtain ⟨_,e,_⟩:=p2.isList;exact Heap.lt_size e
 have L3:l3<s1.heap.objs.size:=by obtain ⟨_,e,_⟩:=p3.isList;exact Heap.lt_size e
 refine call_z3 p1.isList p2.isList p3.isList λh' a1 a2 a3 a4 a5 a6 hk=>?_;refine wpAny_pyIter_zip (s:={ s1 with heap:=h' }) a1 ?_;have J:Inv X pins σ H1 { s1 with heap:=h' }:=I1.kept (t':=s1.toks) λb o e=>hk b o e;have fp:∀ n,Zh X pins H1 (s1.heap.objs.size+n):=λn=>I1.fpOk (Nat.le_add_right _ _) (I1.hok.fresh (Nat.le_add_right _ _));refine ⟨_,_,_,_,H1,rfl,J,turn_z3 (zcx L1 L2 L3),⟨a1,a2,⟨_,_,_,a3⟩,a4,a5,a6⟩,λb hb=>?_,q⟩;simp at hb;rcases hb with rfl | rfl | rfl | rfl | rfl | rfl
 ·exact fp 5
 ·exact fp 3
 ·exact fp 4
 ·exact fp 0
 ·exact fp 1
 ·exact fp 2
end
def comp_zip3 {K:Fg} {l1 l2 l3 D:Ad} {xs ys zs:Jl} {g:TG} {te:TE} {σY:St} {H1:Hp} {Q:VK} (Pv:Nat->St->Hp->Prop) (h0:Pv 0 σY H1) (hl:∀ i σ H,i<=xs.length->Pv i σ H->SqL K H l1 xs/\SqL K H l2 ys/\SqL K H l3 zs) (he:ys.length=xs.length) (he3:zs.length=xs.length)
  (hs:∀ i x y z σ H T,xs[i]?=some x->ys[i]?=some y->zs[i]?=some z->Pv i σ H->H T=none->g (.ref T) σ (upd H T (.tup [x,y,z])) λσ3 H3=>te σ3 H3 λv H4=>∃ ws,H4 D=some (.lst ws)/\ws.length<sizeLine/\Pv (i+1) σ3 (upd H4 D (.lst (ws++[v])))) (hd:∀ σ H,Pv xs.length σ H->Q (.ref D) H) :
  CompW (Itz3 K l1 l2 l3) g te σY H1 D Q:=by
 refine ⟨λi m σ H=>m=xs.length-i/\i<=xs.length/\Pv i σ H,⟨xs.length,by simp,Nat.zero_le _,h0⟩,?_⟩;rintro i m σ H ⟨rfl,hi,p⟩;obtain ⟨q1,q2,q3⟩:=hl i σ H hi p;by_cases hlt:i<xs.length
 ·refine .inr ⟨⟨xs,ys,zs,xs[i],ys[i],zs[i],q1,q2,q3,by simp [hlt],by simp [he,hlt],by simp [he3,hlt]⟩,Pv (i+1),λσ' H' p'=>⟨xs.length-(i+1),by omega,rfl,hlt,p'⟩,λx H' y=>?_⟩
  obtain ⟨T,u,v,w,e,nT,e',y⟩:=y;subst e e';obtain ⟨y1,y2,y3⟩:=y xs ys zs q1 q2 q3;exact hs i u v w σ H T y1 y2 y3 p nT
 ·have e:i=xs.length:=by omega
  subst e;exact .inl ⟨⟨xs,q1,Nat.le_refl _⟩,hd σ H p⟩
end L2
namespace L2
open PySem
namespace Hd
def over {B J J2:Hp} {L:Jk} (h:Hd B L J) (s:Same J J2):∃ B2,Same B B2/\Hd B2 L J2/\∀ a o,J2 a=some o->a ∉ L.map Prod.fst->B2 a=some o:=by
 classical
 refine ⟨λa=>if a∈L.map Prod.fst then none else J2 a,λa o e=>?_,⟨h.nd,λp q=>?_,λp q=>s _ _ (h.st p q),λa o e=>?_⟩,λa o e n=>?_⟩
 ·have na:a ∉ L.map Prod.fst:=λm=>by
   obtain ⟨p,hp,rfl⟩:=List.mem_map.mp m;rw [h.nw p hp] at e;cases e
  show (if _ then _ else _)=_;rw [if_neg na];exact s _ _ (h.sm _ _ e)
 ·show (if _ then _ else _)=_
  rw [if_pos (List.mem_map_of_mem q)]
 ·have e:(if a∈L.map Prod.fst then none else J2 a)=some o:=e
  split at e
  ·cases e
  ·exact e
 ·show (if _ then _ else _)=_
  rw [if_neg n];exact e
end Hd
def ye {H X:Hp} {t:Ad} {o:HO} (h:upd H t o=X) (n:H t=none):Same H X/\X t=some o:=by
 subst h;exact ⟨zn (Same.refl _) n,zh⟩
def hdN {H X:Hp} {l:Ad} {o:HO} (h:upd H l o=X) (n:H l=none):Hd H [(l,o)] X:=by
 subst h;exact Hd.base.new n
def hdG {B H X:Hp} {L:Jk} {t:Ad} {o:HO} (m:Hd B L H) (h:upd H t o=X) (n:H t=none):∃ B',Same B B'/\B' t=some o/\Hd B' L X:=by
 subst h;exact ⟨_,zn (Same.refl _) (m.free n),zh,m.grow n⟩
end L2
namespace L2
open PySem PySem.Spec PyProof.Rows
structure PB (X:Cx) (sts:List Stmt) (t:TS):Prop where
 h:PSs X sts t
structure PW1 (X:Cx) (st:Stmt) (t:TS):Prop where
 h:PS X st t
section
variable {X:Cx} {st:Stmt} {rest:List Stmt} {t u:TS}
end
section
variable {P:Program} {w:World} {K:Fg} {mg:J0} {base:Heap}
end
end L2
namespace K41
open PySem L2
abbrev rq (a:Ad):Jm:=some (.ref a)
abbrev iq (n:Int):Jm:=some (.int n)
def top (i:Nat):Stmt:=PySem.Challenge.pw_rowbreadth_k41_turns_within_turns.main.body.getD i (.Pass ⟨0,0,0,0⟩)
abbrev Zi:Stmt:=top 6
def za8:FnScope ["lengths","row"] ["lengths","row"] (zg Zi):=scK
abbrev zal:Stmt:=top 17
def sc_kept:FnScope ["number"] ["number"] (zg zal):=scK
abbrev zak:Stmt:=top 18
def sc_plus:FnScope ["left","right"] ["left","right"] (zg zak):=scK
abbrev YK:Stmt:=top 19
def sc_minus:FnScope ["left","right"] ["left","right"] (zg YK):=scK
abbrev YJ:Stmt:=top 20
def sc_times:FnScope ["left","right"] ["left","right"] (zg YJ):=scK
abbrev yS:Stmt:=top 21
def Yo:FnScope ["right"] ["right"] (zg yS):=scK
abbrev Zj:Stmt:=top 22
def za9:FnScope ["left","right"] ["left","right"] (zg Zj):=scK
abbrev xU:Stmt:=top 23
def zaf:FnScope ["left","right"] ["left","right"] (zg xU):=scK
abbrev Z4:Stmt:=top 24
def sc_lesser:FnScope ["left","right"] ["left","right"] (zg Z4):=scK
abbrev ZC:Stmt:=top 25
def zcb:FnScope ["left","right"] ["left","right"] (zg ZC):=scK
abbrev ZB:Stmt:=top 26
def zca:FnScope ["left","right"] ["left","right"] (zg ZB):=scK
abbrev Zm:Stmt:=top 27
def zbb:FnScope ["left","right"] ["left","right"] (zg Zm):=scK
abbrev xa:Stmt:=top 28
def YG:FnScope ["left","right"] ["left","right"] (zg xa):=scK
abbrev yJ:Stmt:=top 29
def Z3:FnScope ["left","right"] ["left","right"] (zg yJ):=scK
abbrev xr:Stmt:=top 30
def Y3:FnScope ["left","right"] ["left","right"] (zg xr):=scK
abbrev zam:Stmt:=top 36
def sc_done:FnScope ["sign","left","right"] ["sign","left","right"] (zg zam):=scK
abbrev xH:Stmt:=top 47
def sc_lay_chosen:FnScope ["bench","step","nought","active","numbers","lane","number"] ["bench","step","nought"] (zg xH):=scK
abbrev xq:Stmt:=top 48
def Y2:FnScope ["bench","step"] ["bench","step"] (zg xq):=scK
abbrev xF:Stmt:=top 49
def XG:FnScope ["bench","step"] ["bench","step"] (zg xF):=scK
abbrev xD:Stmt:=top 51
def sc_play_store:FnScope ["bench","step","active","lane","number"] ["bench","step"] (zg xD):=scK
abbrev Zk:Stmt:=top 58
def zba:FnScope ["bench","step"] ["bench","step"] (zg Zk):=scK
abbrev xI:Stmt:=top 60
def XI:FnScope ["word"] ["word"] (zg xI):=scK
abbrev xp:Stmt:=top 61
def Y1:FnScope ["bench","step"] ["bench","step"] (zg xp):=scK
abbrev yy:Stmt:=top 63
def ZO:FnScope ["bench","step","active"] ["bench","step","active"] (zg yy):=scK
abbrev yH:Stmt:=top 65
def sc_numbers_loaded:FnScope ["bench","step","active","lane"] ["bench","step","active"] (zg yH):=scK
abbrev yT:Stmt:=top 71
def Yp:FnScope ["bench","sign","left","right","lane"] ["bench","sign","left","right","lane"] (zg yT):=scK
abbrev yI:Stmt:=top 72
def sc_numbers_joined:FnScope ["bench","step","active","lefts","rights","left","right","lane"] ["bench","step","active"] (zg yI):=scK
abbrev xX:Stmt:=top 77
def zag:FnScope ["word"] ["word"] (zg xX):=scK
abbrev yG:Stmt:=top 78
def sc_play_seat_step:FnScope ["bench","step","active"] ["bench","step"] (zg yG):=scK
abbrev xG:Stmt:=top 80
def XH:FnScope ["bench","step"] ["bench","step"] (zg xG):=scK
abbrev xW:Stmt:=top 81
def sc_play_next:FnScope ["bench","step","base"] ["bench","step"] (zg xW):=scK
abbrev xC:Stmt:=top 82
def XD:FnScope ["bench","step"] ["bench","step"] (zg xC):=scK
abbrev xE:Stmt:=top 83
def XF:FnScope ["bench","step"] ["bench","step"] (zg xE):=scK
abbrev xV:Stmt:=top 84
def sc_play_till:FnScope ["bench","step","turns","count"] ["bench","step"] (zg xV):=scK
abbrev y9:Stmt:=top 86
def YF:FnScope ["bench","step"] ["bench","step"] (zg y9):=scK
abbrev s_ran:Stmt:=top 87
def sc_ran:FnScope ["code","lengths","cells","lanes","dust","picks","bench"] ["code","lengths","cells","lanes","dust","picks"] (zg s_ran):=scK
abbrev xY:Stmt:=top 89
def zah:FnScope ["_law_script","_law_k"] ["_law_script","_law_k"] (zg xY):=scK
abbrev Z5:Stmt:=top 90
def sc_l_some:FnScope ["_law_script","_law_k","_law_salt","_law_many","_law_cell","_law_mixed"] ["_law_script","_law_k","_law_salt","_law_many"] (zg Z5):=scK
abbrev Zl:Stmt:=top 91
def sc_l_number:FnScope ["_law_script","_law_k","_law_cell","_law_mixed"] ["_law_script","_law_k"] (zg Zl):=scK
abbrev xP:Stmt:=top 92
def sc_l_alike:FnScope ["_law_found","_law_due","_law_one","_law_other"] ["_law_found","_law_due"] (zg xP):=scK
abbrev Zz:Stmt:=top 93
def zb8:FnScope ["_law_cell"] ["_law_cell"] (zg Zz):=scK
abbrev ZA:Stmt:=top 94
def zb9:FnScope ["_law_script","_law_k","_law_salt"] ["_law_script","_law_k","_law_salt"] (zg ZA):=scK
abbrev Z7:Stmt:=top 95
def sc_l_dust:FnScope ["_law_script","_law_k","_law_salt","_law_j"] ["_law_script","_law_k","_law_salt"] (zg Z7):=scK
abbrev YL:Stmt:=top 96
def sc_l_ran:FnScope ["_law_code_here","_law_lengths","_law_cells","_law_lanes_here","_law_dust_here","_law_picks","_law_handed","_law_found"] ["_law_code_here","_law_lengths","_law_cells","_law_lanes_here","_law_dust_here","_law_picks"] (zg YL):=scK
abbrev Zy:Stmt:=top 97
def sc_l_level:FnScope ["_law_script","_law_j","_law_deep","_law_period","_law_most","_law_look_here","_law_quiet"] ["_law_script","_law_j","_law_deep"] (zg Zy):=scK
abbrev Z6:Stmt:=top 98
def sc_l_look:FnScope ["_law_level_here","_law_many","_law_group_here","_law_p","_law_q","_law_code_here"] ["_law_level_here","_law_many","_law_group_here","_law_p","_law_q"] (zg Z6):=scK
abbrev Ze:Stmt:=top 99
def sc_l_code:FnScope ["_law_levels","_law_lengths","_law_group_here","_law_p","_law_q","_law_level_here","_law_many","_law_code_here"] ["_law_levels","_law_lengths","_law_group_here","_law_p","_law_q"] (zg Ze):=scK
abbrev xi:Stmt:=top 100
def sc_l_played:FnScope ["_law_levels","_law_lengths","_law_due","_law_flag","_law_level_here","_law_start","_law_turns","_law_k","_law_refusal"] ["_law_levels","_law_lengths","_law_due","_law_flag"] (zg xi):=scK
abbrev Y5:Stmt:=top 101
def sc_law:FnScope ["_law_script","_law_deep","_law_levels","_law_j","_law_lengths","_law_cells","_law_k","_law_cell","_law_lanes_here","_law_group_here","_law_p","_law_q","_law_code_here","_law_due","_law_flag","_law_refusal","_law_found"] ["_law_script"] (zg Y5):=scK
abbrev xK:Stmt:=yo (top 2) 0
def XJ:FnScope ["self","lanes"] ["self","lanes"] (zg xK):=scK
abbrev yU:Stmt:=yo (top 2) 1
def Yq:FnScope ["self","group","seat","lane"] ["self","group","seat","lane"] (zg yU):=scK
abbrev x0:Stmt:=yo (top 2) 2
def zaj:FnScope ["self","group","seat","lane","number"] ["self","group","seat","lane","number"] (zg x0):=scK
abbrev yz:Stmt:=yo (top 2) 3
def ZP:FnScope ["self","group","seat","lane"] ["self","group","seat","lane"] (zg yz):=scK
abbrev xZ:Stmt:=yo (top 4) 0
def zai:FnScope ["self","numbers"] ["self","numbers"] (zg xZ):=scK
abbrev xJ:Stmt:=yo (top 4) 1
def sc_Feed_taken:FnScope ["self","number"] ["self"] (zg xJ):=scK
abbrev xL:Stmt:=yo (top 10) 0
def sc_Bench_init:FnScope ["self","lengths","cells","lanes","dust","picks","row","mask"] ["self","lengths","cells","lanes","dust","picks"] (zg xL):=scK
abbrev yu:Stmt:=yo (top 10) 1
def sc_Bench_open_round:FnScope ["self","many","group"] ["self","many","group"] (zg yu):=scK
abbrev yn:Stmt:=yo (top 10) 2
def sc_Bench_begin_strip:FnScope ["self","base"] ["self","base"] (zg yn):=scK
abbrev yf:Stmt:=yo (top 10) 3
def sc_Bench_active_under:FnScope ["self","mask","truths","lane"] ["self","mask"] (zg yf):=scK
abbrev yv:Stmt:=yo (top 10) 4
def sc_Bench_numbers_in:FnScope ["self","seat","active","lane"] ["self","seat","active"] (zg yv):=scK
abbrev yK:Stmt:=yo (top 10) 5
def sc_Bench_lay_seat:FnScope ["self","seat","active","numbers","told","lane","number"] ["self","seat","active","numbers"] (zg yK):=scK
abbrev yL:Stmt:=yo (top 10) 6
def sc_Bench_lay_mask:FnScope ["self","mask","chosen","truths","lane"] ["self","mask","chosen"] (zg yL):=scK
abbrev xt:Stmt:=yo (top 10) 7
def Y4:FnScope ["self","kind","address"] ["self","kind","address"] (zg xt):=scK
abbrev yA:Stmt:=yo (top 10) 8
def sc_Bench_read_cell:FnScope ["self","row","place","address"] ["self","row","place"] (zg yA):=scK
abbrev yt:Stmt:=yo (top 10) 9
def sc_Bench_write_cell:FnScope ["self","row","place","number","address"] ["self","row","place","number"] (zg yt):=scK
section
variable {P:Program} {w:World} {K:Fg} {mg:J0} {base:Heap}
abbrev Kin (x:Int):Prop:=-9223372036854775808<=x/\x<=9223372036854775807
def kept (n:Int):Int:=(n+9223372036854775808) % (2*9223372036854775808)-9223372036854775808
def ok_kept {t:Tok} (d:zk K mg "kept" zal ["number"]) (hH:mg "HALF"=some (.int 9223372036854775808 t)):Ok P w K mg base (CXe P w base) 1 "kept" ["number"] (sp1 λn=>.int (kept n)):=by
 obtain ⟨f,fd,m,F,b⟩:=d;refine ⟨f,fd,m,F.kp,b,F.okE sc_kept len1 λcdv A outer s H vs Q E hr h=>?_⟩;obtain ⟨n,rfl,k⟩:=h;refine ⟨_,zf (zo (zi Zo (zi yD (zi zB (pv 0) (ZE hH)) (zi yq zc (ZE hH))) (ZE hH))),?_⟩;exact ⟨_,rfl,_,_,rfl,rfl,_,_,rfl,rfl,.inl ⟨by decide,by decide⟩,_,_,rfl,rfl,(by show (0:Int)<2*9223372036854775808;decide),_,_,rfl,rfl,k⟩
abbrev GK (P:Program) (w:World) (K:Fg) (mg:J0) (base:Heap):Prop:=Ok P w K mg base (CXe P w base) 1 "kept" ["number"] (sp1 λn=>.int (kept n))
def ok_plus (d:zk K mg "plus" zak ["left","right"]) (G:GK P w K mg base):Ok P w K mg base (CXe P w base) 2 "plus" ["left","right"] (sp2 (λ_ _=>True) λa b=>kept (a+b)):=by
 obtain ⟨f,fd,m,F,b⟩:=d;refine ⟨f,fd,m,F.kp,b,F.okE sc_plus len2 λcdv A outer s H vs Q E hr h=>?_⟩;obtain ⟨x,y,rfl,_,k⟩:=h;refine ⟨_,zf (zo (zH G hr rfl Xf (zb (zi zB (pv 0) (pv 1)) ze))),?_⟩;exact ⟨_,rfl,_,rfl,_,_,rfl,rfl,_,rfl,k⟩
def ok_minus (d:zk K mg "minus" YK ["left","right"]) (G:GK P w K mg base):Ok P w K mg base (CXe P w base) 2 "minus" ["left","right"] (sp2 (λ_ _=>True) λa b=>kept (a-b)):=by
 obtain ⟨f,fd,m,F,b⟩:=d;refine ⟨f,fd,m,F.kp,b,F.okE sc_minus len2 λcdv A outer s H vs Q E hr h=>?_⟩;obtain ⟨x,y,rfl,_,k⟩:=h;refine ⟨_,zf (zo (zH G hr rfl Xf (zb (zi Zo (pv 0) (pv 1)) ze))),?_⟩;exact ⟨_,rfl,_,rfl,_,_,rfl,rfl,_,rfl,k⟩
def ok_times (d:zk K mg "times" YJ ["left","right"]) (G:GK P w K mg base):Ok P w K mg base (CXe P w base) 2 "times" ["left","right"] (sp2 (λa _=>Kin a) λa b=>kept (a*b)):=by
 obtain ⟨f,fd,m,F,b⟩:=d;refine ⟨f,fd,m,F.kp,b,F.okE sc_times len2 λcdv A outer s H vs Q E hr h=>?_⟩;obtain ⟨x,y,rfl,c,k⟩:=h;refine ⟨_,zf (zo (zH G hr rfl Xf (zb (zi yq (pv 0) (pv 1)) ze))),?_⟩;exact ⟨_,rfl,_,rfl,_,_,rfl,rfl,.inl ⟨by omega,by omega⟩,_,rfl,k⟩
inductive spNo (CN:Ad) (vs:Jl) (H:Hp) (Q:VK) (E:XK):Prop
 | mk (b:_) (_:vs=[.int b]) (_:(b=0->E (.ref CN) none H)) (_:(b≠0->Q .non H))
def ok_refuse {CN:Ad} {bm:Jb} {B newId initId:String} (d:zk K mg "refuse_nought" yS ["right"]) (O:PyProof.Rows.OwnCls "ByNought" CN bm newId mg base) (FB:ExcBaseFacts B newId initId bm) :
  Ok P w K mg base (CXe P w base) 1 "refuse_nought" ["right"] (spNo CN):=by
 obtain ⟨f,fd,m,F,b⟩:=d;refine ⟨f,fd,m,F.kp,b,F.okE Yo (by rintro vs H Q E ⟨b,e,_⟩;rw [e];rfl) λcdv A outer s H vs Q E hr h=>?_⟩;obtain ⟨y,rfl,k0,k1⟩:=h;refine ⟨_,zf (zZ (zK xf (pv 0) zc (zG _)) (zf (ps_raise O FB rfl rfl throwE (zb zN ze))) zE),?_⟩;refine ⟨_,rfl,rfl,_,rfl,?_⟩;by_cases z:y=0
 ·rw [decide_eq_true (by rw [z])]
  exact xN ⟨by show 1<=sizeLine;decide,k0 z⟩
 ·rw [decide_eq_false (by intro q;cases q;exact z rfl)]
  exact yw (k1 z)
inductive spQ (CN:Ad) (g:Int->Int->Int) (vs:Jl) (H:Hp) (Q:VK) (E:XK):Prop
 | mk (a b:_) (_:vs=[.int a,.int b]) (_:Kin b) (_:(b=0->E (.ref CN) none H)) (_:(b≠0->Q (.int (g a b)) H))
def zbj {CN:Ad} (d:zk K mg "quotient" Zj ["left","right"]) (G:GK P w K mg base) (GN:Ok P w K mg base (CXe P w base) 1 "refuse_nought" ["right"] (spNo CN)) :
  Ok P w K mg base (CXe P w base) 2 "quotient" ["left","right"] (spQ CN λa b=>kept (a.fdiv b)):=by
 obtain ⟨f,fd,m,F,b⟩:=d;refine ⟨f,fd,m,F.kp,b,F.okE za9 (by rintro vs H Q E ⟨a,b,e,_⟩;rw [e];rfl) λcdv A outer s H vs Q E hr h=>?_⟩;obtain ⟨x,y,rfl,hb,k0,k1⟩:=h;refine ⟨_,zd (zW (zH GN hr rfl Xf (zb (pv 1) ze))) (zf (zo (zH G hr rfl Xf (zb (zi Yc (pv 0) (pv 1)) ze)))),?_⟩;refine ⟨_,rfl,y,rfl,k0,λz=>?_⟩;exact ⟨_,rfl,_,rfl,_,_,rfl,rfl,⟨z,by omega,by omega⟩,_,rfl,k1 z⟩
def zau {CN:Ad} (d:zk K mg "remainder" xU ["left","right"]) (GN:Ok P w K mg base (CXe P w base) 1 "refuse_nought" ["right"] (spNo CN)) :
  Ok P w K mg base (CXe P w base) 2 "remainder" ["left","right"] (spQ CN λa b=>a.fmod b):=by
 obtain ⟨f,fd,m,F,b⟩:=d;refine ⟨f,fd,m,F.kp,b,F.okE zaf (by rintro vs H Q E ⟨a,b,e,_⟩;rw [e];rfl) λcdv A outer s H vs Q E hr h=>?_⟩;obtain ⟨x,y,rfl,hb,k0,k1⟩:=h;refine ⟨_,zd (zW (zH GN hr rfl Xf (zb (pv 1) ze))) (zf (zo (zi op_modN (pv 0) (pv 1)))),?_⟩;refine ⟨_,rfl,y,rfl,k0,λz=>?_⟩;exact ⟨_,rfl,_,rfl,_,_,rfl,rfl,z,k1 z⟩
def ok_lesser (d:zk K mg "lesser" Z4 ["left","right"]) (hm:mg "min"=none):Ok P w K mg base (CXe P w base) 2 "lesser" ["left","right"] (sp2 (λ_ _=>True) λa b=>if b<a then b else a):=by
 obtain ⟨f,fd,m,F,b⟩:=d;refine ⟨f,fd,m,F.kp,b,F.okE sc_lesser len2 λcdv A outer s H vs Q E hr h=>?_⟩;obtain ⟨x,y,rfl,_,k⟩:=h;refine ⟨_,zf (zo (zD (X7 rfl) rfl hm PyProof.Rows.boot_min (zb (pv 0) (zb (pv 1) ze)))),?_⟩;exact ⟨_,rfl,_,rfl,_,_,rfl,k⟩
def zcj (d:zk K mg "greater" ZC ["left","right"]) (hm:mg "max"=none):Ok P w K mg base (CXe P w base) 2 "greater" ["left","right"] (sp2 (λ_ _=>True) λa b=>if b > a then b else a):=by
 obtain ⟨f,fd,m,F,b⟩:=d;refine ⟨f,fd,m,F.kp,b,F.okE zcb len2 λcdv A outer s H vs Q E hr h=>?_⟩;obtain ⟨x,y,rfl,_,k⟩:=h;refine ⟨_,zf (zo (zD (call_max2 rfl) rfl hm PyProof.Rows.boot_max (zb (pv 0) (zb (pv 1) ze)))),?_⟩;exact ⟨_,rfl,_,rfl,_,_,rfl,k⟩
def zci (d:zk K mg "is_less" ZB ["left","right"]):Ok P w K mg base (CXe P w base) 2 "is_less" ["left","right"] (sp2 (λ_ _=>True) λa b=>if a<b then 1 else 0):=by
 obtain ⟨f,fd,m,F,b⟩:=d;refine ⟨f,fd,m,F.kp,b,F.okE zca len2 λcdv A outer s H vs Q E hr h=>?_⟩;obtain ⟨x,y,rfl,_,k⟩:=h;refine ⟨_,zf (zo (Xd (zK Xg (pv 0) (pv 1) (zG _)) zc zc)),?_⟩;refine ⟨_,rfl,_,rfl,_,_,rfl,rfl,_,rfl,?_⟩;dsimp only at k ⊢;by_cases z:x<y
 ·rw [if_pos z] at k;rw [decide_eq_true z];exact xN k
 ·rw [if_neg z] at k;rw [decide_eq_false z];exact yw k
def zbk (d:zk K mg "is_equal" Zm ["left","right"]):Ok P w K mg base (CXe P w base) 2 "is_equal" ["left","right"] (sp2 (λ_ _=>True) λa b=>if a=b then 1 else 0):=by
 obtain ⟨f,fd,m,F,b⟩:=d;refine ⟨f,fd,m,F.kp,b,F.okE zbb len2 λcdv A outer s H vs Q E hr h=>?_⟩;obtain ⟨x,y,rfl,_,k⟩:=h;refine ⟨_,zf (zo (Xd (zK xf (pv 0) (pv 1) (zG _)) zc zc)),?_⟩;refine ⟨_,rfl,_,rfl,rfl,_,rfl,?_⟩;dsimp only at k ⊢;by_cases z:x=y
 ·rw [if_pos z] at k;rw [decide_eq_true (by rw [z])];exact xN k
 ·rw [if_neg z] at k;rw [decide_eq_false (by intro q;cases q;exact z rfl)];exact yw k
def ok_both (d:zk K mg "bits_of_both" xa ["left","right"]):Ok P w K mg base (CXe P w base) 2 "bits_of_both" ["left","right"] (sp2 (λ_ _=>True) Builtin.bitAnd):=by
 obtain ⟨f,fd,m,F,b⟩:=d;refine ⟨f,fd,m,F.kp,b,F.okE YG len2 λcdv A outer s H vs Q E hr h=>?_⟩;obtain ⟨x,y,rfl,_,k⟩:=h;exact ⟨_,zf (zo (zi op_and (pv 0) (pv 1))),_,rfl,_,rfl,_,_,rfl,rfl,k⟩
def ok_either (d:zk K mg "bits_of_either" yJ ["left","right"]):Ok P w K mg base (CXe P w base) 2 "bits_of_either" ["left","right"] (sp2 (λ_ _=>True) Builtin.bitOr):=by
 obtain ⟨f,fd,m,F,b⟩:=d;refine ⟨f,fd,m,F.kp,b,F.okE Z3 len2 λcdv A outer s H vs Q E hr h=>?_⟩;obtain ⟨x,y,rfl,_,k⟩:=h;exact ⟨_,zf (zo (zi op_or (pv 0) (pv 1))),_,rfl,_,rfl,_,_,rfl,rfl,k⟩
def ok_one (d:zk K mg "bits_of_one" xr ["left","right"]):Ok P w K mg base (CXe P w base) 2 "bits_of_one" ["left","right"] (sp2 (λ_ _=>True) Builtin.bitXor):=by
 obtain ⟨f,fd,m,F,b⟩:=d;refine ⟨f,fd,m,F.kp,b,F.okE Y3 len2 λcdv A outer s H vs Q E hr h=>?_⟩;obtain ⟨x,y,rfl,_,k⟩:=h;exact ⟨_,zf (zo (zi op_xor (pv 0) (pv 1))),_,rfl,_,rfl,_,_,rfl,rfl,k⟩
def XR:Jd:=["+","-","*","/","rest","least","most","<","=","&","|","^"]
def xh (sg:Str) (a b:Int):Option Int :=
 if sg="+" then some (kept (a+b)) else if sg="-" then some (kept (a-b)) else if sg="*" then some (kept (a*b))
 else if sg="/" then (if b=0 then none else some (kept (a.fdiv b))) else if sg="rest" then (if b=0 then none else some (a.fmod b))
 else if sg="least" then some (if b<a then b else a) else if sg="most" then some (if b > a then b else a)
 else if sg="<" then some (if a<b then 1 else 0) else if sg="=" then some (if a=b then 1 else 0)
 else if sg="&" then some (Builtin.bitAnd a b) else if sg="|" then some (Builtin.bitOr a b) else some (Builtin.bitXor a b)
inductive spDone (CN:Ad) (vs:Jl) (H:Hp) (Q:VK) (E:XK):Prop
 | mk (sg a b:_) (_:vs=[.str sg,.int a,.int b]) (_:sg∈XR) (_:Kin a) (_:Kin b) (_:(∀ r,xh sg a b=some r->Q (.int r) H)) (_:(xh sg a b=none->E (.ref CN) none H))
def zC (K:Fg) (mg:J0) (aS:Ad) (sg nm:Str):Prop:=∃ f,PySem.W.nsIn K aS sg=some (some (.ref f))/\mg nm=some (.ref f)
structure Signs (K:Fg) (mg:J0) (aS:Ad):Prop where
 s1:zC K mg aS "+" "plus"
 s2:zC K mg aS "-" "minus"
 s3:zC K mg aS "*" "times"
 s4:zC K mg aS "/" "quotient"
 s5:zC K mg aS "rest" "remainder"
 s6:zC K mg aS "least" "lesser"
 s7:zC K mg aS "most" "greater"
 s8:zC K mg aS "<" "is_less"
 s9:zC K mg aS "=" "is_equal"
 s10:zC K mg aS "&" "bits_of_both"
 s11:zC K mg aS "|" "bits_of_either"
 s12:zC K mg aS "^" "bits_of_one"
abbrev O2 (P:Program) (w:World) (K:Fg) (mg:J0) (base:Heap) (nm:Str) (sp:Sp):Prop:=Ok P w K mg base (CXe P w base) 2 nm ["left","right"] sp
structure Fns (P:Program) (w:World) (K:Fg) (mg:J0) (base:Heap) (CN:Ad):Prop where
 f1:O2 P w K mg base "plus" (sp2 (λ_ _=>True) λa b=>kept (a+b))
 f2:O2 P w K mg base "minus" (sp2 (λ_ _=>True) λa b=>kept (a-b))
 f3:O2 P w K mg base "times" (sp2 (λa _=>Kin a) λa b=>kept (a*b))
 f4:O2 P w K mg base "quotient" (spQ CN λa b=>kept (a.fdiv b))
 f5:O2 P w K mg base "remainder" (spQ CN λa b=>a.fmod b)
 f6:O2 P w K mg base "lesser" (sp2 (λ_ _=>True) λa b=>if b<a then b else a)
 f7:O2 P w K mg base "greater" (sp2 (λ_ _=>True) λa b=>if b > a then b else a)
 f8:O2 P w K mg base "is_less" (sp2 (λ_ _=>True) λa b=>if a<b then 1 else 0)
 f9:O2 P w K mg base "is_equal" (sp2 (λ_ _=>True) λa b=>if a=b then 1 else 0)
 f10:O2 P w K mg base "bits_of_both" (sp2 (λ_ _=>True) Builtin.bitAnd)
 f11:O2 P w K mg base "bits_of_either" (sp2 (λ_ _=>True) Builtin.bitOr)
 f12:O2 P w K mg base "bits_of_one" (sp2 (λ_ _=>True) Builtin.bitXor)
def ok_done {CN aS:Ad} (d:zk K mg "done" zam ["sign","left","right"]) (hS:mg "SIGNS"=some (.ref aS)) (T:xu w K aS) (S:Signs K mg aS) (f:Fns P w K mg base CN) :
  Ok P w K mg base (CXe P w base) 3 "done" ["sign","left","right"] (spDone CN):=by
 obtain ⟨g,fd,m,F,b⟩:=d;refine ⟨g,fd,m,F.kp,b,F.okE sc_done (by rintro vs H Q E ⟨_,_,_,e,_⟩;rw [e];rfl) λcdv A outer s H vs Q E hr h=>?_⟩;obtain ⟨sg,x,y,rfl,hs,hx,hy,k1,k2⟩:=h;refine ⟨_,zf (zo (Yb (CX:=CXe P w base) (k:=2) (zq zax (ZD hS) (pv 0) (λ_ _=>rfl)) hr Xf (zb (pv 1) (zb (pv 2) ze)))),?_⟩
 have use:∀ (nm:Str) (sp:Sp),zC K mg aS sg nm->O2 P w K mg base nm sp->sp [.int x,.int y] H Q E ->
   ∃ (a:Ad) (k:Str) (u:Vl) (v:V),V.ref aS=.ref a/\V.str sg=.str k/\xu w K a/\PySem.W.nsIn K a k=some (some u)/\RelV v u /\
    ∃ (f:Ad) (fd:FuncData) (ps:Jd) (sp:Sp),v=.ref f/\FnOk P w K mg base (CXe P w base) 2 f fd ps sp/\PySem.W.keepIn K (.ref f)=true/\Binds K fd ps []/\sp [.int x,.int y] H Q E:=by
  intro nm sp ⟨f1,e1,m1⟩ ⟨f2,fd2,m2,kp,bb,ok⟩ q;have e:=m1.symm.trans m2;cases e;exact ⟨aS,sg,.ref f1,.ref f1,rfl,rfl,T,e1,rfl,f1,fd2,_,sp,rfl,ok,kp,bb,q⟩
 suffices h:∃ (nm:Str) (sp:Sp),zC K mg aS sg nm/\O2 P w K mg base nm sp/\sp [.int x,.int y] H Q E by
  obtain ⟨nm,sp,a1,a2,a3⟩:=h;obtain ⟨a,k,u,v,e1,e2,t,e3,r,f,fd,ps,sp',e4,ok,kp,bb,q⟩:=use nm sp a1 a2 a3;exact ⟨_,rfl,a,k,u,v,e1,e2,t,e3,r,f,fd,ps,sp',e4,ok,kp,bb,_,rfl,_,rfl,q⟩
 simp only [XR,List.mem_cons,List.not_mem_nil,or_false] at hs;rcases hs with rfl | rfl | rfl | rfl | rfl | rfl | rfl | rfl | rfl | rfl | rfl | rfl
 ·exact ⟨_,_,S.s1,f.f1,x,y,rfl,trivial,k1 _ rfl⟩
 ·exact ⟨_,_,S.s2,f.f2,x,y,rfl,trivial,k1 _ rfl⟩
 ·exact ⟨_,_,S.s3,f.f3,x,y,rfl,hx,k1 _ rfl⟩
 ·exact ⟨_,_,S.s4,f.f4,x,y,rfl,hy,λz=>k2 (by show (if y=0 then none else some _)=none;rw [if_pos z]),λz=>k1 _ (by show (if y=0 then none else some _)=some _;rw [if_neg z])⟩
 ·exact ⟨_,_,S.s5,f.f5,x,y,rfl,hy,λz=>k2 (by show (if y=0 then none else some _)=none;rw [if_pos z]),λz=>k1 _ (by show (if y=0 then none else some _)=some _;rw [if_neg z])⟩
 ·exact ⟨_,_,S.s6,f.f6,x,y,rfl,trivial,k1 _ rfl⟩
 ·exact ⟨_,_,S.s7,f.f7,x,y,rfl,trivial,k1 _ rfl⟩
 ·exact ⟨_,_,S.s8,f.f8,x,y,rfl,trivial,k1 _ rfl⟩
 ·exact ⟨_,_,S.s9,f.f9,x,y,rfl,trivial,k1 _ rfl⟩
 ·exact ⟨_,_,S.s10,f.f10,x,y,rfl,trivial,k1 _ rfl⟩
 ·exact ⟨_,_,S.s11,f.f11,x,y,rfl,trivial,k1 _ rfl⟩
 ·exact ⟨_,_,S.s12,f.f12,x,y,rfl,trivial,k1 _ rfl⟩
structure Ints (K:Fg) (mg:J0):Prop where
 isi:mg "isinstance"=none
 int:mg "int"=none
 bool:mg "bool"=none
 ii:PySem.W.kitOne K (.type "int") (.type "int")=some true
 ib:PySem.W.kitOne K (.type "int") (.type "bool")=some false
structure FCls (K:Fg) (C:Ad):Prop where
 c:Cls K C
 n1:NoAttr K C "numbers"
 n2:NoAttr K C "at"
abbrev ZK (C dx:Ad) (l:Ad) (p:Int):HO:=.ins C dx [("numbers",.ref l),("at",.int p)]
def fAt (ns:J9) (q:Nat):Int:=if ns.length=0 then 0 else ((q % ns.length:Nat):Int)
def fVal (ns:J9) (q:Nat):Int:=ns.getD (q % ns.length) 0
inductive spInitF (K:Fg) (C:Ad) (vs:Jl) (H:Hp) (Q:VK) (_:XK):Prop
 | mk (x dx a:Ad) (ns:J9) (_:vs=[.ref x,.ref a]) (_:H x=some (.ins C dx [])) (_:SqL K H a (ns.map V.int)) (_:∀ (H':Hp) (l:Ad),(∀ b o,b≠x->H b=some o->H' b=some o)->H l=none->H' x=some (ZK C dx l 0)->H' l=some (.lst (ns.map V.int))->Q .non H')
def ok_initF {C:Ad} (d:ZX K C "Feed.__init__" xZ ["self","numbers"]) (b:FCls K C) (hlist:mg "list"=none):OkI P w K mg base CX0 1 C ["self","numbers"] (spInitF K C):=by
 obtain ⟨f,fd,m,F,bd⟩:=d;refine ⟨f,fd,m,bd,F.ok zai (by rintro vs H Q E ⟨_,_,_,_,e,_⟩;rw [e];rfl) λcdv A outer s H vs Q E hr h=>?_⟩;obtain ⟨x,dx,a,ns,rfl,hx,hS,k⟩:=h;refine ⟨_,(zd (zF (pv 0) (yp ya (by rfl) hlist PyProof.Rows.boot_list (zb (pv 1) ze)) rfl)
   (zf (zF (pv 0) zc rfl))),?_⟩
 dsimp only [ym,Cx.nox,Cx.wish];refine ⟨_,rfl,a,_,rfl,.inl hS,λl nl=>?_⟩;have nx:x≠l:=zr hx nl;refine ⟨_,rfl,x,C,dx,[],rfl,by rw [zj nx];exact hx,b.c,b.n1,by decide,?_⟩;refine ⟨_,rfl,x,C,dx,[("numbers",.ref l)],rfl,zh,b.c,b.n2,(by show 1<1000;decide),?_⟩;refine k _ l (λc o nc z=>?_) nl zh ?_
 ·rw [zj nc,zj nc,zj (zr z nl)]
  exact z
 ·rw [zj (Ne.symm nx),zj (Ne.symm nx),zh]
inductive spTaken (C:Ad) (vs:Jl) (H:Hp) (Q:VK) (_:XK):Prop
 | mk (x dx l:Ad) (ns:J9) (q:Nat) (_:vs=[.ref x]) (_:H x=some (ZK C dx l (fAt ns q))) (_:H l=some (.lst (ns.map V.int))) (_:∀ H',(∀ b o,b≠x->H b=some o->H' b=some o)->H' x=some (ZK C dx l (fAt ns (q+1)))->Q (.int (fVal ns q)) H')
def ok_taken {C:Ad} (d:zY K C "taken" "Feed.taken" xJ ["self"]) (b:FCls K C) (hlen:mg "len"=none):OkM P w K mg base CX0 1 C "taken" ["self"] (spTaken C):=by
 obtain ⟨f,fd,m,F,bd⟩:=d;refine ⟨f,fd,m,bd,F.ok sc_Feed_taken (by rintro vs H Q E ⟨_,_,_,_,_,e,_⟩;rw [e];rfl) λcdv A outer s H vs Q E hr h=>?_⟩;obtain ⟨x,dx,l,ns,q,rfl,hx,hl,k⟩:=h;have nd:=sc_Feed_taken.nd;refine ⟨_,(zd (zZ (zK xf (zD zV (by rfl) hlen PySem.boot_len (zb (zu (pv 0) rfl) ze)) zc (zG _)) (zf (zo zc)) zE)
   (zd (zv (i:=1) nd rfl (Or.inl rfl) (zq zO (zu (pv 0) rfl) (zu (pv 0) rfl) (λ_ _=>rfl)))
   (zd (zF (pv 0) (zi yD (zi zB (zu (pv 0) rfl) zc) (zD zV (by rfl) hlen PySem.boot_len (zb (zu (pv 0) rfl) ze))) rfl)
   (zf (zo (pv 1)))))),?_⟩
 dsimp only [ym,Cx.nox,Cx.wish];refine ⟨_,rfl,x,C,dx,_,.ref l,rfl,hx,b.c,b.n1,rfl,l,_,rfl,.inl (SqL.of hl),rfl,_,rfl,?_⟩;rw [Jg];refine xA (λz=>?_) (λz=>?_)
 ·have z:(ns.length:Int)=0:=by simpa using z
  have e:ns=[]:=List.length_eq_zero_iff.mp (by omega);subst e;exact k H (λb o _ z=>z) hx
 ·have z:ns.length≠0:=by simpa using z
  have lt:q % ns.length<ns.length:=Nat.mod_lt _ (by omega);have e1:fAt ns q=((q % ns.length:Nat):Int):=if_neg z;have e2:fAt ns (q+1)=(((q+1) % ns.length:Nat):Int):=if_neg z;have nx:x≠l:=ne_of hx hl (by intro y;cases y);refine ⟨_,rfl,x,C,dx,_,.ref l,rfl,hx,b.c,b.n1,rfl,_,rfl,x,C,dx,_,.int (fAt ns q),rfl,hx,b.c,b.n2,rfl,l,_,_,_,rfl,rfl,SqL.of hl,xl (q % ns.length) lt e1,?_⟩;refine ⟨_,rfl,x,C,dx,_,.int (fAt ns q),rfl,hx,b.c,b.n2,rfl,_,_,rfl,rfl,_,rfl,x,C,dx,_,.ref l,rfl,hx,b.c,b.n1,rfl,l,_,rfl,.inl (SqL.of hl),_,_,rfl,rfl,(by rw [Jg];omega),?_⟩;refine ⟨_,rfl,x,C,dx,_,rfl,hx,b.c,b.n2,(by show 2<1000;decide),?_⟩;refine ⟨_,rfl,k _ (λc o nc z=>by rw [zj nc];exact z) ?_⟩
  have e3:(fAt ns q+1) % ((ns.map V.int).length:Int)=fAt ns (q+1):=by
   rw [e1,e2,Jg];have h1:(((q % ns.length:Nat):Int)+1)=((q % ns.length+1:Nat):Int):=by omega
   rw [h1,← Int.natCast_emod,Nat.mod_add_mod]
  rw [zh,← e3];rfl
structure BCls (K:Fg) (C:Ad):Prop where
 c:Cls K C
 n1:NoAttr K C "lanes"
 n2:NoAttr K C "numbers"
abbrev boxO (C dx:Ad) (L:Int) (l:Ad):HO:=.ins C dx [("lanes",.int L),("numbers",.ref l)]
inductive spInitB (C:Ad) (vs:Jl) (H:Hp) (Q:VK) (_:XK):Prop
 | mk (x dx:Ad) (L:Int) (_:vs=[.ref x,.int L]) (_:H x=some (.ins C dx [])) (_:1<=L) (_:L<=64) (_:∀ (H':Hp) (l:Ad),(∀ b o,b≠x->H b=some o->H' b=some o)->H l=none->H' x=some (boxO C dx L l)->H' l=some (.lst ((List.replicate (8*L).toNat (0:Int)).map V.int))->Q .non H')
def ok_initB {C:Ad} {t:Tok} (d:ZX K C "Boxes.__init__" xK ["self","lanes"]) (b:BCls K C) (hMB:mg "MANY_BOXES"=some (.int 8 t)):OkI P w K mg base CX0 1 C ["self","lanes"] (spInitB C):=by
 obtain ⟨f,fd,m,F,bd⟩:=d;refine ⟨f,fd,m,bd,F.ok XJ (by rintro vs H Q E ⟨_,_,_,e,_⟩;rw [e];rfl) λcdv A outer s H vs Q E hr h=>?_⟩;obtain ⟨x,dx,L,rfl,hx,h1,h2,k⟩:=h;refine ⟨_,zd (zF (pv 0) (pv 1) rfl) (zf (zF (pv 0) (zi op_rep (yk (zb zc ze)) (zi yq (ZE hMB) (pv 1))) rfl)),?_⟩;refine ⟨_,rfl,_,rfl,x,C,dx,[],rfl,hx,b.c,b.n1,by decide,?_⟩;refine ⟨(by show 1<=sizeLine;decide),λt nt=>⟨_,rfl,_,_,rfl,rfl,.inl ⟨by decide,by decide⟩,t,_,_,rfl,rfl,zh,by omega,by omega,?_,λl nl=>?_⟩⟩
 ·show 1*(8*L).toNat<=sizeLine
  have:(600:Nat)<=sizeLine:=by decide
  omega
 have nx:x≠t:=zr (o:=.ins C dx [("lanes",.int L)]) zh nt;have nl':x≠l:=zr (o:=.ins C dx [("lanes",.int L)]) (by rw [zj nx,zh];rfl) nl;refine ⟨_,rfl,x,C,dx,[("lanes",.int L)],rfl,?_,b.c,b.n2,(by show 1<1000;decide),?_⟩
 ·rw [zj nl',zj nx,zh];rfl
 rw [rep_ints];have lt:l≠t:=Ne.symm (zr (o:=.lst [.int 0]) zh nl)
 have hl:H l=none:=by
  have z:=nl;rw [zj lt,zj (Ne.symm nl')] at z;exact z
 have ht:H t=none:=by
  have z:=nt;rw [zj (Ne.symm nx)] at z;exact z
 refine k _ l (λc o nc z=>?_) hl zh ?_
 ·rw [zj nc,zj (zr z hl),zj (zr z ht),zj nc]
  exact z
 ·rw [zj (Ne.symm nl'),zh]
inductive spSpot (C:Ad) (vs:Jl) (H:Hp) (Q:VK) (_:XK):Prop
 | mk (x dx l:Ad) (L g p j:Int) (_:vs=[.ref x,.int g,.int p,.int j]) (_:H x=some (boxO C dx L l)) (_:1<=L) (_:L<=64) (_:1<=g) (_:g<=4) (_:Q (.int (p*g*L+j)) H)
def ok_spot {C:Ad} (d:zY K C "spot_of" "Boxes.spot_of" yU ["self","group","seat","lane"]) (b:BCls K C):OkM P w K mg base CX0 1 C "spot_of" ["self","group","seat","lane"] (spSpot C):=by
 obtain ⟨f,fd,m,F,bd⟩:=d;refine ⟨f,fd,m,bd,F.ok Yq (by rintro vs H Q E ⟨_,_,_,_,_,_,_,e,_⟩;rw [e];rfl) λcdv A outer s H vs Q E hr h=>?_⟩;obtain ⟨x,dx,l,L,g,p,j,rfl,hx,h1,h2,h3,h4,k⟩:=h;refine ⟨_,(zf (zo (zi zB (zi yq (zi yq (pv 2) (pv 1)) (zu (pv 0) rfl)) (pv 3)))),?_⟩;dsimp only [ym,Cx.nox,Cx.wish];exact ⟨_,rfl,_,rfl,_,_,rfl,rfl,.inr ⟨by omega,by omega⟩,_,rfl,x,C,dx,_,.int L,rfl,hx,b.c,b.n1,rfl,_,_,rfl,rfl,.inr ⟨by omega,by omega⟩,_,rfl,_,_,rfl,rfl,k⟩
inductive spLay (C:Ad) (vs:Jl) (H:Hp) (Q:VK) (_:XK):Prop
 | mk (x dx l:Ad) (L g p j n:Int) (nums:J9) (_:vs=[.ref x,.int g,.int p,.int j,.int n]) (_:H x=some (boxO C dx L l)) (_:H l=some (.lst (nums.map V.int))) (_:1<=L) (_:L<=64) (_:1<=g) (_:g<=4) (_:0<=p*g*L+j) (_:p*g*L+j<nums.length) (_:Q .non (upd H l (.lst ((nums.set (p*g*L+j).toNat n).map V.int))))
def ok_lay {C:Ad} (d:zY K C "lay" "Boxes.lay" x0 ["self","group","seat","lane","number"]) (b:BCls K C) (SO:OkM P w K mg base CX0 1 C "spot_of" ["self","group","seat","lane"] (spSpot C)):OkM P w K mg base CX0 2 C "lay" ["self","group","seat","lane","number"] (spLay C):=by
 obtain ⟨f,fd,m,F,bd⟩:=d;refine ⟨f,fd,m,bd,F.ok zaj (by rintro vs H Q E ⟨_,_,_,_,_,_,_,_,_,e,_⟩;rw [e];rfl) λcdv A outer s H vs Q E hr h=>?_⟩;obtain ⟨x,dx,l,L,g,p,j,n,nums,rfl,hx,hl,h1,h2,h3,h4,h5,h6,k⟩:=h;have hr1:=hr;have cC:=b.c;refine ⟨_,(zf (Zt (pv 4) (Zu (zu (pv 0) rfl) (yb SO cC hr1 zt (pv 0) (zb (pv 1) (zb (pv 2) (zb (pv 3) ze)))) xw))),?_⟩;dsimp only [ym,Cx.nox,Cx.wish];refine ⟨_,rfl,_,rfl,x,C,dx,_,.ref l,rfl,hx,b.c,b.n2,rfl,_,rfl,x,dx,_,rfl,hx,rfl,_,rfl,_,rfl,_,rfl,x,dx,l,L,g,p,j,rfl,hx,h1,h2,h3,h4,?_⟩;refine ⟨l,_,_,_,rfl,rfl,hl,ixN_nat h5 (by rw [Jg];exact h6),?_⟩;rw [set_ints];exact k
inductive spNum (C:Ad) (vs:Jl) (H:Hp) (Q:VK) (_:XK):Prop
 | mk (x dx l:Ad) (L g p j:Int) (nums:J9) (_:vs=[.ref x,.int g,.int p,.int j]) (_:H x=some (boxO C dx L l)) (_:H l=some (.lst (nums.map V.int))) (_:1<=L) (_:L<=64) (_:1<=g) (_:g<=4) (_:0<=p*g*L+j) (_:p*g*L+j<nums.length) (_:Q (.int (nums.getD (p*g*L+j).toNat 0)) H)
def ok_num {C:Ad} (d:zY K C "number_at" "Boxes.number_at" yz ["self","group","seat","lane"]) (b:BCls K C) (SO:OkM P w K mg base CX0 1 C "spot_of" ["self","group","seat","lane"] (spSpot C)):OkM P w K mg base CX0 2 C "number_at" ["self","group","seat","lane"] (spNum C):=by
 obtain ⟨f,fd,m,F,bd⟩:=d;refine ⟨f,fd,m,bd,F.ok ZP (by rintro vs H Q E ⟨_,_,_,_,_,_,_,_,e,_⟩;rw [e];rfl) λcdv A outer s H vs Q E hr h=>?_⟩;obtain ⟨x,dx,l,L,g,p,j,nums,rfl,hx,hl,h1,h2,h3,h4,h5,h6,k⟩:=h;have hr1:=hr;have cC:=b.c;refine ⟨_,(zf (zo (zq zO (zu (pv 0) rfl) (yb SO cC hr1 zt (pv 0) (zb (pv 1) (zb (pv 2) (zb (pv 3) ze)))) (λ_ _=>rfl)))),?_⟩;dsimp only [ym,Cx.nox,Cx.wish];exact ⟨_,rfl,x,C,dx,_,.ref l,rfl,hx,b.c,b.n2,rfl,_,rfl,x,dx,_,rfl,hx,rfl,_,rfl,_,rfl,_,rfl,x,dx,l,L,g,p,j,rfl,hx,h1,h2,h3,h4,l,_,_,_,rfl,rfl,SqL.of hl,xl (p*g*L+j).toNat (by omega) (by omega),k⟩
end
end K41
namespace L2
open PySem
def YQ {X:Cx} {K:Fg} {e:Expr} {f:Str} {pos:Pos} {ta:TE} (h:X.K=K) (he:PE X e ta) (hb:attributeBase e f X.env (eval e X.env)=eval e X.env):PE X (.Attribute e f pos) (tFld K ta f):=h ▸ zu he hb
end L2
namespace K41
open PySem L2
variable {P:Program} {w:World} {K:Fg} {mg:J0} {base:Heap}
structure MCs where
 bx:Ad
 fe:Ad
 bn:Ad
structure Mc where
 lens:J9
 starts:J9
 cells:J9
 lq:Nat
 nums:J9
 mq:List (List Bool)
 slots:Jj
 dust:J9
 dq:Nat
 picks:J9
 pq:Nat
 tq:List (Int×Str×Int)
 pc:Int
 oq:Int
 mn_:Int
 group:Int
 base:Int
 bq:Int
 wq:Int
 fq:Jj
 cut:Option Int
 cq:Option Int
 raised:Bool
 turns:List (Int×Int)
 rq_:Option (Int×Int×Str)
structure Ma where
 b:Ad
 db:Ad
 aL:Ad
 aS:Ad
 aC:Ad
 bx:Ad
 dbx:Ad
 aN:Ad
 aM:Ad
 aSl:Ad
 fd:Ad
 dfd:Ad
 aD:Ad
 fp:Ad
 dfp:Ad
 aP:Ad
 aT:Ad
 aF:Ad
 aU:Ad
 ms:Je
 ts:Je
 us:Je
 rf:V
def oV:Option Int->V
 | none=>.non
 | some n=>.int n
def yY (A:Ma) (M:Mc):List (Str×V):=[("lengths",.ref A.aL),("starts",.ref A.aS),("cells",.ref A.aC),("lanes",.int M.lq),("boxes",.ref A.bx),("masks",.ref A.aM),("slots",.ref A.aSl),("dust",.ref A.fd),("picks",.ref A.fp),("touches",.ref A.aT),("at",.int M.pc),("opened",.int M.oq),("many",.int M.mn_),("group",.int M.group),("base",.int M.base),("begun",.int M.bq),("width",.int M.wq),("faults",.ref A.aF),("cut",oV M.cut),("carried",oV M.cq),("raised",.bl M.raised),("turns",.ref A.aU),("refusal",A.rf)]
def Zg (A:Ma) (M:Mc):Jk:=(A.ms.zip M.mq).map λp=>(p.1,.lst (p.2.map V.bl))
def objs (c:MCs) (A:Ma) (M:Mc) (R:Jk):Jk :=
 (A.b,.ins c.bn A.db (yY A M))::(A.aC,.lst (M.cells.map V.int))::(A.aN,.lst (M.nums.map V.int))::(A.aSl,.dK M.slots)::(A.fd,ZK c.fe A.dfd A.aD (fAt M.dust M.dq))::(A.fp,ZK c.fe A.dfp A.aP (fAt M.picks M.pq))::(A.aT,.lst (A.ts.map V.ref))::(A.aF,.dK M.fq)::(A.aU,.lst (A.us.map V.ref))::(Zg A M++R)
structure BenchB (c:MCs) (B:Hp) (A:Ma) (M:Mc):Prop where
 lens:B A.aL=some (.lst (M.lens.map V.int))
 starts:B A.aS=some (.lst (M.starts.map V.int))
 bx:B A.bx=some (boxO c.bx A.dbx M.lq A.aN)
 msk:B A.aM=some (.lst (A.ms.map V.ref))
 ml:A.ms.length=M.mq.length
 dl:B A.aD=some (.lst (M.dust.map V.int))
 pl:B A.aP=some (.lst (M.picks.map V.int))
 tl:A.ts.length=M.tq.length
 tt:∀ (i:Nat) (t:Ad) (p:Int×Str×Int),A.ts[i]?=some t->M.tq[i]?=some p->B t=some (.tup [.int p.1,.str p.2.1,.int p.2.2])
 ul:A.us.length=M.turns.length
 uu:∀ (i:Nat) (t:Ad) (p:Int×Int),A.us[i]?=some t->M.turns[i]?=some p->B t=some (.tup [.int p.1,.int p.2])
 rf:match M.rq_ with
  | none=>A.rf=.non
  | some r=>∃ t,A.rf=.ref t/\B t=some (.tup [.int r.1,.int r.2.1,.str r.2.2])
theorem BenchB.same {c:MCs} {B B':Hp} {A:Ma} {M:Mc} (h:BenchB c B A M) (s:Same B B'):BenchB c B' A M:=by
 refine ⟨s _ _ h.lens,s _ _ h.starts,s _ _ h.bx,s _ _ h.msk,h.ml,s _ _ h.dl,s _ _ h.pl,h.tl,λi t p a b=>s _ _ (h.tt i t p a b),h.ul,λi t p a b=>s _ _ (h.uu i t p a b),?_⟩;have:=h.rf;revert this
 cases M.rq_ with
 | none=>exact λz=>z
 | some r=>exact λ⟨t,a,b⟩=>⟨t,a,s _ _ b⟩
structure NCls (K:Fg) (C:Ad):Prop where
 c:Cls K C
 lengths:NoAttr K C "lengths"
 starts:NoAttr K C "starts"
 cells:NoAttr K C "cells"
 lq:NoAttr K C "lanes"
 boxes:NoAttr K C "boxes"
 mq:NoAttr K C "masks"
 slots:NoAttr K C "slots"
 dust:NoAttr K C "dust"
 picks:NoAttr K C "picks"
 tq:NoAttr K C "touches"
 pc:NoAttr K C "at"
 oq:NoAttr K C "opened"
 mn_:NoAttr K C "many"
 group:NoAttr K C "group"
 base:NoAttr K C "base"
 bq:NoAttr K C "begun"
 wq:NoAttr K C "width"
 fq:NoAttr K C "faults"
 cut:NoAttr K C "cut"
 cq:NoAttr K C "carried"
 raised:NoAttr K C "raised"
 turns:NoAttr K C "turns"
 rq_:NoAttr K C "refusal"
structure MCls (K:Fg) (c:MCs):Prop where
 b:BCls K c.bx
 f:FCls K c.fe
 n:NCls K c.bn
structure MAt (c:MCs) (B:Hp) (A:Ma) (M:Mc) (R:Jk) (H:Hp):Prop where
 bb:BenchB c B A M
 h:Hd B (objs c A M R) H
def MAt.b {c:MCs} {B:Hp} {A:Ma} {M:Mc} {R:Jk} {H:Hp} (m:MAt c B A M R H):H A.b=some (.ins c.bn A.db (yY A M)):=m.h.get 0 rfl
def MAt.grow {c:MCs} {B:Hp} {A:Ma} {M:Mc} {R:Jk} {H:Hp} {t:Ad} {o:HO} (m:MAt c B A M R H) (n:H t=none):MAt c (upd B t o) A M R (upd H t o):=by
 have sB:Same B (upd B t o):=zn (Same.refl _) (m.h.free n);refine ⟨m.bb.same sB,m.h.nd,λp q=>?_,λp q=>?_,λb u z=>?_⟩
 ·rw [zj (zr (m.h.st p q) n)];exact m.h.nw p q
 ·rw [zj (zr (m.h.st p q) n)];exact m.h.st p q
 ·by_cases e:b=t
  ·subst e;rw [zh] at z ⊢;exact z
  ·rw [zj e] at z ⊢;exact m.h.sm _ _ z
def Mc.touched (M:Mc) (kind:Str) (a:Int):Mc:={ M with tq:=M.tq++[(M.pc,kind,a)] }
inductive spTouch (c:MCs) (vs:Jl) (H:Hp) (Q:VK) (_:XK):Prop
 | mk (B:Hp) (A:Ma) (M:Mc) (R:Jk) (kind:Str) (a:Int) (_:vs=[.ref A.b,.str kind,.int a]) (_:MAt c B A M R H) (_:M.tq.length<100000) (_:∀ B' A' H',Same B B'->A'.b=A.b->MAt c B' A' (M.touched kind a) R H'->Q .non H')
theorem ok_touch {c:MCs} (d:zY K c.bn "touch" "Bench.touch" xt ["self","kind","address"]) (CN:NCls K c.bn):OkM P w K mg base CX0 1 c.bn "touch" ["self","kind","address"] (spTouch c):=by
 obtain ⟨f,fd,m,F,bd⟩:=d;refine ⟨f,fd,m,bd,F.ok Y4 (by rintro vs H Q E ⟨_,_,_,_,_,_,e,_⟩;rw [e];rfl) λcdv A outer s H vs Q E hr h=>?_⟩;obtain ⟨B,A,M,R,kind,a,rfl,m,hl,k⟩:=h;refine ⟨_,(zf (zW (pe_bm PySem.F.plainAttrs_list PySem.F.slot_list_append PySem.F.type_list_append xj (zu (pv 0) rfl) (zb (zM (zb (zu (pv 0) rfl) (zb (pv 1) (zb (pv 2) ze)))) ze)))),?_⟩;dsimp only [ym,Cx.nox,Cx.wish];refine ⟨_,rfl,A.b,_,_,_,.ref A.aT,rfl,m.b,CN.c,CN.tq,rfl,.inl ⟨rfl,_,m.h.lst 6 rfl⟩,_,rfl,A.b,_,_,_,.int M.pc,rfl,m.b,CN.c,CN.pc,rfl,_,rfl,_,rfl,(by show 3<=sizeLine;decide),λt nt=>?_⟩;have sB:Same B (upd B t (.tup [.int M.pc,.str kind,.int a])):=zn (Same.refl _) (m.h.free nt);have m1:=m.grow (o:=.tup [.int M.pc,.str kind,.int a]) nt;have e1:upd B t (.tup [.int M.pc,.str kind,.int a]) t=some (.tup [.int M.pc,.str kind,.int a]):=zh;generalize upd B t (.tup [.int M.pc,.str kind,.int a])=B1 at sB m1 e1;have tl:=m.bb.tl;refine ⟨A.aT,_,_,rfl,rfl,m1.h.get 6 rfl,(by rw [Jg];exact Nat.lt_of_le_of_lt (show A.ts.length<=100000 by omega) (by decide)),?_⟩;have h2:=m1.h.put (o':=.lst ((A.ts++[t]).map V.ref)) 6 rfl;rw [Ji] at h2;refine k B1 { A with ts:=A.ts++[t] } _ sB rfl ⟨⟨m1.bb.lens,m1.bb.starts,m1.bb.bx,m1.bb.msk,m1.bb.ml,m1.bb.dl,m1.bb.pl,?_,λi t' p a1 a2=>?_,m1.bb.ul,m1.bb.uu,m1.bb.rf⟩,?_⟩
 ·show (A.ts++[t]).length=(M.tq++[_]).length
  rw [Jh,Jh,tl];rfl
 ·have a1:(A.ts++[t])[i]?=some t':=a1
  have a2:(M.tq++[(M.pc,kind,a)])[i]?=some p:=a2;by_cases z:i<A.ts.length
  ·rw [q4x z] at a1
   rw [q4x (by omega)] at a2;exact m1.bb.tt i t' p a1 a2
  ·rw [List.getElem?_append_right (by omega)] at a1 a2
   rw [tl] at a1
   cases e:i-M.tq.length with
   | zero=>rw [e] at a1 a2;cases a1;cases a2;exact e1
   | succ j=>rw [e] at a1;cases a1
 ·show Hd B1 (objs c { A with ts:=A.ts++[t] } (M.touched kind a) R) _
  have e:(A.ts++[t]).map V.ref=A.ts.map V.ref++[V.ref t]:=by rw [Ji];rfl
  unfold objs;rw [e];exact h2
section
variable {c:MCs} {B:Hp} {A:Ma} {M:Mc} {R:Jk} {H J:Hp} {a:Ad} {o o':HO}
def MAt.adopt (m:MAt c B A M R H) (h:Hd H [(a,o)] J):MAt c (upd B a o) A M R J:=by
 have na:H a=none:=h.nw _ (List.mem_singleton.mpr rfl);have nb:B a=none:=m.h.free na;have sB:Same B (upd B a o):=zn (Same.refl _) nb;refine ⟨m.bb.same sB,m.h.nd,λp q=>?_,λp q=>h.sm _ _ (m.h.st p q),λb u z=>?_⟩
 ·rw [zj (zr (m.h.st p q) na)];exact m.h.nw p q
 ·by_cases e:b=a
  ·subst e;rw [zh] at z;cases z;exact h.get 0 rfl
  ·rw [zj e] at z;exact h.sm _ _ (m.h.sm _ _ z)
def MAt.newR (m:MAt c B A M R H) (n:H a=none):MAt c B A M ((a,o)::R) (upd H a o):=by
 refine ⟨m.bb,(m.h.new (o:=o) n).perm ?_⟩;unfold objs;rw [← List.cons_append,← List.cons_append,← List.cons_append,← List.cons_append,← List.cons_append,← List.cons_append,← List.cons_append,← List.cons_append,← List.cons_append];rw [← List.cons_append,← List.cons_append,← List.cons_append,← List.cons_append,← List.cons_append,← List.cons_append,← List.cons_append,← List.cons_append,← List.cons_append];exact (List.perm_middle (a:=(a,o)) (l₁:=_::_::_::_::_::_::_::_::_::Zg A M) (l₂:=R)).symm
def atR:(objs c A M ((a,o)::R))[9+(Zg A M).length]?=some (a,o):=by
 unfold objs;rw [show 9+(Zg A M).length=(Zg A M).length+1+1+1+1+1+1+1+1+1 by omega];simp only [List.getElem?_cons_succ];rw [List.getElem?_append_right (Nat.le_refl _),Nat.sub_self];rfl
def setR:(objs c A M ((a,o)::R)).set (9+(Zg A M).length) (a,o')=objs c A M ((a,o')::R):=by
 unfold objs;rw [show 9+(Zg A M).length=(Zg A M).length+1+1+1+1+1+1+1+1+1 by omega];simp only [List.set_cons_succ];rw [List.set_append_right _ _ (Nat.le_refl _),Nat.sub_self];rfl
def MAt.getR (m:MAt c B A M ((a,o)::R) H):H a=some o:=m.h.get _ atR
def MAt.putR (m:MAt c B A M ((a,o)::R) H):MAt c B A M ((a,o')::R) (upd H a o'):=by
 have h:=m.h.put (o':=o') _ atR;rw [setR] at h;exact ⟨m.bb,h⟩
def MAt.settle (m:MAt c B A M ((a,o)::R) H):MAt c (upd B a o) A M R H:=by
 have nb:B a=none:=m.h.nw (a,o) (List.mem_of_getElem? atR);have sB:Same B (upd B a o):=zn (Same.refl _) nb
 have sub:List.Sublist (objs c A M R) (objs c A M ((a,o)::R)):=by
  unfold objs;exact .cons₂ _ (.cons₂ _ (.cons₂ _ (.cons₂ _ (.cons₂ _ (.cons₂ _ (.cons₂ _ (.cons₂ _ (.cons₂ _ (List.Sublist.append (List.Sublist.refl _) (List.sublist_cons_self _ _))))))))))
 have h:=m.h.sub sub;refine ⟨m.bb.same sB,h.nd,λp q=>?_,h.st,λb u z=>?_⟩
 ·rw [zj ?_]
  ·exact h.nw p q
  ·intro e
   have nd:=m.h.nd;have p1:p∈objs c A M ((a,o)::R):=sub.subset q
   have:((a,o)::objs c A M R).Perm (objs c A M ((a,o)::R)):=by
    unfold objs;exact (List.perm_middle (a:=(a,o)) (l₁:=_::_::_::_::_::_::_::_::_::Zg A M) (l₂:=R)).symm
   have nd2:=(this.map Prod.fst).symm.nodup nd;exact (List.nodup_cons.mp nd2).1 (by have:=List.mem_map_of_mem (f:=Prod.fst) q;rw [e] at this;exact this)
 ·by_cases e:b=a
  ·subst e;rw [zh] at z;cases z;exact m.getR
  ·rw [zj e] at z;exact m.h.sm _ _ z
def MAt.mask (m:MAt c B A M R H) {k:Nat} (hk:k<M.mq.length):∃ x,A.ms[k]?=some x/\H x=some (.lst ((M.mq.getD k []).map V.bl)):=by
 have ml:=m.bb.ml;refine ⟨A.ms[k],by rw [List.getElem?_eq_getElem (by omega)],?_⟩;refine m.h.get (9+k) ?_;unfold objs;rw [show 9+k=k+1+1+1+1+1+1+1+1+1 by omega];simp only [List.getElem?_cons_succ];have lm:(Zg A M).length=A.ms.length:=by unfold Zg;rw [Jg,List.length_zip];omega
 rw [q4x (by omega)];unfold Zg;have e:(A.ms.zip M.mq)[k]?=some (A.ms[k],M.mq[k]):=by rw [List.getElem?_zip_eq_some];exact ⟨by rw [List.getElem?_eq_getElem (by omega)],by rw [List.getElem?_eq_getElem hk]⟩
 rw [List.getElem?_map,e];show some _=some _;rw [q1x,List.getElem?_eq_getElem hk];rfl
end
def Mc.adr (M:Mc) (row:Nat) (place:Int):Int:=M.starts.getD row 0+place
inductive spRead (c:MCs) (vs:Jl) (H:Hp) (Q:VK) (_:XK):Prop
 | mk (B:Hp) (A:Ma) (M:Mc) (R:Jk) (row:Nat) (place:Int) (_:vs=[.ref A.b,.int row,.int place]) (_:MAt c B A M R H) (_:M.tq.length<100000) (_:row<M.starts.length) (_:0<=M.adr row place) (_:(M.adr row place).toNat<M.cells.length) (_:∀ B' A' H',Same B B'->A'.b=A.b->MAt c B' A' (M.touched "read" (M.adr row place)) R H'->Q (.int (M.cells.getD (M.adr row place).toNat 0)) H')
def ok_read {c:MCs} (d:zY K c.bn "read_cell" "Bench.read_cell" yA ["self","row","place"]) (CN:NCls K c.bn) (TO:OkM P w K mg base CX0 1 c.bn "touch" ["self","kind","address"] (spTouch c)):OkM P w K mg base CX0 2 c.bn "read_cell" ["self","row","place"] (spRead c):=by
 obtain ⟨f,fd,m,F,bd⟩:=d;refine ⟨f,fd,m,bd,F.ok sc_Bench_read_cell (by rintro vs H Q E ⟨_,_,_,_,_,_,e,_⟩;rw [e];rfl) λcdv A outer s H vs Q E hr h=>?_⟩;obtain ⟨B,A,M,R,row,place,rfl,m,hl,h0,h1,h2,k⟩:=h;have nd:=sc_Bench_read_cell.nd;have hr1:=hr;refine ⟨_,(zd (zv (i:=3) nd rfl (Or.inl rfl) (zi zB (zq zO (zu (pv 0) rfl) (pv 1) (λ_ _=>rfl)) (pv 2)))
   (zd (zW (yb TO CN.c hr1 zt (pv 0) (zb zN (zb (pv 3) ze))))
   (zf (zo (zq zO (zu (pv 0) rfl) (pv 3) (λ_ _=>rfl)))))),?_⟩
 dsimp only [ym,Cx.nox,Cx.wish];refine ⟨_,rfl,A.b,_,_,_,.ref A.aS,rfl,m.b,CN.c,CN.starts,rfl,_,rfl,A.aS,_,_,_,rfl,rfl,SqL.of (m.h.sm _ _ m.bb.starts),xl row h0 rfl,_,rfl,_,_,rfl,rfl,?_⟩;refine ⟨_,rfl,A.b,_,_,rfl,m.b,rfl,_,rfl,B,A,M,R,"read",M.adr row place,rfl,m,hl,λB1 A1 H1 s1 eb m1=>?_⟩;refine ⟨_,rfl,A1.b,_,_,_,.ref A1.aC,by rw [eb],m1.b,CN.c,CN.cells,rfl,_,rfl,A1.aC,_,_,_,rfl,rfl,m1.h.lst 1 rfl,xl (M.adr row place).toNat h2 (show M.adr row place=_ by omega),?_⟩;exact k B1 A1 H1 s1 eb m1
def Mc.wrote (M:Mc) (row:Nat) (place n:Int):Mc:={ M.touched "write" (M.adr row place) with cells:=M.cells.set (M.adr row place).toNat n }
inductive spWrite (c:MCs) (vs:Jl) (H:Hp) (Q:VK) (_:XK):Prop
 | mk (B:Hp) (A:Ma) (M:Mc) (R:Jk) (row:Nat) (place n:Int) (_:vs=[.ref A.b,.int row,.int place,.int n]) (_:MAt c B A M R H) (_:M.tq.length<100000) (_:row<M.starts.length) (_:0<=M.adr row place) (_:(M.adr row place).toNat<M.cells.length) (_:∀ B' A' H',Same B B'->A'.b=A.b->MAt c B' A' (M.wrote row place n) R H'->Q .non H')
def ok_write {c:MCs} (d:zY K c.bn "write_cell" "Bench.write_cell" yt ["self","row","place","number"]) (CN:NCls K c.bn) (TO:OkM P w K mg base CX0 1 c.bn "touch" ["self","kind","address"] (spTouch c)):OkM P w K mg base CX0 2 c.bn "write_cell" ["self","row","place","number"] (spWrite c):=by
 obtain ⟨f,fd,m,F,bd⟩:=d;refine ⟨f,fd,m,bd,F.ok sc_Bench_write_cell (by rintro vs H Q E ⟨_,_,_,_,_,_,_,e,_⟩;rw [e];rfl) λcdv A outer s H vs Q E hr h=>?_⟩;obtain ⟨B,A,M,R,row,place,n,rfl,m,hl,h0,h1,h2,k⟩:=h;have nd:=sc_Bench_write_cell.nd;have hr1:=hr;refine ⟨_,(zd (zv (i:=4) nd rfl (Or.inl rfl) (zi zB (zq zO (zu (pv 0) rfl) (pv 1) (λ_ _=>rfl)) (pv 2)))
   (zd (zW (yb TO CN.c hr1 zt (pv 0) (zb zN (zb (pv 4) ze))))
   (zf (Zt (pv 3) (Zu (zu (pv 0) rfl) (pv 4) xw))))),?_⟩
 dsimp only [ym,Cx.nox,Cx.wish];refine ⟨_,rfl,A.b,_,_,_,.ref A.aS,rfl,m.b,CN.c,CN.starts,rfl,_,rfl,A.aS,_,_,_,rfl,rfl,SqL.of (m.h.sm _ _ m.bb.starts),xl row h0 rfl,_,rfl,_,_,rfl,rfl,?_⟩;refine ⟨_,rfl,A.b,_,_,rfl,m.b,rfl,_,rfl,B,A,M,R,"write",M.adr row place,rfl,m,hl,λB1 A1 H1 s1 eb m1=>?_⟩;refine ⟨_,rfl,_,rfl,A1.b,_,_,_,.ref A1.aC,by rw [eb],m1.b,CN.c,CN.cells,rfl,_,rfl,A1.aC,_,_,(M.adr row place).toNat,rfl,rfl,m1.h.get 1 rfl,?_,?_⟩
 ·show ixN (M.cells.map V.int).length (M.adr row place)=_
  unfold ixN;rw [if_pos h1,if_pos (by rw [Jg];omega)]
 ·have h:=m1.h.put (o':=.lst ((M.cells.set (M.adr row place).toNat n).map V.int)) 1 rfl
  rw [List.map_set] at h;refine k B1 A1 _ s1 eb ⟨⟨m1.bb.lens,m1.bb.starts,m1.bb.bx,m1.bb.msk,m1.bb.ml,m1.bb.dl,m1.bb.pl,m1.bb.tl,m1.bb.tt,m1.bb.ul,m1.bb.uu,m1.bb.rf⟩,?_⟩;show Hd B1 (objs c A1 (M.wrote row place n) R) _;unfold objs;rw [show ((M.wrote row place n).cells.map V.int)=(M.cells.map V.int).set (M.adr row place).toNat (.int n) from List.map_set ..];exact h
def at_bl {bs:List Bool} {j:Int} (i:Nat) (h:i<bs.length) (e:j=i):atI (bs.map V.bl) j=some (.bl (bs.getD i false)):=by
 subst e;refine zm ?_;rw [List.getElem?_map,List.getElem?_eq_getElem h,q1x,List.getElem?_eq_getElem h];rfl
def Mc.isAct (M:Mc) (k j:Nat):Bool:=(M.mq.getD k []).getD j false && !(yd M.fq (.inl (j:Int))).isSome
def Mc.actTo (M:Mc) (k n:Nat):J9:=((List.range n).filter (M.isAct k)).map λj:Nat=>(j:Int)
def Mc.act (M:Mc) (k:Nat):J9:=M.actTo k M.wq.toNat
def Mc.actTo_succ (M:Mc) (k n:Nat):M.actTo k (n+1)=M.actTo k n++if M.isAct k n then [(n:Int)] else []:=by
 unfold Mc.actTo;rw [List.range_succ,List.filter_append,Ji];congr 1;by_cases z:M.isAct k n=true
 ·rw [List.filter_cons_of_pos z,if_pos z];rfl
 ·rw [List.filter_cons_of_neg z,if_neg z];rfl
def Mc.actTo_len (M:Mc) (k n:Nat):(M.actTo k n).length<=n:=by
 unfold Mc.actTo;rw [Jg];have:=List.length_filter_le (M.isAct k) (List.range n);rw [List.length_range] at this;exact this
def Mc.act_mem {M:Mc} {k:Nat} {j:Int} (h:j∈M.act k):0<=j/\j.toNat<M.wq.toNat/\M.isAct k j.toNat=true:=by
 obtain ⟨i,hi,rfl⟩:=List.mem_map.mp h;obtain ⟨a,b⟩:=List.mem_filter.mp hi;have:=List.mem_range.mp a;exact ⟨by omega,by omega,b⟩
inductive spAct (c:MCs) (vs:Jl) (H:Hp) (Q:VK) (_:XK):Prop
 | mk (B:Hp) (A:Ma) (M:Mc) (R:Jk) (k:Nat) (_:vs=[.ref A.b,.int k]) (_:MAt c B A M R H) (_:k<M.mq.length) (_:0<=M.wq) (_:M.wq.toNat<=(M.mq.getD k []).length) (_:M.wq.toNat<=1000) (_:∀ B' H' l,Same B B'->MAt c B' A M R H'->B' l=some (.lst ((M.act k).map V.int))->Q (.ref l) H')
def ok_act {c:MCs} (d:zY K c.bn "active_under" "Bench.active_under" yf ["self","mask"]) (hrg:mg "range"=none) (CN:NCls K c.bn):OkM P w K mg base CX0 1 c.bn "active_under" ["self","mask"] (spAct c):=by
 obtain ⟨f,fd,m,F,bd⟩:=d;refine ⟨f,fd,m,bd,F.ok sc_Bench_active_under (by rintro vs H Q E ⟨_,_,_,_,_,e,_⟩;rw [e];rfl) λcdv A outer s H vs Q E hr h=>?_⟩;obtain ⟨B,A,M,R,k,rfl,m,hk,w0,w1,w2,q⟩:=h;have nd:=sc_Bench_active_under.nd;have hu:=Nat.lt_of_le_of_lt (Nat.add_le_add_left (show 1<=64 by decide) _) hr.units;obtain ⟨x,ex,hx⟩:=m.mask hk;have SL:(3000:Nat)<sizeLine:=by decide
 refine ⟨_,(zd (zv (i:=2) nd rfl (Or.inr rfl) (zq zO (zu (pv 0) rfl) (pv 1) (λ_ _=>rfl)))
   (zf (zo (zbh ["lane","truths","self"] [none,some 2,some 0] rfl rfl rfl (yN rfl hrg (zb (zu (pv 0) rfl) ze)) (λs3 H3 fp=>⟨zR (i:=0) (Jn ["lane","truths","self"]) rfl (Or.inl rfl),(PW.pt (Y7 (yQ (zq (ix_listK (K:=K) rfl) (pv 1) (pv 0) (λ_ _=>rfl))) (Z8 (pt_cmp (pc_dnotin hu (pv 0) (YQ (K:=K) rfl (pv 2) rfl)) rfl)))),(pv 0)⟩))))),?_⟩
 dsimp only [ym,Cx.nox,Cx.wish];refine ⟨_,rfl,A.b,_,_,_,.ref A.aM,rfl,m.b,CN.c,CN.mq,rfl,_,rfl,A.aM,_,_,.ref x,rfl,rfl,SqL.of (m.h.sm _ _ m.bb.msk),zm (by rw [List.getElem?_map,ex];rfl),?_⟩;refine ⟨_,rfl,A.b,_,_,_,.int M.wq,rfl,m.b,CN.c,CN.wq,rfl,_,rfl,(by show -(2 ^ 62)<=M.wq;omega),(by show M.wq<2 ^ 62;omega),_,rfl,λD nD=>?_⟩;have h0:Hd H [(D,.lst ((M.actTo k 0).map V.int))] (upd H D (.lst [])):=Hd.base.new nD;generalize upd H D (.lst [])=H1 at h0 ⊢;refine zbx (n:=M.wq.toNat) (λi σ J=>∃ u,σ=[u,rq x,rq A.b]/\Hd H [(D,.lst ((M.actTo k i).map V.int))] J) ⟨none,rfl,h0⟩ ?_ ?_
 ·clear h0
  rintro i σ J hi ⟨u,rfl,h⟩;have la:=M.actTo_len k i;rw [M.actTo_succ k i];have fin:M.isAct k i=false->∃ u,[some (V.int (0+(i:Int))),some (.ref x),some (.ref A.b)]=[u,rq x,rq A.b]/\Hd H [(D,.lst ((M.actTo k i++if M.isAct k i=true then [(i:Int)] else []).map V.int))] J:=λe=>⟨_,rfl,by rw [e,if_neg (by decide),q3y];exact h⟩;refine ⟨_,rfl,_,rfl,x,_,_,_,rfl,rfl,SqL.of (h.sm _ _ hx),at_bl i (by omega) (by omega),_,rfl,?_⟩;refine xA (λz1=>?_) (λz1=>yw (fin (by unfold Mc.isAct;rw [Bool.eq_false_iff.mpr z1,Bool.false_and])));refine ⟨_,rfl,_,rfl,A.b,_,_,_,.ref A.aF,rfl,h.sm _ _ m.b,CN.c,CN.fq,rfl,A.aF,_,rfl,DGet.k (k:=.inl (0+(i:Int))) (h.sm _ _ (m.h.get 7 rfl)),_,rfl,?_⟩;rw [Int.zero_add] at *;refine xA (λz2=>?_) (λz2=>fin (by unfold Mc.isAct;rw [z1,Bool.eq_false_iff.mpr z2];rfl));refine ⟨_,rfl,_,h.get 0 rfl,(by rw [Jg];omega),_,rfl,?_⟩;have e:M.isAct k i=true:=by unfold Mc.isAct;rw [z1,z2];rfl
  rw [e,if_pos rfl,Ji];exact h.put 0 rfl
 ·rintro σ J ⟨u,rfl,h⟩
  exact q _ J D (zn (Same.refl _) (m.h.free (h.nw _ (List.mem_singleton.mpr rfl)))) (m.adopt h) zh
def Mc.nq (M:Mc) (p:Nat) (j:Int):Int:=M.nums.getD ((p:Int)*M.group*M.lq+j).toNat 0
structure MOk (M:Mc):Prop where
 l1:1<=M.lq
 l64:M.lq<=64
 g:M.group=1∨M.group=2∨M.group=4
 nl:M.nums.length=8*M.lq
 ml:M.mq.length=16
 mm:∀ m∈M.mq,m.length=4*M.lq
 w0:0<=M.wq
 w1:M.wq<=M.group*M.lq
inductive spNums (c:MCs) (K:Fg) (vs:Jl) (H:Hp) (Q:VK) (_:XK):Prop
 | mk (B:Hp) (A:Ma) (M:Mc) (R:Jk) (p:Nat) (aa:Ad) (js:J9) (_:vs=[.ref A.b,.int p,.ref aa]) (_:MAt c B A M R H) (_:MOk M) (_:((p:Int)+1)*M.group<=8) (_:B aa=some (.lst (js.map V.int))) (_:(∀ j∈js,0<=j/\j<M.group*M.lq)) (_:js.length<=1000) (_:∀ B' H' l,Same B B'->MAt c B' A M R H'->B' l=some (.lst ((js.map (M.nq p)).map V.int))->Q (.ref l) H')
def zae {g L p j:Int} (hg:g=1∨g=2∨g=4) (h1:1<=L) (hp:0<=p) (h8:(p+1)*g<=8) (j0:0<=j) (j1:j<g*L):0<=p*g*L+j/\p*g*L+j<8*L:=by
 have e:(p+1)*g*L<=8*L:=Int.mul_le_mul_of_nonneg_right h8 (by omega);have e2:(p+1)*g*L=p*g*L+g*L:=by rw [Int.add_mul,Int.add_mul,Int.one_mul]
 have e3:0<=p*g*L:=Int.mul_nonneg (Int.mul_nonneg hp (by omega)) (by omega);omega
def ok_nums {c:MCs} (d:zY K c.bn "numbers_in" "Bench.numbers_in" yv ["self","seat","active"]) (CC:MCls K c) (NA:OkM P w K mg base CX0 2 c.bx "number_at" ["self","group","seat","lane"] (spNum c.bx)):OkM P w K mg base CX0 3 c.bn "numbers_in" ["self","seat","active"] (spNums c K):=by
 obtain ⟨f,fd,m,F,bd⟩:=d;refine ⟨f,fd,m,bd,F.ok sc_Bench_numbers_in (by rintro vs H Q E ⟨_,_,_,_,_,_,_,e,_⟩;rw [e];rfl) λcdv A outer s H vs Q E hr h=>?_⟩;obtain ⟨B,A,M,R,p,aa,js,rfl,m,ok,h8,ea,hj,hl,q⟩:=h;have nd:=sc_Bench_numbers_in.nd;have hr2:=hr;have CN:=CC.n;have SL:(3000:Nat)<sizeLine:=by decide
 have l1:=ok.l1;have l64:=ok.l64;have hg:=ok.g;refine ⟨_,(zf (zo (Zf ["lane","seat","self"] [none,some 1,some 0] rfl rfl rfl (zap (pv 2)) (λs3 H3 fp=>⟨zR (i:=0) (Jn ["lane","seat","self"]) rfl (Or.inl rfl),(yb NA CC.b.c hr2 zt (YQ (K:=K) rfl (pv 2) rfl) (zb (YQ (K:=K) rfl (pv 2) rfl) (zb (pv 1) (zb (pv 0) ze))))⟩)))),?_⟩;dsimp only [ym,Cx.nox,Cx.wish];refine ⟨_,rfl,aa,rfl,⟨_,SqL.of (m.h.sm _ _ ea)⟩,_,rfl,λD nD=>?_⟩;have h0:Hd H [(D,.lst (((js.take 0).map (M.nq p)).map V.int))] (upd H D (.lst [])):=Hd.base.new nD;generalize upd H D (.lst [])=H1 at h0 ⊢;refine X3 (K:=K) (a:=aa) (D:=D) (xs:=js.map V.int) (λi σ J=>∃ u,σ=[u,iq p,rq A.b]/\Hd H [(D,.lst (((js.take i).map (M.nq p)).map V.int))] J) ⟨none,rfl,h0⟩ (λi σ J _ ⟨_,_,h⟩=>SqL.of (h.sm _ _ (m.h.sm _ _ ea))) ?_ ?_
 ·clear h0
  rintro i y σ J hy ⟨u,rfl,h⟩;obtain ⟨hlt,rfl⟩:=ZQ hy;have mj:=L2.getD_mem hlt;have e9:js[i]?=some (js.getD i 0):=by rw [q1x,List.getElem?_eq_getElem hlt];rfl
  generalize js.getD i 0=j at mj e9;obtain ⟨j0,j1⟩:=hj j mj;obtain ⟨s0,s1⟩:=zae hg (show (1:Int)<=M.lq by omega) (show (0:Int)<=p by omega) h8 j0 j1;refine ⟨_,rfl,A.b,_,_,_,.ref A.bx,rfl,h.sm _ _ m.b,CN.c,CN.boxes,rfl,A.bx,_,_,rfl,h.sm _ _ (m.h.sm _ _ m.bb.bx),rfl,_,rfl,A.b,_,_,_,.int M.group,rfl,h.sm _ _ m.b,CN.c,CN.group,rfl,_,rfl,_,rfl,A.bx,A.dbx,A.aN,M.lq,M.group,p,j,M.nums,rfl,h.sm _ _ (m.h.sm _ _ m.bb.bx),h.sm _ _ (m.h.get 2 rfl),by omega,by omega,by omega,by omega,s0,by rw [ok.nl];omega,?_⟩;refine ⟨_,h.get 0 rfl,(by rw [Jg,Jg,List.length_take];omega),_,rfl,?_⟩;have h3:=h.put (o':=.lst (((js.take (i+1)).map (M.nq p)).map V.int)) 0 rfl
  have e:(((js.take (i+1)).map (M.nq p)).map V.int)=(((js.take i).map (M.nq p)).map V.int)++[V.int (M.nq p j)]:=by
   rw [List.take_add_one,e9,Ji,Ji];rfl
  rw [e] at h3 ⊢;exact h3
 ·rintro σ J ⟨u,rfl,h⟩
  rw [Jg,List.take_length] at h;exact q _ J D (zn (Same.refl _) (m.h.free (h.nw _ (List.mem_singleton.mpr rfl)))) (m.adopt h) zh
section
variable {c:MCs} {B:Hp} {A:Ma} {M:Mc} {R:Jk} {H H':Hp}
def mskO_len (m:MAt c B A M R H):(Zg A M).length=A.ms.length:=by
 unfold Zg;rw [Jg,List.length_zip,m.bb.ml];omega
theorem MAt.putMask (m:MAt c B A M R H) {k:Nat} {x:Ad} (ex:A.ms[k]?=some x) (hk:k<M.mq.length) (b:List Bool):MAt c B A { M with mq:=M.mq.set k b } R (upd H x (.lst (b.map V.bl))):=by
 have lm:=mskO_len m;have ml:=m.bb.ml;have lk:k<A.ms.length:=(List.getElem?_eq_some_iff.mp ex).1;have e0:(A.ms.zip M.mq)[k]?=some (x,M.mq[k]):=by rw [List.getElem?_zip_eq_some];exact ⟨ex,by rw [List.getElem?_eq_getElem hk]⟩
 have e:(objs c A M R)[9+k]?=some (x,.lst ((M.mq[k]).map V.bl)):=by
  unfold objs;rw [show 9+k=k+1+1+1+1+1+1+1+1+1 by omega];simp only [List.getElem?_cons_succ];rw [q4x (by omega)];unfold Zg;rw [List.getElem?_map,e0];rfl
 have h:=m.h.put (o':=.lst (b.map V.bl)) _ e;refine ⟨⟨m.bb.lens,m.bb.starts,m.bb.bx,m.bb.msk,by show A.ms.length=(M.mq.set k b).length;rw [List.length_set,ml],m.bb.dl,m.bb.pl,m.bb.tl,m.bb.tt,m.bb.ul,m.bb.uu,m.bb.rf⟩,?_⟩
 have es:(objs c A M R).set (9+k) (x,.lst (b.map V.bl))=objs c A { M with mq:=M.mq.set k b } R:=by
  unfold objs;rw [show 9+k=k+1+1+1+1+1+1+1+1+1 by omega];simp only [List.set_cons_succ];rw [List.set_append_left _ _ (by omega)]
  have:(Zg A M).set k (x,.lst (b.map V.bl))=Zg A { M with mq:=M.mq.set k b }:=by
   unfold Zg;show ((A.ms.zip M.mq).map _).set k _=(A.ms.zip (M.mq.set k b)).map _
   have ez:A.ms.zip (M.mq.set k b)=(A.ms.zip M.mq).set k (x,b):=by
    apply List.ext_getElem?;intro j;rw [List.getElem?_set]
    split
    ·rename_i e
     subst e;rw [if_pos (by rw [List.length_zip];omega),List.getElem?_zip_eq_some];exact ⟨ex,by rw [q3z hk]⟩
    ·rename_i ne
     cases hz:(A.ms.zip M.mq)[j]? with
     | none =>
      rw [List.getElem?_eq_none_iff] at hz ⊢;rw [List.length_zip] at hz ⊢;rw [List.length_set];exact hz
     | some q =>
      rw [List.getElem?_zip_eq_some] at hz ⊢;exact ⟨hz.1,by rw [List.getElem?_set_ne ne];exact hz.2⟩
   rw [ez,List.map_set]
  rw [this];rfl
 rw [es] at h;exact h
def MAt.mask' (m:MAt c B A M R H) {k:Nat} {x:Ad} (ex:A.ms[k]?=some x) (hk:k<M.mq.length):H x=some (.lst ((M.mq.getD k []).map V.bl)):=by
 obtain ⟨y,ey,hy⟩:=m.mask hk;rw [ex] at ey;cases ey;exact hy
def MAt.took (m:MAt c B A M R H) (k:∀ b o,b≠A.fd->H b=some o->H' b=some o) (e:H' A.fd=some (ZK c.fe A.dfd A.aD (fAt M.dust (M.dq+1)))):MAt c B A { M with dq:=M.dq+1 } R H' :=
 ⟨⟨m.bb.lens,m.bb.starts,m.bb.bx,m.bb.msk,m.bb.ml,m.bb.dl,m.bb.pl,m.bb.tl,m.bb.tt,m.bb.ul,m.bb.uu,m.bb.rf⟩,m.h.chg 4 rfl k e⟩
end
def clr (m:List Bool) (n:Nat):List Bool:=(List.range n).foldl (λm j=>m.set j false) m
def sel (m:List Bool) (js:J9):List Bool:=js.foldl (λm j=>m.set j.toNat true) m
def dst (d:J9) (q:Nat) (m:List Bool) (lo k:Nat):List Bool:=(List.range k).foldl (λm t=>m.set (lo+t) (decide (fVal d (q+t) % 2=1))) m
theorem Za (m:List Bool):∀ n,(clr m n).length=m.length
 | 0=>rfl
 | n+1=>by unfold clr;rw [List.range_succ,List.foldl_append];show (List.set _ _ _).length=_;rw [List.length_set];exact Za m n
theorem Z1:∀ (js:J9) (m:List Bool),(sel m js).length=m.length
 | [],_=>rfl
 | j::js,m=>by show (sel (m.set j.toNat true) js).length=_;rw [Z1 js,List.length_set]
theorem YR (d:J9) (q:Nat) (m:List Bool) (lo:Nat):∀ k,(dst d q m lo k).length=m.length
 | 0=>rfl
 | n+1=>by unfold dst;rw [List.range_succ,List.foldl_append];show (List.set _ _ _).length=_;rw [List.length_set];exact YR d q m lo n
def zby (m:List Bool) (n:Nat):clr m (n+1)=(clr m n).set n false:=by unfold clr;rw [List.range_succ,List.foldl_append];rfl
def zbu (d:J9) (q:Nat) (m:List Bool) (lo n:Nat):dst d q m lo (n+1)=(dst d q m lo n).set (lo+n) (decide (fVal d (q+n) % 2=1)):=by unfold dst;rw [List.range_succ,List.foldl_append];rfl
def sel_snoc (m:List Bool) (js:J9) (j:Int):sel m (js++[j])=(sel m js).set j.toNat true:=by unfold sel;rw [List.foldl_append];rfl
def Mc.room (M:Mc):Nat:=(M.group*M.lq).toNat
def Mc.maskOf (M:Mc) (k:Nat) (js:J9):List Bool:=dst M.dust M.dq (sel (clr (M.mq.getD k []) M.wq.toNat) js) M.wq.toNat (M.room-M.wq.toNat)
def Mc.laidMask (M:Mc) (k:Nat) (js:J9):Mc:={ M with mq:=M.mq.set k (M.maskOf k js),dq:=M.dq+(M.room-M.wq.toNat) }
inductive spMask (c:MCs) (K:Fg) (vs:Jl) (H:Hp) (Q:VK) (_:XK):Prop
 | mk (B:Hp) (A:Ma) (M:Mc) (R:Jk) (k:Nat) (aa:Ad) (js:J9) (_:vs=[.ref A.b,.int k,.ref aa]) (_:MAt c B A M R H) (_:MOk M) (_:k<16) (_:B aa=some (.lst (js.map V.int))) (_:(∀ j∈js,0<=j/\j<M.group*M.lq)) (_:∀ H',MAt c B A (M.laidMask k js) R H'->Q .non H')
def ok_mask {c:MCs} (d:zY K c.bn "lay_mask" "Bench.lay_mask" yL ["self","mask","chosen"]) (hrg:mg "range"=none) (CC:MCls K c) (TK:OkM P w K mg base CX0 1 c.fe "taken" ["self"] (spTaken c.fe)):OkM P w K mg base CX0 2 c.bn "lay_mask" ["self","mask","chosen"] (spMask c K):=by
 obtain ⟨f,fd,m,F,bd⟩:=d;refine ⟨f,fd,m,bd,F.ok sc_Bench_lay_mask (by rintro vs H Q E ⟨_,_,_,_,_,_,_,e,_⟩;rw [e];rfl) λcdv A outer s H vs Q E hr h=>?_⟩;obtain ⟨B,A,M,R,k,aa,js,rfl,m,ok,hk,ea,hj,q⟩:=h;have nd:=sc_Bench_lay_mask.nd;have hr1:=hr;have CN:=CC.n;have ml:=ok.ml;have hk':k<M.mq.length:=by omega
 have l1:=ok.l1;have l64:=ok.l64;have hg:=ok.g;have w0:=ok.w0;have w1:=ok.w1;have rb:M.group*M.lq<=4*M.lq/\1<=M.group*M.lq:=by rcases hg with e | e | e <;> rw [e] <;> omega
 have lm:(M.mq.getD k []).length=4*M.lq:=by
  rw [q1x,List.getElem?_eq_getElem hk'];exact ok.mm _ (List.getElem_mem hk')
 obtain ⟨x,ex,hx⟩:=m.mask hk';refine ⟨_,(zd (zv (i:=3) nd rfl (Or.inl rfl) (zq zO (zu (pv 0) rfl) (pv 1) (λ_ _=>rfl)))
   (zd (Zn PassesOwn.never rfl (yN rfl hrg (zb (zu (pv 0) rfl) ze)) (zR (i:=4) nd rfl (Or.inl rfl)) (zf (Zt xB (Zu (pv 3) (pv 4) xw))))
   (zd (Zn PassesOwn.never rfl (zap (pv 2)) (zR (i:=4) nd rfl (Or.inl rfl)) (zf (Zt xB (Zu (pv 3) (pv 4) xw))))
   (zf (Zn PassesOwn.never rfl (Ys rfl hrg (zb (zu (pv 0) rfl) (zb (zi yq (zu (pv 0) rfl) (zu (pv 0) rfl)) ze))) (zR (i:=4) nd rfl (Or.inl rfl)) (zf (Zt (yV xf (zi yD (pe_okM0 TK CC.f.c hr1 zt (zu (pv 0) rfl)) zc) zc (zG _)) (Zu (pv 3) (pv 4) xw)))))))),?_⟩
 dsimp only [ym,Cx.nox,Cx.wish];refine ⟨_,rfl,A.b,_,_,_,.ref A.aM,rfl,m.b,CN.c,CN.mq,rfl,_,rfl,A.aM,_,_,.ref x,rfl,rfl,SqL.of (m.h.sm _ _ m.bb.msk),zm (by rw [List.getElem?_map,ex];rfl),?_⟩
 have set_one:∀ {n:Nat} {bs:List Bool} {i:Int},i=(n:Int)->n<bs.length->ixN (bs.map V.bl).length i=some n:=λ{n bs i} e h=>by
  subst e;unfold ixN;rw [if_pos (by omega),if_pos (by rw [Jg];omega)];congr 1
 have st:∀ (b:List Bool),({ M with mq:=M.mq.set k b }:Mc).mq.getD k []=b:=λb=>by
  show (M.mq.set k b).getD k []=b;rw [q1x,q3z hk'];rfl
 have ss:∀ (b b':List Bool),({ ({ M with mq:=M.mq.set k b }:Mc) with mq:=(M.mq.set k b).set k b' }:Mc)={ M with mq:=M.mq.set k b' }:=λb b'=>by rw [List.set_set]
 refine ⟨_,rfl,A.b,_,_,_,.int M.wq,rfl,m.b,CN.c,CN.wq,rfl,_,rfl,(by show -(2 ^ 62)<=M.wq;omega),(by show M.wq<2 ^ 62;omega),?_⟩
 have m0:MAt c B A { M with mq:=M.mq.set k (clr (M.mq.getD k []) 0) } R H:=by
  have e:M.mq.set k (clr (M.mq.getD k []) 0)=M.mq:=by
   show M.mq.set k (M.mq.getD k [])=M.mq;rw [q1x,List.getElem?_eq_getElem hk'];exact List.set_getElem_self hk'
  rw [e];exact m
 show tFor_S _ _ _ _ _ _;let Pv1:Nat->St->Hp->Prop:=(λi σ J=>∃ u,σ=[rq A.b,iq k,rq aa,rq x,u]/\MAt c B A { M with mq:=M.mq.set k (clr (M.mq.getD k []) i) } R J);refine xQ (n:=M.wq.toNat) Pv1 ⟨none,rfl,m0⟩ ?_ ?_
 ·rintro i σ J hi ⟨u,rfl,m1⟩
  have hx1:=m1.mask' ex (by show k<(M.mq.set k _).length;rw [List.length_set];exact hk');rw [st] at hx1;refine ⟨_,rfl,_,rfl,x,_,_,i,rfl,rfl,hx1,set_one (by omega) (by rw [Za,lm];omega),_,rfl,?_⟩;have m2:=m1.putMask ex (by show k<(M.mq.set k _).length;rw [List.length_set];exact hk') (clr (M.mq.getD k []) (i+1));rw [ss] at m2;have e:((clr (M.mq.getD k []) (i+1)).map V.bl)=((clr (M.mq.getD k []) i).map V.bl).set i (.bl false):=by rw [zby,List.map_set]
  rw [e] at m2;exact m2
 clear m0 hx;rintro σ J ⟨u,rfl,m1⟩;refine ⟨_,rfl,aa,rfl,⟨_,SqL.of (m1.h.sm _ _ ea)⟩,?_⟩;let Pv2:Nat->St->Hp->Prop:=(λi σ J=>∃ u,σ=[rq A.b,iq k,rq aa,rq x,u]/\MAt c B A { M with mq:=M.mq.set k (sel (clr (M.mq.getD k []) M.wq.toNat) (js.take i)) } R J);refine for_list (K:=K) (a:=aa) (xs:=js.map V.int) Pv2 ⟨u,rfl,m1⟩ (λi σ J _ ⟨_,_,m⟩=>SqL.of (m.h.sm _ _ ea)) ?_ ?_
 ·rintro i y σ J hy ⟨u,rfl,m1⟩
  obtain ⟨hlt,rfl⟩:=ZQ hy;have mj:=L2.getD_mem hlt;have e9:js[i]?=some (js.getD i 0):=by rw [q1x,List.getElem?_eq_getElem hlt];rfl
  generalize js.getD i 0=j at mj e9;obtain ⟨j0,j1⟩:=hj j mj;have hx1:=m1.mask' ex (by show k<(M.mq.set k _).length;rw [List.length_set];exact hk');rw [st] at hx1;refine ⟨_,rfl,_,rfl,x,_,_,j.toNat,rfl,rfl,hx1,set_one (by omega) (by rw [Z1,Za,lm];omega),_,rfl,?_⟩;have m2:=m1.putMask ex (by show k<(M.mq.set k _).length;rw [List.length_set];exact hk') (sel (clr (M.mq.getD k []) M.wq.toNat) (js.take (i+1)));rw [ss] at m2
  have e:((sel (clr (M.mq.getD k []) M.wq.toNat) (js.take (i+1))).map V.bl)=((sel (clr (M.mq.getD k []) M.wq.toNat) (js.take i)).map V.bl).set j.toNat (.bl true):=by
   rw [List.take_add_one,e9];show ((sel _ (js.take i++[j])).map V.bl)=_;rw [sel_snoc,List.map_set]
  rw [e] at m2;exact m2
 rintro σ J1 ⟨u,rfl,m1⟩;rw [Jg,List.take_length] at m1;generalize hb:sel (clr (M.mq.getD k []) M.wq.toNat) js=b1 at m1;have lb1:b1.length=4*M.lq:=by rw [← hb,Z1,Za,lm]
 obtain ⟨wn,ew⟩:∃ n:Nat,M.wq=n:=⟨M.wq.toNat,by omega⟩;obtain ⟨rn,er⟩:∃ n:Nat,M.group*M.lq=n:=⟨(M.group*M.lq).toNat,by omega⟩;refine ⟨_,rfl,A.b,_,_,_,.int M.wq,rfl,m1.b,CN.c,CN.wq,rfl,_,rfl,A.b,_,_,_,.int M.group,rfl,m1.b,CN.c,CN.group,rfl,_,rfl,A.b,_,_,_,.int M.lq,rfl,m1.b,CN.c,CN.lq,rfl,_,_,rfl,rfl,.inl ⟨by omega,by omega⟩,_,_,rfl,?_,?_⟩
 ·exact ⟨by omega,by omega,by show -(2 ^ 62)<=M.group*M.lq;omega,by show M.group*M.lq<2 ^ 62;omega⟩
 have en:(M.group*M.lq-M.wq).toNat=M.room-M.wq.toNat:=by unfold Mc.room;omega
 show tFor_S _ _ _ _ _ _;let Pv3:Nat->St->Hp->Prop:=(λi σ J=>∃ u,σ=[rq A.b,iq k,rq aa,rq x,u]/\MAt c B A { M with mq:=M.mq.set k (dst M.dust M.dq b1 M.wq.toNat i),dq:=M.dq+i } R J);refine xQ (lo:=M.wq) (n:=(M.group*M.lq-M.wq).toNat) Pv3 ⟨u,rfl,m1⟩ ?_ ?_
 ·rintro i σ J hi ⟨u,rfl,m2⟩
  refine ⟨_,rfl,A.b,_,_,_,.ref A.fd,rfl,m2.b,CN.c,CN.dust,rfl,A.fd,_,_,rfl,m2.h.get 4 rfl,rfl,A.fd,A.dfd,A.aD,M.dust,M.dq+i,rfl,m2.h.get 4 rfl,m2.h.sm _ _ m2.bb.dl,λJ3 k3 e3=>?_⟩;have m3:=m2.took k3 e3;refine ⟨_,_,rfl,rfl,(by show (0:Int)<2;decide),rfl,_,rfl,_,rfl,?_⟩;have hx1:=m3.mask' ex (by show k<(M.mq.set k _).length;rw [List.length_set];exact hk');have e0:(M.mq.set k (dst M.dust M.dq b1 M.wq.toNat i)).getD k []=dst M.dust M.dq b1 M.wq.toNat i:=by rw [q1x,q3z hk'];rfl
  have hx1:J3 x=some (.lst ((dst M.dust M.dq b1 M.wq.toNat i).map V.bl)):=by rw [← e0];exact hx1
  refine ⟨x,_,_,M.wq.toNat+i,rfl,rfl,hx1,set_one (by omega) (by rw [YR,lb1];omega),_,rfl,?_⟩;have m4:=m3.putMask ex (by show k<(M.mq.set k _).length;rw [List.length_set];exact hk') (dst M.dust M.dq b1 M.wq.toNat (i+1))
  have e:((dst M.dust M.dq b1 M.wq.toNat (i+1)).map V.bl)=((dst M.dust M.dq b1 M.wq.toNat i).map V.bl).set (M.wq.toNat+i) (.bl (decide (V.int (fVal M.dust (M.dq+i) % 2)=V.int 1))):=by
   rw [zbu,List.map_set];congr 2;by_cases z:fVal M.dust (M.dq+i) % 2=1
   ·rw [z];rfl
   ·rw [decide_eq_false z,decide_eq_false (λq=>z (V.int.inj q))]
  rw [e] at m4;have e2:({ ({ ({ M with mq:=M.mq.set k (dst M.dust M.dq b1 M.wq.toNat i),dq:=M.dq+i }:Mc) with dq:=M.dq+i+1 }:Mc) with mq:=(M.mq.set k (dst M.dust M.dq b1 M.wq.toNat i)).set k (dst M.dust M.dq b1 M.wq.toNat (i+1)) }:Mc)={ M with mq:=M.mq.set k (dst M.dust M.dq b1 M.wq.toNat (i+1)),dq:=M.dq+(i+1) }:=by rw [List.set_set];rfl
  have m4:MAt c B A { M with mq:=M.mq.set k (dst M.dust M.dq b1 M.wq.toNat (i+1)),dq:=M.dq+(i+1) } R _:=e2 ▸ m4;exact m4
 ·rintro σ J2 ⟨u,rfl,m2⟩
  refine q J2 ?_;rw [en] at m2;unfold Mc.laidMask Mc.maskOf;rw [hb];exact m2
def Mc.layOne (told:Jj) (p:Nat) (M:Mc) (t:Nat):Mc:=match yd told (.inl (t:Int)) with
 | some (.int n)=>{ M with nums:=M.nums.set ((p:Int)*M.group*M.lq+t).toNat n }
 | _=>{ M with nums:=M.nums.set ((p:Int)*M.group*M.lq+t).toNat (fVal M.dust M.dq),dq:=M.dq+1 }
def Mc.layTo (told:Jj) (p:Nat) (M:Mc) (n:Nat):Mc:=(List.range n).foldl (λM t=>M.layOne told p t) M
def Mc.laidSeat (M:Mc) (told:Jj) (p:Nat):Mc:=M.layTo told p M.room
def Mc.layTo_succ (told:Jj) (p:Nat) (M:Mc) (n:Nat):M.layTo told p (n+1)=(M.layTo told p n).layOne told p n:=by unfold Mc.layTo;rw [List.range_succ,List.foldl_append];rfl
structure SeatSame (M N:Mc):Prop where
 g:N.group=M.group
 l:N.lq=M.lq
 n:N.nums.length=M.nums.length
 d:N.dust=M.dust
def Mc.layOne_same (told:Jj) (p:Nat) (M:Mc) (t:Nat):SeatSame M (M.layOne told p t):=by
 unfold Mc.layOne
 split
 ·exact ⟨rfl,rfl,List.length_set ..,rfl⟩
 ·exact ⟨rfl,rfl,List.length_set ..,rfl⟩
theorem Mc.layTo_same (told:Jj) (p:Nat) (M:Mc):∀ n,SeatSame M (M.layTo told p n)
 | 0=>⟨rfl,rfl,rfl,rfl⟩
 | n+1=>by
  have a:=Mc.layTo_same told p M n;have b:=Mc.layOne_same told p (M.layTo told p n) n;rw [M.layTo_succ];exact ⟨b.g.trans a.g,b.l.trans a.l,b.n.trans a.n,b.d.trans a.d⟩
section
variable {c:MCs} {B:Hp} {A:Ma} {M:Mc} {R:Jk} {H H':Hp}
def MAt.putNums (m:MAt c B A M R H) (ns:J9):MAt c B A { M with nums:=ns } R (upd H A.aN (.lst (ns.map V.int))) :=
 ⟨⟨m.bb.lens,m.bb.starts,m.bb.bx,m.bb.msk,m.bb.ml,m.bb.dl,m.bb.pl,m.bb.tl,m.bb.tt,m.bb.ul,m.bb.uu,m.bb.rf⟩,m.h.put (o':=.lst (ns.map V.int)) 2 rfl⟩
end
def y8 (js:J9) (vs:List (Option Int)):Jj:=putAll [] ((js.map Sum.inl).zip (vs.map oV))
theorem Y8:∀ (ps:Jj) (kvs:Jj) (P:V->Prop),(∀ p∈ps,P p.2)->(∀ k v,yd kvs k=some v->P v)->∀ k v,yd (putAll kvs ps) k=some v->P v
 | [],_,_,_,h,k,v,e=>h k v e
 | p::ps,kvs,P,hp,h,k,v,e=>by
  refine Y8 ps (xx kvs p.1 p.2) P (λq hq=>hp q (q1y _ hq)) (λk' v' e'=>?_) k v e;rw [ZY] at e'
  split at e'
  ·cases e';exact hp p q1z
  ·exact h k' v' e'
theorem told_val {js:J9} {vs:List (Option Int)} {k:Key} {v:V} (e:yd (y8 js vs) k=some v):v=.non∨∃ n,v=.int n:=by
 refine Y8 _ [] (λv=>v=.non∨∃ n,v=.int n) (λp hp=>?_) (λk v e=>by cases e) k v e;obtain ⟨o,_,eo⟩:=List.mem_map.mp (List.of_mem_zip hp).2
 cases o with
 | none=>exact .inl eo.symm
 | some n=>exact .inr ⟨n,eo.symm⟩
inductive spSeat (c:MCs) (K:Fg) (vs:Jl) (H:Hp) (Q:VK) (_:XK):Prop
 | mk (B:Hp) (A:Ma) (M:Mc) (R:Jk) (p:Nat) (aa an:Ad) (js:J9) (ns:List (Option Int)) (_:vs=[.ref A.b,.int p,.ref aa,.ref an]) (_:MAt c B A M R H) (_:MOk M) (_:((p:Int)+1)*M.group<=8) (_:B aa=some (.lst (js.map V.int))) (_:B an=some (.lst (ns.map oV))) (_:js.length=ns.length) (_:∀ B' H',Same B B'->MAt c B' A (M.laidSeat (y8 js ns) p) R H'->Q .non H')
theorem ok_seat {c:MCs} (d:zY K c.bn "lay_seat" "Bench.lay_seat" yK ["self","seat","active","numbers"]) (hrg:mg "range"=none) (hdict:mg "dict"=none) (hzip:mg "zip"=none) (CC:MCls K c) (TK:OkM P w K mg base CX0 1 c.fe "taken" ["self"] (spTaken c.fe)) (LA:OkM P w K mg base CX0 2 c.bx "lay" ["self","group","seat","lane","number"] (spLay c.bx)):OkM P w K mg base CX0 3 c.bn "lay_seat" ["self","seat","active","numbers"] (spSeat c K):=by
 obtain ⟨f,fd,m,F,bd⟩:=d;refine ⟨f,fd,m,bd,F.ok sc_Bench_lay_seat (by rintro vs H Q E ⟨_,_,_,_,_,_,_,_,_,e,_⟩;rw [e];rfl) λcdv A outer s H vs Q E hr h=>?_⟩;obtain ⟨B,A,M,R,p,aa,an,js,ns,rfl,m,ok,h8,ea,en,le,q⟩:=h;have nd:=sc_Bench_lay_seat.nd;have hr2:=hr;have hr1:=hr.mono (show 1<=2 by decide);have hu:=Nat.lt_of_le_of_lt (Nat.add_le_add_left (show 1<=64 by decide) _) hr.units;have CN:=CC.n;have l1:=ok.l1;have l64:=ok.l64;have hg:=ok.g;have rb:M.group*M.lq<=4*M.lq/\1<=M.group*M.lq:=by rcases hg with e | e | e <;> rw [e] <;> omega
 refine ⟨_,(zd (zv (i:=4) nd rfl (Or.inl rfl) (zcf rfl (by rfl) hdict (by rfl) hzip (zb (pv 2) (zb (pv 3) ze))))
   (zf (Zn PassesOwn.never rfl (yN rfl hrg (zb (zi yq (zu (pv 0) rfl) (zu (pv 0) rfl)) ze)) (zR (i:=5) nd rfl (Or.inl rfl)) (zd (zv (i:=6) nd rfl (Or.inl rfl) (pe_dget1 hu (pv 4) (pv 5) ⟨rfl,rfl,rfl,rfl⟩))
   (zd (xb (zZ (zK Xh (pv 6) yW (zG _)) (zf (zv (i:=6) nd rfl (Or.inl rfl) (pe_okM0 TK CC.f.c hr1 zt (zu (pv 0) rfl)))) zE))
   (zf (zW (yb LA CC.b.c hr2 zt (zu (pv 0) rfl) (zb (zu (pv 0) rfl) (zb (pv 1) (zb (pv 5) (zb (pv 6) ze)))))))))))),?_⟩
 dsimp only [ym,Cx.nox,Cx.wish];have ek:(js.map (Sum.inl:Int->Key)).map kV=js.map V.int:=by rw [List.map_map];rfl
 refine ⟨_,rfl,_,rfl,aa,an,js.map Sum.inl,ns.map oV,rfl,(by rw [ek];exact SqL.of (m.h.sm _ _ ea)),SqL.of (m.h.sm _ _ en),(by rw [Jg,Jg,le]),λdt ndt=>?_⟩;show gName 4 (.ref dt) _ (upd H dt (.dK (y8 js ns))) _;generalize et:y8 js ns=told at q;have tv:∀ k v,yd told k=some v->v=.non∨∃ n,v=.int n:=λk v e=>by rw [← et] at e;exact told_val e
 have sB:Same B (upd B dt (.dK told)):=zn (Same.refl _) (m.h.free ndt);have m1:=m.grow (o:=.dK told) ndt;have ed:upd B dt (.dK told) dt=some (.dK told):=zh;generalize upd B dt (.dK told)=B1 at sB m1 ed;generalize upd H dt (.dK told)=H1 at m1;refine ⟨_,rfl,A.b,_,_,_,.int M.group,rfl,m1.b,CN.c,CN.group,rfl,_,rfl,A.b,_,_,_,.int M.lq,rfl,m1.b,CN.c,CN.lq,rfl,_,_,rfl,rfl,.inl ⟨by omega,by omega⟩,_,rfl,(by show -(2 ^ 62)<=M.group*M.lq;omega),(by show M.group*M.lq<2 ^ 62;omega),?_⟩;show tFor_S _ _ _ _ _ _;refine xQ (n:=M.room) (λi σ J=>∃ u5 u6,σ=[rq A.b,iq p,rq aa,rq an,rq dt,u5,u6]/\MAt c B1 A (M.layTo told p i) R J) ⟨none,none,rfl,m1⟩ ?_ ?_
 ·rintro i σ J hi ⟨u5,u6,rfl,m2⟩
  have ss:=M.layTo_same told p i;have edJ:=m2.h.sm _ _ ed;have hi':(i:Int)<M.group*M.lq:=by unfold Mc.room at hi;omega
  obtain ⟨s0,s1⟩:=zae hg (show (1:Int)<=M.lq by omega) (show (0:Int)<=p by omega) h8 (show (0:Int)<=i by omega) hi';refine ⟨_,rfl,dt,rfl,.inl ⟨told,.inl edJ⟩,_,rfl,_,DGet.k (k:=.inl (0+(i:Int))) edJ,?_⟩;rw [Int.zero_add];rw [M.layTo_succ];generalize hM:M.layTo told p i=N at m2 ss ⊢;refine ⟨λσ' H'=>∃ (n:Int) (N':Mc),σ'=[rq A.b,iq p,rq aa,rq an,rq dt,iq i,iq n]/\MAt c B1 A N' R H'/\SeatSame M N'/\N.layOne told p i={ N' with nums:=N'.nums.set ((p:Int)*M.group*M.lq+i).toNat n },?_,?_⟩
  ·cases ev:yd told (.inl (i:Int)) with
   | none =>
    refine ⟨_,rfl,rfl,_,rfl,xA (λz=>?_) (λz=>absurd (show decide (V.non=V.non)=true by decide) z)⟩;refine ⟨_,rfl,A.b,_,_,_,.ref A.fd,rfl,m2.b,CN.c,CN.dust,rfl,A.fd,_,_,rfl,m2.h.get 4 rfl,rfl,A.fd,A.dfd,A.aD,N.dust,N.dq,rfl,m2.h.get 4 rfl,m2.h.sm _ _ m2.bb.dl,λJ3 k3 e3=>?_⟩;refine ⟨_,_,rfl,m2.took k3 e3,⟨ss.g,ss.l,ss.n,ss.d⟩,?_⟩;unfold Mc.layOne;rw [ev,ss.g,ss.l]
   | some v =>
    rcases tv _ _ ev with rfl | ⟨n,rfl⟩
    ·refine ⟨_,rfl,rfl,_,rfl,xA (λz=>?_) (λz=>absurd (show decide (V.non=V.non)=true by decide) z)⟩
     refine ⟨_,rfl,A.b,_,_,_,.ref A.fd,rfl,m2.b,CN.c,CN.dust,rfl,A.fd,_,_,rfl,m2.h.get 4 rfl,rfl,A.fd,A.dfd,A.aD,N.dust,N.dq,rfl,m2.h.get 4 rfl,m2.h.sm _ _ m2.bb.dl,λJ3 k3 e3=>?_⟩;refine ⟨_,_,rfl,m2.took k3 e3,⟨ss.g,ss.l,ss.n,ss.d⟩,?_⟩;unfold Mc.layOne;rw [ev,ss.g,ss.l]
    ·refine ⟨_,rfl,rfl,_,rfl,xA (λz=>absurd z (λy=>by cases of_decide_eq_true y)) (λz=>?_)⟩
     refine ⟨n,N,rfl,m2,ss,?_⟩;unfold Mc.layOne;rw [ev,ss.g,ss.l]
  rintro σ' H' ⟨n,N',rfl,m3,ss',e⟩;rw [e];have eg:=ss'.g;have el:=ss'.l;refine ⟨_,rfl,A.b,_,_,_,.ref A.bx,rfl,m3.b,CN.c,CN.boxes,rfl,A.bx,_,_,rfl,m3.h.sm _ _ m3.bb.bx,rfl,_,rfl,A.b,_,_,_,.int N'.group,rfl,m3.b,CN.c,CN.group,rfl,_,rfl,_,rfl,_,rfl,A.bx,A.dbx,A.aN,N'.lq,N'.group,p,(i:Int),n,N'.nums,rfl,m3.h.sm _ _ m3.bb.bx,m3.h.get 2 rfl,by rw [el];omega,by rw [el];omega,by rw [eg];omega,by rw [eg];omega,?_,?_,?_⟩
  ·rw [eg,el];exact s0
  ·rw [eg,el,ss'.n,ok.nl];omega
  ·refine ⟨_,_,rfl,?_⟩
   have:=m3.putNums (N'.nums.set ((p:Int)*N'.group*N'.lq+i).toNat n);rw [← eg,← el];exact this
 ·rintro σ J ⟨u5,u6,rfl,m2⟩
  exact q B1 J sB m2
section
variable {c:MCs} {B:Hp} {A:Ma} {M:Mc} {R:Jk} {H H':Hp}
def MAt.s_pc (m:MAt c B A M R H) (v:Int):MAt c B A { M with pc:=v } R (upd H A.b (.ins c.bn A.db (zL "at" (.int v) (yY A M)))) :=
 ⟨⟨m.bb.lens,m.bb.starts,m.bb.bx,m.bb.msk,m.bb.ml,m.bb.dl,m.bb.pl,m.bb.tl,m.bb.tt,m.bb.ul,m.bb.uu,m.bb.rf⟩,m.h.put (o':=.ins c.bn A.db (zL "at" (.int v) (yY A M))) 0 rfl⟩
def MAt.s_opened (m:MAt c B A M R H) (v:Int):MAt c B A { M with oq:=v } R (upd H A.b (.ins c.bn A.db (zL "opened" (.int v) (yY A M)))) :=
 ⟨⟨m.bb.lens,m.bb.starts,m.bb.bx,m.bb.msk,m.bb.ml,m.bb.dl,m.bb.pl,m.bb.tl,m.bb.tt,m.bb.ul,m.bb.uu,m.bb.rf⟩,m.h.put (o':=.ins c.bn A.db (zL "opened" (.int v) (yY A M))) 0 rfl⟩
def MAt.s_many (m:MAt c B A M R H) (v:Int):MAt c B A { M with mn_:=v } R (upd H A.b (.ins c.bn A.db (zL "many" (.int v) (yY A M)))) :=
 ⟨⟨m.bb.lens,m.bb.starts,m.bb.bx,m.bb.msk,m.bb.ml,m.bb.dl,m.bb.pl,m.bb.tl,m.bb.tt,m.bb.ul,m.bb.uu,m.bb.rf⟩,m.h.put (o':=.ins c.bn A.db (zL "many" (.int v) (yY A M))) 0 rfl⟩
def MAt.s_group (m:MAt c B A M R H) (v:Int):MAt c B A { M with group:=v } R (upd H A.b (.ins c.bn A.db (zL "group" (.int v) (yY A M)))) :=
 ⟨⟨m.bb.lens,m.bb.starts,m.bb.bx,m.bb.msk,m.bb.ml,m.bb.dl,m.bb.pl,m.bb.tl,m.bb.tt,m.bb.ul,m.bb.uu,m.bb.rf⟩,m.h.put (o':=.ins c.bn A.db (zL "group" (.int v) (yY A M))) 0 rfl⟩
def MAt.s_base (m:MAt c B A M R H) (v:Int):MAt c B A { M with base:=v } R (upd H A.b (.ins c.bn A.db (zL "base" (.int v) (yY A M)))) :=
 ⟨⟨m.bb.lens,m.bb.starts,m.bb.bx,m.bb.msk,m.bb.ml,m.bb.dl,m.bb.pl,m.bb.tl,m.bb.tt,m.bb.ul,m.bb.uu,m.bb.rf⟩,m.h.put (o':=.ins c.bn A.db (zL "base" (.int v) (yY A M))) 0 rfl⟩
def MAt.s_begun (m:MAt c B A M R H) (v:Int):MAt c B A { M with bq:=v } R (upd H A.b (.ins c.bn A.db (zL "begun" (.int v) (yY A M)))) :=
 ⟨⟨m.bb.lens,m.bb.starts,m.bb.bx,m.bb.msk,m.bb.ml,m.bb.dl,m.bb.pl,m.bb.tl,m.bb.tt,m.bb.ul,m.bb.uu,m.bb.rf⟩,m.h.put (o':=.ins c.bn A.db (zL "begun" (.int v) (yY A M))) 0 rfl⟩
def MAt.s_width (m:MAt c B A M R H) (v:Int):MAt c B A { M with wq:=v } R (upd H A.b (.ins c.bn A.db (zL "width" (.int v) (yY A M)))) :=
 ⟨⟨m.bb.lens,m.bb.starts,m.bb.bx,m.bb.msk,m.bb.ml,m.bb.dl,m.bb.pl,m.bb.tl,m.bb.tt,m.bb.ul,m.bb.uu,m.bb.rf⟩,m.h.put (o':=.ins c.bn A.db (zL "width" (.int v) (yY A M))) 0 rfl⟩
def MAt.s_cut (m:MAt c B A M R H) (v:Option Int):MAt c B A { M with cut:=v } R (upd H A.b (.ins c.bn A.db (zL "cut" (oV v) (yY A M)))) :=
 ⟨⟨m.bb.lens,m.bb.starts,m.bb.bx,m.bb.msk,m.bb.ml,m.bb.dl,m.bb.pl,m.bb.tl,m.bb.tt,m.bb.ul,m.bb.uu,m.bb.rf⟩,m.h.put (o':=.ins c.bn A.db (zL "cut" (oV v) (yY A M))) 0 rfl⟩
def MAt.s_carried (m:MAt c B A M R H) (v:Option Int):MAt c B A { M with cq:=v } R (upd H A.b (.ins c.bn A.db (zL "carried" (oV v) (yY A M)))) :=
 ⟨⟨m.bb.lens,m.bb.starts,m.bb.bx,m.bb.msk,m.bb.ml,m.bb.dl,m.bb.pl,m.bb.tl,m.bb.tt,m.bb.ul,m.bb.uu,m.bb.rf⟩,m.h.put (o':=.ins c.bn A.db (zL "carried" (oV v) (yY A M))) 0 rfl⟩
def MAt.s_raised (m:MAt c B A M R H) (v:Bool):MAt c B A { M with raised:=v } R (upd H A.b (.ins c.bn A.db (zL "raised" (.bl v) (yY A M)))) :=
 ⟨⟨m.bb.lens,m.bb.starts,m.bb.bx,m.bb.msk,m.bb.ml,m.bb.dl,m.bb.pl,m.bb.tl,m.bb.tt,m.bb.ul,m.bb.uu,m.bb.rf⟩,m.h.put (o':=.ins c.bn A.db (zL "raised" (.bl v) (yY A M))) 0 rfl⟩
def MAt.s_faults (m:MAt c B A M R H) {n:Ad} (nn:H n=none):MAt c B { A with aF:=n } { M with fq:=[] } R (upd (upd H n (.dK [])) A.b (.ins c.bn A.db (zL "faults" (.ref n) (yY A M)))):=by
 have h:=(m.h.new (o:=.dK []) nn).put (o':=.ins c.bn A.db (zL "faults" (.ref n) (yY A M))) 1 rfl;refine ⟨⟨m.bb.lens,m.bb.starts,m.bb.bx,m.bb.msk,m.bb.ml,m.bb.dl,m.bb.pl,m.bb.tl,m.bb.tt,m.bb.ul,m.bb.uu,m.bb.rf⟩,?_⟩;have h2:=h.sub (L':=(n,.dK [])::(A.b,.ins c.bn A.db (zL "faults" (.ref n) (yY A M)))::(A.aC,.lst (M.cells.map V.int))::(A.aN,.lst (M.nums.map V.int))::(A.aSl,.dK M.slots)::(A.fd,ZK c.fe A.dfd A.aD (fAt M.dust M.dq))::(A.fp,ZK c.fe A.dfp A.aP (fAt M.picks M.pq))::(A.aT,.lst (A.ts.map V.ref))::(A.aU,.lst (A.us.map V.ref))::(Zg A M++R)) (.cons₂ _ (.cons₂ _ (.cons₂ _ (.cons₂ _ (.cons₂ _ (.cons₂ _ (.cons₂ _ (.cons₂ _ (.cons _ (List.Sublist.refl _))))))))));refine h2.perm ?_;exact (List.perm_middle (a:=(n,HO.dK [])) (l₁:=[_,_,_,_,_,_,_]) (l₂:=_::_)).symm
end
structure MOk0 (M:Mc):Prop where
 l1:1<=M.lq
 l64:M.lq<=64
 nl:M.nums.length=8*M.lq
 ml:M.mq.length=16
 mm:∀ m∈M.mq,m.length=4*M.lq
def MOk.zero {M:Mc} (ok:MOk M):MOk0 M:=⟨ok.l1,ok.l64,ok.nl,ok.ml,ok.mm⟩
def MOk0.strip {M:Mc} (ok:MOk0 M) (hg:M.group=1∨M.group=2∨M.group=4) {w b:Int} (h0:0<=w) (h1:w<=M.group*M.lq):MOk { M with base:=b,wq:=w,bq:=w,fq:=[],cut:=none }:=⟨ok.l1,ok.l64,hg,ok.nl,ok.ml,ok.mm,h0,h1⟩
def Mc.wide (M:Mc) (b:Int):Int:=if M.group*M.lq<M.mn_-b then M.group*M.lq else M.mn_-b
def Mc.strip (M:Mc) (b:Int):Mc:=({ M with base:=b,wq:=M.wide b,bq:=M.wide b,fq:=[],cut:=none }:Mc).laidMask 0 (yZ (M.wide b).toNat)
inductive spStrip (c:MCs) (vs:Jl) (H:Hp) (Q:VK) (_:XK):Prop
 | mk (B:Hp) (A:Ma) (M:Mc) (R:Jk) (b:Int) (_:vs=[.ref A.b,.int b]) (_:MAt c B A M R H) (_:MOk0 M) (_:(M.group=1∨M.group=2∨M.group=4)) (_:b<=M.mn_) (_:∀ B' A' H',Same B B'->A'.b=A.b->MAt c B' A' (M.strip b) R H'->Q .non H')
def ok_strip {c:MCs} (d:zY K c.bn "begin_strip" "Bench.begin_strip" yn ["self","base"]) (hrg:mg "range"=none) (hlist:mg "list"=none) (hmin:mg "min"=none) (CC:MCls K c) (LM:OkM P w K mg base CX0 2 c.bn "lay_mask" ["self","mask","chosen"] (spMask c K)):OkM P w K mg base CX0 3 c.bn "begin_strip" ["self","base"] (spStrip c):=by
 obtain ⟨f,fd,m,F,bd⟩:=d;refine ⟨f,fd,m,bd,F.ok sc_Bench_begin_strip (by rintro vs H Q E ⟨_,_,_,_,_,e,_⟩;rw [e];rfl) λcdv A outer s H vs Q E hr h=>?_⟩;obtain ⟨B,A,M,R,b,rfl,m,ok,hg,hb,q⟩:=h;have nd:=sc_Bench_begin_strip.nd;have hr2:=hr;have CN:=CC.n;have l1:=ok.l1;have l64:=ok.l64;have rb:M.group*M.lq<=4*M.lq/\1<=M.group*M.lq:=by rcases hg with e | e | e <;> rw [e] <;> omega
 have w01:0<=M.wide b/\M.wide b<=M.group*M.lq:=by unfold Mc.wide;split <;> omega
 refine ⟨_,(zd (zF (pv 0) (pv 1) rfl)
   (zd (zF (pv 0) (zD (X7 rfl) (by rfl) hmin PyProof.Rows.boot_min (zb (zi Zo (zu (pv 0) rfl) (pv 1)) (zb (zi yq (zu (pv 0) rfl) (zu (pv 0) rfl)) ze))) rfl)
   (zd (zF (pv 0) (zu (pv 0) rfl) rfl)
   (zd (zF (pv 0) Xe rfl)
   (zd (zF (pv 0) yW rfl)
   (zf (zW (yb LM CC.n.c hr2 zt (pv 0) (zb zc (zb (yp (XM rfl) (by rfl) hlist PyProof.Rows.boot_list (zb (yp zb1 (by rfl) hrg PyProof.Rows.boot_range (zb (zu (pv 0) rfl) ze)) ze)) ze)))))))))),?_⟩
 dsimp only [ym,Cx.nox,Cx.wish];refine ⟨_,rfl,_,rfl,A.b,_,_,_,rfl,m.b,CN.c,CN.base,(by show 23<1000;decide),?_⟩;have m:=m.s_base b;refine ⟨_,rfl,A.b,_,_,_,.int M.mn_,rfl,m.b,CN.c,CN.mn_,rfl,_,rfl,_,_,rfl,rfl,_,rfl,A.b,_,_,_,.int M.group,rfl,m.b,CN.c,CN.group,rfl,_,rfl,A.b,_,_,_,.int M.lq,rfl,m.b,CN.c,CN.lq,rfl,_,_,rfl,rfl,.inl ⟨by omega,by omega⟩,_,_,rfl,_,rfl,A.b,_,_,_,rfl,m.b,CN.c,CN.wq,(by show 23<1000;decide),?_⟩;have m:=m.s_width (M.wide b);refine ⟨_,rfl,A.b,_,_,_,.int (M.wide b),rfl,m.b,CN.c,CN.wq,rfl,_,rfl,A.b,_,_,_,rfl,m.b,CN.c,CN.bq,(by show 23<1000;decide),?_⟩;have m:=m.s_begun (M.wide b);refine λn nn=>?_;have mf:=m.s_faults nn;refine ⟨_,rfl,A.b,_,_,_,rfl,(by rw [zj (zr m.b nn)];exact m.b),CN.c,CN.fq,(by show 23<1000;decide),?_⟩;have m:=mf;refine ⟨_,rfl,A.b,_,_,_,rfl,m.b,CN.c,CN.cut,(by show 23<1000;decide),?_⟩;have m:=m.s_cut none;obtain ⟨wn,ew⟩:∃ wn:Nat,M.wide b=wn:=⟨(M.wide b).toNat,by omega⟩;have ok2:MOk { M with base:=b,wq:=M.wide b,bq:=M.wide b,fq:=[],cut:=none }:=ok.strip hg w01.1 w01.2;refine ⟨_,rfl,A.b,_,_,rfl,m.b,rfl,_,rfl,A.b,_,_,_,.int (M.wide b),rfl,m.b,CN.c,CN.wq,rfl,_,rfl,λrg nrg=>?_⟩;have m1:=m.grow (o:=.rng 0 (M.wide b)) nrg;have s1:Same B (upd B rg (.rng 0 (M.wide b))):=zn (Same.refl _) (m.h.free nrg);have e1:upd B rg (.rng 0 (M.wide b)) rg=some (.rng 0 (M.wide b)):=zh;generalize upd B rg (.rng 0 (M.wide b))=B1 at m1 s1 e1;refine ⟨rg,wn,rfl,(by rw [← ew];exact m1.h.sm _ _ e1),by omega,λl nl=>?_⟩;have m2:=m1.grow (o:=.lst ((yZ wn).map V.int)) nl;have s2:Same B1 (upd B1 l (.lst ((yZ wn).map V.int))):=zn (Same.refl _) (m1.h.free nl);have e2:upd B1 l (.lst ((yZ wn).map V.int)) l=some (.lst ((yZ wn).map V.int)):=zh;generalize upd B1 l (.lst ((yZ wn).map V.int))=B2 at m2 s2 e2;refine ⟨B2,{ A with aF:=n },{ M with base:=b,wq:=M.wide b,bq:=M.wide b,fq:=[],cut:=none },R,0,l,yZ wn,rfl,m2,ok2,by decide,e2,(λj hj=>?_),λH9 m9=>?_⟩
 ·obtain ⟨i,hi,rfl⟩:=List.mem_map.mp hj
  have:=List.mem_range.mp hi;show 0<=(i:Int)/\(i:Int)<M.group*M.lq;omega
 ·refine q B2 { A with aF:=n } H9 (s1.trans s2) rfl ?_
  unfold Mc.strip;rw [ew,q0z];rw [ew] at m9;exact m9
def Mc.round (M:Mc) (mn_ group:Int):Mc:=({ M with oq:=M.pc,mn_:=mn_,group:=group,cq:=none }:Mc).strip 0
inductive spRound (c:MCs) (vs:Jl) (H:Hp) (Q:VK) (_:XK):Prop
 | mk (B:Hp) (A:Ma) (M:Mc) (R:Jk) (mn_ group:Int) (_:vs=[.ref A.b,.int mn_,.int group]) (_:MAt c B A M R H) (_:MOk0 M) (_:(group=1∨group=2∨group=4)) (_:0<=mn_) (_:∀ B' A' H',Same B B'->A'.b=A.b->MAt c B' A' (M.round mn_ group) R H'->Q .non H')
def ok_round {c:MCs} (d:zY K c.bn "open_round" "Bench.open_round" yu ["self","many","group"]) (CC:MCls K c) (BS:OkM P w K mg base CX0 3 c.bn "begin_strip" ["self","base"] (spStrip c)):OkM P w K mg base CX0 4 c.bn "open_round" ["self","many","group"] (spRound c):=by
 obtain ⟨f,fd,m,F,bd⟩:=d;refine ⟨f,fd,m,bd,F.ok sc_Bench_open_round (by rintro vs H Q E ⟨_,_,_,_,_,_,e,_⟩;rw [e];rfl) λcdv A outer s H vs Q E hr h=>?_⟩;obtain ⟨B,A,M,R,mn_,group,rfl,m,ok,hg,hm,q⟩:=h;have nd:=sc_Bench_open_round.nd;have hr3:=hr;have CN:=CC.n;refine ⟨_,(zd (zF (pv 0) (zu (pv 0) rfl) rfl)
   (zd (zF (pv 0) (pv 1) rfl)
   (zd (zF (pv 0) (pv 2) rfl)
   (zd (zF (pv 0) yW rfl)
   (zf (zW (yb BS CC.n.c hr3 zt (pv 0) (zb zc ze)))))))),?_⟩
 dsimp only [ym,Cx.nox,Cx.wish];refine ⟨_,rfl,A.b,_,_,_,.int M.pc,rfl,m.b,CN.c,CN.pc,rfl,_,rfl,A.b,_,_,_,rfl,m.b,CN.c,CN.oq,(by show 23<1000;decide),?_⟩;have m:=m.s_opened M.pc;refine ⟨_,rfl,_,rfl,A.b,_,_,_,rfl,m.b,CN.c,CN.mn_,(by show 23<1000;decide),?_⟩;have m:=m.s_many mn_;refine ⟨_,rfl,_,rfl,A.b,_,_,_,rfl,m.b,CN.c,CN.group,(by show 23<1000;decide),?_⟩;have m:=m.s_group group;refine ⟨_,rfl,A.b,_,_,_,rfl,m.b,CN.c,CN.cq,(by show 23<1000;decide),?_⟩;have m:=m.s_carried none;exact ⟨_,rfl,A.b,_,_,rfl,m.b,rfl,B,A,{ M with oq:=M.pc,mn_:=mn_,group:=group,cq:=none },R,0,rfl,m,⟨ok.l1,ok.l64,ok.nl,ok.ml,ok.mm⟩,hg,hm,λB' A' H' s eb m'=>q B' A' H' s eb m'⟩
end K41
namespace L2
open PySem
def ix_tupK {X:Cx} {K:Fg} (e:X.K=K):IxR X (rIxT K):=by subst e;exact zy
end L2
namespace K41
open PySem L2
variable {P:Program} {w:World} {K:Fg} {mg:J0} {base:Heap}
structure TabA where
 s:Ad
 e:Ad
 w:Ad
structure Tabs (w:World) (K:Fg) (mg:J0) (t:TabA):Prop where
 Ts:xu w K t.s
 Te:xu w K t.e
 Tw:xu w K t.w
 ls:(t.s == sysModules)=false
 le:(t.e == sysModules)=false
 hs:mg "SEAT_STEPS"=some (.ref t.s)
 he:mg "EFFECTS"=some (.ref t.e)
 hw:mg "WAYS"=some (.ref t.w)
 s_number:zC K mg t.s "number" "numbers_written"
 s_here:zC K mg t.s "here" "numbers_of_here"
 s_load:zC K mg t.s "load" "numbers_loaded"
 s_spread:zC K mg t.s "spread" "numbers_spread"
 s_shift:zC K mg t.s "shift" "numbers_shifted"
 s_gather:zC K mg t.s "gather" "numbers_gathered"
 s_op:zC K mg t.s "op" "numbers_joined"
 s_pick:zC K mg t.s "pick" "numbers_picked"
 s_copy:zC K mg t.s "copy" "numbers_copied"
 s_bring:zC K mg t.s "bring" "numbers_brought"
 e_reach:zC K mg t.e "reach" "play_reach"
 es_reach:PySem.W.nsIn K t.s "reach"=some none
 e_trim:zC K mg t.e "trim" "play_trim"
 es_trim:PySem.W.nsIn K t.s "trim"=some none
 e_stop:zC K mg t.e "stop" "play_stop"
 es_stop:PySem.W.nsIn K t.s "stop"=some none
 e_choose:zC K mg t.e "choose" "play_choose"
 es_choose:PySem.W.nsIn K t.s "choose"=some none
 e_other:zC K mg t.e "other" "play_other"
 es_other:PySem.W.nsIn K t.s "other"=some none
 e_save:zC K mg t.e "save" "play_save"
 es_save:PySem.W.nsIn K t.s "save"=some none
 e_store:zC K mg t.e "store" "play_store"
 es_store:PySem.W.nsIn K t.s "store"=some none
 e_put:zC K mg t.e "put" "play_put"
 es_put:PySem.W.nsIn K t.s "put"=some none
 e_fold:zC K mg t.e "fold" "play_fold"
 es_fold:PySem.W.nsIn K t.s "fold"=some none
 e_running:zC K mg t.e "running" "play_running"
 es_running:PySem.W.nsIn K t.s "running"=some none
 e_any:zC K mg t.e "any" "play_any"
 es_any:PySem.W.nsIn K t.s "any"=some none
 w_begin:zC K mg t.w "begin" "play_begin"
 ws_begin:PySem.W.nsIn K t.s "begin"=some none
 we_begin:PySem.W.nsIn K t.e "begin"=some none
 w_next:zC K mg t.w "next" "play_next"
 ws_next:PySem.W.nsIn K t.s "next"=some none
 we_next:PySem.W.nsIn K t.e "next"=some none
 w_turns:zC K mg t.w "turns" "play_turns"
 ws_turns:PySem.W.nsIn K t.s "turns"=some none
 we_turns:PySem.W.nsIn K t.e "turns"=some none
 w_quiet:zC K mg t.w "quiet" "play_quiet"
 ws_quiet:PySem.W.nsIn K t.s "quiet"=some none
 we_quiet:PySem.W.nsIn K t.e "quiet"=some none
 w_till:zC K mg t.w "till" "play_till"
 ws_till:PySem.W.nsIn K t.s "till"=some none
 we_till:PySem.W.nsIn K t.e "till"=some none
abbrev FnM:=Jl->Mc->J9->Option (Mc×List (Option Int))
structure FnMOk (f:FnM):Prop where
 ok:∀ {tv M js M' ns},f tv M js=some (M',ns)->MOk M->MOk M'
 g:∀ {tv M js M' ns},f tv M js=some (M',ns)->M'.group=M.group
 n:∀ {tv M js M' ns},f tv M js=some (M',ns)->ns.length=js.length
inductive spFn (c:MCs) (f:FnM) (vs:Jl) (H:Hp) (Q:VK) (_:XK):Prop
 | mk (B:Hp) (A:Ma) (M:Mc) (R:Jk) (st aa:Ad) (tv:Jl) (js:J9) (M':Mc) (ns:List (Option Int)) (_:vs=[.ref A.b,.ref st,.ref aa]) (_:MAt c B A M R H) (_:B st=some (.tup tv)) (_:B aa=some (.lst (js.map V.int))) (_:f tv M js=some (M',ns)) (_:MOk M) (_:(∀ j∈js,0<=j/\j<M.group*M.lq)) (_:js.length<=1000) (_:∀ B' A' H' l,Same B B'->A'.b=A.b->MAt c B' A' M' R H'->B' l=some (.lst (ns.map oV))->Q (.ref l) H')
def seatM (f:FnM) (tv:Jl) (M:Mc):Option Mc:=match (tv[1]?:Jm),tv.getLast? with
 | some (V.int p),some (V.int k)=>if 0<=p/\(p+1)*M.group<=8/\0<=k/\k<16 then (f tv M (M.act k.toNat)).map λr=>r.1.laidSeat (y8 (M.act k.toNat) r.2) p.toNat else none
 | _,_=>none
inductive spPSS (c:MCs) (S:Str->FnM->Prop) (vs:Jl) (H:Hp) (Q:VK) (_:XK):Prop
 | mk (word:Str) (f:FnM) (B:Hp) (A:Ma) (M:Mc) (R:Jk) (st:Ad) (tv:Jl) (M':Mc) (_:S word f) (_:vs=[.ref A.b,.ref st]) (_:MAt c B A M R H) (_:B st=some (.tup tv)) (_:tv[0]?=some (.str word)) (_:seatM f tv M=some M') (_:MOk M) (_:∀ B' A' H',Same B B'->A'.b=A.b->MAt c B' A' M' R H'->Q .non H')
def ZF {M:Mc} (ok:MOk M) {k:Nat} (hk:k<16):M.wq.toNat<=(M.mq.getD k []).length/\M.wq.toNat<=1000:=by
 have ml:=ok.ml;have hk':k<M.mq.length:=by omega
 have l1:=ok.l1;have l64:=ok.l64;have w0:=ok.w0;have w1:=ok.w1
 have lm:(M.mq.getD k []).length=4*M.lq:=by
  rw [q1x,List.getElem?_eq_getElem hk'];exact ok.mm _ (List.getElem_mem hk')
 have rb:M.group*M.lq<=4*M.lq:=by rcases ok.g with e | e | e <;> rw [e] <;> omega
 rw [lm];omega
def za0 {M:Mc} (ok:MOk M) (k:Nat):(∀ j∈M.act k,0<=j/\j<M.group*M.lq)/\(M.act k).length<=1000:=by
 have w0:=ok.w0;have w1:=ok.w1;refine ⟨λj hj=>?_,?_⟩
 ·obtain ⟨a,b,_⟩:=Mc.act_mem hj
  omega
 ·have:=M.actTo_len k M.wq.toNat
  have rb:M.group*M.lq<=4*M.lq:=by rcases ok.g with e | e | e <;> rw [e] <;> omega
  have:=ok.l64;unfold Mc.act;omega
def atI_lst {tv:Jl} {v:V} (h:tv.getLast?=some v):atI tv (-1)=some v:=by
 obtain ⟨l,rfl⟩:∃ l,tv=l++[v]:=by
  rw [List.getLast?_eq_some_iff] at h;exact h
 exact atI_last _ _
def YA (P:Program) (w:World) (K:Fg) (mg:J0) (base:Heap) (c:MCs) (t:TabA) (S:Str->FnM->Prop) (rm:Nat):Prop:=∀ word f,S word f->∃ (nm:Str) (ps:Jd),zC K mg t.s word nm/\Ok P w K mg base CX0 rm nm ps (spFn c f)/\FnMOk f
def ok_pss {c:MCs} {t:TabA} {S:Str->FnM->Prop} {rm:Nat} (d:zk K mg "play_seat_step" yG ["bench","step"]) (CC:MCls K c) (TT:Tabs w K mg t) (hrm:rm<=6) (AU:OkM P w K mg base CX0 1 c.bn "active_under" ["self","mask"] (spAct c)) (LS:OkM P w K mg base CX0 3 c.bn "lay_seat" ["self","seat","active","numbers"] (spSeat c K))
  (SW:YA P w K mg base c t S rm):Ok P w K mg base CX0 7 "play_seat_step" ["bench","step"] (spPSS c S):=by
 obtain ⟨g,fd,m,F,b⟩:=d;refine ⟨g,fd,m,F.kp,b,F.ok sc_play_seat_step (by rintro vs H Q E ⟨_,_,_,_,_,_,_,_,_,_,e,_⟩;rw [e];rfl) λcdv A outer s H vs Q E hr h=>?_⟩;obtain ⟨word,f,B,A,M,R,st,tv,M',hS,rfl,m,es,e0,eM,ok,q⟩:=h;obtain ⟨nm,ps,sg,FN,fo⟩:=SW word f hS;have nd:=sc_play_seat_step.nd;have hr3:=hr.mono (show 3<=6 by decide);have hr1:=hr.mono (show 1<=6 by decide);have hrF:Room rm _:=hr.mono hrm;have CN:=CC.n;unfold seatM at eM
 split at eM
 case h_2=>cases eM
 rename_i p k e1 el
 split at eM
 case isFalse=>cases eM
 rename_i hc;obtain ⟨p0,p8,k0,k16⟩:=hc;obtain ⟨⟨M1,ns⟩,ef,rfl⟩:=Option.map_eq_some_iff.mp eM;obtain ⟨pn,rfl⟩:∃ n:Nat,p=n:=⟨p.toNat,by omega⟩;obtain ⟨kn,rfl⟩:∃ n:Nat,k=n:=⟨k.toNat,by omega⟩;rw [q0z] at ef;have kn16:kn<16:=by omega
 obtain ⟨mr1,mr2⟩:=ZF ok kn16;obtain ⟨ai,al⟩:=za0 ok kn;have ml:=ok.ml;refine ⟨_,(zd (zv (i:=2) nd rfl (Or.inl rfl) (yb AU CC.n.c hr1 zt (pv 0) (zb (zq zy (pv 1) (pe_un un_neg zc) (λ_ _=>rfl)) ze)))
   (zf (zW (yb LS CC.n.c hr3 zt (pv 0) (zb (zq zy (pv 1) zc (λ_ _=>rfl)) (zb (pv 2) (zb (Yb (CX:=CX0) (k:=rm) (zq zax (ZD TT.hs) (zq zy (pv 1) zc (λ_ _=>rfl)) (λ_ _=>rfl)) hrF zt (zb (pv 0) (zb (pv 1) (zb (pv 2) ze)))) ze))))))),?_⟩
 dsimp only [ym,Cx.nox,Cx.wish];refine ⟨_,rfl,A.b,_,_,rfl,m.b,rfl,_,rfl,_,rfl,st,_,_,_,rfl,rfl,SqT.of (m.h.sm _ _ es),atI_lst el,B,A,M,R,kn,rfl,m,by omega,ok.w0,mr1,mr2,λB1 H1 l s1 m1 ea=>?_⟩;obtain ⟨fn,efn,mfn⟩:=sg;obtain ⟨f2,fd2,mf2,kp,bb,FO⟩:=FN;cases mfn.symm.trans mf2;refine ⟨_,rfl,A.b,_,_,rfl,m1.b,rfl,_,rfl,st,_,_,_,rfl,rfl,SqT.of (m1.h.sm _ _ (s1 _ _ es)),zm e1,_,rfl,_,rfl,st,_,_,_,rfl,rfl,SqT.of (m1.h.sm _ _ (s1 _ _ es)),zm (j:=0) e0,t.s,word,.ref fn,.ref fn,rfl,rfl,TT.Ts,efn,rfl,?_⟩;refine ⟨fn,fd2,ps,spFn c f,rfl,FO,kp,bb,_,rfl,_,rfl,_,rfl,B1,A,M,R,st,l,tv,M.act kn,M1,ns,rfl,m1,s1 _ _ es,ea,ef,ok,ai,al,λB2 A2 H2 l2 s2 eb m2 en=>?_⟩;refine ⟨B2,A2,M1,R,pn,l,l2,M.act kn,ns,by rw [eb];rfl,m2,fo.ok ef ok,by rw [fo.g ef];exact p8,s2 _ _ ea,en,(fo.n ef).symm,λB3 H3 s3 m3=>?_⟩;rw [q0z,q0z] at q;exact q B3 A2 H3 ((s1.trans s2).trans s3) eb m3
def Mc.reads (M:Mc) (row:Nat) (js:J9):Mc:={ M with tq:=M.tq++js.map λj=>(M.pc,("read":Str),M.adr row (M.base+j)) }
def Mc.valAt (M:Mc) (row:Nat) (j:Int):Int:=M.cells.getD (M.adr row (M.base+j)).toNat 0
def Mc.reads_snoc (M:Mc) (row:Nat) (js:J9) (j:Int):M.reads row (js++[j])=(M.reads row js).touched "read" (M.adr row (M.base+j)):=by
 unfold Mc.reads Mc.touched;rw [Ji,← List.append_assoc];rfl
def rowIn (M:Mc) (row:Nat) (js:J9):Prop:=row<M.starts.length/\∀ j∈js,0<=M.adr row (M.base+j)/\(M.adr row (M.base+j)).toNat<M.cells.length
open Classical in
noncomputable def Yf:FnM:=λtv M js=>match (tv[2]?:Jm) with
 | some (V.int r)=>if 0<=r/\rowIn M r.toNat js/\M.tq.length+js.length<100000 then some (M.reads r.toNat js,js.map λj=>some (M.valAt r.toNat j)) else none
 | _=>none
def Ye {tv:Jl} {M M':Mc} {js:J9} {ns:List (Option Int)} (h:Yf tv M js=some (M',ns)):∃ r:Nat,tv[2]?=some (.int r)/\rowIn M r js/\M.tq.length+js.length<100000/\M'=M.reads r js/\ns=js.map λj=>some (M.valAt r j):=by
 unfold Yf at h
 split at h
 ·rename_i r e
  split at h
  ·rename_i hc
   obtain ⟨r0,h1,h2⟩:=hc;cases h;exact ⟨r.toNat,by rw [e];congr 2;omega,h1,h2,rfl,rfl⟩
  ·cases h
 ·cases h
def loadM_ok:FnMOk Yf where
 ok:=λh ok=>by
  obtain ⟨r,_,_,_,rfl,_⟩:=Ye h;exact ⟨ok.l1,ok.l64,ok.g,ok.nl,ok.ml,ok.mm,ok.w0,ok.w1⟩
 g:=λh=>by
  obtain ⟨r,_,_,_,rfl,_⟩:=Ye h;rfl
 n:=λh=>by
  obtain ⟨r,_,_,_,_,rfl⟩:=Ye h;rw [Jg]
def ok_loaded {c:MCs} (d:zk K mg "numbers_loaded" yH ["bench","step","active"]) (CC:MCls K c) (RC:OkM P w K mg base CX0 2 c.bn "read_cell" ["self","row","place"] (spRead c)):Ok P w K mg base CX0 3 "numbers_loaded" ["bench","step","active"] (spFn c Yf):=by
 obtain ⟨g,fd,m,F,b⟩:=d;refine ⟨g,fd,m,F.kp,b,F.ok sc_numbers_loaded (by rintro vs H Q E ⟨_,_,_,_,_,_,_,_,_,_,e,_⟩;rw [e];rfl) λcdv A outer s H vs Q E hr h=>?_⟩;obtain ⟨B,A,M,R,st,aa,tv,js,M',ns,rfl,m,es,ea,ef,ok,hj,hl,q⟩:=h;obtain ⟨r,e2,⟨hr0,hin⟩,ht,rfl,rfl⟩:=Ye ef;have nd:=sc_numbers_loaded.nd;have hr2:=hr;have CN:=CC.n;have SL:(3000:Nat)<sizeLine:=by decide
 refine ⟨_,(zf (zo (Zf ["lane","bench","step"] [none,some 0,some 1] rfl rfl rfl (zap (pv 2)) (λs3 H3 fp=>⟨zR (i:=0) (Jn ["lane","bench","step"]) rfl (Or.inl rfl),(yb RC CC.n.c hr2 zt (pv 1) (zb (zq (ix_tupK (K:=K) rfl) (pv 2) zc (λ_ _=>rfl)) (zb (zi zB (YQ (K:=K) rfl (pv 1) rfl) (pv 0)) ze)))⟩)))),?_⟩;dsimp only [ym,Cx.nox,Cx.wish];refine ⟨_,rfl,aa,rfl,⟨_,SqL.of (m.h.sm _ _ ea)⟩,_,rfl,λD nD=>?_⟩
 have m0:MAt c B A (M.reads r (js.take 0)) ((D,.lst (((js.take 0).map λj=>some (M.valAt r j)).map oV))::R) (upd H D (.lst [])):=by
  have e:M.reads r (js.take 0)=M:=by unfold Mc.reads;rw [List.take_zero];show { M with tq:=M.tq++[] }=M;rw [q3y]
  rw [e];exact m.newR nD
 generalize upd H D (.lst [])=H1 at m0 ⊢;let Pv1:Nat->St->Hp->Prop:=(λi σ J=>∃ (u:Jm) (B1:Hp) (A1:Ma),σ=[u,rq A.b,rq st]/\Same B B1/\A1.b=A.b/\MAt c B1 A1 (M.reads r (js.take i)) ((D,.lst (((js.take i).map λj=>some (M.valAt r j)).map oV))::R) J);refine X3 (K:=K) (a:=aa) (D:=D) (xs:=js.map V.int) Pv1 ⟨none,B,A,rfl,Same.refl _,rfl,m0⟩ (λi σ J _ ⟨_,B1,A1,_,s1,_,m1⟩=>SqL.of (m1.h.sm _ _ (s1 _ _ ea))) ?_ ?_
 ·clear m0
  rintro i y σ J hy ⟨u,B1,A1,rfl,s1,eb,m1⟩;obtain ⟨hlt,rfl⟩:=ZQ hy;have mj:=L2.getD_mem hlt;have e9:js[i]?=some (js.getD i 0):=by rw [q1x,List.getElem?_eq_getElem hlt];rfl
  generalize js.getD i 0=j at mj e9;obtain ⟨j0,j1⟩:=hin j mj;refine ⟨_,rfl,A1.b,_,_,by rw [eb],m1.b,rfl,_,rfl,st,_,_,_,rfl,rfl,SqT.of (m1.h.sm _ _ (s1 _ _ es)),zm (j:=2) e2,_,rfl,A1.b,_,_,_,.int M.base,by rw [eb],m1.b,CN.c,CN.base,rfl,_,rfl,_,_,rfl,rfl,B1,A1,M.reads r (js.take i),_,r,M.base+j,by rw [eb];rfl,m1,?_,hr0,j0,j1,λB2 A2 H2 s2 eb2 m2=>?_⟩
  ·show (M.tq++_).length<_
   rw [Jh,Jg,List.length_take];omega
  refine ⟨_,m2.getR,(by rw [Jg,Jg,List.length_take];omega),_,B2,A2,rfl,s1.trans s2,eb2.trans eb,?_⟩;have m3:=m2.putR (o':=.lst (((js.take (i+1)).map λj=>some (M.valAt r j)).map oV));have et:js.take (i+1)=js.take i++[j]:=by rw [List.take_add_one,e9];rfl
  rw [et,M.reads_snoc];rw [et,Ji,Ji] at m3;rw [Ji,Ji];exact m3
 ·rintro σ J ⟨u,B1,A1,rfl,s1,eb,m1⟩
  rw [Jg,List.take_length] at m1;have nb:B1 D=none:=m1.h.nw (D,_) (List.mem_of_getElem? atR);exact q _ A1 J D (s1.trans (zn (Same.refl _) nb)) eb m1.settle zh
abbrev EfM:=Jl->Mc->Option Mc
inductive spEf (c:MCs) (f:EfM) (vs:Jl) (H:Hp) (Q:VK) (_:XK):Prop
 | mk (B:Hp) (A:Ma) (M:Mc) (R:Jk) (st:Ad) (tv:Jl) (M':Mc) (_:vs=[.ref A.b,.ref st]) (_:MAt c B A M R H) (_:B st=some (.tup tv)) (_:f tv M=some M') (_:MOk M) (_:∀ B' A' H',Same B B'->A'.b=A.b->MAt c B' A' M' R H'->Q .non H')
inductive spPE (c:MCs) (S:Str->EfM->Prop) (vs:Jl) (H:Hp) (Q:VK) (_:XK):Prop
 | mk (word:Str) (f:EfM) (B:Hp) (A:Ma) (M:Mc) (R:Jk) (st:Ad) (tv:Jl) (M':Mc) (_:S word f) (_:vs=[.ref A.b,.ref st]) (_:MAt c B A M R H) (_:B st=some (.tup tv)) (_:tv[0]?=some (.str word)) (_:f tv M=some M') (_:MOk M) (_:∀ B' A' H',Same B B'->A'.b=A.b->MAt c B' A' M' R H'->Q .non H')
def XA (P:Program) (w:World) (K:Fg) (mg:J0) (base:Heap) (c:MCs) (t:TabA) (S:Str->EfM->Prop) (rm:Nat):Prop:=∀ word f,S word f->PySem.W.nsIn K t.s word=some none/\∃ (nm:Str) (ps:Jd),zC K mg t.e word nm/\Ok P w K mg base CX0 rm nm ps (spEf c f)
def ok_pe {c:MCs} {t:TabA} {S:Str->EfM->Prop} {rm:Nat} (hrm:rm<=7) (d:zk K mg "play_effect" xp ["bench","step"]) (TT:Tabs w K mg t) (EW:XA P w K mg base c t S rm):Ok P w K mg base CX0 8 "play_effect" ["bench","step"] (spPE c S):=by
 obtain ⟨g,fd,m,F,b⟩:=d;refine ⟨g,fd,m,F.kp,b,F.ok Y1 (by rintro vs H Q E ⟨_,_,_,_,_,_,_,_,_,_,e,_⟩;rw [e];rfl) λcdv A outer s H vs Q E hr h=>?_⟩;obtain ⟨word,f,B,A,M,R,st,tv,M',hS,rfl,m,es,e0,eM,ok,q⟩:=h;obtain ⟨_,nm,ps,sg,FN⟩:=EW word f hS;have hr4:=hr.mono (show 4<=7 by decide);have hrF:Room rm _:=hr.mono hrm;obtain ⟨fn,efn,mfn⟩:=sg;obtain ⟨f2,fd2,mf2,kp,bb,FO⟩:=FN;cases mfn.symm.trans mf2;refine ⟨_,(zf (zW (Yb (CX:=CX0) (k:=rm) (zq zax (ZD TT.he) (zq zy (pv 1) zc (λ_ _=>rfl)) (λ_ _=>rfl)) hrF zt (zb (pv 0) (zb (pv 1) ze))))),?_⟩;dsimp only [ym,Cx.nox,Cx.wish];exact ⟨_,rfl,st,_,_,_,rfl,rfl,SqT.of (m.h.sm _ _ es),zm (j:=0) e0,t.e,word,.ref fn,.ref fn,rfl,rfl,TT.Te,efn,rfl,fn,fd2,ps,spEf c f,rfl,FO,kp,bb,_,rfl,_,rfl,B,A,M,R,st,tv,M',rfl,m,es,eM,ok,q⟩
inductive spIn (aD:Ad) (K:Fg) (vs:Jl) (H:Hp) (Q:VK) (_:XK):Prop
 | mk (word:Str) (r:Jc) (_:vs=[.str word]) (_:PySem.W.nsIn K aD word=some r) (_:Q (.bl r.isSome) H)
def ok_lsw {t:TabA} (d:zk K mg "lays_seat" xX ["word"]) (TT:Tabs w K mg t):Ok P w K mg base CX0 1 "lays_seat" ["word"] (spIn t.s K):=by
 obtain ⟨g,fd,m,F,b⟩:=d;refine ⟨g,fd,m,F.kp,b,F.ok zag (by rintro vs H Q E ⟨_,_,e,_⟩;rw [e];rfl) λcdv A outer s H vs Q E hr h=>?_⟩;obtain ⟨word,r,rfl,e,q⟩:=h;refine ⟨_,(zf (zo (yV XS (pv 0) (ZD TT.hs) rfl))),?_⟩;dsimp only [ym,Cx.nox,Cx.wish];exact ⟨_,rfl,word,t.s,r,rfl,rfl,TT.Ts,TT.ls,e,q⟩
def ok_hew {t:TabA} (d:zk K mg "has_effect" xI ["word"]) (TT:Tabs w K mg t):Ok P w K mg base CX0 1 "has_effect" ["word"] (spIn t.e K):=by
 obtain ⟨g,fd,m,F,b⟩:=d;refine ⟨g,fd,m,F.kp,b,F.ok XI (by rintro vs H Q E ⟨_,_,e,_⟩;rw [e];rfl) λcdv A outer s H vs Q E hr h=>?_⟩;obtain ⟨word,r,rfl,e,q⟩:=h;refine ⟨_,(zf (zo (yV XS (pv 0) (ZD TT.he) rfl))),?_⟩;dsimp only [ym,Cx.nox,Cx.wish];exact ⟨_,rfl,word,t.e,r,rfl,rfl,TT.Te,TT.le,e,q⟩
def Mc.puts (M:Mc) (row:Nat) (ps:List (Int×Int)):Mc:=ps.foldl (λM p=>M.wrote row p.1 p.2) M
def Mc.puts_snoc (M:Mc) (row:Nat) (ps:List (Int×Int)) (p:Int×Int):M.puts row (ps++[p])=(M.puts row ps).wrote row p.1 p.2:=by
 unfold Mc.puts;rw [List.foldl_append];rfl
theorem Mc.puts_is (M:Mc) (row:Nat) (ps:List (Int×Int)):M.puts row ps={ M with cells:=(M.puts row ps).cells,tq:=M.tq++ps.map λp=>(M.pc,("write":Str),M.adr row p.1) }/\(M.puts row ps).cells.length=M.cells.length:=by
 induction ps generalizing M with
 | nil=>exact ⟨by show M={ M with tq:=M.tq++[] };rw [q3y],rfl⟩
 | cons p ps ih =>
  obtain ⟨a,b⟩:=ih (M.wrote row p.1 p.2);have e:M.puts row (p::ps)=(M.wrote row p.1 p.2).puts row ps:=rfl;rw [e];refine ⟨?_,b.trans (by show (M.cells.set _ _).length=_;rw [List.length_set])⟩;rw [a];show ({ M with cells:=_,tq:=(M.tq++[_])++ps.map _ }:Mc)={ M with cells:=_,tq:=_ };rw [List.append_assoc];rfl
open Classical in
noncomputable def Zs:EfM:=λtv M=>match (tv[1]?:Jm),(tv[2]?:Jm),(tv[3]?:Jm) with
 | some (V.int r),some (V.int p),some (V.int k)=>if 0<=r/\0<=p/\(p+1)*M.group<=8/\0<=k/\k<16/\rowIn M r.toNat (M.act k.toNat)/\M.tq.length+(M.act k.toNat).length<100000 then some (M.puts r.toNat ((M.act k.toNat).map λj=>(M.base+j,M.nq p.toNat j))) else none
 | _,_,_=>none
def storeM_is {tv:Jl} {M M':Mc} (h:Zs tv M=some M'):∃ r p k:Nat,tv[1]?=some (.int r)/\tv[2]?=some (.int p)/\tv[3]?=some (.int k)/\((p:Int)+1)*M.group<=8/\k<16/\rowIn M r (M.act k)/\M.tq.length+(M.act k).length<100000/\M'=M.puts r ((M.act k).map λj=>(M.base+j,M.nq p j)):=by
 unfold Zs at h
 split at h
 ·rename_i r p k e1 e2 e3
  split at h
  ·rename_i hc
   obtain ⟨r0,p0,p8,k0,k1,hin,ht⟩:=hc;cases h;refine ⟨r.toNat,p.toNat,k.toNat,?_,?_,?_,?_,by omega,hin,ht,rfl⟩
   ·rw [e1];congr 2;omega
   ·rw [e2];congr 2;omega
   ·rw [e3];congr 2;omega
   ·rw [Int.toNat_of_nonneg p0];exact p8
  ·cases h
 ·cases h
def Zv {α:Type} {f:α->V} {l:List α} {i:Nat} {x:V} (h:(l.map f)[i]?=some x):∃ a,l[i]?=some a/\x=f a:=by
 rw [List.getElem?_map] at h;obtain ⟨a,e,z⟩:=Option.map_eq_some_iff.mp h;exact ⟨a,e,z.symm⟩
def ok_store {c:MCs} (d:zk K mg "play_store" xD ["bench","step"]) (hzip:mg "zip"=none) (CC:MCls K c) (AU:OkM P w K mg base CX0 1 c.bn "active_under" ["self","mask"] (spAct c)) (NI:OkM P w K mg base CX0 3 c.bn "numbers_in" ["self","seat","active"] (spNums c K))
  (WC:OkM P w K mg base CX0 2 c.bn "write_cell" ["self","row","place","number"] (spWrite c)):Ok P w K mg base CX0 4 "play_store" ["bench","step"] (spEf c Zs):=by
 obtain ⟨g,fd,m,F,b⟩:=d;refine ⟨g,fd,m,F.kp,b,F.ok sc_play_store (by rintro vs H Q E ⟨_,_,_,_,_,_,_,e,_⟩;rw [e];rfl) λcdv A outer s H vs Q E hr h=>?_⟩;obtain ⟨B,A,M,R,st,tv,M',rfl,m,es,ef,ok,q⟩:=h;have nd:=sc_play_store.nd;have hr3:=hr;have hr2:=hr.mono (show 2<=3 by decide);have hr1:=hr.mono (show 1<=3 by decide);have CN:=CC.n;have ml:=ok.ml;obtain ⟨r,p,k,e1,e2,e3,p8,k16,⟨hr0,hin⟩,ht,rfl⟩:=storeM_is ef;obtain ⟨mr1,mr2⟩:=ZF ok k16;obtain ⟨ai,al⟩:=za0 ok k;refine ⟨_,(zd (zv (i:=2) nd rfl (Or.inl rfl) (yb AU CC.n.c hr1 zt (pv 0) (zb (zq zy (pv 1) zc (λ_ _=>rfl)) ze)))
   (zf (Zn PassesOwn.never rfl (pi_zip rfl hzip (zb (pv 2) (zb (yb NI CC.n.c hr3 zt (pv 0) (zb (zq zy (pv 1) zc (λ_ _=>rfl)) (zb (pv 2) ze))) ze))) (pg_tup rfl (xc (zR (i:=3) nd rfl (Or.inl rfl)) (xc (zR (i:=4) nd rfl (Or.inl rfl)) YO))) (zf (zW (yb WC CC.n.c hr2 zt (pv 0) (zb (zq zy (pv 1) zc (λ_ _=>rfl)) (zb (zi zB (zu (pv 0) rfl) (pv 3)) (zb (pv 4) ze))))))))),?_⟩
 dsimp only [ym,Cx.nox,Cx.wish];refine ⟨_,rfl,A.b,_,_,rfl,m.b,rfl,_,rfl,st,_,_,_,rfl,rfl,SqT.of (m.h.sm _ _ es),zm (j:=3) e3,B,A,M,R,k,rfl,m,by omega,ok.w0,mr1,mr2,λB1 H1 l s1 m1 ea=>?_⟩;refine ⟨_,rfl,_,rfl,A.b,_,_,rfl,m1.b,rfl,_,rfl,st,_,_,_,rfl,rfl,SqT.of (m1.h.sm _ _ (s1 _ _ es)),zm (j:=2) e2,_,rfl,B1,A,M,R,p,l,M.act k,rfl,m1,ok,p8,ea,ai,al,λB2 H2 l2 s2 m2 en=>?_⟩;refine ⟨l,l2,rfl,⟨_,SqL.of (m2.h.sm _ _ (s2 _ _ ea))⟩,⟨_,SqL.of (m2.h.sm _ _ en)⟩,?_⟩;generalize M.act k=js at *;let pr:Int->Int×Int:=λj=>(M.base+j,M.nq p j);let Pv1:Nat->St->Hp->Prop:=(λi σ J=>∃ u3 u4 B3 A3,σ=[rq A.b,rq st,rq l,u3,u4]/\Same B2 B3/\A3.b=A.b/\MAt c B3 A3 (M.puts r ((js.take i).map pr)) R J);refine for_zip (xs:=js.map V.int) (ys:=(js.map (M.nq p)).map V.int) Pv1 ⟨none,none,B2,A,rfl,Same.refl _,rfl,m2⟩ (λi σ J _ ⟨_,_,B3,A3,_,s3,_,m3⟩=>⟨SqL.of (m3.h.sm _ _ (s3 _ _ (s2 _ _ ea))),SqL.of (m3.h.sm _ _ (s3 _ _ en))⟩) (by rw [Jg,Jg,Jg]) ?_ ?_
 ·rintro i x y σ J T hx hy ⟨u3,u4,B3,A3,rfl,s3,eb,m3⟩ nT
  obtain ⟨j,e9,rfl⟩:=Zv hx;obtain ⟨z,e10,rfl⟩:=Zv hy;rw [List.getElem?_map,e9] at e10;cases e10;have mj:j∈js:=List.mem_of_getElem? e9;obtain ⟨j0,j1⟩:=hin j mj;have m4:=m3.grow (o:=.tup [.int j,.int (M.nq p j)]) nT;have s4:Same B3 (upd B3 T (.tup [.int j,.int (M.nq p j)])):=zn (Same.refl _) (m3.h.free nT);have e4:upd B3 T (.tup [.int j,.int (M.nq p j)]) T=some (.tup [.int j,.int (M.nq p j)]):=zh;generalize upd J T (.tup [.int j,.int (M.nq p j)])=J4 at m4 ⊢;generalize upd B3 T (.tup [.int j,.int (M.nq p j)])=B4 at m4 s4 e4;obtain ⟨pi1,pi2⟩:=M.puts_is r ((js.take i).map pr);have hb:(M.puts r ((js.take i).map pr)).base=M.base:=by rw [pi1]
  have hs:(M.puts r ((js.take i).map pr)).starts=M.starts:=by rw [pi1]
  have hT:(M.puts r ((js.take i).map pr)).tq.length<100000:=by
   rw [pi1];show (M.tq++_).length<_;rw [Jh,Jg,Jg,List.length_take];have:i<js.length:=(List.getElem?_eq_some_iff.mp e9).1;omega
  refine ⟨T,_,rfl,SqT.of (m4.h.sm _ _ e4),rfl,_,_,rfl,_,_,rfl,rfl,?_⟩;refine ⟨_,rfl,A3.b,_,_,by rw [eb],m4.b,rfl,_,rfl,st,_,_,_,rfl,rfl,SqT.of (m4.h.sm _ _ (s4 _ _ (s3 _ _ (s2 _ _ (s1 _ _ es))))),zm (j:=1) e1,_,rfl,A3.b,_,_,_,.int M.base,by rw [eb],m4.b,CN.c,CN.base,(by show some (V.int _)=_;rw [hb]),_,rfl,_,_,rfl,rfl,_,rfl,B4,A3,_,R,r,M.base+j,M.nq p j,by rw [eb];rfl,m4,hT,?_,?_,?_,λB5 A5 H5 s5 eb5 m5=>?_⟩
  ·rw [hs];exact hr0
  ·unfold Mc.adr;rw [hs];exact j0
  ·unfold Mc.adr;rw [hs,pi2];exact j1
  ·refine ⟨_,_,B5,A5,rfl,(s3.trans s4).trans s5,eb5.trans eb,?_⟩
   have et:(js.take (i+1)).map pr=(js.take i).map pr++[pr j]:=by rw [List.take_add_one,e9,Ji];rfl
   rw [et,M.puts_snoc];exact m5
 ·rintro σ J ⟨u3,u4,B3,A3,rfl,s3,eb,m3⟩
  rw [Jg,List.take_length] at m3;exact q B3 A3 J ((s1.trans s2).trans s3) eb m3
abbrev WyM:=Jl->Mc->Mc->Int->Prop
inductive spWy (c:MCs) (f:WyM) (vs:Jl) (H:Hp) (Q:VK) (_:XK):Prop
 | mk (B:Hp) (A:Ma) (M:Mc) (R:Jk) (st:Ad) (tv:Jl) (M':Mc) (n:Int) (_:vs=[.ref A.b,.ref st]) (_:MAt c B A M R H) (_:B st=some (.tup tv)) (_:f tv M M' n) (_:∀ B' A' H',Same B B'->A'.b=A.b->MAt c B' A' M' R H'->Q (.int n) H')
def Yy:WyM:=λtv M M' n=>∃ mn_ group:Int,tv[1]?=some (.int mn_)/\tv[2]?=some (.int group)/\MOk0 M/\(group=1∨group=2∨group=4)/\0<=mn_/\M'=M.round mn_ group/\n=M.pc+1
def XV:WyM:=λtv M M' n=>MOk0 M/\(M.group=1∨M.group=2∨M.group=4)/\(if M.base+M.bq<M.mn_ then M'=M.strip (M.base+M.bq)/\n=M.oq+1 else M'=M/\n=M.pc+1)
def ok_begin {c:MCs} (d:zk K mg "play_begin" xG ["bench","step"]) (CC:MCls K c) (OR:OkM P w K mg base CX0 4 c.bn "open_round" ["self","many","group"] (spRound c)):Ok P w K mg base CX0 5 "play_begin" ["bench","step"] (spWy c Yy):=by
 obtain ⟨g,fd,m,F,b⟩:=d;refine ⟨g,fd,m,F.kp,b,F.ok XH (by rintro vs H Q E ⟨_,_,_,_,_,_,_,_,e,_⟩;rw [e];rfl) λcdv A outer s H vs Q E hr h=>?_⟩;obtain ⟨B,A,M,R,st,tv,M',n,rfl,m,es,⟨mn_,group,e1,e2,ok,hg,hm,rfl,rfl⟩,q⟩:=h;have hr4:=hr;have CN:=CC.n;refine ⟨_,(zd (zW (yb OR CC.n.c hr4 zt (pv 0) (zb (zq zy (pv 1) zc (λ_ _=>rfl)) (zb (zq zy (pv 1) zc (λ_ _=>rfl)) ze))))
   (zf (zo (zi zB (zu (pv 0) rfl) zc)))),?_⟩
 dsimp only [ym,Cx.nox,Cx.wish];refine ⟨_,rfl,A.b,_,_,rfl,m.b,rfl,_,rfl,st,_,_,_,rfl,rfl,SqT.of (m.h.sm _ _ es),zm (j:=1) e1,_,rfl,st,_,_,_,rfl,rfl,SqT.of (m.h.sm _ _ es),zm (j:=2) e2,B,A,M,R,mn_,group,rfl,m,ok,hg,hm,λB1 A1 H1 s1 eb m1=>?_⟩;exact ⟨_,rfl,A1.b,_,_,_,.int M.pc,by rw [eb],m1.b,CN.c,CN.pc,rfl,_,_,rfl,rfl,q B1 A1 H1 s1 eb m1⟩
def ok_next {c:MCs} (d:zk K mg "play_next" xW ["bench","step"]) (CC:MCls K c) (BS:OkM P w K mg base CX0 3 c.bn "begin_strip" ["self","base"] (spStrip c)):Ok P w K mg base CX0 5 "play_next" ["bench","step"] (spWy c XV):=by
 obtain ⟨g,fd,m,F,b⟩:=d;refine ⟨g,fd,m,F.kp,b,F.ok sc_play_next (by rintro vs H Q E ⟨_,_,_,_,_,_,_,_,e,_⟩;rw [e];rfl) λcdv A outer s H vs Q E hr h=>?_⟩;obtain ⟨B,A,M,R,st,tv,M',n,rfl,m,es,⟨ok,hg,hx⟩,q⟩:=h;have nd:=sc_play_next.nd;have hr3:=hr.mono (show 3<=4 by decide);have CN:=CC.n;refine ⟨_,(zd (zv (i:=2) nd rfl (Or.inl rfl) (zi zB (zu (pv 0) rfl) (zu (pv 0) rfl)))
   (zd (zZ (zK Xg (pv 2) (zu (pv 0) rfl) (zG _)) (zd (zW (yb BS CC.n.c hr3 zt (pv 0) (zb (pv 2) ze)))
   (zf (zo (zi zB (zu (pv 0) rfl) zc)))) zE)
   (zf (zo (zi zB (zu (pv 0) rfl) zc))))),?_⟩
 dsimp only [ym,Cx.nox,Cx.wish];refine ⟨_,rfl,A.b,_,_,_,.int M.base,rfl,m.b,CN.c,CN.base,rfl,_,rfl,A.b,_,_,_,.int M.bq,rfl,m.b,CN.c,CN.bq,rfl,_,_,rfl,rfl,?_⟩;refine ⟨_,rfl,_,rfl,A.b,_,_,_,.int M.mn_,rfl,m.b,CN.c,CN.mn_,rfl,_,_,rfl,rfl,_,rfl,?_⟩;refine xA (λz=>?_) (λz=>?_)
 ·have z:=of_decide_eq_true z
  rw [if_pos z] at hx;obtain ⟨rfl,rfl⟩:=hx;refine ⟨_,rfl,A.b,_,_,rfl,m.b,rfl,_,rfl,B,A,M,R,M.base+M.bq,rfl,m,ok,hg,by omega,λB1 A1 H1 s1 eb m1=>?_⟩;exact ⟨_,rfl,A1.b,_,_,_,.int M.oq,by rw [eb],m1.b,CN.c,CN.oq,rfl,_,_,rfl,rfl,q B1 A1 H1 s1 eb m1⟩
 ·rw [if_neg (λy=>z (decide_eq_true y))] at hx
  obtain ⟨rfl,rfl⟩:=hx;exact ⟨_,rfl,A.b,_,_,_,.int M'.pc,rfl,m.b,CN.c,CN.pc,rfl,_,_,rfl,rfl,q B A H (Same.refl _) rfl m⟩
structure Lex where
 S:Str->FnM->Prop
 E:Str->EfM->Prop
 W:Str->WyM->Prop
inductive Step (L:Lex) (tv:Jl) (M:Mc):Mc->Prop
 | seat {word f M'}:L.S word f->tv[0]?=some (.str word)->seatM f tv M=some M'->MOk M->Step L tv M { M' with pc:=M'.pc+1 }
 | eff {word f M'}:L.E word f->tv[0]?=some (.str word)->f tv M=some M'->MOk M->Step L tv M { M' with pc:=M'.pc+1 }
 | way {word f M' n}:L.W word f->tv[0]?=some (.str word)->f tv M M' n->Step L tv M { M' with pc:=n }
def zb2 (P:Program) (w:World) (K:Fg) (mg:J0) (base:Heap) (c:MCs) (t:TabA) (S:Str->WyM->Prop) (rm:Nat):Prop:=∀ word f,S word f->PySem.W.nsIn K t.s word=some none/\PySem.W.nsIn K t.e word=some none/\∃ (nm:Str) (ps:Jd),zC K mg t.w word nm/\Ok P w K mg base CX0 rm nm ps (spWy c f)
inductive spPB (c:MCs) (L:Lex) (vs:Jl) (H:Hp) (Q:VK) (_:XK):Prop
 | mk (B:Hp) (A:Ma) (M:Mc) (R:Jk) (st:Ad) (tv:Jl) (M':Mc) (_:vs=[.ref A.b,.ref st]) (_:MAt c B A M R H) (_:B st=some (.tup tv)) (_:Step L tv M M') (_:∀ B' A' H' M1,Same B B'->A'.b=A.b->MAt c B' A' M1 R H'->M'={ M1 with pc:=M'.pc }->Q (.int M'.pc) H')
theorem ok_pb {c:MCs} {t:TabA} {L:Lex} {rm rs re:Nat} (d:zk K mg "place_behind" y9 ["bench","step"]) (CC:MCls K c) (TT:Tabs w K mg t) (hrm:rm<=8) (SW:YA P w K mg base c t L.S rs) (EW:XA P w K mg base c t L.E re) (WW:zb2 P w K mg base c t L.W rm)
  (LSW:Ok P w K mg base CX0 1 "lays_seat" ["word"] (spIn t.s K)) (HEW:Ok P w K mg base CX0 1 "has_effect" ["word"] (spIn t.e K)) (PSS:Ok P w K mg base CX0 7 "play_seat_step" ["bench","step"] (spPSS c L.S)) (PE:Ok P w K mg base CX0 8 "play_effect" ["bench","step"] (spPE c L.E)) :
  Ok P w K mg base CX0 9 "place_behind" ["bench","step"] (spPB c L):=by
 obtain ⟨g,fd,m,F,b⟩:=d;refine ⟨g,fd,m,F.kp,b,F.ok YF (by rintro vs H Q E ⟨_,_,_,_,_,_,_,e,_⟩;rw [e];rfl) λcdv A outer s H vs Q E hr h=>?_⟩;obtain ⟨B,A,M,R,st,tv,M',rfl,m,es,hS,q⟩:=h;have hr5:=hr;have hr4:=hr.mono (show 7<=8 by decide);have hr1:=hr.mono (show 1<=8 by decide);have hrF:Room rm _:=hr.mono hrm;have CN:=CC.n;refine ⟨_,(zd (zZ (yQ (zH LSW hr1 (by rfl) zt (zb (zq zy (pv 1) zc (λ_ _=>rfl)) ze))) (zd (zW (zH PSS hr4 (by rfl) zt (zb (pv 0) (zb (pv 1) ze))))
   (zf (zo (zi zB (zu (pv 0) rfl) zc)))) zE)
   (zd (zZ (yQ (zH HEW hr1 (by rfl) zt (zb (zq zy (pv 1) zc (λ_ _=>rfl)) ze))) (zd (zW (zH PE hr5 (by rfl) zt (zb (pv 0) (zb (pv 1) ze))))
   (zf (zo (zi zB (zu (pv 0) rfl) zc)))) zE)
   (zf (zo (Yb (CX:=CX0) (k:=rm) (zq zax (ZD TT.hw) (zq zy (pv 1) zc (λ_ _=>rfl)) (λ_ _=>rfl)) hrF zt (zb (pv 0) (zb (pv 1) ze))))))),?_⟩
 dsimp only [ym,Cx.nox,Cx.wish];have sqt:SqT K H st tv:=SqT.of (m.h.sm _ _ es)
 cases hS with
 | seat hs e0 eM ok =>
  rename_i word f M1;obtain ⟨nm,ps,⟨fn,efn,mfn⟩,FN,fo⟩:=SW word f hs;refine ⟨_,rfl,st,_,_,_,rfl,rfl,sqt,zm (j:=0) e0,word,_,rfl,efn,_,rfl,?_⟩;refine xN ?_;refine ⟨_,rfl,_,rfl,word,f,B,A,M,R,st,tv,M1,hs,rfl,m,es,e0,eM,ok,λB1 A1 H1 s1 eb m1=>?_⟩;exact ⟨_,rfl,A1.b,_,_,_,.int M1.pc,by rw [eb],m1.b,CN.c,CN.pc,rfl,_,_,rfl,rfl,q B1 A1 H1 M1 s1 eb m1 rfl⟩
 | eff hs e0 eM ok =>
  rename_i word f M1;obtain ⟨n1,nm,ps,⟨fn,efn,mfn⟩,FN⟩:=EW word f hs;refine ⟨_,rfl,st,_,_,_,rfl,rfl,sqt,zm (j:=0) e0,word,_,rfl,n1,_,rfl,?_⟩;refine yw ?_;refine ⟨_,rfl,st,_,_,_,rfl,rfl,sqt,zm (j:=0) e0,word,_,rfl,efn,_,rfl,?_⟩;refine xN ?_;refine ⟨_,rfl,_,rfl,word,f,B,A,M,R,st,tv,M1,hs,rfl,m,es,e0,eM,ok,λB1 A1 H1 s1 eb m1=>?_⟩;exact ⟨_,rfl,A1.b,_,_,_,.int M1.pc,by rw [eb],m1.b,CN.c,CN.pc,rfl,_,_,rfl,rfl,q B1 A1 H1 M1 s1 eb m1 rfl⟩
 | way hs e0 eM =>
  rename_i word f M1 n;obtain ⟨n1,n2,nm,ps,⟨fn,efn,mfn⟩,FN⟩:=WW word f hs;obtain ⟨f2,fd2,mf2,kp,bb,FO⟩:=FN;cases mfn.symm.trans mf2;refine ⟨_,rfl,st,_,_,_,rfl,rfl,sqt,zm (j:=0) e0,word,_,rfl,n1,_,rfl,?_⟩;refine yw ?_;refine ⟨_,rfl,st,_,_,_,rfl,rfl,sqt,zm (j:=0) e0,word,_,rfl,n2,_,rfl,?_⟩;refine yw ?_;exact ⟨_,rfl,st,_,_,_,rfl,rfl,sqt,zm (j:=0) e0,t.w,word,.ref fn,.ref fn,rfl,rfl,TT.Tw,efn,rfl,fn,fd2,ps,spWy c f,rfl,FO,kp,bb,_,rfl,_,rfl,B,A,M,R,st,tv,M1,n,rfl,m,es,eM,λB1 A1 H1 s1 eb m1=>q B1 A1 H1 M1 s1 eb m1 rfl⟩
def yF {F:List (Str×V)} {n:Nat} (h:F.length+n<1000):F.length<1000:=by omega
theorem yE {F:List (Str×V)} {n:Nat} (f:Str) (v:V) (h:F.length+(n+1)<1000):∃ g,zL f v F=g/\g.length+n<1000:=by
 have l:∀ F:List (Str×V),(zL f v F).length<=F.length+1:=by
  intro F
  induction F with
  | nil=>exact Nat.le_refl _
  | cons p F ih =>
   obtain ⟨g,x⟩:=p;show (if g=f then (g,v)::F else (g,x)::zL f v F).length<=_
   split
   ·exact Nat.le_succ _
   ·exact Nat.succ_le_succ ih
 exact ⟨_,rfl,by have:=l F;omega⟩
theorem Xp {α:Type}:∀ (L:List α) (i:Nat) (p:α),L[i]?=some p->(p::L.eraseIdx i).Perm L
 | a::L,0,p,e=>by cases e;exact .refl _
 | a::L,i+1,p,e=>(List.Perm.swap a p _).trans (.cons a (Xp L i p e))
def zX {B H:Hp} {L:Jk} {p:Ad×HO} (h:Hd B L H) (i:Nat) (e:L[i]?=some p):Hd B (p::L.eraseIdx i) H:=h.perm (Xp L i p e).symm
theorem zbd {f:Str} {v:V}:∀ {F:List (Str×V)},f ∉ F.map Prod.fst->zL f v F=F++[(f,v)]
 | [],_=>rfl
 | (g,x)::F,h=>by
  show (if g=f then (g,v)::F else (g,x)::zL f v F)=_;rw [if_neg λe=>h (by rw [← e];exact q1z),zbd λm=>h (q1y _ m)];rfl
theorem foldF:∀ (ps acc:List (Str×V)),((acc++ps).map Prod.fst).Nodup->ps.foldl (λF p=>zL p.1 p.2 F) acc=acc++ps
 | [],acc,_=>(q3y _).symm
 | p::ps,acc,h=>by
  have e:acc++p::ps=(acc++[p])++ps:=by rw [List.append_assoc];rfl
  have n:p.1 ∉ acc.map Prod.fst:=λm=>by
   rw [Ji,List.map_cons] at h;exact (List.nodup_append.mp h).2.2 _ m _ q1z rfl
  show ps.foldl _ (zL p.1 p.2 acc)=_;rw [zbd n,foldF ps (acc++[p]) (by rw [← e];exact h),e]
def foldF0 (ps:List (Str×V)) (h:(ps.map Prod.fst).Nodup):ps.foldl (λF p=>zL p.1 p.2 F) []=ps:=(foldF ps [] h).trans (List.nil_append _)
inductive spStart (K:Fg) (vs:Jl) (H:Hp) (Q:VK) (_:XK):Prop
 | mk (p:Ad) (ns:J9) (r:Int) (_:vs=[.ref p,.int r]) (_:SqL K H p (ns.map V.int)) (_:0<=r) (_:∀ H',Same H H'->Q (.int (ns.take r.toNat).sum) H')
def ok_start (d:zk K mg "start_of" Zi ["lengths","row"]) (hsum:mg "sum"=none):Ok P w K mg base CX0 1 "start_of" ["lengths","row"] (spStart K):=by
 obtain ⟨g,fd,m,F,b⟩:=d;refine ⟨g,fd,m,F.kp,b,F.ok za8 (by rintro vs H Q E ⟨_,_,_,e,_⟩;rw [e];rfl) λcdv A outer s H vs Q E hr h=>?_⟩;obtain ⟨p,ns,r,rfl,hS,h0,k⟩:=h;refine ⟨_,(zf (zo (zD (Xy rfl) (by rfl) hsum PyProof.Rows.boot_sum (zb (Ya YI (pv 0) YN (YM (pv 1))) ze)))),?_⟩;dsimp only [ym,Cx.nox,Cx.wish];refine ⟨_,rfl,_,rfl,r,rfl,p,_,rfl,hS,λl hl=>?_⟩;rw [X2 h0];exact ⟨l,_,rfl,SqL.of zh,k _ (zn (Same.refl H) hl)⟩
def zp (lens:J9):J9:=(List.range lens.length).map λr=>(lens.take r).sum
def Mc.fresh (lens cells:J9) (L:Nat) (dust picks:J9):Mc where
 lens:=lens
 starts:=zp lens
 cells:=cells
 lq:=L
 nums:=List.replicate (8*L) 0
 mq:=List.replicate 16 (List.replicate (4*L) false)
 slots:=[]
 dust:=dust
 dq:=0
 picks:=picks
 pq:=0
 tq:=[]
 pc:=0
 oq:=0
 mn_:=0
 group:=1
 base:=0
 bq:=0
 wq:=0
 fq:=[]
 cut:=none
 cq:=none
 raised:=false
 turns:=[]
 rq_:=none
theorem msk_fresh (ms:Je) (r:List Bool):((ms.zip (List.replicate ms.length r)).map λp=>(p.1,HO.lst (p.2.map V.bl)))=ms.map λa=>(a,HO.lst (r.map V.bl)):=by
 induction ms with
 | nil=>rfl
 | cons a ms ih =>
  rw [q3x,List.replicate_succ,List.zip_cons_cons,List.map_cons,List.map_cons,ih]
inductive spInitN (c:MCs) (K:Fg) (vs:Jl) (H:Hp) (Q:VK) (_:XK):Prop
 | mk (B:Hp) (x dx l1 l2 l3 l4:Ad) (lens cells dust picks:J9) (L:Nat) (_:vs=[.ref x,.ref l1,.ref l2,.int L,.ref l3,.ref l4]) (_:Hd B [(x,.ins c.bn dx [])] H) (_:SqL K B l1 (lens.map V.int)) (_:SqL K B l2 (cells.map V.int)) (_:SqL K B l3 (dust.map V.int)) (_:SqL K B l4 (picks.map V.int)) (_:1<=L) (_:L<=64) (_:lens.length<=1000) (_:∀ B' A' H',Same B B'->A'.b=x->MAt c B' A' (Mc.fresh lens cells L dust picks) [] H'->Q .non H')
theorem ok_initN {c:MCs} {t1 t2:Tok} (d:ZX K c.bn "Bench.__init__" xL ["self","lengths","cells","lanes","dust","picks"]) (CC:MCls K c) (hlist:mg "list"=none) (hlen:mg "len"=none) (hrg:mg "range"=none) (hMT:mg "MOST_TOGETHER"=some (.int 4 t1)) (hMM:mg "MANY_MASKS"=some (.int 16 t2))
  (hCb:mg "Boxes"=some (.ref c.bx)) (hCf:mg "Feed"=some (.ref c.fe)) (SO:Ok P w K mg base CX0 1 "start_of" ["lengths","row"] (spStart K)) (IB:OkI P w K mg base CX0 1 c.bx ["self","lanes"] (spInitB c.bx)) (IF:OkI P w K mg base CX0 1 c.fe ["self","numbers"] (spInitF K c.fe)) :
  OkI P w K mg base CX0 3 c.bn ["self","lengths","cells","lanes","dust","picks"] (spInitN c K):=by
 obtain ⟨f,fd,m,F,bd⟩:=d;refine ⟨f,fd,m,bd,F.ok sc_Bench_init (by rintro vs H Q E ⟨_,_,_,_,_,_,_,_,_,_,_,_,e,_⟩;rw [e];rfl) λcdv A outer s H vs Q E hr h=>?_⟩;obtain ⟨B,x,dx,l1,l2,l3,l4,lens,cells,dust,picks,L,rfl,h,q1,q2,q3,q4,L1,L64,hl,q⟩:=h;have nd:=sc_Bench_init.nd;have hr2:=hr;have hr1:=hr.mono (show 1<=2 by decide);have CN:=CC.n;refine ⟨_,(zd (zF (pv 0) (yp ya (by rfl) hlist PyProof.Rows.boot_list (zb (pv 1) ze)) rfl)
   (zd (zF (pv 0) (Zf ["row","lengths"] [none,some 1] rfl rfl rfl (yN rfl hrg (zb (zD zV (by rfl) hlen PySem.boot_len (zb (pv 1) ze)) ze)) (λs3 H3 fp=>⟨zR (i:=0) (Jn ["row","lengths"]) rfl (Or.inl rfl),(zH SO hr1 (by rfl) zt (zb (pv 1) (zb (pv 0) ze)))⟩)) rfl)
   (zd (zF (pv 0) (yp ya (by rfl) hlist PyProof.Rows.boot_list (zb (pv 2) ze)) rfl)
   (zd (zF (pv 0) (pv 3) rfl)
   (zd (zF (pv 0) (zar IB hCb hr2 (by rfl) zt (zb (pv 3) ze)) rfl)
   (zd (zF (pv 0) (Zf ["mask","lanes"] [none,some 3] rfl rfl rfl (yN rfl hrg (zb (ZE hMM) ze)) (λs3 H3 fp=>⟨zR (i:=0) (Jn ["mask","lanes"]) rfl (Or.inl rfl),(zi op_rep (yk (zb xB ze)) (zi yq (ZE hMT) (pv 1)))⟩)) rfl)
   (zd (zF (pv 0) Xe rfl)
   (zd (zF (pv 0) (zar IF hCf hr2 (by rfl) zt (zb (pv 4) ze)) rfl)
   (zd (zF (pv 0) (zar IF hCf hr2 (by rfl) zt (zb (pv 5) ze)) rfl)
   (zd (zF (pv 0) (yk ze) rfl)
   (zd (zF (pv 0) zc rfl)
   (zd (zF (pv 0) zc rfl)
   (zd (zF (pv 0) zc rfl)
   (zd (zF (pv 0) zc rfl)
   (zd (zF (pv 0) zc rfl)
   (zd (zF (pv 0) zc rfl)
   (zd (zF (pv 0) zc rfl)
   (zd (zF (pv 0) Xe rfl)
   (zd (zF (pv 0) yW rfl)
   (zd (zF (pv 0) yW rfl)
   (zd (zF (pv 0) xB rfl)
   (zd (zF (pv 0) (yk ze) rfl)
   (zf (zF (pv 0) yW rfl)))))))))))))))))))))))),?_⟩
 dsimp only [ym,Cx.nox,Cx.wish];have SL:(3000:Nat)<sizeLine:=by decide
 have q1:SqL K B l1 (lens.map V.int):=q1;obtain ⟨F0,e0F,nF⟩:∃ F0:List (Str×V),[]=F0/\F0.length+30<1000:=⟨[],rfl,by decide⟩;rw [e0F] at h;refine ⟨_,rfl,l1,_,rfl,.inl (h.sql q1),λaL nL=>?_⟩;replace h:=h.fnew (o:=.lst (lens.map V.int)) nL;generalize upd H aL _=H at h ⊢;refine ⟨_,rfl,x,_,_,_,rfl,h.get 0 rfl,CN.c,CN.lengths,yF nF,?_⟩;obtain ⟨F1,f1,nF⟩:=yE "lengths" (.ref aL) nF;replace h:=h.fput (o':=.ins c.bn dx (zL "lengths" (.ref aL) F0));rw [f1] at h ⊢;generalize upd H x _=H at h ⊢;refine ⟨_,rfl,l1,_,rfl,.inl (h.sql q1),_,rfl,(by rw [Jg];omega),(by rw [Jg];omega),_,rfl,λD nD=>?_⟩;rw [Jg];have q1':SqL K H l1 (lens.map V.int):=h.sql q1;have h0:Hd H [(D,.lst ((((List.range 0).map λr=>(lens.take r).sum)).map V.int))] (upd H D (.lst [])):=Hd.base.new nD;generalize upd H D (.lst [])=H3 at h0 ⊢;refine xS (n:=lens.length) (λi σ J=>∃ u,σ=[u,rq l1]/\Hd H [(D,.lst ((((List.range i).map λr=>(lens.take r).sum)).map V.int))] J) ⟨none,rfl,h0⟩ ?_ ?_
 ·clear h0
  rintro i σ J hi ⟨u,rfl,h⟩;refine ⟨_,rfl,_,rfl,l1,lens,0+(i:Int),rfl,h.sql q1',by omega,λJ1 s1=>?_⟩;have h:=h.same s1;refine ⟨_,h.get 0 rfl,(by rw [Jg,Jg,List.length_range];omega),_,rfl,?_⟩;have h:=h.put (o':=.lst ((((List.range (i+1)).map λr=>(lens.take r).sum)).map V.int)) 0 rfl
  have e:((List.range (i+1)).map λr=>(lens.take r).sum).map V.int=((List.range i).map λr=>(lens.take r).sum).map V.int++[V.int (lens.take (0+(i:Int)).toNat).sum]:=by
   rw [List.range_succ,Ji,Ji,show (0+(i:Int)).toNat=i by omega];rfl
  rw [e] at h ⊢;exact h
 rintro σ H ⟨u,rfl,hD⟩;replace h:=h.join hD;clear hD h0 nD q1';refine ⟨_,rfl,x,_,_,_,rfl,h.get 0 rfl,CN.c,CN.starts,yF nF,?_⟩;obtain ⟨F2,f2,nF⟩:=yE "starts" (.ref D) nF;replace h:=h.fput (o':=.ins c.bn dx (zL "starts" (.ref D) F1));rw [f2] at h ⊢;generalize upd H x _=H at h ⊢;refine ⟨_,rfl,l2,_,rfl,.inl (h.sql q2),λaC nC=>?_⟩;replace h:=h.fnew (o:=.lst (cells.map V.int)) nC;generalize upd H aC _=H at h ⊢;refine ⟨_,rfl,x,_,_,_,rfl,h.get 0 rfl,CN.c,CN.cells,yF nF,?_⟩;obtain ⟨F3,f3,nF⟩:=yE "cells" (.ref aC) nF;replace h:=h.fput (o':=.ins c.bn dx (zL "cells" (.ref aC) F2));rw [f3] at h ⊢;generalize upd H x _=H at h ⊢;refine ⟨_,rfl,_,rfl,x,_,_,_,rfl,h.get 0 rfl,CN.c,CN.lq,yF nF,?_⟩;obtain ⟨F4,f4,nF⟩:=yE "lanes" (.int L) nF;replace h:=h.fput (o':=.ins c.bn dx (zL "lanes" (.int L) F3));rw [f4] at h ⊢;generalize upd H x _=H at h ⊢;refine ⟨_,rfl,λbx dbx nbx ndbx nebx=>?_⟩;refine ⟨bx,dbx,L,rfl,zh,by omega,by omega,λH1 aN k nN ebx eN=>⟨rfl,?_⟩⟩;have h:=(h.made nbx ndbx nebx k nN ebx eN).sub (.cons₂ _ (.cons₂ _ (.cons _ (List.Sublist.refl _))));have e8:(8*(L:Int)).toNat=8*L:=by omega
 rw [e8] at h;clear k nN ebx eN;generalize H1=H at h ⊢;replace h:=zX h 2 rfl;refine ⟨_,rfl,x,_,_,_,rfl,h.get 0 rfl,CN.c,CN.boxes,yF nF,?_⟩;obtain ⟨F5,f5,nF⟩:=yE "boxes" (.ref bx) nF;replace h:=h.fput (o':=.ins c.bn dx (zL "boxes" (.ref bx) F4));rw [f5] at h ⊢;generalize upd H x _=H at h ⊢;have e4:(4*(L:Int)).toNat=4*L:=by omega
 refine ⟨_,rfl,(by decide),(by decide),_,rfl,λaM nM=>?_⟩;have h0:Hd H ((aM,.lst (([]:Je).map V.ref))::([]:Je).map λa=>(a,HO.lst ((List.replicate (4*L) false).map V.bl))) (upd H aM (.lst [])):=Hd.base.new nM;generalize upd H aM (.lst [])=H3 at h0 ⊢;refine xS (n:=16) (λi σ J=>∃ u ms,ms.length=i/\σ=[u,iq L]/\Hd H ((aM,.lst (ms.map V.ref))::ms.map λa=>(a,HO.lst ((List.replicate (4*L) false).map V.bl))) J) ⟨none,[],rfl,rfl,h0⟩ ?_ ?_
 ·clear h0
  rintro i σ J hi ⟨u,ms,lm,rfl,h⟩;refine ⟨(by show 1<=sizeLine;decide),λt nt=>⟨_,rfl,_,_,rfl,rfl,.inl ⟨by decide,by decide⟩,t,_,_,rfl,rfl,zh,by omega,by omega,?_,λl nl=>?_⟩⟩
  ·show 1*(4*(L:Int)).toNat<=sizeLine
   omega
  have h:=((h.waste (o:=.lst [.bl false]) nt).fnew (o:=.lst (List.replicate (4*(L:Int)).toNat [V.bl false]).flatten) nl);generalize upd _ l _=J2 at h ⊢;refine ⟨_,h.get 0 rfl,(by rw [Jg];omega),_,ms++[l],(by rw [Jh,lm];rfl),rfl,?_⟩;have h:=h.fput (o':=.lst ((ms++[l]).map V.ref))
  have e:(List.replicate (4*(L:Int)).toNat [V.bl false]).flatten=(List.replicate (4*L) false).map V.bl:=by
   rw [e4];generalize 4*L=n
   induction n with
   | zero=>rfl
   | succ n ih=>rw [List.replicate_succ,List.flatten_cons,ih,List.replicate_succ];rfl
  rw [e] at h;rw [Ji] at h ⊢;rw [Ji];exact h.perm (List.Perm.cons _ (List.perm_append_comm (l₁:=[_])))
 rintro σ H ⟨u,ms,lm,rfl,hD⟩;have hM:=hD.tl;replace h:=h.join hD;clear hD h0 nM;generalize hMS:(ms.map λa=>(a,HO.lst ((List.replicate (4*L) false).map V.bl)))=MS at h;refine ⟨_,rfl,x,_,_,_,rfl,h.get 0 rfl,CN.c,CN.mq,yF nF,?_⟩;obtain ⟨F6,f6,nF⟩:=yE "masks" (.ref aM) nF;replace h:=h.fput (o':=.ins c.bn dx (zL "masks" (.ref aM) F5));rw [f6] at h ⊢;generalize upd H x _=H at h ⊢;refine λaSl nSl=>?_;replace h:=h.fnew (o:=.dK []) nSl;generalize upd H aSl _=H at h ⊢;refine ⟨_,rfl,x,_,_,_,rfl,h.get 0 rfl,CN.c,CN.slots,yF nF,?_⟩;obtain ⟨F7,f7,nF⟩:=yE "slots" (.ref aSl) nF;replace h:=h.fput (o':=.ins c.bn dx (zL "slots" (.ref aSl) F6));rw [f7] at h ⊢;generalize upd H x _=H at h ⊢;refine ⟨_,rfl,λfd dfd n1 n2 n3=>?_⟩;refine ⟨fd,dfd,l3,dust,rfl,zh,zw (h.sql q3) (((zn (Same.refl _) n2)).trans (zn (Same.refl _) (by rw [zj (Ne.symm n3)];exact n1))),λH1 aD k n4 e1 e2=>⟨rfl,?_⟩⟩;have h:=(h.made n1 n2 n3 k n4 e1 e2).sub (.cons₂ _ (.cons₂ _ (.cons _ (List.Sublist.refl _))));clear k n4 e1 e2;generalize H1=H at h ⊢;replace h:=zX h 2 rfl;refine ⟨_,rfl,x,_,_,_,rfl,h.get 0 rfl,CN.c,CN.dust,yF nF,?_⟩;obtain ⟨F8,f8,nF⟩:=yE "dust" (.ref fd) nF;replace h:=h.fput (o':=.ins c.bn dx (zL "dust" (.ref fd) F7));rw [f8] at h ⊢;generalize upd H x _=H at h ⊢;refine ⟨_,rfl,λfp dfp n1 n2 n3=>?_⟩;refine ⟨fp,dfp,l4,picks,rfl,zh,zw (h.sql q4) (((zn (Same.refl _) n2)).trans (zn (Same.refl _) (by rw [zj (Ne.symm n3)];exact n1))),λH1 aP k n4 e1 e2=>⟨rfl,?_⟩⟩;have h:=(h.made n1 n2 n3 k n4 e1 e2).sub (.cons₂ _ (.cons₂ _ (.cons _ (List.Sublist.refl _))));clear k n4 e1 e2;generalize H1=H at h ⊢;replace h:=zX h 2 rfl;refine ⟨_,rfl,x,_,_,_,rfl,h.get 0 rfl,CN.c,CN.picks,yF nF,?_⟩;obtain ⟨F9,f9,nF⟩:=yE "picks" (.ref fp) nF;replace h:=h.fput (o':=.ins c.bn dx (zL "picks" (.ref fp) F8));rw [f9] at h ⊢;generalize upd H x _=H at h ⊢;refine ⟨(by show 0<=sizeLine;exact Nat.zero_le _),λaT nT=>?_⟩;replace h:=h.fnew (o:=.lst []) nT;generalize upd H aT _=H at h ⊢;refine ⟨_,rfl,x,_,_,_,rfl,h.get 0 rfl,CN.c,CN.tq,yF nF,?_⟩;obtain ⟨F10,f10,nF⟩:=yE "touches" (.ref aT) nF;replace h:=h.fput (o':=.ins c.bn dx (zL "touches" (.ref aT) F9));rw [f10] at h ⊢;generalize upd H x _=H at h ⊢;refine ⟨_,rfl,x,_,_,_,rfl,h.get 0 rfl,CN.c,CN.pc,yF nF,?_⟩;obtain ⟨F11,f11,nF⟩:=yE "at" (.int 0) nF;replace h:=h.fput (o':=.ins c.bn dx (zL "at" (.int 0) F10));rw [f11] at h ⊢;generalize upd H x _=H at h ⊢;refine ⟨_,rfl,x,_,_,_,rfl,h.get 0 rfl,CN.c,CN.oq,yF nF,?_⟩;obtain ⟨F12,f12,nF⟩:=yE "opened" (.int 0) nF;replace h:=h.fput (o':=.ins c.bn dx (zL "opened" (.int 0) F11));rw [f12] at h ⊢;generalize upd H x _=H at h ⊢;refine ⟨_,rfl,x,_,_,_,rfl,h.get 0 rfl,CN.c,CN.mn_,yF nF,?_⟩;obtain ⟨F13,f13,nF⟩:=yE "many" (.int 0) nF;replace h:=h.fput (o':=.ins c.bn dx (zL "many" (.int 0) F12));rw [f13] at h ⊢;generalize upd H x _=H at h ⊢;refine ⟨_,rfl,x,_,_,_,rfl,h.get 0 rfl,CN.c,CN.group,yF nF,?_⟩;obtain ⟨F14,f14,nF⟩:=yE "group" (.int 1) nF;replace h:=h.fput (o':=.ins c.bn dx (zL "group" (.int 1) F13));rw [f14] at h ⊢;generalize upd H x _=H at h ⊢;refine ⟨_,rfl,x,_,_,_,rfl,h.get 0 rfl,CN.c,CN.base,yF nF,?_⟩;obtain ⟨F15,f15,nF⟩:=yE "base" (.int 0) nF;replace h:=h.fput (o':=.ins c.bn dx (zL "base" (.int 0) F14));rw [f15] at h ⊢;generalize upd H x _=H at h ⊢;refine ⟨_,rfl,x,_,_,_,rfl,h.get 0 rfl,CN.c,CN.bq,yF nF,?_⟩;obtain ⟨F16,f16,nF⟩:=yE "begun" (.int 0) nF;replace h:=h.fput (o':=.ins c.bn dx (zL "begun" (.int 0) F15));rw [f16] at h ⊢;generalize upd H x _=H at h ⊢;refine ⟨_,rfl,x,_,_,_,rfl,h.get 0 rfl,CN.c,CN.wq,yF nF,?_⟩;obtain ⟨F17,f17,nF⟩:=yE "width" (.int 0) nF;replace h:=h.fput (o':=.ins c.bn dx (zL "width" (.int 0) F16));rw [f17] at h ⊢;generalize upd H x _=H at h ⊢;refine λaF nF'=>?_;replace h:=h.fnew (o:=.dK []) nF';generalize upd H aF _=H at h ⊢;refine ⟨_,rfl,x,_,_,_,rfl,h.get 0 rfl,CN.c,CN.fq,yF nF,?_⟩;obtain ⟨F18,f18,nF⟩:=yE "faults" (.ref aF) nF;replace h:=h.fput (o':=.ins c.bn dx (zL "faults" (.ref aF) F17));rw [f18] at h ⊢;generalize upd H x _=H at h ⊢;refine ⟨_,rfl,x,_,_,_,rfl,h.get 0 rfl,CN.c,CN.cut,yF nF,?_⟩;obtain ⟨F19,f19,nF⟩:=yE "cut" (.non) nF;replace h:=h.fput (o':=.ins c.bn dx (zL "cut" (.non) F18));rw [f19] at h ⊢;generalize upd H x _=H at h ⊢;refine ⟨_,rfl,x,_,_,_,rfl,h.get 0 rfl,CN.c,CN.cq,yF nF,?_⟩;obtain ⟨F20,f20,nF⟩:=yE "carried" (.non) nF;replace h:=h.fput (o':=.ins c.bn dx (zL "carried" (.non) F19));rw [f20] at h ⊢;generalize upd H x _=H at h ⊢;refine ⟨_,rfl,x,_,_,_,rfl,h.get 0 rfl,CN.c,CN.raised,yF nF,?_⟩;obtain ⟨F21,f21,nF⟩:=yE "raised" (.bl false) nF;replace h:=h.fput (o':=.ins c.bn dx (zL "raised" (.bl false) F20));rw [f21] at h ⊢;generalize upd H x _=H at h ⊢;refine ⟨(by show 0<=sizeLine;exact Nat.zero_le _),λaU nU=>?_⟩;replace h:=h.fnew (o:=.lst []) nU;generalize upd H aU _=H at h ⊢;refine ⟨_,rfl,x,_,_,_,rfl,h.get 0 rfl,CN.c,CN.turns,yF nF,?_⟩;obtain ⟨F22,f22,nF⟩:=yE "turns" (.ref aU) nF;replace h:=h.fput (o':=.ins c.bn dx (zL "turns" (.ref aU) F21));rw [f22] at h ⊢;generalize upd H x _=H at h ⊢;refine ⟨_,rfl,x,_,_,_,rfl,h.get 0 rfl,CN.c,CN.rq_,yF nF,?_⟩;obtain ⟨F23,f23,nF⟩:=yE "refusal" (.non) nF;replace h:=h.fput (o':=.ins c.bn dx (zL "refusal" (.non) F22));rw [f23] at h ⊢;generalize upd H x _=H at h ⊢;replace h:=zX h 1 rfl;replace h:=zX h 2 rfl;replace h:=zX h 3 rfl;replace h:=zX h 5 rfl;replace h:=zX h 7 rfl;replace h:=zX h 8 rfl;replace h:=zX h 9 rfl;replace h:=zX h 11 rfl;replace h:=zX h 8 rfl;replace h:=zX h 9 rfl;replace h:=zX h 10 rfl;replace h:=zX h 11 rfl;replace h:=zX h 14 rfl;replace h:=zX h 14 rfl;replace h:=zX h 14 rfl
 have ef:F23=yY ⟨x,dx,aL,D,aC,bx,dbx,aN,aM,aSl,fd,dfd,aD,fp,dfp,aP,aT,aF,aU,ms,[],[],.non⟩ (Mc.fresh lens cells L dust picks):=by
  rw [← f23,← f22,← f21,← f20,← f19,← f18,← f17,← f16,← f15,← f14,← f13,← f12,← f11,← f10,← f9,← f8,← f7,← f6,← f5,← f4,← f3,← f2,← f1,← e0F];have z:=foldF0 (yY ⟨x,dx,aL,D,aC,bx,dbx,aN,aM,aSl,fd,dfd,aD,fp,dfp,aP,aT,aF,aU,ms,[],[],.non⟩ (Mc.fresh lens cells L dust picks)) (show (["lengths","starts","cells","lanes","boxes","masks","slots","dust","picks","touches","at","opened","many","group","base","begun","width","faults","cut","carried","raised","turns","refusal"]:Jd).Nodup by decide +kernel);unfold yY at z ⊢;dsimp only [List.foldl] at z;exact z
 rw [ef] at h;obtain ⟨B',sB,eB,h⟩:=Hd.settles (S:=[_,_,_,_,_,_]) h;refine q B' ⟨x,dx,aL,D,aC,bx,dbx,aN,aM,aSl,fd,dfd,aD,fp,dfp,aP,aT,aF,aU,ms,[],[],.non⟩ H sB rfl ⟨⟨eB _ (.head _),eB _ (.tail _ (.head _)),eB _ (.tail _ (.tail _ (.tail _ (.head _)))),eB _ (.tail _ (.tail _ (.head _))),?_,eB _ (.tail _ (.tail _ (.tail _ (.tail _ (.head _))))),eB _ (.tail _ (.tail _ (.tail _ (.tail _ (.tail _ (.head _)))))),rfl,(λi t p a=>nomatch a),rfl,(λi t p a=>nomatch a),rfl⟩,?_⟩
 ·show ms.length=(List.replicate 16 _).length
  rw [lm,List.length_replicate]
 ·unfold objs
  have e0:∀ ns:J9,fAt ns 0=0:=λns=>by unfold fAt;rw [Nat.zero_mod];split <;> rfl
  have em:Zg ⟨x,dx,aL,D,aC,bx,dbx,aN,aM,aSl,fd,dfd,aD,fp,dfp,aP,aT,aF,aU,ms,[],[],.non⟩ (Mc.fresh lens cells L dust picks)=MS:=by
   rw [← hMS];show (ms.zip (List.replicate 16 _)).map _=_;rw [← lm];exact msk_fresh ms _
  rw [em,q3y];show Hd B' (_::_::_::_::(fd,ZK c.fe dfd aD (fAt dust 0))::(fp,ZK c.fe dfp aP (fAt picks 0))::_::_::_::MS) H;rw [e0,e0];exact h
inductive Run (L:Lex) (code:List (Jl)):Nat->Mc->Mc->Prop
 | done {M}:(code.length:Int)<=M.pc∨M.rq_.isSome=true->Run L code 0 M M
 | step {n M M1 Mf tv}:0<=M.pc->M.rq_=none->code[M.pc.toNat]?=some tv->Step L tv M M1->Run L code n M1 Mf->Run L code (n+1) M Mf
structure CodeAt (B:Hp) (cs:Je) (code:List (Jl)):Prop where
 n:cs.length=code.length
 t:∀ (i:Nat) a tv,cs[i]?=some a->code[i]?=some tv->B a=some (.tup tv)
inductive spRan (c:MCs) (K:Fg) (Lx:Lex) (vs:Jl) (H:Hp) (Q:VK) (_:XK):Prop
 | mk (a l1 l2 l3 l4:Ad) (cs:Je) (code:List (Jl)) (lens cells dust picks:J9) (L n:Nat) (Mf:Mc) (_:vs=[.ref a,.ref l1,.ref l2,.int L,.ref l3,.ref l4]) (_:SqL K H a (cs.map V.ref)) (_:CodeAt H cs code) (_:SqL K H l1 (lens.map V.int)) (_:SqL K H l2 (cells.map V.int)) (_:SqL K H l3 (dust.map V.int)) (_:SqL K H l4 (picks.map V.int)) (_:1<=L) (_:L<=64) (_:lens.length<=1000) (_:code.length<=1000) (_:Run Lx code n (Mc.fresh lens cells L dust picks) Mf) (_:∀ B' A' H' t,Same H B'->MAt c B' A' Mf [] H'->B' t=some (.tup [.ref A'.aC,A'.rf,.ref A'.aT])->Q (.ref t) H')
theorem ok_ran {c:MCs} {Lx:Lex} (d:zk K mg "ran" s_ran ["code","lengths","cells","lanes","dust","picks"]) (CC:MCls K c) (hlen:mg "len"=none) (hCn:mg "Bench"=some (.ref c.bn)) (IN:OkI P w K mg base CX0 3 c.bn ["self","lengths","cells","lanes","dust","picks"] (spInitN c K)) (PB:Ok P w K mg base CX0 9 "place_behind" ["bench","step"] (spPB c Lx)) :
  Ok P w K mg base CX0 10 "ran" ["code","lengths","cells","lanes","dust","picks"] (spRan c K Lx):=by
 obtain ⟨g,fd,m,F,b⟩:=d;refine ⟨g,fd,m,F.kp,b,F.ok sc_ran (by rintro vs H Q E ⟨_,_,_,_,_,_,_,_,_,_,_,_,_,_,e,_⟩;rw [e];rfl) λcdv A outer s H vs Q E hr h=>?_⟩;obtain ⟨a,l1,l2,l3,l4,cs,code,lens,cells,dust,picks,L,n,Mf,rfl,qa,CA,q1,q2,q3,q4,L1,L64,hl,hcl,run,q⟩:=h;have nd:=sc_ran.nd;have hr6:=hr;have hr4:=hr.mono (show 4<=9 by decide);have CN:=CC.n;refine ⟨_,(zd (zv (i:=6) nd rfl (Or.inl rfl) (zar IN hCn hr4 (by rfl) zt (zb (pv 1) (zb (pv 2) (zb (pv 3) (zb (pv 4) (zb (pv 5) ze)))))))
   (zd (zbe PassesOwn.never (Y7 (zK Xg (zu (pv 6) rfl) (zD zV (by rfl) hlen PySem.boot_len (zb (pv 0) ze)) (zG _)) (Z8 (zK Xh (zu (pv 6) rfl) yW (zG _)))).pt (zf (zF (pv 6) (zH PB hr6 (by rfl) zt (zb (pv 6) (zb (zq zO (pv 0) (zu (pv 6) rfl) (λ_ _=>rfl)) ze))) rfl)))
   (zf (zo (zM (zb (zu (pv 6) rfl) (zb (zu (pv 6) rfl) (zb (zu (pv 6) rfl) ze)))))))),?_⟩
 dsimp only [ym,Cx.nox,Cx.wish];refine ⟨_,rfl,_,rfl,_,rfl,_,rfl,_,rfl,λx dx nx ndx ne=>?_⟩;have s0:Same H (upd H dx (.own x)):=zn (Same.refl _) ndx;have h0:Hd (upd H dx (.own x)) [(x,.ins c.bn dx [])] (upd (upd H dx (.own x)) x (.ins c.bn dx [])):=Hd.base.new (by rw [zj (Ne.symm ne)];exact nx);refine ⟨upd H dx (.own x),x,dx,l1,l2,l3,l4,lens,cells,dust,picks,L,rfl,h0,zw q1 s0,zw q2 s0,zw q3 s0,zw q4 s0,L1,L64,hl,λB1 A1 H1 s1 eb m1=>⟨rfl,?_⟩⟩;have sH:Same H B1:=s0.trans s1;have SQ:∀ {B2:Hp} {A2:Ma} {M:Mc} {H2:Hp},Same H B2->MAt c B2 A2 M [] H2->SqL K H2 a (cs.map V.ref):=λs2 m2=>zw (zw qa s2) m2.h.sm;refine ⟨λk σ J=>∃ B2 A2 M,σ=[rq a,rq l1,rq l2,iq L,rq l3,rq l4,rq x]/\Same H B2/\A2.b=x/\MAt c B2 A2 M [] J/\Run Lx code k M Mf,⟨n,B1,A1,_,rfl,sH,eb,m1,run⟩,?_⟩;rintro k σ J ⟨B2,A2,M,rfl,s2,eb2,m2,run⟩;have lcs:(cs.map V.ref).length=code.length:=by rw [Jg];exact CA.n
 have rfn:M.rq_=none->A2.rf=.non:=λz=>by have:=m2.bb.rf;rw [z] at this;exact this
 have rfs:M.rq_.isSome=true->∃ t,A2.rf=.ref t:=λz=>by
  have:=m2.bb.rf
  cases e:M.rq_ with
  | none=>rw [e] at z;cases z
  | some r=>rw [e] at this;obtain ⟨t,y,_⟩:=this;exact ⟨t,y⟩
 refine ⟨_,rfl,A2.b,_,_,_,.int M.pc,by rw [eb2],m2.b,CN.c,CN.pc,rfl,_,rfl,a,_,rfl,.inl (SQ s2 m2),_,_,rfl,rfl,_,rfl,?_⟩;rw [lcs];have fin:Run Lx code 0 M Mf->Mf=M:=λz=>by cases z;rfl
 cases run with
 | done hd =>
  have ret:∀ J',J'=J->tRet (tTup (YW (tFld K (tVar 6) "cells") (YW (tFld K (tVar 6) "refusal") (YW (tFld K (tVar 6) "touches") tNil)))) ⟨λ_ H'=>Q V.non H',Q,λ_ _=>False,λ_ _=>False⟩ [rq a,rq l1,rq l2,iq L,rq l3,rq l4,rq x] J':=by
   rintro J' rfl;refine ⟨_,rfl,A2.b,_,_,_,.ref A2.aC,by rw [eb2],m2.b,CN.c,CN.cells,rfl,_,rfl,A2.b,_,_,_,A2.rf,by rw [eb2],m2.b,CN.c,CN.rq_,rfl,_,rfl,A2.b,_,_,_,.ref A2.aT,by rw [eb2],m2.b,CN.c,CN.tq,rfl,(by show 3<=sizeLine;decide),λt nt=>?_⟩;exact q _ A2 _ t (s2.trans (zn (Same.refl _) (m2.h.free nt))) (m2.grow nt) zh
  by_cases z:Mf.pc<(code.length:Int)
  ·rcases hd with y | y
   ·omega
   obtain ⟨t,et⟩:=rfs y;rw [decide_eq_true z];refine xN ⟨_,rfl,A2.b,_,_,_,A2.rf,by rw [eb2],m2.b,CN.c,CN.rq_,rfl,rfl,_,rfl,?_⟩;rw [et];exact yw (ret _ rfl)
  ·rw [decide_eq_false z]
   exact yw (yw (ret _ rfl))
 | step p0 hn ec st run =>
  rename_i k M1 tv;have hlt:M.pc.toNat<code.length:=(List.getElem?_eq_some_iff.mp ec).1;have z:M.pc<(code.length:Int):=by omega
  rw [decide_eq_true z];refine xN ⟨_,rfl,A2.b,_,_,_,A2.rf,by rw [eb2],m2.b,CN.c,CN.rq_,rfl,rfl,_,rfl,?_⟩;rw [rfn hn];refine xN ⟨λσ' J'=>∃ B2 A2,σ'=[rq a,rq l1,rq l2,iq L,rq l3,rq l4,rq x]/\Same H B2/\A2.b=x/\MAt c B2 A2 M1 [] J',λσ' J' ⟨B3,A3,e3,s3,eb3,m3⟩=>⟨k,by omega,B3,A3,M1,e3,s3,eb3,m3,run⟩,?_⟩;obtain ⟨st',es'⟩:∃ y,cs[M.pc.toNat]?=some y:=⟨cs[M.pc.toNat]'(by rw [CA.n];exact hlt),List.getElem?_eq_getElem _⟩;have eT:=CA.t _ _ _ es' ec;refine ⟨_,rfl,_,rfl,_,rfl,A2.b,_,_,_,.int M.pc,by rw [eb2],m2.b,CN.c,CN.pc,rfl,a,_,_,.ref st',rfl,rfl,SQ s2 m2,?_,B2,A2,M,[],st',tv,M1,by rw [eb2];rfl,m2,s2 _ _ eT,st,λB3 A3 J3 M2 s3 eb3 m3 em=>?_⟩
  ·rw [show M.pc=((M.pc.toNat:Nat):Int) by omega]
   exact zm (by rw [List.getElem?_map,es'];rfl)
  refine ⟨_,rfl,A3.b,_,_,_,by rw [eb3,eb2],m3.b,CN.c,CN.pc,(by show 23<1000;decide),?_⟩;have m4:=m3.s_pc M1.pc;rw [← em] at m4;exact ⟨B3,A3,rfl,s2.trans s3,eb3.trans eb2,m4⟩
inductive spCA (K:Fg) (vs:Jl) (H:Hp) (Q:VK) (_:XK):Prop
 | mk (a:Ad) (ns:J9) (k:Int) (_:vs=[.ref a,.int k]) (_:SqL K H a (ns.map V.int)) (_:0<=k) (_:Q (.int (ns.getD k.toNat 0)) H)
def zck (d:zk K mg "_law_cell_at" xY ["_law_script","_law_k"]) (hlen:mg "len"=none):Ok P w K mg base CX0 1 "_law_cell_at" ["_law_script","_law_k"] (spCA K):=by
 obtain ⟨g,fd,m,F,b⟩:=d;refine ⟨g,fd,m,F.kp,b,F.ok zah (by rintro vs H Q E ⟨_,_,_,e,_⟩;rw [e];rfl) λcdv A outer s H vs Q E hr h=>?_⟩;obtain ⟨a,ns,i,rfl,hS,h0,k⟩:=h;refine ⟨_,(zd (zZ (zK Xg (pv 1) (zD zV (by rfl) hlen PySem.boot_len (zb (pv 0) ze)) (zG _)) (zf (zo (zq zO (pv 0) (pv 1) (λ_ _=>rfl)))) zE)
   (zf (zo zc))),?_⟩
 refine ⟨_,rfl,_,rfl,a,_,rfl,.inl hS,_,_,rfl,rfl,_,rfl,?_⟩;rw [Jg];refine xA (λz=>?_) (λz=>?_)
 ·have z:i<(ns.length:Int):=by simpa using z
  exact ⟨_,rfl,_,rfl,a,_,_,_,rfl,rfl,hS,xl i.toNat (by omega) (by omega),k⟩
 ·have z:¬ i<(ns.length:Int):=by simpa using z
  have e:ns.getD i.toNat 0=0:=by rw [q1x,List.getElem?_eq_none (by omega)];rfl
  rw [e] at k;exact k
inductive spSome (K:Fg) (vs:Jl) (H:Hp) (Q:VK) (_:XK):Prop
 | mk (a:Ad) (ns:J9) (k sa m:Int) (_:vs=[.ref a,.int k,.int sa,.int m]) (_:SqL K H a (ns.map V.int)) (_:0<=k) (_:k<=100000) (_:0<=sa) (_:sa<=100000) (_:0<m) (_:∀ r,0<=r->r<m->Q (.int r) H)
def ok_some (d:zk K mg "_law_some" Z5 ["_law_script","_law_k","_law_salt","_law_many"]) (CA:Ok P w K mg base CX0 1 "_law_cell_at" ["_law_script","_law_k"] (spCA K)):Ok P w K mg base CX0 2 "_law_some" ["_law_script","_law_k","_law_salt","_law_many"] (spSome K):=by
 obtain ⟨g,fd,m,F,b⟩:=d;refine ⟨g,fd,m,F.kp,b,F.ok sc_l_some (by rintro vs H Q E ⟨_,_,_,_,_,e,_⟩;rw [e];rfl) λcdv A outer s H vs Q E hr h=>?_⟩;obtain ⟨a,ns,i,sa,mm,rfl,hS,h0,h1,h2,h3,h4,k⟩:=h;have nd:=sc_l_some.nd;have hr1:=hr;refine ⟨_,(zd (zv (i:=4) nd rfl (Or.inl rfl) (zi zB (zi yD (zH CA hr1 (by rfl) zt (zb (pv 0) (zb (pv 1) ze))) zc) zc))
   (zd (zv (i:=5) nd rfl (Or.inl rfl) (zi yD (zi yq (pv 4) (zi zB (zi zB zc (zi yq (zi yq zc (pv 1)) (pv 1))) (zi yq (zi yq zc (pv 2)) (pv 2)))) zc))
   (zf (zo (zi yD (zi zas (zi yD (zi yq (pv 5) (pv 5)) zc) zc) (pv 3)))))),?_⟩
 refine ⟨_,rfl,_,rfl,a,ns,i,rfl,hS,h0,_,_,rfl,rfl,(by show (0:Int)<1000003;decide),_,_,rfl,rfl,?_⟩;have c0:=Int.emod_nonneg (ns.getD i.toNat 0) (show (1000003:Int)≠0 by decide);have c1:=Int.emod_lt_of_pos (ns.getD i.toNat 0) (show (0:Int)<1000003 by decide);refine ⟨_,rfl,_,rfl,_,_,rfl,rfl,.inl ⟨by decide,by decide⟩,_,rfl,_,_,rfl,rfl,.inl ⟨by omega,by omega⟩,_,_,rfl,rfl,_,rfl,_,_,rfl,rfl,.inl ⟨by decide,by decide⟩,_,rfl,_,_,rfl,rfl,.inl ⟨by omega,by omega⟩,_,_,rfl,rfl,_,_,rfl,rfl,.inl ⟨by omega,by omega⟩,_,_,rfl,rfl,(by show (0:Int)<2147483647;decide),?_⟩;generalize (ns.getD i.toNat 0 % 1000003+1)*(48271+1000*i*i+69621*sa*sa)=y;refine ⟨_,rfl,_,rfl,_,_,rfl,rfl,.inl ⟨by omega,by omega⟩,_,_,rfl,rfl,(by show (0:Int)<2147483629;decide),_,_,rfl,rfl,⟨by decide,by decide⟩,_,rfl,_,_,rfl,rfl,h4,?_⟩;exact k _ (Int.emod_nonneg _ (by omega)) (Int.emod_lt_of_pos _ h4)
inductive spNumber (K:Fg) (vs:Jl) (H:Hp) (Q:VK) (_:XK):Prop
 | mk (a:Ad) (ns:J9) (k:Int) (_:vs=[.ref a,.int k]) (_:SqL K H a (ns.map V.int)) (_:0<=k) (_:k<=100000) (_:∀ r,Q (.int r) H)
def ok_number (d:zk K mg "_law_number" Zl ["_law_script","_law_k"]) (CA:Ok P w K mg base CX0 1 "_law_cell_at" ["_law_script","_law_k"] (spCA K)) (SM:Ok P w K mg base CX0 2 "_law_some" ["_law_script","_law_k","_law_salt","_law_many"] (spSome K)) :
  Ok P w K mg base CX0 3 "_law_number" ["_law_script","_law_k"] (spNumber K):=by
 obtain ⟨g,fd,m,F,b⟩:=d;refine ⟨g,fd,m,F.kp,b,F.ok sc_l_number (by rintro vs H Q E ⟨_,_,_,e,_⟩;rw [e];rfl) λcdv A outer s H vs Q E hr h=>?_⟩;obtain ⟨a,ns,i,rfl,hS,h0,h1,k⟩:=h;have nd:=sc_l_number.nd;have hr2:=hr;have hr1:Room 1 _:=hr.mono (by decide);refine ⟨_,(zd (zv (i:=2) nd rfl (Or.inl rfl) (zi yD (zH CA hr1 (by rfl) zt (zb (pv 0) (zb (pv 1) ze))) zc))
   (zd (zZ (zK xf (zH SM hr2 (by rfl) zt (zb (pv 0) (zb (pv 1) (zb zc (zb zc ze))))) zc (zG _)) (zf (zo (zi Zo (zi yD (zi zB (pv 2) (zi yq zc (pv 1))) zc) zc))) zE)
   (zd (zv (i:=3) nd rfl (Or.inl rfl) (zi zB (zi yq (pv 2) zc) (zi yq (zi yq (pv 1) (pv 1)) zc)))
   (zf (zo (zi Zo (zi yD (pv 3) zc) zc)))))),?_⟩
 refine ⟨_,rfl,_,rfl,a,ns,i,rfl,hS,h0,_,_,rfl,rfl,(by show (0:Int)<18446744073709551616;decide),?_⟩;refine ⟨_,rfl,_,rfl,a,ns,i,9,2,rfl,hS,h0,h1,by decide,by decide,by decide,λr r0 r1=>⟨rfl,_,rfl,?_⟩⟩;refine xA (λz=>?_) (λz=>?_)
 ·exact ⟨_,rfl,_,rfl,_,_,rfl,rfl,.inl ⟨by decide,by decide⟩,_,_,rfl,rfl,_,_,rfl,rfl,(by show (0:Int)<41;decide),_,_,rfl,rfl,k _⟩
 ·have c0:=Int.emod_nonneg (ns.getD i.toNat 0) (show (18446744073709551616:Int)≠0 by decide)
  have c1:=Int.emod_lt_of_pos (ns.getD i.toNat 0) (show (0:Int)<18446744073709551616 by decide);exact ⟨_,rfl,_,_,rfl,rfl,.inr ⟨by decide,by decide⟩,_,rfl,_,rfl,_,_,rfl,rfl,.inl ⟨by omega,by omega⟩,_,_,rfl,rfl,.inr ⟨by decide,by decide⟩,_,_,rfl,rfl,_,rfl,_,_,rfl,rfl,(by show (0:Int)<18446744073709551616;decide),_,_,rfl,rfl,k _⟩
inductive spLanes (vs:Jl) (H:Hp) (Q:VK) (_:XK):Prop
 | mk (c:Int) (_:vs=[.int c]) (_:∀ r,1<=r->r<=64->Q (.int r) H)
def ok_lanes (d:zk K mg "_law_lanes" Zz ["_law_cell"]):Ok P w K mg base CX0 1 "_law_lanes" ["_law_cell"] spLanes:=by
 obtain ⟨g,fd,m,F,b⟩:=d;refine ⟨g,fd,m,F.kp,b,F.ok zb8 (by rintro vs H Q E ⟨_,e,_⟩;rw [e];rfl) λcdv A outer s H vs Q E hr h=>?_⟩;obtain ⟨c,rfl,k⟩:=h;refine ⟨_,(zd (zZ (zK xf (zi yD (pv 0) zc) zc (zG _)) (zf (zo (zi zB zc (zi yD (zi zas (pv 0) zc) zc)))) zE)
   (zf (zo (zi zB zc (zi yD (zi zas (pv 0) zc) zc))))),?_⟩
 refine ⟨_,rfl,_,_,rfl,rfl,(by show (0:Int)<8;decide),rfl,_,rfl,?_⟩;refine xA (λz=>?_) (λz=>?_)
 ·exact ⟨_,rfl,_,_,rfl,rfl,⟨by decide,by decide⟩,_,_,rfl,rfl,(by show (0:Int)<64;decide),_,_,rfl,rfl,k _ (by omega) (by omega)⟩
 ·exact ⟨_,rfl,_,_,rfl,rfl,⟨by decide,by decide⟩,_,_,rfl,rfl,(by show (0:Int)<9;decide),_,_,rfl,rfl,k _ (by omega) (by omega)⟩
inductive spGroup (K:Fg) (vs:Jl) (H:Hp) (Q:VK) (_:XK):Prop
 | mk (a:Ad) (ns:J9) (k sa:Int) (_:vs=[.ref a,.int k,.int sa]) (_:SqL K H a (ns.map V.int)) (_:0<=k) (_:k<=100000) (_:0<=sa) (_:sa<=100000) (_:∀ r H',Same H H'->(r=1∨r=2∨r=4)->Q (.int r) H')
def ok_group (d:zk K mg "_law_group" ZA ["_law_script","_law_k","_law_salt"]) (SM:Ok P w K mg base CX0 2 "_law_some" ["_law_script","_law_k","_law_salt","_law_many"] (spSome K)):Ok P w K mg base CX0 3 "_law_group" ["_law_script","_law_k","_law_salt"] (spGroup K):=by
 obtain ⟨g,fd,m,F,b⟩:=d;refine ⟨g,fd,m,F.kp,b,F.ok zb9 (by rintro vs H Q E ⟨_,_,_,_,e,_⟩;rw [e];rfl) λcdv A outer s H vs Q E hr h=>?_⟩;obtain ⟨a,ns,i,sa,rfl,hS,h0,h1,h2,h3,k⟩:=h;have hr2:=hr;refine ⟨_,(zf (zo (zq zO (yk (zb zc (zb zc (zb zc ze)))) (zH SM hr2 (by rfl) zt (zb (pv 0) (zb (pv 1) (zb (pv 2) (zb zc ze))))) (λ_ _=>rfl)))),?_⟩;refine ⟨(by show 3<=sizeLine;decide),λl nl=>?_⟩;have s1:Same H (upd H l (.lst [.int 1,.int 2,.int 4])):=zn (Same.refl H) nl;refine ⟨_,rfl,_,rfl,_,rfl,a,ns,i,sa,3,rfl,zw hS s1,h0,h1,h2,h3,by decide,λr r0 r1=>?_⟩;refine ⟨l,([1,2,4]:J9).map V.int,r,_,rfl,rfl,SqL.of zh,xl r.toNat (by show _<3;omega) (by omega),k _ _ s1 ?_⟩;have:r=0∨r=1∨r=2:=by omega
 rcases this with rfl | rfl | rfl
 ·exact .inl rfl
 ·exact .inr (.inl rfl)
 ·exact .inr (.inr rfl)
inductive spDust (K:Fg) (vs:Jl) (H:Hp) (Q:VK) (_:XK):Prop
 | mk (a:Ad) (ns:J9) (k sa:Int) (_:vs=[.ref a,.int k,.int sa]) (_:SqL K H a (ns.map V.int)) (_:0<=k) (_:k<=1000) (_:0<=sa) (_:sa<=1000) (_:∀ H' l ds,ds.length<=5->Hd H [(l,.lst (List.map V.int ds))] H'->Q (.ref l) H')
def ok_dust (d:zk K mg "_law_dust" Z7 ["_law_script","_law_k","_law_salt"]) (hrg:mg "range"=none) (SM:Ok P w K mg base CX0 2 "_law_some" ["_law_script","_law_k","_law_salt","_law_many"] (spSome K)) (NB:Ok P w K mg base CX0 3 "_law_number" ["_law_script","_law_k"] (spNumber K)):Ok P w K mg base CX0 4 "_law_dust" ["_law_script","_law_k","_law_salt"] (spDust K):=by
 obtain ⟨g,fd,m,F,b⟩:=d;refine ⟨g,fd,m,F.kp,b,F.ok sc_l_dust (by rintro vs H Q E ⟨_,_,_,_,e,_⟩;rw [e];rfl) λcdv A outer s H vs Q E hr h=>?_⟩;obtain ⟨a,ns,i,sa,rfl,hS,h0,h1,h2,h3,k⟩:=h;have nd:=sc_l_dust.nd;have hr3:=hr;have hr2:Room 2 _:=hr.mono (by decide);have SL:(3000:Nat)<sizeLine:=by decide
 refine ⟨_,(zf (zo (Zf ["_law_j","_law_script","_law_k"] [none,some 0,some 1] rfl rfl rfl (yN rfl hrg (zb (zH SM hr2 (by rfl) zt (zb (pv 0) (zb (pv 1) (zb (pv 2) (zb zc ze))))) ze)) (λs3 H3 fp=>⟨zR (i:=0) (Jn ["_law_j","_law_script","_law_k"]) rfl (Or.inl rfl),(zH NB hr3 (by rfl) zt (zb (pv 1) (zb (zi zB (pv 2) (zi yq zc (pv 0))) ze)))⟩)))),?_⟩;refine ⟨_,rfl,_,rfl,_,rfl,a,ns,i,sa,6,rfl,hS,h0,by omega,h2,by omega,by decide,λr r0 r1=>⟨_,rfl,(by omega),(by omega),_,rfl,λD nD=>?_⟩⟩;have hd:Hd H [(D,.lst (([]:J9).map V.int))] (upd H D (.lst [])):=Hd.base.new nD;generalize upd H D (.lst [])=H1 at hd ⊢;refine xS (n:=r.toNat) (λj σ J=>∃ u ds,ds.length=j/\σ=[u,rq a,iq i]/\Hd H [(D,.lst (List.map V.int ds))] J) ⟨none,[],rfl,rfl,hd⟩ ?_ ?_
 ·clear hd
  rintro j σ J hj ⟨u,ds,ld,rfl,h⟩;refine ⟨_,rfl,_,rfl,_,rfl,_,_,rfl,rfl,.inl ⟨by decide,by decide⟩,_,_,rfl,rfl,a,ns,_,rfl,h.sql hS,(by show 0<=i+5*(0+(j:Int));omega),(by show i+5*(0+(j:Int))<=100000;omega),λv=>?_⟩;refine ⟨_,h.get 0 rfl,(by rw [Jg];omega),_,ds++[v],(by rw [Jh,ld];rfl),rfl,?_⟩;rw [Ji];exact h.put 0 rfl
 ·rintro σ J ⟨u,ds,ld,rfl,h⟩
  exact k J D ds (by omega) h
structure AlK (K:Fg) (mg:J0):Prop where
 isi:mg "isinstance"=none
 int:mg "int"=none
 bool:mg "bool"=none
 str:mg "str"=none
 lst:mg "list"=none
 tup:mg "tuple"=none
 ii:PySem.W.kitOne K (.type "int") (.type "int")=some true
 ib:PySem.W.kitOne K (.type "int") (.type "bool")=some false
 is:PySem.W.kitOne K (.type "int") (.type "str")=some false
 il:PySem.W.kitOne K (.type "int") (.type "list")=some false
 it:PySem.W.kitOne K (.type "int") (.type "tuple")=some false
 ss:PySem.W.kitOne K (.type "str") (.type "str")=some true
 ls:PySem.W.kitOne K (.type "list") (.type "str")=some false
 ll:PySem.W.kitOne K (.type "list") (.type "list")=some true
 lt:PySem.W.kitOne K (.type "list") (.type "tuple")=some false
 ts:PySem.W.kitOne K (.type "tuple") (.type "str")=some false
 tl:PySem.W.kitOne K (.type "tuple") (.type "list")=some false
 tt:PySem.W.kitOne K (.type "tuple") (.type "tuple")=some true
inductive Lk (H:Hp):Nat->V->V->Prop
 | non {n}:Lk H n .non .non
 | int {n} (i:Int):Lk H n (.int i) (.int i)
 | str {n} (z:Str):Lk H n (.str z) (.str z)
 | lst {n a b xs ys}:H a=some (.lst xs)->H b=some (.lst ys)->ys.length=xs.length->(∀ (i:Nat) x y,xs[i]?=some x->ys[i]?=some y->Lk H n x y)->Lk H (n+1) (.ref a) (.ref b)
 | tup {n a b xs ys}:H a=some (.tup xs)->H b=some (.tup ys)->ys.length=xs.length->(∀ (i:Nat) x y,xs[i]?=some x->ys[i]?=some y->Lk H n x y)->Lk H (n+1) (.ref a) (.ref b)
theorem Lk.same {H H':Hp} {n:Nat} {x y:V} (h:Lk H n x y) (s:Same H H'):Lk H' n x y:=by
 induction h with
 | non=>exact .non
 | int i=>exact .int i
 | str z=>exact .str z
 | lst a b e _ ih=>exact .lst (s _ _ a) (s _ _ b) e ih
 | tup a b e _ ih=>exact .tup (s _ _ a) (s _ _ b) e ih
inductive spAlike (n:Nat) (vs:Jl) (H:Hp) (Q:VK) (_:XK):Prop
 | mk (u v:_) (_:vs=[u,v]) (_:Lk H n u v) (_:∀ H',Same H H'->Q (.bl true) H')
def spNil:Sp:=λ_ _ _ _=>False
def xT {H:Hp} {x:V} {t:Vl} (h:TyOf K H x t):TyX K H x t:=.inl h
def rel_ty {n:String}:RelV (.ty n) (.type n)/\∀ u,RelV (.ty n) u->u=.type n:=⟨rfl,λ_ z=>z⟩
def ok_alike0 (d:zk K mg "_law_alike" xP ["_law_found","_law_due"]):Ok P w K mg base CX0 1 "_law_alike" ["_law_found","_law_due"] spNil:=by
 obtain ⟨g,fd,m,F,b⟩:=d;exact ⟨g,fd,m,F.kp,b,F.ok sc_l_alike (λvs H Q E h=>nomatch h) λcdv A outer s H vs Q E hr h=>nomatch h⟩
theorem Xi {n:Nat} {sp:Sp} (hsp:∀ n',n=n'+1->sp=spAlike n') (d:zk K mg "_law_alike" xP ["_law_found","_law_due"]) (AK:AlK K mg) (hlen:mg "len"=none) (hzip:mg "zip"=none) (AL:Ok P w K mg base CX0 (n+1) "_law_alike" ["_law_found","_law_due"] sp):Ok P w K mg base CX0 (n+2) "_law_alike" ["_law_found","_law_due"] (spAlike n):=by
 obtain ⟨g,fd,m,F,b⟩:=d;refine ⟨g,fd,m,F.kp,b,F.ok sc_l_alike (by rintro vs H Q E ⟨_,_,e,_⟩;rw [e];rfl) λcdv A outer s H vs Q E hr h=>?_⟩;obtain ⟨u,v,rfl,hL,q⟩:=h;have nd:=sc_l_alike.nd;have hrA:=hr;have hisi:=AK.isi;refine ⟨_,(zd (zZ (zK Xh (pv 1) yW (zG _)) (zf (zo (yV Xh (pv 0) yW (zG _)))) zE)
   (zd (zZ (yQ (zD yi (by rfl) AK.isi PyProof.Rows.boot_isinstance (zb (pv 1) (zb (xR AK.str PyProof.Rows.boot_str) ze)))) (zf (zo (pe_and (zD yi (by rfl) AK.isi PyProof.Rows.boot_isinstance (zb (pv 0) (zb (xR AK.str PyProof.Rows.boot_str) ze))) (zaq (yV xf (pv 0) (pv 1) (zG _)))))) zE)
   (zd (zZ (Xa (yQ (zD zaz (by rfl) hisi PyProof.Rows.boot_isinstance (zb (pv 1) (zb (zM (zb (xR AK.lst PyProof.Rows.boot_list) (zb (xR AK.tup PyProof.Rows.boot_tuple) ze))) ze))))) (zf (zo (pe_and (zD yi (by rfl) AK.isi PyProof.Rows.boot_isinstance (zb (pv 0) (zb (xR AK.int PyProof.Rows.boot_int) ze))) (pe_and (pe_not (zD yi (by rfl) AK.isi PyProof.Rows.boot_isinstance (zb (pv 0) (zb (xR AK.bool PyProof.Rows.boot_bool) ze)))) (zaq (yV xf (pv 0) (pv 1) (zG _))))))) zE)
   (zd (zZ (Y7 (yQ (zD yi (by rfl) AK.isi PyProof.Rows.boot_isinstance (zb (pv 1) (zb (xR AK.lst PyProof.Rows.boot_list) ze)))) (Z8 (Xa (yQ (zD yi (by rfl) AK.isi PyProof.Rows.boot_isinstance (zb (pv 0) (zb (xR AK.lst PyProof.Rows.boot_list) ze))))))).pt (zf (zo xB)) zE)
   (zd (zZ (Y7 (yQ (zD yi (by rfl) AK.isi PyProof.Rows.boot_isinstance (zb (pv 1) (zb (xR AK.tup PyProof.Rows.boot_tuple) ze)))) (Z8 (Xa (yQ (zD yi (by rfl) AK.isi PyProof.Rows.boot_isinstance (zb (pv 0) (zb (xR AK.tup PyProof.Rows.boot_tuple) ze))))))).pt (zf (zo xB)) zE)
   (zd (zZ (zK op_ne (zD zV (by rfl) hlen PySem.boot_len (zb (pv 0) ze)) (zD zV (by rfl) hlen PySem.boot_len (zb (pv 1) ze)) (zG _)) (zf (zo xB)) zE)
   (zd (Zn PassesOwn.never rfl (pi_zb rfl hzip (zb (pv 0) (zb (pv 1) ze))) (pg_tup rfl (xc (zR (i:=2) nd rfl (Or.inl rfl)) (xc (zR (i:=3) nd rfl (Or.inl rfl)) YO))) (zf (zZ (Xa (yQ (zH AL hrA (by rfl) zt (zb (pv 2) (zb (pv 3) ze))))) (zf (zo xB)) zE)))
   (zf (zo xB))))))))),?_⟩
 have kL:PySem.W.kitAny K (.type "list") [.type "list",.type "tuple"]=some true:=by unfold PySem.W.kitAny;rw [AK.ll]
 have kT:PySem.W.kitAny K (.type "tuple") [.type "list",.type "tuple"]=some true:=by unfold PySem.W.kitAny;rw [AK.tl];unfold PySem.W.kitAny;rw [AK.tt]
 have kI:PySem.W.kitAny K (.type "int") [.type "list",.type "tuple"]=some false:=by unfold PySem.W.kitAny;rw [AK.il];unfold PySem.W.kitAny;rw [AK.it];rfl
 cases hL with
 | non =>
  refine ⟨_,rfl,rfl,_,rfl,?_⟩;refine xN ⟨_,rfl,rfl,q H (Same.refl _)⟩
 | str z =>
  refine ⟨_,rfl,rfl,_,rfl,yw ?_⟩;refine ⟨_,rfl,.str z,.ty "str",.type "str",.type "str",true,rfl,rel_ty.1,rel_ty.2,xT (.str z),AK.ss,_,rfl,xN ?_⟩;refine ⟨_,rfl,.str z,.ty "str",.type "str",.type "str",true,rfl,rel_ty.1,rel_ty.2,xT (.str z),AK.ss,_,rfl,xN ?_⟩;refine ⟨_,rfl,_,rfl,rfl,?_⟩;rw [decide_eq_true rfl];exact q H (Same.refl _)
 | int i =>
  refine ⟨_,rfl,rfl,_,rfl,yw ?_⟩;refine ⟨_,rfl,.int i,.ty "str",.type "str",.type "int",false,rfl,rel_ty.1,rel_ty.2,xT (.int i),AK.is,_,rfl,yw ?_⟩;refine ⟨_,rfl,(by show 2<=sizeLine;decide),λtp ntp=>⟨.int i,tp,_,.type "int",false,rfl,zh,rfl,.int i,kI,_,rfl,?_⟩⟩;have s1:Same H (upd H tp (.tup [.ty "list",.ty "tuple"])):=zn (Same.refl _) ntp;refine xN ?_;refine ⟨_,rfl,.int i,.ty "int",.type "int",.type "int",true,rfl,rel_ty.1,rel_ty.2,xT (.int i),AK.ii,_,rfl,xN ?_⟩;refine ⟨_,rfl,.int i,.ty "bool",.type "bool",.type "int",false,rfl,rel_ty.1,rel_ty.2,xT (.int i),AK.ib,_,rfl,_,rfl,xN ?_⟩;refine ⟨_,rfl,_,rfl,rfl,?_⟩;rw [decide_eq_true rfl];exact q _ s1
 | @lst n a b xs ys ea eb el hx =>
  have hsp:=hsp n rfl;subst hsp;refine ⟨_,rfl,rfl,_,rfl,yw ?_⟩;refine ⟨_,rfl,.ref b,.ty "str",.type "str",.type "list",false,rfl,rel_ty.1,rel_ty.2,xT (.lst eb),AK.ls,_,rfl,yw ?_⟩;refine ⟨_,rfl,(by show 2<=sizeLine;decide),λtp ntp=>⟨.ref b,tp,_,.type "list",true,rfl,zh,rfl,?_,kL,_,rfl,yw ?_⟩⟩
  ·exact .lst (zn (Same.refl _) ntp _ _ eb)
  have s1:Same H (upd H tp (.tup [.ty "list",.ty "tuple"])):=zn (Same.refl _) ntp;generalize upd H tp (.tup [.ty "list",.ty "tuple"])=H1 at s1 ⊢;have ea1:=s1 _ _ ea;have eb1:=s1 _ _ eb;refine ⟨_,rfl,.ref b,.ty "list",.type "list",.type "list",true,rfl,rel_ty.1,rel_ty.2,xT (.lst eb1),AK.ll,_,rfl,xN ⟨_,rfl,.ref a,.ty "list",.type "list",.type "list",true,rfl,rel_ty.1,rel_ty.2,xT (.lst ea1),AK.ll,_,rfl,yw ?_⟩⟩;refine ⟨_,rfl,.ref b,.ty "tuple",.type "tuple",.type "list",false,rfl,rel_ty.1,rel_ty.2,xT (.lst eb1),AK.lt,_,rfl,yw (yw ?_)⟩;refine ⟨_,rfl,a,_,rfl,.inl (SqL.of ea1),_,rfl,b,_,rfl,.inl (SqL.of eb1),rfl,_,rfl,?_⟩;rw [el,decide_eq_true rfl];refine yw ?_;refine ⟨_,rfl,_,rfl,a,b,rfl,.inl ⟨⟨_,SqL.of ea1⟩,⟨_,SqL.of eb1⟩,?_⟩⟩;refine for_zip (xs:=xs) (ys:=ys) (λi σ J=>∃ u2 u3,σ=[rq a,rq b,u2,u3]/\Same H1 J) ⟨none,none,rfl,Same.refl _⟩ (λi σ J _ ⟨_,_,_,s2⟩=>⟨SqL.of (s2 _ _ ea1),SqL.of (s2 _ _ eb1)⟩) el ?_ ?_
  ·rintro i x y σ J T hx1 hy1 ⟨u2,u3,rfl,s2⟩ nT
   have s3:Same J (upd J T (.tup [x,y])):=zn (Same.refl _) nT;refine ⟨T,_,rfl,SqT.of zh,rfl,_,_,rfl,_,_,rfl,rfl,?_⟩;refine ⟨_,rfl,_,rfl,x,y,rfl,(hx i x y hx1 hy1).same ((s1.trans s2).trans s3),λJ2 s4=>⟨_,rfl,yw ?_⟩⟩;exact ⟨_,_,rfl,(s2.trans s3).trans s4⟩
  ·rintro σ J ⟨u2,u3,rfl,s2⟩
   exact q J (s1.trans s2)
 | @tup n a b xs ys ea eb el hx =>
  have hsp:=hsp n rfl;subst hsp;refine ⟨_,rfl,rfl,_,rfl,yw ?_⟩;refine ⟨_,rfl,.ref b,.ty "str",.type "str",.type "tuple",false,rfl,rel_ty.1,rel_ty.2,xT (.tup eb),AK.ts,_,rfl,yw ?_⟩;refine ⟨_,rfl,(by show 2<=sizeLine;decide),λtp ntp=>⟨.ref b,tp,_,.type "tuple",true,rfl,zh,rfl,?_,kT,_,rfl,yw ?_⟩⟩
  ·exact .tup (zn (Same.refl _) ntp _ _ eb)
  have s1:Same H (upd H tp (.tup [.ty "list",.ty "tuple"])):=zn (Same.refl _) ntp;generalize upd H tp (.tup [.ty "list",.ty "tuple"])=H1 at s1 ⊢;have ea1:=s1 _ _ ea;have eb1:=s1 _ _ eb;refine ⟨_,rfl,.ref b,.ty "list",.type "list",.type "tuple",false,rfl,rel_ty.1,rel_ty.2,xT (.tup eb1),AK.tl,_,rfl,yw (yw ?_)⟩;refine ⟨_,rfl,.ref b,.ty "tuple",.type "tuple",.type "tuple",true,rfl,rel_ty.1,rel_ty.2,xT (.tup eb1),AK.tt,_,rfl,xN ⟨_,rfl,.ref a,.ty "tuple",.type "tuple",.type "tuple",true,rfl,rel_ty.1,rel_ty.2,xT (.tup ea1),AK.tt,_,rfl,yw ?_⟩⟩;refine ⟨_,rfl,a,_,rfl,.inr (SqT.of ea1),_,rfl,b,_,rfl,.inr (SqT.of eb1),rfl,_,rfl,?_⟩;rw [el,decide_eq_true rfl];refine yw ?_;refine ⟨_,rfl,_,rfl,a,b,rfl,.inr ⟨⟨_,SqT.of ea1⟩,⟨_,SqT.of eb1⟩,?_⟩⟩;refine for_zt (xs:=xs) (ys:=ys) (λi σ J=>∃ u2 u3,σ=[rq a,rq b,u2,u3]/\Same H1 J) ⟨none,none,rfl,Same.refl _⟩ (λi σ J _ ⟨_,_,_,s2⟩=>⟨SqT.of (s2 _ _ ea1),SqT.of (s2 _ _ eb1)⟩) el ?_ ?_
  ·rintro i x y σ J T hx1 hy1 ⟨u2,u3,rfl,s2⟩ nT
   have s3:Same J (upd J T (.tup [x,y])):=zn (Same.refl _) nT;refine ⟨T,_,rfl,SqT.of zh,rfl,_,_,rfl,_,_,rfl,rfl,?_⟩;refine ⟨_,rfl,_,rfl,x,y,rfl,(hx i x y hx1 hy1).same ((s1.trans s2).trans s3),λJ2 s4=>⟨_,rfl,yw ?_⟩⟩;exact ⟨_,_,rfl,(s2.trans s3).trans s4⟩
  ·rintro σ J ⟨u2,u3,rfl,s2⟩
   exact q J (s1.trans s2)
theorem zbl (d:zk K mg "_law_alike" xP ["_law_found","_law_due"]) (AK:AlK K mg) (hlen:mg "len"=none) (hzip:mg "zip"=none):∀ n:Nat,Ok P w K mg base CX0 (n+2) "_law_alike" ["_law_found","_law_due"] (spAlike n)
 | 0=>Xi (λn' e=>by cases e) d AK hlen hzip (ok_alike0 d)
 | n+1=>Xi (λn' e=>by cases e;rfl) d AK hlen hzip (zbl d AK hlen hzip n)
theorem sel_in (js:J9) (m:List Bool) (j:Nat) (hj:j<m.length) (h:(j:Int)∈js∨m.getD j false=true):(sel m js).getD j false=true:=by
 induction js generalizing m with
 | nil =>
  rcases h with h | h
  ·cases h
  ·exact h
 | cons i js ih =>
  show (sel (m.set i.toNat true) js).getD j false=true;refine ih _ (by rw [List.length_set];exact hj) ?_;by_cases e:i.toNat=j
  ·right
   rw [q1x,e,q3z hj];rfl
  ·rcases h with h | h
   ·rcases List.mem_cons.mp h with h | h
    ·exact absurd (by rw [← h];rfl) e
    ·exact .inl h
   ·right
    rw [q1x,List.getElem?_set_ne e,← q1x];exact h
theorem dst_lt (d:J9) (q:Nat) (m:List Bool) (lo k j:Nat) (h:j<lo):(dst d q m lo k).getD j false=m.getD j false:=by
 induction k with
 | zero=>rfl
 | succ k ih=>rw [zbu,q1x,List.getElem?_set_ne (by omega),← q1x];exact ih
def mem_upto {n j:Nat} (h:j<n):(j:Int)∈yZ n:=List.mem_map.mpr ⟨j,List.mem_range.mpr h,rfl⟩
def actTo_all (M:Mc) (k n:Nat) (h:∀ j,j<n->M.isAct k j=true):M.actTo k n=yZ n:=by
 unfold Mc.actTo yZ;rw [List.filter_eq_self.mpr λj hj=>h j (List.mem_range.mp hj)];rfl
def strip_act {M:Mc} (ok:MOk0 M) (hg:M.group=1∨M.group=2∨M.group=4) {b:Int} (hb:b<=M.mn_):(M.strip b).act 0=yZ (M.wide b).toNat/\MOk (M.strip b):=by
 have l1:=ok.l1;have rb:M.group*M.lq<=4*M.lq/\1<=M.group*M.lq:=by rcases hg with e | e | e <;> rw [e] <;> omega
 have w01:0<=M.wide b/\M.wide b<=M.group*M.lq:=by unfold Mc.wide;split <;> omega
 have ml:0<M.mq.length:=by rw [ok.ml];decide
 have lm:(M.mq.getD 0 []).length=4*M.lq:=by
  rw [q1x,List.getElem?_eq_getElem ml];exact ok.mm _ (List.getElem_mem ml)
 refine ⟨?_,?_⟩
 ·refine actTo_all _ _ _ λj hj=>?_
  have hj:j<(M.wide b).toNat:=hj;unfold Mc.isAct
  have e1:((M.strip b).mq.getD 0 []).getD j false=true:=by
   show ((M.mq.set 0 _).getD 0 []).getD j false=true;rw [q1x (l:=M.mq.set 0 _),q3z ml];show (dst _ _ (sel (clr (M.mq.getD 0 []) (M.wide b).toNat) (yZ (M.wide b).toNat)) (M.wide b).toNat _).getD j false=true;rw [dst_lt _ _ _ _ _ _ hj];exact sel_in _ _ _ (by rw [Za,lm];omega) (.inl (mem_upto hj))
  rw [e1];rfl
 ·refine ⟨ok.l1,ok.l64,hg,ok.nl,?_,λm hm=>?_,w01.1,w01.2⟩
  ·show (M.mq.set 0 _).length=16
   rw [List.length_set];exact ok.ml
  ·rcases List.mem_or_eq_of_mem_set hm with hm | rfl
   ·exact ok.mm m hm
   ·show (dst _ _ (sel (clr (M.mq.getD 0 []) _) _) _ _).length=_
    rw [YR,Z1,Za,lm];rfl
def layOne_is (told:Jj) (p:Nat) (M:Mc) (t:Nat):M.layOne told p t={ M with nums:=(M.layOne told p t).nums,dq:=(M.layOne told p t).dq }:=by
 unfold Mc.layOne;split <;> rfl
theorem layTo_is (told:Jj) (p:Nat) (M:Mc) (n:Nat):M.layTo told p n={ M with nums:=(M.layTo told p n).nums,dq:=(M.layTo told p n).dq }:=by
 induction n with
 | zero=>rfl
 | succ n ih =>
  rw [M.layTo_succ];have e:=layOne_is told p (M.layTo told p n) n;rw [e];rw [ih]
theorem layTo_at (told:Jj) (p:Nat) (M:Mc) (n j:Nat) (v:Int) (hj:j<n) (hin:∀ t:Nat,t<n->0<=(p:Int)*M.group*M.lq+t/\((p:Int)*M.group*M.lq+t).toNat<M.nums.length) (hv:yd told (.inl (j:Int))=some (.int v)):(M.layTo told p n).nq p j=v:=by
 induction n with
 | zero=>omega
 | succ n ih =>
  have s:=M.layTo_same told p n;have hn:=hin n (by omega);have hjj:=hin j hj;rw [M.layTo_succ];by_cases e:j=n
  ·subst e
   unfold Mc.layOne;rw [hv];show (List.set _ _ _).getD _ 0=v;rw [s.g,s.l,q1x,q3z (by rw [s.n];exact hn.2)];rfl
  ·have e2:((M.layTo told p n).layOne told p n).nq p j=(M.layTo told p n).nq p j:=by
    unfold Mc.layOne
    split
    ·show (List.set _ _ _).getD _ 0=_
     rw [q1x,List.getElem?_set_ne (by rw [s.g,s.l];omega),← q1x];rfl
    ·show (List.set _ _ _).getD _ 0=_
     rw [q1x,List.getElem?_set_ne (by rw [s.g,s.l];omega),← q1x];rfl
   rw [e2];exact ih (by omega) λt ht=>hin t (by omega)
inductive Steps (L:Lex) (code:List (Jl)):Nat->Mc->Mc->Prop
 | refl {M}:Steps L code 0 M M
 | cons {n M M1 Mf tv}:0<=M.pc->M.rq_=none->code[M.pc.toNat]?=some tv->Step L tv M M1->Steps L code n M1 Mf->Steps L code (n+1) M Mf
theorem Steps.trans {L:Lex} {code:List (Jl)} {n k:Nat} {M M1 M2:Mc} (h:Steps L code n M M1) (h2:Steps L code k M1 M2):Steps L code (n+k) M M2:=by
 induction h with
 | refl=>rw [Nat.zero_add];exact h2
 | cons a b c d _ ih=>rw [Nat.add_right_comm];exact .cons a b c d (ih h2)
theorem Steps.run {L:Lex} {code:List (Jl)} {n:Nat} {M M1:Mc} (h:Steps L code n M M1) (e:(code.length:Int)<=M1.pc∨M1.rq_.isSome=true):Run L code n M M1:=by
 induction h with
 | refl=>exact .done e
 | cons a b c d _ ih=>exact .step a b c d (ih e)
theorem rep_one (v:V):∀ (js:J9),(List.replicate js.length [v]).flatten=js.map λ_=>v
 | []=>rfl
 | j::js=>by rw [q3x,List.replicate_succ,List.flatten_cons,rep_one v js];rfl
def numM:FnM:=λtv M js=>match (tv[2]?:Jm) with
 | some (V.int n)=>some (M,js.map λ_=>some n)
 | _=>none
def numM_ok:FnMOk numM where
 ok:=λh o=>by unfold numM at h;split at h <;> cases h;exact o
 g:=λh=>by unfold numM at h;split at h <;> cases h;rfl
 n:=λh=>by unfold numM at h;split at h <;> cases h;rw [Jg]
def zcg {c:MCs} (d:zk K mg "numbers_written" yy ["bench","step","active"]) (hlen:mg "len"=none):Ok P w K mg base CX0 1 "numbers_written" ["bench","step","active"] (spFn c numM):=by
 obtain ⟨g,fd,m,F,b⟩:=d;refine ⟨g,fd,m,F.kp,b,F.ok ZO (by rintro vs H Q E ⟨_,_,_,_,_,_,_,_,_,_,e,_⟩;rw [e];rfl) λcdv A outer s H vs Q E hr h=>?_⟩;obtain ⟨B,A,M,R,st,aa,tv,js,M',ns,rfl,m,es,ea,ef,ok,hj,hl,q⟩:=h;have SL:(3000:Nat)<sizeLine:=by decide
 unfold numM at ef
 split at ef
 case h_2=>cases ef
 rename_i n e2;cases ef;refine ⟨_,(zf (zo (zi op_rep (yk (zb (zq zy (pv 1) zc (λ_ _=>rfl)) ze)) (zD zV (by rfl) hlen PySem.boot_len (zb (pv 2) ze))))),?_⟩;dsimp only [ym,Cx.nox,Cx.wish];refine ⟨_,rfl,st,_,_,_,rfl,rfl,SqT.of (m.h.sm _ _ es),zm (j:=2) e2,(by show 1<=sizeLine;omega),λt nt=>?_⟩;have m1:=m.grow (o:=.lst [.int n]) nt;have s1:Same B (upd B t (.lst [.int n])):=zn (Same.refl _) (m.h.free nt);have et:upd B t (.lst [.int n]) t=some (.lst [.int n]):=zh;generalize upd B t (.lst [.int n])=B1 at m1 s1 et;refine ⟨_,rfl,aa,_,rfl,.inl (SqL.of (m1.h.sm _ _ (s1 _ _ ea))),t,_,_,rfl,rfl,m1.h.sm _ _ et,by rw [Jg];omega,by rw [Jg];omega,(by rw [Jg,q0z];show 1*js.length<=_;omega),λl nl=>?_⟩;rw [Jg,q0z,rep_one];have m2:=m1.grow (o:=.lst (js.map λ_=>V.int n)) nl;have s2:Same B1 (upd B1 l (.lst (js.map λ_=>V.int n))):=zn (Same.refl _) (m1.h.free nl);refine q _ A _ l (s1.trans s2) rfl m2 ?_;rw [zh,List.map_map];rfl
def Mc.shOne (M:Mc) (r:Nat) (place other:Int):Mc×Int:=if 0<=place/\place<M.lens.getD r 0 then (M.touched "read" (M.adr r place),M.cells.getD (M.adr r place).toNat 0) else (M,other)
def rowAll (M:Mc) (r:Nat):Prop:=r<M.starts.length/\r<M.lens.length/\0<=M.starts.getD r 0/\M.starts.getD r 0+M.lens.getD r 0<=M.cells.length
def Mc.chosen (M:Mc) (p k:Nat) (nought:Bool):J9:=(M.act k).filter λj=>decide (decide (M.nq p j=0)=nought)
def xO (nought:Bool):EfM:=λtv M=>match (tv[1]?:Jm),(tv[2]?:Jm),(tv[3]?:Jm) with
 | some (V.int m),some (V.int p),some (V.int k)=>if 0<=m/\m<16/\0<=p/\(p+1)*M.group<=8/\0<=k/\k<16 then some (M.laidMask m.toNat (M.chosen p.toNat k.toNat nought)) else none
 | _,_,_=>none
def zcw {nought:Bool} {tv:Jl} {M M':Mc} (h:xO nought tv M=some M'):∃ m p k:Nat,tv[1]?=some (.int m)/\tv[2]?=some (.int p)/\tv[3]?=some (.int k)/\m<16/\((p:Int)+1)*M.group<=8/\k<16/\M'=M.laidMask m (M.chosen p k nought):=by
 unfold xO at h
 split at h
 ·rename_i m p k e1 e2 e3
  split at h
  ·rename_i hc
   obtain ⟨m0,m1,p0,p8,k0,k1⟩:=hc;cases h;refine ⟨m.toNat,p.toNat,k.toNat,?_,?_,?_,by omega,?_,by omega,rfl⟩
   ·rw [e1];congr 2;omega
   ·rw [e2];congr 2;omega
   ·rw [e3];congr 2;omega
   ·rw [Int.toNat_of_nonneg p0];exact p8
  ·cases h
 ·cases h
inductive spLC (c:MCs) (vs:Jl) (H:Hp) (Q:VK) (_:XK):Prop
 | mk (nought:Bool) (B:Hp) (A:Ma) (M:Mc) (R:Jk) (st:Ad) (tv:Jl) (M':Mc) (_:vs=[.ref A.b,.ref st,.bl nought]) (_:MAt c B A M R H) (_:B st=some (.tup tv)) (_:xO nought tv M=some M') (_:MOk M) (_:∀ B' A' H',Same B B'->A'.b=A.b->MAt c B' A' M' R H'->Q .non H')
def ok_chosen {c:MCs} (d:zk K mg "lay_chosen" xH ["bench","step","nought"]) (hzip:mg "zip"=none) (CC:MCls K c) (AU:OkM P w K mg base CX0 1 c.bn "active_under" ["self","mask"] (spAct c)) (NI:OkM P w K mg base CX0 3 c.bn "numbers_in" ["self","seat","active"] (spNums c K)) (LM:OkM P w K mg base CX0 2 c.bn "lay_mask" ["self","mask","chosen"] (spMask c K)):Ok P w K mg base CX0 4 "lay_chosen" ["bench","step","nought"] (spLC c):=by
 obtain ⟨g,fd,m,F,b⟩:=d;refine ⟨g,fd,m,F.kp,b,F.ok sc_lay_chosen (by rintro vs H Q E ⟨_,_,_,_,_,_,_,_,e,_⟩;rw [e];rfl) λcdv A outer s H vs Q E hr h=>?_⟩;obtain ⟨nought,B,A,M,R,st,tv,M',rfl,m,es,ef,ok,q⟩:=h;have nd:=sc_lay_chosen.nd;have hr3:=hr;have hr2:=hr.mono (show 2<=3 by decide);have hr1:=hr.mono (show 1<=3 by decide);have CN:=CC.n;have ml:=ok.ml;have SL:(3000:Nat)<sizeLine:=by decide
 obtain ⟨mk,p,k,e1,e2,e3,mk16,p8,k16,rfl⟩:=zcw ef;obtain ⟨mr1,mr2⟩:=ZF ok k16;obtain ⟨ai,al⟩:=za0 ok k;refine ⟨_,(zd (zv (i:=3) nd rfl (Or.inl rfl) (yb AU CC.n.c hr1 zt (pv 0) (zb (zq zy (pv 1) zc (λ_ _=>rfl)) ze)))
   (zd (zv (i:=4) nd rfl (Or.inl rfl) (yb NI CC.n.c hr3 zt (pv 0) (zb (zq zy (pv 1) zc (λ_ _=>rfl)) (zb (pv 3) ze))))
   (zf (zW (yb LM CC.n.c hr2 zt (pv 0) (zb (zq zy (pv 1) zc (λ_ _=>rfl)) (zb (zbh ["lane","number","nought"] [none,none,some 2] rfl rfl rfl (pi_zip rfl hzip (zb (pv 3) (zb (pv 4) ze))) (λs3 H3 fp=>⟨pg_tupK (K:=K) (n:=2) rfl rfl (xc (zR (i:=0) (Jn ["lane","number","nought"]) rfl (Or.inl rfl)) (xc (zR (i:=1) (Jn ["lane","number","nought"]) rfl (Or.inl rfl)) YO)),(zK xf (yV xf (pv 1) zc (zG _)) (pv 2) (zG _)),(pv 0)⟩)) ze))))))),?_⟩
 refine ⟨_,rfl,A.b,_,_,rfl,m.b,rfl,_,rfl,st,_,_,_,rfl,rfl,SqT.of (m.h.sm _ _ es),zm (j:=3) e3,B,A,M,R,k,rfl,m,by omega,ok.w0,mr1,mr2,λB1 H1 l s1 m1 ea=>?_⟩;refine ⟨_,rfl,A.b,_,_,rfl,m1.b,rfl,_,rfl,st,_,_,_,rfl,rfl,SqT.of (m1.h.sm _ _ (s1 _ _ es)),zm (j:=2) e2,_,rfl,B1,A,M,R,p,l,M.act k,rfl,m1,ok,p8,ea,ai,al,λB2 H2 l2 s2 m2 en=>?_⟩;refine ⟨_,rfl,A.b,_,_,rfl,m2.b,rfl,_,rfl,st,_,_,_,rfl,rfl,SqT.of (m2.h.sm _ _ (s2 _ _ (s1 _ _ es))),zm (j:=1) e1,_,rfl,_,rfl,l,l2,rfl,⟨_,SqL.of (m2.h.sm _ _ (s2 _ _ ea))⟩,⟨_,SqL.of (m2.h.sm _ _ en)⟩,_,rfl,λD nD=>?_⟩;unfold Mc.chosen at q;generalize M.act k=js at *;let f:Int->Bool:=λj=>decide (decide (M.nq p j=0)=nought);have h0:Hd H2 [(D,.lst (((js.take 0).filter f).map V.int))] (upd H2 D (.lst [])):=Hd.base.new nD;generalize upd H2 D (.lst [])=H3 at h0 ⊢;refine compF_zip (K:=K) (xs:=js.map V.int) (ys:=(js.map (M.nq p)).map V.int) (λi σ J=>∃ u0 u1,σ=[u0,u1,some (.bl nought)]/\Hd H2 [(D,.lst (((js.take i).filter f).map V.int))] J) ⟨none,none,rfl,h0⟩ (λi σ J _ ⟨_,_,_,h⟩=>⟨SqL.of (h.sm _ _ (m2.h.sm _ _ (s2 _ _ ea))),SqL.of (h.sm _ _ (m2.h.sm _ _ en))⟩) (by rw [Jg,Jg,Jg]) ?_ ?_
 ·clear h0
  rintro i x y σ J T hx hy ⟨u0,u1,rfl,h⟩ nT;obtain ⟨j,e9,rfl⟩:=Zv hx;obtain ⟨z,e10,rfl⟩:=Zv hy;rw [List.getElem?_map,e9] at e10;cases e10;have hlt:i<js.length:=(List.getElem?_eq_some_iff.mp e9).1;have h:=h.waste (o:=.tup [.int j,.int (M.nq p j)]) nT;refine ⟨T,_,rfl,SqT.of zh,rfl,_,_,rfl,_,_,rfl,rfl,?_⟩;generalize upd J T (.tup [.int j,.int (M.nq p j)])=J1 at h ⊢
  have et:(js.take (i+1)).filter f=(js.take i).filter f++if f j=true then [j] else []:=by
   rw [List.take_add_one,e9,List.filter_append];congr 1;show List.filter f [j]=_;by_cases z:f j=true
   ·rw [List.filter_cons_of_pos z,if_pos z];rfl
   ·rw [List.filter_cons_of_neg z,if_neg z];rfl
  have lf:=List.length_filter_le f (js.take i);rw [List.length_take] at lf;rw [et];refine ⟨_,rfl,rfl,_,rfl,rfl,_,rfl,?_⟩
  have ef:decide (V.bl (decide (V.int (M.nq p j)=V.int 0))=V.bl nought)=f j:=by
   show _=decide (decide (M.nq p j=0)=nought);rw [Yk,Xs];by_cases z:M.nq p j=0 <;> cases nought <;> simp [z]
  rw [ef];refine xA (λz=>?_) (λz=>?_)
  ·rw [if_pos z]
   refine ⟨_,rfl,_,h.get 0 rfl,(by rw [Jg];omega),_,_,rfl,?_⟩;rw [Ji];exact h.put 0 rfl
  ·rw [if_neg z,q3y]
   exact ⟨_,_,rfl,h⟩
 ·rintro σ J ⟨u0,u1,rfl,h⟩
  rw [Jg,List.take_length] at h;have m3:=m2.adopt h;have s3:Same B2 (upd B2 D (.lst ((js.filter f).map V.int))):=zn (Same.refl _) (m2.h.free nD);refine ⟨_,A,M,R,mk,D,js.filter f,rfl,m3,ok,mk16,zh,(λj hj=>ai j (List.mem_filter.mp hj).1),λH9 m9=>?_⟩;exact q _ A H9 ((s1.trans s2).trans s3) rfl m9
def ok_choose {c:MCs} (d:zk K mg "play_choose" xq ["bench","step"]) (LC:Ok P w K mg base CX0 4 "lay_chosen" ["bench","step","nought"] (spLC c)):Ok P w K mg base CX0 5 "play_choose" ["bench","step"] (spEf c (xO false)):=by
 obtain ⟨g,fd,m,F,b⟩:=d;refine ⟨g,fd,m,F.kp,b,F.ok Y2 (by rintro vs H Q E ⟨_,_,_,_,_,_,_,e,_⟩;rw [e];rfl) λcdv A outer s H vs Q E hr h=>?_⟩;obtain ⟨B,A,M,R,st,tv,M',rfl,m,es,ef,ok,q⟩:=h;have hr4:=hr;refine ⟨_,(zf (zW (zH LC hr4 (by rfl) zt (zb (pv 0) (zb (pv 1) (zb xB ze)))))),?_⟩;exact ⟨_,rfl,_,rfl,false,B,A,M,R,st,tv,M',rfl,m,es,ef,ok,q⟩
def ok_other {c:MCs} (d:zk K mg "play_other" xF ["bench","step"]) (LC:Ok P w K mg base CX0 4 "lay_chosen" ["bench","step","nought"] (spLC c)):Ok P w K mg base CX0 5 "play_other" ["bench","step"] (spEf c (xO true)):=by
 obtain ⟨g,fd,m,F,b⟩:=d;refine ⟨g,fd,m,F.kp,b,F.ok XG (by rintro vs H Q E ⟨_,_,_,_,_,_,_,e,_⟩;rw [e];rfl) λcdv A outer s H vs Q E hr h=>?_⟩;obtain ⟨B,A,M,R,st,tv,M',rfl,m,es,ef,ok,q⟩:=h;have hr4:=hr;refine ⟨_,(zf (zW (zH LC hr4 (by rfl) zt (zb (pv 0) (zb (pv 1) (zb xB ze)))))),?_⟩;exact ⟨_,rfl,_,rfl,true,B,A,M,R,st,tv,M',rfl,m,es,ef,ok,q⟩
abbrev Tch:=Int×Str×Int
abbrev DT:=J9×List Tch
def yP (ds:J9) (ps:List (Int×Int)):J9:=ps.foldl (λd pr=>d.set pr.1.toNat pr.2) ds
theorem zb7 (ps:List (Int×Int)) (ds:J9):(yP ds ps).length=ds.length:=by
 induction ps generalizing ds with
 | nil=>rfl
 | cons p ps ih=>show (yP (ds.set _ _) ps).length=_;rw [ih,List.length_set]
theorem zce (M:Mc) (q:Nat) (ps:List (Int×Int)):(M.puts q ps).cells=yP M.cells (ps.map λp=>(M.adr q p.1,p.2)):=by
 induction ps generalizing M with
 | nil=>rfl
 | cons p ps ih=>exact ih (M.wrote q p.1 p.2)
def wid (mn_ side b:Int):Nat:=(min mn_ (b+side)-b).toNat
structure InS (S LN:J9) (L pl:Nat) (mn_ group b:Int) (k:Nat) (s:DT) (M:Mc):Prop where
 ok:MOk M
 wle:M.wq<=(wid mn_ (group*L) b:Nat)
 bq:M.bq=(wid mn_ (group*L) b:Nat)
 base:M.base=b
 pc:M.pc=((pl+k:Nat):Int)
 oq:M.oq=(pl:Nat)
 mn_:M.mn_=mn_
 group:M.group=group
 lq:M.lq=L
 rf:M.rq_=none
 starts:M.starts=S
 lens:M.lens=LN
 cells:M.cells=s.1
 tq:M.tq=s.2
structure StripAt (S LN:J9) (L pl:Nat) (mn_ group b:Int) (s:DT) (M:Mc):Prop where
 i:InS S LN L pl mn_ group b 1 s M
 act:M.act 0=yZ (wid mn_ (group*L) b)
 flt:M.fq=[]
 cut:M.cut=none
structure RestAt (S LN:J9) (L:Nat) (pc:Nat) (s:DT) (M:Mc):Prop where
 ok:MOk0 M
 lq:M.lq=L
 rf:M.rq_=none
 starts:M.starts=S
 lens:M.lens=LN
 pc:M.pc=pc
 cells:M.cells=s.1
 tq:M.tq=s.2
theorem layTo_off (told:Jj) (p:Nat) (M:Mc) (n i:Nat) (h:∀ t:Nat,t<n->((p:Int)*M.group*M.lq+t).toNat≠i):(M.layTo told p n).nums.getD i 0=M.nums.getD i 0:=by
 induction n with
 | zero=>rfl
 | succ n ih =>
  have s:=M.layTo_same told p n;have hn:=h n (by omega);rw [M.layTo_succ]
  have e2:((M.layTo told p n).layOne told p n).nums.getD i 0=(M.layTo told p n).nums.getD i 0:=by
   unfold Mc.layOne
   split
   ·show (List.set _ _ _).getD _ 0=_
    rw [q1x,List.getElem?_set_ne (by rw [s.g,s.l];exact hn),← q1x]
   ·show (List.set _ _ _).getD _ 0=_
    rw [q1x,List.getElem?_set_ne (by rw [s.g,s.l];exact hn),← q1x]
  rw [e2];exact ih λt ht=>h t (by omega)
def za7 {g L p q j t:Int} (g0:1<=g) (l1:1<=L) (ne:p≠q) (j0:0<=j) (j1:j<g*L) (t0:0<=t) (t1:t<g*L):p*g*L+t≠q*g*L+j:=by
 intro z;rw [Int.mul_assoc,Int.mul_assoc] at z;generalize g*L=x at *;rcases Int.lt_or_gt_of_ne ne with h | h
 ·have a:(p+1)*x<=q*x:=Int.mul_le_mul_of_nonneg_right (by omega) (by omega)
  rw [Int.add_mul] at a;omega
 ·have a:(q+1)*x<=p*x:=Int.mul_le_mul_of_nonneg_right (by omega) (by omega)
  rw [Int.add_mul] at a;omega
section
variable {Lx:Lex} {S LN:J9} {L pl k:Nat} {mn_ group b:Int} {s:DT} {M:Mc}
def InS.one {code:List (Jl)} {tv:Jl} {M':Mc} (h:InS S LN L pl mn_ group b k s M) (c:code[pl+k]?=some tv) (st:Step Lx tv M M'):Steps Lx code 1 M M' :=
 .cons (by rw [h.pc];exact Int.natCast_nonneg _) h.rf (by rw [h.pc,q0z];exact c) st .refl
def InS.mem (h:InS S LN L pl mn_ group b k s M) {m:Nat} {j:Int} (hj:j∈M.act m):0<=j/\j<group*L/\b+j<mn_:=by
 have a:=Mc.act_mem hj;have w:=h.wle;have w0:=h.ok.w0;unfold wid at w;omega
theorem sel_out (js:J9) (m:List Bool) (j:Nat) (h:∀ i∈js,i.toNat≠j):(sel m js).getD j false=m.getD j false:=by
 induction js generalizing m with
 | nil=>rfl
 | cons i js ih =>
  show (sel (m.set i.toNat true) js).getD j false=_;rw [ih _ λi hi=>h i (q1y _ hi),q1x,List.getElem?_set_ne (h i q1z),← q1x]
theorem clr_lt (m:List Bool) (n j:Nat) (h:j<n):(clr m n).getD j false=false:=by
 induction n with
 | zero=>omega
 | succ n ih =>
  rw [zby,q1x];by_cases e:n=j
  ·subst e
   by_cases hl:n<(clr m n).length
   ·rw [q3z hl];rfl
   ·rw [List.getElem?_eq_none (by rw [List.length_set];omega)];rfl
  ·rw [List.getElem?_set_ne e,← q1x];exact ih (by omega)
def laid_act {M:Mc} (ok:MOk M) {m k:Nat} (m16:m<16) (q:Int->Bool):(M.laidMask m ((M.act k).filter q)).act m=(M.act k).filter q/\MOk (M.laidMask m ((M.act k).filter q)):=by
 have w0:=ok.w0;have w1:=ok.w1;have l1:=ok.l1;have rb:M.group*M.lq<=4*M.lq:=by rcases ok.g with e | e | e <;> rw [e] <;> omega
 have ml:m<M.mq.length:=by rw [ok.ml];exact m16
 have lm:(M.mq.getD m []).length=4*M.lq:=by
  rw [q1x,List.getElem?_eq_getElem ml];exact ok.mm _ (List.getElem_mem ml)
 refine ⟨?_,⟨ok.l1,ok.l64,ok.g,ok.nl,?_,λx hx=>?_,ok.w0,ok.w1⟩⟩
 ·have hm:(M.laidMask m ((M.act k).filter q)).mq.getD m []=M.maskOf m ((M.act k).filter q):=by
   show (M.mq.set m _).getD m []=_;rw [q1x,q3z ml];rfl
  have hW:(M.laidMask m ((M.act k).filter q)).wq=M.wq:=rfl;have hF:(M.laidMask m ((M.act k).filter q)).fq=M.fq:=rfl
  have key:∀ j:Nat,j<M.wq.toNat->(M.laidMask m ((M.act k).filter q)).isAct m j=(M.isAct k j && q (j:Int)):=λj hj=>by
   unfold Mc.isAct;rw [hm,hF]
   have e1:(M.maskOf m ((M.act k).filter q)).getD j false=(sel (clr (M.mq.getD m []) M.wq.toNat) ((M.act k).filter q)).getD j false:=by
    unfold Mc.maskOf;exact dst_lt _ _ _ _ _ _ hj
   rw [e1];by_cases hin:(j:Int)∈(M.act k).filter q
   ·have hp:=List.mem_filter.mp hin
    have ha:=(Mc.act_mem hp.1).2.2;rw [q0z] at ha;rw [sel_in _ _ _ (by rw [Za,lm];omega) (.inl hin),hp.2];unfold Mc.isAct at ha;rw [Bool.and_eq_true] at ha;rw [ha.1,ha.2];rfl
   ·rw [sel_out _ _ _ λi hi z=>hin (by
     have:=(Mc.act_mem (List.mem_filter.mp hi).1).1;have e:(j:Int)=i:=by omega
     rw [e];exact hi),clr_lt _ _ _ hj]
    rw [Bool.false_and];by_cases ha:M.isAct k j=true
    ·by_cases hq:q (j:Int)=true
     ·exact absurd (List.mem_filter.mpr ⟨List.mem_map.mpr ⟨j,List.mem_filter.mpr ⟨List.mem_range.mpr hj,ha⟩,rfl⟩,hq⟩) hin
     ·rw [Bool.not_eq_true] at hq;rw [hq,Bool.and_false]
    ·rw [Bool.not_eq_true] at ha
     unfold Mc.isAct at ha;rw [ha,Bool.false_and]
  generalize hN:M.laidMask m ((M.act k).filter q)=N at key hW ⊢;unfold Mc.act Mc.actTo;rw [hW,List.filter_map,List.filter_filter];congr 1;refine List.filter_congr λj hj=>?_;rw [key j (List.mem_range.mp hj),Bool.and_comm];rfl
 ·show (M.mq.set m _).length=16
  rw [List.length_set];exact ok.ml
 ·rcases List.mem_or_eq_of_mem_set hx with hx | rfl
  ·exact ok.mm x hx
  ·show (dst _ _ (sel (clr (M.mq.getD m []) _) _) _ _).length=_
   rw [YR,Z1,Za,lm];rfl
end
def wide_wid {M:Mc} {b:Int} (hb:b<=M.mn_) (hg:0<=M.group*M.lq):M.wide b=(wid M.mn_ (M.group*M.lq) b:Nat):=by
 unfold Mc.wide wid
 split <;> omega
def YX {S LN:J9} {L pl:Nat} {mn_ group b:Int} {s:DT} {M:Mc} (ok:MOk0 M) (hg:group=1∨group=2∨group=4) (e1:M.group=group) (e2:M.mn_=mn_) (e3:M.lq=L) (e4:M.oq=pl) (hb:b<=mn_) (rf:M.rq_=none) (st:M.starts=S) (ln:M.lens=LN) (ce:M.cells=s.1) (to:M.tq=s.2) :
  StripAt S LN L pl mn_ group b s { M.strip b with pc:=pl+1 }:=by
 subst e1 e2 e3;obtain ⟨a,o⟩:=strip_act ok hg hb;have l1:=ok.l1;have gp:0<=M.group*M.lq:=by rcases hg with e | e | e <;> rw [e] <;> omega
 have ww:=wide_wid hb gp;refine ⟨⟨⟨o.l1,o.l64,o.g,o.nl,o.ml,o.mm,o.w0,o.w1⟩,by show M.wide b<=_;rw [ww];exact Int.le_refl _,ww,rfl,by show (pl:Int)+1=_;omega,e4,rfl,rfl,rfl,rf,st,ln,ce,to⟩,?_,rfl,rfl⟩;show (M.strip b).act 0=_;rw [a,ww,q0z]
def MAt.putFault {c:MCs} {B:Hp} {A:Ma} {M:Mc} {R:Jk} {H:Hp} (m:MAt c B A M R H) (f:Jj):MAt c B A { M with fq:=f } R (upd H A.aF (.dK f)) :=
 ⟨⟨m.bb.lens,m.bb.starts,m.bb.bx,m.bb.msk,m.bb.ml,m.bb.dl,m.bb.pl,m.bb.tl,m.bb.tt,m.bb.ul,m.bb.uu,m.bb.rf⟩,m.h.put (o':=.dK f) 7 rfl⟩
def Mc.sad (M:Mc) (slot lane:Int):Int:=M.cells.length+slot*4*M.lq+lane
def Mc.slotN (M:Mc) (a:Int):Int:=match yd M.slots (.inl a) with
 | some (.int n)=>n
 | _=>0
def SlotsOk (M:Mc):Prop:=∀ k v,yd M.slots k=some v->∃ n,v=.int n
def Mc.wroteSlot (M:Mc) (slot lane n:Int):Mc:={ M.touched "write" (M.sad slot lane) with slots:=xx M.slots (.inl (M.sad slot lane)) (.int n) }
def Mc.gaOne (M:Mc) (r:Nat) (place lane:Int):Mc×Option Int:=if 0<=place/\place<M.lens.getD r 0 then (M.touched "read" (M.adr r place),some (M.cells.getD (M.adr r place).toNat 0)) else ({ M with fq:=xx M.fq (.inl lane) (.str "outside") },none)
section
variable {Lx:Lex} {S LN:J9} {L pl k:Nat} {mn_ group b:Int} {s:DT} {M:Mc}
end
def MAt.s_refusal {c:MCs} {B:Hp} {A:Ma} {M:Mc} {R:Jk} {H:Hp} (m:MAt c B A M R H) {t:Ad} {r:Int×Int×Str} (e:B t=some (.tup [.int r.1,.int r.2.1,.str r.2.2])):MAt c B { A with rf:=.ref t } { M with rq_:=some r } R (upd H A.b (.ins c.bn A.db (zL "refusal" (.ref t) (yY A M)))) :=
 ⟨⟨m.bb.lens,m.bb.starts,m.bb.bx,m.bb.msk,m.bb.ml,m.bb.dl,m.bb.pl,m.bb.tl,m.bb.tt,m.bb.ul,m.bb.uu,⟨t,rfl,e⟩⟩,m.h.put (o':=.ins c.bn A.db (zL "refusal" (.ref t) (yY A M))) 0 rfl⟩
section
variable {Lx:Lex} {S LN:J9} {L pl k:Nat} {mn_ group b:Int} {s:DT} {M:Mc}
end
def yr (tv:Jl):Prop:=∃ ds,(∀ K H,DVs K H tv ds)/\PyData.canLayAll0 ds=true/\PyData.depthAll ds<=1
theorem Xb {K:Fg} {H:Hp}:∀ {cs:Je} {code:List (Jl)},CodeAt H cs code->(∀ tv∈code,yr tv)->∃ dsc,DVs K H (cs.map V.ref) dsc/\PyData.canLayAll0 dsc=true/\PyData.depthAll dsc<=2
 | [],_,_,_=>⟨[],.nil,rfl,YS⟩
 | a::cs,[],h,_=>by have:=h.n;cases this
 | a::cs,tv::code,h,hp=>by
  obtain ⟨ds,d1,d2,d3⟩:=hp tv q1z;obtain ⟨dsc,e1,e2,e3⟩:=Xb (K:=K) (H:=H) (cs:=cs) (code:=code) ⟨by have:=h.n;simpa using this,λi b t x y=>h.t (i+1) b t (by simpa using x) (by simpa using y)⟩ λt ht=>hp t (q1y _ ht);refine ⟨.tuple ds::dsc,.cons (.tup (SqT.of (h.t 0 a tv rfl rfl)) (d1 K H)) e1,?_,yh (dep_tup d3) e3⟩;show (PyData.canLayAll0 ds && PyData.canLayAll0 dsc)=true;rw [d2,e2];rfl
def lay_str {z:Str} {xs:List PyData} (h:PyData.canLay0 (.str z)=true) (h2:PyData.canLayAll0 xs=true):PyData.canLayAll0 (.str z::xs)=true:=by
 show (PyData.canLay0 (.str z) && PyData.canLayAll0 xs)=true;rw [h,h2];rfl
def Yj {n:Int}:(PyData.int n).depth<=1:=by simp [PyData.depth]
def zay {z:Str}:(PyData.str z).depth<=1:=by simp [PyData.depth]
inductive spLRan (c:MCs) (K:Fg) (Lx:Lex) (vs:Jl) (H:Hp) (Q:VK) (_:XK):Prop
 | mk (a l1 l2 l3 l4:Ad) (cs:Je) (code:List (Jl)) (lens cells dust picks:J9) (L n:Nat) (Mf:Mc) (_:vs=[.ref a,.ref l1,.ref l2,.int L,.ref l3,.ref l4]) (_:SqL K H a (cs.map V.ref)) (_:CodeAt H cs code) (_:(∀ tv∈code,yr tv)) (_:SqL K H l1 (lens.map V.int)) (_:SqL K H l2 (cells.map V.int)) (_:SqL K H l3 (dust.map V.int)) (_:SqL K H l4 (picks.map V.int)) (_:1<=L) (_:L<=64) (_:lens.length<=1000) (_:code.length<=1000) (_:Run Lx code n (Mc.fresh lens cells L dust picks) Mf) (_:∀ B' A' H' t,Same H B'->MAt c B' A' Mf [] H'->B' t=some (.tup [.ref A'.aC,A'.rf,.ref A'.aT])->Q (.ref t) H')
def ok_lran {c:MCs} {Lx:Lex} (d:zk K mg "_law_ran" YL ["_law_code_here","_law_lengths","_law_cells","_law_lanes_here","_law_dust_here","_law_picks"]) (hlist:mg "list"=none) (RN:Ok P w K mg base CX0 10 "ran" ["code","lengths","cells","lanes","dust","picks"] (spRan c K Lx)) :
  Ok P w K mg base CX0 11 "_law_ran" ["_law_code_here","_law_lengths","_law_cells","_law_lanes_here","_law_dust_here","_law_picks"] (spLRan c K Lx):=by
 obtain ⟨g,fd,m,F,b⟩:=d;refine ⟨g,fd,m,F.kp,b,F.ok sc_l_ran (by rintro vs H Q E ⟨_,_,_,_,_,_,_,_,_,_,_,_,_,_,e,_⟩;rw [e];rfl) λcdv A outer s H vs Q E hr h=>?_⟩;obtain ⟨a,l1,l2,l3,l4,cs,code,lens,cells,dust,picks,L,n,Mf,rfl,qa,CA,hpl,q1,q2,q3,q4,L1,L64,hl,hcl,run,q⟩:=h;have nd:=sc_l_ran.nd;have hr7:=hr;have hu:=hr.units;have SL:(200000:Nat)<sizeLine:=by decide
 refine ⟨_,(zd (zv (i:=6) nd rfl (Or.inl rfl) (yk (zb (yp ya (by rfl) hlist PyProof.Rows.boot_list (zb (pv 0) ze)) (zb (yp ya (by rfl) hlist PyProof.Rows.boot_list (zb (pv 1) ze)) (zb (yp ya (by rfl) hlist PyProof.Rows.boot_list (zb (pv 2) ze)) (zb (yp ya (by rfl) hlist PyProof.Rows.boot_list (zb (pv 4) ze)) (zb (yp ya (by rfl) hlist PyProof.Rows.boot_list (zb (pv 5) ze)) ze)))))))
   (zd (zv (i:=7) nd rfl (Or.inl rfl) (zH RN hr7 (by rfl) zt (zb (zq zO (pv 6) zc (λ_ _=>rfl)) (zb (zq zO (pv 6) zc (λ_ _=>rfl)) (zb (zq zO (pv 6) zc (λ_ _=>rfl)) (zb (pv 3) (zb (zq zO (pv 6) zc (λ_ _=>rfl)) (zb (zq zO (pv 6) zc (λ_ _=>rfl)) ze))))))))
   (zd (zZ (zK (op_neD hu) (pv 6) (yk (zb (pv 0) (zb (pv 1) (zb (pv 2) (zb (pv 4) (zb (pv 5) ze)))))) (zG _)) (zf (zo yW)) zE)
   (zf (zo (pv 7)))))),?_⟩
 dsimp only [ym,Cx.nox,Cx.wish];refine ⟨_,rfl,a,_,rfl,.inl qa,λx1 n11=>?_⟩;have s11:Same H (upd H x1 (.lst (cs.map V.ref))):=zn (Same.refl _) n11;have e11:upd H x1 (.lst (cs.map V.ref)) x1=some (.lst (cs.map V.ref)):=zh;generalize upd H x1 (.lst (cs.map V.ref))=G1 at s11 e11 ⊢;refine ⟨_,rfl,l1,_,rfl,.inl (zw q1 s11),λx2 n12=>?_⟩;have s12:Same G1 (upd G1 x2 (.lst (lens.map V.int))):=zn (Same.refl _) n12;have e12:upd G1 x2 (.lst (lens.map V.int)) x2=some (.lst (lens.map V.int)):=zh;generalize upd G1 x2 (.lst (lens.map V.int))=G2 at s12 e12 ⊢;have t2:Same H G2:=s11.trans s12;refine ⟨_,rfl,l2,_,rfl,.inl (zw q2 t2),λx3 n13=>?_⟩;have s13:Same G2 (upd G2 x3 (.lst (cells.map V.int))):=zn (Same.refl _) n13;have e13:upd G2 x3 (.lst (cells.map V.int)) x3=some (.lst (cells.map V.int)):=zh;generalize upd G2 x3 (.lst (cells.map V.int))=G3 at s13 e13 ⊢;have t3:Same H G3:=t2.trans s13;refine ⟨_,rfl,l3,_,rfl,.inl (zw q3 t3),λx4 n14=>?_⟩;have s14:Same G3 (upd G3 x4 (.lst (dust.map V.int))):=zn (Same.refl _) n14;have e14:upd G3 x4 (.lst (dust.map V.int)) x4=some (.lst (dust.map V.int)):=zh;generalize upd G3 x4 (.lst (dust.map V.int))=G4 at s14 e14 ⊢;have t4:Same H G4:=t3.trans s14;refine ⟨_,rfl,l4,_,rfl,.inl (zw q4 t4),λx5 n15=>?_⟩;have s15:Same G4 (upd G4 x5 (.lst (picks.map V.int))):=zn (Same.refl _) n15;have e15:upd G4 x5 (.lst (picks.map V.int)) x5=some (.lst (picks.map V.int)):=zh;generalize upd G4 x5 (.lst (picks.map V.int))=G5 at s15 e15 ⊢;have t5:Same H G5:=t4.trans s15;refine ⟨(by show 5<=sizeLine;omega),λhh n16=>?_⟩;have s16:Same G5 (upd G5 hh (.lst [.ref x1,.ref x2,.ref x3,.ref x4,.ref x5])):=zn (Same.refl _) n16;have e16:upd G5 hh (.lst [.ref x1,.ref x2,.ref x3,.ref x4,.ref x5]) hh=some (.lst [.ref x1,.ref x2,.ref x3,.ref x4,.ref x5]):=zh;generalize upd G5 hh (.lst [.ref x1,.ref x2,.ref x3,.ref x4,.ref x5])=G6 at s16 e16 ⊢;have t6:Same H G6:=t5.trans s16;have qh:SqL K G6 hh [.ref x1,.ref x2,.ref x3,.ref x4,.ref x5]:=SqL.of e16;have z5:=s16;have z4:=s15.trans z5;have z3:=s14.trans z4;have z2:=s13.trans z3;have z1:=s12.trans z2;have CG:CodeAt G6 cs code:=⟨CA.n,λi b tv x y=>t6 _ _ (CA.t i b tv x y)⟩;refine ⟨_,rfl,hh,_,_,.ref x1,rfl,rfl,qh,rfl,_,rfl,hh,_,_,.ref x2,rfl,rfl,qh,rfl,_,rfl,hh,_,_,.ref x3,rfl,rfl,qh,rfl,_,rfl,_,rfl,hh,_,_,.ref x4,rfl,rfl,qh,rfl,_,rfl,hh,_,_,.ref x5,rfl,rfl,qh,rfl,?_⟩;refine ⟨x1,x2,x3,x4,x5,cs,code,lens,cells,dust,picks,L,n,Mf,rfl,SqL.of (z1 _ _ e11),CG,SqL.of (z2 _ _ e12),SqL.of (z3 _ _ e13),SqL.of (z4 _ _ e14),SqL.of (z5 _ _ e15),L1,L64,hl,hcl,run,λB9 A9 H9 t s9 m9 et=>?_⟩;refine ⟨_,rfl,_,rfl,_,rfl,_,rfl,_,rfl,_,rfl,(by show 5<=sizeLine;omega),λll n17=>?_⟩;have m10:=m9.grow (o:=.lst [.ref a,.ref l1,.ref l2,.ref l3,.ref l4]) n17;have s10:Same B9 (upd B9 ll (.lst [.ref a,.ref l1,.ref l2,.ref l3,.ref l4])):=zn (Same.refl _) (m9.h.free n17);have e17:upd H9 ll (.lst [.ref a,.ref l1,.ref l2,.ref l3,.ref l4]) ll=some (.lst [.ref a,.ref l1,.ref l2,.ref l3,.ref l4]):=zh;generalize upd B9 ll (.lst [.ref a,.ref l1,.ref l2,.ref l3,.ref l4])=B10 at m10 s10;generalize upd H9 ll (.lst [.ref a,.ref l1,.ref l2,.ref l3,.ref l4])=H10 at m10 e17 ⊢;have y6:Same G6 H10:=(s9.trans s10).trans m10.h.sm;have y0:Same H H10:=t6.trans y6;obtain ⟨dsc,c1,c2,c3⟩:=Xb (K:=K) (H:=H10) (cs:=cs) (code:=code) ⟨CG.n,λi b tv x y=>y6 _ _ (CG.t i b tv x y)⟩ hpl
 have lay:(PyData.list [.list dsc,dI lens,dI cells,dI dust,dI picks]).canLay0=true:=by
  show (PyData.canLayAll0 dsc && (PyData.canLay0 (dI lens) && (PyData.canLay0 (dI cells) && (PyData.canLay0 (dI dust) && (PyData.canLay0 (dI picks) && true)))))=true;rw [c2,Yg,Yg,Yg,Yg];rfl
 refine ⟨.list [.list dsc,dI lens,dI cells,dI dust,dI picks],.list [.list dsc,dI lens,dI cells,dI dust,dI picks],?_,?_,lay,lay,?_,?_⟩
 ·exact .lst (SqL.of (y6 _ _ e16)) (.cons (.lst (SqL.of (y6 _ _ (z1 _ _ e11))) c1) (.cons (x8 (SqL.of (y6 _ _ (z2 _ _ e12)))) (.cons (x8 (SqL.of (y6 _ _ (z3 _ _ e13)))) (.cons (x8 (SqL.of (y6 _ _ (z4 _ _ e14)))) (.cons (x8 (SqL.of (y6 _ _ (z5 _ _ e15)))) .nil)))))
 ·exact .lst (SqL.of e17) (.cons (.lst (zw qa y0) c1) (.cons (x8 (zw q1 y0)) (.cons (x8 (zw q2 y0)) (.cons (x8 (zw q3 y0)) (.cons (x8 (zw q4 y0)) .nil)))))
 ·exact Nat.le_trans (Xr (n:=3) (yh (Xr c3) (yh (Nat.le_trans Yi (by decide)) (yh (Nat.le_trans Yi (by decide)) (yh (Nat.le_trans Yi (by decide)) (yh (Nat.le_trans Yi (by decide)) YS)))))) (by decide)
 ·refine ⟨_,rfl,?_⟩
  rw [SeqAt.eqv_refl _ lay];refine yw ⟨_,rfl,?_⟩;exact q B10 A9 H10 t ((t6.trans s9).trans s10) m10 (s10 _ _ et)
structure TAt (B:Hp) (ts:Je) (T:List Tch):Prop where
 n:ts.length=T.length
 t:∀ (i:Nat) a p,ts[i]?=some a->T[i]?=some p->B a=some (.tup [.int p.1,.str p.2.1,.int p.2.2])
def za6 {mn_ side:Int} (h1:1<=mn_) (h2:1<=side):∃ N:Nat,Builtin.Range.rangeSize 0 mn_ side=N/\∀ i:Nat,i<N↔(i:Int)*side<mn_:=by
 have e:Builtin.Range.rangeSize 0 mn_ side=(mn_-0-1) / side+1:=by
  unfold Builtin.Range.rangeSize;rw [if_pos (show side > 0 by omega),if_pos (by omega)]
 have nn:0<=(mn_-0-1) / side:=Int.ediv_nonneg (by omega) (by omega);refine ⟨((mn_-0-1) / side+1).toNat,by rw [e];omega,λi=>?_⟩;have k:=Int.le_ediv_iff_mul_le (a:=(i:Int)) (b:=mn_-0-1) (show 0<side by omega);constructor
 ·intro z
  have:=k.mp (by omega);omega
 ·intro z
  have:=k.mpr (by omega);omega
theorem xv:∀ (ns:J9) (r:Nat),(∀ v∈ns,0<=v)->0<=(ns.take r).sum/\(ns.take r).sum<=ns.sum
 | [],r,_=>by rw [List.take_nil];exact ⟨Int.le_refl _,Int.le_refl _⟩
 | n::ns,0,h=>by
  have:=(xv ns 0 λv hv=>h v (q1y _ hv));have h0:=h n q1z;rw [List.take_zero,List.sum_nil] at this ⊢;rw [List.sum_cons];omega
 | n::ns,r+1,h=>by
  have:=(xv ns r λv hv=>h v (q1y _ hv));have h0:=h n q1z;rw [List.take_succ_cons,List.sum_cons,List.sum_cons];omega
def ZJ (ns:J9) (r:Nat) (h:r<ns.length):(ns.take (r+1)).sum=(ns.take r).sum+ns.getD r 0:=by
 rw [List.take_add_one,q1x,List.getElem?_eq_getElem h,List.sum_append];show _+(ns[r]+0)=_+ns[r];omega
def row_room {ns:J9} {r:Nat} {m:Int} (hv:∀ v∈ns,0<=v) (h:r<ns.length) (hm:m<=ns.getD r 0):0<=(ns.take r).sum/\(ns.take r).sum+m<=ns.sum:=by
 have a:=xv ns r hv;have b:=xv ns (r+1) hv;rw [ZJ ns r h] at b;omega
def Zd {ns:J9} {r:Nat} (h:r<ns.length):(zp ns).getD r 0=(ns.take r).sum:=by
 unfold zp;rw [q1x,List.getElem?_map,List.getElem?_range h];rfl
def ZM (ns:J9):(zp ns).length=ns.length:=by unfold zp;rw [Jg,List.length_range]
theorem yj {z:Str} {ns:J9} (h:PyData.canLay0 (.str z)=true):yr (.str z::ns.map V.int):=by
 refine ⟨.str z::ns.map PyData.int,λK H=>.cons (.str _) ?_,lay_str h Zw,yh zay ?_⟩
 ·induction ns with
  | nil=>exact .nil
  | cons n ns ih=>exact .cons (.int _) ih
 ·induction ns with
  | nil=>exact YS
  | cons n ns ih=>exact yh Yj ih
def yR {B:Hp} {cs os:Je} {code one:List (Jl)} (h:CodeAt B cs code) (h2:CodeAt B os one):CodeAt B (cs++os) (code++one):=by
 refine ⟨by rw [Jh,Jh,h.n,h2.n],λt b tv hx hy=>?_⟩;by_cases z:t<cs.length
 ·rw [q4x z] at hx
  rw [q4x (by rw [← h.n];exact z)] at hy;exact h.t t b tv hx hy
 ·rw [List.getElem?_append_right (by omega)] at hx
  rw [List.getElem?_append_right (by rw [← h.n];omega),← h.n] at hy;exact h2.t _ b tv hx hy
theorem za4 (g:Int->V) {j:Int}:∀ (js:J9) (kvs:Jj),(j∈js∨yd kvs (.inl j)=some (g j))->yd (putAll kvs (js.map λj=>((.inl j:Key),g j))) (.inl j)=some (g j)
 | [],kvs,h=>by
  rcases h with h | h
  ·cases h
  ·exact h
 | i::js,kvs,h=>by
  show yd (putAll (xx kvs (.inl i) (g i)) _) _=_;refine za4 g js _ ?_;by_cases e:j=i
  ·right;rw [ZY,e,if_pos rfl]
  ·rcases h with h | h
   ·rcases List.mem_cons.mp h with h | h
    ·exact absurd h e
    ·exact .inl h
   ·right
    rw [ZY,if_neg (λz=>e (Sum.inl.inj z))];exact h
def told_memO (g:Int->Option Int) {js:J9} {j:Int} (h:j∈js):yd (y8 js (js.map g)) (.inl j)=some (oV (g j)):=by
 have e:(js.map Sum.inl).zip ((js.map g).map oV)=js.map λj=>((.inl j:Key),oV (g j)):=by
  rw [List.map_map,List.zip_map'];rfl
 unfold y8;rw [e];exact za4 (λj=>oV (g j)) js [] (.inl h)
def act_less {M N:Mc} {bad:Int->Bool} (hm:N.mq=M.mq) (hw:N.wq=M.wq) (hf:∀ j:Int,(yd N.fq (.inl j)).isSome=((yd M.fq (.inl j)).isSome || bad j)) (m:Nat):N.act m=(M.act m).filter λj=>!bad j:=by
 unfold Mc.act Mc.actTo;rw [hw,List.filter_map,List.filter_filter];congr 1;refine List.filter_congr λj _=>?_;show N.isAct m j=(!bad (j:Int) && M.isAct m j);unfold Mc.isAct;rw [hm,hf];cases (M.mq.getD m []).getD j false <;> cases (yd M.fq (.inl (j:Int))).isSome <;> cases bad (j:Int) <;> rfl
structure Kp (M N:Mc):Prop where
 w:N.wq=M.wq
 cut:N.cut=M.cut
 mq:N.mq=M.mq
 slots:N.slots=M.slots
 cq:N.cq=M.cq
 raised:N.raised=M.raised
 turns:N.turns=M.turns
 pq:N.pq=M.pq
 picks:N.picks=M.picks
def Kp.trans {M N O:Mc} (a:Kp M N) (b:Kp N O):Kp M O:=⟨b.w.trans a.w,b.cut.trans a.cut,b.mq.trans a.mq,b.slots.trans a.slots,b.cq.trans a.cq,b.raised.trans a.raised,b.turns.trans a.turns,b.pq.trans a.pq,b.picks.trans a.picks⟩
def xz {M N:Mc} (hk:Kp M N) (hf:N.fq=M.fq) (m:Nat):N.act m=M.act m:=by
 unfold Mc.act Mc.actTo Mc.isAct;rw [hk.w,hk.mq,hf]
section
variable {Lx:Lex} {S LN:J9} {L pl k:Nat} {mn_ group b:Int} {s:DT} {M:Mc}
def InS.seatO {word:Str} {f:FnM} {tv:Jl} {p m:Nat} {T':List Tch} {F':Jj} {g:Int->Option Int} (h:InS S LN L pl mn_ group b k s M) (hS:Lx.S word f) (h0:tv[0]?=some (.str word)) (h1:tv[1]?=some (.int p)) (hl:tv.getLast?=some (.int m)) (p8:((p:Int)+1)*group<=8) (m16:m<16)
  (ef:f tv M (M.act m)=some ({ M with tq:=M.tq++T',fq:=F' },(M.act m).map g)) :
  ∃ M',Step Lx tv M M'/\InS S LN L pl mn_ group b (k+1) (s.1,s.2++T') M'/\(Kp M M'/\M'.fq=F')/\(∀ j∈M.act m,∀ v,g j=some v->M'.nq p j=v)/\(∀ (p':Nat) (j:Int),p'≠p->0<=j->j<group*L->M'.nq p' j=M.nq p' j):=by
 have l1:=h.ok.l1;have hg:=h.ok.g;have w0:=h.ok.w0;have w1:=h.ok.w1;have hL:=h.lq;have hG:=h.group;have g1:1<=group:=by rw [← hG];omega
 generalize hN0:({ M with tq:=M.tq++T',fq:=F' }:Mc)=N0 at ef
 have ese:seatM f tv M=some (N0.laidSeat (y8 (M.act m) ((M.act m).map g)) p):=by
  unfold seatM;rw [h1,hl];show (if _ then _ else _)=_;rw [if_pos ⟨by omega,by rw [hG];exact p8,by omega,by omega⟩,q0z,q0z,ef];rfl
 have st1:=Step.seat hS h0 ese h.ok;unfold Mc.laidSeat at st1;have gN0:N0.group=M.group:=by rw [← hN0]
 have lN0:N0.lq=M.lq:=by rw [← hN0]
 have rm:N0.room=(group*(L:Int)).toNat:=by unfold Mc.room;rw [gN0,lN0,hG,hL]
 have hin:∀ t:Nat,t<N0.room->0<=(p:Int)*N0.group*N0.lq+t/\((p:Int)*N0.group*N0.lq+t).toNat<N0.nums.length:=λt ht=>by
  rw [gN0,lN0];rw [rm] at ht;have:=zae hg (show (1:Int)<=M.lq by omega) (show (0:Int)<=p by omega) (by rw [hG];exact p8) (show (0:Int)<=t by omega) (by rw [hG,hL];omega);have e:N0.nums.length=8*M.lq:=by rw [← hN0];exact h.ok.nl
  rw [e];omega
 have eN:=layTo_is (y8 (M.act m) ((M.act m).map g)) p N0 N0.room;have hlen:=(N0.layTo_same (y8 (M.act m) ((M.act m).map g)) p N0.room).n
 have hat:∀ j∈M.act m,∀ v,g j=some v->(N0.layTo (y8 (M.act m) ((M.act m).map g)) p N0.room).nq p j=v:=λj hj v hv=>by
  have a:=h.mem hj;obtain ⟨jn,rfl⟩:∃ n:Nat,j=n:=⟨j.toNat,by omega⟩;exact layTo_at _ p _ _ jn _ (by rw [rm];omega) hin (by rw [told_memO g hj,hv];rfl)
 have hoff:∀ (p':Nat) (j:Int),p'≠p->0<=j->j<group*L->(N0.layTo (y8 (M.act m) ((M.act m).map g)) p N0.room).nums.getD ((p':Int)*group*L+j).toNat 0=M.nums.getD ((p':Int)*group*L+j).toNat 0:=λp' j ne j0 j1=>by
  have:=layTo_off (y8 (M.act m) ((M.act m).map g)) p N0 N0.room ((p':Int)*group*L+j).toNat λt ht z=>by
   have t2:=hin t ht;rw [rm] at ht;rw [gN0,lN0,hG,hL] at z t2;have ap:=za7 (p:=(p:Int)) (q:=(p':Int)) (L:=(L:Int)) g1 (by omega) (λy=>ne (by omega)) j0 j1 (show (0:Int)<=t by omega) (by omega);have pos:0<=(p':Int)*group*L:=Int.mul_nonneg (Int.mul_nonneg (by omega) (by omega)) (by omega);omega
  rw [this,← hN0]
 generalize N0.layTo (y8 (M.act m) ((M.act m).map g)) p N0.room=N at *
 have eN1:({ N with pc:=N.pc+1 }:Mc)={ M with nums:=N.nums,dq:=N.dq,tq:=M.tq++T',fq:=F',pc:=((pl+(k+1):Nat):Int) }:=by
  have e2:N.pc+1=((pl+(k+1):Nat):Int):=by rw [eN,← hN0];show M.pc+1=_;rw [h.pc];omega
  rw [e2,eN,← hN0]
 have gN:N.group=M.group:=by rw [eN];exact gN0
 have lN:N.lq=M.lq:=by rw [eN];exact lN0
 rw [eN1] at st1;refine ⟨_,st1,⟨⟨h.ok.l1,h.ok.l64,h.ok.g,?_,h.ok.ml,h.ok.mm,w0,w1⟩,h.wle,h.bq,h.base,rfl,h.oq,h.mn_,hG,hL,h.rf,h.starts,h.lens,h.cells,?_⟩,⟨⟨rfl,rfl,rfl,rfl,rfl,rfl,rfl,rfl,rfl⟩,rfl⟩,λj hj v hv=>?_,λp' j ne j0 j1=>?_⟩
 ·show N.nums.length=_
  rw [hlen,← hN0];exact h.ok.nl
 ·show M.tq++T'=_
  rw [h.tq]
 ·have:=hat j hj v hv
  unfold Mc.nq at this ⊢;rw [gN,lN] at this;exact this
 ·have:=hoff p' j ne j0 j1
  unfold Mc.nq;show N.nums.getD ((p':Int)*M.group*M.lq+j).toNat 0=M.nums.getD ((p':Int)*M.group*M.lq+j).toNat 0;rw [hG,hL];exact this
def InS.loadO {r p m:Nat} (h:InS S LN L pl mn_ group b k s M) (hS:Lx.S "load" Yf) (p8:((p:Int)+1)*group<=8) (m16:m<16) (hr:r<S.length) (b0:0<=b) (ir:0<=S.getD r 0/\S.getD r 0+mn_<=s.1.length) (ht:s.2.length+(M.act m).length<100000) :
  ∃ M',Step Lx [.str "load",.int p,.int r,.int m] M M'/\InS S LN L pl mn_ group b (k+1) (s.1,s.2++((M.act m).map (b+·)).map λe=>(((pl+k:Nat):Int),("read":Str),S.getD r 0+e)) M'/\(Kp M M'/\M'.fq=M.fq)/\(∀ j∈M.act m,M'.nq p j=s.1.getD (S.getD r 0+(b+j)).toNat 0)/\(∀ (p':Nat) (j:Int),p'≠p->0<=j->j<group*L->M'.nq p' j=M.nq p' j):=by
 have et:M.tq++(M.act m).map (λj=>(M.pc,("read":Str),M.adr r (M.base+j)))=M.tq++((M.act m).map (b+·)).map λe=>(((pl+k:Nat):Int),("read":Str),S.getD r 0+e):=by
  congr 1;rw [List.map_map];refine List.map_congr_left λj hj=>?_;show (M.pc,("read":Str),M.starts.getD r 0+(M.base+j))=(_,_,S.getD r 0+(b+j));rw [h.starts,h.base,h.pc]
 have ef:Yf [.str "load",.int p,.int r,.int m] M (M.act m)=some ({ M with tq:=M.tq++((M.act m).map (b+·)).map λe=>(((pl+k:Nat):Int),("read":Str),S.getD r 0+e),fq:=M.fq },(M.act m).map λj=>some (s.1.getD (S.getD r 0+(b+j)).toNat 0)):=by
  unfold Yf;refine (if_pos ?_).trans ?_
  ·rw [q0z,h.tq]
   refine ⟨by omega,⟨by rw [h.starts];exact hr,λj hj=>?_⟩,ht⟩;have:=h.mem hj;unfold Mc.adr;rw [h.starts,h.cells,h.base];omega
  ·rw [q0z]
   unfold Mc.reads;rw [et];congr 2;refine List.map_congr_left λj hj=>?_;unfold Mc.valAt Mc.adr;rw [h.starts,h.cells,h.base]
 obtain ⟨M',st,i,w,n,o⟩:=h.seatO (tv:=[.str "load",.int p,.int r,.int m]) hS rfl rfl rfl p8 m16 ef;exact ⟨M',st,i,w,λj hj=>n j hj _ rfl,o⟩
def InS.storeO {q p m:Nat} {F:Int->Int} (h:InS S LN L pl mn_ group b k s M) (hS:Lx.E "store" Zs) (p8:((p:Int)+1)*group<=8) (m16:m<16) (hq:q<S.length) (b0:0<=b) (iq:0<=S.getD q 0/\S.getD q 0+mn_<=s.1.length) (ht:s.2.length+(M.act m).length<100000) (hn:∀ j∈M.act m,M.nq p j=F (b+j)) :
  ∃ M',Step Lx [.str "store",.int q,.int p,.int m] M M'/\InS S LN L pl mn_ group b (k+1) (yP s.1 (((M.act m).map (b+·)).map λe=>(S.getD q 0+e,F e)),s.2++((M.act m).map (b+·)).map λe=>(((pl+k:Nat):Int),("write":Str),S.getD q 0+e)) M'/\(Kp M M'/\M'.fq=M.fq)/\(∀ (p':Nat) (j:Int),M'.nq p' j=M.nq p' j):=by
 have est:Zs [.str "store",.int q,.int p,.int m] M=some (M.puts q ((M.act m).map λj=>(M.base+j,M.nq p j))):=by
  unfold Zs;refine (if_pos ?_).trans ?_
  rotate_left
  ·rw [q0z,q0z];rfl
  ·show _/\_/\_/\_/\_/\rowIn M (Int.toNat q) (M.act (Int.toNat m))/\_+(M.act (Int.toNat m)).length<_
   rw [q0z,q0z,h.group,h.tq];refine ⟨by omega,by omega,p8,by omega,by omega,⟨by rw [h.starts];exact hq,λj hj=>?_⟩,ht⟩;have:=h.mem hj;unfold Mc.adr;rw [h.starts,h.cells,h.base];omega
 have st:=Step.eff (word:="store") hS rfl est h.ok;obtain ⟨pi1,pi2⟩:=M.puts_is q ((M.act m).map λj=>(M.base+j,M.nq p j))
 have ec:(M.puts q ((M.act m).map λj=>(M.base+j,M.nq p j))).cells=yP s.1 (((M.act m).map (b+·)).map λe=>(S.getD q 0+e,F e)):=by
  rw [zce,h.cells];congr 1;rw [List.map_map,List.map_map];refine List.map_congr_left λj hj=>?_;show (M.starts.getD q 0+(M.base+j),M.nq p j)=(S.getD q 0+(b+j),F (b+j));rw [h.starts,h.base,hn j hj]
 have et:M.tq++((M.act m).map λj=>(M.base+j,M.nq p j)).map (λp=>(M.pc,("write":Str),M.adr q p.1))=s.2++((M.act m).map (b+·)).map λe=>(((pl+k:Nat):Int),("write":Str),S.getD q 0+e):=by
  rw [h.tq];congr 1;rw [List.map_map,List.map_map];refine List.map_congr_left λj hj=>?_;show (M.pc,("write":Str),M.starts.getD q 0+(M.base+j))=(_,_,S.getD q 0+(b+j));rw [h.starts,h.base,h.pc]
 rw [ec,et] at pi1;generalize M.puts q ((M.act m).map λj=>(M.base+j,M.nq p j))=N at *;subst pi1;refine ⟨_,st,⟨⟨h.ok.l1,h.ok.l64,h.ok.g,h.ok.nl,h.ok.ml,h.ok.mm,h.ok.w0,h.ok.w1⟩,h.wle,h.bq,h.base,?_,h.oq,h.mn_,h.group,h.lq,h.rf,h.starts,h.lens,rfl,rfl⟩,⟨⟨rfl,rfl,rfl,rfl,rfl,rfl,rfl,rfl,rfl⟩,rfl⟩,λ_ _=>rfl⟩;show M.pc+1=_;rw [h.pc];omega
end
def xg (mn_ side b:Int):J9:=(yZ (wid mn_ side b)).map (b+·)
def RfAt (H:Hp) (v:V):Option (Int×Int×Str)->Prop
 | none=>v=.non
 | some r=>∃ t,v=.ref t/\H t=some (.tup [.int r.1,.int r.2.1,.str r.2.2])
theorem RfAt.same {H H':Hp} {v:V} {r:Option (Int×Int×Str)} (h:RfAt H v r) (s:Same H H'):RfAt H' v r:=by
 cases r with
 | none=>exact h
 | some r=>obtain ⟨t,e,q⟩:=h;exact ⟨t,e,s _ _ q⟩
def quietW:WyM:=λ_ M M' n=>M'={ M with raised:=false }/\n=M.pc+1
def turnsW:WyM:=λ_ M M' n=>M.turns.length<1000/\M'={ M with turns:=M.turns++[(M.pc,0)] }/\n=M.pc+1
def ok_quiet {c:MCs} (d:zk K mg "play_quiet" xE ["bench","step"]) (CC:MCls K c):Ok P w K mg base CX0 1 "play_quiet" ["bench","step"] (spWy c quietW):=by
 obtain ⟨g,fd,m,F,b⟩:=d;refine ⟨g,fd,m,F.kp,b,F.ok XF (by rintro vs H Q E ⟨_,_,_,_,_,_,_,_,e,_⟩;rw [e];rfl) λcdv A outer s H vs Q E hr h=>?_⟩;obtain ⟨B,A,M,R,st,tv,M',n,rfl,m,es,⟨rfl,rfl⟩,q⟩:=h;have CN:=CC.n;refine ⟨_,(zd (zF (pv 0) xB rfl)
   (zf (zo (zi zB (zu (pv 0) rfl) zc)))),?_⟩
 refine ⟨_,rfl,A.b,_,_,_,rfl,m.b,CN.c,CN.raised,(by show 23<1000;decide),?_⟩;have m:=m.s_raised false;exact ⟨_,rfl,A.b,_,_,_,.int M.pc,rfl,m.b,CN.c,CN.pc,rfl,_,_,rfl,rfl,q B A _ (Same.refl _) rfl m⟩
theorem ok_turns {c:MCs} (d:zk K mg "play_turns" xC ["bench","step"]) (CC:MCls K c):Ok P w K mg base CX0 1 "play_turns" ["bench","step"] (spWy c turnsW):=by
 obtain ⟨g,fd,m,F,b⟩:=d;refine ⟨g,fd,m,F.kp,b,F.ok XD (by rintro vs H Q E ⟨_,_,_,_,_,_,_,_,e,_⟩;rw [e];rfl) λcdv A outer s H vs Q E hr h=>?_⟩;obtain ⟨B,A,M,R,st,tv,M',n,rfl,m,es,⟨hl,rfl,rfl⟩,q⟩:=h;have CN:=CC.n;have SL:(3000:Nat)<sizeLine:=by decide
 refine ⟨_,(zd (zW (pe_bm PySem.F.plainAttrs_list PySem.F.slot_list_append PySem.F.type_list_append xj (zu (pv 0) rfl) (zb (zM (zb (zu (pv 0) rfl) (zb zc ze))) ze)))
   (zf (zo (zi zB (zu (pv 0) rfl) zc)))),?_⟩
 refine ⟨_,rfl,A.b,_,_,_,.ref A.aU,rfl,m.b,CN.c,CN.turns,rfl,.inl ⟨rfl,_,m.h.lst 8 rfl⟩,_,rfl,A.b,_,_,_,.int M.pc,rfl,m.b,CN.c,CN.pc,rfl,(by show 2<=sizeLine;decide),λt nt=>?_⟩;have sB:Same B (upd B t (.tup [.int M.pc,.int 0])):=zn (Same.refl _) (m.h.free nt);have m1:=m.grow (o:=.tup [.int M.pc,.int 0]) nt;have e1:upd B t (.tup [.int M.pc,.int 0]) t=some (.tup [.int M.pc,.int 0]):=zh;generalize upd B t (.tup [.int M.pc,.int 0])=B1 at sB m1 e1;have ul:=m.bb.ul;refine ⟨A.aU,_,_,rfl,rfl,m1.h.get 8 rfl,(by rw [Jg];omega),?_⟩;have h2:=m1.h.put (o':=.lst ((A.us++[t]).map V.ref)) 8 rfl;have e:(A.us++[t]).map V.ref=A.us.map V.ref++[V.ref t]:=by rw [Ji];rfl
 have m2:MAt c B1 { A with us:=A.us++[t] } { M with turns:=M.turns++[(M.pc,0)] } R (upd (upd H t (.tup [.int M.pc,.int 0])) A.aU (.lst ((A.us++[t]).map V.ref))):=by
  refine ⟨⟨m1.bb.lens,m1.bb.starts,m1.bb.bx,m1.bb.msk,m1.bb.ml,m1.bb.dl,m1.bb.pl,m1.bb.tl,m1.bb.tt,?_,λi t' p a1 a2=>?_,m1.bb.rf⟩,h2⟩
  ·show (A.us++[t]).length=(M.turns++[_]).length
   rw [Jh,Jh,ul];rfl
  ·have a1:(A.us++[t])[i]?=some t':=a1
   have a2:(M.turns++[(M.pc,0)])[i]?=some p:=a2;by_cases z:i<A.us.length
   ·rw [q4x z] at a1
    rw [q4x (by omega)] at a2;exact m1.bb.uu i t' p a1 a2
   ·rw [List.getElem?_append_right (by omega)] at a1 a2
    rw [ul] at a1
    cases e:i-M.turns.length with
    | zero=>rw [e] at a1 a2;cases a1;cases a2;exact e1
    | succ j=>rw [e] at a1;cases a1
 rw [e] at m2;exact ⟨_,rfl,A.b,_,_,_,.int M.pc,rfl,m2.b,CN.c,CN.pc,rfl,_,_,rfl,rfl,q B1 { A with us:=A.us++[t] } _ sB rfl m2⟩
def Mc.anyUp (M:Mc) (p k:Nat):Bool:=((M.act k).map (M.nq p)).any λv=>decide (v≠0)
def anyM:EfM:=λtv M=>match (tv[1]?:Jm),(tv[2]?:Jm) with
 | some (V.int p),some (V.int k)=>if 0<=p/\(p+1)*M.group<=8/\0<=k/\k<16 then some (if M.anyUp p.toNat k.toNat=true then { M with raised:=true } else M) else none
 | _,_=>none
def anyM_is {tv:Jl} {M M':Mc} (h:anyM tv M=some M'):∃ p k:Nat,tv[1]?=some (.int p)/\tv[2]?=some (.int k)/\((p:Int)+1)*M.group<=8/\k<16/\M'=if M.anyUp p k=true then { M with raised:=true } else M:=by
 unfold anyM at h
 split at h
 ·rename_i p k e1 e2
  split at h
  ·rename_i hc
   obtain ⟨p0,p8,k0,k1⟩:=hc;cases h;refine ⟨p.toNat,k.toNat,?_,?_,?_,by omega,rfl⟩
   ·rw [e1];congr 2;omega
   ·rw [e2];congr 2;omega
   ·rw [Int.toNat_of_nonneg p0];exact p8
  ·cases h
 ·cases h
def tillW:WyM:=λtv M M' n=>∃ (most num st cnt:Int) (us:List (Int×Int)),tv[1]?=some (.int most)/\tv[2]?=some (.int num)/\M.turns=us++[(st,cnt)]/\us.length<1000 /\
 if M.raised=true then M'={ M with turns:=us }/\n=M.pc+1 else M'={ M with turns:=us++[(st,cnt+1)],rq_:=if most<=cnt+1 then some (num,most,"endless") else M.rq_ }/\n=st+1
def ok_any {c:MCs} (d:zk K mg "play_any" Zk ["bench","step"]) (hany:mg "any"=none) (CC:MCls K c) (AU:OkM P w K mg base CX0 1 c.bn "active_under" ["self","mask"] (spAct c)) (NI:OkM P w K mg base CX0 3 c.bn "numbers_in" ["self","seat","active"] (spNums c K)):Ok P w K mg base CX0 4 "play_any" ["bench","step"] (spEf c anyM):=by
 obtain ⟨g,fd,m,F,b⟩:=d;refine ⟨g,fd,m,F.kp,b,F.ok zba (by rintro vs H Q E ⟨_,_,_,_,_,_,_,e,_⟩;rw [e];rfl) λcdv A outer s H vs Q E hr h=>?_⟩;obtain ⟨B,A,M,R,st,tv,M',rfl,m,es,ef,ok,q⟩:=h;have hr3:=hr;have hr1:=hr.mono (show 1<=3 by decide);have CN:=CC.n;have ml:=ok.ml;obtain ⟨p,k,e1,e2,p8,k16,rfl⟩:=anyM_is ef;obtain ⟨mr1,mr2⟩:=ZF ok k16;obtain ⟨ai,al⟩:=za0 ok k;refine ⟨_,(zf (zZ (yQ (zD (call_anyI rfl) (by rfl) hany PyProof.Rows.boot_any (zb (yb NI CC.n.c hr3 zt (pv 0) (zb (zq zy (pv 1) zc (λ_ _=>rfl)) (zb (yb AU CC.n.c hr1 zt (pv 0) (zb (zq zy (pv 1) zc (λ_ _=>rfl)) ze)) ze))) ze))) (zf (zF (pv 0) xB rfl)) zE)),?_⟩;refine ⟨_,rfl,A.b,_,_,rfl,m.b,rfl,_,rfl,st,_,_,_,rfl,rfl,SqT.of (m.h.sm _ _ es),zm (j:=1) e1,_,rfl,A.b,_,_,rfl,m.b,rfl,_,rfl,st,_,_,_,rfl,rfl,SqT.of (m.h.sm _ _ es),zm (j:=2) e2,B,A,M,R,k,rfl,m,by omega,ok.w0,mr1,mr2,λB1 H1 l s1 m1 ea=>?_⟩;refine ⟨B1,A,M,R,p,l,M.act k,rfl,m1,ok,p8,ea,ai,al,λB2 H2 l2 s2 m2 en=>?_⟩;refine ⟨l2,_,rfl,SqL.of (m2.h.sm _ _ en),_,rfl,?_⟩;have s12:=s1.trans s2;show if M.anyUp p k=true then _ else _;refine xA (λz=>?_) (λz=>?_)
 ·rw [if_pos z] at q
  refine ⟨_,rfl,A.b,_,_,_,rfl,m2.b,CN.c,CN.raised,(by show 23<1000;decide),?_⟩;exact q B2 A _ s12 rfl (m2.s_raised true)
 ·rw [if_neg z] at q
  exact q B2 A _ s12 rfl m2
theorem ok_till {c:MCs} (d:zk K mg "play_till" xV ["bench","step"]) (CC:MCls K c):Ok P w K mg base CX0 1 "play_till" ["bench","step"] (spWy c tillW):=by
 obtain ⟨g,fd,m,F,b⟩:=d;refine ⟨g,fd,m,F.kp,b,F.ok sc_play_till (by rintro vs H Q E ⟨_,_,_,_,_,_,_,_,e,_⟩;rw [e];rfl) λcdv A outer s H vs Q E hr h=>?_⟩;obtain ⟨B,A,M,R,st,tv,M',n,rfl,m,es,⟨most,num,sp,cnt,us,e1,e2,eu,ul',hif⟩,q⟩:=h;have nd:=sc_play_till.nd;have CN:=CC.n;have SL:(3000:Nat)<sizeLine:=by decide
 refine ⟨_,(zd (zv (i:=2) nd rfl (Or.inl rfl) (pe_bm0 PySem.F.plainAttrs_list PySem.F.slot_list_pop PySem.F.type_list_pop mt_pop (zu (pv 0) rfl)))
   (zd (zZ (yQ (zu (pv 0) rfl)) (zf (zo (zi zB (zu (pv 0) rfl) zc))) zE)
   (zd (zv (i:=3) nd rfl (Or.inl rfl) (zi zB (zq zy (pv 2) zc (λ_ _=>rfl)) zc))
   (zd (xb (zZ (zK op_ge (pv 3) (zq zy (pv 1) zc (λ_ _=>rfl)) (zG _)) (zf (zF (pv 0) (zM (zb (zq zy (pv 1) zc (λ_ _=>rfl)) (zb (zq zy (pv 1) zc (λ_ _=>rfl)) (zb zN ze)))) rfl)) zE))
   (zd (zW (pe_bm PySem.F.plainAttrs_list PySem.F.slot_list_append PySem.F.type_list_append xj (zu (pv 0) rfl) (zb (zM (zb (zq zy (pv 2) zc (λ_ _=>rfl)) (zb (pv 3) ze))) ze)))
   (zf (zo (zi zB (zq zy (pv 2) zc (λ_ _=>rfl)) zc)))))))),?_⟩
 refine ⟨_,rfl,A.b,_,_,_,.ref A.aU,rfl,m.b,CN.c,CN.turns,rfl,?_⟩;have ul:=m.bb.ul;rw [eu,Jh] at ul;obtain ⟨ua,u1,hua⟩:∃ ua u1,A.us=ua++[u1]:=⟨A.us.dropLast,A.us.getLast (by intro z;rw [z] at ul;cases ul),(List.dropLast_concat_getLast _).symm⟩;rw [hua,Jh] at ul;have ul2:ua.length=us.length:=by have:ua.length+1=us.length+1:=ul;omega
 have eu1:B u1=some (.tup [.int sp,.int cnt]):=m.bb.uu us.length u1 (sp,cnt) (by rw [hua,List.getElem?_append_right (by omega),ul2,Nat.sub_self];rfl) (by rw [eu,List.getElem?_append_right (Nat.le_refl _),Nat.sub_self];rfl);have eUl:A.us.map V.ref=ua.map V.ref++[.ref u1]:=by rw [hua,Ji];rfl
 have hU:H A.aU=some (.lst (ua.map V.ref++[.ref u1])):=by rw [← eUl];exact m.h.get 8 rfl
 refine ⟨.inl ⟨rfl,_,SqL.of hU⟩,A.aU,_,.ref u1,rfl,rfl,hU,(by rw [Jh];show (ua.map V.ref++[V.ref u1])[(ua.map V.ref).length+1-1]?=_;rw [Nat.add_sub_cancel,List.getElem?_append_right (Nat.le_refl _),Nat.sub_self];rfl),?_⟩;rw [List.dropLast_concat]
 have m1:MAt c B { A with us:=ua } { M with turns:=us } R (upd H A.aU (.lst (ua.map V.ref))):=by
  refine ⟨⟨m.bb.lens,m.bb.starts,m.bb.bx,m.bb.msk,m.bb.ml,m.bb.dl,m.bb.pl,m.bb.tl,m.bb.tt,ul2,λi t' p a1 a2=>?_,m.bb.rf⟩,m.h.put (o':=.lst (ua.map V.ref)) 8 rfl⟩;have a1:ua[i]?=some t':=a1;have a2:us[i]?=some p:=a2;exact m.bb.uu i t' p (by rw [hua,q4x (List.getElem?_eq_some_iff.mp a1).1];exact a1) (by rw [eu,q4x (List.getElem?_eq_some_iff.mp a2).1];exact a2)
 generalize upd H A.aU (.lst (ua.map V.ref))=H1 at m1 ⊢;refine ⟨_,rfl,A.b,_,_,_,.bl M.raised,rfl,m1.b,CN.c,CN.raised,rfl,_,rfl,?_⟩;refine xA (λz=>?_) (λz=>?_)
 ·rw [if_pos z] at hif
  obtain ⟨rfl,rfl⟩:=hif;exact ⟨_,rfl,A.b,_,_,_,.int M.pc,rfl,m1.b,CN.c,CN.pc,rfl,_,_,rfl,rfl,q B { A with us:=ua } _ (Same.refl _) rfl m1⟩
 rw [if_neg z] at hif;obtain ⟨rfl,rfl⟩:=hif;refine ⟨_,rfl,u1,_,_,_,rfl,rfl,SqT.of (m1.h.sm _ _ eu1),rfl,_,_,rfl,rfl,?_⟩;refine ⟨λσ J=>∃ (B2:Hp) (v:V),σ=[rq A.b,rq st,rq u1,iq (cnt+1)]/\Same B B2/\MAt c B2 { A with us:=ua,rf:=v } { M with turns:=us,rq_:=if most<=cnt+1 then some (num,most,"endless") else M.rq_ } R J,?_,?_⟩
 ·refine ⟨_,rfl,_,rfl,st,_,_,_,rfl,rfl,SqT.of (m1.h.sm _ _ es),zm (j:=1) e1,_,_,rfl,rfl,_,rfl,?_⟩
  refine xA (λz=>?_) (λz=>?_)
  ·have z:most<=cnt+1:=by simpa using z
   rw [if_pos z];refine ⟨_,rfl,st,_,_,_,rfl,rfl,SqT.of (m1.h.sm _ _ es),zm (j:=2) e2,_,rfl,st,_,_,_,rfl,rfl,SqT.of (m1.h.sm _ _ es),zm (j:=1) e1,(by show 3<=sizeLine;omega),λt nt=>?_⟩;have m2:=m1.grow (o:=.tup [.int num,.int most,.str "endless"]) nt;have s2:Same B (upd B t (.tup [.int num,.int most,.str "endless"])):=zn (Same.refl _) (m1.h.free nt);have et:upd B t (.tup [.int num,.int most,.str "endless"]) t=_:=zh;generalize upd B t (.tup [.int num,.int most,.str "endless"])=B2 at m2 s2 et;refine ⟨_,rfl,A.b,_,_,_,rfl,m2.b,CN.c,CN.rq_,(by show 23<1000;decide),?_⟩;exact ⟨B2,.ref t,rfl,s2,m2.s_refusal (r:=(num,most,"endless")) et⟩
  ·have z:¬ most<=cnt+1:=by simpa using z
   rw [if_neg z];exact ⟨B,A.rf,rfl,Same.refl _,m1⟩
 clear m1 H1;rintro σ J ⟨B2,v,rfl,s2,m1⟩;refine ⟨_,rfl,A.b,_,_,_,.ref A.aU,rfl,m1.b,CN.c,CN.turns,rfl,.inl ⟨rfl,_,m1.h.lst 8 rfl⟩,_,rfl,u1,_,_,_,rfl,rfl,SqT.of (m1.h.sm _ _ (s2 _ _ eu1)),rfl,_,rfl,(by show 2<=sizeLine;decide),λt nt=>?_⟩;have sB:Same B2 (upd B2 t (.tup [.int sp,.int (cnt+1)])):=zn (Same.refl _) (m1.h.free nt);have m3:=m1.grow (o:=.tup [.int sp,.int (cnt+1)]) nt;have e3:upd B2 t (.tup [.int sp,.int (cnt+1)]) t=some (.tup [.int sp,.int (cnt+1)]):=zh;generalize upd B2 t (.tup [.int sp,.int (cnt+1)])=B3 at sB m3 e3;generalize upd J t (.tup [.int sp,.int (cnt+1)])=J3 at m3 ⊢;refine ⟨A.aU,_,_,rfl,rfl,m3.h.get 8 rfl,(by show (ua.map V.ref).length<sizeLine;rw [Jg];omega),?_⟩;have h2:=m3.h.put (o':=.lst ((ua++[t]).map V.ref)) 8 rfl;have e:(ua++[t]).map V.ref=ua.map V.ref++[V.ref t]:=by rw [Ji];rfl
 have m4:MAt c B3 { A with us:=ua++[t],rf:=v } { M with turns:=us++[(sp,cnt+1)],rq_:=if most<=cnt+1 then some (num,most,"endless") else M.rq_ } R (upd J3 A.aU (.lst ((ua++[t]).map V.ref))):=by
  refine ⟨⟨m3.bb.lens,m3.bb.starts,m3.bb.bx,m3.bb.msk,m3.bb.ml,m3.bb.dl,m3.bb.pl,m3.bb.tl,m3.bb.tt,?_,λi t' p a1 a2=>?_,m3.bb.rf⟩,h2⟩
  ·show (ua++[t]).length=(us++[_]).length
   rw [Jh,Jh,ul2];rfl
  ·have a1:(ua++[t])[i]?=some t':=a1
   have a2:(us++[(sp,cnt+1)])[i]?=some p:=a2;by_cases z:i<ua.length
   ·rw [q4x z] at a1
    rw [q4x (by omega)] at a2;exact m3.bb.uu i t' p a1 a2
   ·rw [List.getElem?_append_right (by omega)] at a1 a2
    rw [ul2] at a1
    cases e:i-us.length with
    | zero=>rw [e] at a1 a2;cases a1;cases a2;exact e3
    | succ j=>rw [e] at a1;cases a1
 rw [e] at m4;exact ⟨_,rfl,u1,_,_,_,rfl,rfl,SqT.of (m4.h.sm _ _ (sB _ _ (s2 _ _ eu1))),rfl,_,_,rfl,rfl,q B3 { A with us:=ua++[t],rf:=v } _ (s2.trans sB) rfl m4⟩
def Mc.opOne (M:Mc) (sg:Str) (a b lane:Int):Mc×Option Int:=match xh sg a b with
 | some r=>(M,some r)
 | none=>({ M with fq:=xx M.fq (.inl lane) (.str "nought") },none)
def Mc.opOne_is (M:Mc) (sg:Str) (a b lane:Int):(M.opOne sg a b lane).1={ M with fq:=(M.opOne sg a b lane).1.fq }/\(M.opOne sg a b lane).1.fq.length<=M.fq.length+1:=by
 unfold Mc.opOne
 split
 ·exact ⟨rfl,Nat.le_succ _⟩
 ·exact ⟨rfl,x6 _ _ _⟩
def Mc.opAll (sg:Str):List (Int×Int×Int)->Mc->Mc×List (Option Int)
 | [],M=>(M,[])
 | p::ps,M=>let x:=M.opOne sg p.1 p.2.1 p.2.2;let y:=Mc.opAll sg ps x.1;(y.1,x.2::y.2)
theorem Mc.opAll_snoc (sg:Str) (p:Int×Int×Int):∀ (ps:List (Int×Int×Int)) (M:Mc),Mc.opAll sg (ps++[p]) M=(((Mc.opAll sg ps M).1.opOne sg p.1 p.2.1 p.2.2).1,(Mc.opAll sg ps M).2++[((Mc.opAll sg ps M).1.opOne sg p.1 p.2.1 p.2.2).2])
 | [],M=>rfl
 | q::ps,M=>by
  show ((Mc.opAll sg (ps++[p]) _).1,_::(Mc.opAll sg (ps++[p]) _).2)=_;rw [Mc.opAll_snoc sg p ps];rfl
theorem Mc.opAll_is (sg:Str):∀ (ps:List (Int×Int×Int)) (M:Mc),(Mc.opAll sg ps M).1={ M with fq:=(Mc.opAll sg ps M).1.fq }/\(Mc.opAll sg ps M).1.fq.length<=M.fq.length+ps.length/\(Mc.opAll sg ps M).2.length=ps.length
 | [],M=>⟨rfl,Nat.le_refl _,rfl⟩
 | p::ps,M=>by
  obtain ⟨a1,a3⟩:=M.opOne_is sg p.1 p.2.1 p.2.2;obtain ⟨b1,b3,b4⟩:=Mc.opAll_is sg ps (M.opOne sg p.1 p.2.1 p.2.2).1;refine ⟨?_,?_,?_⟩
  ·show (Mc.opAll sg ps (M.opOne sg p.1 p.2.1 p.2.2).1).1={ M with fq:=(Mc.opAll sg ps (M.opOne sg p.1 p.2.1 p.2.2).1).1.fq }
   rw [b1];rw [a1]
  ·show (Mc.opAll sg ps (M.opOne sg p.1 p.2.1 p.2.2).1).1.fq.length<=_
   rw [q3x];omega
  ·show (_::(Mc.opAll sg ps _).2).length=_
   rw [q3x,b4];rfl
open Classical in
noncomputable def opM:FnM:=λtv M js=>match (tv[2]?:Jm),(tv[3]?:Jm),(tv[4]?:Jm) with
 | some (V.str sg),some (V.int p),some (V.int p')=>if sg∈XR/\0<=p/\(p+1)*M.group<=8/\0<=p'/\(p'+1)*M.group<=8/\M.fq.length<90000/\∀ j∈js,Kin (M.nq p.toNat j)/\Kin (M.nq p'.toNat j) then some (Mc.opAll sg (js.map λj=>(M.nq p.toNat j,M.nq p'.toNat j,j)) M) else none
 | _,_,_=>none
def zat {tv:Jl} {M M':Mc} {js:J9} {ns:List (Option Int)} (h:opM tv M js=some (M',ns)):∃ (sg:Str) (p p':Nat),tv[2]?=some (.str sg)/\tv[3]?=some (.int p)/\tv[4]?=some (.int p')/\sg∈XR/\((p:Int)+1)*M.group<=8/\((p':Int)+1)*M.group<=8/\M.fq.length<90000/\(∀ j∈js,Kin (M.nq p j)/\Kin (M.nq p' j))/\M'=(Mc.opAll sg (js.map λj=>(M.nq p j,M.nq p' j,j)) M).1/\ns=(Mc.opAll sg (js.map λj=>(M.nq p j,M.nq p' j,j)) M).2:=by
 unfold opM at h
 split at h
 ·rename_i sg p p' e1 e2 e3
  split at h
  ·rename_i hc
   obtain ⟨hs,p0,p8,q0,q8,hf,hk⟩:=hc;have h:=Option.some.inj h;exact ⟨sg,p.toNat,p'.toNat,e1,by rw [e2];congr 2;omega,by rw [e3];congr 2;omega,hs,by rw [Int.toNat_of_nonneg p0];exact p8,by rw [Int.toNat_of_nonneg q0];exact q8,hf,hk,by rw [h],by rw [h]⟩
  ·cases h
 ·cases h
def opM_ok:FnMOk opM where
 ok:=λ{tv M js M' ns} h ok=>by
  obtain ⟨sg,p,p',_,_,_,_,_,_,_,_,rfl,_⟩:=zat h;rw [(Mc.opAll_is sg (js.map λj=>(M.nq p j,M.nq p' j,j)) M).1];exact ⟨ok.l1,ok.l64,ok.g,ok.nl,ok.ml,ok.mm,ok.w0,ok.w1⟩
 g:=λ{tv M js M' ns} h=>by
  obtain ⟨sg,p,p',_,_,_,_,_,_,_,_,rfl,_⟩:=zat h;rw [(Mc.opAll_is sg (js.map λj=>(M.nq p j,M.nq p' j,j)) M).1]
 n:=λ{tv M js M' ns} h=>by
  obtain ⟨sg,p,p',_,_,_,_,_,_,_,_,_,rfl⟩:=zat h;rw [(Mc.opAll_is sg (js.map λj=>(M.nq p j,M.nq p' j,j)) M).2.2,Jg]
inductive spOp (c:MCs) (vs:Jl) (H:Hp) (Q:VK) (_:XK):Prop
 | mk (B:Hp) (A:Ma) (M:Mc) (R:Jk) (sg:Str) (a b lane:Int) (_:vs=[.ref A.b,.str sg,.int a,.int b,.int lane]) (_:MAt c B A M R H) (_:sg∈XR) (_:Kin a) (_:Kin b) (_:M.fq.length<100000) (_:∀ B' A' H',Same B B'->A'.b=A.b->MAt c B' A' (M.opOne sg a b lane).1 R H'->Q (oV (M.opOne sg a b lane).2) H')
def ok_opOne {c:MCs} {CN:Ad} (d:zk K mg "number_joined" yT ["bench","sign","left","right","lane"]) (CC:MCls K c) (hN:mg "ByNought"=some (.ref CN)) (xm:PySem.W.exmOne K (.ref CN) (.ref CN)=some true) (DN:Ok P w K mg base (CXe P w base) 3 "done" ["sign","left","right"] (spDone CN)):Ok P w K mg base CX0 4 "number_joined" ["bench","sign","left","right","lane"] (spOp c):=by
 obtain ⟨g,fd,m,F,b⟩:=d;refine ⟨g,fd,m,F.kp,b,F.ok Yp (by rintro vs H Q E ⟨_,_,_,_,_,_,_,_,e,_⟩;rw [e];rfl) λcdv A outer s H vs Q E hr h=>?_⟩;obtain ⟨B,A,M,R,sg,a,b',lane,rfl,m,hs,ka,kb,hf,q⟩:=h;have hu:=Nat.lt_of_le_of_lt (Nat.add_le_add_left (show 1<=64 by decide) _) hr.units;have hr3:=hr;have CN':=CC.n;have SL:(200000:Nat)<sizeLine:=by decide
 refine ⟨_,(zd (ps_try (t:=λR=>tRet (tCall (spDone CN) [] (XE R) (YW (tVar 1) (YW (tVar 2) (YW (tVar 3) tNil))))) rfl rfl (by intro pins σ₀ R ok;exact ps1_ret (pe1_ok (E:=XE R) DN hr3 rfl (pass_tr (pins:=pins) (σ₀:=σ₀) ok) (zb (pv 1) (zb (pv 2) (zb (pv 3) ze))))) (ph_no rfl rfl hN (λe=>(zf (ps_dput hu (zu (pv 0) rfl) (pv 4) zN rfl))) ph_nil))
   (zf (zo yW))),?_⟩
 refine ⟨λC H'=>C=CN/\xh sg a b'=none/\H'=H,?_,?_⟩
 ·refine ⟨_,rfl,_,rfl,_,rfl,sg,a,b',rfl,hs,ka,kb,λr er=>?_,λer=>⟨CN,rfl,rfl,er,rfl⟩⟩
  have e:M.opOne sg a b' lane=(M,some r):=by unfold Mc.opOne;rw [er]
  rw [e] at q;exact q B A H (Same.refl _) rfl m
 ·rintro e C H' ne ⟨rfl,er,rfl⟩
  have e':M.opOne sg a b' lane=({ M with fq:=xx M.fq (.inl lane) (.str "nought") },none):=by unfold Mc.opOne;rw [er]
  rw [e'] at q;refine ⟨true,xm,?_⟩;rw [if_pos rfl];have m2:=m.grow (o:=excO e C) ne;have s2:Same B (upd B e (excO e C)):=zn (Same.refl _) (m.h.free ne);exact ⟨_,rfl,A.b,_,_,_,.ref A.aF,rfl,m2.b,CN'.c,CN'.fq,rfl,_,rfl,A.aF,_,rfl,DPut.k (k:=.inl lane) (m2.h.get 7 rfl) (by omega),q _ A _ s2 rfl (m2.putFault _)⟩
def ok_op {c:MCs} (d:zk K mg "numbers_joined" yI ["bench","step","active"]) (hzip:mg "zip"=none) (CC:MCls K c) (NI:OkM P w K mg base CX0 3 c.bn "numbers_in" ["self","seat","active"] (spNums c K)) (NJ:Ok P w K mg base CX0 4 "number_joined" ["bench","sign","left","right","lane"] (spOp c)):Ok P w K mg base CX0 5 "numbers_joined" ["bench","step","active"] (spFn c opM):=by
 obtain ⟨g,fd,m,F,b⟩:=d;refine ⟨g,fd,m,F.kp,b,F.ok sc_numbers_joined (by rintro vs H Q E ⟨_,_,_,_,_,_,_,_,_,_,e,_⟩;rw [e];rfl) λcdv A outer s H vs Q E hr h=>?_⟩;obtain ⟨B,A,M,R,st,aa,tv,js,M',ns,rfl,m,es,ea,ef,ok,hj,hl,q⟩:=h;obtain ⟨sg,p,p',e2,e3,e4,hs,p8,p8',hf,hk,rfl,rfl⟩:=zat ef;have nd:=sc_numbers_joined.nd;have hr4:=hr;have hr3:Room 3 _:=hr.mono (by decide);have CN:=CC.n;have SL:(3000:Nat)<sizeLine:=by decide
 let pr:Int->Int×Int×Int:=λj=>(M.nq p j,M.nq p' j,j);refine ⟨_,(zd (zv (i:=3) nd rfl (Or.inl rfl) (yb NI CC.n.c hr3 zt (pv 0) (zb (zq zy (pv 1) zc (λ_ _=>rfl)) (zb (pv 2) ze))))
   (zd (zv (i:=4) nd rfl (Or.inl rfl) (yb NI CC.n.c hr3 zt (pv 0) (zb (zq zy (pv 1) zc (λ_ _=>rfl)) (zb (pv 2) ze))))
   (zf (zo (Zf ["left","right","lane","bench","step"] [none,none,none,some 0,some 1] rfl rfl rfl (pi_zip3 rfl hzip (zb (pv 3) (zb (pv 4) (zb (pv 2) ze)))) (λs3 H3 fp=>⟨pg_tupK (K:=K) (n:=3) rfl rfl (xc (zR (i:=0) (Jn ["left","right","lane","bench","step"]) rfl (Or.inl rfl)) (xc (zR (i:=1) (Jn ["left","right","lane","bench","step"]) rfl (Or.inl rfl)) (xc (zR (i:=2) (Jn ["left","right","lane","bench","step"]) rfl (Or.inl rfl)) YO))),(zH NJ hr4 (by rfl) zt (zb (pv 3) (zb (zq (ix_tupK (K:=K) rfl) (pv 4) zc (λ_ _=>rfl)) (zb (pv 0) (zb (pv 1) (zb (pv 2) ze))))))⟩)))))),?_⟩
 refine ⟨_,rfl,A.b,_,_,rfl,m.b,rfl,_,rfl,st,_,_,_,rfl,rfl,SqT.of (m.h.sm _ _ es),zm (j:=3) e3,_,rfl,B,A,M,R,p,aa,js,rfl,m,ok,p8,ea,hj,hl,λB1 H1 x1 s1 m1 ex1=>?_⟩;refine ⟨_,rfl,A.b,_,_,rfl,m1.b,rfl,_,rfl,st,_,_,_,rfl,rfl,SqT.of (m1.h.sm _ _ (s1 _ _ es)),zm (j:=4) e4,_,rfl,B1,A,M,R,p',aa,js,rfl,m1,ok,p8',s1 _ _ ea,hj,hl,λB2 H2 x2 s2 m2 ex2=>?_⟩;have s12:=s1.trans s2;have ex1':=s2 _ _ ex1;have ea2:=s12 _ _ ea;refine ⟨_,rfl,_,rfl,_,rfl,x1,x2,aa,rfl,⟨_,SqL.of (m2.h.sm _ _ ex1')⟩,⟨_,SqL.of (m2.h.sm _ _ ex2)⟩,⟨_,SqL.of (m2.h.sm _ _ ea2)⟩,_,rfl,λD nD=>?_⟩;have m0:MAt c B2 A (Mc.opAll sg ((js.take 0).map pr) M).1 ((D,.lst ((Mc.opAll sg ((js.take 0).map pr) M).2.map oV))::R) (upd H2 D (.lst [])):=m2.newR nD;generalize upd H2 D (.lst [])=H3 at m0 ⊢;refine comp_zip3 (K:=K) (xs:=(js.map (M.nq p)).map V.int) (ys:=(js.map (M.nq p')).map V.int) (zs:=js.map V.int) (λi σ J=>∃ (u0 u1 u2:Jm) (B3:Hp) (A3:Ma),σ=[u0,u1,u2,rq A.b,rq st]/\Same B2 B3/\A3.b=A.b/\MAt c B3 A3 (Mc.opAll sg ((js.take i).map pr) M).1 ((D,.lst ((Mc.opAll sg ((js.take i).map pr) M).2.map oV))::R) J) ⟨none,none,none,B2,A,rfl,Same.refl _,rfl,m0⟩ (λi σ J _ ⟨_,_,_,B3,A3,_,s3,_,m3⟩=>⟨SqL.of (m3.h.sm _ _ (s3 _ _ ex1')),SqL.of (m3.h.sm _ _ (s3 _ _ ex2)),SqL.of (m3.h.sm _ _ (s3 _ _ ea2))⟩) (by rw [Jg,Jg,Jg,Jg]) (by rw [Jg,Jg,Jg]) ?_ ?_
 ·clear m0
  rintro i x y z σ J T hx hy hz ⟨u0,u1,u2,B3,A3,rfl,s3,eb,m3⟩ nT;obtain ⟨j,e9,rfl⟩:=Zv hz;have hlt:i<js.length:=(List.getElem?_eq_some_iff.mp e9).1;obtain ⟨a1,e10,rfl⟩:=Zv hx;obtain ⟨a2,e11,rfl⟩:=Zv hy;rw [List.getElem?_map,e9] at e10 e11;cases e10;cases e11;have hkj:=hk j (List.mem_of_getElem? e9);have m4:=m3.grow (o:=.tup [.int (M.nq p j),.int (M.nq p' j),.int j]) nT;have s4:Same B3 (upd B3 T (.tup [.int (M.nq p j),.int (M.nq p' j),.int j])):=zn (Same.refl _) (m3.h.free nT);have e5:upd B3 T (.tup [.int (M.nq p j),.int (M.nq p' j),.int j]) T=some (.tup [.int (M.nq p j),.int (M.nq p' j),.int j]):=zh;generalize upd J T (.tup [.int (M.nq p j),.int (M.nq p' j),.int j])=J4 at m4 ⊢;generalize upd B3 T (.tup [.int (M.nq p j),.int (M.nq p' j),.int j])=B4 at m4 s4 e5;obtain ⟨i1,i3,i4⟩:=Mc.opAll_is sg ((js.take i).map pr) M;have et:(js.take (i+1)).map pr=(js.take i).map pr++[pr j]:=by rw [List.take_add_one,e9,Ji];rfl
  rw [et,Mc.opAll_snoc];rw [Jg,List.length_take] at i3 i4;have sq:SqT K J4 st tv:=SqT.of (m4.h.sm _ _ (s4 _ _ (s3 _ _ (s12 _ _ es))));generalize Mc.opAll sg ((js.take i).map pr) M=X at *;obtain ⟨MX,nX⟩:=X;have i3:MX.fq.length<=M.fq.length+min i js.length:=i3;have i4:nX.length=min i js.length:=i4;refine ⟨T,_,rfl,SqT.of (m4.h.sm _ _ e5),rfl,_,_,rfl,_,_,rfl,_,_,rfl,rfl,?_⟩;refine ⟨_,rfl,_,rfl,st,_,_,_,rfl,rfl,sq,zm (j:=2) e2,_,rfl,_,rfl,_,rfl,B4,A3,MX,_,sg,M.nq p j,M.nq p' j,j,by rw [eb];rfl,m4,hs,hkj.1,hkj.2,by omega,λB5 A5 H5 s5 eb5 m5=>?_⟩;refine ⟨_,m5.getR,(by rw [Jg];omega),_,_,_,B5,A5,rfl,(s3.trans s4).trans s5,eb5.trans eb,?_⟩;rw [Ji];exact m5.putR
 ·rintro σ J ⟨u0,u1,u2,B3,A3,rfl,s3,eb,m3⟩
  rw [Jg,Jg,List.take_length] at m3;have nb:B3 D=none:=m3.h.nw (D,_) (List.mem_of_getElem? atR);exact q _ A3 J D ((s12.trans s3).trans (zn (Same.refl _) nb)) eb m3.settle zh
def XW (z:Str) (fs:Jj) (js:J9):Jj:=js.foldl (λf j=>xx f (.inl j) (.str z)) fs
theorem zbi (sg:Str) (F G:Int->Int):∀ (js:J9) (M:Mc),Mc.opAll sg (js.map λj=>(F j,G j,j)) M=({ M with fq:=XW "nought" M.fq (js.filter λj=>(xh sg (F j) (G j)).isNone) },js.map λj=>xh sg (F j) (G j))
 | [],M=>rfl
 | j::js,M=>by
  show ((Mc.opAll sg (js.map λj=>(F j,G j,j)) (M.opOne sg (F j) (G j) j).1).1,(M.opOne sg (F j) (G j) j).2::(Mc.opAll sg (js.map λj=>(F j,G j,j)) (M.opOne sg (F j) (G j) j).1).2)=_;rw [zbi sg F G js]
  cases e:xh sg (F j) (G j) with
  | some r =>
   have e1:M.opOne sg (F j) (G j) j=(M,some r):=by unfold Mc.opOne;rw [e]
   rw [e1,List.filter_cons_of_neg (by rw [e];exact λz=>by cases z),List.map_cons,e]
  | none =>
   have e1:M.opOne sg (F j) (G j) j=({ M with fq:=xx M.fq (.inl j) (.str "nought") },none):=by unfold Mc.opOne;rw [e]
   rw [e1,List.filter_cons_of_pos (by rw [e];rfl),List.map_cons,e];rfl
theorem Xn (z:Str):∀ (js:J9) (fs:Jj) (j:Int),(yd (XW z fs js) (.inl j)).isSome=((yd fs (.inl j)).isSome || decide (j∈js))
 | [],fs,j=>by rw [decide_eq_false (by simp),Bool.or_false];rfl
 | i::js,fs,j=>by
  show (yd (XW z (xx fs (.inl i) (.str z)) js) (.inl j)).isSome=_;rw [Xn z js,ZY];by_cases e:j=i
  ·subst e
   rw [if_pos rfl,decide_eq_true q1z];simp
  ·rw [if_neg (λy=>e (Sum.inl.inj y))]
   congr 1;refine decide_eq_decide.mpr ⟨λy=>q1y _ y,λy=>?_⟩;rcases List.mem_cons.mp y with y | y
   ·exact absurd y e
   ·exact y
section
variable {Lx:Lex} {S LN:J9} {L pl k:Nat} {mn_ group b:Int} {s:DT} {M:Mc}
def InS.op {p q r m:Nat} {sg:Str} {F G:Int->Int} (h:InS S LN L pl mn_ group b k s M) (hS:Lx.S "op" opM) (p8:((p:Int)+1)*group<=8) (q8:((q:Int)+1)*group<=8) (r8:((r:Int)+1)*group<=8) (m16:m<16) (sgn:sg∈XR) (hf:M.fq.length<90000) (hq:∀ j∈M.act m,M.nq q j=F (b+j)/\M.nq r j=G (b+j)) (hk:∀ j∈M.act m,Kin (F (b+j))/\Kin (G (b+j))) :
  ∃ M',Step Lx [.str "op",.int p,.str sg,.int q,.int r,.int m] M M'/\InS S LN L pl mn_ group b (k+1) s M'/\(Kp M M'/\M'.fq=XW "nought" M.fq ((M.act m).filter λj=>(xh sg (F (b+j)) (G (b+j))).isNone))/\(∀ j∈M.act m,∀ v,xh sg (F (b+j)) (G (b+j))=some v->M'.nq p j=v)/\(∀ (p':Nat) (j:Int),p'≠p->0<=j->j<group*L->M'.nq p' j=M.nq p' j):=by
 have ef:opM [.str "op",.int p,.str sg,.int q,.int r,.int m] M (M.act m)=some ({ M with tq:=M.tq++[],fq:=XW "nought" M.fq ((M.act m).filter λj=>(xh sg (F (b+j)) (G (b+j))).isNone) },(M.act m).map λj=>xh sg (F (b+j)) (G (b+j))):=by
  have e1:opM [.str "op",.int p,.str sg,.int q,.int r,.int m] M (M.act m)=some (Mc.opAll sg ((M.act m).map λj=>(M.nq q j,M.nq r j,j)) M):=by
   unfold opM;refine (if_pos ?_).trans ?_
   ·rw [q0z,q0z,h.group]
    exact ⟨sgn,by omega,q8,by omega,r8,hf,λj hj=>by rw [(hq j hj).1,(hq j hj).2];exact hk j hj⟩
   ·rw [q0z,q0z]
  rw [e1];have e2:(M.act m).map (λj=>(M.nq q j,M.nq r j,j))=(M.act m).map λj=>(F (b+j),G (b+j),j):=List.map_congr_left λj hj=>by rw [(hq j hj).1,(hq j hj).2]
  rw [e2,zbi sg (λj=>F (b+j)) (λj=>G (b+j)),q3y]
 obtain ⟨M',st,i,kp,n1,n2⟩:=h.seatO (word:="op") (p:=p) (m:=m) hS rfl rfl rfl p8 m16 ef;rw [q3y] at i;exact ⟨M',st,i,kp,n1,n2⟩
end
abbrev CF:=J9×Bool
def upF (one:Nat->CF->CF) (s:CF) (i:Nat):CF:=(List.range i).foldl (λs i=>one i s) s
def Zc (one:Nat->CF->CF) (s:CF) (i:Nat):upF one s (i+1)=one i (upF one s i):=by unfold upF;rw [List.range_succ,List.foldl_append];rfl
structure Ex (us:List (Int×Int)) (f:Bool) (N:Nat) (T:List Tch) (M:Mc):Prop where
 r:M.raised=f
 u:M.turns=us
 n:T.length<=N
theorem Y6 {Lx:Lex} (hB:Lx.W "begin" Yy) (hX:Lx.W "next" XV) {code:List (Jl)} {S LN:J9} {L pl n NS N0 D:Nat} {mn_ group:Int} {us:List (Int×Int)} {one:Nat->CF->CF} {s:CF} {T:List Tch} {M:Mc} (h:RestAt S LN L pl (s.1,T) M) (hx:Ex us s.2 N0 T M) (hg:group=1∨group=2∨group=4) (h1:1<=mn_)
  (c0:code[pl]?=some [.str "begin",.int mn_,.int group]) (c3:code[pl+(n+1)]?=some [.str "next"]) (hN:∀ i:Nat,i<NS↔(i:Int)*(group*L)<mn_)
  (go:∀ (i:Nat) (T:List Tch) (M:Mc),i<NS->StripAt S LN L pl mn_ group (i*(group*L)) ((upF one s i).1,T) M->Ex us (upF one s i).2 (N0+i*D) T M->∃ k M' T',Steps Lx code k M M'/\InS S LN L pl mn_ group (i*(group*L)) (n+1) ((one i (upF one s i)).1,T') M'/\Ex us (one i (upF one s i)).2 (N0+(i+1)*D) T' M') :
  ∃ k M' T',Steps Lx code k M M'/\RestAt S LN L (pl+(n+2)) ((upF one s NS).1,T') M'/\Ex us (upF one s NS).2 (N0+NS*D) T' M':=by
 have l1:=h.ok.l1;have hL:=h.lq;have sd:1<=group*(L:Int):=by rcases hg with e | e | e <;> rw [e] <;> omega
 have N1:0<NS:=(hN 0).mpr (by omega);have low:∀ i:Nat,(0:Int)<=i*(group*L):=λi=>Int.mul_nonneg (by omega) (by omega);have sc:∀ i:Nat,((i+1:Nat):Int)*(group*L)=i*(group*L)+group*L:=λi=>by rw [Int.natCast_add,Int.add_mul];show _+1*(group*(L:Int))=_;rw [Int.one_mul]
 have at_i:∀ i:Nat,i<NS->∃ k M' T',Steps Lx code k M M'/\StripAt S LN L pl mn_ group (i*(group*L)) ((upF one s i).1,T') M'/\Ex us (upF one s i).2 (N0+i*D) T' M':=by
  intro i
  induction i with
  | zero =>
   intro _;have st:Step Lx [.str "begin",.int mn_,.int group] M { M.round mn_ group with pc:=M.pc+1 }:=Step.way (L:=Lx) (word:="begin") hB rfl ⟨mn_,group,rfl,rfl,h.ok,hg,by omega,rfl,rfl⟩;have sa:StripAt S LN L pl mn_ group 0 (s.1,T) { ({ M with oq:=M.pc,mn_:=mn_,group:=group,cq:=none }:Mc).strip 0 with pc:=pl+1 }:=YX ⟨h.ok.l1,h.ok.l64,h.ok.nl,h.ok.ml,h.ok.mm⟩ hg rfl rfl h.lq h.pc (by omega) h.rf h.starts h.lens h.cells h.tq;rw [h.pc] at st;refine ⟨1,_,T,.cons (by rw [h.pc];omega) h.rf (by rw [h.pc,q0z];exact c0) st .refl,?_,⟨hx.r,hx.u,by have:=hx.n;omega⟩⟩;have e:((0:Nat):Int)*(group*L)=0:=by omega
   rw [e];unfold Mc.round;rw [h.pc] at sa ⊢;exact sa
  | succ i ih =>
   intro hi;obtain ⟨k,M1,T1,st,sa,ii⟩:=ih (by omega);have hi1:=(hN (i+1)).mp hi;rw [sc] at hi1;have hl:=low i;have hw:wid mn_ (group*L) (i*(group*L))=(group*(L:Int)).toNat:=by unfold wid;omega
   obtain ⟨k2,M2,T2,st2,e2,i2⟩:=go i T1 M1 (by omega) sa ii;have bb:M2.base+M2.bq=((i+1:Nat):Int)*(group*L):=by rw [sc,e2.base,e2.bq,hw];omega
   have st3:Step Lx [.str "next"] M2 { M2.strip (((i+1:Nat):Int)*(group*L)) with pc:=(pl:Int)+1 }:=Step.way (L:=Lx) (word:="next") hX rfl (by
    refine ⟨e2.ok.zero,by rw [e2.group];exact hg,?_⟩;rw [bb,if_pos (by rw [e2.mn_,sc];exact hi1),e2.oq];exact ⟨rfl,rfl⟩)
   refine ⟨k+k2+1,_,T2,(st.trans st2).trans (e2.one c3 st3),?_,by rw [Zc];exact ⟨i2.r,i2.u,i2.n⟩⟩;rw [Zc];exact YX e2.ok.zero hg e2.group e2.mn_ e2.lq e2.oq (by rw [sc];omega) e2.rf e2.starts e2.lens e2.cells e2.tq
 obtain ⟨k,M1,T1,st,sa,ii⟩:=at_i (NS-1) (by omega);have hi0:=(hN (NS-1)).mp (by omega);have hi1:¬ ((NS-1+1:Nat):Int)*(group*L)<mn_:=λz=>by have:=(hN (NS-1+1)).mpr z;omega
 rw [sc] at hi1;have hl:=low (NS-1);have hw:(wid mn_ (group*L) ((NS-1:Nat)*(group*L)):Int)=mn_-(NS-1:Nat)*(group*L):=by unfold wid;omega
 obtain ⟨k2,M2,T2,st2,e2,i2⟩:=go (NS-1) T1 M1 (by omega) sa ii
 have st3:Step Lx [.str "next"] M2 { M2 with pc:=((pl+(n+2):Nat):Int) }:=by
  refine Step.way (L:=Lx) (word:="next") hX rfl ?_;refine ⟨e2.ok.zero,by rw [e2.group];exact hg,?_⟩;rw [if_neg (by rw [e2.base,e2.bq,e2.mn_];omega),e2.pc];exact ⟨rfl,by omega⟩
 have eN:NS=NS-1+1:=by omega
 refine ⟨k+k2+1,_,T2,(st.trans st2).trans (e2.one c3 st3),?_,by rw [eN,Zc];exact ⟨i2.r,i2.u,i2.n⟩⟩;rw [eN,Zc];exact ⟨⟨e2.ok.l1,e2.ok.l64,e2.ok.nl,e2.ok.ml,e2.ok.mm⟩,e2.lq,e2.rf,e2.starts,e2.lens,rfl,e2.cells,e2.tq⟩
structure Lx41 (Lx:Lex):Prop where
 load:Lx.S "load" Yf
 num:Lx.S "number" numM
 op:Lx.S "op" opM
 store:Lx.E "store" Zs
 other:Lx.E "other" (xO true)
 any:Lx.E "any" anyM
section
variable {Lx:Lex} {S LN:J9} {L pl k:Nat} {mn_ group b:Int} {s:DT} {M:Mc}
def InS.numO {p m:Nat} {v:Int} (h:InS S LN L pl mn_ group b k s M) (hS:Lx.S "number" numM) (p8:((p:Int)+1)*group<=8) (m16:m<16) :
  ∃ M',Step Lx [.str "number",.int p,.int v,.int m] M M'/\InS S LN L pl mn_ group b (k+1) s M'/\(Kp M M'/\M'.fq=M.fq)/\(∀ j∈M.act m,M'.nq p j=v)/\(∀ (p':Nat) (j:Int),p'≠p->0<=j->j<group*L->M'.nq p' j=M.nq p' j):=by
 obtain ⟨M',st,i,kp,n1,n2⟩:=h.seatO (tv:=[.str "number",.int p,.int v,.int m]) (T':=[]) (F':=M.fq) (g:=λ_=>some v) hS rfl rfl rfl p8 m16 (by rw [q3y];rfl);rw [q3y] at i;exact ⟨M',st,i,kp,λj hj=>n1 j hj v rfl,n2⟩
def XY {x:Int} (h:Kin x):kept x=x:=by unfold Kin at h;unfold kept;omega
def X1 {a c:Int}:xh "+" a c=some (kept (a+c)):=rfl
def Yu (z:Str) (f:Jj):XW z f []=f:=rfl
def strip_add {code:List (Jl)} {j p q:Nat} {cs:J9} {T:List Tch} (lx:Lx41 Lx) (h:StripAt S LN L pl mn_ group b (cs,T) M) (p8:((p:Int)+1)*group<=8) (q8:((q:Int)+1)*group<=8) (ne:p≠q) (hj:j<S.length) (b0:0<=b) (ij:0<=S.getD j 0/\S.getD j 0+mn_<=cs.length)
  (hk:∀ e:Int,b<=e->e<mn_->Kin (cs.getD (S.getD j 0+e).toNat 0)/\Kin (1+cs.getD (S.getD j 0+e).toNat 0)) (ht:T.length+2*wid mn_ (group*L) b<90000)
  (c1:code[pl+1]?=some [.str "load",.int p,.int j,.int 0]) (c2:code[pl+2]?=some [.str "number",.int q,.int 1,.int 0]) (c3:code[pl+3]?=some [.str "op",.int p,.str "+",.int q,.int p,.int 0]) (c4:code[pl+4]?=some [.str "store",.int j,.int p,.int 0]) :
  ∃ n M' T',Steps Lx code n M M'/\InS S LN L pl mn_ group b 5 (yP cs ((xg mn_ (group*L) b).map λe=>(S.getD j 0+e,1+cs.getD (S.getD j 0+e).toNat 0)),T') M'/\Kp M M'/\T'.length=T.length+2*wid mn_ (group*L) b:=by
 have al:(M.act 0).length=wid mn_ (group*L) b:=by rw [h.act];unfold yZ;rw [Jg,List.length_range]
 obtain ⟨M1,st1,i1,⟨kp1,f1⟩,v1,_⟩:=h.i.loadO (r:=j) (p:=p) (m:=0) lx.load p8 (by decide) hj b0 ij (by show T.length+_<_;omega);have a1:=xz kp1 f1 0;obtain ⟨M2,st2,i2,⟨kp2,f2⟩,v2,o2⟩:=i1.numO (p:=q) (m:=0) (v:=1) lx.num q8 (by decide);have a2:=xz kp2 f2 0;have f20:M2.fq=[]:=by rw [f2,f1,h.flt]
 have mem:∀ x∈M.act 0,b<=b+x/\b+x<mn_/\0<=x/\x<group*L:=λx hx=>by have:=h.i.mem hx;omega
 obtain ⟨M3,st3,i3,⟨kp3,f3⟩,v3,_⟩:=i2.op (p:=p) (q:=q) (r:=p) (m:=0) (sg:="+") (F:=λ_=>1) (G:=λe=>cs.getD (S.getD j 0+e).toNat 0) lx.op p8 q8 p8 (by decide) (by decide) (by rw [f20];decide) (λx hx=>by
   rw [a2,a1] at hx;have:=mem x hx
   exact ⟨v2 x (by rw [a1];exact hx),by rw [o2 p x ne this.2.2.1 this.2.2.2];exact v1 x hx⟩) (λx hx=>by
   rw [a2,a1] at hx;have:=mem x hx;exact ⟨⟨by decide,by decide⟩,(hk _ this.1 this.2.1).1⟩)
 have f30:M3.fq=M2.fq:=by
  rw [f3];have:((M2.act 0).filter λj_1=>(xh "+" 1 (cs.getD (S.getD j 0+(b+j_1)).toNat 0)).isNone)=[]:=List.filter_eq_nil_iff.mpr λx _=>by rw [X1];exact Bool.noConfusion
  rw [this,Yu]
 have a3:=xz kp3 f30 0
 obtain ⟨M4,st4,i4,⟨kp4,f4⟩,_⟩:=i3.storeO (q:=j) (p:=p) (m:=0) (F:=λe=>1+cs.getD (S.getD j 0+e).toNat 0) lx.store p8 (by decide) hj b0 ij (by
   rw [a3,a2,a1];show (T++_).length+_<_
   rw [Jh,Jg,Jg];omega) (λx hx=>by
   rw [a3,a2,a1] at hx;have:=mem x hx;rw [v3 x (by rw [a2,a1];exact hx) _ X1];exact XY (hk _ this.1 this.2.1).2)
 have e:(M3.act 0).map (b+·)=xg mn_ (group*L) b:=by rw [a3,a2,a1,h.act];rfl
 have el:(xg mn_ (group*L) b).length=wid mn_ (group*L) b:=by rw [← e,Jg,a3,a2,a1,al]
 rw [e] at i4;refine ⟨_,M4,_,((((h.i.one c1 st1).trans (i1.one c2 st2)).trans (i2.one c3 st3)).trans (i3.one c4 st4)),i4,((kp1.trans kp2).trans kp3).trans kp4,?_⟩;show (T++_++_).length=_;rw [Jh,Jh,Jg,Jg,Jg,el];omega
end
def yl (cs:J9) (s:Int) (n:Nat):J9:=yP cs ((List.range n).map λi:Nat=>(s+(i:Int),1+cs.getD (s+(i:Int)).toNat 0))
def YZ (cs:J9) (A B:List (Int×Int)):yP cs (A++B)=yP (yP cs A) B:=by unfold yP;rw [List.foldl_append]
def xn (cs:J9) (s:Int) (n:Nat):(yl cs s n).length=cs.length:=zb7 _ _
theorem ZN (i:Nat):∀ (ps:List (Int×Int)) (cs:J9),(∀ p∈ps,p.1.toNat≠i)->(yP cs ps).getD i 0=cs.getD i 0
 | [],_,_=>rfl
 | p::ps,cs,h=>by
  show (yP (cs.set p.1.toNat p.2) ps).getD i 0=_;rw [ZN i ps _ λq hq=>h q (q1y _ hq),q1x,List.getElem?_set_ne (h p q1z),← q1x]
def Yz {cs:J9} {s:Int} {n:Nat} (s0:0<=s) {e:Int} (h:(n:Int)<=e):(yl cs s n).getD (s+e).toNat 0=cs.getD (s+e).toNat 0:=by
 refine ZN _ _ _ λp hp=>?_;obtain ⟨i,hi,rfl⟩:=List.mem_map.mp hp;have:=List.mem_range.mp hi;show (s+(i:Int)).toNat≠_;omega
def zcz {cs:J9} {s mn_ side:Int} {n:Nat} (s0:0<=s):yP (yl cs s n) ((xg mn_ side (n:Int)).map λe=>(s+e,1+(yl cs s n).getD (s+e).toNat 0))=yl cs s (n+wid mn_ side (n:Int)):=by
 have e1:((xg mn_ side (n:Int)).map λe=>(s+e,1+(yl cs s n).getD (s+e).toNat 0))=(List.range (wid mn_ side (n:Int))).map λi:Nat=>(s+((n+i:Nat):Int),1+cs.getD (s+((n+i:Nat):Int)).toNat 0):=by
  unfold xg yZ;rw [List.map_map,List.map_map];refine List.map_congr_left λi _=>?_;show (s+((n:Int)+(i:Int)),1+(yl cs s n).getD (s+((n:Int)+(i:Int))).toNat 0)=_;rw [Yz s0 (by omega),Int.natCast_add]
 rw [e1];unfold yl;rw [List.range_add,Ji,YZ,List.map_map];rfl
section
variable {Lx:Lex} {S LN:J9} {L pl:Nat} {mn_ group:Int} {M:Mc}
theorem round_add {code:List (Jl)} {j p q NS N0:Nat} {cs:J9} {f:Bool} {T:List Tch} {us:List (Int×Int)} (hB:Lx.W "begin" Yy) (hX:Lx.W "next" XV) (lx:Lx41 Lx) (h:RestAt S LN L pl (cs,T) M) (hx:Ex us f N0 T M) (hg:group=1∨group=2∨group=4) (h1:1<=mn_) (h6:mn_<=6) (p8:((p:Int)+1)*group<=8) (q8:((q:Int)+1)*group<=8) (ne:p≠q) (hj:j<S.length) (ij:0<=S.getD j 0/\S.getD j 0+mn_<=cs.length)
  (hk:∀ e:Int,0<=e->e<mn_->Kin (cs.getD (S.getD j 0+e).toNat 0)/\Kin (1+cs.getD (S.getD j 0+e).toNat 0)) (ht:N0<80000) (hN:∀ i:Nat,i<NS↔(i:Int)*(group*L)<mn_)
  (c0:code[pl]?=some [.str "begin",.int mn_,.int group]) (c1:code[pl+1]?=some [.str "load",.int p,.int j,.int 0]) (c2:code[pl+2]?=some [.str "number",.int q,.int 1,.int 0]) (c3:code[pl+3]?=some [.str "op",.int p,.str "+",.int q,.int p,.int 0]) (c4:code[pl+4]?=some [.str "store",.int j,.int p,.int 0]) (c5:code[pl+5]?=some [.str "next"]) :
  ∃ k M' T',Steps Lx code k M M'/\RestAt S LN L (pl+6) (yl cs (S.getD j 0) mn_.toNat,T') M'/\Ex us f (N0+72) T' M':=by
 have l1:=h.ok.l1;have hL:=h.lq;obtain ⟨side,es⟩:∃ n:Nat,group*(L:Int)=n:=⟨(group*(L:Int)).toNat,by have:0<=group*(L:Int):=Int.mul_nonneg (by omega) (by omega);omega⟩;have hx9:1<=group*(L:Int):=by rcases hg with e | e | e <;> rw [e] <;> omega
 have sd:1<=side:=by omega
 have low:∀ i:Nat,(i:Int)<=i*side:=λi=>by
  have:(i:Int)*1<=i*side:=Int.mul_le_mul_of_nonneg_left (by omega) (by omega);omega
 have N6:NS<=6:=by
  rcases Nat.lt_or_ge 6 NS with z | z
  ·have a:=(hN 6).mp z
   have b:=low 6;rw [es] at a;omega
  ·exact z
 let one:Nat->CF->CF:=λi s=>(yP s.1 ((xg mn_ (group*L) ((i:Int)*(group*L))).map λe=>(S.getD j 0+e,1+s.1.getD (S.getD j 0+e).toNat 0)),s.2)
 have up:∀ i:Nat,i<=NS->upF one (cs,f) i=(yl cs (S.getD j 0) (min (i*side) mn_.toNat),f):=by
  intro i
  induction i with
  | zero=>intro _;rw [Nat.zero_mul,Nat.zero_min];rfl
  | succ i ih =>
   intro hi;have lt:=(hN i).mp (by omega);rw [es] at lt;rw [Zc,ih (by omega)]
   have em:min (i*side) mn_.toNat=i*side:=by
    have:((i*side:Nat):Int)=(i:Int)*side:=Int.natCast_mul _ _;omega
   rw [em];have e2:(i:Int)*(group*L)=((i*side:Nat):Int):=by rw [es];exact (Int.natCast_mul _ _).symm
   show (yP (yl cs (S.getD j 0) (i*side)) ((xg mn_ (group*L) ((i:Int)*(group*L))).map λe=>(S.getD j 0+e,1+(yl cs (S.getD j 0) (i*side)).getD (S.getD j 0+e).toNat 0)),f)=_;rw [e2,zcz ij.1];congr 2;have:((i*side:Nat):Int)=(i:Int)*side:=Int.natCast_mul _ _;have e3:(i+1)*side=i*side+side:=by rw [Nat.add_mul,Nat.one_mul]
   rw [e3,es];unfold wid;omega
 have key:=Y6 (n:=4) (D:=12) (one:=one) (s:=(cs,f)) (NS:=NS) (us:=us) (N0:=N0) hB hX h hx hg h1 c0 c5 hN (λi T1 M1 hi sa ex=>by
  have lt:=(hN i).mp hi;have ei:=up i (by omega);rw [ei] at sa ex ⊢;have e2:(i:Int)*(group*L)=((i*side:Nat):Int):=by rw [es];exact (Int.natCast_mul _ _).symm
  have em:min (i*side) mn_.toNat=i*side:=by omega
  rw [em] at sa ⊢;have w6:wid mn_ (group*L) ((i:Int)*(group*L))<=6:=by rw [e2];unfold wid;omega
  have i6:i<6:=by omega
  have exn:=ex.n
  obtain ⟨k,M2,T2,st,i2,kp,tl⟩:=strip_add (code:=code) (p:=p) (q:=q) (j:=j) lx sa p8 q8 ne hj (by rw [e2];omega) (by show _/\_<=((yl cs (S.getD j 0) (i*side)).length:Int);rw [xn];exact ij) (λe b0 b1=>by
   rw [e2] at b0;show Kin ((yl cs (S.getD j 0) (i*side)).getD _ 0)/\Kin (1+(yl cs (S.getD j 0) (i*side)).getD _ 0);rw [Yz ij.1 b0];exact hk e (by omega) b1) (by omega) c1 c2 c3 c4
  refine ⟨k,M2,T2,st,i2,⟨kp.raised.trans ex.r,kp.turns.trans ex.u,?_⟩⟩;omega)
 obtain ⟨k,M',T',st,rs,ex⟩:=key;rw [up NS (Nat.le_refl _)] at rs ex
 have en:min (NS*side) mn_.toNat=mn_.toNat:=by
  have:¬ (NS:Int)*(group*L)<mn_:=λz=>by have:=(hN NS).mpr z;omega
  rw [es] at this;have e9:((NS*side:Nat):Int)=(NS:Int)*side:=Int.natCast_mul _ _;omega
 rw [en] at rs;exact ⟨k,M',T',st,rs,⟨ex.r,ex.u,by have:=ex.n;omega⟩⟩
end
section
variable {Lx:Lex} {S LN:J9} {L pl k:Nat} {mn_ group b:Int} {s:DT} {M:Mc}
theorem InS.any {p m:Nat} (h:InS S LN L pl mn_ group b k s M) (hS:Lx.E "any" anyM) (p8:((p:Int)+1)*group<=8) (m16:m<16) :
  ∃ M',Step Lx [.str "any",.int p,.int m] M M'/\InS S LN L pl mn_ group b (k+1) s M'/\M'.raised=(M.raised || M.anyUp p m)/\M'.turns=M.turns:=by
 have e:anyM [.str "any",.int p,.int m] M=some (if M.anyUp p m=true then { M with raised:=true } else M):=by
  unfold anyM;show (if _ then _ else _)=_;rw [if_pos ⟨by omega,by rw [h.group];exact p8,by omega,by omega⟩];rfl
 have st:=Step.eff (word:="any") hS rfl e h.ok;have pc:M.pc+1=((pl+(k+1):Nat):Int):=by rw [h.pc];omega
 cases hb:M.anyUp p m with
 | true =>
  rw [hb,if_pos rfl] at st;exact ⟨_,st,⟨⟨h.ok.l1,h.ok.l64,h.ok.g,h.ok.nl,h.ok.ml,h.ok.mm,h.ok.w0,h.ok.w1⟩,h.wle,h.bq,h.base,pc,h.oq,h.mn_,h.group,h.lq,h.rf,h.starts,h.lens,h.cells,h.tq⟩,(Bool.or_true _).symm,rfl⟩
 | false =>
  rw [hb,if_neg Bool.noConfusion] at st;exact ⟨_,st,⟨⟨h.ok.l1,h.ok.l64,h.ok.g,h.ok.nl,h.ok.ml,h.ok.mm,h.ok.w0,h.ok.w1⟩,h.wle,h.bq,h.base,pc,h.oq,h.mn_,h.group,h.lq,h.rf,h.starts,h.lens,h.cells,h.tq⟩,(Bool.or_false _).symm,rfl⟩
def look_pre {code:List (Jl)} {j p q:Nat} {pd:Int} {cs:J9} {T:List Tch} (lx:Lx41 Lx) (h:StripAt S LN L pl mn_ group b (cs,T) M) (p8:((p:Int)+1)*group<=8) (q8:((q:Int)+1)*group<=8) (ne:p≠q) (hj:j<S.length) (b0:0<=b) (ij:0<=S.getD j 0/\S.getD j 0+mn_<=cs.length) (pd0:0<pd) (pd6:pd<=6)
  (hk:∀ e:Int,b<=e->e<mn_->Kin (cs.getD (S.getD j 0+e).toNat 0)) (ht:T.length+wid mn_ (group*L) b<90000)
  (c1:code[pl+1]?=some [.str "load",.int p,.int j,.int 0]) (c2:code[pl+2]?=some [.str "number",.int q,.int pd,.int 0]) (c3:code[pl+3]?=some [.str "op",.int p,.str "rest",.int p,.int q,.int 0]) :
  ∃ n M' T',Steps Lx code n M M'/\InS S LN L pl mn_ group b 4 (cs,T') M'/\Kp M M'/\M'.fq=[]/\M'.act 0=yZ (wid mn_ (group*L) b)/\T'.length=T.length+wid mn_ (group*L) b/\∀ x∈M.act 0,M'.nq p x=cs.getD (S.getD j 0+(b+x)).toNat 0 % pd/\M'.nq q x=pd:=by
 have al:(M.act 0).length=wid mn_ (group*L) b:=by rw [h.act];unfold yZ;rw [Jg,List.length_range]
 obtain ⟨M1,st1,i1,⟨kp1,f1⟩,v1,_⟩:=h.i.loadO (r:=j) (p:=p) (m:=0) lx.load p8 (by decide) hj b0 ij (by show T.length+_<_;omega);have a1:=xz kp1 f1 0;obtain ⟨M2,st2,i2,⟨kp2,f2⟩,v2,o2⟩:=i1.numO (p:=q) (m:=0) (v:=pd) lx.num q8 (by decide);have a2:=xz kp2 f2 0;have f20:M2.fq=[]:=by rw [f2,f1,h.flt]
 have mem:∀ x∈M.act 0,b<=b+x/\b+x<mn_/\0<=x/\x<group*L:=λx hx=>by have:=h.i.mem hx;omega
 have kpd:Kin pd:=⟨by omega,by omega⟩
 have dn:∀ v:Int,xh "rest" v pd=some (v % pd):=λv=>by
  have e:xh "rest" v pd=if pd=0 then none else some (v.fmod pd):=rfl;rw [e,if_neg (by omega),Int.fmod_eq_emod_of_nonneg _ (by omega)]
 obtain ⟨M3,st3,i3,⟨kp3,f3⟩,v3,o3⟩:=i2.op (p:=p) (q:=p) (r:=q) (m:=0) (sg:="rest") (F:=λe=>cs.getD (S.getD j 0+e).toNat 0) (G:=λ_=>pd) lx.op p8 p8 q8 (by decide) (by decide) (by rw [f20];decide) (λx hx=>by
   rw [a2,a1] at hx;have:=mem x hx
   exact ⟨by rw [o2 p x ne this.2.2.1 this.2.2.2];exact v1 x hx,v2 x (by rw [a1];exact hx)⟩) (λx hx=>by
   rw [a2,a1] at hx;have:=mem x hx;exact ⟨hk _ this.1 this.2.1,kpd⟩)
 have f30:M3.fq=M2.fq:=by
  rw [f3];have:((M2.act 0).filter λj_1=>(xh "rest" (cs.getD (S.getD j 0+(b+j_1)).toNat 0) pd).isNone)=[]:=List.filter_eq_nil_iff.mpr λx _=>by rw [dn];exact Bool.noConfusion
  rw [this,Yu]
 have a3:=xz kp3 f30 0;refine ⟨_,M3,_,((h.i.one c1 st1).trans (i1.one c2 st2)).trans (i2.one c3 st3),i3,(kp1.trans kp2).trans kp3,by rw [f30,f20],by rw [a3,a2,a1,h.act],?_,λx hx=>?_⟩
 ·show (T++_).length=_
  rw [Jh,Jg,Jg,al]
 ·have:=mem x hx
  exact ⟨v3 x (by rw [a2,a1];exact hx) _ (dn _),by rw [o3 q x (λz=>ne z.symm) this.2.2.1 this.2.2.2];exact v2 x (by rw [a1];exact hx)⟩
theorem any_elems {M':Mc} {p:Nat} {f:Int->Bool} {js:J9} (h:∀ x∈js,decide (M'.nq p x≠0)=f (b+x)):(js.map (M'.nq p)).any (λv=>decide (v≠0))=(js.map (b+·)).any f:=by
 induction js with
 | nil=>rfl
 | cons x js ih =>
  rw [List.map_cons,List.map_cons,List.any_cons,List.any_cons,ih λy hy=>h y (q1y _ hy),h x q1z]
def look_0 {code:List (Jl)} {p q:Nat} {R:Int->Int} (lx:Lx41 Lx) (h:InS S LN L pl mn_ group b 4 s M) (hf:M.fq=[]) (ha:M.act 0=yZ (wid mn_ (group*L) b)) (hr:∀ x∈M.act 0,M.nq p x=R (b+x)) (hk:∀ x∈M.act 0,Kin (R (b+x))) (p8:((p:Int)+1)*group<=8) (q8:((q:Int)+1)*group<=8) (ne:p≠q)
  (c4:code[pl+4]?=some [.str "number",.int q,.int 0,.int 0]) (c5:code[pl+5]?=some [.str "op",.int p,.str "=",.int p,.int q,.int 0]) (c6:code[pl+6]?=some [.str "any",.int p,.int 0]) :
  ∃ n M',Steps Lx code n M M'/\InS S LN L pl mn_ group b 7 s M'/\M'.raised=(M.raised || (xg mn_ (group*L) b).any λe=>decide (R e=0))/\M'.turns=M.turns:=by
 obtain ⟨M1,st1,i1,⟨kp1,f1⟩,v1,o1⟩:=h.numO (p:=q) (m:=0) (v:=0) lx.num q8 (by decide);have a1:=xz kp1 f1 0;have mem:∀ x∈M.act 0,0<=x/\x<group*L:=λx hx=>by have:=h.mem hx;omega
 obtain ⟨M2,st2,i2,⟨kp2,f2⟩,v2,_⟩:=i1.op (p:=p) (q:=p) (r:=q) (m:=0) (sg:="=") (F:=R) (G:=λ_=>0) lx.op p8 p8 q8 (by decide) (by decide) (by rw [f1,hf];decide) (λx hx=>by
   rw [a1] at hx
   exact ⟨by rw [o1 p x ne (mem x hx).1 (mem x hx).2];exact hr x hx,v1 x hx⟩) (λx hx=>by
   rw [a1] at hx;exact ⟨hk x hx,by decide,by decide⟩)
 have f20:M2.fq=M1.fq:=by
  rw [f2];have:((M1.act 0).filter λj=>(xh "=" (R (b+j)) 0).isNone)=[]:=List.filter_eq_nil_iff.mpr λx _=>Bool.noConfusion;rw [this,Yu]
 have a2:=xz kp2 f20 0;obtain ⟨M3,st3,i3,r3,t3⟩:=i2.any (p:=p) (m:=0) lx.any p8 (by decide);refine ⟨_,M3,((h.one c4 st1).trans (i1.one c5 st2)).trans (i2.one c6 st3),i3,?_,by rw [t3,kp2.turns,kp1.turns]⟩;rw [r3,kp2.raised,kp1.raised];congr 1;unfold Mc.anyUp xg;rw [← ha,a2,a1];refine any_elems λx hx=>?_;rw [v2 x (by rw [a1];exact hx) (if R (b+x)=0 then 1 else 0) rfl];by_cases z:R (b+x)=0
 ·rw [if_pos z,decide_eq_true z];rfl
 ·rw [if_neg z,decide_eq_false z];rfl
theorem look_1 {code:List (Jl)} {p q m:Nat} {R:Int->Int} {pd:Int} (lx:Lx41 Lx) (h:InS S LN L pl mn_ group b 4 s M) (ha:M.act 0=yZ (wid mn_ (group*L) b)) (hr:∀ x∈M.act 0,M.nq p x=R (b+x)/\M.nq q x=pd) (pd0:pd≠0) (p8:((p:Int)+1)*group<=8) (q8:((q:Int)+1)*group<=8) (m16:m<16)
  (c4:code[pl+4]?=some [.str "other",.int m,.int p,.int 0]) (c5:code[pl+5]?=some [.str "any",.int q,.int m]) :
  ∃ n M',Steps Lx code n M M'/\InS S LN L pl mn_ group b 6 s M'/\M'.raised=(M.raised || (xg mn_ (group*L) b).any λe=>decide (R e=0))/\M'.turns=M.turns:=by
 have e:xO true [.str "other",.int m,.int p,.int (0:Nat)] M=some (M.laidMask m (M.chosen p 0 true)):=by
  unfold xO;show (if _ then _ else _)=_;rw [if_pos ⟨by omega,by omega,by omega,by rw [h.group];exact p8,by omega,by omega⟩];rfl
 obtain ⟨a,o⟩:=laid_act (k:=0) h.ok m16 λj=>decide (decide (M.nq p j=0)=true);have st:=Step.eff (word:="other") lx.other rfl e h.ok;have i1:InS S LN L pl mn_ group b 5 s { M.laidMask m (M.chosen p 0 true) with pc:=(M.laidMask m (M.chosen p 0 true)).pc+1 }:=⟨⟨o.l1,o.l64,o.g,o.nl,o.ml,o.mm,o.w0,o.w1⟩,h.wle,h.bq,h.base,by show M.pc+1=_;rw [h.pc];omega,h.oq,h.mn_,h.group,h.lq,h.rf,h.starts,h.lens,h.cells,h.tq⟩;have a1:({ M.laidMask m (M.chosen p 0 true) with pc:=(M.laidMask m (M.chosen p 0 true)).pc+1 }:Mc).act m=(M.act 0).filter λj=>decide (decide (M.nq p j=0)=true):=a;have n1:∀ x,({ M.laidMask m (M.chosen p 0 true) with pc:=(M.laidMask m (M.chosen p 0 true)).pc+1 }:Mc).nq q x=M.nq q x:=λ_=>rfl;have r1:({ M.laidMask m (M.chosen p 0 true) with pc:=(M.laidMask m (M.chosen p 0 true)).pc+1 }:Mc).raised=M.raised/\({ M.laidMask m (M.chosen p 0 true) with pc:=(M.laidMask m (M.chosen p 0 true)).pc+1 }:Mc).turns=M.turns:=⟨rfl,rfl⟩;generalize ({ M.laidMask m (M.chosen p 0 true) with pc:=(M.laidMask m (M.chosen p 0 true)).pc+1 }:Mc)=X at *;obtain ⟨M3,st3,i3,r3,t3⟩:=i1.any (p:=q) (m:=m) lx.any q8 m16;refine ⟨_,M3,(h.one c4 st).trans (i1.one c5 st3),i3,?_,by rw [t3,r1.2]⟩;rw [r3,r1.1];congr 1;unfold Mc.anyUp xg;rw [← ha,a1];generalize hjs:M.act 0=js at hr;clear hjs a1 a ha
 induction js with
 | nil=>rfl
 | cons x js ih =>
  have hx:=hr x q1z;have ih:=ih λy hy=>hr y (q1y _ hy);rw [List.map_cons,List.any_cons,← ih];by_cases z:R (b+x)=0
  ·rw [List.filter_cons_of_pos (by rw [hx.1,z];rfl),List.map_cons,List.any_cons,n1,hx.2,decide_eq_true z,decide_eq_true pd0]
  ·rw [List.filter_cons_of_neg (by rw [hx.1,decide_eq_false z];exact Bool.noConfusion),decide_eq_false z,Bool.false_or]
def look_2 {code:List (Jl)} {p q:Nat} {R:Int->Int} {pd:Int} (lx:Lx41 Lx) (h:InS S LN L pl mn_ group b 4 s M) (hf:M.fq=[]) (ha:M.act 0=yZ (wid mn_ (group*L) b)) (hr:∀ x∈M.act 0,M.nq p x=R (b+x)/\M.nq q x=pd) (rb:∀ e,0<=R e/\R e<pd) (pd6:pd<=6) (p8:((p:Int)+1)*group<=8) (q8:((q:Int)+1)*group<=8)
  (c4:code[pl+4]?=some [.str "op",.int q,.str "/",.int q,.int p,.int 0]) (c5:code[pl+5]?=some [.str "any",.int q,.int 0]) :
  ∃ n M',Steps Lx code n M M'/\InS S LN L pl mn_ group b 6 s M'/\M'.raised=(M.raised || (xg mn_ (group*L) b).any λe=>!decide (R e=0))/\M'.turns=M.turns:=by
 have pp:=rb 0
 obtain ⟨M1,st1,i1,⟨kp1,f1⟩,v1,_⟩:=h.op (p:=q) (q:=q) (r:=p) (m:=0) (sg:="/") (F:=λ_=>pd) (G:=R) lx.op q8 q8 p8 (by decide) (by decide) (by rw [hf];decide) (λx hx=>⟨(hr x hx).2,(hr x hx).1⟩) (λx hx=>by
   have:=rb (b+x);exact ⟨⟨by omega,by omega⟩,by omega,by omega⟩)
 have dn:∀ r:Int,xh "/" pd r=if r=0 then none else some (kept (pd.fdiv r)):=λ_=>rfl;have a1:M1.act 0=(M.act 0).filter λj=>!decide (j∈(M.act 0).filter λj=>(xh "/" pd (R (b+j))).isNone):=act_less kp1.mq kp1.w (λj=>by rw [f1,Xn]) 0
 have nz:∀ x∈M.act 0,R (b+x)≠0->M1.nq q x≠0:=λx hx z=>by
  have r:=rb (b+x);rw [v1 x hx (kept (pd.fdiv (R (b+x)))) (by rw [dn,if_neg z])];have e:pd.fdiv (R (b+x))=pd / R (b+x):=Int.fdiv_eq_ediv_of_nonneg _ r.1;have q1:1<=pd / R (b+x):=(Int.le_ediv_iff_mul_le (by omega)).mpr (by omega);have q2:pd / R (b+x)<=pd:=Int.ediv_le_self _ (by omega);rw [e,XY ⟨by omega,by omega⟩];omega
 obtain ⟨M3,st3,i3,r3,t3⟩:=i1.any (p:=q) (m:=0) lx.any q8 (by decide);refine ⟨_,M3,(h.one c4 st1).trans (i1.one c5 st3),i3,?_,by rw [t3,kp1.turns]⟩;rw [r3,kp1.raised];congr 1;unfold Mc.anyUp xg;rw [← ha,a1,Bool.eq_iff_iff,List.any_eq_true,List.any_eq_true];constructor
 ·rintro ⟨v,hv,z⟩
  obtain ⟨x,hx,rfl⟩:=List.mem_map.mp hv;obtain ⟨hx,hb⟩:=List.mem_filter.mp hx;refine ⟨b+x,List.mem_map.mpr ⟨x,hx,rfl⟩,?_⟩;by_cases y:R (b+x)=0
  ·rw [decide_eq_true (List.mem_filter.mpr ⟨hx,by rw [dn,if_pos y];rfl⟩)] at hb
   cases hb
  ·rw [decide_eq_false y];rfl
 ·rintro ⟨e,he,z⟩
  obtain ⟨x,hx,rfl⟩:=List.mem_map.mp he
  have y:R (b+x)≠0:=λy=>by
   have y:R ((λx=>b+x) x)=0:=y;rw [decide_eq_true y] at z;cases z
  refine ⟨_,List.mem_map.mpr ⟨x,List.mem_filter.mpr ⟨hx,?_⟩,rfl⟩,decide_eq_true (nz x hx y)⟩;rw [decide_eq_false (λw=>by have:=(List.mem_filter.mp w).2;rw [dn,if_neg y] at this;cases this)];rfl
end
def Yw (cs:J9) (s pd:Int) (lt:Bool) (n:Nat):Bool:=(List.range n).any λi:Nat=>decide (cs.getD (s+(i:Int)).toNat 0 % pd=0) == lt
def hitF_succ (cs:J9) (s pd:Int) (lt:Bool) (n:Nat):Yw cs s pd lt (n+1)=(Yw cs s pd lt n || (decide (cs.getD (s+(n:Int)).toNat 0 % pd=0) == lt)):=by
 unfold Yw;rw [List.range_succ,List.any_append];simp
def hit_more {cs:J9} {s pd mn_ side:Int} {lt:Bool} {n:Nat}:(Yw cs s pd lt n || (xg mn_ side (n:Int)).any λe=>decide (cs.getD (s+e).toNat 0 % pd=0) == lt)=Yw cs s pd lt (n+wid mn_ side (n:Int)):=by
 unfold Yw xg yZ;rw [List.range_add,List.any_append,List.any_map,List.any_map,List.any_map];congr 1
structure Lv where
 j:Nat
 pd:Int
 most:Int
 num:Int
 qt:Bool
 lk:Nat
 m:Nat
def Lv.lt (v:Lv):Bool:=decide (v.lk<2)
def Lv.look (v:Lv) (p q:Nat):List (Jl):=if v.lk=0 then [[.str "number",.int q,.int 0,.int 0],[.str "op",.int p,.str "=",.int p,.int q,.int 0],[.str "any",.int p,.int 0]]
 else if v.lk=1 then [[.str "other",.int v.m,.int p,.int 0],[.str "any",.int q,.int v.m]] else [[.str "op",.int q,.str "/",.int q,.int p,.int 0],[.str "any",.int q,.int 0]]
def Lv.pre (v:Lv) (p q:Nat):List (Jl):=[[.str "load",.int p,.int v.j,.int 0],[.str "number",.int q,.int v.pd,.int 0],[.str "op",.int p,.str "rest",.int p,.int q,.int 0]]
structure Lv.Ok (v:Lv):Prop where
 p0:0<v.pd
 p6:v.pd<=6
 k3:v.lk<3
 m16:v.m<16
def RowsAt (code:List (Jl)) (pl:Nat) (rs:List (Jl)):Prop:=∀ (i:Nat) tv,rs[i]?=some tv->code[pl+i]?=some tv
def RowsAt.left {code:List (Jl)} {pl:Nat} {a b:List (Jl)} (h:RowsAt code pl (a++b)):RowsAt code pl a:=λi tv e=>h i tv (by rw [q4x (List.getElem?_eq_some_iff.mp e).1];exact e)
def RowsAt.right {code:List (Jl)} {pl:Nat} {a b:List (Jl)} (h:RowsAt code pl (a++b)):RowsAt code (pl+a.length) b:=λi tv e=>by
 rw [Nat.add_assoc];exact h _ tv (by rw [List.getElem?_append_right (by omega),Nat.add_sub_cancel_left];exact e)
section
variable {Lx:Lex} {S LN:J9} {L pl:Nat} {mn_ group b:Int} {M:Mc}
def zb5 {code:List (Jl)} {v:Lv} {p q:Nat} {cs:J9} {T:List Tch} (lx:Lx41 Lx) (vo:v.Ok) (h:StripAt S LN L pl mn_ group b (cs,T) M) (p8:((p:Int)+1)*group<=8) (q8:((q:Int)+1)*group<=8) (ne:p≠q) (hj:v.j<S.length) (b0:0<=b) (ij:0<=S.getD v.j 0/\S.getD v.j 0+mn_<=cs.length)
  (hk:∀ e:Int,b<=e->e<mn_->Kin (cs.getD (S.getD v.j 0+e).toNat 0)) (ht:T.length+wid mn_ (group*L) b<90000) (c0:RowsAt code (pl+1) (v.pre p q)) (c1:RowsAt code (pl+4) (v.look p q)) :
  ∃ n M' T',Steps Lx code n M M'/\InS S LN L pl mn_ group b (4+(v.look p q).length) (cs,T') M'/\M'.raised=(M.raised || (xg mn_ (group*L) b).any λe=>decide (cs.getD (S.getD v.j 0+e).toNat 0 % v.pd=0) == v.lt)/\M'.turns=M.turns/\T'.length=T.length+wid mn_ (group*L) b:=by
 obtain ⟨n,M1,T1,st1,i1,kp1,f1,a1,t1,r1⟩:=look_pre (code:=code) lx h p8 q8 ne hj b0 ij vo.p0 vo.p6 hk ht (c0 0 _ rfl) (c0 1 _ rfl) (c0 2 _ rfl);have ea:M1.act 0=M.act 0:=by rw [a1,h.act]
 have rb:∀ e:Int,0<=cs.getD (S.getD v.j 0+e).toNat 0 % v.pd/\cs.getD (S.getD v.j 0+e).toNat 0 % v.pd<v.pd:=λe=>⟨Int.emod_nonneg _ (by have:=vo.p0;omega),Int.emod_lt_of_pos _ vo.p0⟩;have p0:=vo.p0;have p6:=vo.p6;have k3:=vo.k3;rcases (show v.lk=0∨v.lk=1∨v.lk=2 by omega) with e | e | e
 ·have el:v.look p q=[[.str "number",.int q,.int 0,.int 0],[.str "op",.int p,.str "=",.int p,.int q,.int 0],[.str "any",.int p,.int 0]]:=by unfold Lv.look;rw [if_pos e]
  have et:v.lt=true:=by unfold Lv.lt;rw [e];rfl
  rw [el] at c1 ⊢;obtain ⟨n2,M2,st2,i2,rz,tz⟩:=look_0 (code:=code) (p:=p) (q:=q) (R:=λe=>cs.getD (S.getD v.j 0+e).toNat 0 % v.pd) lx i1 f1 a1 (λx hx=>(r1 x (by rw [← ea];exact hx)).1) (λx _=>by have:=rb (b+x);exact ⟨by omega,by omega⟩) p8 q8 ne (c1 0 _ rfl) (c1 1 _ rfl) (c1 2 _ rfl);refine ⟨_,M2,T1,st1.trans st2,i2,?_,tz.trans kp1.turns,t1⟩;rw [rz,kp1.raised,et];congr 2;funext x;rw [beq_true]
 ·have el:v.look p q=[[.str "other",.int v.m,.int p,.int 0],[.str "any",.int q,.int v.m]]:=by unfold Lv.look;rw [if_neg (by omega),if_pos e]
  have et:v.lt=true:=by unfold Lv.lt;rw [e];rfl
  rw [el] at c1 ⊢;obtain ⟨n2,M2,st2,i2,rz,tz⟩:=look_1 (code:=code) (p:=p) (q:=q) (m:=v.m) (pd:=v.pd) (R:=λe=>cs.getD (S.getD v.j 0+e).toNat 0 % v.pd) lx i1 a1 (λx hx=>r1 x (by rw [← ea];exact hx)) (by omega) p8 q8 vo.m16 (c1 0 _ rfl) (c1 1 _ rfl);refine ⟨_,M2,T1,st1.trans st2,i2,?_,tz.trans kp1.turns,t1⟩;rw [rz,kp1.raised,et];congr 2;funext x;rw [beq_true]
 ·have el:v.look p q=[[.str "op",.int q,.str "/",.int q,.int p,.int 0],[.str "any",.int q,.int 0]]:=by unfold Lv.look;rw [if_neg (by omega),if_neg (by omega)]
  have et:v.lt=false:=by unfold Lv.lt;rw [e];rfl
  rw [el] at c1 ⊢;obtain ⟨n2,M2,st2,i2,rz,tz⟩:=look_2 (code:=code) (p:=p) (q:=q) (pd:=v.pd) (R:=λe=>cs.getD (S.getD v.j 0+e).toNat 0 % v.pd) lx i1 f1 a1 (λx hx=>r1 x (by rw [← ea];exact hx)) rb p6 p8 q8 (c1 0 _ rfl) (c1 1 _ rfl);refine ⟨_,M2,T1,st1.trans st2,i2,?_,tz.trans kp1.turns,t1⟩;rw [rz,kp1.raised,et];congr 2;funext x;rw [beq_false]
theorem zcc {code:List (Jl)} {v:Lv} {p q NS N0:Nat} {cs:J9} {f:Bool} {T:List Tch} {us:List (Int×Int)} (hB:Lx.W "begin" Yy) (hX:Lx.W "next" XV) (lx:Lx41 Lx) (vo:v.Ok) (h:RestAt S LN L pl (cs,T) M) (hx:Ex us f N0 T M) (hg:group=1∨group=2∨group=4) (h1:1<=mn_) (h6:mn_<=6) (p8:((p:Int)+1)*group<=8) (q8:((q:Int)+1)*group<=8) (ne:p≠q) (hj:v.j<S.length) (ij:0<=S.getD v.j 0/\S.getD v.j 0+mn_<=cs.length)
  (hk:∀ e:Int,0<=e->e<mn_->Kin (cs.getD (S.getD v.j 0+e).toNat 0)) (ht:N0<80000) (hN:∀ i:Nat,i<NS↔(i:Int)*(group*L)<mn_)
  (c:RowsAt code pl ([[.str "begin",.int mn_,.int group]]++v.pre p q++v.look p q++[[.str "next"]])) :
  ∃ k M' T',Steps Lx code k M M'/\RestAt S LN L (pl+(5+(v.look p q).length)) (cs,T') M'/\Ex us (f || Yw cs (S.getD v.j 0) v.pd v.lt mn_.toNat) (N0+36) T' M':=by
 have l1:=h.ok.l1;have hL:=h.lq;obtain ⟨side,es⟩:∃ n:Nat,group*(L:Int)=n:=⟨(group*(L:Int)).toNat,by have:0<=group*(L:Int):=Int.mul_nonneg (by omega) (by omega);omega⟩;have hx9:1<=group*(L:Int):=by rcases hg with e | e | e <;> rw [e] <;> omega
 have sd:1<=side:=by omega
 have low:∀ i:Nat,(i:Int)<=i*side:=λi=>by
  have:(i:Int)*1<=i*side:=Int.mul_le_mul_of_nonneg_left (by omega) (by omega);omega
 have N6:NS<=6:=by
  rcases Nat.lt_or_ge 6 NS with z | z
  ·have a:=(hN 6).mp z
   have b:=low 6;rw [es] at a;omega
  ·exact z
 let one:Nat->CF->CF:=λi s=>(s.1,s.2 || (xg mn_ (group*L) ((i:Int)*(group*L))).any λe=>decide (s.1.getD (S.getD v.j 0+e).toNat 0 % v.pd=0) == v.lt)
 have up:∀ i:Nat,i<=NS->upF one (cs,f) i=(cs,f || Yw cs (S.getD v.j 0) v.pd v.lt (min (i*side) mn_.toNat)):=by
  intro i
  induction i with
  | zero=>intro _;rw [Nat.zero_mul,Nat.zero_min];show (cs,f)=(cs,f || false);rw [Bool.or_false]
  | succ i ih =>
   intro hi;have lt:=(hN i).mp (by omega);rw [es] at lt;rw [Zc,ih (by omega)]
   have em:min (i*side) mn_.toNat=i*side:=by
    have:((i*side:Nat):Int)=(i:Int)*side:=Int.natCast_mul _ _;omega
   rw [em];have e2:(i:Int)*(group*L)=((i*side:Nat):Int):=by rw [es];exact (Int.natCast_mul _ _).symm
   show (cs,(f || Yw cs (S.getD v.j 0) v.pd v.lt (i*side)) || (xg mn_ (group*L) ((i:Int)*(group*L))).any λe=>decide (cs.getD (S.getD v.j 0+e).toNat 0 % v.pd=0) == v.lt)=_;rw [e2,Bool.or_assoc,hit_more];congr 3;have:((i*side:Nat):Int)=(i:Int)*side:=Int.natCast_mul _ _;have e3:(i+1)*side=i*side+side:=by rw [Nat.add_mul,Nat.one_mul]
   rw [e3,es];unfold wid;omega
 have c0:=c.left.left.left;have cp:=c.left.left.right;have cl:=c.left.right;have cn:=c.right
 have en:([[V.str "begin",.int mn_,.int group]]++v.pre p q++v.look p q).length=3+(v.look p q).length+1:=by
  rw [Jh];show 4+_=_;omega
 rw [en] at cn
 have key:=Y6 (n:=3+(v.look p q).length) (D:=6) (one:=one) (s:=(cs,f)) (NS:=NS) (us:=us) (N0:=N0) hB hX h hx hg h1 (c0 0 _ rfl) (cn 0 _ rfl) hN (λi T1 M1 hi sa ex=>by
  have lt:=(hN i).mp hi;have ei:=up i (by omega);have e2:(i:Int)*(group*L)=((i*side:Nat):Int):=by rw [es];exact (Int.natCast_mul _ _).symm
  have w6:wid mn_ (group*L) ((i:Int)*(group*L))<=6:=by rw [e2];unfold wid;omega
  have i6:i<6:=by omega
  have exn:=ex.n;rw [ei] at sa ex ⊢
  obtain ⟨k,M2,T2,st,i2,rz,tz,tl⟩:=zb5 (code:=code) (v:=v) (p:=p) (q:=q) lx vo sa p8 q8 ne hj (by rw [e2];omega) ij (λe b0 b1=>by
   rw [e2] at b0;exact hk e (by omega) b1) (by omega) cp cl
  refine ⟨k,M2,T2,st,?_,⟨?_,tz.trans ex.u,?_⟩⟩
  ·rw [show 3+(v.look p q).length+1=4+(v.look p q).length by omega];exact i2
  ·rw [rz,ex.r]
  ·omega)
 obtain ⟨k,M',T',st,rs,ex⟩:=key;rw [up NS (Nat.le_refl _)] at rs ex
 have en:min (NS*side) mn_.toNat=mn_.toNat:=by
  have:¬ (NS:Int)*(group*L)<mn_:=λz=>by have:=(hN NS).mpr z;omega
  rw [es] at this;have e9:((NS*side:Nat):Int)=(NS:Int)*side:=Int.natCast_mul _ _;omega
 rw [en] at ex;refine ⟨k,M',T',st,?_,⟨ex.r,ex.u,by have:=ex.n;omega⟩⟩;rw [show pl+(5+(v.look p q).length)=pl+(3+(v.look p q).length+2) by omega];exact rs
end
abbrev Rf:=Int×Int×Str
def upQ (qt:Bool) (hit:J9->Bool) (s:CF):Bool:=(if qt=true then false else s.2) || hit s.1
def Yd (add:J9->J9) (hit:J9->Bool) (qt:Bool) (rf:Rf) (inner:CF->CF×Option Rf):Nat->CF->CF×Option Rf
 | 0,s=>(s,some rf)
 | n+1,s=>match (inner (add s.1,s.2)).2 with
  | some x=>((inner (add s.1,s.2)).1,some x)
  | none=>if upQ qt hit (inner (add s.1,s.2)).1=true then (((inner (add s.1,s.2)).1.1,true),none) else Yd add hit qt rf inner n ((inner (add s.1,s.2)).1.1,false)
section
variable {add:J9->J9} {hit:J9->Bool} {qt:Bool} {rf:Rf} {inner:CF->CF×Option Rf} {n:Nat} {s:CF}
def ZR {x:Rf} (h:(inner (add s.1,s.2)).2=some x):Yd add hit qt rf inner (n+1) s=((inner (add s.1,s.2)).1,some x):=by
 show (match (inner (add s.1,s.2)).2 with | some x=>_ | none=>_)=_;rw [h]
def ZT (h:(inner (add s.1,s.2)).2=none):Yd add hit qt rf inner (n+1) s=if upQ qt hit (inner (add s.1,s.2)).1=true then (((inner (add s.1,s.2)).1.1,true),none) else Yd add hit qt rf inner n ((inner (add s.1,s.2)).1.1,false):=by
 show (match (inner (add s.1,s.2)).2 with | some x=>_ | none=>_)=_;rw [h]
theorem Xl (R:J9->J9->Prop) (rr:∀ a,R a a) (rt:∀ a b c,R a b->R b c->R a c) (ha:∀ cs,R cs (add cs)) (hi:∀ s,R s.1 (inner s).1.1) (n:Nat):∀ s,R s.1 (Yd add hit qt rf inner n s).1.1:=by
 induction n with
 | zero=>intro s;exact rr _
 | succ n ih =>
  intro s;have a:=rt _ _ _ (ha s.1) (hi (add s.1,s.2))
  cases e:(inner (add s.1,s.2)).2 with
  | some x=>rw [ZR e];exact a
  | none =>
   rw [ZT e]
   split
   ·exact a
   ·exact rt _ _ _ a (ih ((inner (add s.1,s.2)).1.1,false))
end
def Lv.add (S LN:J9) (v:Lv) (cs:J9):J9:=yl cs (S.getD v.j 0) (LN.getD v.j 0).toNat
def Lv.hit (S LN:J9) (v:Lv) (cs:J9):Bool:=Yw cs (S.getD v.j 0) v.pd v.lt (LN.getD v.j 0).toNat
def zJ (S LN:J9):List Lv->CF->CF×Option Rf
 | [],s=>(s,none)
 | v::ls,s=>Yd (v.add S LN) (v.hit S LN) v.qt (v.num,v.most,"endless") (zJ S LN ls) v.most.toNat s
def Lv.addC (LN:J9) (g:Int) (p q:Nat) (v:Lv):List (Jl):=[[.str "begin",.int (LN.getD v.j 0),.int g],[.str "load",.int p,.int v.j,.int 0],[.str "number",.int q,.int 1,.int 0],[.str "op",.int p,.str "+",.int q,.int p,.int 0],[.str "store",.int v.j,.int p,.int 0],[.str "next"]]
def Lv.lookC (LN:J9) (g:Int) (p q:Nat) (v:Lv):List (Jl):=[[.str "begin",.int (LN.getD v.j 0),.int g]]++v.pre p q++v.look p q++[[.str "next"]]
def zU (LN:J9) (g:Int) (p q:Nat):List Lv->List (Jl)
 | []=>[]
 | v::ls=>[[.str "turns"]]++v.addC LN g p q++zU LN g p q ls++(if v.qt=true then [[.str "quiet"]] else [])++v.lookC LN g p q++[[.str "till",.int v.most,.int v.num]]
structure VOk (S LN:J9) (n:Nat) (v:Lv):Prop where
 ok:v.Ok
 m1:1<=v.most
 hj:v.j<S.length
 n1:1<=LN.getD v.j 0
 n6:LN.getD v.j 0<=6
 s0:0<=S.getD v.j 0
 s1:S.getD v.j 0+LN.getD v.j 0<=n
 mb:v.lk<2∨v.most<=4
def Xu:Nat->Nat
 | 0=>0
 | d+1=>6*(108+Xu d)
def addTo_lo {cs:J9} {s:Int} {n x:Nat} (s0:0<=s) (h:(x:Int)<s):(yl cs s n).getD x 0=cs.getD x 0:=by
 refine ZN _ _ _ λp hp=>?_;obtain ⟨i,hi,rfl⟩:=List.mem_map.mp hp;show (s+(i:Int)).toNat≠_;omega
def ZW (cs:J9) (s:Int) (n:Nat):yl cs s (n+1)=(yl cs s n).set (s+n).toNat (1+cs.getD (s+n).toNat 0):=by
 unfold yl;rw [List.range_succ,Ji,YZ];rfl
def zcy (cs:J9) (s:Int):yl cs s 0=cs:=rfl
theorem addTo_in {cs:J9} {s:Int} (s0:0<=s):∀ (n e:Nat),e<n->s+n<=cs.length->(yl cs s n).getD (s+e).toNat 0=1+cs.getD (s+e).toNat 0:=by
 intro n
 induction n with
 | zero=>intro e h;omega
 | succ n ih =>
  intro e h hl;rw [ZW];by_cases z:e=n
  ·rw [z,q1x,q3z (by rw [xn];omega)];rfl
  ·rw [q1x,List.getElem?_set_ne (by omega),← q1x]
   exact ih e (by omega) (by omega)
theorem addTo_bd {cs:J9} {s:Int} {B:Int} (h:∀ i:Nat,-B<=cs.getD i 0/\cs.getD i 0<=B) (b0:0<=B):∀ (n i:Nat),-(B+1)<=(yl cs s n).getD i 0/\(yl cs s n).getD i 0<=B+1:=by
 intro n
 induction n with
 | zero=>intro i;have:=h i;rw [zcy];omega
 | succ n ih =>
  intro i;rw [ZW,q1x,List.getElem?_set]
  split
  ·split
   ·have:=h (s+n).toNat
    show -(B+1)<=1+cs.getD (s+n).toNat 0/\1+cs.getD (s+n).toNat 0<=B+1;omega
   ·show -(B+1)<=(0:Int)/\(0:Int)<=B+1
    omega
  ·rw [← q1x];exact ih i
theorem Yr {S LN:J9}:∀ (ls:List Lv) (s:CF),(zJ S LN ls s).1.1.length=s.1.length
 | [],_=>rfl
 | v::ls,s=>(Xl (λa b=>b.length=a.length) (λ_=>rfl) (λ_ _ _ h1 h2=>h2.trans h1) (λ_=>xn _ _ _) (λs=>Yr ls s) _ s)
theorem zbg {S LN:J9} {x:Nat}:∀ (ls:List Lv) (s:CF),(∀ v∈ls,0<=S.getD v.j 0/\(x:Int)<S.getD v.j 0)->(zJ S LN ls s).1.1.getD x 0=s.1.getD x 0
 | [],_,_=>rfl
 | v::ls,s,h=>(Xl (λa b=>b.getD x 0=a.getD x 0) (λ_=>rfl) (λ_ _ _ h1 h2=>h2.trans h1) (λ_=>addTo_lo (h v q1z).1 (h v q1z).2) (λs=>zbg ls s λu hu=>h u (q1y _ hu)) _ s)
structure At41 (S LN:J9) (L n:Nat) (pl:Nat) (us:List (Int×Int)) (N:Nat) (s:CF) (T:List Tch) (M:Mc):Prop where
 r:RestAt S LN L pl (s.1,T) M
 x:Ex us s.2 N T M
 b:∀ i:Nat,-(1000000000000000+(N:Int))<=s.1.getD i 0/\s.1.getD i 0<=1000000000000000+(N:Int)
 l:s.1.length=n
def Res41 (S LN:J9) (L n:Nat) (pl:Nat) (us:List (Int×Int)) (N:Nat) (r:CF×Option Rf) (T:List Tch) (M:Mc):Prop:=match r.2 with
 | none=>At41 S LN L n pl us N r.1 T M
 | some x=>M.rq_=some x/\M.cells=r.1.1
structure Ly41 (Lx:Lex):Prop where
 x:Lx41 Lx
 bg:Lx.W "begin" Yy
 nx:Lx.W "next" XV
 tu:Lx.W "turns" turnsW
 qu:Lx.W "quiet" quietW
 ti:Lx.W "till" tillW
section
variable {Lx:Lex} {S LN:J9} {L n pl N:Nat} {us:List (Int×Int)} {s:CF} {T:List Tch} {M:Mc} {code:List (Jl)}
def At41.mono {N':Nat} (h:At41 S LN L n pl us N s T M) (hN:N<=N'):At41 S LN L n pl us N' s T M:=⟨h.r,⟨h.x.r,h.x.u,Nat.le_trans h.x.n hN⟩,λi=>by have:=h.b i;omega,h.l⟩
theorem Res41.mono {N':Nat} {r:CF×Option Rf} (h:Res41 S LN L n pl us N r T M) (hN:N<=N'):Res41 S LN L n pl us N' r T M:=by
 unfold Res41 at h ⊢
 cases e:r.2 with
 | none=>rw [e] at h;exact At41.mono h hN
 | some x=>rw [e] at h;exact h
def At41.one {tv:Jl} {M':Mc} (h:At41 S LN L n pl us N s T M) (c:code[pl]?=some tv) (st:Step Lx tv M M'):Steps Lx code 1 M M' :=
 .cons (by rw [h.r.pc];omega) h.r.rf (by rw [h.r.pc,q0z];exact c) st .refl
def At41.turns (h:At41 S LN L n pl us N s T M) (ly:Ly41 Lx) (hu:us.length<1000) (c:code[pl]?=some [.str "turns"]):∃ M',Steps Lx code 1 M M'/\At41 S LN L n (pl+1) (us++[((pl:Int),0)]) N s T M':=by
 have st:Step Lx [.str "turns"] M { ({ M with turns:=M.turns++[(M.pc,0)] }:Mc) with pc:=M.pc+1 }:=Step.way (L:=Lx) (word:="turns") ly.tu rfl ⟨by rw [h.x.u];exact hu,rfl,rfl⟩;exact ⟨_,h.one c st,⟨⟨h.r.ok.l1,h.r.ok.l64,h.r.ok.nl,h.r.ok.ml,h.r.ok.mm⟩,h.r.lq,h.r.rf,h.r.starts,h.r.lens,by show M.pc+1=_;rw [h.r.pc];omega,h.r.cells,h.r.tq⟩,⟨h.x.r,by show M.turns++[(M.pc,0)]=_;rw [h.x.u,h.r.pc],h.x.n⟩,h.b,h.l⟩
theorem At41.quiet {qt:Bool} (h:At41 S LN L n pl us N s T M) (ly:Ly41 Lx) (c:RowsAt code pl (if qt=true then [[.str "quiet"]] else [])):∃ k M',Steps Lx code k M M'/\At41 S LN L n (pl+(if qt=true then [[V.str "quiet"]] else []).length) us N (s.1,if qt=true then false else s.2) T M':=by
 cases qt with
 | false=>exact ⟨0,M,.refl,h⟩
 | true =>
  have st:Step Lx [.str "quiet"] M { ({ M with raised:=false }:Mc) with pc:=M.pc+1 }:=Step.way (L:=Lx) (word:="quiet") ly.qu rfl ⟨rfl,rfl⟩;exact ⟨1,_,h.one (c 0 _ rfl) st,⟨⟨h.r.ok.l1,h.r.ok.l64,h.r.ok.nl,h.r.ok.ml,h.r.ok.mm⟩,h.r.lq,h.r.rf,h.r.starts,h.r.lens,by show M.pc+1=_;rw [h.r.pc];rfl,h.r.cells,h.r.tq⟩,⟨rfl,h.x.u,h.x.n⟩,h.b,h.l⟩
theorem At41.till {st0 cnt most num:Int} {p0:Nat} (h:At41 S LN L n pl (us++[((p0:Int),cnt)]) N s T M) (ly:Ly41 Lx) (hu:us.length<1000) (c:code[pl]?=some [.str "till",.int most,.int num]) :
  ∃ M',Steps Lx code 1 M M'/\if s.2=true then At41 S LN L n (pl+1) us N s T M' else if most<=cnt+1 then M'.rq_=some (num,most,("endless":Str))/\M'.cells=s.1 else At41 S LN L n (p0+1) (us++[((p0:Int),cnt+1)]) N s T M':=by
 cases e:s.2 with
 | true =>
  have st:Step Lx [.str "till",.int most,.int num] M { ({ M with turns:=us }:Mc) with pc:=M.pc+1 }:=Step.way (L:=Lx) (word:="till") ly.ti rfl ⟨most,num,p0,cnt,us,rfl,rfl,h.x.u,hu,by rw [h.x.r,e,if_pos rfl];exact ⟨rfl,rfl⟩⟩;refine ⟨_,h.one c st,?_⟩;rw [if_pos rfl];exact ⟨⟨⟨h.r.ok.l1,h.r.ok.l64,h.r.ok.nl,h.r.ok.ml,h.r.ok.mm⟩,h.r.lq,h.r.rf,h.r.starts,h.r.lens,by show M.pc+1=_;rw [h.r.pc];omega,h.r.cells,h.r.tq⟩,⟨h.x.r,rfl,h.x.n⟩,h.b,h.l⟩
 | false =>
  have st:Step Lx [.str "till",.int most,.int num] M { ({ M with turns:=us++[((p0:Int),cnt+1)],rq_:=if most<=cnt+1 then some (num,most,("endless":Str)) else M.rq_ }:Mc) with pc:=(p0:Int)+1 }:=Step.way (L:=Lx) (word:="till") ly.ti rfl ⟨most,num,p0,cnt,us,rfl,rfl,h.x.u,hu,by rw [h.x.r,e,if_neg Bool.noConfusion];exact ⟨rfl,rfl⟩⟩;refine ⟨_,h.one c st,?_⟩;rw [if_neg Bool.noConfusion]
  split
  ·rename_i z
   exact ⟨rfl,h.r.cells⟩
  ·rename_i z
   exact ⟨⟨⟨h.r.ok.l1,h.r.ok.l64,h.r.ok.nl,h.r.ok.ml,h.r.ok.mm⟩,h.r.lq,h.r.rf,h.r.starts,h.r.lens,rfl,h.r.cells,h.r.tq⟩,⟨h.x.r,rfl,h.x.n⟩,h.b,h.l⟩
def At41.add {v:Lv} {g:Int} {p q:Nat} (h:At41 S LN L n pl us N s T M) (ly:Ly41 Lx) (vo:VOk S LN n v) (hg:g=1∨g=2∨g=4) (p8:((p:Int)+1)*g<=8) (q8:((q:Int)+1)*g<=8) (ne:p≠q) (ht:N<80000) (c:RowsAt code pl (v.addC LN g p q)) :
  ∃ k M' T',Steps Lx code k M M'/\At41 S LN L n (pl+6) us (N+72) (v.add S LN s.1,s.2) T' M':=by
 have l1:=h.r.ok.l1;have hL:=h.r.lq;have n1:=vo.n1;have n6:=vo.n6;have s1:=vo.s1;have s0:=vo.s0;have sd:1<=g*(L:Int):=by rcases hg with e | e | e <;> rw [e] <;> omega
 obtain ⟨NS,_,hN⟩:=za6 n1 sd;have kb:∀ i:Nat,Kin (s.1.getD i 0)/\Kin (1+s.1.getD i 0):=λi=>by have:=h.b i;exact ⟨⟨by omega,by omega⟩,by omega,by omega⟩
 obtain ⟨k,M',T',st,rs,ex⟩:=round_add (code:=code) (j:=v.j) (p:=p) (q:=q) (NS:=NS) (N0:=N) (cs:=s.1) (f:=s.2) ly.bg ly.nx ly.x h.r h.x hg n1 n6 p8 q8 ne vo.hj ⟨s0,by rw [h.l];exact s1⟩ (λe _ _=>kb _) ht hN (c 0 _ rfl) (c 1 _ rfl) (c 2 _ rfl) (c 3 _ rfl) (c 4 _ rfl) (c 5 _ rfl);refine ⟨k,M',T',st,rs,ex,λi=>?_,(xn _ _ _).trans h.l⟩;have:=addTo_bd (s:=S.getD v.j 0) h.b (by omega) (LN.getD v.j 0).toNat i;show _<=(yl s.1 (S.getD v.j 0) (LN.getD v.j 0).toNat).getD i 0/\(yl s.1 (S.getD v.j 0) (LN.getD v.j 0).toNat).getD i 0<=_;omega
def At41.look {v:Lv} {g:Int} {p q:Nat} (h:At41 S LN L n pl us N s T M) (ly:Ly41 Lx) (vo:VOk S LN n v) (hg:g=1∨g=2∨g=4) (p8:((p:Int)+1)*g<=8) (q8:((q:Int)+1)*g<=8) (ne:p≠q) (ht:N<80000) (c:RowsAt code pl (v.lookC LN g p q)) :
  ∃ k M' T',Steps Lx code k M M'/\At41 S LN L n (pl+(v.lookC LN g p q).length) us (N+36) (s.1,s.2 || v.hit S LN s.1) T' M':=by
 have l1:=h.r.ok.l1;have hL:=h.r.lq;have n1:=vo.n1;have n6:=vo.n6;have s1:=vo.s1;have s0:=vo.s0;have sd:1<=g*(L:Int):=by rcases hg with e | e | e <;> rw [e] <;> omega
 obtain ⟨NS,_,hN⟩:=za6 n1 sd;obtain ⟨k,M',T',st,rs,ex⟩:=zcc (code:=code) (v:=v) (p:=p) (q:=q) (NS:=NS) (N0:=N) (cs:=s.1) (f:=s.2) ly.bg ly.nx ly.x vo.ok h.r h.x hg n1 n6 p8 q8 ne vo.hj ⟨s0,by rw [h.l];exact s1⟩ (λe _ _=>by have:=h.b (S.getD v.j 0+e).toNat;exact ⟨by omega,by omega⟩) ht hN c
 have el:(v.lookC LN g p q).length=5+(v.look p q).length:=by
  unfold Lv.lookC;rw [Jh,Jh];show 4+_+1=_;omega
 rw [el];exact ⟨k,M',T',st,rs,ex,λi=>by have:=h.b i;show _<=s.1.getD i 0/\s.1.getD i 0<=_;omega,h.l⟩
end
section
variable {Lx:Lex} {S LN:J9} {L n:Nat} {code:List (Jl)}
def Res41.up {pl N:Nat} {us:List (Int×Int)} {r:CF×Option Rf} {s:CF} {T:List Tch} {M:Mc} (e:r=(s,none)) (h:At41 S LN L n pl us N s T M):Res41 S LN L n pl us N r T M:=by rw [e];exact h
def Res41.rf {pl N:Nat} {us:List (Int×Int)} {r:CF×Option Rf} {s:CF} {x:Rf} {T:List Tch} {M:Mc} (e:r=(s,some x)) (h:M.rq_=some x/\M.cells=s.1):Res41 S LN L n pl us N r T M:=by rw [e];exact h
theorem loop41 {v:Lv} {ls:List Lv} {g:Int} {p q a ql ll pl C:Nat} {us:List (Int×Int)} (ly:Ly41 Lx) (hg:g=1∨g=2∨g=4) (p8:((p:Int)+1)*g<=8) (q8:((q:Int)+1)*g<=8) (ne:p≠q) (vo:VOk S LN n v) (hu:us.length<990)
  (c1:RowsAt code (pl+1) (v.addC LN g p q)) (c3:RowsAt code (pl+7+a) (if v.qt=true then [[.str "quiet"]] else [])) (eq:ql=(if v.qt=true then [[V.str "quiet"]] else []).length) (c4:RowsAt code (pl+7+a+ql) (v.lookC LN g p q)) (el:ll=(v.lookC LN g p q).length) (c5:code[pl+7+a+ql+ll]?=some [.str "till",.int v.most,.int v.num])
  (hin:∀ us' N s T M,us'.length<=us.length+1->At41 S LN L n (pl+7) us' N s T M->N+C<=70000->∃ k M' T',Steps Lx code k M M'/\Res41 S LN L n (pl+7+a) us' (N+C) (zJ S LN ls s) T' M')
  (hlo:∀ s:CF,(zJ S LN ls s).1.1.getD (S.getD v.j 0).toNat 0=s.1.getD (S.getD v.j 0).toNat 0) :
  ∀ (d m:Nat) (cnt:Int) (s:CF) (T:List Tch) (M:Mc) (N:Nat),1<=m->(m:Int)+cnt=v.most->0<=cnt->At41 S LN L n (pl+1) (us++[((pl:Int),cnt)]) N s T M->(m<=d∨(v.lt=true/\∃ i:Nat,1<=i/\i<=d/\(s.1.getD (S.getD v.j 0).toNat 0+i) % v.pd=0))->N+d*(108+C)<=70000 ->
   ∃ k M' T',Steps Lx code k M M'/\Res41 S LN L n (pl+7+a+ql+ll+1) us (N+d*(108+C)) (Yd (v.add S LN) (v.hit S LN) v.qt (v.num,v.most,"endless") (zJ S LN ls) m s) T' M':=by
 intro d
 induction d with
 | zero =>
  intro m cnt s T M N m1 _ _ _ hb _;exfalso;rcases hb with z | ⟨_,i,i1,i2,_⟩ <;> omega
 | succ d ih =>
  intro m cnt s T M N m1 hm c0 h hb hN;obtain ⟨m,rfl⟩:∃ k,m=k+1:=⟨m-1,by omega⟩;have dm:(d+1)*(108+C)=d*(108+C)+(108+C):=by rw [Nat.add_mul,Nat.one_mul]
  rw [dm] at hN ⊢;obtain ⟨k1,M1,T1,st1,h1⟩:=h.add ly vo hg p8 q8 ne (by omega) c1;obtain ⟨k2,M2,T2,st2,h2⟩:=hin (us++[((pl:Int),cnt)]) (N+72) (v.add S LN s.1,s.2) T1 M1 (by rw [Jh];exact Nat.le_refl _) h1 (by omega);have lo:=hlo (v.add S LN s.1,s.2)
  have in0:(v.add S LN s.1).getD (S.getD v.j 0).toNat 0=1+s.1.getD (S.getD v.j 0).toNat 0:=by
   have n1:=vo.n1;have:=addTo_in (cs:=s.1) vo.s0 (LN.getD v.j 0).toNat 0 (by omega) (by have:=vo.s1;rw [h.l];omega);rw [show S.getD v.j 0+((0:Nat):Int)=S.getD v.j 0 by omega] at this;exact this
  cases e:(zJ S LN ls (v.add S LN s.1,s.2)).2 with
  | some x =>
   rw [ZR e];unfold Res41 at h2;rw [e] at h2;exact ⟨_,M2,T2,st1.trans st2,h2⟩
  | none =>
   unfold Res41 at h2;rw [e] at h2;obtain ⟨k3,M3,st3,h3⟩:=At41.quiet h2 ly c3;rw [← eq] at h3;obtain ⟨k4,M4,T4,st4,h4⟩:=h3.look ly vo hg p8 q8 ne (by omega) c4;rw [← el] at h4;obtain ⟨M5,st5,h5⟩:=h4.till (st0:=0) ly (by omega) c5;have st:=(((st1.trans st2).trans st3).trans st4).trans st5;have eu:((if v.qt=true then false else (zJ S LN ls (v.add S LN s.1,s.2)).1.2) || v.hit S LN (zJ S LN ls (v.add S LN s.1,s.2)).1.1)=upQ v.qt (v.hit S LN) (zJ S LN ls (v.add S LN s.1,s.2)).1:=rfl;rw [ZT e];simp only [eu] at h5
   cases f:upQ v.qt (v.hit S LN) (zJ S LN ls (v.add S LN s.1,s.2)).1 with
   | true =>
    rw [f,if_pos rfl] at h5;rw [if_pos rfl];exact ⟨_,M5,T4,st,Res41.up rfl (h5.mono (by omega))⟩
   | false =>
    rw [f,if_neg Bool.noConfusion] at h5;rw [if_neg Bool.noConfusion]
    have nh:v.hit S LN (zJ S LN ls (v.add S LN s.1,s.2)).1.1=false:=by
     unfold upQ at f;exact (Bool.or_eq_false_iff.mp f).2
    cases m with
    | zero =>
     rw [if_pos (by omega)] at h5;exact ⟨_,M5,T4,st,Res41.rf rfl h5⟩
    | succ m =>
     rw [if_neg (by omega)] at h5
     obtain ⟨k6,M6,T6,st6,h6⟩:=ih (m+1) (cnt+1) _ T4 M5 _ (by omega) (by omega) (by omega) h5 (by
      rcases hb with z | ⟨z,i,i1,i2,i3⟩
      ·left;omega
      ·right
       refine ⟨z,?_⟩;show ∃ i:Nat,1<=i/\i<=d/\((zJ S LN ls (v.add S LN s.1,s.2)).1.1.getD (S.getD v.j 0).toNat 0+(i:Int)) % v.pd=0;rw [lo];show ∃ i:Nat,1<=i/\i<=d/\((v.add S LN s.1).getD (S.getD v.j 0).toNat 0+(i:Int)) % v.pd=0;rw [in0]
       have i2':i≠1:=λy=>by
        have z0:¬ (((zJ S LN ls (v.add S LN s.1,s.2)).1.1.getD (S.getD v.j 0).toNat 0) % v.pd=0):=λw=>by
         have:v.hit S LN (zJ S LN ls (v.add S LN s.1,s.2)).1.1=true:=by
          unfold Lv.hit Yw;refine List.any_eq_true.mpr ⟨0,List.mem_range.mpr (by have:=vo.n1;omega),?_⟩;show (decide ((zJ S LN ls (v.add S LN s.1,s.2)).1.1.getD (S.getD v.j 0+0).toNat 0 % v.pd=0) == v.lt)=true;rw [z,Int.add_zero,decide_eq_true w];rfl
         rw [nh] at this;cases this
        rw [lo] at z0;refine z0 ?_;show (v.add S LN s.1).getD (S.getD v.j 0).toNat 0 % v.pd=0;rw [y] at i3;rw [in0,Int.add_comm];exact i3
       refine ⟨i-1,by omega,by omega,?_⟩;have e9:1+s.1.getD (S.getD v.j 0).toNat 0+((i-1:Nat):Int)=s.1.getD (S.getD v.j 0).toNat 0+i:=by omega
       rw [e9];exact i3) (by omega)
     refine ⟨_,M6,T6,st.trans st6,h6.mono (by omega)⟩
theorem levels {g:Int} {p q:Nat} (ly:Ly41 Lx) (hg:g=1∨g=2∨g=4) (p8:((p:Int)+1)*g<=8) (q8:((q:Int)+1)*g<=8) (ne:p≠q):∀ (ls:List Lv) (pl:Nat) (us:List (Int×Int)) (N:Nat) (s:CF) (T:List Tch) (M:Mc),(∀ v∈ls,VOk S LN n v)->ls.Pairwise (λa b=>S.getD a.j 0+LN.getD a.j 0<=S.getD b.j 0)->us.length+ls.length<990->RowsAt code pl (zU LN g p q ls)->At41 S LN L n pl us N s T M->N+Xu ls.length<=70000 ->
  ∃ k M' T',Steps Lx code k M M'/\Res41 S LN L n (pl+(zU LN g p q ls).length) us (N+Xu ls.length) (zJ S LN ls s) T' M'
 | [],pl,us,N,s,T,M,_,_,_,_,h,_=>⟨0,M,T,.refl,Res41.up rfl h⟩
 | v::ls,pl,us,N,s,T,M,hv,ap,hu,c,h,hN=>by
  have hu':us.length+(ls.length+1)<990:=hu;have vo:=hv v q1z;obtain ⟨ap1,ap2⟩:=List.pairwise_cons.mp ap;have cc:RowsAt code pl ([[.str "turns"]]++v.addC LN g p q++zU LN g p q ls++(if v.qt=true then [[.str "quiet"]] else [])++v.lookC LN g p q++[[.str "till",.int v.most,.int v.num]]):=c;obtain ⟨M1,st1,h1⟩:=h.turns ly (by omega) (cc.left.left.left.left.left 0 _ rfl);have a1:=cc.left.left.left.left.right;have a2:=cc.left.left.left.right;have a3:=cc.left.left.right;have a4:=cc.left.right;have a5:=cc.right 0 _ rfl;rw [show ([[V.str "turns"]]++v.addC LN g p q).length=7 from rfl] at a2;rw [Jh,show ([[V.str "turns"]]++v.addC LN g p q).length=7 from rfl,← Nat.add_assoc] at a3;rw [Jh,Jh,show ([[V.str "turns"]]++v.addC LN g p q).length=7 from rfl,← Nat.add_assoc,← Nat.add_assoc] at a4;rw [Jh,Jh,Jh,show ([[V.str "turns"]]++v.addC LN g p q).length=7 from rfl,← Nat.add_assoc,← Nat.add_assoc,← Nat.add_assoc] at a5
  have el:(zU LN g p q (v::ls)).length=7+(zU LN g p q ls).length+(if v.qt=true then [[V.str "quiet"]] else []).length+(v.lookC LN g p q).length+1:=by
   show ([[V.str "turns"]]++v.addC LN g p q++zU LN g p q ls++(if v.qt=true then [[V.str "quiet"]] else [])++v.lookC LN g p q++[[V.str "till",V.int v.most,V.int v.num]]).length=_;rw [Jh,Jh,Jh,Jh];rfl
  have ec:Xu (v::ls).length=6*(108+Xu ls.length):=rfl;rw [ec] at hN ⊢;rw [el];have m1:=vo.m1;have p0:=vo.ok.p0;have p6:=vo.ok.p6
  obtain ⟨k,M',T',st,r⟩:=loop41 (code:=code) (C:=Xu ls.length) ly hg p8 q8 ne vo (by omega) a1 a3 rfl a4 rfl a5 (λus' N' s' T' M' hu2 h' hN'=>by
    exact levels ly hg p8 q8 ne ls (pl+7) us' N' s' T' M' (λu hu=>hv u (q1y _ hu)) ap2 (by omega) a2 h' hN') (λs=>zbg ls s λu hu=>by
    have w:=hv u (q1y _ hu);have w2:=ap1 u hu;have:=vo.n1
    exact ⟨w.s0,by have:=vo.s0;omega⟩) 6 v.most.toNat 0 s T M1 N (by omega) (by omega) (by omega) h1 (by
    rcases vo.mb with z | z
    ·right
     refine ⟨decide_eq_true z,(v.pd-s.1.getD (S.getD v.j 0).toNat 0 % v.pd).toNat,?_⟩;have a:=Int.emod_nonneg (s.1.getD (S.getD v.j 0).toNat 0) (show v.pd≠0 by omega);have b:=Int.emod_lt_of_pos (s.1.getD (S.getD v.j 0).toNat 0) p0;refine ⟨by omega,by omega,?_⟩;rw [Int.toNat_of_nonneg (by omega)];have d:=Int.emod_add_mul_ediv (s.1.getD (S.getD v.j 0).toNat 0) v.pd;refine Int.emod_eq_zero_of_dvd ⟨s.1.getD (S.getD v.j 0).toNat 0 / v.pd+1,?_⟩;rw [Int.mul_add,Int.mul_one];omega
    ·left;omega) hN
  refine ⟨_,M',T',st1.trans st,?_⟩;rw [show pl+(7+(zU LN g p q ls).length+(if v.qt=true then [[V.str "quiet"]] else []).length+(v.lookC LN g p q).length+1)=pl+7+(zU LN g p q ls).length+(if v.qt=true then [[V.str "quiet"]] else []).length+(v.lookC LN g p q).length+1 by omega];exact r
end
def lvT (v:Lv):Jl:=[.int v.j,.int v.pd,.int v.most,.int v.num,.bl v.qt,.int v.lk,.int v.m]
structure LvG (j:Nat) (v:Lv):Prop where
 ok:v.Ok
 ej:v.j=j
 m1:1<=v.most
 mb:v.lk<2∨v.most<=4
def sz (n:Nat) (h:n<=1000:=by decide):n<=sizeLine:=Nat.le_trans h (by decide)
theorem xy {B:Hp} {t:Ad} {tv:Jl} (e:B t=some (.tup tv)):CodeAt B [t] [tv]:=⟨rfl,λi b v hx hy=>by
 match i,hx,hy with
 | 0,hx,hy=>cases hx;cases hy;exact e
 | i+1,hx,hy=>cases hx⟩
def CodeAt.same {B B':Hp} {cs:Je} {code:List (Jl)} (h:CodeAt B cs code) (s:Same B B'):CodeAt B' cs code:=⟨h.n,λi a tv x y=>s _ _ (h.t i a tv x y)⟩
def zQ {B:Hp} {t:Ad} {tv:Jl} {cs:Je} {code:List (Jl)} (e:B t=some (.tup tv)) (h:CodeAt B cs code):CodeAt B (t::cs) (tv::code):=yR (xy e) h
def Xv {B:Hp}:CodeAt B [] []:=⟨rfl,λi a tv x=>by cases x⟩
inductive spLevel (K:Fg) (vs:Jl) (H:Hp) (Q:VK) (_:XK):Prop
 | mk (a:Ad) (ns:J9) (j:Nat) (deep:Int) (_:vs=[.ref a,.int j,.int deep]) (_:SqL K H a (ns.map V.int)) (_:j<=100) (_:1<=deep) (_:deep<=3) (_:∀ H' t v,Same H H'->H' t=some (.tup (lvT v))->LvG j v->Q (.ref t) H')
def ok_level (d:zk K mg "_law_level" Zy ["_law_script","_law_j","_law_deep"]) (SM:Ok P w K mg base CX0 2 "_law_some" ["_law_script","_law_k","_law_salt","_law_many"] (spSome K)):Ok P w K mg base CX0 3 "_law_level" ["_law_script","_law_j","_law_deep"] (spLevel K):=by
 obtain ⟨g,fd,m,F,b⟩:=d;refine ⟨g,fd,m,F.kp,b,F.ok sc_l_level (by rintro vs H Q E ⟨_,_,_,_,e,_⟩;rw [e];rfl) λcdv A outer s H vs Q E hr h=>?_⟩;obtain ⟨a,ns,j,deep,rfl,hS,hj,d1,d3,k⟩:=h;have nd:=sc_l_level.nd;have hr2:=hr;refine ⟨_,(zd (zv (i:=3) nd rfl (Or.inl rfl) (zi zB zc (zH SM hr2 (by rfl) zt (zb (pv 0) (zb (zi zB zc (pv 1)) (zb zc (zb (zq zO (yk (zb zc (zb zc (zb zc ze)))) (zi Zo (pv 2) zc) (λ_ _=>rfl)) ze)))))))
   (zd (zv (i:=4) nd rfl (Or.inl rfl) (zi zB zc (zH SM hr2 (by rfl) zt (zb (pv 0) (zb (zi zB zc (pv 1)) (zb zc (zb zc ze)))))))
   (zd (zv (i:=5) nd rfl (Or.inl rfl) (zH SM hr2 (by rfl) zt (zb (pv 0) (zb (zi zB zc (pv 1)) (zb zc (zb zc ze))))))
   (zd (xb (zZ (Y7 (zK Xg (pv 5) zc (zG _)) (Z8 (zK xf (zH SM hr2 (by rfl) zt (zb (pv 0) (zb (zi zB zc (pv 1)) (zb zc (zb zc ze))))) zc (zG _)))).pt (zf (zv (i:=4) nd rfl (Or.inl rfl) (zi zB zc (zH SM hr2 (by rfl) zt (zb (pv 0) (zb (zi zB zc (pv 1)) (zb zc (zb zc ze)))))))) zE))
   (zd (xb (zv (i:=6) nd rfl (Or.inl rfl) (pe_or (yV op_gt (zH SM hr2 (by rfl) zt (zb (pv 0) (zb zc (zb zc (zb zc ze))))) zc (zG _)) (zaq (yV op_ne (zH SM hr2 (by rfl) zt (zb (pv 0) (zb zc (zb zc (zb zc ze))))) (pv 1) (zG _))))))
   (zf (zo (zM (zb (pv 1) (zb (pv 3) (zb (pv 4) (zb (zH SM hr2 (by rfl) zt (zb (pv 0) (zb (zi zB zc (pv 1)) (zb zc (zb zc ze))))) (zb (pv 6) (zb (pv 5) (zb (zi zB zc (zH SM hr2 (by rfl) zt (zb (pv 0) (zb (zi zB zc (pv 1)) (zb zc (zb zc ze)))))) ze))))))))))))))),?_⟩
 dsimp only [ym,Cx.nox,Cx.wish];refine ⟨_,rfl,_,rfl,_,_,rfl,rfl,(sz 3),λl nl=>?_⟩;generalize hX:upd _ _ _=H1;obtain ⟨s1,e1⟩:=ye hX nl;clear hX
 have hm:([6,4,3]:J9).getD (deep-1).toNat 0<=6/\0<([6,4,3]:J9).getD (deep-1).toNat 0:=by
  have:deep=1∨deep=2∨deep=3:=by omega
  rcases this with rfl | rfl | rfl <;> decide
 replace hS:=zw hS s1;refine ⟨_,rfl,_,_,rfl,rfl,l,([6,4,3]:J9).map V.int,deep-1,_,rfl,rfl,SqL.of e1,xl (deep-1).toNat (by show _<3;omega) (by omega),a,ns,3+(j:Int),1,_,rfl,hS,by omega,by omega,by decide,by decide,hm.2,λpd pd0 pd1=>⟨_,_,rfl,rfl,?_⟩⟩;refine ⟨_,rfl,_,rfl,_,_,rfl,rfl,a,ns,3+(j:Int),2,4,rfl,hS,by omega,by omega,by decide,by decide,by decide,λmo mo0 mo1=>⟨_,_,rfl,rfl,?_⟩⟩;refine ⟨_,rfl,_,rfl,_,_,rfl,rfl,a,ns,3+(j:Int),7,3,rfl,hS,by omega,by omega,by decide,by decide,by decide,λlk lk0 lk1=>?_⟩;refine ⟨λσ J=>∃ most:Int,σ=[rq a,iq j,iq deep,iq (1+pd),iq most,iq lk,none]/\J=H1/\1<=most/\(lk<2∨most<=4),?_,?_⟩
 ·refine ⟨_,rfl,_,_,rfl,rfl,_,rfl,?_⟩
  refine xA (λz=>?_) (λz=>?_)
  ·have z:lk<2:=by simpa using z
   refine ⟨_,rfl,_,rfl,_,_,rfl,rfl,a,ns,3+(j:Int),3,2,rfl,hS,by omega,by omega,by decide,by decide,by decide,λr r0 r1=>⟨rfl,_,rfl,?_⟩⟩;refine xA (λy=>?_) (λy=>?_)
   ·refine ⟨_,rfl,_,rfl,_,_,rfl,rfl,a,ns,3+(j:Int),4,1000,rfl,hS,by omega,by omega,by decide,by decide,by decide,λr3 r30 r31=>⟨_,_,rfl,rfl,?_⟩⟩
    exact ⟨1+r3,rfl,rfl,by omega,.inl z⟩
   ·exact ⟨1+mo,rfl,rfl,by omega,.inl z⟩
  ·exact yw ⟨1+mo,rfl,rfl,by omega,.inr (by omega)⟩
 rintro σ J ⟨most,rfl,rfl,m1,mb⟩;refine ⟨λσ J'=>∃ qt:Bool,σ=[rq a,iq j,iq deep,iq (1+pd),iq most,iq lk,some (.bl qt)]/\J'=J,?_,?_⟩
 ·refine ⟨_,rfl,a,ns,2,1,4,rfl,hS,by decide,by decide,by decide,by decide,by decide,λr r0 r1=>⟨_,_,rfl,rfl,_,rfl,?_⟩⟩
  refine xA (λy=>?_) (λy=>?_)
  ·exact ⟨_,rfl,rfl⟩
  ·refine ⟨_,rfl,a,ns,2,2,3,rfl,hS,by decide,by decide,by decide,by decide,by decide,λr3 r30 r31=>⟨_,rfl,rfl,?_⟩⟩
   exact ⟨_,rfl,rfl⟩
 rintro σ J' ⟨qt,rfl,rfl⟩;refine ⟨_,rfl,_,rfl,_,rfl,_,rfl,_,rfl,_,_,rfl,rfl,a,ns,3+(j:Int),5,1000,rfl,hS,by omega,by omega,by decide,by decide,by decide,λnu nu0 nu1=>?_⟩;refine ⟨_,rfl,_,rfl,_,rfl,_,rfl,_,_,rfl,rfl,a,ns,3+(j:Int),8,15,rfl,hS,by omega,by omega,by decide,by decide,by decide,λma ma0 ma1=>⟨_,_,rfl,rfl,(sz 7),λt nt=>?_⟩⟩;generalize hX:upd _ _ _=H2;obtain ⟨s2,e2⟩:=ye hX nt;clear hX;have hlk:lk=(lk.toNat:Int):=by omega
 have hma:1+ma=((1+ma).toNat:Int):=by omega
 rw [hlk,hma] at e2;exact k H2 t ⟨j,1+pd,most,nu,qt,lk.toNat,(1+ma).toNat⟩ (s1.trans s2) e2 ⟨⟨by show 0<1+pd;omega,by show 1+pd<=6;omega,by show lk.toNat<3;omega,by show (1+ma).toNat<16;omega⟩,rfl,m1,by show lk.toNat<2∨most<=4;omega⟩
inductive spLook (K:Fg) (vs:Jl) (H:Hp) (Q:VK) (_:XK):Prop
 | mk (t:Ad) (v:Lv) (LN:J9) (g:Int) (p q:Nat) (_:vs=[.ref t,.int (LN.getD v.j 0),.int g,.int p,.int q]) (_:H t=some (.tup (lvT v))) (_:v.lk<3) (_:∀ H' l cs,Same H H'->H' l=some (.lst (cs.map V.ref))->CodeAt H' cs (v.lookC LN g p q)->Q (.ref l) H')
def ok_look (d:zk K mg "_law_look" Z6 ["_law_level_here","_law_many","_law_group_here","_law_p","_law_q"]):Ok P w K mg base CX0 1 "_law_look" ["_law_level_here","_law_many","_law_group_here","_law_p","_law_q"] (spLook K):=by
 obtain ⟨g,fd,m,F,b⟩:=d;refine ⟨g,fd,m,F.kp,b,F.ok sc_l_look (by rintro vs H Q E ⟨_,_,_,_,_,_,e,_⟩;rw [e];rfl) λcdv A outer s H vs Q E hr h=>?_⟩;obtain ⟨t,v,LN,g,p,q,rfl,et,lk3,k⟩:=h;have nd:=sc_l_look.nd;refine ⟨_,(zd (zv (i:=5) nd rfl (Or.inl rfl) (yk (zb (zM (zb zN (zb (pv 1) (zb (pv 2) ze)))) (zb (zM (zb zN (zb (pv 3) (zb (zq zy (pv 0) zc (λ_ _=>rfl)) (zb zc ze))))) (zb (zM (zb zN (zb (pv 4) (zb (zq zy (pv 0) zc (λ_ _=>rfl)) (zb zc ze))))) ze)))))
   (zd (zW (pe_bm PySem.F.plainAttrs_list PySem.F.slot_list_append PySem.F.type_list_append xj (pv 5) (zb (zM (zb zN (zb (pv 3) (zb zN (zb (pv 3) (zb (pv 4) (zb zc ze))))))) ze)))
   (zd (zZ (zK xf (zq zy (pv 0) zc (λ_ _=>rfl)) zc (zG _)) (zf (zo (zi Zp (pv 5) (yk (zb (zM (zb zN (zb (pv 4) (zb zc (zb zc ze))))) (zb (zM (zb zN (zb (pv 3) (zb zN (zb (pv 3) (zb (pv 4) (zb zc ze))))))) (zb (zM (zb zN (zb (pv 3) (zb zc ze)))) (zb (zM (zb zN ze)) ze)))))))) zE)
   (zd (zZ (zK xf (zq zy (pv 0) zc (λ_ _=>rfl)) zc (zG _)) (zf (zo (zi Zp (pv 5) (yk (zb (zM (zb zN (zb (zq zy (pv 0) zc (λ_ _=>rfl)) (zb (pv 3) (zb zc ze))))) (zb (zM (zb zN (zb (pv 4) (zb (zq zy (pv 0) zc (λ_ _=>rfl)) ze)))) (zb (zM (zb zN ze)) ze))))))) zE)
   (zf (zo (zi Zp (pv 5) (yk (zb (zM (zb zN (zb (pv 4) (zb zN (zb (pv 4) (zb (pv 3) (zb zc ze))))))) (zb (zM (zb zN (zb (pv 4) (zb zc ze)))) (zb (zM (zb zN ze)) ze))))))))))),?_⟩
 dsimp only [ym,Cx.nox,Cx.wish];refine ⟨_,rfl,_,rfl,(sz 3),λt0 n0=>?_⟩;generalize hX:upd _ _ _=H0;obtain ⟨s0,e0⟩:=ye hX n0;clear hX;replace et:=s0 _ _ et;refine ⟨_,rfl,_,rfl,t,_,_,_,rfl,rfl,SqT.of et,zm (j:=0) rfl,(sz 4),λt1 n1=>?_⟩;generalize hX:upd _ _ _=H1;obtain ⟨s1,e1⟩:=ye hX n1;clear hX;replace et:=s1 _ _ et;refine ⟨_,rfl,_,rfl,t,_,_,_,rfl,rfl,SqT.of et,zm (j:=1) rfl,(sz 4),λt2 n2=>?_⟩;generalize hX:upd _ _ _=H2;obtain ⟨s2,e2⟩:=ye hX n2;clear hX;replace et:=s2 _ _ et;refine ⟨(sz 3),λl nl=>?_⟩;generalize hX:upd _ _ _=H3;have h3:=hdN hX nl;clear hX;refine ⟨_,rfl,.inl ⟨rfl,_,h3.lst 0 rfl⟩,?_⟩;refine ⟨_,rfl,_,rfl,_,rfl,(sz 6),λt3 n3=>?_⟩;generalize hX:upd _ _ _=H4;obtain ⟨B,sB,e3,h4⟩:=hdG h3 hX n3;clear hX h3;refine ⟨l,_,_,rfl,rfl,h4.get 0 rfl,(by show 3<sizeLine;decide),?_⟩;have h5:=h4.fput (o':=.lst ([.ref t0,.ref t1,.ref t2]++[.ref t3]));clear h4;generalize hX:upd _ _ _=H5 at h5 ⊢;clear hX;replace et:=h5.sm _ _ (sB _ _ et);replace e0:=h5.sm _ _ (sB _ _ (s2 _ _ (s1 _ _ e0)));replace e1:=h5.sm _ _ (sB _ _ (s2 _ _ e1));replace e2:=h5.sm _ _ (sB _ _ e2);replace e3:=h5.sm _ _ e3;have el:=h5.get 0 rfl;replace s0:Same H H5:=(((s0.trans s1).trans s2).trans sB).trans h5.sm;clear s1 s2 sB h5;have pre:∀ {H'},Same H5 H'->CodeAt H' [t0,t1,t2,t3] ([[.str "begin",.int (LN.getD v.j 0),.int g]]++v.pre p q):=λs=>(zQ e0 (zQ e1 (zQ e2 (zQ e3 Xv)))).same s;refine ⟨_,rfl,t,_,_,_,rfl,rfl,SqT.of et,zm (j:=5) rfl,rfl,_,rfl,?_⟩;refine xA (λz=>?_) (λz=>?_)
 ·have hx9:((v.lk:Nat):Int)=0:=by simpa using z
  have z:v.lk=0:=by omega
  refine ⟨_,rfl,_,rfl,(sz 4),λt4 n4=>?_⟩;generalize hX:upd _ _ _=G1;obtain ⟨s1,e4⟩:=ye hX n4;clear hX;refine ⟨_,rfl,_,rfl,_,rfl,(sz 6),λt5 n5=>?_⟩;generalize hX:upd _ _ _=G2;obtain ⟨s2,e5⟩:=ye hX n5;clear hX;refine ⟨_,rfl,(sz 3),λt6 n6=>?_⟩;generalize hX:upd _ _ _=G3;obtain ⟨s3,e6⟩:=ye hX n6;clear hX;refine ⟨(sz 1),λt7 n7=>?_⟩;generalize hX:upd _ _ _=G4;obtain ⟨s4,e7⟩:=ye hX n7;clear hX;refine ⟨(sz 4),λl2 nl2=>?_⟩;generalize hX:upd _ _ _=G5;obtain ⟨s5,el2⟩:=ye hX nl2;clear hX;have sa:=(((s1.trans s2).trans s3).trans s4).trans s5;refine ⟨l,l2,_,_,rfl,rfl,sa _ _ el,el2,(sz 8),λl3 nl3=>?_⟩;generalize hX:upd _ _ _=G6;obtain ⟨s6,el3⟩:=ye hX nl3;clear hX;refine k G6 l3 ([t0,t1,t2,t3]++[t4,t5,t6,t7]) ((s0.trans sa).trans s6) el3 ?_;unfold Lv.lookC Lv.look;rw [if_pos z,List.append_assoc];exact yR (pre (sa.trans s6)) (zQ (((((s2.trans s3).trans s4).trans s5).trans s6) _ _ e4) (zQ ((((s3.trans s4).trans s5).trans s6) _ _ e5) (zQ (((s4.trans s5).trans s6) _ _ e6) (xy ((s5.trans s6) _ _ e7)))))
 have z:v.lk≠0:=λy=>by rw [y] at z;exact absurd z (by decide)
 refine ⟨_,rfl,t,_,_,_,rfl,rfl,SqT.of et,zm (j:=5) rfl,rfl,_,rfl,?_⟩;refine xA (λy=>?_) (λy=>?_)
 ·have hx9:((v.lk:Nat):Int)=1:=by simpa using y
  have y:v.lk=1:=by omega
  refine ⟨_,rfl,_,rfl,t,_,_,_,rfl,rfl,SqT.of et,zm (j:=6) rfl,_,rfl,(sz 4),λt4 n4=>?_⟩;generalize hX:upd _ _ _=G1;obtain ⟨s1,e4⟩:=ye hX n4;clear hX;refine ⟨_,rfl,_,rfl,t,_,_,_,rfl,rfl,SqT.of (s1 _ _ et),zm (j:=6) rfl,(sz 3),λt5 n5=>?_⟩;generalize hX:upd _ _ _=G2;obtain ⟨s2,e5⟩:=ye hX n5;clear hX;refine ⟨(sz 1),λt7 n7=>?_⟩;generalize hX:upd _ _ _=G4;obtain ⟨s4,e7⟩:=ye hX n7;clear hX;refine ⟨(sz 3),λl2 nl2=>?_⟩;generalize hX:upd _ _ _=G5;obtain ⟨s5,el2⟩:=ye hX nl2;clear hX;have sa:=((s1.trans s2).trans s4).trans s5;refine ⟨l,l2,_,_,rfl,rfl,sa _ _ el,el2,(sz 7),λl3 nl3=>?_⟩;generalize hX:upd _ _ _=G6;obtain ⟨s6,el3⟩:=ye hX nl3;clear hX;refine k G6 l3 ([t0,t1,t2,t3]++[t4,t5,t7]) ((s0.trans sa).trans s6) el3 ?_;unfold Lv.lookC Lv.look;rw [if_neg z,if_pos y,List.append_assoc];exact yR (pre (sa.trans s6)) (zQ ((((s2.trans s4).trans s5).trans s6) _ _ e4) (zQ (((s4.trans s5).trans s6) _ _ e5) (xy ((s5.trans s6) _ _ e7))))
 have y:v.lk≠1:=λx=>by rw [x] at y;exact absurd y (by decide)
 refine ⟨_,rfl,_,rfl,_,rfl,_,rfl,(sz 6),λt4 n4=>?_⟩;generalize hX:upd _ _ _=G1;obtain ⟨s1,e4⟩:=ye hX n4;clear hX;refine ⟨_,rfl,(sz 3),λt5 n5=>?_⟩;generalize hX:upd _ _ _=G2;obtain ⟨s2,e5⟩:=ye hX n5;clear hX;refine ⟨(sz 1),λt7 n7=>?_⟩;generalize hX:upd _ _ _=G4;obtain ⟨s4,e7⟩:=ye hX n7;clear hX;refine ⟨(sz 3),λl2 nl2=>?_⟩;generalize hX:upd _ _ _=G5;obtain ⟨s5,el2⟩:=ye hX nl2;clear hX;have sa:=((s1.trans s2).trans s4).trans s5;refine ⟨l,l2,_,_,rfl,rfl,sa _ _ el,el2,(sz 7),λl3 nl3=>?_⟩;generalize hX:upd _ _ _=G6;obtain ⟨s6,el3⟩:=ye hX nl3;clear hX;refine k G6 l3 ([t0,t1,t2,t3]++[t4,t5,t7]) ((s0.trans sa).trans s6) el3 ?_;unfold Lv.lookC Lv.look;rw [if_neg z,if_neg y,List.append_assoc];exact yR (pre (sa.trans s6)) (zQ ((((s2.trans s4).trans s5).trans s6) _ _ e4) (zQ (((s4.trans s5).trans s6) _ _ e5) (xy ((s5.trans s6) _ _ e7))))
theorem ZH {LN:J9} {g:Int} {p q:Nat}:∀ ls:List Lv,(zU LN g p q ls).length<=17*ls.length
 | []=>Nat.le_refl _
 | v::ls=>by
  show ([[V.str "turns"]]++v.addC LN g p q++zU LN g p q ls++(if v.qt=true then [[V.str "quiet"]] else [])++v.lookC LN g p q++[[V.str "till",V.int v.most,V.int v.num]]).length<=_;rw [Jh,Jh,Jh,Jh];have h:=ZH (LN:=LN) (g:=g) (p:=p) (q:=q) ls;have h1:(if v.qt=true then [[V.str "quiet"]] else []).length<=1:=by split <;> decide
  have h2:(v.lookC LN g p q).length<=8:=by
   unfold Lv.lookC Lv.look
   split
   ·exact Nat.le_refl _
   ·split <;> exact Nat.le_succ 7
  show 7+(zU LN g p q ls).length+(if v.qt=true then [[V.str "quiet"]] else []).length+(v.lookC LN g p q).length+1<=17*(ls.length+1);omega
def lookC_len {LN:J9} {g:Int} {p q:Nat} {v:Lv}:(v.lookC LN g p q).length<=8:=by
 unfold Lv.lookC Lv.look
 split
 ·exact Nat.le_refl _
 ·split <;> exact Nat.le_succ 7
def CodeAt.tail {B:Hp} {t:Ad} {ts:Je} {x:Jl} {code:List (Jl)} (h:CodeAt B (t::ts) (x::code)):CodeAt B ts code:=⟨by have:=h.n;simpa using this,λi a tv e1 e2=>h.t (i+1) a tv e1 e2⟩
inductive spCode (K:Fg) (n:Nat) (vs:Jl) (H:Hp) (Q:VK) (_:XK):Prop
 | mk (ll le:Ad) (ts:Je) (ls:List Lv) (LN:J9) (g:Int) (p q:Nat) (_:vs=[.ref ll,.ref le,.int g,.int p,.int q]) (_:ls.length<=n) (_:n<=20) (_:SqL K H ll (ts.map V.ref)) (_:CodeAt H ts (ls.map lvT)) (_:SqL K H le (LN.map V.int)) (_:(∀ v∈ls,v.lk<3/\v.j<LN.length)) (_:∀ H' l cs,Same H H'->H' l=some (.lst (cs.map V.ref))->CodeAt H' cs (zU LN g p q ls)->Q (.ref l) H')
def ok_code0 (d:zk K mg "_law_code" Ze ["_law_levels","_law_lengths","_law_group_here","_law_p","_law_q"]):Ok P w K mg base CX0 1 "_law_code" ["_law_levels","_law_lengths","_law_group_here","_law_p","_law_q"] spNil:=by
 obtain ⟨g,fd,m,F,b⟩:=d;exact ⟨g,fd,m,F.kp,b,F.ok sc_l_code (λvs H Q E h=>nomatch h) λcdv A outer s H vs Q E hr h=>nomatch h⟩
theorem XU {n:Nat} {sp:Sp} (hsp:∀ n',n=n'+1->sp=spCode K n') (d:zk K mg "_law_code" Ze ["_law_levels","_law_lengths","_law_group_here","_law_p","_law_q"]) (hlen:mg "len"=none) (LK:Ok P w K mg base CX0 1 "_law_look" ["_law_level_here","_law_many","_law_group_here","_law_p","_law_q"] (spLook K)) (CD:Ok P w K mg base CX0 (n+1) "_law_code" ["_law_levels","_law_lengths","_law_group_here","_law_p","_law_q"] sp) :
  Ok P w K mg base CX0 (n+2) "_law_code" ["_law_levels","_law_lengths","_law_group_here","_law_p","_law_q"] (spCode K n):=by
 obtain ⟨g,fd,m,F,b⟩:=d;refine ⟨g,fd,m,F.kp,b,F.ok sc_l_code (by rintro vs H Q E ⟨_,_,_,_,_,_,_,_,e,_⟩;rw [e];rfl) λcdv A outer s H vs Q E hr h=>?_⟩;obtain ⟨ll,le,ts,ls,LN,g,p,q,rfl,hln,n20,qL,cT,qE,hv,k⟩:=h;have nd:=sc_l_code.nd;have hrC:=hr;have hr1:Room 1 _:=hr.mono (by omega);refine ⟨_,(zd (zZ (zK xf (zD zV (by rfl) hlen PySem.boot_len (zb (pv 0) ze)) zc (zG _)) (zf (zo (yk ze))) zE)
   (zd (zv (i:=5) nd rfl (Or.inl rfl) (zq zO (pv 0) zc (λ_ _=>rfl)))
   (zd (zv (i:=6) nd rfl (Or.inl rfl) (zq zO (pv 1) (zq zy (pv 5) zc (λ_ _=>rfl)) (λ_ _=>rfl)))
   (zd (zv (i:=7) nd rfl (Or.inl rfl) (yk (zb (zM (zb zN ze)) (zb (zM (zb zN (zb (pv 6) (zb (pv 2) ze)))) (zb (zM (zb zN (zb (pv 3) (zb (zq zy (pv 5) zc (λ_ _=>rfl)) (zb zc ze))))) (zb (zM (zb zN (zb (pv 4) (zb zc (zb zc ze))))) ze))))))
   (zd (zv (i:=7) nd rfl (Or.inl rfl) (zi Zp (pv 7) (yk (zb (zM (zb zN (zb (pv 3) (zb zN (zb (pv 4) (zb (pv 3) (zb zc ze))))))) (zb (zM (zb zN (zb (zq zy (pv 5) zc (λ_ _=>rfl)) (zb (pv 3) (zb zc ze))))) (zb (zM (zb zN ze)) ze))))))
   (zd (zv (i:=7) nd rfl (Or.inl rfl) (zi Zp (pv 7) (zH CD hrC (by rfl) zt (zb (Ya YI (pv 0) (YM zc) YN) (zb (pv 1) (zb (pv 2) (zb (pv 3) (zb (pv 4) ze))))))))
   (zd (xb (zZ (yQ (zq zy (pv 5) zc (λ_ _=>rfl))) (zf (zv (i:=7) nd rfl (Or.inl rfl) (zi Zp (pv 7) (yk (zb (zM (zb zN ze)) ze))))) zE))
   (zf (zo (zi Zp (zi Zp (pv 7) (zH LK hr1 (by rfl) zt (zb (pv 5) (zb (pv 6) (zb (pv 2) (zb (pv 3) (zb (pv 4) ze))))))) (yk (zb (zM (zb zN (zb (zq zy (pv 5) zc (λ_ _=>rfl)) (zb (zq zy (pv 5) zc (λ_ _=>rfl)) ze)))) ze)))))))))))),?_⟩
 dsimp only [ym,Cx.nox,Cx.wish];refine ⟨_,rfl,ll,_,rfl,.inl qL,rfl,_,rfl,?_⟩;rw [Jg];have tl:ts.length=ls.length:=by rw [cT.n,Jg]
 cases ls with
 | nil =>
  rw [tl];refine xN ⟨(sz 0),λl nl=>?_⟩;generalize hX:upd _ _ _=H1;obtain ⟨s1,e1⟩:=ye hX nl;exact k H1 l [] s1 e1 Xv
 | cons v ls =>
  obtain ⟨t,ts,rfl⟩:∃ t ts',ts=t::ts':=by cases ts with
   | nil=>cases tl
   | cons t ts=>exact ⟨t,ts,rfl⟩
  have hx9:ls.length+1<=n:=hln;have n1:n=n-1+1:=by omega
  have hsp:=hsp (n-1) n1;subst hsp;have hvv:=hv v q1z;have et:H t=some (.tup (lvT v)):=cT.t 0 t _ rfl rfl;refine xA (λz=>?_) (λ_=>?_)
  ·exfalso
   have:((t::ts).length:Int)=0:=by simpa using z
   rw [q3x] at this;omega
  refine ⟨_,rfl,ll,_,_,_,rfl,rfl,qL,zm (j:=0) rfl,?_⟩;refine ⟨_,rfl,_,rfl,t,_,_,_,rfl,rfl,SqT.of et,zm (j:=0) rfl,le,_,_,_,rfl,rfl,qE,xl v.j hvv.2 rfl,?_⟩;have sA:Same H H:=Same.refl _;have cS:CodeAt H ts (ls.map lvT):=cT.tail;refine ⟨(sz 1),λt0 n0=>?_⟩;generalize hX:upd _ _ _=H0;obtain ⟨sX,e0⟩:=ye hX n0;replace sA:=sA.trans sX;replace et:=sX _ _ et;clear hX sX;refine ⟨_,rfl,_,rfl,(sz 3),λt1 n1=>?_⟩;generalize hX:upd _ _ _=H1;obtain ⟨sX,e1⟩:=ye hX n1;replace sA:=sA.trans sX;replace et:=sX _ _ et;replace e0:=sX _ _ e0;clear hX sX;refine ⟨_,rfl,_,rfl,t,_,_,_,rfl,rfl,SqT.of et,zm (j:=0) rfl,(sz 4),λt2 n2=>?_⟩;generalize hX:upd _ _ _=H2;obtain ⟨sX,e2⟩:=ye hX n2;replace sA:=sA.trans sX;replace et:=sX _ _ et;replace e0:=sX _ _ e0;replace e1:=sX _ _ e1;clear hX sX;refine ⟨_,rfl,(sz 4),λt3 n3=>?_⟩;generalize hX:upd _ _ _=H3;obtain ⟨sX,e3⟩:=ye hX n3;replace sA:=sA.trans sX;replace et:=sX _ _ et;replace e0:=sX _ _ e0;replace e1:=sX _ _ e1;replace e2:=sX _ _ e2;clear hX sX;refine ⟨(sz 4),λl0 nl0=>?_⟩;generalize hX:upd _ _ _=H4;obtain ⟨sX,el0⟩:=ye hX nl0;replace sA:=sA.trans sX;replace et:=sX _ _ et;replace e0:=sX _ _ e0;replace e1:=sX _ _ e1;replace e2:=sX _ _ e2;replace e3:=sX _ _ e3;clear hX sX;refine ⟨_,rfl,_,rfl,_,rfl,_,rfl,(sz 6),λt4 n4=>?_⟩;generalize hX:upd _ _ _=H5;obtain ⟨sX,e4⟩:=ye hX n4;replace sA:=sA.trans sX;replace et:=sX _ _ et;replace e0:=sX _ _ e0;replace e1:=sX _ _ e1;replace e2:=sX _ _ e2;replace e3:=sX _ _ e3;replace el0:=sX _ _ el0;clear hX sX;refine ⟨_,rfl,t,_,_,_,rfl,rfl,SqT.of et,zm (j:=0) rfl,_,rfl,(sz 4),λt5 n5=>?_⟩;generalize hX:upd _ _ _=H6;obtain ⟨sX,e5⟩:=ye hX n5;replace sA:=sA.trans sX;replace et:=sX _ _ et;replace e0:=sX _ _ e0;replace e1:=sX _ _ e1;replace e2:=sX _ _ e2;replace e3:=sX _ _ e3;replace el0:=sX _ _ el0;replace e4:=sX _ _ e4;clear hX sX;refine ⟨(sz 1),λt6 n6=>?_⟩;generalize hX:upd _ _ _=H7;obtain ⟨sX,e6⟩:=ye hX n6;replace sA:=sA.trans sX;replace et:=sX _ _ et;replace e0:=sX _ _ e0;replace e1:=sX _ _ e1;replace e2:=sX _ _ e2;replace e3:=sX _ _ e3;replace el0:=sX _ _ el0;replace e4:=sX _ _ e4;replace e5:=sX _ _ e5;clear hX sX;refine ⟨(sz 3),λl1 nl1=>?_⟩;generalize hX:upd _ _ _=H8;obtain ⟨sX,el1⟩:=ye hX nl1;replace sA:=sA.trans sX;replace et:=sX _ _ et;replace e0:=sX _ _ e0;replace e1:=sX _ _ e1;replace e2:=sX _ _ e2;replace e3:=sX _ _ e3;replace el0:=sX _ _ el0;replace e4:=sX _ _ e4;replace e5:=sX _ _ e5;replace e6:=sX _ _ e6;clear hX sX;refine ⟨l0,l1,_,_,rfl,rfl,el0,el1,(sz 7),λl2 nl2=>?_⟩;generalize hX:upd _ _ _=H9;obtain ⟨sX,el2⟩:=ye hX nl2;replace sA:=sA.trans sX;replace et:=sX _ _ et;replace e0:=sX _ _ e0;replace e1:=sX _ _ e1;replace e2:=sX _ _ e2;replace e3:=sX _ _ e3;replace e4:=sX _ _ e4;replace e5:=sX _ _ e5;replace e6:=sX _ _ e6;clear hX sX;have c1:CodeAt H9 ([t0,t1,t2,t3]++[t4,t5,t6]) ([[.str "turns"]]++v.addC LN g p q):=zQ e0 (zQ e1 (zQ e2 (zQ e3 (zQ e4 (zQ e5 (xy e6))))));clear e0 e1 e2 e3 e4 e5 e6 el0 el1;replace el2:H9 l2=some (.lst (([t0,t1,t2,t3]++[t4,t5,t6]).map V.ref)):=el2;generalize hcs1:[t0,t1,t2,t3]++[t4,t5,t6]=cs1 at c1 el2;have lc1:cs1.length=7:=by rw [← hcs1];rfl
  clear hcs1;refine ⟨_,rfl,_,rfl,1,rfl,ll,_,rfl,zw qL sA,λl3 nl3=>?_⟩;rw [Xt (by decide)];generalize hX:upd _ _ _=H10;obtain ⟨sX,el3⟩:=ye hX nl3;replace sA:=sA.trans sX;replace et:=sX _ _ et;replace el2:=sX _ _ el2;replace c1:=c1.same sX;clear hX sX;have hx9:ls.length+1<=n:=hln;have lsn:ls.length<=n-1:=by omega
  have cl:=ZH (LN:=LN) (g:=g) (p:=p) (q:=q) ls;refine ⟨_,rfl,_,rfl,_,rfl,_,rfl,l3,le,ts,ls,LN,g,p,q,rfl,lsn,by omega,SqL.of el3,cS.same sA,zw qE sA,λu hu=>hv u (q1y _ hu),λH11 l4 cs2 s11 el4 c2=>?_⟩;replace sA:=sA.trans s11;replace et:=s11 _ _ et;replace c1:=c1.same s11;replace el2:=s11 _ _ el2;refine ⟨l2,l4,_,_,rfl,rfl,el2,el4,by rw [Jg,Jg,c2.n,lc1];exact sz 1000 |> Nat.le_trans (by omega),λl5 nl5=>?_⟩;rw [← List.map_append];generalize hX:upd _ _ _=H12;obtain ⟨sX,el5⟩:=ye hX nl5;replace sA:=sA.trans sX;replace et:=sX _ _ et;replace c1:=c1.same sX;replace c2:=c2.same sX;clear hX sX;have c3:=yR c1 c2;have lc3:(cs1++cs2).length<=7+17*ls.length:=by rw [Jh,lc1,c2.n];omega
  clear el2 el3 el4 c1 c2 s11;generalize cs1++cs2=cs3 at c3 el5 lc3;refine ⟨λσ J=>∃ (l6:Ad) (cs4:Je),σ=[rq ll,rq le,iq g,iq p,iq q,rq t,iq (LN.getD v.j 0),rq l6]/\Same H J/\J t=some (.tup (lvT v))/\J l6=some (.lst (cs4.map V.ref))/\CodeAt J cs4 ([[.str "turns"]]++v.addC LN g p q++zU LN g p q ls++(if v.qt=true then [[.str "quiet"]] else []))/\cs4.length<=8+17*ls.length,?_,?_⟩
  ·refine ⟨_,rfl,t,_,_,_,rfl,rfl,SqT.of et,zm (j:=4) rfl,_,rfl,?_⟩
   cases hq:v.qt with
   | false =>
    refine yw ⟨l5,cs3,rfl,sA,et,el5,?_,by omega⟩;show CodeAt _ cs3 (_++[]);rw [q3y];exact c3
   | true =>
    refine xN ⟨_,rfl,(sz 1),λt7 n7=>?_⟩;generalize hX:upd _ _ _=H13;obtain ⟨sX,e7⟩:=ye hX n7;replace sA:=sA.trans sX;replace et:=sX _ _ et;replace el5:=sX _ _ el5;replace c3:=c3.same sX;clear hX sX;refine ⟨(sz 1),λl6 nl6=>?_⟩;generalize hX:upd _ _ _=H14;obtain ⟨sX,el6⟩:=ye hX nl6;replace sA:=sA.trans sX;replace et:=sX _ _ et;replace el5:=sX _ _ el5;replace c3:=c3.same sX;replace e7:=sX _ _ e7;clear hX sX;refine ⟨l5,l6,_,_,rfl,rfl,el5,el6,by rw [Jg];exact Nat.le_trans (show _<=1000 by show cs3.length+1<=1000;omega) (sz 1000),λl7 nl7=>?_⟩;generalize hX:upd _ _ _=H15;obtain ⟨sX,el7⟩:=ye hX nl7;replace sA:=sA.trans sX;replace et:=sX _ _ et;replace c3:=c3.same sX;replace e7:=sX _ _ e7;clear hX sX;exact ⟨l7,cs3++[t7],rfl,sA,et,by rw [Ji];exact el7,yR c3 (xy e7),by rw [Jh];show cs3.length+1<=_;omega⟩
  clear c3 el5 et sA lc3;rintro σ J ⟨l6,cs4,rfl,sA,et,el6,c4,lc4⟩;refine ⟨_,rfl,_,rfl,_,rfl,_,rfl,_,rfl,_,rfl,t,v,LN,g,p,q,rfl,et,hvv.1,λH1 l7 cs5 s1 el7 c5=>?_⟩;replace sA:=sA.trans s1;replace et:=s1 _ _ et;replace el6:=s1 _ _ el6;replace c4:=c4.same s1;have lc5:cs5.length<=8:=by rw [c5.n];exact lookC_len
  refine ⟨l6,l7,_,_,rfl,rfl,el6,el7,by rw [Jg,Jg];exact Nat.le_trans (show _<=1000 by omega) (sz 1000),λl8 nl8=>?_⟩;rw [← List.map_append];generalize hX:upd _ _ _=H2;obtain ⟨sX,el8⟩:=ye hX nl8;replace sA:=sA.trans sX;replace et:=sX _ _ et;replace c4:=c4.same sX;replace c5:=c5.same sX;clear hX sX;refine ⟨_,rfl,t,_,_,_,rfl,rfl,SqT.of et,zm (j:=2) rfl,_,rfl,t,_,_,_,rfl,rfl,SqT.of et,zm (j:=3) rfl,(sz 3),λt8 n8=>?_⟩;generalize hX:upd _ _ _=H3;obtain ⟨sX,e8⟩:=ye hX n8;replace sA:=sA.trans sX;replace el8:=sX _ _ el8;replace c4:=c4.same sX;replace c5:=c5.same sX;clear hX sX;refine ⟨(sz 1),λl9 nl9=>?_⟩;generalize hX:upd _ _ _=H4;obtain ⟨sX,el9⟩:=ye hX nl9;replace sA:=sA.trans sX;replace el8:=sX _ _ el8;replace c4:=c4.same sX;replace c5:=c5.same sX;replace e8:=sX _ _ e8;clear hX sX;refine ⟨l8,l9,_,_,rfl,rfl,el8,el9,by rw [Jg,Jh];exact Nat.le_trans (show _<=1000 by show cs4.length+cs5.length+1<=1000;omega) (sz 1000),λl10 nl10=>?_⟩;generalize hX:upd _ _ _=H5;obtain ⟨sX,el10⟩:=ye hX nl10;replace sA:=sA.trans sX;replace c4:=c4.same sX;replace c5:=c5.same sX;replace e8:=sX _ _ e8;clear hX sX;exact k H5 l10 (cs4++cs5++[t8]) sA (by rw [List.map_append (l₁:=cs4++cs5)];exact el10) (yR (yR c4 c5) (xy e8))
theorem ok_code (d:zk K mg "_law_code" Ze ["_law_levels","_law_lengths","_law_group_here","_law_p","_law_q"]) (hlen:mg "len"=none) (LK:Ok P w K mg base CX0 1 "_law_look" ["_law_level_here","_law_many","_law_group_here","_law_p","_law_q"] (spLook K)):∀ n:Nat,Ok P w K mg base CX0 (n+2) "_law_code" ["_law_levels","_law_lengths","_law_group_here","_law_p","_law_q"] (spCode K n)
 | 0=>XU (λn' e=>by cases e) d hlen LK (ok_code0 d)
 | n+1=>XU (λn' e=>by cases e;rfl) d hlen LK (ok_code d hlen LK n)
def Xs (a b:Bool):decide (V.bl a=V.bl b)=(a == b):=by cases a <;> cases b <;> rfl
def Yk (a b:Int):decide (V.int a=V.int b)=decide (a=b):=by
 by_cases h:a=b
 ·rw [h];simp
 ·rw [decide_eq_false h,decide_eq_false (λz=>h (by cases z;rfl))]
inductive spPlayed (K:Fg) (n:Nat) (vs:Jl) (H:Hp) (Q:VK) (_:XK):Prop
 | mk (B:Hp) (ll le du fl:Ad) (ts:Je) (ls:List Lv) (LN:J9) (s:CF) (_:vs=[.ref ll,.ref le,.ref du,.ref fl]) (_:ls.length<=n) (_:SqL K B ll (ts.map V.ref)) (_:CodeAt B ts (ls.map lvT)) (_:SqL K B le (LN.map V.int)) (_:(∀ v∈ls,VOk (zp LN) LN s.1.length v)) (_:s.1.length<=1000) (_:Hd B [(du,.lst (s.1.map V.int)),(fl,.lst [.bl s.2])] H) (_:∀ B' H' rv,Same B B'->Hd B' [(du,.lst ((zJ (zp LN) LN ls s).1.1.map V.int)),(fl,.lst [.bl (zJ (zp LN) LN ls s).1.2])] H'->RfAt B' rv (zJ (zp LN) LN ls s).2->Q rv H')
def zch (d:zk K mg "_law_played" xi ["_law_levels","_law_lengths","_law_due","_law_flag"]):Ok P w K mg base CX0 1 "_law_played" ["_law_levels","_law_lengths","_law_due","_law_flag"] spNil:=by
 obtain ⟨g,fd,m,F,b⟩:=d;exact ⟨g,fd,m,F.kp,b,F.ok sc_l_played (λvs H Q E h=>nomatch h) λcdv A outer s H vs Q E hr h=>nomatch h⟩
theorem YC {n:Nat} {sp:Sp} (hsp:∀ n',n=n'+1->sp=spPlayed K n') (d:zk K mg "_law_played" xi ["_law_levels","_law_lengths","_law_due","_law_flag"]) (hlen:mg "len"=none) (hsum:mg "sum"=none) (hrg:mg "range"=none) (PD:Ok P w K mg base CX0 (n+1) "_law_played" ["_law_levels","_law_lengths","_law_due","_law_flag"] sp) :
  Ok P w K mg base CX0 (n+2) "_law_played" ["_law_levels","_law_lengths","_law_due","_law_flag"] (spPlayed K n):=by
 obtain ⟨g,fd,m,F,b⟩:=d;refine ⟨g,fd,m,F.kp,b,F.ok sc_l_played (by rintro vs H Q E ⟨_,_,_,_,_,_,_,_,_,e,_⟩;rw [e];rfl) λcdv A outer s H vs Q E hr h=>?_⟩;obtain ⟨B,ll,le,du,fl,ts,ls,LN,s0,rfl,hln,qL,cT,qE,hv,dl,hD,k⟩:=h;have nd:=sc_l_played.nd;have hrC:=hr;refine ⟨_,(zd (zZ (zK xf (zD zV (by rfl) hlen PySem.boot_len (zb (pv 0) ze)) zc (zG _)) (zf (zo yW)) zE)
   (zd (zv (i:=4) nd rfl (Or.inl rfl) (zq zO (pv 0) zc (λ_ _=>rfl)))
   (zd (zv (i:=5) nd rfl (Or.inl rfl) (zD (Xy rfl) (by rfl) hsum PyProof.Rows.boot_sum (zb (Ya YI (pv 1) YN (YM (zq zy (pv 4) zc (λ_ _=>rfl)))) ze)))
   (zd (zv (i:=6) nd rfl (Or.inl rfl) zc)
   (zd (zbe PassesOwn.never (zK Xg (pv 6) (zq zy (pv 4) zc (λ_ _=>rfl)) (zG _)) (zd (xb (Zn PassesOwn.never rfl (Ys rfl hrg (zb (pv 5) (zb (zi zB (pv 5) (zq zO (pv 1) (zq zy (pv 4) zc (λ_ _=>rfl)) (λ_ _=>rfl))) ze))) (zR (i:=7) nd rfl (Or.inl rfl)) (zf (Zt (zi zB (zq zO (pv 2) (pv 7) (λ_ _=>rfl)) zc) (Zu (pv 2) (pv 7) xw)))))
   (zd (zv (i:=8) nd rfl (Or.inl rfl) (zH PD hrC (by rfl) zt (zb (Ya YI (pv 0) (YM zc) YN) (zb (pv 1) (zb (pv 2) (zb (pv 3) ze))))))
   (zd (zZ (zK op_notN (pv 8) yW (zG _)) (zf (zo (pv 8))) zE)
   (zd (xb (zZ (yQ (zq zy (pv 4) zc (λ_ _=>rfl))) (zf (Zt xB (Zu (pv 3) zc xw))) zE))
   (zd (xb (Zn PassesOwn.never rfl (Ys rfl hrg (zb (pv 5) (zb (zi zB (pv 5) (zq zO (pv 1) (zq zy (pv 4) zc (λ_ _=>rfl)) (λ_ _=>rfl))) ze))) (zR (i:=7) nd rfl (Or.inl rfl)) (zf (Zt (pe_or (zq zO (pv 3) zc (λ_ _=>rfl)) (zaq (yV xf (yV xf (zi yD (zq zO (pv 2) (pv 7) (λ_ _=>rfl)) (zq zy (pv 4) zc (λ_ _=>rfl))) zc (zG _)) (yV Xg (zq zy (pv 4) zc (λ_ _=>rfl)) zc (zG _)) (zG _)))) (Zu (pv 3) zc xw)))))
   (zd (zv (i:=6) nd rfl (Or.inl rfl) (zi zB (pv 6) zc))
   (zf (zZ (yQ (zq zO (pv 3) zc (λ_ _=>rfl))) (zf (zo yW)) zE)))))))))
   (zf (zo (zM (zb (zq zy (pv 4) zc (λ_ _=>rfl)) (zb (zq zy (pv 4) zc (λ_ _=>rfl)) (zb zN ze))))))))))),?_⟩
 dsimp only [ym,Cx.nox,Cx.wish];refine ⟨_,rfl,ll,_,rfl,.inl (hD.sql qL),rfl,_,rfl,?_⟩;rw [Jg];have tl:ts.length=ls.length:=by rw [cT.n,Jg]
 cases ls with
 | nil =>
  rw [tl];exact xN (k B H .non (Same.refl _) hD rfl)
 | cons v ls =>
  obtain ⟨t,ts,rfl⟩:∃ t ts',ts=t::ts':=by cases ts with
   | nil=>cases tl
   | cons t ts=>exact ⟨t,ts,rfl⟩
  have hx9:ls.length+1<=n:=hln;have n1:n=n-1+1:=by omega
  have hsp:=hsp (n-1) n1;subst hsp;have vo:=hv v q1z;have et:B t=some (.tup (lvT v)):=cT.t 0 t _ rfl rfl;have cS:CodeAt B ts (ls.map lvT):=cT.tail;refine xA (λz=>?_) (λ_=>?_)
  ·exfalso
   have:((t::ts).length:Int)=0:=by simpa using z
   rw [q3x] at this;omega
  have vj:v.j<LN.length:=by have:=vo.hj;rw [ZM] at this;exact this
  have eS:(zp LN).getD v.j 0=(LN.take v.j).sum:=Zd vj;have w0:=vo.s0;have w1:=vo.s1;have w2:=vo.n1;have w3:=vo.n6;have m1:=vo.m1;refine ⟨_,rfl,ll,_,_,_,rfl,rfl,hD.sql qL,zm (j:=0) rfl,?_⟩;refine ⟨_,rfl,_,rfl,t,_,_,_,rfl,rfl,SqT.of (hD.sm _ _ et),zm (j:=0) rfl,_,rfl,le,_,rfl,hD.sql qE,λl0 nl0=>?_⟩;rw [X2 (by omega),q0z];generalize hX:upd _ _ _=H1;obtain ⟨B1,sB,el0,hD1⟩:=hdG hD hX nl0;clear hX hD;refine ⟨l0,_,rfl,SqL.of (hD1.sm _ _ el0),?_⟩;rw [← eS];generalize hS:zp LN=S at *;have eN:(S.getD v.j 0+LN.getD v.j 0-S.getD v.j 0).toNat=(LN.getD v.j 0).toNat:=by omega
  let R:=zJ S LN (v::ls) s0;refine ⟨λmm σ J=>∃ (cnt:Nat) (s1:CF) (u7 u8:Jm) (B2:Hp),σ=[rq ll,rq le,rq du,rq fl,rq t,iq (S.getD v.j 0),iq cnt,u7,u8]/\mm=v.most.toNat-cnt/\(cnt:Int)<=v.most/\Same B B2/\s1.1.length=s0.1.length/\Hd B2 [(du,.lst (s1.1.map V.int)),(fl,.lst [.bl s1.2])] J/\R=Yd (v.add S LN) (v.hit S LN) v.qt (v.num,v.most,"endless") (zJ S LN ls) (v.most.toNat-cnt) s1,⟨_,0,s0,none,none,B1,rfl,rfl,by omega,sB,rfl,hD1,rfl⟩,?_⟩;clear hD1 sB el0 B1;rintro mm σ J ⟨cnt,s1,u7,u8,B2,rfl,rfl,cm,sB,sl,hD,hR⟩;refine ⟨_,rfl,_,rfl,t,_,_,_,rfl,rfl,SqT.of (hD.sm _ _ (sB _ _ et)),zm (j:=2) rfl,_,_,rfl,rfl,_,rfl,?_⟩;refine xA (λz=>?_) (λz=>?_)
  rotate_left
  ·have z:¬ (cnt:Int)<v.most:=by simpa using z
   have e0:v.most.toNat-cnt=0:=by omega
   rw [e0] at hR;have hR:R=(s1,some (v.num,v.most,("endless":Str))):=hR;refine ⟨_,rfl,t,_,_,_,rfl,rfl,SqT.of (hD.sm _ _ (sB _ _ et)),zm (j:=3) rfl,_,rfl,t,_,_,_,rfl,rfl,SqT.of (hD.sm _ _ (sB _ _ et)),zm (j:=2) rfl,(sz 3),λt9 n9=>?_⟩;generalize hX:upd _ _ _=J1;obtain ⟨B3,sB3,e9,hD3⟩:=hdG hD hX n9;refine k B3 J1 (.ref t9) (sB.trans sB3) ?_ ?_
   ·show Hd B3 [(du,.lst (R.1.1.map V.int)),(fl,.lst [.bl R.1.2])] J1
    rw [hR];exact hD3
   ·show RfAt B3 _ R.2
    rw [hR];exact ⟨t9,rfl,e9⟩
  have z:(cnt:Int)<v.most:=by simpa using z
  obtain ⟨mm,hmm⟩:∃ mm,v.most.toNat-cnt=mm+1:=⟨v.most.toNat-cnt-1,by omega⟩;rw [hmm] at hR;refine ⟨λσ J=>∃ (cnt:Nat) (s1:CF) (u7 u8:Jm) (B2:Hp),σ=[rq ll,rq le,rq du,rq fl,rq t,iq (S.getD v.j 0),iq cnt,u7,u8]/\mm=v.most.toNat-cnt/\(cnt:Int)<=v.most/\Same B B2/\s1.1.length=s0.1.length/\Hd B2 [(du,.lst (s1.1.map V.int)),(fl,.lst [.bl s1.2])] J/\R=Yd (v.add S LN) (v.hit S LN) v.qt (v.num,v.most,"endless") (zJ S LN ls) mm s1,λσ' J' ⟨c',s',u7',u8',B',a1,a2,a3,a4,a5,a6,a7⟩=>⟨mm,by omega,c',s',u7',u8',B',a1,a2,a3,a4,a5,a6,a2 ▸ a7⟩,?_⟩;refine ⟨λσ J=>∃ u7,σ=[rq ll,rq le,rq du,rq fl,rq t,iq (S.getD v.j 0),iq cnt,u7,u8]/\Hd B2 [(du,.lst ((v.add S LN s1.1).map V.int)),(fl,.lst [.bl s1.2])] J,?_,?_⟩
  ·refine ⟨_,rfl,_,rfl,_,rfl,_,rfl,t,_,_,_,rfl,rfl,SqT.of (hD.sm _ _ (sB _ _ et)),zm (j:=0) rfl,le,_,_,_,rfl,rfl,hD.sql (zw qE sB),xl v.j vj rfl,_,_,rfl,rfl,_,_,rfl,⟨by omega,by omega,by omega,by omega⟩,?_⟩
   refine xQ (n:=(S.getD v.j 0+LN.getD v.j 0-S.getD v.j 0).toNat) (λi σ J=>∃ u7,σ=[rq ll,rq le,rq du,rq fl,rq t,iq (S.getD v.j 0),iq cnt,u7,u8]/\Hd B2 [(du,.lst ((yl s1.1 (S.getD v.j 0) i).map V.int)),(fl,.lst [.bl s1.2])] J) ⟨_,rfl,hD⟩ ?_ ?_
   ·rintro i σ J hi ⟨u7,rfl,h⟩
    have e1:(S.getD v.j 0+(i:Int)).toNat<(yl s1.1 (S.getD v.j 0) i).length:=by rw [xn];omega
    refine ⟨_,rfl,_,rfl,du,_,_,_,rfl,rfl,h.lst 0 rfl,xl (S.getD v.j 0+(i:Int)).toNat e1 (by omega),_,_,rfl,rfl,?_⟩;refine ⟨_,rfl,_,rfl,du,_,_,(S.getD v.j 0+(i:Int)).toNat,rfl,rfl,h.get 0 rfl,ixN_nat (by omega) (by rw [Jg,xn];omega),?_⟩;refine ⟨_,rfl,?_⟩;rw [ZW,List.map_set,Yz w0 (Int.le_refl _)];have e2:(1:Int)+s1.1.getD (S.getD v.j 0+(i:Int)).toNat 0=s1.1.getD (S.getD v.j 0+(i:Int)).toNat 0+1:=Int.add_comm _ _;rw [e2];exact h.put 0 rfl
   ·rintro σ J ⟨u7,rfl,h⟩
    rw [eN] at h;exact ⟨u7,rfl,h⟩
  clear hD u7;rintro σ J ⟨u7,rfl,hD⟩;refine ⟨_,rfl,1,rfl,ll,_,rfl,hD.sql (zw qL sB),λl3 nl3=>?_⟩;rw [Xt (by decide)];generalize hX:upd _ _ _=J1;obtain ⟨B3,sB3,el3,hD3⟩:=hdG hD hX nl3;clear hX hD;replace sB3:=sB.trans sB3;have hx9:ls.length+1<=n:=hln;have lsn:ls.length<=n-1:=by omega
  have al:(v.add S LN s1.1).length=s0.1.length:=(xn _ _ _).trans sl
  have hvS:∀ u∈ls,VOk (zp LN) LN (v.add S LN s1.1,s1.2).1.length u:=λu hu=>by
   show VOk _ LN (v.add S LN s1.1).length u;rw [hS,al];exact hv u (q1y _ hu)
  refine ⟨_,rfl,_,rfl,_,rfl,B3,l3,le,du,fl,ts,ls,LN,(v.add S LN s1.1,s1.2),rfl,lsn,SqL.of el3,cS.same sB3,zw qE sB3,hvS,by show (v.add S LN s1.1).length<=1000;omega,hD3,λB4 J4 rv sB4 hD4 er=>?_⟩;rw [hS] at hD4 er;replace sB4:=sB3.trans sB4;have pl:=Yr (S:=S) (LN:=LN) ls (v.add S LN s1.1,s1.2);have pl:(zJ S LN ls (v.add S LN s1.1,s1.2)).1.1.length=(v.add S LN s1.1).length:=pl;rw [al] at pl;refine ⟨_,rfl,rfl,_,rfl,?_⟩
  cases e2:(zJ S LN ls (v.add S LN s1.1,s1.2)).2 with
  | some x =>
   rw [ZR e2] at hR;rw [e2] at er;obtain ⟨t9,rfl,e9⟩:=er;refine xN ⟨_,rfl,k B4 J4 (.ref t9) sB4 ?_ ?_⟩
   ·show Hd B4 [(du,.lst (R.1.1.map V.int)),(fl,.lst [.bl R.1.2])] J4
    rw [hR];exact hD4
   ·show RfAt B4 _ R.2
    rw [hR];exact ⟨t9,rfl,e9⟩
  | none =>
   rw [ZT e2] at hR;rw [e2] at er;have er:rv=.non:=er;subst er;refine yw ?_;generalize (zJ S LN ls (v.add S LN s1.1,s1.2)).1=s2 at *;have et4:B4 t=some (.tup (lvT v)):=sB4 _ _ et;refine ⟨λσ J=>σ=[rq ll,rq le,rq du,rq fl,rq t,iq (S.getD v.j 0),iq cnt,u7,some .non]/\Hd B4 [(du,.lst (s2.1.map V.int)),(fl,.lst [.bl (if v.qt=true then false else s2.2)])] J,?_,?_⟩
   ·refine ⟨_,rfl,t,_,_,_,rfl,rfl,SqT.of (hD4.sm _ _ et4),zm (j:=4) rfl,_,rfl,?_⟩
    cases hq:v.qt with
    | false=>exact yw ⟨rfl,hD4⟩
    | true =>
     refine xN ⟨_,rfl,fl,_,_,0,rfl,rfl,hD4.get 1 rfl,rfl,rfl,?_⟩;exact hD4.put 1 rfl
   clear hD4;rintro σ J ⟨rfl,hD4⟩;refine ⟨λσ J=>∃ u7,σ=[rq ll,rq le,rq du,rq fl,rq t,iq (S.getD v.j 0),iq cnt,u7,some .non]/\Hd B4 [(du,.lst (s2.1.map V.int)),(fl,.lst [.bl (upQ v.qt (v.hit S LN) s2)])] J,?_,?_⟩
   ·refine ⟨_,rfl,_,rfl,_,rfl,_,rfl,t,_,_,_,rfl,rfl,SqT.of (hD4.sm _ _ et4),zm (j:=0) rfl,le,_,_,_,rfl,rfl,hD4.sql (zw qE sB4),xl v.j vj rfl,_,_,rfl,rfl,_,_,rfl,⟨by omega,by omega,by omega,by omega⟩,?_⟩
    refine xQ (n:=(S.getD v.j 0+LN.getD v.j 0-S.getD v.j 0).toNat) (λi σ J=>∃ u7,σ=[rq ll,rq le,rq du,rq fl,rq t,iq (S.getD v.j 0),iq cnt,u7,some .non]/\Hd B4 [(du,.lst (s2.1.map V.int)),(fl,.lst [.bl ((if v.qt=true then false else s2.2) || Yw s2.1 (S.getD v.j 0) v.pd v.lt i)])] J) ⟨_,rfl,by show Hd B4 [(du,.lst (s2.1.map V.int)),(fl,.lst [.bl ((if v.qt=true then false else s2.2) || false)])] J;rw [Bool.or_false];exact hD4⟩ ?_ ?_
    ·rintro i σ J hi ⟨u7,rfl,h⟩
     rw [hitF_succ,← Bool.or_assoc];generalize ((if v.qt=true then false else s2.2) || Yw s2.1 (S.getD v.j 0) v.pd v.lt i)=ff at *;have e1:(S.getD v.j 0+(i:Int)).toNat<s2.1.length:=by omega
     refine ⟨_,rfl,fl,_,_,_,rfl,rfl,h.lst 1 rfl,zm (j:=0) rfl,_,rfl,?_⟩
     cases ff with
     | true =>
      refine xN ⟨_,rfl,fl,_,_,0,rfl,rfl,h.get 1 rfl,rfl,_,rfl,?_⟩;rw [Bool.true_or];exact h.put 1 rfl
     | false =>
      refine yw ⟨_,rfl,_,rfl,du,_,_,_,rfl,rfl,h.lst 0 rfl,xl (S.getD v.j 0+(i:Int)).toNat e1 (by omega),_,rfl,t,_,_,_,rfl,rfl,SqT.of (h.sm _ _ et4),zm (j:=1) rfl,_,_,rfl,rfl,vo.ok.p0,rfl,?_⟩;refine ⟨_,rfl,t,_,_,_,rfl,rfl,SqT.of (h.sm _ _ et4),zm (j:=5) rfl,_,_,rfl,rfl,rfl,?_⟩;refine ⟨_,rfl,fl,_,_,0,rfl,rfl,h.get 1 rfl,rfl,_,rfl,?_⟩;rw [Bool.false_or,Xs,Yk,show decide ((v.lk:Int)<2)=v.lt by unfold Lv.lt;exact decide_eq_decide.mpr (by omega)];exact h.put 1 rfl
    ·rintro σ J ⟨u7,rfl,h⟩
     rw [eN] at h;exact ⟨u7,rfl,h⟩
   clear hD4;rintro σ J ⟨u7,rfl,hD4⟩;refine ⟨_,rfl,_,_,rfl,rfl,?_⟩;refine ⟨_,rfl,fl,_,_,_,rfl,rfl,hD4.lst 1 rfl,zm (j:=0) rfl,_,rfl,?_⟩
   cases hf:upQ v.qt (v.hit S LN) s2 with
   | true =>
    rw [hf,if_pos rfl] at hR;rw [hf] at hD4;refine xN (k B4 J .non sB4 ?_ ?_)
    ·show Hd B4 [(du,.lst (R.1.1.map V.int)),(fl,.lst [.bl R.1.2])] J
     rw [hR];exact hD4
    ·show RfAt B4 _ R.2
     rw [hR];rfl
   | false =>
    rw [hf,if_neg Bool.noConfusion] at hR;rw [hf] at hD4;exact yw ⟨cnt+1,(s2.1,false),_,_,B4,rfl,by omega,by omega,sB4,pl,hD4,hR⟩
theorem XT (d:zk K mg "_law_played" xi ["_law_levels","_law_lengths","_law_due","_law_flag"]) (hlen:mg "len"=none) (hsum:mg "sum"=none) (hrg:mg "range"=none):∀ n:Nat,Ok P w K mg base CX0 (n+2) "_law_played" ["_law_levels","_law_lengths","_law_due","_law_flag"] (spPlayed K n)
 | 0=>YC (λn' e=>by cases e) d hlen hsum hrg (zch d)
 | n+1=>YC (λn' e=>by cases e;rfl) d hlen hsum hrg (XT d hlen hsum hrg n)
def someV (ns:J9) (k sa m:Int):Int :=
 let x:=(ns.getD k.toNat 0 % 1000003+1)*(48271+1000*k*k+69621*sa*sa) % 2147483647
 x*x % 2147483629 / 3 % m
def zb4 {ns:J9} (h:∀ v∈ns,0<=v) {r r':Nat} (hr:r<r') (hl:r<ns.length):(ns.take r).sum+ns.getD r 0<=(ns.take r').sum:=by
 rw [← ZJ ns r hl];have:=xv (ns.take r') (r+1) λv hv=>h v (List.mem_of_mem_take hv);rw [List.take_take,Nat.min_eq_left (by omega)] at this;exact this.2
def ZV (f:CF->CF×Option Rf) (dbl:Bool) (s:CF):CF×Option Rf:=if dbl=true then (if (f s).2=none then f (f s).1 else f s) else f s
def Yl (dbl:Bool) (c:List (Jl)):List (Jl):=if dbl=true then c++c else c
structure Lvs (LN:J9) (ls:List Lv):Prop where
 l1:1<=LN.length
 l3:LN.length<=3
 n:ls.length=LN.length
 b:∀ v∈LN,1<=v/\v<=6
 g:∀ (k:Nat) v,ls[k]?=some v->LvG k v
def Lvs.vok {LN:J9} {ls:List Lv} (h:Lvs LN ls) {n:Nat} (hn:(n:Int)=LN.sum):∀ v∈ls,VOk (zp LN) LN n v:=λv hv=>by
 obtain ⟨k,hk⟩:=List.mem_iff_getElem?.mp hv;have g:=h.g k v hk;have kl:k<LN.length:=by rw [← h.n];exact (List.getElem?_eq_some_iff.mp hk).1
 have gm:LN.getD v.j 0∈LN:=by
  rw [g.ej,q1x,List.getElem?_eq_getElem kl];exact List.getElem_mem kl
 have gb:=h.b _ gm;have vj:v.j<LN.length:=by rw [g.ej];exact kl
 have rr:=row_room (ns:=LN) (r:=v.j) (m:=LN.getD v.j 0) (λx hx=>by have:=h.b x hx;omega) vj (Int.le_refl _);exact ⟨g.ok,g.m1,by rw [ZM];exact vj,gb.1,gb.2,by rw [Zd vj];exact rr.1,by rw [Zd vj,hn];exact rr.2,g.mb⟩
def Lvs.pair {LN:J9} {ls:List Lv} (h:Lvs LN ls):ls.Pairwise λa b=>(zp LN).getD a.j 0+LN.getD a.j 0<=(zp LN).getD b.j 0:=by
 rw [List.pairwise_iff_getElem];intro i j hi hj hij;have gi:=h.g i _ (List.getElem?_eq_getElem hi);have gj:=h.g j _ (List.getElem?_eq_getElem hj);have hn:=h.n;rw [gi.ej,gj.ej,Zd (by omega),Zd (by omega)];exact zb4 (λv hv=>by have:=h.b v hv;omega) hij (by omega)
def cost_le {d:Nat} (h:d<=3):Xu d<=27864:=by
 have:d=0∨d=1∨d=2∨d=3:=by omega
 rcases this with rfl | rfl | rfl | rfl <;> decide
theorem run41 {Lx:Lex} {LN:J9} {ls:List Lv} {cells dus:J9} {L p q:Nat} {g:Int} (ly:Ly41 Lx) (hl:Lvs LN ls) (hc:(cells.length:Int)=LN.sum) (cb:∀ i:Nat,-1000000000000000<=cells.getD i 0/\cells.getD i 0<=1000000000000000) (L1:1<=L) (L64:L<=64) (hg:g=1∨g=2∨g=4) (p8:((p:Int)+1)*g<=8) (q8:((q:Int)+1)*g<=8) (ne:p≠q) (dbl:Bool) :
  ∃ k M,Run Lx (Yl dbl (zU LN g p q ls)) k (Mc.fresh LN cells L dus []) M/\M.rq_=(ZV (zJ (zp LN) LN ls) dbl (cells,false)).2/\M.cells=(ZV (zJ (zp LN) LN ls) dbl (cells,false)).1.1:=by
 have at0:At41 (zp LN) LN L cells.length 0 [] 0 (cells,false) [] (Mc.fresh LN cells L dus []):=⟨⟨⟨L1,L64,List.length_replicate,List.length_replicate,λm hm=>by rw [List.eq_of_mem_replicate hm];exact List.length_replicate⟩,rfl,rfl,rfl,rfl,rfl,rfl,rfl⟩,⟨rfl,rfl,Nat.le_refl _⟩,λi=>by have:=cb i;show _<=cells.getD i 0/\cells.getD i 0<=_;omega,rfl⟩;have l3:=hl.l3;have ln:=hl.n;have cl:=cost_le (show ls.length<=3 by omega);have hv:=hl.vok hc
 have row0:RowsAt (Yl dbl (zU LN g p q ls)) 0 (zU LN g p q ls):=by
  unfold Yl
  cases dbl with
  | false=>intro i tv e;rw [Nat.zero_add];exact e
  | true =>
   have:RowsAt (zU LN g p q ls++zU LN g p q ls) 0 (zU LN g p q ls++zU LN g p q ls):=λi tv e=>by rw [Nat.zero_add];exact e
   exact this.left
 obtain ⟨k,M,T,st,r⟩:=levels (code:=Yl dbl (zU LN g p q ls)) ly hg p8 q8 ne ls 0 [] 0 (cells,false) [] _ hv hl.pair (by show 0+ls.length<990;omega) row0 at0 (by omega);have lend:∀ {pl us N s T M},At41 (zp LN) LN L cells.length pl us N s T M->pl=(Yl dbl (zU LN g p q ls)).length->((Yl dbl (zU LN g p q ls)).length:Int)<=M.pc:=λh e=>by rw [h.r.pc,e];exact Int.le_refl _
 unfold Res41 at r
 cases e:(zJ (zp LN) LN ls (cells,false)).2 with
 | some x =>
  rw [e] at r
  have ef:ZV (zJ (zp LN) LN ls) dbl (cells,false)=zJ (zp LN) LN ls (cells,false):=by
   unfold ZV;rw [e,if_neg (show ¬ (some x=none) by intro z;cases z)]
   split <;> rfl
  rw [ef,e];exact ⟨k,M,st.run (.inr (by rw [r.1];rfl)),r.1,r.2⟩
 | none =>
  rw [e] at r
  cases dbl with
  | false =>
   have ef:ZV (zJ (zp LN) LN ls) false (cells,false)=zJ (zp LN) LN ls (cells,false):=rfl;rw [ef,e];exact ⟨k,M,st.run (.inl (lend r (Nat.zero_add _))),r.r.rf,r.r.cells⟩
  | true =>
   have ef:ZV (zJ (zp LN) LN ls) true (cells,false)=zJ (zp LN) LN ls (zJ (zp LN) LN ls (cells,false)).1:=by unfold ZV;rw [if_pos rfl,e,if_pos rfl]
   rw [ef]
   have row1:RowsAt (Yl true (zU LN g p q ls)) (0+(zU LN g p q ls).length) (zU LN g p q ls):=by
    have:RowsAt (zU LN g p q ls++zU LN g p q ls) 0 (zU LN g p q ls++zU LN g p q ls):=λi tv e=>by rw [Nat.zero_add];exact e
    exact this.right
   obtain ⟨k2,M2,T2,st2,r2⟩:=levels (code:=Yl true (zU LN g p q ls)) ly hg p8 q8 ne ls _ [] _ _ T M hv hl.pair (by show 0+ls.length<990;omega) row1 r (by omega);unfold Res41 at r2
   cases e2:(zJ (zp LN) LN ls (zJ (zp LN) LN ls (cells,false)).1).2 with
   | some x =>
    rw [e2] at r2;exact ⟨_,M2,(st.trans st2).run (.inr (by rw [r2.1];rfl)),r2.1,r2.2⟩
   | none =>
    rw [e2] at r2;exact ⟨_,M2,(st.trans st2).run (.inl (lend r2 (by show _=(zU LN g p q ls++zU LN g p q ls).length;rw [Jh,Nat.zero_add]))),r2.r.rf,r2.r.cells⟩
def Z9 {z:Str} {a b c d:Int} (h:PyData.canLay0 (.str z)=true):yr [.str "op",.int a,.str z,.int b,.int c,.int d]:=by
 refine ⟨[.str "op",.int a,.str z,.int b,.int c,.int d],λK H=>.cons (.str _) (.cons (.int _) (.cons (.str _) (.cons (.int _) (.cons (.int _) (.cons (.int _) .nil))))),lay_str (by decide +kernel) ?_,yh zay (yh Yj (yh zay (yh Yj (yh Yj (yh Yj YS)))))⟩;show (PyData.canLay0 (.str z) && true)=true;rw [h];rfl
def yM {xs:List (Jl)} (h:∀ tv∈xs,yr tv) {ys:List (Jl)} (h2:∀ tv∈ys,yr tv):∀ tv∈xs++ys,yr tv:=λtv ht=>(List.mem_append.mp ht).elim (h tv) (h2 tv)
def zI {x:Jl} (h:yr x) {xs:List (Jl)} (h2:∀ tv∈xs,yr tv):∀ tv∈x::xs,yr tv:=λtv ht=>by
 rcases List.mem_cons.mp ht with rfl | ht
 ·exact h
 ·exact h2 tv ht
def yc:∀ tv∈([]:List (Jl)),yr tv:=λ_ h=>nomatch h
theorem zao {LN:J9} {g:Int} {p q:Nat}:∀ ls:List Lv,∀ tv∈zU LN g p q ls,yr tv
 | []=>yc
 | v::ls=>by
  have bg:yr [.str "begin",.int (LN.getD v.j 0),.int g]:=yj (ns:=[LN.getD v.j 0,g]) (by decide +kernel);have nx:yr [.str "next"]:=yj (ns:=[]) (by decide +kernel);have ld:yr [.str "load",.int (p:Int),.int (v.j:Int),.int 0]:=yj (ns:=[(p:Int),(v.j:Int),0]) (by decide +kernel);have nu:∀ x:Int,yr [.str "number",.int (q:Int),.int x,.int 0]:=λx=>yj (ns:=[(q:Int),x,0]) (by decide +kernel);have an:∀ x y:Int,yr [.str "any",.int x,.int y]:=λx y=>yj (ns:=[x,y]) (by decide +kernel);have op1:yr [.str "op",.int (p:Int),.str "+",.int (q:Int),.int (p:Int),.int 0]:=Z9 (by decide +kernel);have op2:yr [.str "op",.int (p:Int),.str "rest",.int (p:Int),.int (q:Int),.int 0]:=Z9 (by decide +kernel);have op3:yr [.str "op",.int (p:Int),.str "=",.int (p:Int),.int (q:Int),.int 0]:=Z9 (by decide +kernel);have op4:yr [.str "op",.int (q:Int),.str "/",.int (q:Int),.int (p:Int),.int 0]:=Z9 (by decide +kernel);have so:yr [.str "store",.int (v.j:Int),.int (p:Int),.int 0]:=yj (ns:=[(v.j:Int),(p:Int),0]) (by decide +kernel);have ot:yr [.str "other",.int (v.m:Int),.int (p:Int),.int 0]:=yj (ns:=[(v.m:Int),(p:Int),0]) (by decide +kernel)
  have lk:∀ tv∈v.look p q,yr tv:=by
   unfold Lv.look
   split
   ·exact zI (nu 0) (zI op3 (zI (an _ _) yc))
   ·split
    ·exact zI ot (zI (an _ _) yc)
    ·exact zI op4 (zI (an _ _) yc)
  have qu:∀ tv∈(if v.qt=true then [[V.str "quiet"]] else []),yr tv:=by
   split
   ·exact zI (yj (ns:=[]) (by decide +kernel)) yc
   ·exact yc
  exact yM (yM (yM (yM (yM (zI (yj (ns:=[]) (by decide +kernel)) yc) (zI bg (zI ld (zI (nu 1) (zI op1 (zI so (zI nx yc))))))) (zao ls)) qu) (yM (yM (yM (zI bg yc) (zI ld (zI (nu _) (zI op2 yc)))) lk) (zI nx yc))) (zI (yj (ns:=[v.most,v.num]) (by decide +kernel)) yc)
theorem lk_rf {c:MCs} {B H:Hp} {A:Ma} {M:Mc} (m:MAt c B A M [] H) {rv:V} {ro:Option (Int×Int×Str)} (rf:M.rq_=ro) (er:RfAt H rv ro):Lk H 2 A.rf rv:=by
 have:=m.bb.rf;rw [rf] at this
 cases ro with
 | none=>rw [show A.rf=.non from this,show rv=.non from er];exact .non
 | some r =>
  obtain ⟨t3,e3,q3⟩:=this;obtain ⟨t4,e4,q4⟩:=er;rw [e3,e4];refine .tup (m.h.sm _ _ q3) q4 rfl λi x y hx hy=>?_;rw [hx] at hy;cases hy
  match i,hx with
  | 0,hx=>cases hx;exact .int _
  | 1,hx=>cases hx;exact .int _
  | 2,hx=>cases hx;exact .str _
  | i+3,hx=>cases hx
theorem sum_ge {ns:J9} (h:∀ v∈ns,1<=v/\v<=6):0<=ns.sum/\ns.sum<=6*ns.length:=by
 induction ns with
 | nil=>exact ⟨Int.le_refl _,Int.le_refl _⟩
 | cons n ns ih =>
  have a:=h n q1z;have b:=ih λv hv=>h v (q1y _ hv);rw [List.sum_cons,q3x];omega
theorem getD_in {ns:J9} {A B:Int} (h:∀ v∈ns,A<=v/\v<=B) (h0:A<=0/\0<=B) (i:Nat):A<=ns.getD i 0/\ns.getD i 0<=B:=by
 rw [q1x]
 cases e:ns[i]? with
 | none=>exact h0
 | some v=>exact h v (List.mem_of_getElem? e)
def YY {α:Type} {P:α->Prop} {ls:List α} {v:α} (h:∀ x∈ls,P x) (k:P v):∀ x∈ls++[v],P x:=λx hx=>by
 rcases List.mem_append.mp hx with z | z
 ·exact h x z
 ·rw [List.mem_singleton.mp z];exact k
def iF {b:Bool} {A B:Prop} (hb:b=false) (h:B):if b=true then A else B:=by rw [hb];exact yw h
inductive spLaw (K:Fg) (vs:Jl) (H:Hp) (Q:VK) (_:XK):Prop
 | mk (a:Ad) (ns:J9) (_:vs=[.ref a]) (_:SqL K H a (ns.map V.int)) (_:ns.length<=63) (_:∀ H',Q (.bl true) H')
theorem ok_law {c:MCs} {f:Ad} {fd:FuncData} {Lx:Lex} (F:Fun K "law" "law" Y5 f fd) (AK:AlK K mg) (hlen:mg "len"=none) (hrg:mg "range"=none) (hlist:mg "list"=none) (hsum:mg "sum"=none)
  (CA:Ok P w K mg base CX0 1 "_law_cell_at" ["_law_script","_law_k"] (spCA K)) (SM:Ok P w K mg base CX0 2 "_law_some" ["_law_script","_law_k","_law_salt","_law_many"] (spSome K)) (LA:Ok P w K mg base CX0 1 "_law_lanes" ["_law_cell"] spLanes) (GR:Ok P w K mg base CX0 3 "_law_group" ["_law_script","_law_k","_law_salt"] (spGroup K))
  (NB:Ok P w K mg base CX0 3 "_law_number" ["_law_script","_law_k"] (spNumber K)) (DU:Ok P w K mg base CX0 4 "_law_dust" ["_law_script","_law_k","_law_salt"] (spDust K))
  (LV:Ok P w K mg base CX0 3 "_law_level" ["_law_script","_law_j","_law_deep"] (spLevel K)) (CD:Ok P w K mg base CX0 5 "_law_code" ["_law_levels","_law_lengths","_law_group_here","_law_p","_law_q"] (spCode K 3)) (PD:Ok P w K mg base CX0 5 "_law_played" ["_law_levels","_law_lengths","_law_due","_law_flag"] (spPlayed K 3))
  (AL:Ok P w K mg base CX0 5 "_law_alike" ["_law_found","_law_due"] (spAlike 3)) (RN:Ok P w K mg base CX0 11 "_law_ran" ["_law_code_here","_law_lengths","_law_cells","_law_lanes_here","_law_dust_here","_law_picks"] (spLRan c K Lx)) (ly:Ly41 Lx) :
  FnOk P w K mg base CX0 12 f fd ["_law_script"] (spLaw K):=by
 refine F.ok sc_law (by rintro vs H Q E ⟨_,_,e,_⟩;rw [e];rfl) λcdv A outer s H vs Q E hr h=>?_;obtain ⟨a,ns,rfl,hS,hn,k⟩:=h;have nd:=sc_law.nd;have hr1:Room 1 _:=hr.mono (by decide);have hr2:Room 2 _:=hr.mono (by decide);have hr3:Room 3 _:=hr.mono (by decide);have hr4:Room 4 _:=hr.mono (by decide);have hr5:Room 5 _:=hr.mono (by decide);have hr11:Room 11 _:=hr;have SL:(200000:Nat)<sizeLine:=by decide
 refine ⟨_,(zd (zv (i:=1) nd rfl (Or.inr rfl) (zi zB zc (zH SM hr2 (by rfl) zt (zb (pv 0) (zb zc (zb zc (zb zc ze)))))))
   (zd (zbf (i:=2) ["_law_j","_law_script","_law_deep"] [none,some 0,some 1] rfl rfl rfl (yN rfl hrg (zb (pv 1) ze)) (λs3 H3 fp=>⟨zR (i:=0) (Jn ["_law_j","_law_script","_law_deep"]) rfl (Or.inl rfl),(zH LV hr3 (by rfl) zt (zb (pv 1) (zb (pv 0) (zb (pv 2) ze))))⟩) nd rfl (Or.inl rfl))
   (zd (xb (zbf (i:=4) ["_law_j","_law_script"] [none,some 0] rfl rfl rfl (yN rfl hrg (zb (pv 1) ze)) (λs3 H3 fp=>⟨zR (i:=0) (Jn ["_law_j","_law_script"]) rfl (Or.inl rfl),(zi zB zc (zH SM hr2 (by rfl) zt (zb (pv 1) (zb (zi zB zc (pv 0)) (zb zc (zb zc ze))))))⟩) nd rfl (Or.inl rfl)))
   (zd (zv (i:=5) nd rfl (Or.inl rfl) (yk ze))
   (zd (xb (Zn PassesOwn.never rfl (yN rfl hrg (zb (zD (Xy rfl) (by rfl) hsum PyProof.Rows.boot_sum (zb (pv 4) ze)) ze)) (zR (i:=6) nd rfl (Or.inl rfl)) (zd (zv (i:=7) nd rfl (Or.inl rfl) (zH NB hr3 (by rfl) zt (zb (pv 0) (zb (zi zB zc (pv 6)) ze))))
   (zf (zW (pe_bm PySem.F.plainAttrs_list PySem.F.slot_list_append PySem.F.type_list_append xj (pv 5) (zb (Xd (zK op_gt (pv 7) zc (zG _)) (zi Zo (zi yD (pv 7) zc) zc) (zi Zo (zi yD (pv 7) zc) zc)) ze)))))))
   (zd (zv (i:=8) nd rfl (Or.inl rfl) (zi zB zc (zH SM hr2 (by rfl) zt (zb (pv 0) (zb zc (zb zc (zb zc ze)))))))
   (zd (xb (zZ (zK xf (pv 1) zc (zG _)) (zf (zv (i:=8) nd rfl (Or.inl rfl) (zH LA hr1 (by rfl) zt (zb (zH CA hr1 (by rfl) zt (zb (pv 0) (zb zc ze))) ze)))) zE))
   (zd (zv (i:=9) nd rfl (Or.inl rfl) (zH GR hr3 (by rfl) zt (zb (pv 0) (zb zc (zb zc ze)))))
   (zd (zv (i:=10) nd rfl (Or.inl rfl) (zH SM hr2 (by rfl) zt (zb (pv 0) (zb zc (zb zc (zb (zi Yc zc (pv 9)) ze))))))
   (zd (xb (zv (i:=11) nd rfl (Or.inl rfl) (zi yD (zi zB (zi zB (pv 10) zc) (zH SM hr2 (by rfl) zt (zb (pv 0) (zb zc (zb zc (zb (zi Zo (zi Yc zc (pv 9)) zc) ze)))))) (zi Yc zc (pv 9)))))
   (zd (zv (i:=12) nd rfl (Or.inl rfl) (zH CD hr5 (by rfl) zt (zb (pv 2) (zb (pv 4) (zb (pv 9) (zb (pv 10) (zb (pv 11) ze)))))))
   (zd (zv (i:=13) nd rfl (Or.inl rfl) (yp ya (by rfl) hlist PyProof.Rows.boot_list (zb (pv 5) ze)))
   (zd (xb (zv (i:=14) nd rfl (Or.inl rfl) (yk (zb xB ze))))
   (zd (zv (i:=15) nd rfl (Or.inl rfl) (zH PD hr5 (by rfl) zt (zb (pv 2) (zb (pv 4) (zb (pv 13) (zb (pv 14) ze))))))
   (zd (xb (zZ (zK xf (zH SM hr2 (by rfl) zt (zb (pv 0) (zb zc (zb zc (zb zc ze))))) zc (zG _)) (zd (zv (i:=12) nd rfl (Or.inl rfl) (zi Zp (pv 12) (pv 12)))
   (zf (zZ (zK Xh (pv 15) yW (zG _)) (zf (zv (i:=15) nd rfl (Or.inl rfl) (zH PD hr5 (by rfl) zt (zb (pv 2) (zb (pv 4) (zb (pv 13) (zb (pv 14) ze))))))) zE))) zE))
   (zd (zv (i:=16) nd rfl (Or.inl rfl) (zH RN hr11 (by rfl) zt (zb (pv 12) (zb (pv 4) (zb (pv 5) (zb (pv 8) (zb (zH DU hr4 (by rfl) zt (zb (pv 0) (zb zc (zb zc ze)))) (zb (yk ze) ze))))))))
   (zd (zZ (pw_or (Xa (yQ (zD yi (by rfl) AK.isi PyProof.Rows.boot_isinstance (zb (pv 16) (zb (xR AK.tup PyProof.Rows.boot_tuple) ze))))) (pw_or1 (zK op_ne (zD zV (by rfl) hlen PySem.boot_len (zb (pv 16) ze)) zc (zG _)))).pt (zf (zo xB)) zE)
   (zf (zo (zH AL hr5 (by rfl) zt (zb (zM (zb (zq zy (pv 16) zc (λ_ _=>rfl)) (zb (zq zy (pv 16) zc (λ_ _=>rfl)) ze))) (zb (zM (zb (pv 13) (zb (pv 15) ze))) ze)))))))))))))))))))))),?_⟩
 dsimp only [ym,Cx.nox,Cx.wish];refine ⟨_,rfl,a,ns,0,1,3,rfl,hS,by decide,by decide,by decide,by decide,by decide,λr1 r10 r11=>⟨_,_,rfl,rfl,?_⟩⟩;obtain ⟨dp,er⟩:∃ n:Nat,1+r1=n:=⟨(1+r1).toNat,by omega⟩;rw [er];have dp3:1<=dp/\dp<=3:=by omega
 clear er r10 r11;refine ⟨_,rfl,_,rfl,by omega,by omega,_,rfl,λx1 nx1=>?_⟩;generalize hX:upd _ _ _=H1;have h0:=hdN hX nx1;clear hX;refine xS (n:=dp) (λi σ J=>∃ (u:Jm) (B:Hp) (ts:Je) (ls:List Lv),σ=[u,rq a,iq dp]/\Same H B/\Hd B [(x1,.lst (ts.map V.ref))] J/\CodeAt B ts (ls.map lvT)/\ls.length=i/\(∀ (k:Nat) v,ls[k]?=some v->LvG k v)) ⟨none,H,[],[],rfl,Same.refl _,h0,Xv,rfl,λk v z=>by cases z⟩ ?_ ?_
 ·clear h0
  rintro i σ J hi ⟨u,B,ts,ls,rfl,sB,hD,cT,ll,hG⟩;refine ⟨_,rfl,_,rfl,_,rfl,a,ns,i,(dp:Int),by rw [Int.zero_add];rfl,hD.sql (zw hS sB),by omega,by omega,by omega,λJ2 t v s2 et g=>?_⟩;obtain ⟨B2,sB2,hD2,hB2⟩:=hD.over s2;have ex:=hD2.get 0 rfl;have tx:t≠x1:=ne_of et ex (by intro z;cases z);have eB:=hB2 _ _ et (by intro z;exact tx (List.mem_singleton.mp z));have tl:ts.length=i:=by rw [cT.n,Jg];exact ll
  refine ⟨_,ex,(by rw [Jg];omega),_,B2,ts++[t],ls++[v],rfl,sB.trans sB2,by rw [Ji];exact hD2.put 0 rfl,?_,by rw [Jh,ll];rfl,λk u hu=>?_⟩
  ·rw [Ji]
   exact yR (cT.same sB2) (xy eB)
  ·by_cases z:k<ls.length
   ·rw [q4x z] at hu
    exact hG k u hu
   ·rw [List.getElem?_append_right (by omega)] at hu
    obtain ⟨kk,hk⟩:∃ kk,k-ls.length=kk:=⟨_,rfl⟩;rw [hk] at hu
    cases kk with
    | zero=>cases hu;rw [show k=i by omega];exact g
    | succ kk=>cases hu
 clear h0 H1;rintro σ H1 ⟨u,B,ts,ls,rfl,sB,hD,cT,ll,hG⟩;replace hS:=hD.sql (zw hS sB);have eL:=hD.get 0 rfl;replace cT:=cT.same hD.sm;clear sB hD;refine ⟨λσ J=>∃ (x2:Ad) (LN:J9),σ=[rq a,iq dp,rq x1,none,rq x2,none,none,none,none,none,none,none,none,none,none,none,none]/\Same H1 J/\J x2=some (.lst (LN.map V.int))/\LN.length=dp/\∀ v∈LN,1<=v/\v<=6,?_,?_⟩
 ·refine ⟨_,rfl,_,rfl,by omega,by omega,_,rfl,λx2 nx2=>?_⟩
  generalize hX:upd _ _ _=H2;have h0:=hdN hX nx2;clear hX;refine xS (n:=dp) (λi σ J=>∃ (u:Jm) (LN:J9),σ=[u,rq a]/\Hd H1 [(x2,.lst (LN.map V.int))] J/\LN.length=i/\∀ v∈LN,1<=v/\v<=6) ⟨none,[],rfl,h0,rfl,λv z=>nomatch z⟩ ?_ ?_
  ·clear h0
   rintro i σ J hi ⟨u,LN,rfl,h,ln,lb⟩;refine ⟨_,rfl,_,rfl,_,_,rfl,rfl,a,ns,3+(0+(i:Int)),6,6,rfl,h.sql hS,by omega,by omega,by decide,by decide,by decide,λv v0 v1=>⟨_,_,rfl,rfl,?_⟩⟩;refine ⟨_,h.get 0 rfl,(by rw [Jg];omega),_,LN++[1+v],rfl,by rw [Ji];exact h.put 0 rfl,by rw [Jh,ln];rfl,YY lb ⟨by omega,by omega⟩⟩
  ·rintro σ J ⟨u,LN,rfl,h,ln,lb⟩
   exact ⟨x2,LN,rfl,h.sm,h.get 0 rfl,ln,lb⟩
 rintro σ H2 ⟨x2,LN,rfl,s2,eN,lN,bN⟩;replace hS:=zw hS s2;replace eL:=s2 _ _ eL;replace cT:=cT.same s2;have sb:=sum_ge bN;have HL:Lvs LN ls:=⟨by omega,by omega,by omega,bN,hG⟩;clear s2;refine ⟨(sz 0),λx3 nx3=>?_⟩;generalize hX:upd _ _ _=H3;have h3:=hdN hX nx3;clear hX;refine ⟨λσ J=>∃ (u6 u7:Jm) (cells:J9),σ=[rq a,iq dp,rq x1,none,rq x2,rq x3,u6,u7,none,none,none,none,none,none,none,none,none]/\Hd H2 [(x3,.lst (cells.map V.int))] J/\(cells.length:Int)=LN.sum/\∀ v∈cells,-1000000000000000<=v/\v<=1000000000000000,?_,?_⟩
 ·refine ⟨_,rfl,x2,LN,rfl,SqL.of (h3.sm _ _ eN),_,rfl,by omega,by omega,?_⟩
  refine xQ (n:=LN.sum.toNat) (λi σ J=>∃ (u6 u7:Jm) (cells:J9),σ=[rq a,iq dp,rq x1,none,rq x2,rq x3,u6,u7,none,none,none,none,none,none,none,none,none]/\Hd H2 [(x3,.lst (cells.map V.int))] J/\cells.length=i/\∀ v∈cells,-1000000000000000<=v/\v<=1000000000000000) ⟨_,_,[],rfl,h3,rfl,λv z=>nomatch z⟩ ?_ ?_
  ·clear h3
   rintro i σ J hi ⟨u6,u7,cells,rfl,h,cl,cb⟩;refine ⟨_,rfl,_,rfl,_,_,rfl,rfl,a,ns,6+(0+(i:Int)),rfl,h.sql hS,by omega,by omega,λr=>?_⟩;refine ⟨_,rfl,.inl ⟨rfl,_,h.lst 0 rfl⟩,?_⟩;refine ⟨_,rfl,_,_,rfl,rfl,_,rfl,?_⟩;refine xA (λz=>?_) (λz=>?_)
   ·refine ⟨_,rfl,_,_,rfl,rfl,(by show (0:Int)<2000000000000000;decide),_,_,rfl,rfl,?_⟩
    refine ⟨x3,_,_,rfl,rfl,h.get 0 rfl,(by rw [Jg];omega),?_⟩;exact ⟨_,_,cells++[r % 2000000000000000-1000000000000000],rfl,by rw [Ji];exact h.put 0 rfl,by rw [Jh,cl];rfl,YY cb ⟨by omega,by omega⟩⟩
   ·refine ⟨_,rfl,_,_,rfl,rfl,(by show (0:Int)<50;decide),_,_,rfl,rfl,?_⟩
    refine ⟨x3,_,_,rfl,rfl,h.get 0 rfl,(by rw [Jg];omega),?_⟩;exact ⟨_,_,cells++[r % 50-25],rfl,by rw [Ji];exact h.put 0 rfl,by rw [Jh,cl];rfl,YY cb ⟨by omega,by omega⟩⟩
  ·rintro σ J ⟨u6,u7,cells,rfl,h,cl,cb⟩
   exact ⟨u6,u7,cells,rfl,h,by omega,cb⟩
 clear h3 H3;rintro σ H3 ⟨u6,u7,cells,rfl,h3,cl,cb⟩;replace hS:=h3.sql hS;replace eL:=h3.sm _ _ eL;replace eN:=h3.sm _ _ eN;replace cT:=cT.same h3.sm;have eC:=h3.get 0 rfl;clear h3 nx3 nx1;replace cb:=λi=>getD_in cb (by decide) i;refine ⟨_,rfl,a,ns,1,1,9,rfl,hS,by decide,by decide,by decide,by decide,by decide,λl0 l00 l01=>⟨_,_,rfl,rfl,?_⟩⟩;refine ⟨λσ J=>∃ L:Nat,σ=[rq a,iq dp,rq x1,none,rq x2,rq x3,u6,u7,iq L,none,none,none,none,none,none,none,none]/\J=H3/\1<=L/\L<=64,?_,?_⟩
 ·refine ⟨_,rfl,rfl,_,rfl,?_⟩
  refine xA (λz=>?_) (λz=>?_)
  ·refine ⟨_,rfl,a,ns,1,rfl,hS,by decide,_,rfl,λL1 l1 l64=>?_⟩
   exact ⟨L1.toNat,by rw [Int.toNat_of_nonneg (by omega)];rfl,rfl,by omega,by omega⟩
  ·exact ⟨(1+l0).toNat,by rw [Int.toNat_of_nonneg (by omega)];rfl,rfl,by omega,by omega⟩
 rintro σ J ⟨L,rfl,rfl,L1,L64⟩;clear l00 l01;refine ⟨_,rfl,a,ns,1,2,rfl,hS,by decide,by decide,by decide,by decide,λgg H4 s4 hg=>?_⟩;replace hS:=zw hS s4;replace eL:=s4 _ _ eL;replace eN:=s4 _ _ eN;replace cT:=cT.same s4;replace eC:=s4 _ _ eC;clear s4;obtain ⟨m8,e8,m81,m82⟩:∃ m8:Int,(8:Int).fdiv gg=m8/\2<=m8/\m8*gg<=8:=by rcases hg with e | e | e <;> subst e <;> exact ⟨_,rfl,by decide,by decide⟩
 have g1:1<=gg/\gg<=4:=by omega
 refine ⟨_,rfl,_,rfl,_,_,rfl,rfl,⟨by omega,by omega,by omega⟩,a,ns,1,3,m8,(by rw [← e8];rfl),hS,by decide,by decide,by decide,by decide,by omega,λseat seat0 seat1=>?_⟩;obtain ⟨p,rfl⟩:∃ n:Nat,seat=n:=⟨seat.toNat,by omega⟩;refine ⟨λσ J=>∃ q:Nat,σ=[rq a,iq dp,rq x1,none,rq x2,rq x3,u6,u7,iq L,iq gg,iq p,iq q,none,none,none,none,none]/\J=H4/\(q:Int)<m8/\p≠q,?_,?_⟩
 ·refine ⟨_,rfl,_,_,rfl,rfl,_,rfl,_,rfl,_,_,rfl,rfl,⟨by omega,by omega,by omega⟩,_,_,rfl,rfl,a,ns,1,4,m8-1,(by rw [← e8];rfl),hS,by decide,by decide,by decide,by decide,by omega,λsq sq0 sq1=>⟨_,_,rfl,rfl,?_⟩⟩
  refine ⟨_,rfl,_,_,rfl,rfl,⟨by omega,by omega,by omega⟩,_,_,rfl,rfl,(by show 0<(8:Int).fdiv gg;omega),?_⟩;show ∃ q:Nat,[some (.ref a),some (.int dp),some (.ref x1),none,some (.ref x2),some (.ref x3),u6,u7,some (.int L),some (.int gg),some (.int p),some (V.int (((p:Int)+1+sq) % ((8:Int).fdiv gg))),none,none,none,none,none]=_/\_;rw [e8];have q0:=Int.emod_nonneg ((p:Int)+1+sq) (show m8≠0 by omega);have q1:=Int.emod_lt_of_pos ((p:Int)+1+sq) (show 0<m8 by omega);refine ⟨(((p:Int)+1+sq) % m8).toNat,by rw [Int.toNat_of_nonneg q0],rfl,by omega,λz=>?_⟩;have e9:((p:Int)+1+sq) % m8=p:=by omega
  by_cases y:(p:Int)+1+sq<m8
  ·rw [Int.emod_eq_of_lt (by omega) y] at e9;omega
  ·have e10:((p:Int)+1+sq) % m8=((p:Int)+1+sq-m8) % m8:=by rw [Int.sub_emod_right]
   rw [e10,Int.emod_eq_of_lt (by omega) (by omega)] at e9;omega
 rintro σ J ⟨q,rfl,rfl,qm,ne⟩
 have p8:((p:Int)+1)*gg<=8:=by
  have e1:((p:Int)+1)*gg<=m8*gg:=Int.mul_le_mul_of_nonneg_right (by omega) (by omega);omega
 have q8:((q:Int)+1)*gg<=8:=by
  have e1:((q:Int)+1)*gg<=m8*gg:=Int.mul_le_mul_of_nonneg_right (by omega) (by omega);omega
 clear seat0 seat1 m82 m81 e8 qm
 refine ⟨_,rfl,_,rfl,_,rfl,_,rfl,_,rfl,x1,x2,ts,ls,LN,gg,p,q,rfl,by omega,by decide,SqL.of eL,cT,SqL.of eN,λv hv=>by
  have w:=HL.vok cl v hv;exact ⟨w.ok.k3,by have:=w.hj;rw [ZM] at this;exact this⟩,λH5 cd cs s5 ecd cC=>?_⟩
 replace hS:=zw hS s5;replace eL:=s5 _ _ eL;replace eN:=s5 _ _ eN;replace cT:=cT.same s5;replace eC:=s5 _ _ eC;clear s5;refine ⟨_,rfl,x3,_,rfl,.inl (SqL.of eC),λdu ndu=>?_⟩;generalize hX:upd _ _ _=H6;have h6:=hdN hX ndu;clear hX;refine ⟨λσ J=>∃ fl:Ad,σ=[rq a,iq dp,rq x1,none,rq x2,rq x3,u6,u7,iq L,iq gg,iq p,iq q,rq cd,rq du,rq fl,none,none]/\Hd H5 [(du,.lst (cells.map V.int)),(fl,.lst [.bl false])] J,?_,?_⟩
 ·refine ⟨(sz 1),λfl nfl=>?_⟩
  exact ⟨fl,rfl,h6.fnew nfl⟩
 clear h6 ndu H6;rintro σ J ⟨fl,rfl,hD⟩;have vok:=HL.vok cl;have cl18:cells.length<=18:=by omega
 refine ⟨_,rfl,_,rfl,_,rfl,_,rfl,H5,x1,x2,du,fl,ts,ls,LN,(cells,false),rfl,by omega,SqL.of eL,cT,SqL.of eN,vok,by show cells.length<=1000;omega,hD,λB6 J6 rv sB6 hD6 er=>?_⟩;replace hS:=zw hS sB6;replace eL:=sB6 _ _ eL;replace eN:=sB6 _ _ eN;replace cT:=cT.same sB6;replace eC:=sB6 _ _ eC;replace ecd:=sB6 _ _ ecd;replace cC:=cC.same sB6;clear hD sB6 J;have clen:=ZH (LN:=LN) (g:=gg) (p:=p) (q:=q) ls;have ll3:ls.length<=3:=by omega
 have csl:cs.length<=51:=by rw [cC.n];omega
 refine ⟨λσ J=>∃ (dbl:Bool) (rv:V) (B7:Hp) (cd2:Ad) (cs2:Je),σ=[rq a,iq dp,rq x1,none,rq x2,rq x3,u6,u7,iq L,iq gg,iq p,iq q,rq cd2,rq du,rq fl,some rv,none]/\Same B6 B7/\Hd B7 [(du,.lst ((ZV (zJ (zp LN) LN ls) dbl (cells,false)).1.1.map V.int)),(fl,.lst [.bl (ZV (zJ (zp LN) LN ls) dbl (cells,false)).1.2])] J/\RfAt B7 rv (ZV (zJ (zp LN) LN ls) dbl (cells,false)).2/\B7 cd2=some (.lst (cs2.map V.ref))/\CodeAt B7 cs2 (Yl dbl (zU LN gg p q ls)),?_,?_⟩
 ·refine ⟨_,rfl,a,ns,0,2,4,rfl,hD6.sql hS,by decide,by decide,by decide,by decide,by decide,λr _ _=>⟨rfl,_,rfl,?_⟩⟩
  refine xA (λz=>?_) (λz=>?_)
  rotate_left
  ·exact ⟨false,rv,B6,cd,cs,rfl,Same.refl _,hD6,er,ecd,cC⟩
  refine ⟨_,rfl,_,rfl,cd,cd,_,_,rfl,rfl,hD6.sm _ _ ecd,hD6.sm _ _ ecd,by rw [Jg];omega,λcd2 ncd2=>?_⟩;generalize hX:upd _ _ _=J7;obtain ⟨B7,sB7,ec2,hD7⟩:=hdG hD6 hX ncd2;clear hX hD6;replace er:=er.same sB7;replace cC:=cC.same sB7;have cC2:CodeAt B7 (cs++cs) (Yl true (zU LN gg p q ls)):=yR cC cC;refine ⟨_,rfl,rfl,_,rfl,?_⟩
  cases e:(zJ (zp LN) LN ls (cells,false)).2 with
  | some x =>
   have ef:ZV (zJ (zp LN) LN ls) true (cells,false)=zJ (zp LN) LN ls (cells,false):=by
    unfold ZV;rw [if_pos rfl,e,if_neg (show ¬ (some x=none) by intro z;cases z)]
   have er':=er;rw [e] at er';obtain ⟨t9,rfl,_⟩:=er';refine yw ⟨true,.ref t9,B7,cd2,cs++cs,rfl,sB7,?_,?_,by rw [Ji];exact ec2,cC2⟩
   ·rw [ef];exact hD7
   ·rw [ef];exact er
  | none =>
   have ef:ZV (zJ (zp LN) LN ls) true (cells,false)=zJ (zp LN) LN ls (zJ (zp LN) LN ls (cells,false)).1:=by unfold ZV;rw [if_pos rfl,e,if_pos rfl]
   rw [e] at er;have er:rv=.non:=er;subst er;have pl:=Yr (S:=zp LN) (LN:=LN) ls (cells,false);have pl:(zJ (zp LN) LN ls (cells,false)).1.1.length=cells.length:=pl;refine xN ⟨_,rfl,_,rfl,_,rfl,_,rfl,B7,x1,x2,du,fl,ts,ls,LN,(zJ (zp LN) LN ls (cells,false)).1,rfl,by omega,SqL.of (sB7 _ _ eL),cT.same sB7,SqL.of (sB7 _ _ eN),by rw [pl];exact vok,by omega,hD7,λB8 J8 rv sB8 hD8 er8=>?_⟩;refine ⟨true,rv,B8,cd2,cs++cs,rfl,sB7.trans sB8,?_,?_,by rw [Ji];exact sB8 _ _ ec2,cC2.same sB8⟩
   ·rw [ef];exact hD8
   ·rw [ef];exact er8
 clear hD6 er ecd cC csl clen;rintro σ J ⟨dbl,rv,B7,cd2,cs2,rfl,sB7,hD,er,ecd,cC⟩;replace hS:=zw hS sB7;replace eN:=sB7 _ _ eN;replace eC:=sB7 _ _ eC;clear sB7 eL cT;obtain ⟨fin,hfin⟩:∃ x,x=ZV (zJ (zp LN) LN ls) dbl (cells,false):=⟨_,rfl⟩;rw [← hfin] at hD er
 have plain:∀ tv∈Yl dbl (zU LN gg p q ls),yr tv:=by
  unfold Yl
  split
  ·exact yM (zao ls) (zao ls)
  ·exact zao ls
 have clen:(Yl dbl (zU LN gg p q ls)).length<=102:=by
  have:=ZH (LN:=LN) (g:=gg) (p:=p) (q:=q) ls;unfold Yl
  split
  ·rw [Jh];omega
  ·omega
 refine ⟨_,rfl,_,rfl,_,rfl,_,rfl,_,rfl,a,ns,2,5,rfl,hD.sql hS,by decide,by decide,by decide,by decide,λJ2 dd dus ld hdu=>?_⟩;have e2:=hdu.get 0 rfl;have sA:=hdu.sm;clear hdu;refine ⟨(sz 0),λpk npk=>?_⟩;generalize hX:upd _ _ _=J3;obtain ⟨sX,e3⟩:=ye hX npk;replace sA:=sA.trans sX;replace e2:=sX _ _ e2;clear hX sX;obtain ⟨kk,M,run,rf',ce'⟩:=run41 (dus:=dus) ly HL cl cb L1 L64 hg p8 q8 ne dbl;rw [← hfin] at rf' ce';refine ⟨cd2,x2,x3,dd,pk,cs2,_,LN,cells,dus,[],L,kk,M,rfl,SqL.of (sA _ _ (hD.sm _ _ ecd)),cC.same (hD.sm.trans sA),plain,SqL.of (sA _ _ (hD.sm _ _ eN)),SqL.of (sA _ _ (hD.sm _ _ eC)),SqL.of e2,SqL.of e3,by omega,by omega,by omega,by omega,run,λB9 A9 H9 t s9 m9 et=>?_⟩;have sG:=(sA.trans s9).trans m9.h.sm;have et':=m9.h.sm _ _ et;have eAC:H9 A9.aC=some (.lst (fin.1.1.map V.int)):=by have:=m9.h.get (i:=1) (a:=A9.aC) rfl;rw [this,ce']
 have hT9:SqT K H9 t [.ref A9.aC,A9.rf,.ref A9.aT]:=SqT.of et';have lr:=lk_rf m9 rf' (er.same (hD.sm.trans sG));have eDU:=sG _ _ (hD.get 0 rfl);refine ⟨_,rfl,_,_,.type "tuple",.type "tuple",true,rfl,rel_ty.1,rel_ty.2,xT (.tup et'),AK.tt,_,rfl,yw ?_⟩;refine ⟨_,rfl,t,_,rfl,.inr hT9,rfl,_,rfl,iF rfl ?_⟩;clear sA;have sA:Same H9 H9:=Same.refl _;refine ⟨_,rfl,t,_,_,_,rfl,rfl,hT9,rfl,_,rfl,t,_,_,_,rfl,rfl,hT9,rfl,(sz 2),λt1 nt1=>?_⟩;generalize hX:upd _ _ _=G1;obtain ⟨sX,g1'⟩:=ye hX nt1;replace sA:=sA.trans sX;clear hX sX;refine ⟨_,rfl,_,rfl,(sz 2),λt2 nt2=>?_⟩;generalize hX:upd _ _ _=G2;obtain ⟨sX,g2'⟩:=ye hX nt2;replace sA:=sA.trans sX;replace g1':=sX _ _ g1';clear hX sX;refine ⟨_,_,rfl,.tup g1' g2' rfl λi x y hx hy=>?_,λH11 s11=>k _⟩
 match i,hx,hy with
 | 0,hx,hy =>
  cases hx;cases hy;refine .lst (sA _ _ eAC) (sA _ _ eDU) rfl λi x y hx hy=>?_;obtain ⟨n,_,rfl⟩:=Zv hx;rw [hx] at hy;cases hy;exact .int _
 | 1,hx,hy=>cases hx;cases hy;exact lr.same sA
 | n+2,hx,hy=>cases hx
def Lx:Lex:=⟨λw f=>(w="load"/\f=Yf)∨(w="number"/\f=numM)∨(w="op"/\f=opM),λw f=>(w="store"/\f=Zs)∨(w="other"/\f=xO true)∨(w="any"/\f=anyM),λw f=>(w="begin"/\f=Yy)∨(w="next"/\f=XV)∨(w="turns"/\f=turnsW)∨(w="quiet"/\f=quietW)∨(w="till"/\f=tillW)⟩
def lx_41:Ly41 Lx:=⟨⟨.inl ⟨rfl,rfl⟩,.inr (.inl ⟨rfl,rfl⟩),.inr (.inr ⟨rfl,rfl⟩),.inl ⟨rfl,rfl⟩,.inr (.inl ⟨rfl,rfl⟩),.inr (.inr ⟨rfl,rfl⟩)⟩,.inl ⟨rfl,rfl⟩,.inr (.inl ⟨rfl,rfl⟩),.inr (.inr (.inl ⟨rfl,rfl⟩)),.inr (.inr (.inr (.inl ⟨rfl,rfl⟩))),.inr (.inr (.inr (.inr ⟨rfl,rfl⟩)))⟩
def own_in {K:Fg} {h₀:Heap} {mg:J0} {x:Str} {C:Ad} {bmB:Jb} {newId:String} (X:K.In h₀) (hm:mg x=some (.ref C)) (q:PySem.W.excIn K C bmB newId=true):PyProof.Rows.OwnCls x C bmB newId mg h₀:=by
 refine ⟨hm,?_⟩;unfold PySem.W.excIn at q
 split at q
 ·rename_i dd cd sl ho
  split at q
  ·rename_i C' bm k0 k1 k2 k3 n k5 hm hs
   simp only [Bool.and_eq_true,beq_iff_eq,Bool.not_eq_true'] at q;obtain ⟨⟨⟨⟨⟨rfl,rfl⟩,hdel⟩,ht⟩,hok⟩,hni⟩:=q;obtain ⟨nm,bs,mro,ns,qn,hd,sn,sub,ab,col,del⟩:=cd;dsimp only at hm hdel hok hni;subst hm hdel
   obtain rfl:sl=#[k0,k1,k2,k3,some (.builtin n),k5]:=by
    obtain ⟨l⟩:=sl;simp only at hs;rw [hs]
   exact ⟨bm,ns,nm,qn,bs,hd,sn,sub,ab,col,dd,k0,k1,k2,k3,k5,_,X _ _ ho,.of_isNs (PySem.W.isNs_of_in X hok),PySem.W.nsMap_none_of_in X hok hni,PySem.W.tail_of_in X ht⟩
  ·cases q
 ·cases q
theorem uc {n:Nat}:∀ {us:Jb},us.length=n+1->∃ a r,us=a::r/\r.length=n
 | a::r,h=>⟨a,r,rfl,Nat.succ.inj h⟩
def us1 {p:Jb->Prop} (h:∀ a0,p [a0]):∀ us:Jb,us.length=1->p us:=by
 intro us e;obtain ⟨a0,u0,rfl,e0⟩:=uc e;cases List.eq_nil_of_length_eq_zero e0;exact h _
def us2 {p:Jb->Prop} (h:∀ a0 a1,p [a0,a1]):∀ us:Jb,us.length=2->p us:=by
 intro us e;obtain ⟨a0,u0,rfl,e0⟩:=uc e;obtain ⟨a1,u1,rfl,e1⟩:=uc e0;cases List.eq_nil_of_length_eq_zero e1;exact h _ _
def us3 {p:Jb->Prop} (h:∀ a0 a1 a2,p [a0,a1,a2]):∀ us:Jb,us.length=3->p us:=by
 intro us e;obtain ⟨a0,u0,rfl,e0⟩:=uc e;obtain ⟨a1,u1,rfl,e1⟩:=uc e0;obtain ⟨a2,u2,rfl,e2⟩:=uc e1;cases List.eq_nil_of_length_eq_zero e2;exact h _ _ _
def us4 {p:Jb->Prop} (h:∀ a0 a1 a2 a3,p [a0,a1,a2,a3]):∀ us:Jb,us.length=4->p us:=by
 intro us e;obtain ⟨a0,u0,rfl,e0⟩:=uc e;obtain ⟨a1,u1,rfl,e1⟩:=uc e0;obtain ⟨a2,u2,rfl,e2⟩:=uc e1;obtain ⟨a3,u3,rfl,e3⟩:=uc e2;cases List.eq_nil_of_length_eq_zero e3;exact h _ _ _ _
def us5 {p:Jb->Prop} (h:∀ a0 a1 a2 a3 a4,p [a0,a1,a2,a3,a4]):∀ us:Jb,us.length=5->p us:=by
 intro us e;obtain ⟨a0,u0,rfl,e0⟩:=uc e;obtain ⟨a1,u1,rfl,e1⟩:=uc e0;obtain ⟨a2,u2,rfl,e2⟩:=uc e1;obtain ⟨a3,u3,rfl,e3⟩:=uc e2;obtain ⟨a4,u4,rfl,e4⟩:=uc e3;cases List.eq_nil_of_length_eq_zero e4;exact h _ _ _ _ _
def us6 {p:Jb->Prop} (h:∀ a0 a1 a2 a3 a4 a5,p [a0,a1,a2,a3,a4,a5]):∀ us:Jb,us.length=6->p us:=by
 intro us e;obtain ⟨a0,u0,rfl,e0⟩:=uc e;obtain ⟨a1,u1,rfl,e1⟩:=uc e0;obtain ⟨a2,u2,rfl,e2⟩:=uc e1;obtain ⟨a3,u3,rfl,e3⟩:=uc e2;obtain ⟨a4,u4,rfl,e4⟩:=uc e3;obtain ⟨a5,u5,rfl,e5⟩:=uc e4;cases List.eq_nil_of_length_eq_zero e5;exact h _ _ _ _ _ _
def all_mk {l:PySem.W.OpenLaw} {w:World} {K:Fg} {h:Heap} {mg:J0} {fa f_start_of f_kept f_plus f_minus f_times f_refuse_nought f_quotient f_remainder f_lesser f_greater f_is_less f_is_equal f_bits_of_both f_bits_of_either f_bits_of_one f_done f_lay_chosen f_play_choose f_play_other f_play_store f_play_any f_has_effect f_play_effect f_numbers_written f_numbers_loaded f_number_joined f_numbers_joined f_lays_seat f_play_seat_step f_play_begin f_play_next f_play_turns f_play_quiet f_play_till f_place_behind f_ran f_l_cell_at f_l_some f_l_number f_l_alike f_l_lanes f_l_group f_l_dust f_l_ran f_l_level f_l_look f_l_code f_l_played f_law C_Boxes C_Feed C_Bench:Ad} {TS TE TW f_numbers_of_here f_numbers_spread f_numbers_shifted f_numbers_gathered f_numbers_picked f_numbers_copied f_numbers_brought f_play_reach f_play_trim f_play_stop f_play_save f_play_put f_play_fold f_play_running:Ad} {tB tM tN:Tok} {esS esE esW:Array DictEntry} {nS nE nW:Nat} {CN SG:Ad} {tH:Tok} {esG:Array DictEntry} {nG:Nat} (X:K.In h) (G:h.Ns mainGlobals mg) (hfa:mg "law"=some (.ref fa))
  (h_start_of:DH K "start_of" Zi f_start_of)
  (h_kept:DH K "kept" zal f_kept)
  (h_plus:DH K "plus" zak f_plus)
  (h_minus:DH K "minus" YK f_minus)
  (h_times:DH K "times" YJ f_times)
  (h_refuse_nought:DH K "refuse_nought" yS f_refuse_nought)
  (h_quotient:DH K "quotient" Zj f_quotient)
  (h_remainder:DH K "remainder" xU f_remainder)
  (h_lesser:DH K "lesser" Z4 f_lesser)
  (h_greater:DH K "greater" ZC f_greater)
  (h_is_less:DH K "is_less" ZB f_is_less)
  (h_is_equal:DH K "is_equal" Zm f_is_equal)
  (h_bits_of_both:DH K "bits_of_both" xa f_bits_of_both)
  (h_bits_of_either:DH K "bits_of_either" yJ f_bits_of_either)
  (h_bits_of_one:DH K "bits_of_one" xr f_bits_of_one)
  (h_done:DH K "done" zam f_done)
  (h_lay_chosen:DH K "lay_chosen" xH f_lay_chosen)
  (h_play_choose:DH K "play_choose" xq f_play_choose)
  (h_play_other:DH K "play_other" xF f_play_other)
  (h_play_store:DH K "play_store" xD f_play_store)
  (h_play_any:DH K "play_any" Zk f_play_any)
  (h_has_effect:DH K "has_effect" xI f_has_effect)
  (h_play_effect:DH K "play_effect" xp f_play_effect)
  (h_numbers_written:DH K "numbers_written" yy f_numbers_written)
  (h_numbers_loaded:DH K "numbers_loaded" yH f_numbers_loaded)
  (h_number_joined:DH K "number_joined" yT f_number_joined)
  (h_numbers_joined:DH K "numbers_joined" yI f_numbers_joined)
  (h_lays_seat:DH K "lays_seat" xX f_lays_seat)
  (h_play_seat_step:DH K "play_seat_step" yG f_play_seat_step)
  (h_play_begin:DH K "play_begin" xG f_play_begin)
  (h_play_next:DH K "play_next" xW f_play_next)
  (h_play_turns:DH K "play_turns" xC f_play_turns)
  (h_play_quiet:DH K "play_quiet" xE f_play_quiet)
  (h_play_till:DH K "play_till" xV f_play_till)
  (h_place_behind:DH K "place_behind" y9 f_place_behind)
  (h_ran:DH K "ran" s_ran f_ran)
  (h_l_cell_at:DH K "_law_cell_at" xY f_l_cell_at)
  (h_l_some:DH K "_law_some" Z5 f_l_some)
  (h_l_number:DH K "_law_number" Zl f_l_number)
  (h_l_alike:DH K "_law_alike" xP f_l_alike)
  (h_l_lanes:DH K "_law_lanes" Zz f_l_lanes)
  (h_l_group:DH K "_law_group" ZA f_l_group)
  (h_l_dust:DH K "_law_dust" Z7 f_l_dust)
  (h_l_ran:DH K "_law_ran" YL f_l_ran)
  (h_l_level:DH K "_law_level" Zy f_l_level)
  (h_l_look:DH K "_law_look" Z6 f_l_look)
  (h_l_code:DH K "_law_code" Ze f_l_code)
  (h_l_played:DH K "_law_played" xi f_l_played)
  (h_law:DH K "law" Y5 f_law)
  (a_C_Boxes:PySem.W.nsIn K mainGlobals "Boxes"=some (some (.ref C_Boxes))) (h_C_Boxes:CH K C_Boxes)
  (fn_C_Boxes:FN K C_Boxes ["lanes","numbers"])
  (mk_C_Boxes:PySem.W.makesIn K C_Boxes=true) (kC_C_Boxes:PySem.W.keepIn K (.ref C_Boxes)=true)
  (h_Boxes_init:MH K C_Boxes "__init__" "Boxes.__init__" xK)
  (h_Boxes_spot_of:MH K C_Boxes "spot_of" "Boxes.spot_of" yU)
  (h_Boxes_lay:MH K C_Boxes "lay" "Boxes.lay" x0)
  (h_Boxes_number_at:MH K C_Boxes "number_at" "Boxes.number_at" yz)
  (a_C_Feed:PySem.W.nsIn K mainGlobals "Feed"=some (some (.ref C_Feed))) (h_C_Feed:CH K C_Feed)
  (fn_C_Feed:FN K C_Feed ["numbers","at"])
  (mk_C_Feed:PySem.W.makesIn K C_Feed=true) (kC_C_Feed:PySem.W.keepIn K (.ref C_Feed)=true)
  (h_Feed_init:MH K C_Feed "__init__" "Feed.__init__" xZ)
  (h_Feed_taken:MH K C_Feed "taken" "Feed.taken" xJ)
  (a_C_Bench:PySem.W.nsIn K mainGlobals "Bench"=some (some (.ref C_Bench))) (h_C_Bench:CH K C_Bench)
  (fn_C_Bench:FN K C_Bench ["lengths","starts","cells","lanes","boxes","masks","slots","dust","picks","touches","at","opened","many","group","base","begun","width","faults","cut","carried","raised","turns","refusal"])
  (mk_C_Bench:PySem.W.makesIn K C_Bench=true) (kC_C_Bench:PySem.W.keepIn K (.ref C_Bench)=true)
  (h_Bench_init:MH K C_Bench "__init__" "Bench.__init__" xL)
  (h_Bench_open_round:MH K C_Bench "open_round" "Bench.open_round" yu)
  (h_Bench_begin_strip:MH K C_Bench "begin_strip" "Bench.begin_strip" yn)
  (h_Bench_active_under:MH K C_Bench "active_under" "Bench.active_under" yf)
  (h_Bench_numbers_in:MH K C_Bench "numbers_in" "Bench.numbers_in" yv)
  (h_Bench_lay_seat:MH K C_Bench "lay_seat" "Bench.lay_seat" yK)
  (h_Bench_lay_mask:MH K C_Bench "lay_mask" "Bench.lay_mask" yL)
  (h_Bench_touch:MH K C_Bench "touch" "Bench.touch" xt)
  (h_Bench_read_cell:MH K C_Bench "read_cell" "Bench.read_cell" yA)
  (h_Bench_write_cell:MH K C_Bench "write_cell" "Bench.write_cell" yt)
  (tb1:TB K mainGlobals [("SEAT_STEPS",TS),("EFFECTS",TE),("WAYS",TW),("numbers_of_here",f_numbers_of_here),("numbers_spread",f_numbers_spread),("numbers_shifted",f_numbers_shifted),("numbers_gathered",f_numbers_gathered),("numbers_picked",f_numbers_picked),("numbers_copied",f_numbers_copied),("numbers_brought",f_numbers_brought),("play_reach",f_play_reach),("play_trim",f_play_trim),("play_stop",f_play_stop),("play_save",f_play_save),("play_put",f_play_put),("play_fold",f_play_fold),("play_running",f_play_running),("ByNought",CN),("SIGNS",SG)])
  (lS:K.lookup TS=some ⟨.type "dict",none,.dict esS nS,#[]⟩)
  (kS:PySem.W.KeysLit w.params esS.toList)
  (lE:K.lookup TE=some ⟨.type "dict",none,.dict esE nE,#[]⟩)
  (kE:PySem.W.KeysLit w.params esE.toList)
  (lW:K.lookup TW=some ⟨.type "dict",none,.dict esW nW,#[]⟩)
  (kW:PySem.W.KeysLit w.params esW.toList)
  (tb2:TB K TS [("number",f_numbers_written),("here",f_numbers_of_here),("load",f_numbers_loaded),("spread",f_numbers_spread),("shift",f_numbers_shifted),("gather",f_numbers_gathered),("op",f_numbers_joined),("pick",f_numbers_picked),("copy",f_numbers_copied),("bring",f_numbers_brought)])
  (tb3:TB K TE [("reach",f_play_reach),("trim",f_play_trim),("stop",f_play_stop),("choose",f_play_choose),("other",f_play_other),("save",f_play_save),("store",f_play_store),("put",f_play_put),("fold",f_play_fold),("running",f_play_running),("any",f_play_any)])
  (tb4:TN K TS ["reach","trim","stop","choose","other","save","store","put","fold","running","any","begin","next","turns","quiet","till"])
  (tb5:TB K TW [("begin",f_play_begin),("next",f_play_next),("turns",f_play_turns),("quiet",f_play_quiet),("till",f_play_till)])
  (tb6:TN K TE ["begin","next","turns","quiet","till"])
  (loS:(TS == sysModules)=false)
  (loE:(TE == sysModules)=false)
  (k_int_int:PySem.W.kitOne K (.type "int") (.type "int")=some true)
  (k_int_bool:PySem.W.kitOne K (.type "int") (.type "bool")=some false)
  (k_int_str:PySem.W.kitOne K (.type "int") (.type "str")=some false)
  (k_int_list:PySem.W.kitOne K (.type "int") (.type "list")=some false)
  (k_int_tuple:PySem.W.kitOne K (.type "int") (.type "tuple")=some false)
  (k_str_str:PySem.W.kitOne K (.type "str") (.type "str")=some true)
  (k_list_str:PySem.W.kitOne K (.type "list") (.type "str")=some false)
  (k_list_list:PySem.W.kitOne K (.type "list") (.type "list")=some true)
  (k_list_tuple:PySem.W.kitOne K (.type "list") (.type "tuple")=some false)
  (k_tuple_str:PySem.W.kitOne K (.type "tuple") (.type "str")=some false)
  (k_tuple_list:PySem.W.kitOne K (.type "tuple") (.type "list")=some false)
  (k_tuple_tuple:PySem.W.kitOne K (.type "tuple") (.type "tuple")=some true)
  (tb7:TN K mainGlobals ["isinstance","int","bool","str","list","tuple","len","range","sum","min","max","zip","dict","any"])
  (aB:PySem.W.nsIn K mainGlobals "MANY_BOXES"=some (some (.int 8 tB)))
  (aM:PySem.W.nsIn K mainGlobals "MOST_TOGETHER"=some (some (.int 4 tM)))
  (aN:PySem.W.nsIn K mainGlobals "MANY_MASKS"=some (some (.int 16 tN)))
  (x_CN:PySem.W.excIn K CN [.type "ValueError",.type "Exception",.type "BaseException",.type "object"] "ValueError.__new__"=true)
  (m_CN_CN:PySem.W.exmOne K (.ref CN) (.ref CN)=some true)
  (aH:PySem.W.nsIn K mainGlobals "HALF"=some (some (.int 9223372036854775808 tH)))
  (lG:K.lookup SG=some ⟨.type "dict",none,.dict esG nG,#[]⟩)
  (kG:PySem.W.KeysLit w.params esG.toList)
  (tb8:TB K SG [("+",f_plus),("-",f_minus),("*",f_times),("/",f_quotient),("rest",f_remainder),("least",f_lesser),("most",f_greater),("<",f_is_less),("=",f_is_equal),("&",f_bits_of_both),("|",f_bits_of_either),("^",f_bits_of_one)])
  : ∃ fd:FuncData,(∀ (s:Sh) (v:Vl),BindsTo s fd ⟨[v],[]⟩ [("_law_script",v)])/\∀ base:Heap,K.In base->base.Ns mainGlobals mg->FnOk l.prog w K mg base CX0 12 fa fd ["_law_script"] (spLaw K):=by
 obtain ⟨aS,aE,aW,a_numbers_of_here,a_numbers_spread,a_numbers_shifted,a_numbers_gathered,a_numbers_picked,a_numbers_copied,a_numbers_brought,a_play_reach,a_play_trim,a_play_stop,a_play_save,a_play_put,a_play_fold,a_play_running,b_CN,aG,_⟩:=tb1;obtain ⟨tS_number,tS_here,tS_load,tS_spread,tS_shift,tS_gather,tS_op,tS_pick,tS_copy,tS_bring,_⟩:=tb2;obtain ⟨tE_reach,tE_trim,tE_stop,tE_choose,tE_other,tE_save,tE_store,tE_put,tE_fold,tE_running,tE_any,_⟩:=tb3;obtain ⟨tS_reach,tS_trim,tS_stop,tS_choose,tS_other,tS_save,tS_store,tS_put,tS_fold,tS_running,tS_any,tS_begin,tS_next,tS_turns,tS_quiet,tS_till,_⟩:=tb4;obtain ⟨tW_begin,tW_next,tW_turns,tW_quiet,tW_till,_⟩:=tb5;obtain ⟨tE_begin,tE_next,tE_turns,tE_quiet,tE_till,_⟩:=tb6;obtain ⟨z_isinstance,z_int,z_bool,z_str,z_list,z_tuple,z_len,z_range,z_sum,z_min,z_max,z_zip,z_dict,z_any,_⟩:=tb7;obtain ⟨g0,g1,g2,g3,g4,g5,g6,g7,g8,g9,g10,g11,_⟩:=tb8;obtain ⟨a_law,oc_law,od_law,kV_law,dc_law,pm_law,an_law,cd_law,ct_law,sl_law,l_law,c_law,k_law⟩:=h_law;obtain ⟨n_C_Boxes_lanes,n_C_Boxes_numbers,_⟩:=fn_C_Boxes;obtain ⟨n_C_Feed_numbers,n_C_Feed_at,_⟩:=fn_C_Feed;obtain ⟨n_C_Bench_lengths,n_C_Bench_starts,n_C_Bench_cells,n_C_Bench_lanes,n_C_Bench_boxes,n_C_Bench_masks,n_C_Bench_slots,n_C_Bench_dust,n_C_Bench_picks,n_C_Bench_touches,n_C_Bench_at,n_C_Bench_opened,n_C_Bench_many,n_C_Bench_group,n_C_Bench_base,n_C_Bench_begun,n_C_Bench_width,n_C_Bench_faults,n_C_Bench_cut,n_C_Bench_carried,n_C_Bench_raised,n_C_Bench_turns,n_C_Bench_refusal,_⟩:=fn_C_Bench;have a_plus:=h_plus.1;have a_minus:=h_minus.1;have a_times:=h_times.1;have a_quotient:=h_quotient.1;have a_remainder:=h_remainder.1;have a_lesser:=h_lesser.1;have a_greater:=h_greater.1;have a_is_less:=h_is_less.1;have a_is_equal:=h_is_equal.1;have a_bits_of_both:=h_bits_of_both.1;have a_bits_of_either:=h_bits_of_either.1;have a_bits_of_one:=h_bits_of_one.1;have a_play_choose:=h_play_choose.1;have a_play_other:=h_play_other.1;have a_play_store:=h_play_store.1;have a_play_any:=h_play_any.1;have a_numbers_written:=h_numbers_written.1;have a_numbers_loaded:=h_numbers_loaded.1;have a_numbers_joined:=h_numbers_joined.1;have a_play_begin:=h_play_begin.1;have a_play_next:=h_play_next.1;have a_play_turns:=h_play_turns.1;have a_play_quiet:=h_play_quiet.1;have a_play_till:=h_play_till.1;have e:=hfa.symm.trans (PySem.W.mg_of X G a_law);cases e;have d_start_of:zk K mg "start_of" Zi ["lengths","row"]:=h_start_of.d X G λ_ _ _ _ _ _=>us2 λ_ _=>rfl;have d_kept:zk K mg "kept" zal ["number"]:=h_kept.d X G λ_ _ _ _ _ _=>us1 λ_=>rfl;have d_plus:zk K mg "plus" zak ["left","right"]:=h_plus.d X G λ_ _ _ _ _ _=>us2 λ_ _=>rfl;have d_minus:zk K mg "minus" YK ["left","right"]:=h_minus.d X G λ_ _ _ _ _ _=>us2 λ_ _=>rfl;have d_times:zk K mg "times" YJ ["left","right"]:=h_times.d X G λ_ _ _ _ _ _=>us2 λ_ _=>rfl;have d_refuse_nought:zk K mg "refuse_nought" yS ["right"]:=h_refuse_nought.d X G λ_ _ _ _ _ _=>us1 λ_=>rfl;have d_quotient:zk K mg "quotient" Zj ["left","right"]:=h_quotient.d X G λ_ _ _ _ _ _=>us2 λ_ _=>rfl;have d_remainder:zk K mg "remainder" xU ["left","right"]:=h_remainder.d X G λ_ _ _ _ _ _=>us2 λ_ _=>rfl;have d_lesser:zk K mg "lesser" Z4 ["left","right"]:=h_lesser.d X G λ_ _ _ _ _ _=>us2 λ_ _=>rfl;have d_greater:zk K mg "greater" ZC ["left","right"]:=h_greater.d X G λ_ _ _ _ _ _=>us2 λ_ _=>rfl;have d_is_less:zk K mg "is_less" ZB ["left","right"]:=h_is_less.d X G λ_ _ _ _ _ _=>us2 λ_ _=>rfl;have d_is_equal:zk K mg "is_equal" Zm ["left","right"]:=h_is_equal.d X G λ_ _ _ _ _ _=>us2 λ_ _=>rfl;have d_bits_of_both:zk K mg "bits_of_both" xa ["left","right"]:=h_bits_of_both.d X G λ_ _ _ _ _ _=>us2 λ_ _=>rfl;have d_bits_of_either:zk K mg "bits_of_either" yJ ["left","right"]:=h_bits_of_either.d X G λ_ _ _ _ _ _=>us2 λ_ _=>rfl;have d_bits_of_one:zk K mg "bits_of_one" xr ["left","right"]:=h_bits_of_one.d X G λ_ _ _ _ _ _=>us2 λ_ _=>rfl;have d_done:zk K mg "done" zam ["sign","left","right"]:=h_done.d X G λ_ _ _ _ _ _=>us3 λ_ _ _=>rfl;have d_lay_chosen:zk K mg "lay_chosen" xH ["bench","step","nought"]:=h_lay_chosen.d X G λ_ _ _ _ _ _=>us3 λ_ _ _=>rfl;have d_play_choose:zk K mg "play_choose" xq ["bench","step"]:=h_play_choose.d X G λ_ _ _ _ _ _=>us2 λ_ _=>rfl;have d_play_other:zk K mg "play_other" xF ["bench","step"]:=h_play_other.d X G λ_ _ _ _ _ _=>us2 λ_ _=>rfl;have d_play_store:zk K mg "play_store" xD ["bench","step"]:=h_play_store.d X G λ_ _ _ _ _ _=>us2 λ_ _=>rfl;have d_play_any:zk K mg "play_any" Zk ["bench","step"]:=h_play_any.d X G λ_ _ _ _ _ _=>us2 λ_ _=>rfl;have d_has_effect:zk K mg "has_effect" xI ["word"]:=h_has_effect.d X G λ_ _ _ _ _ _=>us1 λ_=>rfl;have d_play_effect:zk K mg "play_effect" xp ["bench","step"]:=h_play_effect.d X G λ_ _ _ _ _ _=>us2 λ_ _=>rfl;have d_numbers_written:zk K mg "numbers_written" yy ["bench","step","active"]:=h_numbers_written.d X G λ_ _ _ _ _ _=>us3 λ_ _ _=>rfl;have d_numbers_loaded:zk K mg "numbers_loaded" yH ["bench","step","active"]:=h_numbers_loaded.d X G λ_ _ _ _ _ _=>us3 λ_ _ _=>rfl;have d_number_joined:zk K mg "number_joined" yT ["bench","sign","left","right","lane"]:=h_number_joined.d X G λ_ _ _ _ _ _=>us5 λ_ _ _ _ _=>rfl;have d_numbers_joined:zk K mg "numbers_joined" yI ["bench","step","active"]:=h_numbers_joined.d X G λ_ _ _ _ _ _=>us3 λ_ _ _=>rfl;have d_lays_seat:zk K mg "lays_seat" xX ["word"]:=h_lays_seat.d X G λ_ _ _ _ _ _=>us1 λ_=>rfl;have d_play_seat_step:zk K mg "play_seat_step" yG ["bench","step"]:=h_play_seat_step.d X G λ_ _ _ _ _ _=>us2 λ_ _=>rfl;have d_play_begin:zk K mg "play_begin" xG ["bench","step"]:=h_play_begin.d X G λ_ _ _ _ _ _=>us2 λ_ _=>rfl;have d_play_next:zk K mg "play_next" xW ["bench","step"]:=h_play_next.d X G λ_ _ _ _ _ _=>us2 λ_ _=>rfl;have d_play_turns:zk K mg "play_turns" xC ["bench","step"]:=h_play_turns.d X G λ_ _ _ _ _ _=>us2 λ_ _=>rfl;have d_play_quiet:zk K mg "play_quiet" xE ["bench","step"]:=h_play_quiet.d X G λ_ _ _ _ _ _=>us2 λ_ _=>rfl;have d_play_till:zk K mg "play_till" xV ["bench","step"]:=h_play_till.d X G λ_ _ _ _ _ _=>us2 λ_ _=>rfl;have d_place_behind:zk K mg "place_behind" y9 ["bench","step"]:=h_place_behind.d X G λ_ _ _ _ _ _=>us2 λ_ _=>rfl;have d_ran:zk K mg "ran" s_ran ["code","lengths","cells","lanes","dust","picks"]:=h_ran.d X G λ_ _ _ _ _ _=>us6 λ_ _ _ _ _ _=>rfl;have d_l_cell_at:zk K mg "_law_cell_at" xY ["_law_script","_law_k"]:=h_l_cell_at.d X G λ_ _ _ _ _ _=>us2 λ_ _=>rfl;have d_l_some:zk K mg "_law_some" Z5 ["_law_script","_law_k","_law_salt","_law_many"]:=h_l_some.d X G λ_ _ _ _ _ _=>us4 λ_ _ _ _=>rfl;have d_l_number:zk K mg "_law_number" Zl ["_law_script","_law_k"]:=h_l_number.d X G λ_ _ _ _ _ _=>us2 λ_ _=>rfl;have d_l_alike:zk K mg "_law_alike" xP ["_law_found","_law_due"]:=h_l_alike.d X G λ_ _ _ _ _ _=>us2 λ_ _=>rfl;have d_l_lanes:zk K mg "_law_lanes" Zz ["_law_cell"]:=h_l_lanes.d X G λ_ _ _ _ _ _=>us1 λ_=>rfl;have d_l_group:zk K mg "_law_group" ZA ["_law_script","_law_k","_law_salt"]:=h_l_group.d X G λ_ _ _ _ _ _=>us3 λ_ _ _=>rfl;have d_l_dust:zk K mg "_law_dust" Z7 ["_law_script","_law_k","_law_salt"]:=h_l_dust.d X G λ_ _ _ _ _ _=>us3 λ_ _ _=>rfl;have d_l_ran:zk K mg "_law_ran" YL ["_law_code_here","_law_lengths","_law_cells","_law_lanes_here","_law_dust_here","_law_picks"]:=h_l_ran.d X G λ_ _ _ _ _ _=>us6 λ_ _ _ _ _ _=>rfl;have d_l_level:zk K mg "_law_level" Zy ["_law_script","_law_j","_law_deep"]:=h_l_level.d X G λ_ _ _ _ _ _=>us3 λ_ _ _=>rfl;have d_l_look:zk K mg "_law_look" Z6 ["_law_level_here","_law_many","_law_group_here","_law_p","_law_q"]:=h_l_look.d X G λ_ _ _ _ _ _=>us5 λ_ _ _ _ _=>rfl;have d_l_code:zk K mg "_law_code" Ze ["_law_levels","_law_lengths","_law_group_here","_law_p","_law_q"]:=h_l_code.d X G λ_ _ _ _ _ _=>us5 λ_ _ _ _ _=>rfl;have d_l_played:zk K mg "_law_played" xi ["_law_levels","_law_lengths","_law_due","_law_flag"]:=h_l_played.d X G λ_ _ _ _ _ _=>us4 λ_ _ _ _=>rfl;have d_Boxes_init:ZX K C_Boxes "Boxes.__init__" xK ["self","lanes"]:=h_Boxes_init.i mk_C_Boxes kC_C_Boxes λ_ _ _ _ _ _=>us2 λ_ _=>rfl;have d_Boxes_spot_of:zY K C_Boxes "spot_of" "Boxes.spot_of" yU ["self","group","seat","lane"]:=h_Boxes_spot_of.m λ_ _ _ _ _ _=>us4 λ_ _ _ _=>rfl;have d_Boxes_lay:zY K C_Boxes "lay" "Boxes.lay" x0 ["self","group","seat","lane","number"]:=h_Boxes_lay.m λ_ _ _ _ _ _=>us5 λ_ _ _ _ _=>rfl;have d_Boxes_number_at:zY K C_Boxes "number_at" "Boxes.number_at" yz ["self","group","seat","lane"]:=h_Boxes_number_at.m λ_ _ _ _ _ _=>us4 λ_ _ _ _=>rfl;have d_Feed_init:ZX K C_Feed "Feed.__init__" xZ ["self","numbers"]:=h_Feed_init.i mk_C_Feed kC_C_Feed λ_ _ _ _ _ _=>us2 λ_ _=>rfl;have d_Feed_taken:zY K C_Feed "taken" "Feed.taken" xJ ["self"]:=h_Feed_taken.m λ_ _ _ _ _ _=>us1 λ_=>rfl;have d_Bench_init:ZX K C_Bench "Bench.__init__" xL ["self","lengths","cells","lanes","dust","picks"]:=h_Bench_init.i mk_C_Bench kC_C_Bench λ_ _ _ _ _ _=>us6 λ_ _ _ _ _ _=>rfl;have d_Bench_open_round:zY K C_Bench "open_round" "Bench.open_round" yu ["self","many","group"]:=h_Bench_open_round.m λ_ _ _ _ _ _=>us3 λ_ _ _=>rfl;have d_Bench_begin_strip:zY K C_Bench "begin_strip" "Bench.begin_strip" yn ["self","base"]:=h_Bench_begin_strip.m λ_ _ _ _ _ _=>us2 λ_ _=>rfl;have d_Bench_active_under:zY K C_Bench "active_under" "Bench.active_under" yf ["self","mask"]:=h_Bench_active_under.m λ_ _ _ _ _ _=>us2 λ_ _=>rfl;have d_Bench_numbers_in:zY K C_Bench "numbers_in" "Bench.numbers_in" yv ["self","seat","active"]:=h_Bench_numbers_in.m λ_ _ _ _ _ _=>us3 λ_ _ _=>rfl;have d_Bench_lay_seat:zY K C_Bench "lay_seat" "Bench.lay_seat" yK ["self","seat","active","numbers"]:=h_Bench_lay_seat.m λ_ _ _ _ _ _=>us4 λ_ _ _ _=>rfl;have d_Bench_lay_mask:zY K C_Bench "lay_mask" "Bench.lay_mask" yL ["self","mask","chosen"]:=h_Bench_lay_mask.m λ_ _ _ _ _ _=>us3 λ_ _ _=>rfl;have d_Bench_touch:zY K C_Bench "touch" "Bench.touch" xt ["self","kind","address"]:=h_Bench_touch.m λ_ _ _ _ _ _=>us3 λ_ _ _=>rfl;have d_Bench_read_cell:zY K C_Bench "read_cell" "Bench.read_cell" yA ["self","row","place"]:=h_Bench_read_cell.m λ_ _ _ _ _ _=>us3 λ_ _ _=>rfl;have d_Bench_write_cell:zY K C_Bench "write_cell" "Bench.write_cell" yt ["self","row","place","number"]:=h_Bench_write_cell.m λ_ _ _ _ _ _=>us4 λ_ _ _ _=>rfl;have cl_Boxes:Cls K C_Boxes:=h_C_Boxes.c;have cl_Feed:Cls K C_Feed:=h_C_Feed.c;have cl_Bench:Cls K C_Bench:=h_C_Bench.c;have mm:=λ{x:Str} {v:Vl} (q:PySem.W.nsIn K mainGlobals x=some (some v))=>PySem.W.mg_of X G q;have mz:=λ{x:Str} (q:PySem.W.nsIn K mainGlobals x=some none)=>PySem.W.mg_none_of X G q;refine ⟨PySem.W.fnOf "law" "law" (yO Y5) (yx Y5) (zg Y5) .none kV_law dc_law pm_law an_law cd_law ct_law,λs v=>.of_eq rfl,λbase kb nb=>?_⟩;let c:MCs:=⟨C_Boxes,C_Feed,C_Bench⟩;let t:TabA:=⟨TS,TE,TW⟩;have BC:BCls K C_Boxes:=⟨cl_Boxes,n_C_Boxes_lanes,n_C_Boxes_numbers⟩;have FC:FCls K C_Feed:=⟨cl_Feed,n_C_Feed_numbers,n_C_Feed_at⟩;have NC:NCls K C_Bench:=⟨cl_Bench,n_C_Bench_lengths,n_C_Bench_starts,n_C_Bench_cells,n_C_Bench_lanes,n_C_Bench_boxes,n_C_Bench_masks,n_C_Bench_slots,n_C_Bench_dust,n_C_Bench_picks,n_C_Bench_touches,n_C_Bench_at,n_C_Bench_opened,n_C_Bench_many,n_C_Bench_group,n_C_Bench_base,n_C_Bench_begun,n_C_Bench_width,n_C_Bench_faults,n_C_Bench_cut,n_C_Bench_carried,n_C_Bench_raised,n_C_Bench_turns,n_C_Bench_refusal⟩;have CC:MCls K c:=⟨BC,FC,NC⟩;have TT:Tabs w K mg t:=⟨⟨esS,nS,lS,kS⟩,⟨esE,nE,lE,kE⟩,⟨esW,nW,lW,kW⟩,loS,loE,mm aS,mm aE,mm aW,⟨_,tS_number,mm a_numbers_written⟩,⟨_,tS_here,mm a_numbers_of_here⟩,⟨_,tS_load,mm a_numbers_loaded⟩,⟨_,tS_spread,mm a_numbers_spread⟩,⟨_,tS_shift,mm a_numbers_shifted⟩,⟨_,tS_gather,mm a_numbers_gathered⟩,⟨_,tS_op,mm a_numbers_joined⟩,⟨_,tS_pick,mm a_numbers_picked⟩,⟨_,tS_copy,mm a_numbers_copied⟩,⟨_,tS_bring,mm a_numbers_brought⟩,⟨_,tE_reach,mm a_play_reach⟩,tS_reach,⟨_,tE_trim,mm a_play_trim⟩,tS_trim,⟨_,tE_stop,mm a_play_stop⟩,tS_stop,⟨_,tE_choose,mm a_play_choose⟩,tS_choose,⟨_,tE_other,mm a_play_other⟩,tS_other,⟨_,tE_save,mm a_play_save⟩,tS_save,⟨_,tE_store,mm a_play_store⟩,tS_store,⟨_,tE_put,mm a_play_put⟩,tS_put,⟨_,tE_fold,mm a_play_fold⟩,tS_fold,⟨_,tE_running,mm a_play_running⟩,tS_running,⟨_,tE_any,mm a_play_any⟩,tS_any,⟨_,tW_begin,mm a_play_begin⟩,tS_begin,tE_begin,⟨_,tW_next,mm a_play_next⟩,tS_next,tE_next,⟨_,tW_turns,mm a_play_turns⟩,tS_turns,tE_turns,⟨_,tW_quiet,mm a_play_quiet⟩,tS_quiet,tE_quiet,⟨_,tW_till,mm a_play_till⟩,tS_till,tE_till⟩;have SPo:=ok_spot (P:=l.prog) (w:=w) (mg:=mg) (base:=base) d_Boxes_spot_of BC;have LAy:=ok_lay d_Boxes_lay BC SPo;have NUm:=ok_num d_Boxes_number_at BC SPo;have TK:=ok_taken (P:=l.prog) (w:=w) (mg:=mg) (base:=base) d_Feed_taken FC (mz z_len);have IFe:=ok_initF (P:=l.prog) (w:=w) (mg:=mg) (base:=base) d_Feed_init FC (mz z_list);have IBo:=ok_initB (P:=l.prog) (w:=w) (mg:=mg) (base:=base) d_Boxes_init BC (mm aB);have TOu:=ok_touch (P:=l.prog) (w:=w) (mg:=mg) (base:=base) (c:=c) d_Bench_touch NC;have RCe:=ok_read (c:=c) d_Bench_read_cell NC TOu;have WCe:=ok_write (c:=c) d_Bench_write_cell NC TOu;have AU:=ok_act (P:=l.prog) (w:=w) (mg:=mg) (base:=base) (c:=c) d_Bench_active_under (mz z_range) NC;have NI:=ok_nums (c:=c) d_Bench_numbers_in CC NUm;have LMa:=ok_mask (c:=c) d_Bench_lay_mask (mz z_range) CC TK;have LSe:=ok_seat (c:=c) d_Bench_lay_seat (mz z_range) (mz z_dict) (mz z_zip) CC TK LAy;have BSt:=ok_strip (c:=c) d_Bench_begin_strip (mz z_range) (mz z_list) (mz z_min) CC LMa;have ORo:=ok_round (c:=c) d_Bench_open_round CC BSt;have SOf:=ok_start (P:=l.prog) (w:=w) (base:=base) d_start_of (mz z_sum);have INi:=ok_initN (c:=c) d_Bench_init CC (mz z_list) (mz z_len) (mz z_range) (mm aM) (mm aN) (mm a_C_Boxes) (mm a_C_Feed) SOf IBo IFe;have LSW:=ok_lsw (P:=l.prog) (base:=base) (t:=t) d_lays_seat TT;have HEW:=ok_hew (P:=l.prog) (base:=base) (t:=t) d_has_effect TT;have LO:=ok_loaded (c:=c) d_numbers_loaded CC RCe;have STo:=ok_store (c:=c) d_play_store (mz z_zip) CC AU NI WCe;have BEg:=ok_begin (c:=c) d_play_begin CC ORo;have NEx:=ok_next (c:=c) d_play_next CC BSt;have TG:xu w K SG:=⟨esG,nG,lG,kG⟩;have Sg:Signs K mg SG:=⟨⟨_,g0,mm a_plus⟩,⟨_,g1,mm a_minus⟩,⟨_,g2,mm a_times⟩,⟨_,g3,mm a_quotient⟩,⟨_,g4,mm a_remainder⟩,⟨_,g5,mm a_lesser⟩,⟨_,g6,mm a_greater⟩,⟨_,g7,mm a_is_less⟩,⟨_,g8,mm a_is_equal⟩,⟨_,g9,mm a_bits_of_both⟩,⟨_,g10,mm a_bits_of_either⟩,⟨_,g11,mm a_bits_of_one⟩⟩;have GK:=ok_kept (P:=l.prog) (w:=w) (base:=base) d_kept (mm aH);have GN:=ok_refuse (P:=l.prog) (w:=w) (base:=base) d_refuse_nought (own_in kb (mm b_CN) x_CN) PySem.F.excBase_ValueError;have Fs:Fns l.prog w K mg base CN:=⟨ok_plus d_plus GK,ok_minus d_minus GK,ok_times d_times GK,zbj d_quotient GK GN,zau d_remainder GN,ok_lesser d_lesser (mz z_min),zcj d_greater (mz z_max),zci d_is_less,zbk d_is_equal,ok_both d_bits_of_both,ok_either d_bits_of_either,ok_one d_bits_of_one⟩;have DN:=ok_done d_done (mm aG) TG Sg Fs;have OP1:=ok_opOne (P:=l.prog) (w:=w) (base:=base) (c:=c) d_number_joined CC (mm b_CN) m_CN_CN DN;have OPa:=ok_op (c:=c) d_numbers_joined (mz z_zip) CC NI OP1;have LCh:=ok_chosen (c:=c) d_lay_chosen (mz z_zip) CC AU NI LMa;have CHo:=ok_choose (c:=c) d_play_choose LCh;have OTh:=ok_other (c:=c) d_play_other LCh;have NW:=zcg (P:=l.prog) (w:=w) (base:=base) (c:=c) d_numbers_written (mz z_len);have ANy:=ok_any (c:=c) d_play_any (mz z_any) CC AU NI;have TUr:=ok_turns (P:=l.prog) (w:=w) (base:=base) (c:=c) d_play_turns CC;have QUi:=ok_quiet (P:=l.prog) (w:=w) (base:=base) (c:=c) d_play_quiet CC;have TIl:=ok_till (P:=l.prog) (w:=w) (base:=base) (c:=c) d_play_till CC
 have SW:YA l.prog w K mg base c t Lx.S 6:=λword f h=>by
  rcases h with ⟨rfl,rfl⟩ | ⟨rfl,rfl⟩ | ⟨rfl,rfl⟩
  ·exact ⟨_,_,TT.s_load,LO.mono (by decide),loadM_ok⟩
  ·exact ⟨_,_,TT.s_number,NW.mono (by decide),numM_ok⟩
  ·exact ⟨_,_,TT.s_op,OPa.mono (by decide),opM_ok⟩
 have EW:XA l.prog w K mg base c t Lx.E 7:=λword f h=>by
  rcases h with ⟨rfl,rfl⟩ | ⟨rfl,rfl⟩ | ⟨rfl,rfl⟩
  ·exact ⟨TT.es_store,_,_,TT.e_store,STo.mono (by decide)⟩
  ·exact ⟨TT.es_other,_,_,TT.e_other,OTh.mono (by decide)⟩
  ·exact ⟨TT.es_any,_,_,TT.e_any,ANy.mono (by decide)⟩
 have WW:zb2 l.prog w K mg base c t Lx.W 8:=λword f h=>by
  rcases h with ⟨rfl,rfl⟩ | ⟨rfl,rfl⟩ | ⟨rfl,rfl⟩ | ⟨rfl,rfl⟩ | ⟨rfl,rfl⟩
  ·exact ⟨TT.ws_begin,TT.we_begin,_,_,TT.w_begin,BEg.mono (by decide)⟩
  ·exact ⟨TT.ws_next,TT.we_next,_,_,TT.w_next,NEx.mono (by decide)⟩
  ·exact ⟨TT.ws_turns,TT.we_turns,_,_,TT.w_turns,TUr.mono (by decide)⟩
  ·exact ⟨TT.ws_quiet,TT.we_quiet,_,_,TT.w_quiet,QUi.mono (by decide)⟩
  ·exact ⟨TT.ws_till,TT.we_till,_,_,TT.w_till,TIl.mono (by decide)⟩
 have PSS:=ok_pss (c:=c) (t:=t) d_play_seat_step CC TT (by decide) AU LSe SW;have PEf:=ok_pe (c:=c) (t:=t) (by decide) d_play_effect TT EW;have PBe:=ok_pb (c:=c) (t:=t) d_place_behind CC TT (by decide) SW EW WW LSW HEW PSS PEf;have RN0:=ok_ran (c:=c) d_ran CC (mz z_len) (mm a_C_Bench) INi PBe;have RN:=ok_lran (c:=c) d_l_ran (mz z_list) RN0;have CA:=zck (P:=l.prog) (w:=w) (base:=base) d_l_cell_at (mz z_len);have SM:=ok_some d_l_some CA;have NB:=ok_number d_l_number CA SM;have AKs:AlK K mg:=⟨mz z_isinstance,mz z_int,mz z_bool,mz z_str,mz z_list,mz z_tuple,k_int_int,k_int_bool,k_int_str,k_int_list,k_int_tuple,k_str_str,k_list_str,k_list_list,k_list_tuple,k_tuple_str,k_tuple_list,k_tuple_tuple⟩;have AL:=zbl (P:=l.prog) (w:=w) (base:=base) d_l_alike AKs (mz z_len) (mz z_zip) 3;have LVl:=ok_level d_l_level SM;have LKk:=ok_look (P:=l.prog) (w:=w) (base:=base) d_l_look;have CDd:=ok_code d_l_code (mz z_len) LKk 3;have PDd:=XT (P:=l.prog) (w:=w) (base:=base) d_l_played (mz z_len) (mz z_sum) (mz z_range) 3;exact ok_law (c:=c) (Lx:=Lx) (ZU (st:=Y5) l_law c_law k_law) AKs (mz z_len) (mz z_range) (mz z_list) (mz z_sum) CA SM (ok_lanes d_l_lanes) (ok_group d_l_group SM) NB (ok_dust d_l_dust (mz z_range) SM NB) LVl CDd PDd AL RN lx_41
def walk {l:PySem.W.OpenLaw} {q:Program} {loose:Jd} {XP:(J0)->Heap->Prop} {YP:World->Heap->Prop} {d:DefRec} {K:Params->Fg} (hn:l.most=some 63) (hdf:d.params.defaults=[])
  (hY:∀ (w:World) (h:Heap),YP w h->(K w.params).In h)
  (F:∀ (w:World) (mg:J0) (fa:Ad) (h:Heap),(K w.params).In h->h.Ns mainGlobals mg->mg d.name=some (.ref fa) ->
   ∃ fd:FuncData,(∀ (s:Sh) (u:Vl),BindsTo s fd ⟨[u],[]⟩ [("_law_script",u)])/\∀ base:Heap,(K w.params).In base->base.Ns mainGlobals mg->FnOk l.prog w (K w.params) mg base CX0 12 fa fd ["_law_script"] (spLaw (K w.params))) :
  PySem.W.WalkO q loose XP YP l.row.toRowW d [] (λf vs=>PySem.call f vs) :=
 L2.walk_of (n:=63) (k:=12) (x:="_law_script") (CX:=λ_=>CX0) (sp:=λw=>spLaw (K w.params)) hn (by decide) hdf ⟨rfl,by decide,by decide⟩ hY F (λ_ _ a ns hl _ hS=>⟨a,ns,rfl,hS,hl,λ_=>rfl⟩) λ_ _ _ _ _ z=>z
end K41
open PySem PySem.W PyProof.Rows
set_option maxRecDepth 100000 in
set_option maxHeartbeats 0 in
theorem PySem.Challenge.cw_rowbreadth_k41_turns_within_turns_holds : PySem.Challenge.rw_rowbreadth_k41_turns_within_turns.Holds := by
 refine K41hd ?_
 k_fill
 refine K41.walk (l:=PySem.Challenge.rw_rowbreadth_k41_turns_within_turns) rfl rfl (λw h Y=>Y) ?F
 case F =>
  intro w mg fa h KX G hmg
  refine' K41.all_mk KX G hmg ?kf_h_start_of ?kf_h_kept ?kf_h_plus ?kf_h_minus ?kf_h_times ?kf_h_refuse_nought ?kf_h_quotient ?kf_h_remainder ?kf_h_lesser ?kf_h_greater ?kf_h_is_less ?kf_h_is_equal ?kf_h_bits_of_both ?kf_h_bits_of_either ?kf_h_bits_of_one ?kf_h_done ?kf_h_lay_chosen ?kf_h_play_choose ?kf_h_play_other ?kf_h_play_store ?kf_h_play_any ?kf_h_has_effect ?kf_h_play_effect ?kf_h_numbers_written ?kf_h_numbers_loaded ?kf_h_number_joined ?kf_h_numbers_joined ?kf_h_lays_seat ?kf_h_play_seat_step ?kf_h_play_begin ?kf_h_play_next ?kf_h_play_turns ?kf_h_play_quiet ?kf_h_play_till ?kf_h_place_behind ?kf_h_ran ?kf_h_l_cell_at ?kf_h_l_some ?kf_h_l_number ?kf_h_l_alike ?kf_h_l_lanes ?kf_h_l_group ?kf_h_l_dust ?kf_h_l_ran ?kf_h_l_level ?kf_h_l_look ?kf_h_l_code ?kf_h_l_played ?kf_h_law ?kf_a_C_Boxes ?kf_h_C_Boxes ?kf_fn_C_Boxes ?kf_mk_C_Boxes ?kf_kC_C_Boxes ?kf_h_Boxes_init ?kf_h_Boxes_spot_of ?kf_h_Boxes_lay ?kf_h_Boxes_number_at ?kf_a_C_Feed ?kf_h_C_Feed ?kf_fn_C_Feed ?kf_mk_C_Feed ?kf_kC_C_Feed ?kf_h_Feed_init ?kf_h_Feed_taken ?kf_a_C_Bench ?kf_h_C_Bench ?kf_fn_C_Bench ?kf_mk_C_Bench ?kf_kC_C_Bench ?kf_h_Bench_init ?kf_h_Bench_open_round ?kf_h_Bench_begin_strip ?kf_h_Bench_active_under ?kf_h_Bench_numbers_in ?kf_h_Bench_lay_seat ?kf_h_Bench_lay_mask ?kf_h_Bench_touch ?kf_h_Bench_read_cell ?kf_h_Bench_write_cell ?kf_tb1 ?kf_lS ?kf_kS ?kf_lE ?kf_kE ?kf_lW ?kf_kW ?kf_tb2 ?kf_tb3 ?kf_tb4 ?kf_tb5 ?kf_tb6 ?kf_loS ?kf_loE ?kf_k_int_int ?kf_k_int_bool ?kf_k_int_str ?kf_k_int_list ?kf_k_int_tuple ?kf_k_str_str ?kf_k_list_str ?kf_k_list_list ?kf_k_list_tuple ?kf_k_tuple_str ?kf_k_tuple_list ?kf_k_tuple_tuple ?kf_tb7 ?kf_aB ?kf_aM ?kf_aN ?kf_x_CN ?kf_m_CN_CN ?kf_aH ?kf_lG ?kf_kG ?kf_tb8
  (case kf_h_start_of=>(refine' L2.DH.mk ?a ?b ?c ?d;(case a=>k_is);(case b=>k_is);(case c=>k_is);(case d=>k_is)))
  (case kf_h_kept=>(refine' L2.DH.mk ?a ?b ?c ?d;(case a=>k_is);(case b=>k_is);(case c=>k_is);(case d=>k_is)))
  (case kf_h_plus=>(refine' L2.DH.mk ?a ?b ?c ?d;(case a=>k_is);(case b=>k_is);(case c=>k_is);(case d=>k_is)))
  (case kf_h_minus=>(refine' L2.DH.mk ?a ?b ?c ?d;(case a=>k_is);(case b=>k_is);(case c=>k_is);(case d=>k_is)))
  (case kf_h_times=>(refine' L2.DH.mk ?a ?b ?c ?d;(case a=>k_is);(case b=>k_is);(case c=>k_is);(case d=>k_is)))
  (case kf_h_refuse_nought=>(refine' L2.DH.mk ?a ?b ?c ?d;(case a=>k_is);(case b=>k_is);(case c=>k_is);(case d=>k_is)))
  (case kf_h_quotient=>(refine' L2.DH.mk ?a ?b ?c ?d;(case a=>k_is);(case b=>k_is);(case c=>k_is);(case d=>k_is)))
  (case kf_h_remainder=>(refine' L2.DH.mk ?a ?b ?c ?d;(case a=>k_is);(case b=>k_is);(case c=>k_is);(case d=>k_is)))
  (case kf_h_lesser=>(refine' L2.DH.mk ?a ?b ?c ?d;(case a=>k_is);(case b=>k_is);(case c=>k_is);(case d=>k_is)))
  (case kf_h_greater=>(refine' L2.DH.mk ?a ?b ?c ?d;(case a=>k_is);(case b=>k_is);(case c=>k_is);(case d=>k_is)))
  (case kf_h_is_less=>(refine' L2.DH.mk ?a ?b ?c ?d;(case a=>k_is);(case b=>k_is);(case c=>k_is);(case d=>k_is)))
  (case kf_h_is_equal=>(refine' L2.DH.mk ?a ?b ?c ?d;(case a=>k_is);(case b=>k_is);(case c=>k_is);(case d=>k_is)))
  (case kf_h_bits_of_both=>(refine' L2.DH.mk ?a ?b ?c ?d;(case a=>k_is);(case b=>k_is);(case c=>k_is);(case d=>k_is)))
  (case kf_h_bits_of_either=>(refine' L2.DH.mk ?a ?b ?c ?d;(case a=>k_is);(case b=>k_is);(case c=>k_is);(case d=>k_is)))
  (case kf_h_bits_of_one=>(refine' L2.DH.mk ?a ?b ?c ?d;(case a=>k_is);(case b=>k_is);(case c=>k_is);(case d=>k_is)))
  (case kf_h_done=>(refine' L2.DH.mk ?a ?b ?c ?d;(case a=>k_is);(case b=>k_is);(case c=>k_is);(case d=>k_is)))
  (case kf_h_lay_chosen=>(refine' L2.DH.mk ?a ?b ?c ?d;(case a=>k_is);(case b=>k_is);(case c=>k_is);(case d=>k_is)))
  (case kf_h_play_choose=>(refine' L2.DH.mk ?a ?b ?c ?d;(case a=>k_is);(case b=>k_is);(case c=>k_is);(case d=>k_is)))
  (case kf_h_play_other=>(refine' L2.DH.mk ?a ?b ?c ?d;(case a=>k_is);(case b=>k_is);(case c=>k_is);(case d=>k_is)))
  (case kf_h_play_store=>(refine' L2.DH.mk ?a ?b ?c ?d;(case a=>k_is);(case b=>k_is);(case c=>k_is);(case d=>k_is)))
  (case kf_h_play_any=>(refine' L2.DH.mk ?a ?b ?c ?d;(case a=>k_is);(case b=>k_is);(case c=>k_is);(case d=>k_is)))
  (case kf_h_has_effect=>(refine' L2.DH.mk ?a ?b ?c ?d;(case a=>k_is);(case b=>k_is);(case c=>k_is);(case d=>k_is)))
  (case kf_h_play_effect=>(refine' L2.DH.mk ?a ?b ?c ?d;(case a=>k_is);(case b=>k_is);(case c=>k_is);(case d=>k_is)))
  (case kf_h_numbers_written=>(refine' L2.DH.mk ?a ?b ?c ?d;(case a=>k_is);(case b=>k_is);(case c=>k_is);(case d=>k_is)))
  (case kf_h_numbers_loaded=>(refine' L2.DH.mk ?a ?b ?c ?d;(case a=>k_is);(case b=>k_is);(case c=>k_is);(case d=>k_is)))
  (case kf_h_number_joined=>(refine' L2.DH.mk ?a ?b ?c ?d;(case a=>k_is);(case b=>k_is);(case c=>k_is);(case d=>k_is)))
  (case kf_h_numbers_joined=>(refine' L2.DH.mk ?a ?b ?c ?d;(case a=>k_is);(case b=>k_is);(case c=>k_is);(case d=>k_is)))
  (case kf_h_lays_seat=>(refine' L2.DH.mk ?a ?b ?c ?d;(case a=>k_is);(case b=>k_is);(case c=>k_is);(case d=>k_is)))
  (case kf_h_play_seat_step=>(refine' L2.DH.mk ?a ?b ?c ?d;(case a=>k_is);(case b=>k_is);(case c=>k_is);(case d=>k_is)))
  (case kf_h_play_begin=>(refine' L2.DH.mk ?a ?b ?c ?d;(case a=>k_is);(case b=>k_is);(case c=>k_is);(case d=>k_is)))
  (case kf_h_play_next=>(refine' L2.DH.mk ?a ?b ?c ?d;(case a=>k_is);(case b=>k_is);(case c=>k_is);(case d=>k_is)))
  (case kf_h_play_turns=>(refine' L2.DH.mk ?a ?b ?c ?d;(case a=>k_is);(case b=>k_is);(case c=>k_is);(case d=>k_is)))
  (case kf_h_play_quiet=>(refine' L2.DH.mk ?a ?b ?c ?d;(case a=>k_is);(case b=>k_is);(case c=>k_is);(case d=>k_is)))
  (case kf_h_play_till=>(refine' L2.DH.mk ?a ?b ?c ?d;(case a=>k_is);(case b=>k_is);(case c=>k_is);(case d=>k_is)))
  (case kf_h_place_behind=>(refine' L2.DH.mk ?a ?b ?c ?d;(case a=>k_is);(case b=>k_is);(case c=>k_is);(case d=>k_is)))
  (case kf_h_ran=>(refine' L2.DH.mk ?a ?b ?c ?d;(case a=>k_is);(case b=>k_is);(case c=>k_is);(case d=>k_is)))
  (case kf_h_l_cell_at=>(refine' L2.DH.mk ?a ?b ?c ?d;(case a=>k_is);(case b=>k_is);(case c=>k_is);(case d=>k_is)))
  (case kf_h_l_some=>(refine' L2.DH.mk ?a ?b ?c ?d;(case a=>k_is);(case b=>k_is);(case c=>k_is);(case d=>k_is)))
  (case kf_h_l_number=>(refine' L2.DH.mk ?a ?b ?c ?d;(case a=>k_is);(case b=>k_is);(case c=>k_is);(case d=>k_is)))
  (case kf_h_l_alike=>(refine' L2.DH.mk ?a ?b ?c ?d;(case a=>k_is);(case b=>k_is);(case c=>k_is);(case d=>k_is)))
  (case kf_h_l_lanes=>(refine' L2.DH.mk ?a ?b ?c ?d;(case a=>k_is);(case b=>k_is);(case c=>k_is);(case d=>k_is)))
  (case kf_h_l_group=>(refine' L2.DH.mk ?a ?b ?c ?d;(case a=>k_is);(case b=>k_is);(case c=>k_is);(case d=>k_is)))
  (case kf_h_l_dust=>(refine' L2.DH.mk ?a ?b ?c ?d;(case a=>k_is);(case b=>k_is);(case c=>k_is);(case d=>k_is)))
  (case kf_h_l_ran=>(refine' L2.DH.mk ?a ?b ?c ?d;(case a=>k_is);(case b=>k_is);(case c=>k_is);(case d=>k_is)))
  (case kf_h_l_level=>(refine' L2.DH.mk ?a ?b ?c ?d;(case a=>k_is);(case b=>k_is);(case c=>k_is);(case d=>k_is)))
  (case kf_h_l_look=>(refine' L2.DH.mk ?a ?b ?c ?d;(case a=>k_is);(case b=>k_is);(case c=>k_is);(case d=>k_is)))
  (case kf_h_l_code=>(refine' L2.DH.mk ?a ?b ?c ?d;(case a=>k_is);(case b=>k_is);(case c=>k_is);(case d=>k_is)))
  (case kf_h_l_played=>(refine' L2.DH.mk ?a ?b ?c ?d;(case a=>k_is);(case b=>k_is);(case c=>k_is);(case d=>k_is)))
  (case kf_h_law=>(refine' L2.DH.mk ?a ?b ?c ?d;(case a=>k_is);(case b=>k_is);(case c=>k_is);(case d=>k_is)))
  (case kf_a_C_Boxes=>k_is)
  (case kf_h_C_Boxes=>(refine ⟨?_,?_,?_,?_⟩ <;> k_is))
  (case kf_fn_C_Boxes=>(repeat' first | exact trivial | refine And.intro ?_ ?_ | k_is))
  (case kf_mk_C_Boxes=>k_is)
  (case kf_kC_C_Boxes=>k_is)
  (case kf_h_Boxes_init=>(refine' L2.MH.mk ?a ?b ?c ?d ?e;(case a=>k_is);(case b=>k_is);(case c=>k_is);(case d=>k_is);(case e=>k_is)))
  (case kf_h_Boxes_spot_of=>(refine' L2.MH.mk ?a ?b ?c ?d ?e;(case a=>k_is);(case b=>k_is);(case c=>k_is);(case d=>k_is);(case e=>k_is)))
  (case kf_h_Boxes_lay=>(refine' L2.MH.mk ?a ?b ?c ?d ?e;(case a=>k_is);(case b=>k_is);(case c=>k_is);(case d=>k_is);(case e=>k_is)))
  (case kf_h_Boxes_number_at=>(refine' L2.MH.mk ?a ?b ?c ?d ?e;(case a=>k_is);(case b=>k_is);(case c=>k_is);(case d=>k_is);(case e=>k_is)))
  (case kf_a_C_Feed=>k_is)
  (case kf_h_C_Feed=>(refine ⟨?_,?_,?_,?_⟩ <;> k_is))
  (case kf_fn_C_Feed=>(repeat' first | exact trivial | refine And.intro ?_ ?_ | k_is))
  (case kf_mk_C_Feed=>k_is)
  (case kf_kC_C_Feed=>k_is)
  (case kf_h_Feed_init=>(refine' L2.MH.mk ?a ?b ?c ?d ?e;(case a=>k_is);(case b=>k_is);(case c=>k_is);(case d=>k_is);(case e=>k_is)))
  (case kf_h_Feed_taken=>(refine' L2.MH.mk ?a ?b ?c ?d ?e;(case a=>k_is);(case b=>k_is);(case c=>k_is);(case d=>k_is);(case e=>k_is)))
  (case kf_a_C_Bench=>k_is)
  (case kf_h_C_Bench=>(refine ⟨?_,?_,?_,?_⟩ <;> k_is))
  (case kf_fn_C_Bench=>(repeat' first | exact trivial | refine And.intro ?_ ?_ | k_is))
  (case kf_mk_C_Bench=>k_is)
  (case kf_kC_C_Bench=>k_is)
  (case kf_h_Bench_init=>(refine' L2.MH.mk ?a ?b ?c ?d ?e;(case a=>k_is);(case b=>k_is);(case c=>k_is);(case d=>k_is);(case e=>k_is)))
  (case kf_h_Bench_open_round=>(refine' L2.MH.mk ?a ?b ?c ?d ?e;(case a=>k_is);(case b=>k_is);(case c=>k_is);(case d=>k_is);(case e=>k_is)))
  (case kf_h_Bench_begin_strip=>(refine' L2.MH.mk ?a ?b ?c ?d ?e;(case a=>k_is);(case b=>k_is);(case c=>k_is);(case d=>k_is);(case e=>k_is)))
  (case kf_h_Bench_active_under=>(refine' L2.MH.mk ?a ?b ?c ?d ?e;(case a=>k_is);(case b=>k_is);(case c=>k_is);(case d=>k_is);(case e=>k_is)))
  (case kf_h_Bench_numbers_in=>(refine' L2.MH.mk ?a ?b ?c ?d ?e;(case a=>k_is);(case b=>k_is);(case c=>k_is);(case d=>k_is);(case e=>k_is)))
  (case kf_h_Bench_lay_seat=>(refine' L2.MH.mk ?a ?b ?c ?d ?e;(case a=>k_is);(case b=>k_is);(case c=>k_is);(case d=>k_is);(case e=>k_is)))
  (case kf_h_Bench_lay_mask=>(refine' L2.MH.mk ?a ?b ?c ?d ?e;(case a=>k_is);(case b=>k_is);(case c=>k_is);(case d=>k_is);(case e=>k_is)))
  (case kf_h_Bench_touch=>(refine' L2.MH.mk ?a ?b ?c ?d ?e;(case a=>k_is);(case b=>k_is);(case c=>k_is);(case d=>k_is);(case e=>k_is)))
  (case kf_h_Bench_read_cell=>(refine' L2.MH.mk ?a ?b ?c ?d ?e;(case a=>k_is);(case b=>k_is);(case c=>k_is);(case d=>k_is);(case e=>k_is)))
  (case kf_h_Bench_write_cell=>(refine' L2.MH.mk ?a ?b ?c ?d ?e;(case a=>k_is);(case b=>k_is);(case c=>k_is);(case d=>k_is);(case e=>k_is)))
  (case kf_tb1=>(repeat' first | exact trivial | refine And.intro ?_ ?_ | k_is))
  (case kf_lS=>k_is)
  (case kf_kS=>k_keys)
  (case kf_lE=>k_is)
  (case kf_kE=>k_keys)
  (case kf_lW=>k_is)
  (case kf_kW=>k_keys)
  (case kf_tb2=>(repeat' first | exact trivial | refine And.intro ?_ ?_ | k_is))
  (case kf_tb3=>(repeat' first | exact trivial | refine And.intro ?_ ?_ | k_is))
  (case kf_tb4=>(repeat' first | exact trivial | refine And.intro ?_ ?_ | k_is))
  (case kf_tb5=>(repeat' first | exact trivial | refine And.intro ?_ ?_ | k_is))
  (case kf_tb6=>(repeat' first | exact trivial | refine And.intro ?_ ?_ | k_is))
  (case kf_loS=>rfl)
  (case kf_loE=>rfl)
  (case kf_k_int_int=>kit_is)
  (case kf_k_int_bool=>kit_is)
  (case kf_k_int_str=>kit_is)
  (case kf_k_int_list=>kit_is)
  (case kf_k_int_tuple=>kit_is)
  (case kf_k_str_str=>kit_is)
  (case kf_k_list_str=>kit_is)
  (case kf_k_list_list=>kit_is)
  (case kf_k_list_tuple=>kit_is)
  (case kf_k_tuple_str=>kit_is)
  (case kf_k_tuple_list=>kit_is)
  (case kf_k_tuple_tuple=>kit_is)
  (case kf_tb7=>(repeat' first | exact trivial | refine And.intro ?_ ?_ | k_is))
  (case kf_aB=>k_is)
  (case kf_aM=>k_is)
  (case kf_aN=>k_is)
  (case kf_x_CN=>k_exc)
  (case kf_m_CN_CN=>kts_exm)
  (case kf_aH=>k_is)
  (case kf_lG=>k_is)
  (case kf_kG=>k_keys)
  (case kf_tb8=>(repeat' first | exact trivial | refine And.intro ?_ ?_ | k_is))
