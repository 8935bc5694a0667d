import PyProof.Rows.All
import Wide.All
import Wide.FinOn
import OpenK.KLine
import KE.RegKIsAll
import KE.KDictOf
import KE.KItem
import KE.LcSums
import KE.KBits
import PyProof.EqAt
import PyProof.EqKinds
import PyProof.TupleCall
import PySem.Challenge.RW_rowbreadth_k37_masks_and_dust
set_option Elab.async false
set_option linter.all false
set_option maxRecDepth 100000
set_option maxHeartbeats 4000000
abbrev Fg:=PySem.W.Frag
abbrev Vl:=PySem.Value
abbrev Ad:=PySem.Addr
abbrev Sh:=PySem.Shared
abbrev J9:=PySem.Str->Option Vl
abbrev Ja:=Vl->Sh->Prop
abbrev Jb:=List Int
abbrev Jc:=List (Ad×PySem.Obj)
abbrev Jd:=List Vl
abbrev Je:=Option Vl
abbrev Jf:=List PySem.Str
abbrev Jg:=List Ad
abbrev Jh:=List PySem.Expr
theorem Ji {α:Type _} {β:Type _} {as:List α} {f:α->β}:(as.map f).length=as.length:=List.length_map ..
theorem Jj {α:Type _} {as bs:List α}:(as++bs).length=as.length+bs.length:=List.length_append ..
theorem Jk {α:Type _} {β:Type _} {f:α->β} {as bs:List α}:(as++bs).map f=as.map f++bs.map f:=List.map_append ..
namespace PySem.W.Fast
def tw947084156912043095:=0
def tw10568736240187524637:=0
def tw8169121392980429223:=0
def tw3950985123357244873:=0
def tw17857083018673785536:=0
def tw17521021636900690909:=0
def tw1247915428906917236:=0
def tw6167088501365587766:=0
def tw1185809338712000861:=0
def tw8988212126625603518:=0
def tw10544314886548658577:=0
def tw5607269657417884974:=0
def tw9768760281530865039:=0
def tw18191405378268805338:=0
def tw12050605086927968058:=0
def tw7166449045908390968:=0
def tw3327069781109764149:=0
def tw12647709057553359598:=0
def tw17200332363688048720:=0
def tw5910311241691298157:=0
def tw5596634757633842303:=0
def tw13490896048715139398:=0
def tw289709498615636217:=0
def tw9079632172267252853:=0
def tw13104723279726369303:=0
def tw5752762074228247248:=0
def tw8894895501678743574:=0
def tw3683049168264331877:=0
def tw8748719170401048405:=0
def tw15191204644744055300:=0
def tw18239481966782062211:=0
def tw13187588034107558188:=0
def tw13807582474846573891:=0
def tw18157893285286954024:=0
def tw14184574775596415975:=0
def tw11265476648590547397:=0
def tw1522588333605584485:=0
def tw8285105274995025394:=0
def tw3459792729788492291:=0
def tw9015962430619180129:=0
def tw16541500724973611392:=0
def tw1669600997670315047:=0
def tw18158301476106751716:=0
def tw14839261841126330255:=0
def tw16910489120627996889:=0
def tw14469682666026299058:=0
def tw3665710544225468187:=0
def tw13120874715282369160:=0
def tw17499333563829555733:=0
def tw4199454751213921595:=0
def tw12721967430182688244:=0
def tw17950615843350678767:=0
def tw11584741326168919002:=0
def tw3713711468290040:=0
def tw5088963953800414972:=0
def tw6144653558774890331:=0
def tw5147961859642797349:=0
def tw6595025577998509069:=0
def tw4090258796706769541:=0
def tw7537202237872772681:=0
def tw11682192080820386922:=0
def tw3896722002420704777:=0
def tw1128113707295820820:=0
def tw13019130333208938251:=0
def tw9261129455060432832:=0
def tw6903879193198646668:=0
def tw16711203246276850986:=0
def tw14496053556313595909:=0
def tw14142924984001951145:=0
def tw1266451175076087223:=0
def tw8039646376979679445:=0
def tw3039371783048110487:=0
def tw13522289097646425756:=0
def tw16918601545310669192:=0
def tw6536825725448329118:=0
def tw11321608065400749977:=0
def tw14914283366127774847:=0
def tw3545127912215312552:=0
def tw4820874280168087310:=0
def tw8380666896498793984:=0
def tw10505867238391548093:=0
def tw15060946434064989054:=0
def tw7850989823312794557:=0
def tw12849040112639525576:=0
def tw5729215585416744898:=0
def tw7058501998738403852:=0
def tw2375911061809363228:=0
def tw10095925130215330791:=0
def tw1869340532702424895:=0
def tw16889838137640525699:=0
def tw14426120109838066326:=0
def tw1222755047330810021:=0
def tw12227138391049121511:=0
def tw5432976800389774342:=0
def tw3292991064227708349:=0
def tw462779318212306251:=0
def tw18287309188140207701:=0
def tw1967268256328998379:=0
def tw3832161268146349655:=0
def tw14331690386812964066:=0
def tw3762150826483094891:=0
def tw18350038387355204285:=0
def tw14234931857789511212:=0
def tw7279931912317171144:=0
def tw16851933972430074549:=0
def tw4176464971393107127:=0
def tw1118412756838112824:=0
def tw15820908460906052217:=0
def tw2502275566995115818:=0
def tw6535377955258666590:=0
def tw4159824942928225526:=0
def tw10694315510005652265:=0
def tw8416334172548203819:=0
def tw606600784973819924:=0
def tw3661219010951696994:=0
def tw12624578949807224602:=0
def tw6312677753681431242:=0
def tw10869674523471394831:=0
def tw13391995365340088068:=0
def tw15933390965148345007:=0
def tw4527233784734265631:=0
def tw1316477124574261480:=0
def tw18284598341422253730:=0
def tw353585114692195465:=0
def tw2905348591634387557:=0
def tw7341277931112012495:=0
def tw5552622878199406479:=0
def tw14831570608820274779:=0
def tw1160695597618044767:=0
def tw11398197036928358590:=0
def tw12519477281595641377:=0
def tw18244668827909780569:=0
def tw7301332299050429531:=0
def tw2418013149068541946:=0
def tw14315790001807111349:=0
def tw8186893051494904125:=0
def tw18135904934307879942:=0
def tw8128049644893793944:=0
def tw17047302261136418484:=0
def tw18074531943415775537:=0
def tw8774849016771059614:=0
def tw15515868047980426235:=0
def tw9588800448831422272:=0
def tw7270516924536477331:=0
def tw9804500617063637316:=0
def tw11198612467363385136:=0
def tw1258293265782934503:=0
def tw5615452724023293525:=0
def tw9839051497960796134:=0
def tw6169680570541689689:=0
def tw17456146376946109692:=0
def tw13054594818677288293:=0
def tw6005837564293301567:=0
def tw7935995332534142593:=0
def tw8493159792114641388:=0
def tw3060577625160176613:=0
def tw11027545552915091523:=0
def tw1227179618126696081:=0
def tw16804786174606474526:=0
def tw4770883347683264079:=0
def tw1919821113717379333:=0
def tw481044369604823359:=0
def tw17000972438344664992:=0
def tw11556582147612957704:=0
def tw10996180255756293616:=0
def tw12645532850385120792:=0
def tw14697761542896757958:=0
def tw1904649224219863071:=0
def tw9492315906389735574:=0
def tw9034685912054026019:=0
def tw4188502164797396132:=0
def tw7798732068695057297:=0
def tw8320407995759510596:=0
def tw15736613250534485909:=0
def tw8549621841421078996:=0
def tw12298601208791780216:=0
def tw17183058655011726827:=0
def tw12370716179208337454:=0
def tw12277720450391465516:=0
def tw13283620413627694704:=0
def tw10083835562376811219:=0
def tw2603693584741688615:=0
def tw1044408967432640046:=0
def tw4697907814061975680:=0
def tw7966608601144280761:=0
def tw17225906903383764213:=0
def tw14901845588915052811:=0
def tw2024722383137275748:=0
def tw13060911702830216947:=0
def tw7916317144683088778:=0
def tw9246631881173303975:=0
def tw15879477412179813385:=0
def tw6937298465706060042:=0
def tw16257836106273109253:=0
def tw5458390011710344109:=0
def tw1721463346182372346:=0
def tw10723729710495540923:=0
def tw7244717988453361330:=0
def tw6983343141926088827:=0
def tw5122630608684633293:=0
def tw11607421169631471836:=0
def tw4952589352568414550:=0
def tw3512507765900063215:=0
def tw11358378182809236768:=0
def tw14000835330268591151:=0
def tw4984558161584582126:=0
def tw11120886172363369432:=0
def tw742898409605965794:=0
def tw16499464040109150671:=0
def tw10468204074113552755:=0
def tw9865169517168043701:=0
def tw15154632655315099294:=0
def tw9323186679009566174:=0
def tw15453646983728459090:=0
def tw1587068338352120188:=0
def tw17022525329484007906:=0
def tw641485363812833090:=0
def tw9160976642831738448:=0
def tw6956180152912783862:=0
def tw6933764445600819369:=0
def tw3918180912583958229:=0
def tw9602317602387382422:=0
def tw14498736144769699701:=0
def tw1000424759129095309:=0
def tw2919894557029428825:=0
def tw16834081740141625817:=0
def tw844849077860110728:=0
def tw9662542947729735638:=0
def tw16439239682825001712:=0
def tw15057698958329413774:=0
def tw8617961918987043784:=0
def tw5951883129699742633:=0
def tw5679032014047721132:=0
def tw2961661770630275177:=0
def tw17297791668768734814:=0
def tw10736243250474105437:=0
def tw8215964269557612719:=0
def tw5423748211831751635:=0
def tw5103133209916108658:=0
def tw3352020888923188171:=0
def tw1803629443943797956:=0
def tw11837956511500417109:=0
def tw4386441064607053721:=0
def tw4736635833466866445:=0
def tw3548365553856202648:=0
def tw11399881959318605980:=0
def tw10710786801397458750:=0
def tw3511338523254256416:=0
def tw3830305832460656629:=0
def tw7319343814029010286:=0
def tw2372753589524842429:=0
def tw17455560266206219489:=0
def tw15519393690721912555:=0
def tw1196716091725891951:=0
def tw1186444094473800675:=0
def tw11253699136616081881:=0
def tw16942742953303932585:=0
def tw1692182130121373625:=0
def tw18247868179510177817:=0
def tw8238255470118537020:=0
def tw2232578809996823476:=0
def tw9454156553539224186:=0
def tw6285196579067769361:=0
def tw6810079756687315673:=0
def tw16438357638739321096:=0
def tw11050333806714628630:=0
def tw17845829078733683627:=0
def tw11597327582217052725:=0
def tw10697401295187644830:=0
def tw3251641525330043845:=0
def tw5806290602471349963:=0
def tw14795108507421853255:=0
def tw8987286459610884650:=0
def tw17209092809578871864:=0
def tw14211828352677348613:=0
def tw14134190222063818219:=0
def tw12860194994572980481:=0
def tw1281898796918469477:=0
def tw4706675555291035209:=0
def tw11540497502031501344:=0
def tw10938097626806448751:=0
end PySem.W.Fast
open PySem renaming wpAny_bind→q0x
open PySem renaming wpAny_pure→q0y
open Int renaming toNat_natCast→q0z
open List renaming getD_eq_getElem?_getD→q1x
open List renaming mem_cons_of_mem→q1y
open List renaming mem_cons_self→q1z
open Bool renaming false_ne_true→q2x
open List renaming mem_append_right→q2y
open Nat renaming lt_of_lt_of_le→q2z
open List renaming length_cons→q3x
open List renaming append_nil→q3y
open List renaming getElem?_set_self→q3z
open List renaming getElem?_append_left→q4x
section
open PySem PySem.W
def ckx {α : Type} (a : List α) (i : Nat) : List α := (a.drop i).take 64
def ckv (p : Addr × Obj) : Option Obj := some p.2
theorem ck2 {α β γ : Type} {f : α → γ} {g : β → γ} {a : List α} {b : List β} {i : Nat} (x : (ckx a i).map f = (ckx b i).map g) (y : (a.drop (i + 64)).map f = (b.drop (i + 64)).map g) : (a.drop i).map f = (b.drop i).map g := by
  have h1 : ((a.drop i).take 64 ++ (a.drop i).drop 64).map f = ((b.drop i).take 64 ++ (b.drop i).drop 64).map g := by
    rw [List.map_append, List.map_append, List.drop_drop, List.drop_drop, y]
    exact congrArg (· ++ _) x
  rw [List.take_append_drop, List.take_append_drop] at h1
  exact h1
theorem ck_of {K : Params → Frag} {a : List Addr} (e : ∀ P, a = (K P).map (·.1)) (w : World) (s : Shared) (x : (((((ckx a 0).map s.heap.get?, (ckx a 64).map s.heap.get?), ((ckx a 128).map s.heap.get?, (ckx a 192).map s.heap.get?)), (((ckx a 256).map s.heap.get?, (ckx a 320).map s.heap.get?), ((ckx a 384).map s.heap.get?, (ckx a 448).map s.heap.get?))), ((((ckx a 512).map s.heap.get?, (ckx a 576).map s.heap.get?), ((ckx a 640).map s.heap.get?, (ckx a 704).map s.heap.get?)), (((ckx a 768).map s.heap.get?, (ckx a 832).map s.heap.get?), ((ckx a 896).map s.heap.get?, ((a).drop 960).map s.heap.get?)))) = (((((ckx (K w.params) 0).map ckv, (ckx (K w.params) 64).map ckv), ((ckx (K w.params) 128).map ckv, (ckx (K w.params) 192).map ckv)), (((ckx (K w.params) 256).map ckv, (ckx (K w.params) 320).map ckv), ((ckx (K w.params) 384).map ckv, (ckx (K w.params) 448).map ckv))), ((((ckx (K w.params) 512).map ckv, (ckx (K w.params) 576).map ckv), ((ckx (K w.params) 640).map ckv, (ckx (K w.params) 704).map ckv)), (((ckx (K w.params) 768).map ckv, (ckx (K w.params) 832).map ckv), ((ckx (K w.params) 896).map ckv, (((K w.params)).drop 960).map ckv))))) : InK K w s.heap :=
  InK.of e w s (ck2 (congrArg (·.1.1.1.1) x) (ck2 (congrArg (·.1.1.1.2) x) (ck2 (congrArg (·.1.1.2.1) x) (ck2 (congrArg (·.1.1.2.2) x) (ck2 (congrArg (·.1.2.1.1) x) (ck2 (congrArg (·.1.2.1.2) x) (ck2 (congrArg (·.1.2.2.1) x) (ck2 (congrArg (·.1.2.2.2) x) (ck2 (congrArg (·.2.1.1.1) x) (ck2 (congrArg (·.2.1.1.2) x) (ck2 (congrArg (·.2.1.2.1) x) (ck2 (congrArg (·.2.1.2.2) x) (ck2 (congrArg (·.2.2.1.1) x) (ck2 (congrArg (·.2.2.1.2) x) (ck2 (congrArg (·.2.2.2.1) x) (congrArg (·.2.2.2.2) x))))))))))))))))
local macro_rules
  | `(tactic| refine $h:ident (q := $q) (loose := $l) (Xt := $x) (XP := $xp) (Yf := $_:ident ($_:ident $k $a $e)) (Ya := $_) (YP := $_) (N := $n) $hl $_ $_ $rest*) => `(tactic| refine $h (q := $q) (loose := $l) (Xt := $x) (XP := $xp) (Yf := fun s => (((((ckx $a 0).map s.heap.get?, (ckx $a 64).map s.heap.get?), ((ckx $a 128).map s.heap.get?, (ckx $a 192).map s.heap.get?)), (((ckx $a 256).map s.heap.get?, (ckx $a 320).map s.heap.get?), ((ckx $a 384).map s.heap.get?, (ckx $a 448).map s.heap.get?))), ((((ckx $a 512).map s.heap.get?, (ckx $a 576).map s.heap.get?), ((ckx $a 640).map s.heap.get?, (ckx $a 704).map s.heap.get?)), (((ckx $a 768).map s.heap.get?, (ckx $a 832).map s.heap.get?), ((ckx $a 896).map s.heap.get?, (($a).drop 960).map s.heap.get?))))) (Ya := fun w => (((((ckx ($k w.params) 0).map ckv, (ckx ($k w.params) 64).map ckv), ((ckx ($k w.params) 128).map ckv, (ckx ($k w.params) 192).map ckv)), (((ckx ($k w.params) 256).map ckv, (ckx ($k w.params) 320).map ckv), ((ckx ($k w.params) 384).map ckv, (ckx ($k w.params) 448).map ckv))), ((((ckx ($k w.params) 512).map ckv, (ckx ($k w.params) 576).map ckv), ((ckx ($k w.params) 640).map ckv, (ckx ($k w.params) 704).map ckv)), (((ckx ($k w.params) 768).map ckv, (ckx ($k w.params) 832).map ckv), ((ckx ($k w.params) 896).map ckv, ((($k w.params)).drop 960).map ckv))))) (YP := InK $k) (N := $n) $hl (ck_of $e) InK.keeps $rest*)
open PyProof.Rows
set_option maxRecDepth 100000 in
set_option maxHeartbeats 0 in
open_top K37hd for PySem.Challenge.rw_rowbreadth_k37_masks_and_dust
end
namespace L2
open PySem PySem.Spec PyProof.Rows
abbrev Key:=Sum Int Str
def Xu:Key->Vl->Bool
 | .inl k,v=>Value.isInt k v
 | .inr x,v=>Value.isStrOf x v
def keyH (w:World):Key->Int
 | .inl k=>hashInt k
 | .inr x=>hashStr w x
theorem yb:∀ {k:Key} {v:Vl},Xu k v=true->(∃ i t,k=Sum.inl i/\v=Value.int i t)∨(∃ x t,k=Sum.inr x/\v=Value.str x t)
 | .inl i,v,h=>by
  obtain ⟨t,e⟩:=Value.isInt_shape (k:=i) (v:=v) h;exact .inl ⟨i,t,rfl,e⟩
 | .inr x,v,h=>by
  obtain ⟨t,e⟩:=Value.isStrOf_shape (x:=x) (v:=v) h;exact .inr ⟨x,t,rfl,e⟩
def keyIs_int (i:Int) (t:Tok):Xu (.inl i) (.int i t)=true:=by simp [Xu,Value.isInt]
def keyIs_str (x:Str) (t:Tok):Xu (.inr x) (.str x t)=true:=by simp [Xu,Value.isStrOf]
def key_ll (a b:Int):decide ((Sum.inl a:Key)=Sum.inl b)=(a == b):=by
 by_cases e:a=b
 ·subst e;simp
 ·have h:¬ (Sum.inl a:Key)=Sum.inl b:=λq=>e (Sum.inl.inj q)
  rw [decide_eq_false h];exact (beq_eq_false_iff_ne.mpr e).symm
def key_rr (a b:Str):decide ((Sum.inr a:Key)=Sum.inr b)=decide (a=b):=by
 by_cases e:a=b
 ·subst e;simp
 ·have h:¬ (Sum.inr a:Key)=Sum.inr b:=λq=>e (Sum.inr.inj q)
  rw [decide_eq_false h,decide_eq_false e]
def key_lr (a:Int) (b:Str):decide ((Sum.inl a:Key)=Sum.inr b)=false:=decide_eq_false (λq=>nomatch q)
def key_rl (a:Str) (b:Int):decide ((Sum.inr a:Key)=Sum.inl b)=false:=decide_eq_false (λq=>nomatch q)
def zI (prog:Program) (w:World):PySem.KeyKind prog w Key where
 is:=Xu
 hash:=keyH w
 inj:=λv a b ha hb=>by
  rcases yb ha with ⟨i,t,rfl,rfl⟩ | ⟨x,t,rfl,rfl⟩
  ·rcases yb hb with ⟨j,u,rfl,e⟩ | ⟨y,u,rfl,e⟩
   ·injection e with e1 _;rw [e1]
   ·exact nomatch e
  ·rcases yb hb with ⟨j,u,rfl,e⟩ | ⟨y,u,rfl,e⟩
   ·exact nomatch e
   ·injection e with e1 _;rw [e1]
 byValue:=λk v h=>by
  rcases yb h with ⟨i,t,rfl,rfl⟩ | ⟨x,t,rfl,rfl⟩ <;> rfl
 pyHash:=λhv h=>by
  rcases yb hv with ⟨i,t,rfl,rfl⟩ | ⟨x,t,rfl,rfl⟩
  ·exact wpAny_pyHash_int h
  ·exact wpAny_pyHash_str h
 eqBool:=λhu hv h=>by
  rcases yb hu with ⟨i,t,rfl,rfl⟩ | ⟨x,t,rfl,rfl⟩
  ·rcases yb hv with ⟨j,u,rfl,rfl⟩ | ⟨y,u,rfl,rfl⟩
   ·rw [key_ll] at h;exact wpAny_eqBool_int h
   ·rw [key_lr] at h;exact SeqAt.EqAt.int_str i t y u _ _ _ _ h
  ·rcases yb hv with ⟨j,u,rfl,rfl⟩ | ⟨y,u,rfl,rfl⟩
   ·rw [key_rl] at h;exact SeqAt.EqAt.str_int x t j u _ _ _ _ h
   ·rw [key_rr] at h;exact wpAny_eqBool_str h
 «strs»:=λk x t v h=>by
  rcases yb h with ⟨i,u,rfl,e⟩ | ⟨y,u,rfl,e⟩
  ·exact nomatch e
  ·injection e with e1 _
   subst e1;cases v <;> rfl
def zax (prog:Program) (w:World) (i:Int) (t:Tok):(zI prog w).is (.inl i) (.int i t)=true:=keyIs_int i t
def zaw (prog:Program) (w:World) (x:Str) (t:Tok):(zI prog w).is (.inr x) (.str x t)=true:=keyIs_str x t
inductive V where
 | non | bl (b:Bool) | int (i:Int) | str (x:Str) | byt (b:Array UInt8) | flt (b:UInt64) | ref (a:Ad) | ty (n:String)
 deriving DecidableEq
def RelV:V->Vl->Prop
 | .non,u=>u=Value.none
 | .bl b,u=>u=Value.bool b
 | .int i,u=>∃ t,u=Value.int i t
 | .str x,u=>∃ t,u=Value.str x t
 | .byt b,u=>∃ t,u=Value.bytes b t
 | .flt b,u=>∃ t,u=Value.float b t
 | .ref a,u=>u=Value.ref a
 | .ty n,u=>u=Value.type n
abbrev Vals:List V->Jd->Prop:=Paired RelV
def Vals.length {xs:List V} {us:Jd} (r:Vals xs us):xs.length=us.length:=Paired.length r
theorem Vals.get:∀ {xs:List V} {us:Jd} {i:Nat} {x:V},Vals xs us->xs[i]?=some x->∃ u,us[i]?=some u/\RelV x u
 | _,_,_,_,.nil,e=>by simp at e
 | _,_,0,_,.cons r _,e=>by simp at e;subst e;exact ⟨_,rfl,r⟩
 | _,_,i+1,x,.cons _ t,e=>by
  obtain ⟨u,h1,h2⟩:=Vals.get (i:=i) (x:=x) t (by simpa using e);exact ⟨u,by simpa using h1,h2⟩
theorem Vals.set {x:V} {u:Vl} (r:RelV x u):∀ {xs:List V} {us:Jd} (i:Nat),Vals xs us->Vals (xs.set i x) (us.set i u)
 | _,_,_,.nil=>.nil
 | _,_,0,.cons _ t=>.cons r t
 | _,_,i+1,.cons q t=>.cons q (Vals.set r i t)
theorem Vals.append:∀ {xs ys:List V} {us ws:Jd},Vals xs us->Vals ys ws->Vals (xs++ys) (us++ws)
 | _,_,_,_,.nil,s=>s
 | _,_,_,_,.cons r t,s=>.cons r (Vals.append t s)
theorem Vals.take:∀ {xs:List V} {us:Jd} (n:Nat),Vals xs us->Vals (xs.take n) (us.take n)
 | _,_,0,_=>.nil
 | _,_,_+1,.nil=>.nil
 | _,_,n+1,.cons r t=>.cons r (Vals.take n t)
theorem Vals.drop:∀ {xs:List V} {us:Jd} (n:Nat),Vals xs us->Vals (xs.drop n) (us.drop n)
 | _,_,0,r=>r
 | _,_,_+1,.nil=>.nil
 | _,_,n+1,.cons _ t=>Vals.drop n t
def RelO:Option V->Je->Prop
 | some v,some u=>RelV v u
 | none,none=>True
 | _,_=>False
def KV {κ:Type}:List (κ×V)->List (κ×Vl)->Prop:=Paired λ(p:κ×V) (q:κ×Vl)=>p.1=q.1/\RelV p.2 q.2
def kV:Key->V
 | .inl i=>.int i
 | .inr x=>.str x
inductive HO where
  | lst (xs:List V)
  | tup (xs:List V)
  | dK (kvs:List (Key×V)) | dT (kvs:List (List Key×V))
  | set (S:Int->Bool) (n:Nat)
  | ins (C dx:Ad) (fs:List (Str×V))
  | own (x:Ad)
  | xd (fs:List (Str×V))
  | met (f x:Ad)
  | rng (lo hi:Int)
  | frz (o:Obj) (u:HO)
  | tbl (ps:Array Vl)
  | ext (φ:Heap->Prop)
abbrev Hp:=Ad->Option HO
theorem Jp (l:List PySem.Str) (h:decide l.Nodup=true:=by decide +kernel):l.Nodup:=of_decide_eq_true h
abbrev Jl:=List (Key×V)
abbrev Jm:=List (Ad×HO)
abbrev Jn:=List V
abbrev Jo:=Option V
def upd (H:Hp) (a:Ad) (o:HO):Hp:=λb=>if b=a then some o else H b
def zf {H:Hp} {a:Ad} {o:HO}:upd H a o a=some o:=by unfold upd;rw [if_pos rfl]
def zk {H:Hp} {a b:Ad} {o:HO} (h:b≠a):upd H a o b=H b:=by unfold upd;rw [if_neg h]
def upd_upd {H:Hp} {a:Ad} {o u:HO}:upd (upd H a o) a u=upd H a u:=by
 funext b;unfold upd;split <;> rfl
def ne_of {H:Hp} {a b:Ad} {o u:HO} (h:H a=some o) (h':H b=some u) (d:o≠u):a≠b:=by
 intro e;subst e;rw [h] at h';exact d (Option.some.inj h')
def zp {H:Hp} {a b:Ad} {o:HO} (h:H a=some o) (h':H b=none):a≠b:=by
 intro e;subst e;rw [h] at h';cases h'
section
variable (P:Program) (w:World)
def ObjOk (H:Hp) (h:Heap) (a:Ad):HO->Prop
 | .lst xs=>xs.length<=sizeLine/\∃ (its:Jd) (n:Nat),Vals xs its/\h.get? a=some { cls:=.type "list",data:=.seq its.toArray n }
 | .tup xs=>xs.length<=sizeLine/\∃ its:Jd,Vals xs its/\IsTup h a its.toArray
 | .dK kvs=>kvs.length<=sizeLine/\(a == sysModules)=false/\∃ vs,KV kvs vs/\h.DictOf (zI P w) a vs
 | .dT kvs=>kvs.length<=sizeLine/\(a == sysModules)=false/\∃ xs:List (List Key×Ad×Vl),
   Paired (λ(p:List Key×V) (q:List Key×Ad×Vl)=>p.1=q.1/\H q.2.1=some (.tup (p.1.map kV))/\RelV p.2 q.2.2) kvs xs /\
   ∃ o es ep,h.get? a=some o/\o.ExactDict/\o.data=.dict es ep/\es.toList=xs.map (entryOfKey (tupleKind (zI P w)))/\(xs.map (·.1)).Nodup
 | .set S n=>h.SetOf (intKind P w) a S n
 | .ins C dx fs=>H dx=some (.own a)/\fs.length<=1000/\dx≠a/\h.get? a=some (PySem.W.instObj C dx) /\
   ∃ mA,h.Ns1 dx mA/\(∀ f,RelO (fs.lookup f) (mA f))/\PySem.Within mA (fs.map (·.1))
 | .own _=>∃ o,h.get? a=some o
 | .xd fs=>∃ mA,h.Ns1 a mA/\∀ f,RelO (fs.lookup f) (mA f)
 | .rng lo hi=>∃ t u v,h.get? a=some { cls:=.type "range",data:=.fields #[.int lo t,.int hi u,.int 1 v] }
 | .frz o u=>h.get? a=some o/\ObjOk H h a u
 | .tbl ps=>h.get? a=some { cls:=.none,data:=.fields ps }
 | .met f x=>h.get? a=some (PySem.W.methodObj (.ref f) (.ref x))
 | .ext φ=>φ h/\(∃ o,h.get? a=some o)/\∀ h1 h2:Heap,φ h1->(∀ o,h1.get? a=some o->h2.get? a=some o)->φ h2
def HOk (H:Hp) (h:Heap):Prop:=∀ a o,H a=some o->ObjOk P w H h a o
end
section
variable {P:Program} {w:World} {H H':Hp} {h h':Heap} {a:Ad} {o:HO}
theorem ObjOk.lt (x:ObjOk P w H h a o):a<h.objs.size:=by
 cases o with
 | lst xs=>obtain ⟨_,_,_,_,e⟩:=x;exact Heap.lt_size e
 | tup xs=>obtain ⟨_,_,_,p⟩:=x;exact p.lt
 | dK kvs=>obtain ⟨_,_,_,_,o,_,_,e,_⟩:=x;exact Heap.lt_size e
 | dT kvs=>obtain ⟨_,_,_,_,o,_,_,e,_⟩:=x;exact Heap.lt_size e
 | set S n=>obtain ⟨o,_,_,_,e,_⟩:=x;exact Heap.lt_size e
 | ins C dx fs=>obtain ⟨_,_,_,e,_⟩:=x;exact Heap.lt_size e
 | own y=>obtain ⟨_,e⟩:=x;exact Heap.lt_size e
 | xd fs=>obtain ⟨_,⟨_,_,_,e,_⟩,_⟩:=x;exact Heap.lt_size e
 | rng lo hi=>obtain ⟨_,_,_,e⟩:=x;exact Heap.lt_size e
 | frz ob u=>obtain ⟨e,_⟩:=x;exact Heap.lt_size e
 | tbl ps=>exact Heap.lt_size (show h.get? a=some _ from x)
 | met f y=>exact Heap.lt_size (show h.get? a=some _ from x)
 | ext φ=>obtain ⟨_,⟨_,e⟩,_⟩:=x;exact Heap.lt_size e
theorem Paired.mapP {α β:Type} {F G:α->β->Prop}:∀ {l₁:List α} {l₂:List β},Paired F l₁ l₂->(∀ a b,F a b->G a b)->Paired G l₁ l₂
 | _,_,.nil,_=>.nil
 | _,_,.cons r t,f=>.cons (f _ _ r) (Paired.mapP t f)
theorem ObjOk.stay (x:ObjOk P w H h a o) (k:∀ b u,(b=a∨H b=some (.own a))->h.get? b=some u->h'.get? b=some u)
  (ho:∀ b,H b=some (.own a)->H' b=some (.own a)) (ht:∀ b xs,H b=some (.tup xs)->H' b=some (.tup xs)):ObjOk P w H' h' a o:=by
 induction o with
 | lst xs=>obtain ⟨z,its,n,r,e⟩:=x;exact ⟨z,its,n,r,k _ _ (.inl rfl) e⟩
 | tup xs=>obtain ⟨z,its,r,ob,e,c⟩:=x;exact ⟨z,its,r,ob,k _ _ (.inl rfl) e,c⟩
 | dK kvs=>obtain ⟨z,y,vs,r,ob,es,ep,e,c⟩:=x;exact ⟨z,y,vs,r,ob,es,ep,k _ _ (.inl rfl) e,c⟩
 | dT kvs =>
  obtain ⟨z,y,xs,r,ob,es,ep,e,c⟩:=x;exact ⟨z,y,xs,Paired.mapP r λp q z=>⟨z.1,ht _ _ z.2.1,z.2.2⟩,ob,es,ep,k _ _ (.inl rfl) e,c⟩
 | set S n=>obtain ⟨ob,es,ep,t,e,c⟩:=x;exact ⟨ob,es,ep,t,k _ _ (.inl rfl) e,c⟩
 | ins C dx fs =>
  obtain ⟨d,z,ne,e,mA,⟨od,es,ep,e2,c⟩,r⟩:=x;exact ⟨ho _ d,z,ne,k _ _ (.inl rfl) e,mA,⟨od,es,ep,k _ _ (.inr d) e2,c⟩,r⟩
 | own y=>obtain ⟨ob,e⟩:=x;exact ⟨ob,k _ _ (.inl rfl) e⟩
 | xd fs=>obtain ⟨mA,⟨od,es,ep,e,c⟩,r⟩:=x;exact ⟨mA,⟨od,es,ep,k _ _ (.inl rfl) e,c⟩,r⟩
 | rng lo hi=>obtain ⟨t,u,v,e⟩:=x;exact ⟨t,u,v,k _ _ (.inl rfl) e⟩
 | frz ob u ih=>obtain ⟨e,q⟩:=x;exact ⟨k _ _ (.inl rfl) e,ih q⟩
 | tbl ps =>
  have e:h.get? a=some { cls:=.none,data:=.fields ps }:=x;show h'.get? a=some { cls:=.none,data:=.fields ps };exact k a _ (.inl rfl) e
 | met f y =>
  have e:h.get? a=some (PySem.W.methodObj (.ref f) (.ref y)):=x;show h'.get? a=some (PySem.W.methodObj (.ref f) (.ref y));exact k a _ (.inl rfl) e
 | ext φ=>obtain ⟨p,⟨o,e⟩,st⟩:=x;exact ⟨st _ _ p λo q=>k _ _ (.inl rfl) q,⟨o,k _ _ (.inl rfl) e⟩,st⟩
def HOk.lt (x:HOk P w H h) (e:H a=some o):a<h.objs.size:=(x a o e).lt
theorem HOk.fresh (x:HOk P w H h) (e:h.objs.size<=a):H a=none:=by
 cases q:H a with
 | none=>rfl
 | some u=>exact absurd (q2z (x.lt q) e) (Nat.lt_irrefl _)
def HOk.kept (x:HOk P w H h) (k:∀ b u,h.get? b=some u->h'.get? b=some u):HOk P w H h':=λa o e =>
 (x a o e).stay (λb u _ q=>k b u q) (λ_ q=>q) λ_ _ q=>q
def HOk.laid (x:HOk P w H h) (k:∀ b u,h.get? b=some u->h'.get? b=some u) (hp:h.objs.size<=a) (new:ObjOk P w (upd H a o) h' a o):HOk P w (upd H a o) h':=λb u e=>by
 have hn:=x.fresh hp;by_cases hb:b=a
 ·subst hb;rw [zf] at e;cases e;exact new
 ·rw [zk hb] at e
  exact (x b u e).stay (λc v _ q=>k c v q) (λc q=>by rw [zk (zp q hn)];exact q) λc xs q=>by rw [zk (zp q hn)];exact q
end
def Rd (H:Hp) (a:Ad) (u:HO):Prop:=H a=some u∨∃ o,H a=some (.frz o u)
def Rd.ok {P:Program} {w:World} {H:Hp} {h:Heap} {a:Ad} {u:HO} (r:Rd H a u) (x:HOk P w H h):ObjOk P w H h a u:=by
 rcases r with r | ⟨o,r⟩
 ·exact x a u r
 ·obtain ⟨_,q⟩:=x a _ r
  exact q
def Mut:Option HO->Prop
 | some (.lst _)=>True
 | some (.dK _)=>True
 | some (.dT _)=>True
 | some (.set _ _)=>True
 | some (.ins _ _ _)=>True
 | some (.ext _)=>True
 | _=>False
section
variable {P:Program} {w:World} {H:Hp} {h h':Heap} {x e:Ad} {o':HO}
def HOk.write (ok:HOk P w H h) (mu:Mut (H x)) (he:e=x∨H e=some (.own x)) (k:∀ b u,b≠e->h.get? b=some u->h'.get? b=some u) (heo:∃ u,h'.get? e=some u)
  (new:ObjOk P w (upd H x o') h' x o'):HOk P w (upd H x o') h':=λb u q=>by
 have nown:∀ c y,H c=some (.own y)->c≠x:=λc y r z=>by subst z;rw [r] at mu;exact mu
 have ntup:∀ c xs,H c=some (.tup xs)->c≠x:=λc xs r z=>by subst z;rw [r] at mu;exact mu
 by_cases hb:b=x
 ·subst hb;rw [zf] at q;cases q;exact new
 ·rw [zk hb] at q
  by_cases hbe:b=e
  ·have q':H b=some (.own x):=by
    rcases he with z | z
    ·exact absurd (hbe.trans z) hb
    ·rw [hbe];exact z
   rw [q] at q';cases q';obtain ⟨v,hv⟩:=heo;exact ⟨v,by rw [hbe];exact hv⟩
  ·refine (ok b u q).stay (λc v hc r=>k c v ?_ r) (λc r=>by rw [zk (nown c b r)];exact r) λc xs r=>by rw [zk (ntup c xs r)];exact r
   rcases hc with rfl | hc
   ·exact hbe
   ·rintro rfl
    rcases he with z | z
    ·exact nown c b hc z
    ·rw [hc] at z;cases z;exact hb rfl
end
structure Un (fs ex:Jg) (H H':Hp) (h h':Heap):Prop where
 keep:∀ b o,h.get? b=some o->H b=none->b ∉ fs->b ∉ ex->h'.get? b=some o
 slot:∀ b o,h.get? b=some o->H b=none->b∈fs->b ∉ ex->∃ sl,h'.get? b=some { o with slots:=sl }
 free:∀ b o,h.get? b=some o->H b=none->b ∉ ex->H' b=none
 there:∀ b o,h.get? b=some o->b ∉ ex->∃ o',h'.get? b=some o'
 tups:∀ b xs,H b=some (.tup xs)->H' b=some (.tup xs)
 frzs:∀ b o u,H b=some (.frz o u)->H' b=some (.frz o u)
 tbls:∀ b ps,H b=some (.tbl ps)->∃ more,H' b=some (.tbl (ps++more))
section
variable {fs fs' ex ex':Jg} {H H1 H2:Hp} {h h1 h2 h':Heap} {a x e:Ad} {o:HO}
def Un.any (u:Un fs ex H H1 h h1) {b:Ad} {ob:Obj} (q:h.get? b=some ob) (n:H b=none) (hx:b ∉ ex):∃ sl,h1.get? b=some { ob with slots:=sl }:=by
 by_cases hb:b∈fs
 ·exact u.slot b ob q n hb hx
 ·exact ⟨ob.slots,u.keep b ob q n hb hx⟩
def Un.trans (a:Un fs ex H H1 h h1) (b:Un fs ex H1 H2 h1 h2):Un fs ex H H2 h h2 where
 keep:=λc ob q n hc hx=>b.keep c ob (a.keep c ob q n hc hx) (a.free c ob q n hx) hc hx
 slot:=λc ob q n hc hx=>by
  obtain ⟨sl,e1⟩:=a.slot c ob q n hc hx;obtain ⟨sl',e2⟩:=b.slot c _ e1 (a.free c ob q n hx) hc hx;exact ⟨sl',e2⟩
 free:=λc ob q n hx=>by
  obtain ⟨o',e1⟩:=a.there c ob q hx;exact b.free c o' e1 (a.free c ob q n hx) hx
 there:=λc ob q hx=>by
  obtain ⟨o',e1⟩:=a.there c ob q hx;exact b.there c o' e1 hx
 tups:=λc xs q=>b.tups c xs (a.tups c xs q)
 frzs:=λc ob xs q=>b.frzs c ob xs (a.frzs c ob xs q)
 tbls:=λc ps q=>by
  obtain ⟨m1,e1⟩:=a.tbls c ps q;obtain ⟨m2,e2⟩:=b.tbls c _ e1;exact ⟨m1++m2,by rw [e2,Array.append_assoc]⟩
def Un.kept (k:∀ b u,h.get? b=some u->h'.get? b=some u):Un fs ex H H h h' :=
 ⟨λb ob q _ _ _=>k b ob q,λb ob q _ _ _=>⟨ob.slots,k b ob q⟩,λ_ _ _ n _=>n,λb ob q _=>⟨ob,k b ob q⟩,λ_ _ q=>q,λ_ _ _ q=>q,λ_ ps q=>⟨#[],by rw [q];simp⟩⟩
def Un.refl:Un fs ex H H h h:=Un.kept λ_ _ q=>q
def Un.laid (k:∀ b u,h.get? b=some u->h'.get? b=some u) (hp:h.objs.size<=a) (hn:H a=none):Un fs ex H (upd H a o) h h' where
 keep:=λb u q _ _ _=>k b u q
 slot:=λb u q _ _ _=>⟨u.slots,k b u q⟩
 free:=λb u q n _=>by rw [zk (Nat.ne_of_lt (q2z (Heap.lt_size q) hp))];exact n
 there:=λb u q _=>⟨u,k b u q⟩
 tups:=λb xs q=>by rw [zk (zp q hn)];exact q
 frzs:=λb u xs q=>by rw [zk (zp q hn)];exact q
 tbls:=λb ps q=>⟨#[],by rw [zk (zp q hn),q];simp⟩
def Un.write (mu:Mut (H x)) (he:e=x∨H e=some (.own x)) (k:∀ b u,b≠e->h.get? b=some u->h'.get? b=some u) (heo:∃ u,h'.get? e=some u):Un fs ex H (upd H x o) h h':=by
 have hx:∀ b,H b=none->b≠x:=λb n z=>by subst z;rw [n] at mu;exact mu
 have hb:∀ b,H b=none->b≠e:=λb n z=>by
  subst z;rcases he with r | r
  ·exact hx b n r
  ·rw [n] at r;cases r
 have hm:∀ b u,H b=some u->¬ Mut (some u)->b≠x:=λb u q nm z=>by subst z;rw [q] at mu;exact nm mu
 refine ⟨λb u q n _ _=>k b u (hb b n) q,λb u q n _ _=>⟨u.slots,k b u (hb b n) q⟩,λb u q n _=>by rw [zk (hx b n)];exact n,λb u q _=>?_,
  λb xs q=>by rw [zk (hm b _ q λz=>z)];exact q,λb u xs q=>by rw [zk (hm b _ q λz=>z)];exact q,λb ps q=>⟨#[],by rw [zk (hm b _ q λz=>z),q];simp⟩⟩
 by_cases hbe:b=e
 ·subst hbe;exact heo
 ·exact ⟨u,k b u hbe q⟩
end
def trk (h:Heap) (H:Hp):Jg:=(List.range h.objs.size).filter λa=>(H a).isSome
def hidT (h:Heap) (H:Hp):Heap:=PySem.W.hideAll h (trk h H)
def hidT_size (h:Heap) (H:Hp):(hidT h H).objs.size=h.objs.size:=PySem.W.hideAll_size _ _
def hidT_get {h:Heap} {H:Hp} {b:Ad} {o:Obj} (e:h.get? b=some o) (n:H b=none):(hidT h H).get? b=some o :=
 PySem.W.hideAll_get _ e λhm=>by
  have q:(H b).isSome=true:=(List.mem_filter.mp hm).2;rw [n] at q;simp at q
theorem of_hidT {h:Heap} {H:Hp} {b:Ad} {o:Obj} (e:(hidT h H).get? b=some o):h.get? b=some o/\H b=none:=by
 have e':h.get? b=some o:=PySem.W.of_hideAll (trk h H) e;refine ⟨e',?_⟩
 cases q:H b with
 | none=>rfl
 | some x =>
  have hm:b∈trk h H:=List.mem_filter.mpr ⟨List.mem_range.mpr (Heap.lt_size e'),by simp [q]⟩;have z:(hidT h H).get? b=none:=PySem.W.hideAll_none (trk h H) hm;rw [z] at e;cases e
def Z8 (g h:Heap) (L:Ad):Jc:=(List.range h.objs.size).filterMap λa=>if a=L∨(g.get? a).isSome=true then none else (h.get? a).map λo=>(a,o)
def zaz {g h:Heap} {L a:Ad} {o:Obj} (h1:a≠L) (h2:g.get? a=none) (h3:h.get? a=some o):(a,o)∈Z8 g h L :=
 List.mem_filterMap.mpr ⟨a,List.mem_range.mpr (Heap.lt_size h3),by simp [h1,h2,h3]⟩
theorem YV {g h:Heap} {L:Ad} {p:Ad×Obj} (hp:p∈Z8 g h L):p.1≠L/\g.get? p.1=none/\h.get? p.1=some p.2:=by
 obtain ⟨b,_,e⟩:=List.mem_filterMap.mp hp
 split at e
 ·cases e
 ·rename_i hn
  cases q:h.get? b with
  | none=>rw [q] at e;simp at e
  | some u =>
   rw [q] at e;simp only [Option.map_some,Option.some.injEq] at e;subst e;refine ⟨λz=>hn (.inl z),?_,q⟩;show g.get? b=none
   cases r:g.get? b with
   | none=>rfl
   | some v=>exact (hn (.inr (by simp [r]))).elim
def rest (g h:Heap) (L d:Ad):Jc:=(Z8 g h L).filter λp=>decide (p.1≠d)
def news_all {g h:Heap} {L:Ad}:News g L h (Z8 g h L):=λp hp=>let ⟨a,b,c⟩:=YV hp;⟨c,a,b⟩
structure Mod (K:Fg) (mg:J9) (base:Heap):Prop where
 kin:K.In base
 glob:base.Ns mainGlobals mg
 blt:∃ mb,base.Ns builtinsNs mb/\∀ x:Str,x≠"__name__"->mb x=bootBuiltins x
 nolimit:base.NoLimit
structure Cx where
 prog:Program
 w:World
 K:Fg
 mg:J9
 base:Heap
 A:Around
 N:Jf
 s₀:Sh
 H₀:Hp
 env:Env
 outer:List Env
 stack:List Env
 ex:Jg
 fn:Str->Bool
 calm:Bool
 pn:Jc
 xe:Ja
def frs (l:List Env):Jg:=l.filterMap (·.frame)
abbrev Cx.fs (X:Cx):Jg:=frs X.outer
def Vis (sc:Scope) (x:Str):Prop:=sc.names.lookup x=some .local∨sc.names.lookup x=some .cell∨sc.names.lookup x=some .free
def Loc (sc:Scope) (x:Str):Prop:=sc.names.lookup x=some .local∨sc.names.lookup x=some .cell
def Look (env:Env) (h:Heap) (m:J9) (x:Str) (u:Vl):Prop :=
 (env.kindOf x=some .local/\m x=some u)∨((env.kindOf x=some .cell∨env.kindOf x=some .free)/\∃ c,env.cells.lookup x=some c/\h.IsCell c (some u))
structure Cx.Ok (X:Cx):Prop where
 mod:Mod X.K X.mg X.base
 kind:X.env.scope.kind=.function
 glob:X.env.globals=mainGlobals
 blt:X.env.builtins=builtinsNs
 above:X.s₀.heap.objs.size<=X.env.locals
 inj:∀ x y c,X.env.cells.lookup x=some c->X.env.cells.lookup y=some c->x=y
 has:∀ x,(X.env.kindOf x=some .cell∨X.env.kindOf x=some .free)->∃ c,X.env.cells.lookup x=some c
 cab:∀ x c,X.fn x=true->X.env.cells.lookup x=some c->X.s₀.heap.objs.size<=c
 hd:X.calm=true->X.A.handled=none
 frames:X.A.frames=some X.stack
 stk:X.stack=X.outer∨(X.stack=X.env::X.outer/\X.env.frame=some X.env.locals)
 exf:∀ b∈X.ex,b≠X.env.locals/\∀ x c,X.env.cells.lookup x=some c->c≠b
 bs:∀ b o,X.base.get? b=some o->X.s₀.heap.get? b=some o/\X.H₀ b=none
 bsz:X.base.objs.size<=X.s₀.heap.objs.size
 noex:∀ b o,X.base.get? b=some o->b ∉ X.ex
 exfs:∀ b∈X.ex,b ∉ X.fs
 funs:X.s₀.heap.FunFrames X.base X.outer
 frf:∀ b∈X.fs,X.H₀ b=none
structure Inv (X:Cx) (pins:Jc) (σ:List (Jo)) (H:Hp) (s:Sh):Prop where
 ok:X.Ok
 os:s.os=X.s₀.os
 bare:AllBare s.gens
 base:Un X.fs X.ex X.H₀ H X.s₀.heap s.heap
 loc:∃ m,s.heap.Ns X.env.locals m/\∀ (i:Nat) (x:Str) (v:V),X.N[i]?=some x->σ[i]?=some (some v)->Vis X.env.scope x->∃ u,RelV v u/\Look X.env s.heap m x u
 cell:∀ x c,X.env.cells.lookup x=some c->∃ v,s.heap.IsCell c v
 free:H X.env.locals=none
 freeC:∀ x c,X.env.cells.lookup x=some c->H c=none
 pin:∀ p∈X.pn++pins,s.heap.get? p.1=some p.2/\H p.1=none/\p.1≠X.env.locals/\p.1 ∉ X.fs/\∀ v,p.2.data≠.cell v
 hok:HOk X.prog X.w H s.heap
 len:σ.length=X.N.length
section
variable {X:Cx} {pins:Jc} {σ:List (Jo)} {H H':Hp} {s:Sh} {h':Heap}
def Cx.Ok.nofr (ok:X.Ok) {b:Ad} {o:Obj} (e:X.base.get? b=some o):b ∉ X.fs:=λhb=>by
 have:=(ok.funs.mem hb).1;rw [e] at this;cases this
def Inv.bs (I:Inv X pins σ H s):∀ b o,X.base.get? b=some o->s.heap.get? b=some o/\H b=none:=λb o e =>
 ⟨I.base.keep b o (I.ok.bs b o e).1 (I.ok.bs b o e).2 (I.ok.nofr e) (I.ok.noex b o e),I.base.free b o (I.ok.bs b o e).1 (I.ok.bs b o e).2 (I.ok.noex b o e)⟩
def Inv.bk (I:Inv X pins σ H s):∀ b o,X.base.get? b=some o->s.heap.get? b=some o:=λb o e=>(I.bs b o e).1
def Inv.mod (I:Inv X pins σ H s):Mod X.K X.mg X.base:=I.ok.mod
def Inv.kIn (I:Inv X pins σ H s):X.K.In s.heap:=I.ok.mod.kin.keeps I.bk
def Inv.lt (I:Inv X pins σ H s):X.env.locals<s.heap.objs.size:=let ⟨_,hn,_⟩:=I.loc;hn.lt
def Inv.sz (I:Inv X pins σ H s):X.s₀.heap.objs.size<=s.heap.objs.size:=Nat.le_trans I.ok.above (Nat.le_of_lt I.lt)
def Inv.nofs (I:Inv X pins σ H s) {a:Ad} (h:s.heap.objs.size<=a):a ∉ X.fs:=λhb=>by
 obtain ⟨_,o,ho,_⟩:=I.ok.funs.mem hb;exact absurd (q2z (Heap.lt_size ho) (Nat.le_trans I.sz h)) (Nat.lt_irrefl _)
def Inv.cne (I:Inv X pins σ H s):∀ x c,X.env.cells.lookup x=some c->c≠X.env.locals:=λx c e z=>by
 obtain ⟨v,o,ho,hd⟩:=I.cell x c e;obtain ⟨m,⟨o',es,ep,ho',hd',_⟩,_⟩:=I.loc;rw [z,ho'] at ho;cases ho;rw [hd'] at hd;cases hd
theorem Inv.funs (I:Inv X pins σ H s):s.heap.FunFrames X.base X.outer:=by
 have all:∀ (l:List Env),(∀ b∈frs l,b∈X.fs)->X.s₀.heap.FunFrames X.base l->s.heap.FunFrames X.base l:=by
  intro l
  induction l with
  | nil=>intro _ _;trivial
  | cons env r ih =>
   intro hs hl;obtain ⟨hk,⟨L,o,hf,hn,ho,hd⟩,hr⟩:=hl;have hL:L∈X.fs:=hs L (by unfold frs;rw [List.filterMap_cons,hf];exact q1z);obtain ⟨sl,e⟩:=I.base.slot L o ho (I.ok.frf L hL) hL λz=>I.ok.exfs L z hL;exact ⟨hk,⟨L,_,hf,hn,e,hd⟩,ih (λb hb=>hs b (by unfold frs;rw [List.filterMap_cons,hf];exact q1y _ hb)) hr⟩
 exact all X.outer (λ_ hb=>hb) I.ok.funs
def Inv.stack (I:Inv X pins σ H s):s.heap.FunFrames X.base X.stack:=by
 rcases I.ok.stk with e | ⟨e,hf⟩
 ·rw [e];exact I.funs
 ·rw [e]
  obtain ⟨m,hn,_⟩:=I.loc;refine .cons (by rw [I.ok.kind];decide) hf hn ?_ I.funs;exact Heap.get?_none_of_le (Nat.le_trans I.ok.bsz I.ok.above)
def Inv.stkSub (I:Inv X pins σ H s):∀ b∈frs X.stack,b∈X.env.locals::X.fs:=λb hb=>by
 rcases I.ok.stk with e | ⟨e,hf⟩
 ·rw [e] at hb;exact q1y _ hb
 ·rw [e] at hb
  unfold frs at hb;rw [List.filterMap_cons,hf] at hb;exact hb
def Inv.stkFree (I:Inv X pins σ H s):∀ b∈frs X.stack,H b=none:=λb hb=>by
 rcases List.mem_cons.mp (I.stkSub b hb) with e | hb
 ·rw [e];exact I.free
 ·obtain ⟨_,o,ho,_⟩:=I.ok.funs.mem hb
  exact I.base.free b o ho (I.ok.frf b hb) λz=>I.ok.exfs b z hb
def Inv.step {g':Array GenState} {t':Nat} {d':Drawn} {ch:Jg} (I:Inv X pins σ H s)
  (hch:∀ b∈ch,(b∈X.ex∨X.s₀.heap.objs.size<=b)/\b≠X.env.locals/\(∀ x c,X.env.cells.lookup x=some c->c≠b)/\∀ p∈X.pn++pins,p.1≠b)
  (keep:∀ b o,b≠X.env.locals->b ∉ X.fs->b ∉ ch->s.heap.get? b=some o->H b=none->h'.get? b=some o)
  (slot:∀ b o,b≠X.env.locals->b∈X.fs->b ∉ ch->s.heap.get? b=some o->H b=none->∃ sl,h'.get? b=some { o with slots:=sl }) (free:∀ b o,b ∉ ch->s.heap.get? b=some o->H b=none->H' b=none)
  (there:∀ b o,b ∉ ch->s.heap.get? b=some o->∃ o',h'.get? b=some o')
  (tups:∀ b xs,H b=some (.tup xs)->H' b=some (.tup xs)) (frzs:∀ b o u,H b=some (.frz o u)->H' b=some (.frz o u)) (tbls:∀ b ps,H b=some (.tbl ps)->∃ more,H' b=some (.tbl (ps++more)))
  (ns:∀ m,s.heap.Ns X.env.locals m->h'.Ns X.env.locals m) (hok:HOk X.prog X.w H' h') (hg:AllBare g') :
  Inv X pins σ H' { s with heap:=h',gens:=g',drawn:=d',toks:=t' }:=by
 have neL:∀ b o,X.s₀.heap.get? b=some o->b≠X.env.locals:=λb o e=>Nat.ne_of_lt (q2z (Heap.lt_size e) I.ok.above)
 have neC:∀ b o,X.s₀.heap.get? b=some o->b ∉ X.ex->b ∉ ch:=λb o e hx hb=>by
  rcases (hch b hb).1 with z | z
  ·exact hx z
  ·exact absurd (q2z (Heap.lt_size e) z) (Nat.lt_irrefl _)
 have cellK:∀ x c,X.env.cells.lookup x=some c->∀ v,s.heap.IsCell c v->h'.IsCell c v:=λx c e v ⟨o,ho,hd⟩=>by
  have nch:c ∉ ch:=λz=>(hch c z).2.2.1 x c e rfl;by_cases hc:c∈X.fs
  ·obtain ⟨sl,q⟩:=slot c o (I.cne x c e) hc nch ho (I.freeC x c e)
   exact ⟨_,q,hd⟩
  ·exact ⟨o,keep c o (I.cne x c e) hc nch ho (I.freeC x c e),hd⟩
 refine ⟨I.ok,I.os,hg,⟨λb o e n hb hx=>?_,λb o e n hb hx=>?_,λb o e n hx=>?_,λb o e hx=>?_,λb xs e=>tups b xs (I.base.tups b xs e),λb o xs e=>frzs b o xs (I.base.frzs b o xs e),λb ps e=>?_⟩,?_,λx c e=>?_,?_,λx c e=>?_,λp hp=>?_,hok,I.len⟩
 ·exact keep b o (neL b o e) hb (neC b o e hx) (I.base.keep b o e n hb hx) (I.base.free b o e n hx)
 ·obtain ⟨sl,e1⟩:=I.base.slot b o e n hb hx
  obtain ⟨sl',e2⟩:=slot b _ (neL b o e) hb (neC b o e hx) e1 (I.base.free b o e n hx);exact ⟨sl',e2⟩
 ·obtain ⟨o',e1⟩:=I.base.there b o e hx
  exact free b o' (neC b o e hx) e1 (I.base.free b o e n hx)
 ·obtain ⟨o',e1⟩:=I.base.there b o e hx
  exact there b o' (neC b o e hx) e1
 ·obtain ⟨m1,e1⟩:=I.base.tbls b ps e
  obtain ⟨m2,e2⟩:=tbls b _ e1;exact ⟨m1++m2,by rw [e2,Array.append_assoc]⟩
 ·obtain ⟨m,hn,hl⟩:=I.loc
  refine ⟨m,ns m hn,λi x v e1 e2 e3=>?_⟩;obtain ⟨u,r,l⟩:=hl i x v e1 e2 e3;refine ⟨u,r,?_⟩;rcases l with l | ⟨k,c,e,z⟩
  ·exact .inl l
  ·exact .inr ⟨k,c,e,cellK x c e _ z⟩
 ·obtain ⟨v,z⟩:=I.cell x c e
  exact ⟨v,cellK x c e v z⟩
 ·obtain ⟨m,⟨o,_,_,ho,_⟩,_⟩:=I.loc
  exact free _ o (λz=>(hch _ z).2.1 rfl) ho I.free
 ·obtain ⟨v,o,ho,hd⟩:=I.cell x c e
  exact free c o (λz=>(hch c z).2.2.1 x c e rfl) ho (I.freeC x c e)
 ·obtain ⟨e,n,ne,nf,d⟩:=I.pin p hp
  have nch:p.1 ∉ ch:=λz=>(hch p.1 z).2.2.2 p hp rfl;exact ⟨keep p.1 p.2 ne nf nch e n,free p.1 p.2 nch e n,ne,nf,d⟩
def Inv.un {t':Nat} (I:Inv X pins σ H s) (u:Un X.fs [] H H' s.heap h') (hok:HOk X.prog X.w H' h'):Inv X pins σ H' { s with heap:=h',toks:=t' }:=by
 obtain ⟨m,⟨o,es,ep,ho,r⟩,_⟩:=id I.loc;obtain ⟨sl,hL⟩:=u.any ho I.free (by simp)
 exact I.step (g':=s.gens) (d':=s.drawn) (ch:=[]) (λ_ z=>nomatch z) (λb o _ hb _ e n=>u.keep b o e n hb (by simp)) (λb o _ hb _ e n=>u.slot b o e n hb (by simp)) (λb o _ e n=>u.free b o e n (by simp)) (λb o _ e=>u.there b o e (by simp)) u.tups u.frzs u.tbls (λm' hm=>by
  obtain ⟨o',es',ep',ho',r'⟩:=hm;rw [ho] at ho';cases ho';exact ⟨_,es',ep',hL,r'⟩) hok I.bare
def Inv.call {g':Array GenState} {t':Nat} {d':Drawn} {ch:Jg} (I:Inv X pins σ H s) (u:Un (frs X.stack) ch H H' s.heap h') (hok:HOk X.prog X.w H' h') (hg:AllBare g')
  (hch:∀ b∈ch,(b∈X.ex∨X.s₀.heap.objs.size<=b)/\b≠X.env.locals/\(∀ x c,X.env.cells.lookup x=some c->c≠b)/\∀ p∈X.pn++pins,p.1≠b) :
  Inv X pins σ H' { s with heap:=h',gens:=g',drawn:=d',toks:=t' }:=by
 obtain ⟨m,⟨o,es,ep,ho,r⟩,_⟩:=id I.loc;obtain ⟨sl,hL⟩:=u.any ho I.free λz=>(hch _ z).2.1 rfl
 exact I.step (ch:=ch) hch (λb o hL hb hc e n=>u.keep b o e n (λz=>(List.mem_cons.mp (I.stkSub b z)).elim hL hb) hc) (λb o _ _ hc e n=>u.any e n hc) (λb o hc e n=>u.free b o e n hc) (λb o hc e=>u.there b o e hc) u.tups u.frzs u.tbls (λm' hm=>by
  obtain ⟨o',es',ep',ho',r'⟩:=hm;rw [ho] at ho';cases ho';exact ⟨_,es',ep',hL,r'⟩) hok hg
def Inv.turned {t':Nat} {it:Ad} (I:Inv X pins σ H s) (k:∀ b o,b≠it->s.heap.get? b=some o->h'.get? b=some o) (hn:H it=none) (hL:it≠X.env.locals)
  (h1:it∈X.ex∨X.s₀.heap.objs.size<=it) (h2:∀ x c,X.env.cells.lookup x=some c->c≠it) (h3:∀ p∈X.pn++pins,p.1≠it):Inv X pins σ H { s with heap:=h',toks:=t' }:=by
 have nit:∀ b u,H b=some u->b≠it:=λb u e z=>by rw [z,hn] at e;cases e
 refine I.step (g':=s.gens) (d':=s.drawn) (ch:=[it]) (λb hb=>?_) (λb o _ _ hc e _=>k b o (λz=>hc (by simp [z])) e) (λb o _ _ hc e _=>⟨o.slots,k b o (λz=>hc (by simp [z])) e⟩) (λ_ _ _ _ n=>n)
  (λb o hc e=>⟨o,k b o (λz=>hc (by simp [z])) e⟩) (λ_ _ e=>e) (λ_ _ _ e=>e) (λb ps e=>⟨#[],by rw [e];simp⟩) (λm hm=>?_) (λb u e=>?_) I.bare
 ·have e:b=it:=by simpa using hb
  subst e;exact ⟨h1,hL,h2,h3⟩
 ·obtain ⟨o,es,ep,ho,r⟩:=hm
  exact ⟨o,es,ep,k _ o (Ne.symm hL) ho,r⟩
 ·refine (I.hok b u e).stay (λc v hc q=>k c v ?_ q) (λ_ q=>q) λ_ _ q=>q
  rcases hc with z | z
  ·rw [z];exact nit b u e
  ·exact nit c _ z
def Inv.tok (I:Inv X pins σ H s) (t:Nat):Inv X pins σ H { s with toks:=t }:=I.un (h':=s.heap) (t':=t) Un.refl I.hok
def Inv.kept {t':Nat} (I:Inv X pins σ H s) (k:∀ b u,s.heap.get? b=some u->h'.get? b=some u):Inv X pins σ H { s with heap:=h',toks:=t' }:=I.un (Un.kept k) (I.hok.kept k)
def Inv.laid {a:Ad} {o:HO} {t':Nat} (I:Inv X pins σ H s) (k:∀ b u,s.heap.get? b=some u->h'.get? b=some u) (hp:s.heap.objs.size<=a) (new:ObjOk X.prog X.w (upd H a o) h' a o) :
  Inv X pins σ (upd H a o) { s with heap:=h',toks:=t' }:=I.un (Un.laid k hp (I.hok.fresh hp)) (I.hok.laid k hp new)
def Inv.write {x e:Ad} {o:HO} {t':Nat} (I:Inv X pins σ H s) (mu:Mut (H x)) (he:e=x∨H e=some (.own x)) (k:∀ b u,b≠e->s.heap.get? b=some u->h'.get? b=some u) (heo:∃ u,h'.get? e=some u)
  (new:ObjOk X.prog X.w (upd H x o) h' x o):Inv X pins σ (upd H x o) { s with heap:=h',toks:=t' }:=I.un (Un.write mu he k heo) (I.hok.write mu he k heo new)
def Inv.pins_of {pins':Jc} (I:Inv X pins σ H s) (h:∀ p∈pins',s.heap.get? p.1=some p.2/\H p.1=none/\p.1≠X.env.locals/\p.1 ∉ X.fs/\∀ v,p.2.data≠.cell v):Inv X pins' σ H s :=
 ⟨I.ok,I.os,I.bare,I.base,I.loc,I.cell,I.free,I.freeC,λp hp=>(List.mem_append.mp hp).elim (λz=>I.pin p (List.mem_append_left _ z)) (h p),I.hok,I.len⟩
def zat {N:Jf} (hN:N.Nodup) {i j:Nat} {x:Str} (a:N[i]?=some x) (b:N[j]?=some x):i=j:=by
 obtain ⟨h1,e1⟩:=List.getElem?_eq_some_iff.mp a;obtain ⟨h2,e2⟩:=List.getElem?_eq_some_iff.mp b;exact (List.getElem_inj hN).mp (e1.trans e2.symm)
def Z9 {M:Model} {A:Around} {E:Ja} {i:Nat} {x:Str} {v:V} {u:Vl} {Q:Unit->Sh->Prop} (I:Inv X pins σ H s) (hN:X.N.Nodup) (hi:X.N[i]?=some x) (hx:Loc X.env.scope x) (r:RelV v u)
  (h:∀ s',Inv X pins (σ.set i (some v)) H s'->(∃ a,Heap.SameBut a s.heap s'.heap/\(a=X.env.locals∨X.env.cells.lookup x=some a))->Q () s') (hf:X.fn x=true∨X.env.scope.names.lookup x=some .local:=by first | exact .inl rfl | exact .inr rfl | assumption):wpAny M A (storeName X.env x u) Q E s:=by
 obtain ⟨m,hn,hl⟩:=id I.loc;have hcls:(X.env.scope.kind == .class || (X.env.scope.kind == .module && X.env.locals != X.env.globals))=false:=by rw [I.ok.kind];rfl
 have hiσ:i<σ.length:=by rw [I.len];exact (List.getElem?_eq_some_iff.mp hi).1
 have cne:=I.cne
 have tracked:∀ {a:Ad} {h':Heap},(∃ o,s.heap.get? a=some o/\H a=none)->Heap.SameBut a s.heap h'->HOk X.prog X.w H h':=λ{a h'} ha hs b ob e=>by
  obtain ⟨_,_,hfree⟩:=ha;refine (I.hok b ob e).stay (λc w' hc q=>(hs.2 c ?_).trans q) (λ_ q=>q) λ_ _ q=>q;rintro rfl;rcases hc with rfl | hc
  ·rw [hfree] at e;cases e
  ·rw [hfree] at hc;cases hc
 rcases hx with hk | hk
 ·refine wpAny_storeName_local hk hn (λh' hn' hs=>?_) hcls
  obtain ⟨oL,_,_,hoL,_⟩:=id hn;refine h _ ⟨I.ok,I.os,I.bare,⟨λb o e n hb hx=>?_,λb o e n hb hx=>?_,I.base.free,λb o e hx=>?_,I.base.tups,I.base.frzs,I.base.tbls⟩,⟨_,hn',λj y v' e1 e2 e3=>?_⟩,λy c e=>?_,I.free,I.freeC,λp hp=>?_,tracked ⟨oL,hoL,I.free⟩ hs,by simpa using I.len⟩ ⟨_,hs,.inl rfl⟩
  ·exact (hs.2 b (Nat.ne_of_lt (q2z (Heap.lt_size e) I.ok.above))).trans (I.base.keep b o e n hb hx)
  ·obtain ⟨sl,e1⟩:=I.base.slot b o e n hb hx
   exact ⟨sl,(hs.2 b (Nat.ne_of_lt (q2z (Heap.lt_size e) I.ok.above))).trans e1⟩
  ·obtain ⟨o',e1⟩:=I.base.there b o e hx
   exact ⟨o',(hs.2 b (Nat.ne_of_lt (q2z (Heap.lt_size e) I.ok.above))).trans e1⟩
  ·by_cases hj:j=i
   ·subst hj
    rw [hi] at e1;cases e1;rw [q3z hiσ] at e2;cases e2;exact ⟨u,r,.inl ⟨hk,by simp⟩⟩
   ·rw [List.getElem?_set_ne (Ne.symm hj)] at e2
    obtain ⟨u',r',q⟩:=hl j y v' e1 e2 e3;refine ⟨u',r',?_⟩;rcases q with ⟨k,e⟩ | ⟨k,c,e,z⟩
    ·refine .inl ⟨k,?_⟩
     have:y≠x:=λe=>hj (zat hN e1 (e ▸ hi));simp [this,e]
    ·exact .inr ⟨k,c,e,z.sameBut hs (cne y c e)⟩
  ·obtain ⟨w',z⟩:=I.cell y c e
   exact ⟨w',z.sameBut hs (cne y c e)⟩
  ·obtain ⟨e,n,ne,nf,d⟩:=I.pin p hp
   exact ⟨(hs.2 p.1 ne).trans e,n,ne,nf,d⟩
 ·have hfn:X.fn x=true:=by
   rcases hf with z | z
   ·exact z
   ·rw [z] at hk;cases hk
  obtain ⟨c,hc⟩:=I.ok.has x (.inl hk);obtain ⟨w',z⟩:=I.cell x c hc;refine wpAny_storeName_cell I.ok.kind hk hc z (λh' hc' hs=>?_);obtain ⟨oc,hoc,hocd⟩:=id z;refine h { s with heap:=h' } ⟨I.ok,I.os,I.bare,⟨λb o e n hb hx=>?_,λb o e n hb hx=>?_,I.base.free,λb o e hx=>?_,I.base.tups,I.base.frzs,I.base.tbls⟩,⟨m,hn.sameBut hs (Ne.symm (cne x c hc)),λj y v' e1 e2 e3=>?_⟩,λy c' e=>?_,I.free,I.freeC,λp hp=>?_,tracked ⟨oc,hoc,I.freeC x c hc⟩ hs,by simpa using I.len⟩ ⟨c,hs,.inr hc⟩
  ·exact (hs.2 b (Nat.ne_of_lt (q2z (Heap.lt_size e) (I.ok.cab x c hfn hc)))).trans (I.base.keep b o e n hb hx)
  ·obtain ⟨sl,e1⟩:=I.base.slot b o e n hb hx
   exact ⟨sl,(hs.2 b (Nat.ne_of_lt (q2z (Heap.lt_size e) (I.ok.cab x c hfn hc)))).trans e1⟩
  ·obtain ⟨o',e1⟩:=I.base.there b o e hx
   exact ⟨o',(hs.2 b (Nat.ne_of_lt (q2z (Heap.lt_size e) (I.ok.cab x c hfn hc)))).trans e1⟩
  ·by_cases hj:j=i
   ·subst hj
    rw [hi] at e1;cases e1;rw [q3z hiσ] at e2;cases e2;exact ⟨u,r,.inr ⟨.inl hk,c,hc,hc'⟩⟩
   ·rw [List.getElem?_set_ne (Ne.symm hj)] at e2
    obtain ⟨u',r',q⟩:=hl j y v' e1 e2 e3;refine ⟨u',r',?_⟩;rcases q with q | ⟨k,c',e,z'⟩
    ·exact .inl q
    ·refine .inr ⟨k,c',e,z'.sameBut hs ?_⟩
     rintro rfl;exact hj (zat hN e1 (I.ok.inj _ _ _ e hc ▸ hi))
  ·by_cases hcc:c'=c
   ·subst hcc;exact ⟨_,hc'⟩
   ·obtain ⟨w2,z2⟩:=I.cell y c' e
    exact ⟨w2,z2.sameBut hs hcc⟩
  ·obtain ⟨e,n,ne,nf,d⟩:=I.pin p hp
   refine ⟨(hs.2 p.1 ?_).trans e,n,ne,nf,d⟩;intro q;rw [q,hoc] at e;have q':oc=p.2:=Option.some.inj e;exact d w' (by rw [← q'];exact hocd)
def zah {M:Model} {A:Around} {E:Ja} {i:Nat} {x:Str} {v:V} {u:Vl} {Q:Unit->Sh->Prop} (I:Inv X pins σ H s) (hN:X.N.Nodup) (hi:X.N[i]?=some x) (hx:Loc X.env.scope x) (r:RelV v u)
  (h:∀ s',Inv X pins (σ.set i (some v)) H s'->Q () s') (hf:X.fn x=true∨X.env.scope.names.lookup x=some .local:=by first | exact .inl rfl | exact .inr rfl | assumption):wpAny M A (storeName X.env x u) Q E s :=
 Z9 I hN hi hx r (λs' I' _=>h s' I') hf
def Inv.call' {s':Sh} {ch:Jg} (I:Inv X pins σ H s) (ho:s'.os=s.os) (u:Un (frs X.stack) ch H H' s.heap s'.heap) (hok:HOk X.prog X.w H' s'.heap) (hg:AllBare s'.gens)
  (hch:∀ b∈ch,(b∈X.ex∨X.s₀.heap.objs.size<=b)/\b≠X.env.locals/\(∀ x c,X.env.cells.lookup x=some c->c≠b)/\∀ p∈X.pn++pins,p.1≠b):Inv X pins σ H' s':=by
 obtain ⟨h',g',d',t',o'⟩:=s';have e:o'=s.os:=ho;subst e;exact I.call (g':=g') (t':=t') (d':=d') u hok hg hch
end
abbrev XK:=Vl->Option Ad->Hp->Prop
abbrev St:=List (Jo)
abbrev VK:=V->Hp->Prop
abbrev TE:=St->Hp->VK->Prop
abbrev TT:=St->Hp->(Bool->Hp->Prop)->Prop
abbrev TA:=St->Hp->(Jn->Hp->Prop)->Prop
structure Ends where
 nx:St->Hp->Prop
 rt:VK
 bk:St->Hp->Prop:=λ_ _=>False
 ct:St->Hp->Prop:=λ_ _=>False
abbrev TS:=Ends->St->Hp->Prop
def EP (X:Cx) (pins:Jc) (σ:St) (Q:VK) (u:Vl) (s':Sh):Prop:=∃ v H',Inv X pins σ H' s'/\RelV v u/\Q v H'
def TP (X:Cx) (pins:Jc) (σ:St) (Q:Bool->Hp->Prop) (b:Bool) (s':Sh):Prop:=∃ H',Inv X pins σ H' s'/\Q b H'
def AP (X:Cx) (pins:Jc) (σ:St) (Q:Jn->Hp->Prop) (us:Jd) (s':Sh):Prop:=∃ vs H',Inv X pins σ H' s'/\Vals vs us/\Q vs H'
def SP (X:Cx) (pins:Jc) (D:Ends) (f:Flow) (s':Sh):Prop :=
 match f with
 | .next=>∃ σ' H',Inv X pins σ' H' s'/\D.nx σ' H'
 | .brk=>∃ σ' H',Inv X pins σ' H' s'/\D.bk σ' H'
 | .cont=>∃ σ' H',Inv X pins σ' H' s'/\D.ct σ' H'
 | .ret u=>∃ v σ' H',Inv X pins σ' H' s'/\RelV v u/\D.rt v H'
def PE (X:Cx) (e:Expr) (t:TE):Prop :=
 ∀ (pins:Jc) (s:Sh) (σ:St) (H:Hp) (Q:VK),Inv X pins σ H s->t σ H Q->wpAny (model X.prog X.w) X.A (eval e X.env) (EP X pins σ Q) X.xe s
def PT (X:Cx) (e:Expr) (t:TT):Prop :=
 ∀ (pins:Jc) (s:Sh) (σ:St) (H:Hp) (Q:Bool->Hp->Prop),Inv X pins σ H s->t σ H Q->wpAny (model X.prog X.w) X.A (isTrue e X.env (eval e X.env)) (TP X pins σ Q) X.xe s
def PW (X:Cx) (e:Expr) (t:TT):Prop :=
 ∀ (whole:Sem Vl) (pins:Jc) (s:Sh) (σ:St) (H:Hp) (Q:Bool->Hp->Prop),Inv X pins σ H s->t σ H Q->wpAny (model X.prog X.w) X.A (isTrue e X.env whole) (TP X pins σ Q) X.xe s
def PW.pt {X:Cx} {e:Expr} {t:TT} (h:PW X e t):PT X e t:=h _
def PA (X:Cx) (es:Jh) (t:TA):Prop :=
 ∀ (pos:Pos) (pins:Jc) (s:Sh) (σ:St) (H:Hp) (Q:Jn->Hp->Prop),Inv X pins σ H s->t σ H Q->wpAny (model X.prog X.w) X.A (spliced (backTo pos (starEach es X.env))) (AP X pins σ Q) X.xe s
def PS (X:Cx) (st:Stmt) (t:TS):Prop :=
 ∀ (pins:Jc) (s:Sh) (σ:St) (H:Hp) (D:Ends),Inv X pins σ H s->t D σ H->wpAny (model X.prog X.w) X.A (exec st X.env) (SP X pins D) X.xe s
def PSs (X:Cx) (st:List Stmt) (t:TS):Prop :=
 ∀ (pins:Jc) (s:Sh) (σ:St) (H:Hp) (D:Ends),Inv X pins σ H s->t D σ H->wpAny (model X.prog X.w) X.A (execs st X.env) (SP X pins D) X.xe s
def thn {α:Type} {t:Sem α} {Q Q':α->Sh->Prop} {M:Model} {A:Around} {E:Ja} {s:Sh} (h:wpAny M A t Q E s) (hQ:∀ a s,Q a s->Q' a s):wpAny M A t Q' E s:=wpAny_mono h hQ λ_ _ x=>x
section
variable {X:Cx}
inductive tVar (i:Nat) (σ:St) (H:Hp) (Q:VK):Prop
 | mk (v:_) (_:σ[i]?=some (some v)) (_:Q v H)
def tC (v:V):TE:=λ_ H Q=>Q v H
def pe_var {i:Nat} {x:Str} {pos:Pos} (hN:X.N[i]?=some x) (hv:Vis X.env.scope x) (hd:(x == ("__debug__":Str))=false:=by decide) (hcd:(x == ("__classdict__":Str))=false:=by decide):PE X (.Name x pos) (tVar i):=by
 intro pins s σ H Q I h;obtain ⟨v,e,h⟩:=h;obtain ⟨m,hn,hl⟩:=I.loc;obtain ⟨u,r,l⟩:=hl i x v hN e hv;have fin:EP X pins σ Q u s:=⟨v,H,I,r,h⟩;rcases l with ⟨hk,hm⟩ | ⟨hk,c,hc,hcell⟩
 ·exact wpAny_Name (wpAny_loadName_local I.ok.kind hk hn hm fin) hd
 ·rcases hk with hk | hk
  ·exact wpAny_Name (wpAny_loadName_cell I.ok.kind hk hc hcell fin) hd
  ·exact wpAny_Name (wpAny_loadName_free I.ok.kind hk hc hcell fin hcd) hd
def zd {i j pos}:PE X (.Constant (.int i) j pos) (tC (.int i)):=λ_ _ _ H _ I h=>wpAny_Constant_int ⟨.int i,H,I.tok _,⟨_,rfl⟩,h⟩
def xO {b j pos}:PE X (.Constant (.bool b) j pos) (tC (.bl b)):=λ_ _ _ H _ I h=>Constant_bool ⟨.bl b,H,I,rfl,h⟩
def yR {j pos}:PE X (.Constant .none j pos) (tC .non):=λ_ _ _ H _ I h=>Constant_none ⟨.non,H,I,rfl,h⟩
def zn {x j pos}:PE X (.Constant (.str x) j pos) (tC (.str x)):=λ_ _ _ H _ I h=>Calls.Constant_str ⟨.str x,H,I.tok _,⟨_,rfl⟩,h⟩
def Gl (X:Cx) (x:Str):Prop:=X.env.kindOf x=some .globalImplicit
def X3 {E:Ja} {pins:Jc} {s:Sh} {σ:St} {H:Hp} {x:Str} {u:Vl} {pos:Pos} {Q:Ja} (I:Inv X pins σ H s) (hg:Gl X x) (hm:X.mg x=some u) (h:Q u s)
  (hd:(x == ("__debug__":Str))=false:=by decide):wpAny (model X.prog X.w) X.A (eval (.Name x pos) X.env) Q E s :=
 Calls.Name_function_global I.ok.kind hg (Calls.loadGlobal_global (by rw [I.ok.glob];exact I.mod.glob.keeps I.bk) hm h) hd
def xD {E:Ja} {pins:Jc} {s:Sh} {σ:St} {H:Hp} {x:Str} {u:Vl} {pos:Pos} {Q:Ja} (I:Inv X pins σ H s) (hg:Gl X x) (hm:X.mg x=none) (hv:bootBuiltins x=some u) (h:Q u s)
  (hn:x≠"__name__":=by decide) (hd:(x == ("__debug__":Str))=false:=by decide):wpAny (model X.prog X.w) X.A (eval (.Name x pos) X.env) Q E s:=by
 obtain ⟨mb,h1,h2⟩:=I.mod.blt;exact Calls.Name_function_global I.ok.kind hg (Calls.loadGlobal_builtin (by rw [I.ok.glob];exact I.mod.glob.keeps I.bk) hm (by rw [I.ok.blt];exact h1.keeps I.bk) ((h2 x hn).trans hv) h) hd
def pe_glob {x:Str} {v:V} {u:Vl} {pos:Pos} (hg:Gl X x) (hm:X.mg x=some u) (r:RelV v u) (hd:(x == ("__debug__":Str))=false:=by decide):PE X (.Name x pos) (tC v) :=
 λ_ _ _ H _ I h=>X3 I hg hm ⟨v,H,I,r,h⟩ hd
def pe_bltn {x:Str} {v:V} {u:Vl} {pos:Pos} (hg:Gl X x) (hm:X.mg x=none) (hv:bootBuiltins x=some u) (r:RelV v u) (hn:x≠"__name__":=by decide) (hd:(x == ("__debug__":Str))=false:=by decide):PE X (.Name x pos) (tC v) :=
 λ_ _ _ H _ I h=>xD I hg hm hv ⟨v,H,I,r,h⟩ hn hd
variable {a b:Expr} {ta tb:TE} {pos:Pos}
def PC (X:Cx) (op:CmpOp) (a b:Expr) (t:TE):Prop :=
 ∀ (pins:Jc) (s:Sh) (σ:St) (H:Hp) (Q:VK),Inv X pins σ H s->t σ H Q ->
  wpAny (model X.prog X.w) X.A (eval a X.env) (λv s₁=>wpAny (model X.prog X.w) X.A (eval b X.env) (λu s₂=>wpAny (model X.prog X.w) X.A (compareOp op v u) (EP X pins σ Q) X.xe s₂) X.xe s₁) X.xe s
def nobehind (b:Expr) {op:CmpOp} (h:op≠.In) (h2:op≠.NotIn):behindInMarks op b=false:=by
 have e1:(op == CmpOp.In)=false:=by cases op <;> first | rfl | exact absurd rfl h
 have e2:(op == CmpOp.NotIn)=false:=by cases op <;> first | rfl | exact absurd rfl h2
 cases b <;> simp [behindInMarks,e1,e2]
inductive tB_S (Q:(Bool->Hp->Prop)) (x:V) (H1:Hp):Prop
 | mk (c:_) (_:x=.bl c) (_:Q c H1)
def tB (t:TE):TT:=λσ H Q=>t σ H λx H1=>tB_S Q x H1
def pt_cmp {op:CmpOp} {t:TE} (h:PC X op a b t) (h1:behindInMarks op b=false:=by first | exact nobehind _ (by decide) (by decide) | rfl):PT X (.Compare a [op] [b] pos) (tB t):=by
 intro pins s σ H Q I hw;refine wpAny_isTrue_Compare1 (thn (h pins s σ H _ I hw) λv s1 h1=>thn h1 λu s2 h2=>thn h2 λc s3 ⟨x,H1,I1,r1,q1⟩=>?_) h1;obtain ⟨d,rfl,q⟩:=q1;cases r1;exact wpAny_truthy_bool ⟨H1,I1,q⟩
def yW {e:Expr} {t:TE} (h:PE X e t) (he:∀ whole,isTrue e X.env whole=(do let v ← whole;standAt e.pos;holding [v] (truthy v)):=by intro _;rfl):PT X e (tB t):=by
 intro pins s σ H Q I hw;refine isTrue_plain (thn (h pins s σ H _ I hw) λv s1 ⟨x,H1,I1,r1,q1⟩=>?_) (he _);obtain ⟨d,rfl,q⟩:=q1;cases r1;exact wpAny_truthy_bool ⟨H1,I1,q⟩
variable {tA tB':TT} {rest:Jh}
def tAnd (t u:TT):TT:=λσ H Q=>t σ H λc H1=>if c=true then u σ H1 Q else Q false H1
def tOr (t u:TT):TT:=λσ H Q=>t σ H λc H1=>if c=true then Q true H1 else u σ H1 Q
def tNot (t:TT):TT:=λσ H Q=>t σ H λc H1=>Q (!c) H1
theorem YA (ha:PT X a tA):PW X (.BoolOp .And [a] pos) tA:=by
 intro wh pins s σ H Q I h;refine isTrue_and (thn (ha pins s σ H Q I h) λc s1 e=>?_)
 cases c with
 | true=>exact isTrue_and_nil e
 | false=>exact e
theorem pw_or1 (ha:PT X a tA):PW X (.BoolOp .Or [a] pos) tA:=by
 intro wh pins s σ H Q I h;refine isTrue_or (thn (ha pins s σ H Q I h) λc s1 e=>?_)
 cases c with
 | false=>exact isTrue_or_nil e
 | true=>exact e
theorem XT (ha:PT X a tA) (hb:PW X (.BoolOp .And (b::rest) pos) tB'):PW X (.BoolOp .And (a::b::rest) pos) (tAnd tA tB'):=by
 intro wh pins s σ H Q I h;refine isTrue_and (thn (ha pins s σ H _ I h) λc s1 ⟨H1,I1,q1⟩=>?_)
 cases c with
 | true=>exact hb wh pins s1 σ H1 Q I1 q1
 | false=>exact ⟨H1,I1,q1⟩
theorem pw_or (ha:PT X a tA) (hb:PW X (.BoolOp .Or (b::rest) pos) tB'):PW X (.BoolOp .Or (a::b::rest) pos) (tOr tA tB'):=by
 intro wh pins s σ H Q I h;refine isTrue_or (thn (ha pins s σ H _ I h) λc s1 ⟨H1,I1,q1⟩=>?_)
 cases c with
 | true=>exact ⟨H1,I1,q1⟩
 | false=>exact hb wh pins s1 σ H1 Q I1 q1
def Yc (ha:PT X a tA):PT X (.UnaryOp .Not a pos) (tNot tA):=by
 intro pins s σ H Q I h;exact isTrue_not (ha pins s σ H (λc H1=>Q (!c) H1) I h)
inductive tAndV_S (tb:TE) (σ:St) (Q:VK) (x:V) (H1:Hp):Prop
 | mk (c:_) (_:x=.bl c) (_:if c=true then tb σ H1 Q else Q (.bl false) H1)
def tAndV (ta tb:TE):TE:=λσ H Q=>ta σ H λx H1=>tAndV_S tb σ Q x H1
inductive tNotV_S (Q:VK) (x:V) (H1:Hp):Prop
 | mk (c:_) (_:x=.bl c) (_:Q (.bl (!c)) H1)
def tNotV (ta:TE):TE:=λσ H Q=>ta σ H λx H1=>tNotV_S Q x H1
def XW {op} {t:TE} (h:PE X a t):PE X (.BoolOp op [a] pos) t:=λpins s σ H Q I hw=>BoolOp_one (h pins s σ H Q I hw)
theorem Yf (ha:PE X a ta) (hb:PE X (.BoolOp .And (b::rest) pos) tb):PE X (.BoolOp .And (a::b::rest) pos) (tAndV ta tb):=by
 intro pins s σ H Q I h;refine BoolOp_and (thn (ha pins s σ H _ I h) λv s1 ⟨x,H1,I1,r1,q1⟩=>?_);obtain ⟨c,rfl,q1⟩:=q1;cases r1;refine wpAny_truthy_bool ?_
 cases c with
 | true=>exact hb pins s1 σ H1 Q I1 q1
 | false=>exact ⟨.bl false,H1,I1,rfl,q1⟩
def pe_not (ha:PE X a ta):PE X (.UnaryOp .Not a pos) (tNotV ta):=by
 intro pins s σ H Q I h;refine UnaryOp_ (thn (ha pins s σ H _ I h) λv s1 ⟨x,H1,I1,r1,q1⟩=>?_);obtain ⟨c,rfl,q1⟩:=q1;cases r1;exact not_of (wpAny_truthy_bool ⟨.bl (!c),H1,I1,rfl,q1⟩)
def tIf (t:TT) (ta tb:TE):TE:=λσ H Q=>t σ H λc H1=>if c=true then ta σ H1 Q else tb σ H1 Q
theorem pe_ifExp {c:Expr} (hc:PT X c tA) (ha:PE X a ta) (hb:PE X b tb):PE X (.IfExp c a b pos) (tIf tA ta tb):=by
 intro pins s σ H Q I h;refine wpAny_IfExp (thn (hc pins s σ H _ I h) λd s1 ⟨H1,I1,q1⟩=>?_)
 cases d with
 | true=>exact ha pins s1 σ H1 Q I1 q1
 | false=>exact hb pins s1 σ H1 Q I1 q1
end
def SqL (K:Fg) (H:Hp) (a:Ad) (xs:Jn):Prop :=
 Rd H a (.lst xs) ∨
  ∃ (o:Obj) (its:Array Vl) (n:Nat),K.lookup a=some o/\o.cls=.type "list"/\o.dict=none/\o.data=.seq its n/\its.size<=sizeLine/\Vals xs its.toList
def SqT (K:Fg) (H:Hp) (a:Ad) (xs:Jn):Prop :=
 Rd H a (.tup xs) ∨
  ∃ (o:Obj) (its:Array Vl) (n:Nat),K.lookup a=some o/\o.cls=.type "tuple"/\o.data=.seq its n/\its.size<=sizeLine/\Vals xs its.toList
def absV:Vl->Jo
 | .none=>some .non
 | .bool b=>some (.bl b)
 | .int i _=>some (.int i)
 | .str x _=>some (.str x)
 | .bytes b _=>some (.byt b)
 | .float b _=>some (.flt b)
 | .ref a=>some (.ref a)
 | .type n=>some (.ty n)
 | _=>none
theorem RelV.abs {x:V} {u:Vl} (r:RelV x u):absV u=some x:=by
 cases x with
 | non=>cases r;rfl
 | bl _=>cases r;rfl
 | int _=>obtain ⟨t,rfl⟩:=r;rfl
 | str _=>obtain ⟨t,rfl⟩:=r;rfl
 | byt _=>obtain ⟨t,rfl⟩:=r;rfl
 | flt _=>obtain ⟨t,rfl⟩:=r;rfl
 | ref _=>cases r;rfl
 | ty _=>cases r;rfl
def RelV.inj {x y:V} {u:Vl} (r:RelV x u) (q:RelV y u):x=y:=Option.some.inj (r.abs.symm.trans q.abs)
theorem Vals.inj:∀ {xs ys:Jn} {us:Jd},Vals xs us->Vals ys us->xs=ys
 | _,_,_,.nil,.nil=>rfl
 | _,_,_,.cons r t,.cons r' t'=>by rw [r.inj r',Vals.inj t t']
section
variable {X:Cx} {pins:Jc} {σ:St} {H:Hp} {s:Sh} {a:Ad} {xs ys:Jn}
def SqL.of {K:Fg} (h:H a=some (.lst xs)):SqL K H a xs:=.inl (.inl h)
def SqT.of {K:Fg} (h:H a=some (.tup xs)):SqT K H a xs:=.inl (.inl h)
def Inv.list (I:Inv X pins σ H s) (h:SqL X.K H a xs):∃ its:Jd,Vals xs its/\PlainL s.heap a its.toArray/\xs.length<=sizeLine:=by
 rcases h with h | ⟨o,its,n,hk,hc,hd,hs,hz,r⟩
 ·obtain ⟨z,its,n,r,e⟩:=h.ok I.hok
  exact ⟨its,r,⟨_,n,e,rfl,rfl,rfl⟩,z⟩
 ·refine ⟨its.toList,r,⟨o,n,I.kIn a o hk,hc,hd,by simpa using hs⟩,?_⟩
  have e:=r.length;simp only [Array.length_toList] at e;omega
def Inv.tuple (I:Inv X pins σ H s) (h:SqT X.K H a xs):∃ its:Jd,Vals xs its/\IsTup s.heap a its.toArray/\xs.length<=sizeLine:=by
 rcases h with h | ⟨o,its,n,hk,hc,hs,hz,r⟩
 ·obtain ⟨z,its,r,p⟩:=h.ok I.hok
  exact ⟨its,r,p,z⟩
 ·refine ⟨its.toList,r,⟨o,I.kIn a o hk,hc,n,by simpa using hs⟩,?_⟩
  have e:=r.length;simp only [Array.length_toList] at e;omega
def Inv.list_inj (I:Inv X pins σ H s) (h:SqL X.K H a xs) (h':SqL X.K H a ys):xs=ys:=by
 obtain ⟨its,r,⟨o,n,e,_,_,d⟩,_⟩:=I.list h;obtain ⟨its',r',⟨o',n',e',_,_,d'⟩,_⟩:=I.list h';rw [e] at e';cases e';rw [d] at d';injection d' with d1 _
 have:its=its':=by simpa using congrArg Array.toList d1
 subst this;exact r.inj r'
def Inv.tuple_inj (I:Inv X pins σ H s) (h:SqT X.K H a xs) (h':SqT X.K H a ys):xs=ys:=by
 obtain ⟨its,r,⟨o,e,_,n,d⟩,_⟩:=I.tuple h;obtain ⟨its',r',⟨o',e',_,n',d'⟩,_⟩:=I.tuple h';rw [e] at e';cases e';rw [d] at d';injection d' with d1 _
 have:its=its':=by simpa using congrArg Array.toList d1
 subst this;exact r.inj r'
end
abbrev Cx.wish (X:Cx) (E:Ja):Cx:={ X with xe:=E }
abbrev Cx.nox (X:Cx):Cx:=X.wish λ_ _=>False
def Cx.Ok.wish {X:Cx} (ok:X.Ok) (E:Ja):(X.wish E).Ok :=
 ⟨ok.mod,ok.kind,ok.glob,ok.blt,ok.above,ok.inj,ok.has,ok.cab,ok.hd,ok.frames,ok.stk,ok.exf,ok.bs,ok.bsz,ok.noex,ok.exfs,ok.funs,ok.frf⟩
def Cx.Ok.unwish {X:Cx} {E:Ja} (ok:(X.wish E).Ok):X.Ok :=
 ⟨ok.mod,ok.kind,ok.glob,ok.blt,ok.above,ok.inj,ok.has,ok.cab,ok.hd,ok.frames,ok.stk,ok.exf,ok.bs,ok.bsz,ok.noex,ok.exfs,ok.funs,ok.frf⟩
section
variable {X:Cx} {pins:Jc} {σ:St} {H:Hp} {s:Sh} {E:Ja}
def Inv.wish (I:Inv X pins σ H s) (E:Ja):Inv (X.wish E) pins σ H s:=⟨I.ok.wish E,I.os,I.bare,I.base,I.loc,I.cell,I.free,I.freeC,I.pin,I.hok,I.len⟩
def Inv.unwish (I:Inv (X.wish E) pins σ H s):Inv X pins σ H s:=⟨I.ok.unwish,I.os,I.bare,I.base,I.loc,I.cell,I.free,I.freeC,I.pin,I.hok,I.len⟩
theorem SP.unwish {D:Ends} {f:Flow} {s':Sh} (h:SP (X.wish E) pins D f s'):SP X pins D f s':=by
 cases f with
 | next=>obtain ⟨σ',H',I,q⟩:=h;exact ⟨σ',H',I.unwish,q⟩
 | brk=>obtain ⟨σ',H',I,q⟩:=h;exact ⟨σ',H',I.unwish,q⟩
 | cont=>obtain ⟨σ',H',I,q⟩:=h;exact ⟨σ',H',I.unwish,q⟩
 | ret u=>obtain ⟨v,σ',H',I,r,q⟩:=h;exact ⟨v,σ',H',I.unwish,r,q⟩
def PSs.nox {st:List Stmt} {t:TS} (h:PSs X.nox st t):PSs X st t:=λpins s σ H D I hw =>
 wpAny_mono (h pins s σ H D (I.wish _) hw) (λ_ _ q=>q.unwish) λ_ _ z=>False.elim z
end
section
variable {X:Cx} {st:Stmt} {rest:List Stmt} {t u:TS} {e:Expr} {te:TE} {pos:Pos}
def tNext:TS:=λD σ H=>D.nx σ H
def tSeq (t u:TS):TS:=λD σ H=>t { D with nx:=u D } σ H
def zw:PSs X [] tNext:=λ_ _ σ H _ I h=>wpAny_execs_nil ⟨σ,H,I,h⟩
theorem zc (h1:PS X st t) (h2:PSs X rest u):PSs X (st::rest) (tSeq t u):=by
 intro pins s σ H D I h;refine wpAny_execs_cons (thn (h1 pins s σ H { D with nx:=u D } I h) λf s1 q=>?_)
 cases f with
 | next =>
  obtain ⟨σ',H',I',q⟩:=q;exact h2 pins s1 σ' H' D I' q
 | ret v=>exact q
 | brk=>exact q
 | cont=>exact q
theorem zg (h1:PS X st t):PSs X [st] t:=by
 intro pins s σ H D I h;refine wpAny_execs_cons (thn (h1 pins s σ H D I h) λf s1 q=>?_)
 cases f with
 | next=>exact wpAny_execs_nil q
 | ret v=>exact q
 | brk=>exact q
 | cont=>exact q
def Inv.quiet {pins:Jc} {σ:St} {H:Hp} {s:Sh} (I:Inv X pins σ H s):interactive X.env=false:=by simp [interactive,I.ok.kind]
def tDrop (te:TE):TS:=λD σ H=>te σ H λ_ H1=>D.nx σ H1
def zW (he:PE X e te) (hs:swapsWith e none pos.line X.env=pure false:=by rfl):PS X (.Expr e pos) (tDrop te):=by
 intro pins s σ H D I h;exact wpAny_Expr_any (thn (he pins s σ H _ I h) λv s1 ⟨x,H1,I1,r1,q1⟩=>⟨σ,H1,I1,q1⟩) I.quiet hs
def tRet (te:TE):TS:=λD σ H=>te σ H D.rt
def zo (he:PE X e te):PS X (.Return (some e) pos) (tRet te):=by
 intro pins s σ H D I h;exact wpAny_Return_some (thn (he pins s σ H _ I h) λv s1 ⟨x,H1,I1,r1,q1⟩=>⟨x,σ,H1,I1,r1,q1⟩)
def tIfS (c:TT) (t u:TS):TS:=λD σ H=>c σ H λb H1=>if b=true then t D σ H1 else u D σ H1
theorem zO {c:Expr} {a b:List Stmt} {tc:TT} (hc:PT X c tc) (ha:PSs X a t) (hb:PSs X b u):PS X (.If c a b pos) (tIfS tc t u):=by
 intro pins s σ H D I h;refine wpAny_If (thn (hc pins s σ H _ I h) λd s1 ⟨H1,I1,q1⟩=>?_)
 cases d with
 | true=>exact ha pins s1 σ H1 D I1 q1
 | false=>exact hb pins s1 σ H1 D I1 q1
end
abbrev TG:=V->St->Hp->(St->Hp->Prop)->Prop
abbrev TGs:=Jn->St->Hp->(St->Hp->Prop)->Prop
def PG (X:Cx) (target:Expr) (t:TG):Prop :=
 ∀ (pins:Jc) (s:Sh) (σ:St) (H:Hp) (v:V) (u:Vl) (Q:St->Hp->Prop),Inv X pins σ H s->RelV v u->t v σ H Q ->
  wpAny (model X.prog X.w) X.A (assign target X.env u) (λ_ s'=>∃ σ' H',Inv X pins σ' H' s'/\Q σ' H') X.xe s
def PGs (X:Cx) (ts:Jh) (t:TGs):Prop :=
 ∀ (pins:Jc) (s:Sh) (σ:St) (H:Hp) (vs:Jn) (us:Jd) (Q:St->Hp->Prop),Inv X pins σ H s->Vals vs us->t vs σ H Q ->
  wpAny (model X.prog X.w) X.A (assignInOrder ((assignEach ts X.env).map (·.2)) us) (λ_ s'=>∃ σ' H',Inv X pins σ' H' s'/\Q σ' H') X.xe s
abbrev TSet:=V->V->V->Hp->(Hp->Prop)->Prop
def PSet (X:Cx) (t:TSet):Prop :=
 ∀ (pins:Jc) (s:Sh) (σ:St) (H:Hp) (o i v:V) (ov iv u:Vl) (Q:Hp->Prop),Inv X pins σ H s->RelV o ov->RelV i iv->RelV v u->t o i v H Q ->
  wpAny (model X.prog X.w) X.A (setItem ov iv u) (λ_ s'=>∃ H',Inv X pins σ H' s'/\Q H') X.xe s
abbrev TIp:=V->V->Hp->VK->Prop
section
variable {X:Cx} {pos:Pos}
def Yt (i:Nat):TG:=λv σ H Q=>Q (σ.set i (some v)) H
def zH {i:Nat} {x:Str} (hN:X.N.Nodup) (hi:X.N[i]?=some x) (hx:Loc X.env.scope x) (hf:X.fn x=true∨X.env.scope.names.lookup x=some .local:=by first | exact .inl rfl | exact .inr rfl | assumption):PG X (.Name x pos) (Yt i):=by
 intro pins s σ H v u Q I r h;exact wpAny_assign_Name (zah I hN hi hx r (λs' I'=>⟨_,H,I',h⟩) hf)
def gNil:TGs:=λvs σ H Q=>vs=[]/\Q σ H
inductive gCons (t:TG) (u:TGs) (vs:Jn) (σ:St) (H:Hp) (Q:(St->Hp->Prop)):Prop
 | mk (v r:_) (_:vs=v::r) (_:t v σ H λσ' H'=>u r σ' H' Q)
def ZT:PGs X [] gNil:=by
 intro pins s σ H vs us Q I r h;obtain ⟨e,h⟩:=h;subst e;cases r;exact assignInOrder_nil ⟨σ,H,I,h⟩
theorem yE {e:Expr} {es:Jh} {t:TG} {u:TGs} (h1:PG X e t) (h2:PGs X es u)
  (hs:(assignEach (e::es) X.env).map (·.2)=assign e X.env::(assignEach es X.env).map (·.2):=by rfl):PGs X (e::es) (gCons t u):=by
 intro pins s σ H vs us Q I r h;obtain ⟨v,vr,e1,h⟩:=h;subst e1
 cases r with
 | cons r rr =>
  rw [hs];refine assignInOrder_cons (thn (h1 pins s σ H _ _ _ I r h) λ_ s1 ⟨σ1,H1,I1,q1⟩=>?_);exact h2 pins s1 σ1 H1 _ _ Q I1 rr q1
inductive gTup (K:Fg) (n:Nat) (t:TGs) (v:V) (σ:St) (H:Hp) (Q:(St->Hp->Prop)):Prop
 | mk (a xs:_) (_:v=.ref a) (_:SqT K H a xs) (_:xs.length=n) (_:t xs σ H Q)
def pg_tup {es:Jh} {k:Nat} {t:TGs} {n:Nat} (hc:X.calm=true) (h:PGs X es t)
  (hn:(assignEach es X.env).length=n:=by rfl) (hst:(assignEach es X.env).findIdx? (·.1)=none:=by rfl):PG X (.Tuple es k pos) (gTup X.K n t):=by
 intro pins s σ H v u Q I r hw;obtain ⟨a,xs,e1,hq,hl,hw⟩:=hw;subst e1;cases r;obtain ⟨its,rv,ht,hz⟩:=I.tuple hq;refine assign_Tuple_tuple (I.ok.hd hc) ht (by simp [hn,← hl,rv.length]) hst λh' hx=>?_;have I1:Inv X pins σ H { s with heap:=h' }:=I.kept (t':=s.toks) λb o e=>hx b o (Nat.ne_of_lt (Heap.lt_size e)) e;exact h pins _ σ H xs _ Q I1 (by simpa using rv) hw
def gSub (to ti:TE) (t:TSet):TG:=λv σ H Q=>to σ H λo H1=>ti σ H1 λi H2=>t o i v H2 λH3=>Q σ H3
def Zb {o i:Expr} {to ti:TE} {t:TSet} (ho:PE X o to) (hi:PE X i ti) (hs:PSet X t)
  (ha:∀ v,assign (.Subscript o i pos) X.env v=(do
   let ov ← holding [v] (eval o X.env);let iv ← holding [v,ov] (eval i X.env)
   standAt pos
   holding [v,ov,iv] (setItem ov iv v)
   release [v,ov,iv] []):=by intro _;rfl):PG X (.Subscript o i pos) (gSub to ti t):=by
 intro pins s σ H v u Q I r h;rw [ha];refine q0x (wpAny_holding (thn (ho pins s σ H _ I h) λov s1 ⟨x,H1,I1,r1,q1⟩=>?_));refine q0x (wpAny_holding (thn (hi pins s1 σ H1 _ I1 q1) λiv s2 ⟨y,H2,I2,r2,q2⟩=>?_));refine q0x (wpAny_standAt (q0x (wpAny_holding (thn (hs pins s2 σ H2 x y v ov iv u _ I2 r1 r2 r q2) λ_ s3 ⟨H3,I3,q3⟩=>?_))));exact wpAny_release ⟨σ,H3,I3,q3⟩
def tAsg (te:TE) (g:TG):TS:=λD σ H=>te σ H λx H1=>g x σ H1 D.nx
def Za {tg e:Expr} {te:TE} {g:TG} (he:PE X e te) (hg:PG X tg g) (hs:swapsWithSole [tg] e pos.line X.env=pure false:=by rfl) (hw:swappedStores [tg] e X.env=pure none:=by rfl)
  (h1:(assignEach [tg] X.env).map (·.2)=[assign tg X.env]:=by rfl):PS X (.Assign [tg] e pos) (tAsg te g):=by
 intro pins s σ H D I h;refine wpAny_Assign_stores (thn (he pins s σ H _ I h) λv s1 ⟨x,H1,I1,r1,q1⟩=>?_) hs hw;rw [h1];exact thn (hg pins s1 σ H1 x v _ I1 r1 q1) λ_ s2 q=>q
def zt {i:Nat} {x:Str} {e:Expr} {te:TE} {pos':Pos} (hN:X.N.Nodup) (hi:X.N[i]?=some x) (hx:Loc X.env.scope x) (he:PE X e te) (hs:swapsWith e (some (.Name x pos')) pos.line X.env=pure false:=by rfl) (hf:X.fn x=true∨X.env.scope.names.lookup x=some .local:=by first | exact .inl rfl | exact .inr rfl | assumption) :
  PS X (.Assign [.Name x pos'] e pos) (tAsg te (Yt i)):=by
 intro pins s σ H D I h;refine wpAny_Assign_Name (thn (he pins s σ H _ I h) λv s1 ⟨y,H1,I1,r1,q1⟩=>?_) hs;exact zah I1 hN hi hx r1 (λs2 I2=>⟨_,H1,I2,q1⟩) hf
inductive tWhile (c:TT) (tb:TS) (D:Ends) (σ:St) (H:Hp):Prop
 | mk (W:Nat->St->Hp->Prop) (_:(∃ m,W m σ H)) (_:∀ m σ H,W m σ H->c σ H λb H1=>if b=true then ∃ N:St->Hp->Prop,(∀ σ' H',N σ' H'->∃ m',m'<m/\W m' σ' H')/\tb { D with nx:=N,ct:=N,bk:=D.nx } σ H1 else D.nx σ H1)
theorem ps_while {c:Expr} {body:List Stmt} {tc:TT} {tb:TS} (hp:PassesOwn (model X.prog X.w) X.A X.env X.xe) (hc:PT X c tc) (hb:PSs X body tb):PS X (.While c body [] pos) (tWhile tc tb):=by
 intro pins s σ H D I h;obtain ⟨W,⟨m0,w0⟩,turn⟩:=h;refine wpAny_While (codeAny_whileLoop (λn s'=>∃ σ' H',Inv X pins σ' H' s'/\W n σ' H') ?_ m0 ⟨σ,H,I,w0⟩);rintro n s1 ⟨σ1,H1,I1,w1⟩;refine wpAny_passesOwn hp (thn (hc pins s1 σ1 H1 _ I1 (turn n σ1 H1 w1)) λb s2 ⟨H2,I2,q2⟩=>?_)
 cases b with
 | true =>
  obtain ⟨N,hN,q2⟩:=q2;rw [if_pos rfl];refine wpAny_passesOwn hp (thn (hb pins s2 σ1 H2 _ I2 q2) λf s3 q3=>?_)
  cases f with
  | next =>
   obtain ⟨σ3,H3,I3,n3⟩:=q3;obtain ⟨m',hm,w3⟩:=hN σ3 H3 n3;exact ⟨m',hm,σ3,H3,I3,w3⟩
  | cont =>
   obtain ⟨σ3,H3,I3,n3⟩:=q3;obtain ⟨m',hm,w3⟩:=hN σ3 H3 n3;exact ⟨m',hm,σ3,H3,I3,w3⟩
  | brk=>exact q3
  | ret v=>exact q3
 | false =>
  rw [if_neg q2x];exact wpAny_execs_nil ⟨σ1,H2,I2,q2⟩
end
structure It where
 go:Nat->Hp->Prop
 yld:Nat->Hp->V->Hp->Prop
 stop:Nat->Hp->Prop
def xF (X:Cx) (pins:Jc) (H:Hp) (b:Ad):Prop :=
 H b=none/\b≠X.env.locals/\b ∉ X.fs/\(b∈X.ex∨X.s₀.heap.objs.size<=b)/\(∀ x c,X.env.cells.lookup x=some c->c≠b)/\∀ p∈X.pn++pins,p.1≠b
def Inv.fpOk {X:Cx} {pins:Jc} {σ:St} {H H':Hp} {s:Sh} {b:Ad} (I:Inv X pins σ H s) (hb:s.heap.objs.size<=b) (hn:H' b=none):xF X pins H' b:=by
 refine ⟨hn,Nat.ne_of_gt (q2z I.lt hb),I.nofs hb,.inr (Nat.le_trans I.sz hb),λx c e z=>?_,λp hp z=>?_⟩
 ·obtain ⟨v,q⟩:=I.cell x c e
  exact absurd (q2z q.lt (by rw [z];exact hb)) (Nat.lt_irrefl _)
 ·exact absurd (q2z (Heap.lt_size (I.pin p hp).1) (by rw [z];exact hb)) (Nat.lt_irrefl _)
structure Turn (P:Program) (w:World) (K:Fg) (tg:Expr) (J:It) (fp:Jg) (it:Ad) (tn:Nat->Heap->Prop):Prop where
 mem:it∈fp
 obj:∀ i h,tn i h->∀ b∈fp,∃ o,h.get? b=some o/\∀ v,o.data≠.cell v
 keep:∀ i h h',tn i h->(∀ b∈fp,∀ o,h.get? b=some o->h'.get? b=some o)->tn i h'
 item:∀ (X:Cx),X.prog=P->X.w=w->X.K=K->X.calm=true->∀ (i:Nat) (pins:Jc) (s:Sh) (σ:St) (H:Hp) (E:Ja),Inv X pins σ H s->(∀ b∈fp,xF X pins H b)->tn i s.heap->J.go i H ->
  wpAny (model P w) X.A (pyNext (.ref it)) (λr s1=>∃ u,r=some u /\
   wpAny (model P w) X.A (letOwnedTupleGo tg (.ref it) u) (λ_ s2=>∃ x H',Inv X pins σ H' s2/\RelV x u/\J.yld i H x H'/\tn (i+1) s2.heap/\∀ b∈fp,H' b=none) E s1) E s
 done:∀ (X:Cx),X.prog=P->X.w=w->X.K=K->X.calm=true->∀ (i:Nat) (pins:Jc) (s:Sh) (σ:St) (H:Hp) (E:Ja),Inv X pins σ H s->(∀ b∈fp,xF X pins H b)->tn i s.heap->J.stop i H ->
  wpAny (model P w) X.A (pyNext (.ref it)) (λr s1=>r=none/\Inv X pins σ H s1) E s
 self:∀ (A:Around) (i:Nat) (s:Sh) (Q:Ja) (E:Ja),tn i s.heap->Q (.ref it) s->wpAny (model P w) A (pyIter (.ref it)) Q E s
abbrev TI:=St->Hp->(It->Hp->Prop)->Prop
def PIE (X:Cx) (pins:Jc) (σ:St) (tg:Expr) (R:It->Hp->Prop) (itv:Vl) (s2:Sh):Prop :=
 ∃ (it:Ad) (fp:Jg) (tn:Nat->Heap->Prop) (J:It) (H':Hp),itv=.ref it/\Inv X pins σ H' s2/\Turn X.prog X.w X.K tg J fp it tn/\tn 0 s2.heap/\(∀ b∈fp,xF X pins H' b)/\R J H'
def PI (X:Cx) (tg iter:Expr) (wi:TI):Prop :=
 ∀ (pins:Jc) (s:Sh) (σ:St) (H:Hp) (R:It->Hp->Prop),Inv X pins σ H s->wi σ H R ->
  wpAny (model X.prog X.w) X.A (eval iter X.env) (λv s1=>wpAny (model X.prog X.w) X.A (pyIter v) (PIE X pins σ tg R) X.xe s1) X.xe s
theorem go_of {M:Model} {A:Around} {E:Ja} {s:Sh} {tg:Expr} {it:Ad} {u:Vl} {o:Obj} {n:String} {vs:Array Vl} {Q:Unit->Sh->Prop} (ho:s.heap.get? it=some o) (hc:o.cls=.type n) (hd:o.data=.fields vs)
    (hn:["enumerate","zip","dict_itemiterator","dict_reverseitemiterator","odict_iterator","itertools.zip_longest","itertools.pairwise"].contains n=false) (hQ:Q () s):wpAny M A (letOwnedTupleGo tg (.ref it) u) Q E s:=by
  unfold letOwnedTupleGo;cases tg <;> first
    | exact q0y hQ
    | (cases u <;> first
        | exact q0y hQ
        | (refine q0x (wpAny_load ho ?_)
           rw [hc,hd];show wpAny M A (if (["enumerate","zip","dict_itemiterator","dict_reverseitemiterator","odict_iterator","itertools.zip_longest","itertools.pairwise"].contains n && vs[0]? == some (rawInt _))=true then _ else _) Q E s;rw [if_neg (by intro h;rw [hn,Bool.false_and] at h;cases h)];exact q0y hQ))
def Itl (K:Fg) (a:Ad):It :=
 ⟨λi H=>∃ xs x,SqL K H a xs/\xs[i]?=some x,λi H x H'=>H'=H/\∀ xs,SqL K H a xs->xs[i]?=some x,λi H=>∃ xs,SqL K H a xs/\xs.length<=i⟩
def Itt (K:Fg) (a:Ad):It :=
 ⟨λi H=>∃ xs x,SqT K H a xs/\xs[i]?=some x,λi H x H'=>H'=H/\∀ xs,SqT K H a xs->xs[i]?=some x,λi H=>∃ xs,SqT K H a xs/\xs.length<=i⟩
def Itr (lo:Int) (n:Nat):It:=⟨λi _=>i<n,λi H x H'=>H'=H/\x=.int (lo+i),λi _=>n<=i⟩
def turn_list {P:Program} {w:World} {K:Fg} {tg:Expr} (a it:Ad):Turn P w K tg (Itl K a) [it] it (λi h=>h.IsListIter it a i) where
 mem:=by simp
 obj:=λi h st b hb=>by
  have e:b=it:=by simpa using hb
  subst e;obtain ⟨o,e,c,d⟩:=st;exact ⟨o,e,λv z=>by rw [d] at z;cases z⟩
 keep:=λi h h' st k=>st.at λo e=>k it (by simp) o e
 item:=by
  intro X hP hw hK hc i pins s σ H E I hf st hg;subst hP hw hK;obtain ⟨xs,x,hq,hx⟩:=hg;obtain ⟨its,rv,p,hz⟩:=I.list hq;obtain ⟨u,hu,ru⟩:=rv.get hx;obtain ⟨f0,f1,f2,f3,f4,f5⟩:=hf it (by simp);refine wpAny_pyNext_list_item st p.isList (x:=u) (by simpa using hu) λh' st' sb=>?_;have I1:Inv X pins σ H { s with heap:=h' }:=I.turned (t':=s.toks) (λb o hb e=>(sb.2 b hb).trans e) f0 f1 f3 f4 f5;obtain ⟨o,e,c,d⟩:=id st';exact ⟨u,rfl,go_of (s:={ s with heap:=h' }) e c d (by decide) ⟨x,H,I1,ru,⟨rfl,λys hy=>by rw [I.list_inj hy hq];exact hx⟩,st',λb hb=>(hf b hb).1⟩⟩
 done:=by
  intro X hP hw hK hc i pins s σ H E I hf st hg;subst hP hw hK;obtain ⟨xs,hq,hx⟩:=hg;obtain ⟨its,rv,p,hz⟩:=I.list hq;obtain ⟨f0,f1,f2,f3,f4,f5⟩:=hf it (by simp);have hl:=rv.length;exact wpAny_pyNext_list_end (I.ok.hd hc) st p.isList (by simp;omega) λh' eb=>⟨rfl,I.turned (t':=s.toks) (λb o hb e=>eb b o hb e) f0 f1 f3 f4 f5⟩
 self:=λ_ _ _ _ _ st h=>wpAny_pyIter_listiter st h
def zbd {P:Program} {w:World} {K:Fg} {tg:Expr} (it:Ad) (lo:Int) (n:Nat):Turn P w K tg (Itr lo n) [it] it (λi h=>IsRangeIter h it (lo+(i:Nat)*1) ((n:Int)-(i:Nat)) 1) where
 mem:=by simp
 obj:=λi h st b hb=>by
  have e:b=it:=by simpa using hb
  subst e
  exact ⟨_,st,λv z=>by
   have z':Data.fields _=Data.cell v:=z;cases z'⟩
 keep:=λi h h' st k=>k it (by simp) _ st
 item:=by
  intro X hP hw hK hc i pins s σ H E I hf st hg;subst hP hw hK;obtain ⟨f0,f1,f2,f3,f4,f5⟩:=hf it (by simp);have W:=Walks.range (prog:=X.prog) (w:=X.w) (I.ok.hd hc) it lo 1 n;refine W.item i s _ _ hg st λv h' tk hv st' kk=>?_;obtain ⟨t,rfl⟩:=hv;have I1:Inv X pins σ H { s with heap:=h',toks:=tk }:=I.turned (λb o hb e=>kk b o (by simpa using hb) e) f0 f1 f3 f4 f5;refine ⟨_,rfl,go_of (s:={ s with heap:=h',toks:=tk }) (n:="range_iterator") st' rfl rfl (by decide) ⟨.int (lo+i),H,I1,⟨t,?_⟩,⟨rfl,rfl⟩,st',λb hb=>(hf b hb).1⟩⟩;rw [Int.mul_one]
 done:=by
  intro X hP hw hK hc i pins s σ H E I hf st hg;subst hP hw hK;obtain ⟨f0,f1,f2,f3,f4,f5⟩:=hf it (by simp);exact wpAny_pyNext_range_end (I.ok.hd hc) st (by have:n<=i:=hg;omega) λh' eb=>⟨rfl,I.turned (t':=s.toks) (λb o hb e=>eb b o hb e) f0 f1 f3 f4 f5⟩
 self:=λ_ _ _ _ _ st h=>wpAny_pyIter_rangeiter st h
section
variable {X:Cx} {tg:Expr}
inductive iList_S (K:Fg) (R:(It->Hp->Prop)) (x:V) (H1:Hp):Prop
 | mk (a:_) (_:x=.ref a) (_:(∃ xs,SqL K H1 a xs)) (_:R (Itl K a) H1)
def iList (K:Fg) (tl:TE):TI:=λσ H R=>tl σ H λx H1=>iList_S K R x H1
def ZR {l:Expr} {tl:TE} (hl:PE X l tl):PI X tg l (iList X.K tl):=by
 intro pins s σ H R I h;refine thn (hl pins s σ H _ I h) λv s1 ⟨x,H1,I1,r1,q1⟩=>?_;obtain ⟨a,e,⟨xs,hq⟩,q⟩:=q1;subst e;cases r1;obtain ⟨its,rv,p,hz⟩:=I1.list hq;refine wpAny_pyIter_list p.isList ?_;refine ⟨s1.heap.objs.size,[s1.heap.objs.size],_,_,H1,rfl,I1.kept (t':=s1.toks) λb o e=>Heap.get?_push_of_some _ e,turn_list a _,⟨_,Heap.get?_push_size _ rfl,rfl,rfl⟩,λb hb=>?_,q⟩;have e:b=s1.heap.objs.size:=by simpa using hb
 subst e;exact I1.fpOk (Nat.le_refl _) (I1.hok.fresh (Nat.le_refl _))
def zaj {pins:Jc} {σ:St} {H:Hp} {s:Sh} {R:It->Hp->Prop} {E:Ja} {lo hi:Int} {t u v:Tok} {tk:Nat} (I:Inv X pins σ H s) (h1:-(2 ^ 62)<=lo) (h2:lo<2 ^ 62) (h3:-(2 ^ 62)<=hi) (h4:hi<2 ^ 62)
  (q:R (Itr lo (hi-lo).toNat) H):wpAny (model X.prog X.w) X.A (pyIter (.ref s.heap.objs.size)) (PIE X pins σ tg R) E { s with heap:=s.heap.push { cls:=.type "range",data:=.fields #[.int lo t,.int hi u,.int 1 v] },toks:=tk }:=by
 refine wpAny_pyIter_range (IsRange.new ..) (small_one h1 h2 h3 h4) ?_;have I1:Inv X pins σ H { s with heap:=s.heap.push { cls:=.type "range",data:=.fields #[.int lo t,.int hi u,.int 1 v] },toks:=tk }:=I.kept λb o e=>Heap.get?_push_of_some _ e
 refine ⟨(s.heap.push { cls:=.type "range",data:=.fields #[.int lo t,.int hi u,.int 1 v] }).objs.size,[(s.heap.push { cls:=.type "range",data:=.fields #[.int lo t,.int hi u,.int 1 v] }).objs.size],_,_,H,rfl,
  I1.kept (t':=tk) λb o e=>Heap.get?_push_of_some _ e,zbd _ lo (hi-lo).toNat,?_,λb hb=>?_,q⟩
 ·have e1:lo+((0:Nat):Int)*1=lo:=by simp
  have e2:(((hi-lo).toNat:Nat):Int)-((0:Nat):Int)=Builtin.Range.rangeSize lo hi 1:=by rw [rangeSize_one];split <;> omega
  show IsRangeIter _ _ (lo+((0:Nat):Int)*1) ((((hi-lo).toNat:Nat):Int)-((0:Nat):Int)) 1;rw [e1,e2];exact Heap.get?_push_size _ rfl
 ·have e:b=(s.heap.push { cls:=.type "range",data:=.fields #[.int lo t,.int hi u,.int 1 v] }).objs.size:=by simpa using hb
  subst e;exact I1.fpOk (Nat.le_refl _) (I1.hok.fresh (Nat.le_refl _))
inductive iRng1_S (R:(It->Hp->Prop)) (vs:Jn) (H1:Hp):Prop
 | mk (j:Int) (_:vs=[.int j]) (_:-(2 ^ 62)<=j) (_:j<2 ^ 62) (_:R (Itr 0 j.toNat) H1)
def iRng1 (ta:TA):TI:=λσ H R=>ta σ H λvs H1=>iRng1_S R vs H1
inductive iRng2_S (R:(It->Hp->Prop)) (vs:Jn) (H1:Hp):Prop
 | mk (i j:Int) (_:vs=[.int i,.int j]) (_:(-(2 ^ 62)<=i/\i<2 ^ 62/\-(2 ^ 62)<=j/\j<2 ^ 62)) (_:R (Itr i (j-i).toNat) H1)
def iRng2 (ta:TA):TI:=λσ H R=>ta σ H λvs H1=>iRng2_S R vs H1
theorem yk {a:Expr} {ta:TA} {p pos:Pos} (hg:Gl X "range") (hm:X.mg "range"=none) (ha:PA X [a] ta) (hs:starEach [a] X.env=[(false,eval a X.env)]:=by rfl):PI X tg (.Call (.Name "range" p) [a] [] pos) (iRng1 ta):=by
 intro pins s σ H R I h;refine Call_ (xD I hg hm boot_range (PyProof.Rows.callWith_type1 (thn (ha pos pins s σ H _ I h) λus s1 ⟨vs,H1,I1,r1,q1⟩=>?_) hs rfl));obtain ⟨j,e,q1,q2,q⟩:=q1;subst e
 cases r1 with
 | cons r rr =>
  cases rr;obtain ⟨t,rfl⟩:=r;exact call_range_1 (zaj I1 (by omega) (by omega) q1 q2 (by simpa using q))
theorem Ye {a b:Expr} {ta:TA} {p pos:Pos} (hg:Gl X "range") (hm:X.mg "range"=none) (ha:PA X [a,b] ta) (hs:starEach [a,b] X.env=[(false,eval a X.env),(false,eval b X.env)]:=by rfl) (hs2:starEach [b] X.env=[(false,eval b X.env)]:=by rfl) :
  PI X tg (.Call (.Name "range" p) [a,b] [] pos) (iRng2 ta):=by
 intro pins s σ H R I h;refine Call_ (xD I hg hm boot_range (PyProof.Rows.callWith_type1 (thn (ha pos pins s σ H _ I h) λus s1 ⟨vs,H1,I1,r1,q1⟩=>?_) (by rw [hs,hs2]) (by rw [hs2];rfl)));obtain ⟨i,j,e,⟨q1,q2,q3,q4⟩,q⟩:=q1;subst e
 cases r1 with
 | cons r rr =>
  cases rr with
  | cons r' rr =>
   cases rr;obtain ⟨t,rfl⟩:=r;obtain ⟨t',rfl⟩:=r';exact call_range_2 (zaj I1 q1 q2 q3 q4 q)
inductive tFor_S (g:TG) (tb:TS) (D:Ends) (σ:St) (J:It) (H1:Hp):Prop
 | mk (W:Nat->Nat->St->Hp->Prop) (_:(∃ m,W 0 m σ H1)) (_:∀ i m σ H,W i m σ H->(J.stop i H/\D.nx σ H)∨(J.go i H/\∃ N:St->Hp->Prop,(∀ σ' H',N σ' H'->∃ m',m'<m/\W (i+1) m' σ' H')/\∀ x H',J.yld i H x H'->g x σ H' λσ2 H2=>tb { D with nx:=N,ct:=N,bk:=D.nx } σ2 H2))
def tFor (wi:TI) (g:TG) (tb:TS):TS:=λD σ H=>wi σ H λJ H1=>tFor_S g tb D σ J H1
def Yd (fp:Jg) (h:Heap):Jc:=fp.filterMap λb=>(h.get? b).map λo=>(b,o)
def yG {fp:Jg} {h:Heap} {b:Ad} {o:Obj} (hb:b∈fp) (e:h.get? b=some o):(b,o)∈Yd fp h:=List.mem_filterMap.mpr ⟨b,hb,by rw [e];rfl⟩
theorem of_pinsAt {fp:Jg} {h:Heap} {p:Ad×Obj} (hp:p∈Yd fp h):p.1∈fp/\h.get? p.1=some p.2:=by
 obtain ⟨b,hb,e⟩:=List.mem_filterMap.mp hp
 cases q:h.get? b with
 | none=>rw [q] at e;cases e
 | some o =>
  rw [q] at e;have e':(b,o)=p:=Option.some.inj e;subst e';exact ⟨hb,q⟩
def Inv.pinned {pins:Jc} {σ:St} {H:Hp} {s:Sh} {fp:Jg} (I:Inv X pins σ H s) (hf:∀ b∈fp,xF X pins H b) (ho:∀ b∈fp,∃ o,s.heap.get? b=some o/\∀ v,o.data≠.cell v):Inv X (pins++Yd fp s.heap) σ H s :=
 I.pins_of λp hp=>(List.mem_append.mp hp).elim (λz=>I.pin p (q2y _ z)) λz=>by
  obtain ⟨hb,e⟩:=of_pinsAt z;obtain ⟨f0,f1,f2,_⟩:=hf p.1 hb;obtain ⟨o,e',d⟩:=ho p.1 hb;rw [e] at e';cases e';exact ⟨e,f0,f1,f2,d⟩
def Inv.unpinned {pins pl:Jc} {σ:St} {H:Hp} {s:Sh} (I:Inv X (pins++pl) σ H s):Inv X pins σ H s:=I.pins_of λp hp=>I.pin p (q2y _ (List.mem_append_left _ hp))
theorem xR {iter:Expr} {body:List Stmt} {wi:TI} {g:TG} {tb:TS} {pos:Pos} (hp:PassesOwn (model X.prog X.w) X.A X.env X.xe) (hc:X.calm=true) (hi:PI X tg iter wi) (hg:PG X tg g) (hb:PSs X body tb)
  (hs:∀ x,foldedSetIterable iter X.env x=pure x:=by intro _;rfl):PS X (.For tg iter body [] pos) (tFor wi g tb):=by
 intro pins s σ H D I h;refine wpAny_For (thn (hi pins s σ H _ I h) λv s1 h1=>thn h1 λitv s2 h2=>?_) hs;obtain ⟨it,fp,tn,J,H2,e,I2,T,st2,f2,W,⟨m0,w0⟩,turn⟩:=h2;subst e;have stat:∀ {H':Hp},(∀ b∈fp,H' b=none)->∀ b∈fp,xF X pins H' b:=λhn b hb=>⟨hn b hb,(f2 b hb).2⟩;refine codeAny_forLoop_any (λn s'=>∃ i σ' H',Inv X pins σ' H' s'/\tn i s'.heap/\(∀ b∈fp,H' b=none)/\W i n σ' H') ?_ m0 ⟨0,σ,H2,I2,st2,λb hb=>(f2 b hb).1,w0⟩;rintro n s3 ⟨i,σ3,H3,I3,st3,fr3,w3⟩;rcases turn i n σ3 H3 w3 with ⟨stop,qn⟩ | ⟨go,N,hN,step⟩
 ·refine wpAny_passesOwn hp (thn (T.done X rfl rfl rfl hc i pins s3 σ3 H3 X.xe I3 (stat fr3) st3 stop) λr s4 ⟨hr,I4⟩=>?_)
  subst hr;exact wpAny_execs_nil ⟨σ3,H3,I4,qn⟩
 ·refine wpAny_passesOwn hp (thn (T.item X rfl rfl rfl hc i pins s3 σ3 H3 X.xe I3 (stat fr3) st3 go) λr s4 ⟨u,hr,h4⟩=>?_)
  subst hr;refine wpAny_passesOwn hp (thn h4 λ_ s5 ⟨x,H5,I5,r5,y5,st5,fr5⟩=>?_);have I5':=I5.pinned (stat fr5) (T.obj _ _ st5);refine wpAny_passesOwn hp (thn (hg _ s5 σ3 H5 x u _ I5' r5 (step x H5 y5)) λ_ s6 ⟨σ6,H6,I6,q6⟩=>?_);refine wpAny_passesOwn hp (thn (hb _ s6 σ6 H6 _ I6 q6) λf s7 q7=>?_)
  have again:∀ {σ7:St} {H7:Hp},Inv X (pins++Yd fp s5.heap) σ7 H7 s7->N σ7 H7->∃ m,m<n/\∃ i σ' H',Inv X pins σ' H' s7/\tn i s7.heap/\(∀ b∈fp,H' b=none)/\W i m σ' H':=λ{σ7 H7} I7 n7=>by
   obtain ⟨m',hm,w7⟩:=hN σ7 H7 n7;refine ⟨m',hm,i+1,σ7,H7,I7.unpinned,T.keep _ _ _ st5 λb hb o e=>(I7.pin (b,o) (q2y _ (q2y _ (yG hb e)))).1,λb hb=>?_,w7⟩;obtain ⟨o,e,d⟩:=T.obj _ _ st5 b hb;exact (I7.pin (b,o) (q2y _ (q2y _ (yG hb e)))).2.1
  cases f with
  | next=>obtain ⟨σ7,H7,I7,n7⟩:=q7;exact again I7 n7
  | cont=>obtain ⟨σ7,H7,I7,n7⟩:=q7;exact again I7 n7
  | brk=>obtain ⟨σ7,H7,I7,q7⟩:=q7;exact ⟨σ7,H7,I7.unpinned,q7⟩
  | ret v=>obtain ⟨x7,σ7,H7,I7,r7,q7⟩:=q7;exact ⟨x7,σ7,H7,I7.unpinned,r7,q7⟩
end
def za2 {K:Fg} {a:Ad} {xs:Jn} {g:TG} {tb:TS} {D:Ends} {σ:St} {H:Hp} (Pv:Nat->St->Hp->Prop) (h0:Pv 0 σ H) (hl:∀ i σ H,i<=xs.length->Pv i σ H->SqL K H a xs)
  (hs:∀ i x σ H,xs[i]?=some x->Pv i σ H->g x σ H λσ2 H2=>tb { D with nx:=Pv (i+1),ct:=Pv (i+1),bk:=D.nx } σ2 H2) (hd:∀ σ H,Pv xs.length σ H->D.nx σ H) :
  tFor_S g tb D σ (Itl K a) H:=by
 refine ⟨λi m σ H=>m=xs.length-i/\i<=xs.length/\Pv i σ H,⟨xs.length,by simp,Nat.zero_le _,h0⟩,?_⟩;rintro i m σ H ⟨rfl,hi,p⟩;have q:=hl i σ H hi p;by_cases hlt:i<xs.length
 ·refine .inr ⟨⟨xs,xs[i],q,by simp [hlt]⟩,Pv (i+1),λσ' H' p'=>⟨xs.length-(i+1),by omega,rfl,hlt,p'⟩,λx H' y=>?_⟩
  obtain ⟨e,y⟩:=y;subst e;exact hs i x σ _ (y xs q) p
 ·have e:i=xs.length:=by omega
  subst e;exact .inl ⟨⟨xs,q,Nat.le_refl _⟩,hd σ H p⟩
def xU {lo:Int} {n:Nat} {g:TG} {tb:TS} {D:Ends} {σ:St} {H:Hp} (Pv:Nat->St->Hp->Prop) (h0:Pv 0 σ H)
  (hs:∀ i σ H,i<n->Pv i σ H->g (.int (lo+i)) σ H λσ2 H2=>tb { D with nx:=Pv (i+1),ct:=Pv (i+1),bk:=D.nx } σ2 H2) (hd:∀ σ H,Pv n σ H->D.nx σ H) :
  tFor_S g tb D σ (Itr lo n) H:=by
 refine ⟨λi m σ H=>m=n-i/\i<=n/\Pv i σ H,⟨n,by simp,Nat.zero_le _,h0⟩,?_⟩;rintro i m σ H ⟨rfl,hi,p⟩;by_cases hlt:i<n
 ·refine .inr ⟨hlt,Pv (i+1),λσ' H' p'=>⟨n-(i+1),by omega,rfl,hlt,p'⟩,λx H' y=>?_⟩
  obtain ⟨e,y⟩:=y;subst e y;exact hs i σ _ hlt p
 ·have e:i=n:=by omega
  subst e;exact .inl ⟨Nat.le_refl _,hd σ H p⟩
abbrev R2:=V->V->Hp->VK->Prop
def OpR (X:Cx) (f:Vl->Vl->Sem Vl) (r:R2):Prop :=
 ∀ (pins:Jc) (s:Sh) (σ:St) (H:Hp) (x y:V) (v u:Vl) (Q:VK),Inv X pins σ H s->RelV x v->RelV y u->r x y H Q ->
  wpAny (model X.prog X.w) X.A (f v u) (EP X pins σ Q) X.xe s
def UnR (X:Cx) (f:Vl->Sem Vl) (r:V->Hp->VK->Prop):Prop :=
 ∀ (pins:Jc) (s:Sh) (σ:St) (H:Hp) (x:V) (v:Vl) (Q:VK),Inv X pins σ H s->RelV x v->r x H Q ->
  wpAny (model X.prog X.w) X.A (f v) (EP X pins σ Q) X.xe s
def Zh (X:Cx) (f:Vl) (r:Jn->Hp->VK->Prop):Prop :=
 ∀ (pins:Jc) (s:Sh) (σ:St) (H:Hp) (xs:Jn) (us:Jd) (Q:VK),Inv X pins σ H s->Vals xs us->r xs H Q ->
  wpAny (model X.prog X.w) X.A (call f us) (EP X pins σ Q) X.xe s
def tOp (r:R2) (ta tb:TE):TE:=λσ H Q=>ta σ H λx H1=>tb σ H1 λy H2=>r x y H2 Q
def tUn (r:V->Hp->VK->Prop) (ta:TE):TE:=λσ H Q=>ta σ H λx H1=>r x H1 Q
inductive rI (C:Int->Int->Prop) (g:Int->Int->V) (x y:V) (H:Hp) (Q:VK):Prop
 | mk (i j:_) (_:x=.int i) (_:y=.int j) (_:C i j) (_:Q (g i j) H)
inductive rI0 (g:Int->Int->V) (x y:V) (H:Hp) (Q:VK):Prop
 | mk (i j:_) (_:x=.int i) (_:y=.int j) (_:Q (g i j) H)
inductive rU (g:Int->V) (x:V) (H:Hp) (Q:VK):Prop
 | mk (i:_) (_:x=.int i) (_:Q (g i) H)
section
variable {X:Cx} {a b c:Expr} {ta tb tc:TE} {pos:Pos}
def binT (ha:PE X a ta) (hb:PE X b tb) {pins:Jc} {s:Sh} {σ:St} {H:Hp} {R:V->V->Hp->Prop} (I:Inv X pins σ H s)
  (h:ta σ H λx H1=>tb σ H1 λy H2=>R x y H2) {Q:Ja} {f:Vl->Vl->Sem Vl}
  (hf:∀ v u s2 x y H2,Inv X pins σ H2 s2->RelV x v->RelV y u->R x y H2->wpAny (model X.prog X.w) X.A (f v u) Q X.xe s2) :
  wpAny (model X.prog X.w) X.A (eval a X.env) (λv s₁=>wpAny (model X.prog X.w) X.A (eval b X.env) (λu s₂=>wpAny (model X.prog X.w) X.A (f v u) Q X.xe s₂) X.xe s₁) X.xe s:=by
 refine thn (ha pins s σ H _ I h) λv s1 ⟨x,H1,I1,r1,q1⟩=>?_;refine thn (hb pins s1 σ H1 _ I1 q1) λu s2 ⟨y,H2,I2,r2,q2⟩=>?_;exact hf v u s2 x y H2 I2 r1 r2 q2
def zj {op:Operator} {r:R2} (ho:OpR X (binaryOp op) r) (ha:PE X a ta) (hb:PE X b tb):PE X (.BinOp a op b pos) (tOp r ta tb):=by
 intro pins s σ H Q I h;exact wpAny_BinOp (binT ha hb I h λv u s2 x y H2 I2 rx ry q=>ho pins s2 σ H2 x y v u Q I2 rx ry q)
def pe_un {op:UnaryOp} {r:V->Hp->VK->Prop} (ho:UnR X (unaryOp op) r) (ha:PE X a ta):PE X (.UnaryOp op a pos) (tUn r ta):=by
 intro pins s σ H Q I h;exact UnaryOp_ (thn (ha pins s σ H _ I h) λv s1 ⟨x,H1,I1,r1,q1⟩=>ho pins s1 σ H1 x v Q I1 r1 q1)
def opI {f:Vl->Vl->Sem Vl} {C:Int->Int->Prop} {g:Int->Int->Int}
  (rule:∀ (i j:Int) (t u:Tok) (s:Sh) (Q:Ja) (E:Ja),C i j->Q (.int (g i j) s.toks) { s with toks:=s.toks+1 }->wpAny (model X.prog X.w) X.A (f (.int i t) (.int j u)) Q E s) :
  OpR X f (rI C λi j=>.int (g i j)):=by
 intro pins s σ H x y v u Q I rx ry h;obtain ⟨i,j,rfl,rfl,hc,q⟩:=h;obtain ⟨t,rfl⟩:=rx;obtain ⟨t',rfl⟩:=ry;exact rule i j t t' s _ _ hc ⟨.int (g i j),H,I.tok _,⟨_,rfl⟩,q⟩
def opI0 {f:Vl->Vl->Sem Vl} {g:Int->Int->Int}
  (rule:∀ (i j:Int) (t u:Tok) (s:Sh) (Q:Ja) (E:Ja),Q (.int (g i j) s.toks) { s with toks:=s.toks+1 }->wpAny (model X.prog X.w) X.A (f (.int i t) (.int j u)) Q E s) :
  OpR X f (rI0 λi j=>.int (g i j)):=by
 intro pins s σ H x y v u Q I rx ry h;obtain ⟨i,j,rfl,rfl,q⟩:=h;obtain ⟨t,rfl⟩:=rx;obtain ⟨t',rfl⟩:=ry;exact rule i j t t' s _ _ ⟨.int (g i j),H,I.tok _,⟨_,rfl⟩,q⟩
def opB0 {f:Vl->Vl->Sem Vl} {g:Int->Int->Bool}
  (rule:∀ (i j:Int) (t u:Tok) (s:Sh) (Q:Ja) (E:Ja),Q (.bool (g i j)) s->wpAny (model X.prog X.w) X.A (f (.int i t) (.int j u)) Q E s) :
  OpR X f (rI0 λi j=>.bl (g i j)):=by
 intro pins s σ H x y v u Q I rx ry h;obtain ⟨i,j,rfl,rfl,q⟩:=h;obtain ⟨t,rfl⟩:=rx;obtain ⟨t',rfl⟩:=ry;exact rule i j t t' s _ _ ⟨.bl (g i j),H,I,rfl,q⟩
def CDiv (i j:Int):Prop:=0<j/\j<1073741824
def CMul (i j:Int):Prop:=(-(2 ^ 64)<i/\i<2 ^ 64)∨(-(2 ^ 64)<j/\j<2 ^ 64)
def CMul.ok {i j:Int} (h:CMul i j):IntMulOk i j:=by
 rcases h with ⟨h1,h2⟩ | ⟨h1,h2⟩
 ·exact .of_left (intBits_le_64 h1 h2)
 ·exact .of_right (intBits_le_64 h1 h2)
def zF:OpR X (binaryOp .Add) (rI0 λi j=>.int (i+j)):=opI0 λ_ _ _ _ _ _ _ q=>add_int q
def YS:OpR X (binaryOp .Sub) (rI0 λi j=>.int (i-j)):=opI0 λ_ _ _ _ _ _ _ q=>sub_int q
def zP:OpR X (binaryOp .Mult) (rI CMul λi j=>.int (i*j)):=opI λ_ _ _ _ _ _ _ hc q=>mul_int q hc.ok
def X1:OpR X (binaryOp .FloorDiv) (rI CDiv λi j=>.int (i / j)):=opI λi j _ _ _ _ _ hc q=>by
 have h1:(0:Int)<j:=hc.1;have h2:j<1073741824:=hc.2;exact floordiv_int (by omega) (by rw [Int.fdiv_eq_ediv_of_nonneg i (by omega)];exact q) (.inl (PyProof.noPylong_small (by omega)))
def yS:OpR X (binaryOp .Mod) (rI (λ_ j=>0<j) λi j=>.int (i % j)):=opI λi j _ _ _ _ _ hc q=>by
 have h1:(0:Int)<j:=hc;exact mod_int' (by omega) (by rw [Int.fmod_eq_emod_of_nonneg i (by omega)];exact q)
def unI {f:Vl->Sem Vl} {g:Int->Int}
  (rule:∀ (i:Int) (t:Tok) (s:Sh) (Q:Ja) (E:Ja),Q (.int (g i) s.toks) { s with toks:=s.toks+1 }->wpAny (model X.prog X.w) X.A (f (.int i t)) Q E s) :
  UnR X f (rU λi=>.int (g i)):=by
 intro pins s σ H x v Q I rx h;obtain ⟨i,rfl,q⟩:=h;obtain ⟨t,rfl⟩:=rx;exact rule i t s _ _ ⟨.int (g i),H,I.tok _,⟨_,rfl⟩,q⟩
def un_neg:UnR X (unaryOp .USub) (rU λi=>.int (-i)):=unI λ_ _ _ _ _ q=>neg_int q
end
def scal:V->V->Bool
 | .non,.non=>true | .non,.int _=>true | .int _,.non=>true | .non,.bl _=>true | .bl _,.non=>true | .non,.str _=>true | .str _,.non=>true
 | .int _,.int _=>true | .bl _,.bl _=>true | .str _,.str _=>true | .byt _,.byt _=>true
 | .int _,.str _=>true | .str _,.int _=>true | .bl _,.str _=>true | .str _,.bl _=>true
 | _,_=>false
def rEq:R2:=λx y H Q=>scal x y=true/\Q (.bl (decide (x=y))) H
def rNe:R2:=λx y H Q=>scal x y=true/\Q (.bl (!decide (x=y))) H
def X8 {i j:Int}:decide (V.int i=V.int j)=(i == j):=by
 rw [Bool.eq_iff_iff];simp
def dec_bl {i j:Bool}:decide (V.bl i=V.bl j)=(i == j):=by
 rw [Bool.eq_iff_iff];simp
def dec_str {i j:Str}:decide (V.str i=V.str j)=(i == j):=by
 rw [Bool.eq_iff_iff];simp
def dec_byt {i j:Array UInt8}:decide (V.byt i=V.byt j)=(i.toList == j.toList):=by
 rw [Bool.eq_iff_iff];cases i;cases j;simp
section
variable {X:Cx} {a b c:Expr} {ta tb tc:TE} {pos:Pos}
def zR {pins:Jc} {σ:St} {H:Hp} {s:Sh} {Q:VK} {k k':Bool} (I:Inv X pins σ H s) (q:Q (.bl k) H) (e:k=k'):EP X pins σ Q (.bool k') s:=by
 subst e;exact ⟨.bl k,H,I,rfl,q⟩
theorem ye:OpR X (compareOp .Eq) rEq:=by
 intro pins s σ H x y v u Q I rx ry h;obtain ⟨hs,q⟩:=h
 cases x with
 | non =>
  cases rx
  cases y with
  | non=>cases ry;exact PySem.EqNone.eq_none_none (zR I q (by simp))
  | bl j=>cases ry;exact PySem.EqNone.eq_none_bool (zR I q (by simp))
  | int j=>obtain ⟨t',rfl⟩:=ry;exact PySem.EqNone.eq_none_int (zR I q (by simp))
  | str j=>obtain ⟨t',rfl⟩:=ry;exact PySem.EqNone.eq_none_str (zR I q (by simp))
  | _=>exact absurd (show false=true from hs) q2x
 | bl i =>
  cases rx
  cases y with
  | non=>cases ry;exact PySem.EqNone.eq_bool_none (zR I q (by simp))
  | bl j=>cases ry;exact eq_bool (zR I q dec_bl)
  | str j=>obtain ⟨t',rfl⟩:=ry;exact PySem.EqMixed.eq_bool_str (zR I q (by simp))
  | _=>exact absurd (show false=true from hs) q2x
 | int i =>
  obtain ⟨t,rfl⟩:=rx
  cases y with
  | non=>cases ry;exact PySem.EqNone.eq_int_none (zR I q (by simp))
  | int j=>obtain ⟨t',rfl⟩:=ry;exact eq_int (zR I q X8)
  | str j=>obtain ⟨t',rfl⟩:=ry;exact PySem.EqMixed.eq_int_str (zR I q (by simp))
  | _=>exact absurd (show false=true from hs) q2x
 | str i =>
  obtain ⟨t,rfl⟩:=rx
  cases y with
  | non=>cases ry;exact PySem.EqNone.eq_str_none (zR I q (by simp))
  | bl j=>cases ry;exact PySem.EqMixed.eq_str_bool (zR I q (by simp))
  | int j=>obtain ⟨t',rfl⟩:=ry;exact PySem.EqMixed.eq_str_int (zR I q (by simp))
  | str j=>obtain ⟨t',rfl⟩:=ry;exact eq_str (zR I q dec_str)
  | _=>exact absurd (show false=true from hs) q2x
 | byt i =>
  obtain ⟨t,rfl⟩:=rx
  cases y with
  | byt j=>obtain ⟨t',rfl⟩:=ry;exact PySem.W.eq_bytes (zR I q dec_byt)
  | _=>exact absurd (show false=true from hs) q2x
 | _=>cases y <;> exact absurd (show false=true from hs) q2x
theorem op_ne:OpR X (compareOp .NotEq) rNe:=by
 intro pins s σ H x y v u Q I rx ry h;obtain ⟨hs,q⟩:=h
 cases x with
 | non =>
  cases rx
  cases y with
  | non=>cases ry;exact PySem.EqNone.ne_none_none (zR I q (by simp))
  | bl j=>cases ry;exact PySem.EqNone.ne_none_bool (zR I q (by simp))
  | int j=>obtain ⟨t',rfl⟩:=ry;exact PySem.EqNone.ne_none_int (zR I q (by simp))
  | str j=>obtain ⟨t',rfl⟩:=ry;exact PySem.EqNone.ne_none_str (zR I q (by simp))
  | _=>exact absurd (show false=true from hs) q2x
 | bl i =>
  cases rx
  cases y with
  | non=>cases ry;exact PySem.EqNone.ne_bool_none (zR I q (by simp))
  | bl j=>cases ry;exact ne_bool (zR I q (congrArg not dec_bl))
  | str j=>obtain ⟨t',rfl⟩:=ry;exact PySem.EqMixed.ne_bool_str (zR I q (by simp))
  | _=>exact absurd (show false=true from hs) q2x
 | int i =>
  obtain ⟨t,rfl⟩:=rx
  cases y with
  | non=>cases ry;exact PySem.EqNone.ne_int_none (zR I q (by simp))
  | int j=>obtain ⟨t',rfl⟩:=ry;exact ne_int (zR I q (congrArg not X8))
  | str j=>obtain ⟨t',rfl⟩:=ry;exact PySem.EqMixed.ne_int_str (zR I q (by simp))
  | _=>exact absurd (show false=true from hs) q2x
 | str i =>
  obtain ⟨t,rfl⟩:=rx
  cases y with
  | non=>cases ry;exact PySem.EqNone.ne_str_none (zR I q (by simp))
  | bl j=>cases ry;exact PySem.EqMixed.ne_str_bool (zR I q (by simp))
  | int j=>obtain ⟨t',rfl⟩:=ry;exact PySem.EqMixed.ne_str_int (zR I q (by simp))
  | str j=>obtain ⟨t',rfl⟩:=ry;exact ne_str (zR I q (congrArg not dec_str))
  | _=>exact absurd (show false=true from hs) q2x
 | byt i =>
  obtain ⟨t,rfl⟩:=rx
  cases y with
  | byt j=>obtain ⟨t',rfl⟩:=ry;exact PySem.W.ne_bytes (zR I q (congrArg not dec_byt))
  | _=>exact absurd (show false=true from hs) q2x
 | _=>cases y <;> exact absurd (show false=true from hs) q2x
def Yq:OpR X (compareOp .Lt) (rI0 λi j=>.bl (decide (i<j))):=opB0 λ_ _ _ _ _ _ _ q=>lt_int q
def op_le:OpR X (compareOp .LtE) (rI0 λi j=>.bl (decide (i<=j))):=opB0 λ_ _ _ _ _ _ _ q=>le_int q
def op_gt:OpR X (compareOp .Gt) (rI0 λi j=>.bl (decide (j<i))):=opB0 λ_ _ _ _ _ _ _ q=>gt_int q
def op_ge:OpR X (compareOp .GtE) (rI0 λi j=>.bl (decide (j<=i))):=opB0 λ_ _ _ _ _ _ _ q=>ge_int q
theorem Yg:OpR X (compareOp .Is) (λx y H Q=>y=.non/\Q (.bl (decide (x=.non))) H):=by
 intro pins s σ H x y v u Q I rx ry h;obtain ⟨rfl,q⟩:=h;cases ry;refine is_none_gen (zR I q ?_);cases x <;> first
  | (cases rx;rfl)
  | (obtain ⟨t,rfl⟩:=rx;rfl)
def zy (b:Expr) {op:CmpOp} (h:op≠.In:=by decide) (h2:op≠.NotIn:=by decide):behindInMarks op b=false:=by
 have e1:(op == CmpOp.In)=false:=by cases op <;> first | rfl | exact absurd rfl h
 have e2:(op == CmpOp.NotIn)=false:=by cases op <;> first | rfl | exact absurd rfl h2
 cases b <;> simp [behindInMarks,e1,e2]
def yD {op:CmpOp} {r:R2} (ho:OpR X (compareOp op) r) (ha:PE X a ta) (hb:PE X b tb) (hm:behindInMarks op b=false):PE X (.Compare a [op] [b] pos) (tOp r ta tb):=by
 intro pins s σ H Q I h;exact wpAny_Compare1 (binT ha hb I h λv u s2 x y H2 I2 rx ry q=>ho pins s2 σ H2 x y v u Q I2 rx ry q) hm
inductive tTest_S (Q:(Bool->Hp->Prop)) (x:V) (H':Hp):Prop
 | mk (k:_) (_:x=.bl k) (_:Q k H')
def tTest (t:TE):TT:=λσ H Q=>t σ H λx H'=>tTest_S Q x H'
def zD {op:CmpOp} {r:R2} (ho:OpR X (compareOp op) r) (ha:PE X a ta) (hb:PE X b tb) (hm:behindInMarks op b=false):PT X (.Compare a [op] [b] pos) (tTest (tOp r ta tb)):=by
 intro pins s σ H Q I h
 refine wpAny_isTrue_Compare1 (thn (ha pins s σ H _ I h) λv s1 ⟨x,H1,I1,r1,q1⟩=>thn (hb pins s1 σ H1 _ I1 q1) λu s2 ⟨y,H2,I2,r2,q2⟩ =>
  thn (ho pins s2 σ H2 x y v u _ I2 r1 r2 q2) λc s3 ⟨z,H3,I3,r3,k,e,q3⟩=>?_) hm
 subst e;cases r3;exact wpAny_truthy_bool ⟨H3,I3,q3⟩
def tChain (r r':R2) (ta tb tc:TE):TE:=λσ H Q=>ta σ H λx H1=>tb σ H1 λy H2=>r x y H2 λz H3=>∃ k,z=.bl k /\
 (if k=true then tc σ H3 λw' H4=>r' y w' H4 Q else Q (.bl false) H3)
theorem zam {op op':CmpOp} {r r':R2} (ho:OpR X (compareOp op) r) (ho':OpR X (compareOp op') r') (ha:PE X a ta) (hb:PE X b tb) (hc:PE X c tc)
  (hm:lastMarks [op,op'] [b,c]=false:=by with_unfolding_all rfl):PT X (.Compare a [op,op'] [b,c] pos) (tTest (tChain r r' ta tb tc)):=by
 intro pins s σ H Q I h
 refine isTrue_chain (thn (ha pins s σ H _ I h) λv s1 ⟨x,H1,I1,r1,q1⟩=>test_link (thn (hb pins s1 σ H1 _ I1 q1) λu s2 ⟨y,H2,I2,r2,q2⟩ =>
  thn (ho pins s2 σ H2 x y v u _ I2 r1 r2 q2) λd s3 ⟨z,H3,I3,r3,k,e,q3⟩=>?_)) hm
 subst e;cases r3;refine wpAny_truthy_bool ?_
 cases k with
 | false =>
  obtain ⟨k',e',q'⟩:=q3;cases e';exact ite_ff ⟨H3,I3,q'⟩
 | true =>
  refine ite_tt (test_last (thn (hc pins s3 σ H3 _ I3 q3) λw' s4 ⟨z',H4,I4,r4,q4⟩=>thn (ho' pins s4 σ H4 y z' u w' _ I4 r2 r4 q4) λd' s5 ⟨z2,H5,I5,r5,k2,e2,q5⟩=>?_));subst e2;cases r5;exact wpAny_truthy_bool ⟨H5,I5,q5⟩
def X2:(sizeLine:Nat)<2 ^ 63:=by rw [sizeLine_eq];decide
theorem vals1 {x:V} {us:Jd} (r:Vals [x] us):∃ u,us=[u]/\RelV x u:=by
 cases r with
 | cons r1 r2=>cases r2;exact ⟨_,rfl,r1⟩
theorem YD {x y:V} {us:Jd} (r:Vals [x,y] us):∃ u w',us=[u,w']/\RelV x u/\RelV y w':=by
 cases r with
 | cons r1 r2 =>
  cases r2 with
  | cons r3 r4=>cases r4;exact ⟨_,_,rfl,r1,r3⟩
def call_max2 (hc:X.calm=true):Zh X (.builtin "max") (λxs H Q=>∃ i j,xs=[.int i,.int j]/\Q (.int (if j > i then j else i)) H):=by
 intro pins s σ H xs us Q I r h;obtain ⟨i,j,rfl,q⟩:=h;obtain ⟨u,w',rfl,⟨t,rfl⟩,⟨t',rfl⟩⟩:=YD r;refine max_two_ints (I.ok.hd hc) λh' tk k=>⟨_,H,I.kept k,?_,q⟩;by_cases hj:j > i
 ·rw [if_pos hj,if_pos hj];exact ⟨_,rfl⟩
 ·rw [if_neg hj,if_neg hj];exact ⟨_,rfl⟩
def Zu (hc:X.calm=true):Zh X (.builtin "min") (λxs H Q=>∃ i j,xs=[.int i,.int j]/\Q (.int (if j<i then j else i)) H):=by
 intro pins s σ H xs us Q I r h;obtain ⟨i,j,rfl,q⟩:=h;obtain ⟨u,w',rfl,⟨t,rfl⟩,⟨t',rfl⟩⟩:=YD r;refine min_two_ints (I.ok.hd hc) λh' tk k=>⟨_,H,I.kept k,?_,q⟩;by_cases hj:j<i
 ·rw [if_pos hj,if_pos hj];exact ⟨_,rfl⟩
 ·rw [if_neg hj,if_neg hj];exact ⟨_,rfl⟩
end
structure ObjM (h:Heap) (x dx C:Ad) (mA:J9):Prop where
 obj:h.get? x=some (PySem.W.instObj C dx)
 ns:h.Ns1 dx mA
 ne:dx≠x
def lookIn_ns {h:Heap} {dx:Ad} {mA:J9} (n:h.Ns1 dx mA):∃ od,h.get? dx=some od/\∀ name,PySem.W.lookIn name od=some (mA name):=by
 obtain ⟨o,es,ep,ho,hd,hk,_,hm⟩:=n;refine ⟨o,ho,λname=>?_⟩;have e:=hm name;unfold nsFind findBy at e;rw [← Array.find?_toList] at e;unfold PySem.W.lookIn;rw [hd];dsimp only
 split
 ·rename_i y q
  rw [q] at e;exact congrArg some e
 ·rename_i q
  rw [q] at e
  have a:es.toList.any (·.refKey)=false:=by
   rw [List.any_eq_false];intro y hy;obtain ⟨z,t,hkey⟩:=hk y (Array.mem_toList_iff.mp hy);simp [DictEntry.refKey,hkey]
  have a':¬ es.toList.any (·.refKey)=true:=by rw [a];exact q2x
  rw [if_neg a'];exact congrArg some e
def ObjM.look {h:Heap} {x dx C:Ad} {mA:J9} (I:ObjM h x dx C mA):∃ od,PySem.W.InstAt h x (PySem.W.instObj C dx) C (some od)/\∀ name,PySem.W.lookIn name od=some (mA name) :=
 let ⟨od,ho,hl⟩:=lookIn_ns I.ns
 ⟨od,⟨I.obj,rfl,rfl,ho⟩,hl⟩
section
variable {prog:Program} {w:World} {A:Around} {E:Ja} {s:Sh} {K:Fg} {x dx C f:Ad} {mA:J9} {name:Str} {v:Vl}
def get_map {expr:Bool} {Q:Ja} (X:K.In s.heap) (I:ObjM s.heap x dx C mA) (hg:PySem.W.plainGet K C name=true) (hh:PySem.W.hasDictIn K C=true)
  (ha:PySem.W.findIn K (.ref C) name=some none) (hv:mA name=some v) (hv':PySem.W.handedIn v=true) (h:Q v { s with toks:=s.toks+1 }) :
  wpAny (model prog w) A (getAttr (.ref x) name expr) Q E s:=by
 obtain ⟨od,J,hl⟩:=I.look;exact PySem.W.get_value X J (PySem.W.plainGet_of hg).1 (PySem.W.findObj_own hh ha rfl (by rw [hl,hv])) hv' h
def get_meth {pl:Sem Bool} {Q:Vl×Jd->Sh->Prop} (X:K.In s.heap) (I:ObjM s.heap x dx C mA) (hg:PySem.W.plainGet K C name=true)
  (hf:PySem.W.findIn K (.ref C) name=some (some (.ref f))) (ht:PySem.W.isFn K (.ref f)=true) (hv:mA name=none) (h:Q (.ref f,[.ref x]) s) :
  wpAny (model prog w) A (getMethod (.ref x) name pl) Q E s:=by
 obtain ⟨od,J,hl⟩:=I.look;exact PySem.W.method_fn X J (PySem.W.plainGet_of hg).1 (PySem.W.plainGet_of hg).2 hf (beq_iff_eq.mp ht) (by show (PySem.W.lookIn name od).map (·.isSome)=some false;rw [hl,hv];rfl) h
def set_map {ns:Jf} {Q:Unit->Sh->Prop} (X:K.In s.heap) (I:ObjM s.heap x dx C mA)
  (hs:PySem.W.findIn K (.ref C) "__setattr__"=some (some (.builtin "object.__setattr__"))) (hp:PySem.W.plainOver K C=true) (ht:PySem.W.takerIn K C name=some none) (hh:PySem.W.hasDictIn K C=true)
  (hw:PySem.Within mA ns) (hsz:ns.length<=sizeLine)
  (h:∀ h',ObjM h' x dx C (λy=>if y=name then some v else mA y)->Heap.SameBut dx s.heap h'->Q () { s with heap:=h',toks:=s.toks+2 }) :
  wpAny (model prog w) A (setAttr (.ref x) name v) Q E s:=by
 obtain ⟨od,J,hl⟩:=I.look;refine PySem.W.set_plain X J hs (PySem.W.osa_open (s:={ s with toks:=s.toks+1 }) (r:=none) X J hp ht λb=>?_);obtain ⟨cd,hc,hd'⟩:=PySem.W.any_some hh;have hx:s.heap.get? x=some ⟨.ref C,some dx,.plain,#[]⟩:=I.obj;refine q0x (q0y (q0x (q0x (wpAny_loadPart hx (q0x (PySem.W.Looks.here (s:={ s with toks:=s.toks+1 }) (PySem.W.looks_clsIn X hc) ?_))))));rw [hd'];refine q0y (a:=some dx) (q0x (q0y (q0x ?_)));refine wpAny_nsSet1 (s:={ s with toks:=s.toks+1 }) I.ns λh' hn2 hs2=>?_;obtain ⟨oD,esD,epD,hoD,hdD,hcD⟩:=hn2.count (PySem.Within.cons name v hw);refine q0x (wpAny_lookBehind hoD (by rw [hdD];exact pastItsLine_dict (Nat.le_trans hcD (by rw [q3x];omega))) ?_);exact q0y (h _ ⟨(hs2.2 _ (Ne.symm I.ne)).trans I.obj,hn2,I.ne⟩ hs2)
def make_map {R:Result->Sh->Prop} {vs:Jd} {kw:List (Str×Vl)} (X:K.In s.heap) (hm:PySem.W.makesIn K C=true)
  (hi:PySem.W.findIn K (.ref C) "__init__"=some (some (.ref f))) (hf:PySem.W.typeIn K (.ref f)=some (.type "function"))
  (h:codeAny (model prog w) (A.under (.builtin "type.__call__" ⟨.ref C::vs,kw⟩)) (.call (.ref f) ⟨.ref (s.heap.objs.size+1)::vs,kw⟩) (PySem.W.InitBack (s.heap.objs.size+1) R)
   { s with heap:=(s.heap.push PySem.W.emptyDict).push (PySem.W.instObj C s.heap.objs.size) }) :
  codeAny (model prog w) A (.call (.ref C) ⟨vs,kw⟩) R s:=by
 obtain ⟨hh,g,d,t,os⟩:=s;exact PySem.W.make_core (PySem.W.makes_of X hm) (PySem.W.looks_findIn X hi) (λself=>PySem.W.bind_fn X self hf) (.inl rfl) h
end
def zL (f:Str) (v:V):List (Str×V)->List (Str×V)
 | []=>[(f,v)]
 | (g,x)::r=>if g=f then (g,v)::r else (g,x)::zL f v r
theorem Yr (f g:Str) (v:V):∀ fs:List (Str×V),(zL f v fs).lookup g=if g=f then some v else fs.lookup g
 | []=>by
  show List.lookup g [(f,v)]=_;by_cases h:g=f
  ·have hb:(g == f)=true:=beq_iff_eq.mpr h
   simp only [List.lookup,hb,if_pos h]
  ·have hb:(g == f)=false:=beq_eq_false_iff_ne.mpr h
   simp only [List.lookup,hb,if_neg h]
 | (k,x)::r=>by
  have ih:=Yr f g v r;rw [show zL f v ((k,x)::r)=(if k=f then (k,v)::r else (k,x)::zL f v r) from rfl];by_cases hk:k=f
  ·rw [if_pos hk]
   by_cases h:g=k
   ·have hb:(g == k)=true:=beq_iff_eq.mpr h
    simp only [List.lookup,hb,if_pos (h.trans hk)]
   ·have hb:(g == k)=false:=beq_eq_false_iff_ne.mpr h
    simp only [List.lookup,hb,if_neg (λe:g=f=>h (e.trans hk.symm))]
  ·rw [if_neg hk]
   by_cases h:g=k
   ·have hb:(g == k)=true:=beq_iff_eq.mpr h
    simp only [List.lookup,hb,if_neg (λe:g=f=>hk (h.symm.trans e))]
   ·have hb:(g == k)=false:=beq_eq_false_iff_ne.mpr h
    simp only [List.lookup,hb];exact ih
theorem Yk (f:Str) (v:V):∀ fs:List (Str×V),f∈(zL f v fs).map (·.1)/\∀ g,g∈fs.map (·.1)->g∈(zL f v fs).map (·.1)
 | []=>⟨by simp [zL],λg h=>by simp at h⟩
 | (k,x)::r=>by
  obtain ⟨i1,i2⟩:=Yk f v r;rw [show zL f v ((k,x)::r)=(if k=f then (k,v)::r else (k,x)::zL f v r) from rfl];by_cases hk:k=f
  ·rw [if_pos hk]
   subst hk;exact ⟨by simp,λg h=>by simpa using h⟩
  ·rw [if_neg hk]
   refine ⟨?_,λg h=>?_⟩
   ·rw [List.map_cons]
    exact q1y _ i1
   ·rw [List.map_cons] at h ⊢
    rcases List.mem_cons.mp h with e | e
    ·exact List.mem_cons.mpr (.inl e)
    ·exact q1y _ (i2 g e)
theorem Ys (f:Str) (v:V):∀ fs:List (Str×V),(zL f v fs).length<=fs.length+1
 | []=>by simp [zL]
 | (k,x)::r=>by
  have ih:=Ys f v r;rw [show zL f v ((k,x)::r)=(if k=f then (k,v)::r else (k,x)::zL f v r) from rfl];by_cases hk:k=f
  ·rw [if_pos hk,q3x,q3x];omega
  ·rw [if_neg hk,q3x,q3x];omega
theorem RelO.some_of {v:V} {o:Je} (r:RelO (some v) o):∃ u,o=some u/\RelV v u:=by
 cases o with
 | none=>exact (show False from r).elim
 | some u=>exact ⟨u,rfl,r⟩
theorem RelO.none_of {o:Je} (r:RelO none o):o=none:=by
 cases o with
 | none=>rfl
 | some u=>exact (show False from r).elim
theorem handed_of {v:V} {u:Vl} (r:RelV v u):PySem.W.handedIn u=true:=by
 cases v with
 | non=>cases (show u=Value.none from r);rfl
 | bl b=>cases (show u=Value.bool b from r);rfl
 | int i=>obtain ⟨t,e⟩:=(show ∃ t,u=Value.int i t from r);cases e;rfl
 | str x=>obtain ⟨t,e⟩:=(show ∃ t,u=Value.str x t from r);cases e;rfl
 | byt b=>obtain ⟨t,e⟩:=(show ∃ t,u=Value.bytes b t from r);cases e;rfl
 | flt b=>obtain ⟨t,e⟩:=(show ∃ t,u=Value.float b t from r);cases e;rfl
 | ref a=>cases (show u=Value.ref a from r);rfl
 | ty n=>cases (show u=Value.type n from r);rfl
section
variable {P:Program} {w:World} {H H':Hp} {h h':Heap} {a C dx:Ad} {fs fs':List (Str×V)}
def ZZ (hok:HOk P w H h) (e:H a=some (.ins C dx fs)):∃ mA,ObjM h a dx C mA/\(∀ f,RelO (fs.lookup f) (mA f))/\PySem.Within mA (fs.map (·.1))/\fs.length<=1000/\H dx=some (.own a):=by
 obtain ⟨d,z,ne,ob,mA,n,r,q⟩:=(show ObjOk P w H h a (.ins C dx fs) from hok a _ e);exact ⟨mA,⟨ob,n,ne⟩,r,q,z,d⟩
end
structure Cls (K:Fg) (C:Ad):Prop where
 pg:PySem.W.plainGet K C Str.empty=true
 hd:PySem.W.hasDictIn K C=true
 po:PySem.W.plainOver K C=true
 sa:PySem.W.findIn K (.ref C) "__setattr__"=some (some (.builtin "object.__setattr__"))
def Cls.get {K:Fg} {C:Ad} (c:Cls K C) (f:Str):PySem.W.plainGet K C f=true:=c.pg
def NoAttr (K:Fg) (C:Ad) (f:Str):Prop:=PySem.W.findIn K (.ref C) f=some none
def NoAttr.taker {K:Fg} {C:Ad} {f:Str} (n:NoAttr K C f):PySem.W.takerIn K C f=some none:=by
 unfold PySem.W.takerIn;rw [show PySem.W.findIn K (.ref C) f=some none from n];rfl
structure Con (K:Fg) (C:Ad) (f:Str) (v:V) (u:Vl):Prop where
 at_:PySem.W.findIn K (.ref C) f=some (some u)
 rel:RelV v u
 get:PySem.W.specialIn K u "__get__"=some none
 cp:PySem.W.copiedNames.contains f=false
structure Meth (K:Fg) (C:Ad) (m:Str) (f:Ad):Prop where
 at_:PySem.W.findIn K (.ref C) m=some (some (.ref f))
 fn:PySem.W.isFn K (.ref f)=true
 kp:PySem.W.keepIn K (.ref f)=true
section
variable {X:Cx} {pins:Jc} {σ:St} {H:Hp} {s:Sh} {a C dx:Ad} {fs:List (Str×V)} {f:Str} {v:V} {A:Around} {E:Ja}
def zbt {b:Bool} {Q:Ja} (I:Inv X pins σ H s) (e:H a=some (.ins C dx fs)) (c:Cls X.K C) (n:NoAttr X.K C f) (l:fs.lookup f=some v)
  (h:∀ u s',Inv X pins σ H s'->RelV v u->Q u s'):wpAny (model X.prog X.w) A (getAttr (.ref a) f b) Q E s:=by
 obtain ⟨mA,O,r,_,_,_⟩:=ZZ I.hok e;obtain ⟨u,hu,ru⟩:=RelO.some_of (v:=v) (o:=mA f) (by rw [← l];exact r f);exact get_map I.kIn O (c.get f) c.hd n hu (handed_of ru) (h u _ (I.tok _) ru)
def Y3 {m:Str} {g:Ad} {pl:Sem Bool} {Q:Vl×Jd->Sh->Prop} (I:Inv X pins σ H s) (e:H a=some (.ins C dx fs)) (c:Cls X.K C) (k:Meth X.K C m g) (l:fs.lookup m=none)
  (h:Q (.ref g,[.ref a]) s):wpAny (model X.prog X.w) A (getMethod (.ref a) m pl) Q E s:=by
 obtain ⟨mA,O,r,_,_,_⟩:=ZZ I.hok e;have hn:mA m=none:=RelO.none_of (by rw [← l];exact r m);exact get_meth I.kIn O (c.get m) k.at_ k.fn hn h
def zbh {y:V} {u:Vl} {Q:Unit->Sh->Prop} (I:Inv X pins σ H s) (e:H a=some (.ins C dx fs)) (c:Cls X.K C) (n:NoAttr X.K C f) (hl:fs.length<1000) (ry:RelV y u)
  (h:∀ s',Inv X pins σ (upd H a (.ins C dx (zL f y fs))) s'->Q () s'):wpAny (model X.prog X.w) A (setAttr (.ref a) f u) Q E s:=by
 obtain ⟨mA,O,r,wi,_,ho⟩:=ZZ I.hok e;have hz:(fs.map (·.1)).length<=sizeLine:=by rw [Ji,sizeLine_eq];omega
 refine set_map I.kIn O c.sa c.po n.taker c.hd wi hz λh' O' sb=>h _ ?_;have hd:∃ o,h'.get? dx=some o:=let ⟨o,_,_,e',_⟩:=O'.ns;⟨o,e'⟩;refine I.write (x:=a) (e:=dx) (by rw [e];exact True.intro) (.inr ho) (λb q hb z=>(sb.2 b hb).trans z) hd ?_;refine ⟨by rw [zk O.ne];exact ho,?_,O.ne,O'.obj,_,O'.ns,λg=>?_,λg hg=>?_⟩
 ·have:=Ys f y fs;omega
 ·show RelO ((zL f y fs).lookup g) (if g=f then some u else mA g)
  rw [Yr];by_cases q:g=f
  ·rw [if_pos q,if_pos q];exact ry
  ·rw [if_neg q,if_neg q];exact r g
 ·by_cases q:g=f
  ·rw [q];exact (Yk f y fs).1
  ·refine (Yk f y fs).2 g (wi g λz=>hg ?_)
   show (if g=f then some u else mA g)=none;rw [if_neg q];exact z
def Inv.made (I:Inv X pins σ H s):Inv X pins σ (upd (upd H s.heap.objs.size (.own (s.heap.objs.size+1))) (s.heap.objs.size+1) (.ins C s.heap.objs.size []))
  { s with heap:=(s.heap.push PySem.W.emptyDict).push (PySem.W.instObj C s.heap.objs.size) }:=by
 have e1:(s.heap.push PySem.W.emptyDict).get? s.heap.objs.size=some PySem.W.emptyDict:=Heap.get?_push_size s.heap rfl
 have e2:((s.heap.push PySem.W.emptyDict).push (PySem.W.instObj C s.heap.objs.size)).get? (s.heap.objs.size+1)=some (PySem.W.instObj C s.heap.objs.size):=by
  have:=Heap.get?_push_size (s.heap.push PySem.W.emptyDict) (o:=PySem.W.instObj C s.heap.objs.size) rfl
  rwa [Heap.size_push] at this
 have e3:(s.heap.push PySem.W.emptyDict).Ns s.heap.objs.size (λ_=>none):=⟨PySem.W.emptyDict,#[],_,e1,rfl,(λe he=>absurd he (by simp)),λ_=>rfl⟩;have I1:=I.laid (a:=s.heap.objs.size) (o:=.own (s.heap.objs.size+1)) (h':=s.heap.push PySem.W.emptyDict) (t':=s.toks) (λb u q=>Heap.get?_push_of_some _ q) (Nat.le_refl _) ⟨_,e1⟩;refine I1.laid (a:=s.heap.objs.size+1) (o:=.ins C s.heap.objs.size []) (t':=s.toks) (λb u q=>Heap.get?_push_of_some _ q) (Nat.le_of_eq (Heap.size_push _ _)) ?_;have ne:s.heap.objs.size≠s.heap.objs.size+1:=Nat.ne_of_lt (Nat.lt_succ_self _);refine ⟨by rw [zk ne,zf],Nat.zero_le _,ne,e2,λ_=>none,(Heap.Ns1.of_empty e3).at λo q=>Heap.get?_push_of_some _ q,λ_=>True.intro,λy hy=>absurd rfl hy⟩
def attr_of {prog:Program} {w:World} {env:Env} {e:Expr} {f:Str} {pos:Pos} {s:Sh} {Q:Ja} (hb:attributeBase e f env (eval e env)=eval e env)
  (h:wpAny (model prog w) A (eval e env) (λo s₁=>wpAny (model prog w) A (getAttr o f true) Q E s₁) E s):wpAny (model prog w) A (eval (.Attribute e f pos) env) Q E s :=
 Attribute_any_ h (by rw [arm_eval_Attribute,hb])
end
inductive tFld_S (K:Fg) (f:Str) (Q:VK) (x:V) (H1:Hp):Prop
 | mk (a C:_) (dx fs v:_) (_:x=.ref a) (_:H1 a=some (.ins C dx fs)) (_:Cls K C) (_:NoAttr K C f) (_:fs.lookup f=some v) (_:Q v H1)
def tFld (K:Fg) (ta:TE) (f:Str):TE:=λσ H Q=>ta σ H λx H1=>tFld_S K f Q x H1
inductive sFld_S (K:Fg) (f:Str) (D:Ends) (σ:St) (y x:V) (H2:Hp):Prop
 | mk (a C:_) (dx fs:_) (_:x=.ref a) (_:H2 a=some (.ins C dx fs)) (_:Cls K C) (_:NoAttr K C f) (_:fs.length<1000) (_:D.nx σ (upd H2 a (.ins C dx (zL f y fs))))
def sFld (K:Fg) (ta tv:TE) (f:Str):TS:=λD σ H=>tv σ H λy H1=>ta σ H1 λx H2=>sFld_S K f D σ y x H2
section
variable {X:Cx} {o e value:Expr} {f:Str} {pos pos' tpos:Pos} {ta tv:TE}
def zu (he:PE X e ta) (hb:attributeBase e f X.env (eval e X.env)=eval e X.env):PE X (.Attribute e f pos) (tFld X.K ta f):=by
 intro pins s σ H Q I h;refine attr_of hb (thn (he pins s σ H _ I h) λu s1 ⟨x,H1,I1,rx,a,C,dx,fs,v,ex,ea,c,n,l,q⟩=>?_);subst ex;obtain rfl:u=Value.ref a:=rx;exact zbt I1 ea c n l λu' s2 I2 ru=>⟨v,H1,I2,ru,q⟩
def zJ (ha:PE X o ta) (hv:PE X value tv) (hs:swapsWith value (some (.Attribute o f pos')) pos.line X.env=pure false):PS X (.Assign [.Attribute o f pos'] value pos) (sFld X.K ta tv f):=by
 intro pins s σ H D I h;refine plainObj_wpAny_Assign_Attribute (thn (hv pins s σ H _ I h) λu s1 ⟨y,H1,I1,ry,q⟩=>thn (ha pins s1 σ H1 _ I1 q) λov s2 ⟨x,H2,I2,rx,a,C,dx,fs,ex,ea,c,n,l,q2⟩=>?_) hs;subst ex;obtain rfl:ov=Value.ref a:=rx;exact zbh I2 ea c n l ry λs3 I3=>⟨σ,_,I3,q2⟩
end
section
variable {X:Cx} {pins:Jc} {σ:St} {H:Hp} {s:Sh} {A:Around} {E:Ja} {Q:Ja} {c:Vl} {b:Bool}
inductive TyOf (K:Fg) (H:Hp):V->Vl->Prop where
 | non:TyOf K H .non (.type "NoneType")
 | bl (x:Bool):TyOf K H (.bl x) (.type "bool")
 | int (i:Int):TyOf K H (.int i) (.type "int")
 | str (x:Str):TyOf K H (.str x) (.type "str")
 | flt (x:UInt64):TyOf K H (.flt x) (.type "float")
 | lst {a:Ad} {xs:Jn} (e:H a=some (.lst xs)):TyOf K H (.ref a) (.type "list")
 | frz {a:Ad} {o:Obj} {xs:Jn} (e:H a=some (.frz o (.lst xs))):TyOf K H (.ref a) (.type "list")
 | tup {a:Ad} {xs:Jn} (e:H a=some (.tup xs)):TyOf K H (.ref a) (.type "tuple")
 | dK {a:Ad} {kvs:Jl} (e:H a=some (.dK kvs)):TyOf K H (.ref a) (.type "dict")
 | dT {a:Ad} {kvs:List (List Key×V)} (e:H a=some (.dT kvs)):TyOf K H (.ref a) (.type "dict")
 | ins {a C dx:Ad} {fs:List (Str×V)} (e:H a=some (.ins C dx fs)) (cl:Cls K C) (ha:PySem.W.findIn K (.ref C) "__class__"=some (some (.builtin "object.__class__")))
   (hn:PySem.W.specialIn K (.builtin "object.__class__") "__get__"=some (some (.builtin "getset_descriptor.__get__"))) (htk:PySem.W.takesIn K (.builtin "object.__class__")=some true)
   (hm:PySem.W.mroIn K C (.type "object")=some true):TyOf K H (.ref a) (.ref C)
theorem isinst_ok {x:V} {u t:Vl} (I:Inv X pins σ H s) (rx:RelV x u) (ty:TyOf X.K H x t) (e:PySem.W.kitOne X.K t c=some b) (h:∀ tk,Q (.bool b) { s with toks:=tk }) :
  wpAny (model X.prog X.w) A (call (.builtin "isinstance") [u,c]) Q E s:=by
 cases ty with
 | non=>cases (show u=Value.none from rx);exact PySem.W.kia_one PySem.W.kitx_none I.kIn True.intro e (λz=>nomatch z) h
 | bl y=>cases (show u=Value.bool y from rx);exact PySem.W.kia_one PySem.W.kitx_bool I.kIn True.intro e (λz=>nomatch z) h
 | int i=>obtain ⟨t,q⟩:=(show ∃ t,u=Value.int i t from rx);cases q;exact PySem.W.kia_one PySem.W.kitx_int I.kIn True.intro e (λz=>nomatch z) h
 | str y=>obtain ⟨t,q⟩:=(show ∃ t,u=Value.str y t from rx);cases q;exact PySem.W.kia_one PySem.W.kitx_str I.kIn True.intro e (λz=>nomatch z) h
 | flt y=>obtain ⟨t,q⟩:=(show ∃ t,u=Value.float y t from rx);cases q;exact PySem.W.kia_one PySem.W.kitx_float I.kIn True.intro e (λz=>nomatch z) h
 | @lst a xs ea =>
  cases (show u=Value.ref a from rx);obtain ⟨_,_,n,_,h1⟩:=(show ObjOk X.prog X.w H s.heap a (.lst xs) from I.hok a _ ea);exact PySem.W.kia_one PySem.W.kitx_list I.kIn ⟨_,h1,rfl⟩ e (λz=>nomatch z) h
 | @frz a ob xs ea =>
  cases (show u=Value.ref a from rx);obtain ⟨_,_,_,n,_,h1⟩:=(show ObjOk X.prog X.w H s.heap a (.frz ob (.lst xs)) from I.hok a _ ea);exact PySem.W.kia_one PySem.W.kitx_list I.kIn ⟨_,h1,rfl⟩ e (λz=>nomatch z) h
 | @tup a xs ea =>
  cases (show u=Value.ref a from rx);obtain ⟨_,_,_,p⟩:=(show ObjOk X.prog X.w H s.heap a (.tup xs) from I.hok a _ ea);obtain ⟨o,h1,h2,_⟩:=p;exact PySem.W.kia_one PySem.W.kitx_tuple I.kIn ⟨o,h1,h2⟩ e (λz=>nomatch z) h
 | @dK a kvs ea =>
  cases (show u=Value.ref a from rx);obtain ⟨_,_,vs,_,p⟩:=(show ObjOk X.prog X.w H s.heap a (.dK kvs) from I.hok a _ ea);obtain ⟨o,es,ep,h1,h2,_⟩:=p;exact PySem.W.kia_one PySem.W.kitx_dict I.kIn ⟨o,h1,h2.1⟩ e (λz=>nomatch z) h
 | @dT a kvs ea =>
  cases (show u=Value.ref a from rx);obtain ⟨_,_,xs,_,o,es,ep,h1,h2,_⟩:=(show ObjOk X.prog X.w H s.heap a (.dT kvs) from I.hok a _ ea);exact PySem.W.kia_one PySem.W.kitx_dict I.kIn ⟨o,h1,h2.1⟩ e (λz=>nomatch z) h
 | @ins a C dx fs ea cl ha hn htk hm =>
  cases (show u=Value.ref a from rx);obtain ⟨mA,O,_⟩:=ZZ I.hok ea;obtain ⟨od,J,_⟩:=O.look;exact PySem.W.kia_one (PySem.W.kitx_own (cl.get _) cl.hd ha hn htk hm) I.kIn J e (λz=>nomatch z) h
end
structure Room (k:Nat) (A:Around):Prop where
 hd:A.handled=none
 dp:A.depth+3*k+5<recursionLimit
 un:A.units+16*k+200<cLine
def Room.mono {j k:Nat} {A:Around} (r:Room k A) (h:j<=k):Room j A:=⟨r.hd,by have:=r.dp;omega,by have:=r.un;omega⟩
def Room.deeper {k:Nat} {A:Around} (r:Room (k+1) A) (env:Env):Room k (A.deeper env) :=
 ⟨r.hd,by have:=r.dp;show A.depth+1+3*k+5<_;omega,by have:=r.un;show A.units+3+16*k+200<_;omega⟩
def zbr {A:Around} {C:Ad} {us:Jd} {kw:List (Str×Vl)}:(A.under (.builtin "type.__call__" ⟨.ref C::us,kw⟩)).depth=A.depth+1:=by
 first | rfl | simp [Around.under,Code.weight,Code.isCreation,Code.isGuard,Code.isCaller,Code.frames,Code.isFrame,guardIds]
def zbq {A:Around} {C:Ad} {us:Jd} {kw:List (Str×Vl)}:(A.under (.builtin "type.__call__" ⟨.ref C::us,kw⟩)).units=A.units+1:=by
 first | rfl | simp [Around.under,Code.cUnits,Code.frames,Code.isFrame]
def Room.make {k:Nat} {A:Around} (r:Room (k+1) A) (C:Ad) (us:Jd) (kw:List (Str×Vl)):Room k (A.under (.builtin "type.__call__" ⟨.ref C::us,kw⟩)) :=
 ⟨r.hd,by have:=r.dp;rw [zbr];omega,by have:=r.un;rw [zbq];omega⟩
def Room.depth {k:Nat} {A:Around} (r:Room k A):A.depth<recursionLimit:=by have:=r.dp;omega
def Room.units {k:Nat} {A:Around} (r:Room k A):A.units+64<cLine:=by have:=r.un;omega
def tNil:TA:=λ_ H Q=>Q [] H
def tCons (ta:TE) (tr:TA):TA:=λσ H Q=>ta σ H λx H1=>tr σ H1 λxs H2=>Q (x::xs) H2
section
variable {X:Cx} {e:Expr} {es:Jh} {te:TE} {t:TA} {pos:Pos}
def ze:PA X [] tNil:=λ_ _ _ _ H Q I h=>Calls.spliced_nil ⟨[],H,I,.nil,h⟩
def zb (ha:PE X e te) (hr:PA X es t) (hs:starEach (e::es) X.env=(false,eval e X.env)::starEach es X.env:=by rfl):PA X (e::es) (tCons te t):=by
 intro pos pins s σ H Q I h;rw [hs];show wpAny _ _ (spliced ((false,eval e X.env)::backTo pos (starEach es X.env))) _ _ s;refine Calls.spliced_cons (thn (ha pins s σ H _ I h) λu s1 ⟨x,H1,I1,r1,q1⟩=>?_);exact thn (hr pos pins s1 σ H1 _ I1 q1) λus s2 ⟨xs,H2,I2,r2,q2⟩=>⟨x::xs,H2,I2,.cons r1 r2,q2⟩
def tTup (t:TA):TE:=λσ H Q=>t σ H λxs H1=>xs.length<=sizeLine/\∀ p,H1 p=none->Q (.ref p) (upd H1 p (.tup xs))
def tLst (t:TA):TE:=λσ H Q=>t σ H λxs H1=>xs.length<=sizeLine/\∀ p,H1 p=none->Q (.ref p) (upd H1 p (.lst xs))
def yt {x1} (h:PA X es t):PE X (.Tuple es x1 pos) (tTup t):=by
 intro pins s σ H Q I hq;refine wpAny_Tuple_spliced (thn (h pos pins s σ H _ I hq) λus s1 ⟨xs,H1,I1,r,z,q⟩=>⟨by rw [← r.length];exact z,?_⟩);have hf:H1 s1.heap.objs.size=none:=I1.hok.fresh (Nat.le_refl _);refine ⟨.ref s1.heap.objs.size,upd H1 s1.heap.objs.size (.tup xs),I1.laid (t':=s1.toks) (λb u e=>Heap.get?_push_of_some _ e) (Nat.le_refl _) ?_,rfl,q _ hf⟩;exact ⟨z,us,r,⟨_,Heap.get?_push_size _ rfl,rfl,_,rfl⟩⟩
def yu (h:PA X es t):PE X (.List es pos) (tLst t):=by
 intro pins s σ H Q I hq;refine wpAny_List_spliced (thn (h pos pins s σ H _ I hq) λus s1 ⟨xs,H1,I1,r,z,q⟩=>⟨by rw [← r.length];exact z,?_⟩);have hf:H1 s1.heap.objs.size=none:=I1.hok.fresh (Nat.le_refl _);refine ⟨.ref s1.heap.objs.size,upd H1 s1.heap.objs.size (.lst xs),I1.laid (t':=s1.toks) (λb u e=>Heap.get?_push_of_some _ e) (Nat.le_refl _) ?_,rfl,q _ hf⟩;exact ⟨z,us,0,r,Heap.get?_push_size _ rfl⟩
end
abbrev Sp:=Jn->Hp->VK->XK->Prop
abbrev CXT:=List Env->Hp->Sh->XK->Ja
structure Env0 (P:Program) (w:World) (K:Fg) (mg:J9) (base:Heap) (A:Around) (outer:List Env) (s:Sh) (H:Hp):Prop where
 frames:A.frames=some outer
 mod:Mod K mg base
 bs:∀ b o,base.get? b=some o->s.heap.get? b=some o/\H b=none
 bsz:base.objs.size<=s.heap.objs.size
 funs:s.heap.FunFrames base outer
 frf:∀ b∈frs outer,H b=none
 hok:HOk P w H s.heap
 bare:AllBare s.gens
def CE (outer:List Env) (P:Program) (w:World) (H:Hp) (s:Sh) (Q:VK) (u:Vl) (s':Sh):Prop :=
 ∃ v H',s'.os=s.os/\AllBare s'.gens/\Un (frs outer) [] H H' s.heap s'.heap/\HOk P w H' s'.heap/\RelV v u/\Q v H'
def CR (CX:CXT) (outer:List Env) (P:Program) (w:World) (H:Hp) (s:Sh) (Q:VK) (E:XK) (r:Result) (s':Sh):Prop :=
 match r with
 | .ok (.ret u)=>CE outer P w H s Q u s'
 | .ok _=>False
 | .error e=>CX outer H s E e s'
structure FnOk (P:Program) (w:World) (K:Fg) (mg:J9) (base:Heap) (CX:CXT) (k:Nat) (f:Ad) (fd:FuncData) (ps:Jf) (sp:Sp):Prop where
 len:∀ vs H Q E,sp vs H Q E->vs.length=ps.length
 run:∀ (A:Around) (outer:List Env) (s:Sh) (H:Hp) (args:Args) (us:Jd) (vs:Jn) (Q:VK) (E:XK),Room k A->Env0 P w K mg base A outer s H->BindsTo s fd args (ps.zip us)->Vals vs us->sp vs H Q E ->
  codeAny (model P w) A (.call (.ref f) args) (CR CX outer P w H s Q E) s
def FnOk.mono {P:Program} {w:World} {K:Fg} {mg:J9} {base:Heap} {CX:CXT} {j k:Nat} {f:Ad} {fd:FuncData} {ps:Jf} {sp:Sp} (F:FnOk P w K mg base CX j f fd ps sp) (h:j<=k) :
  FnOk P w K mg base CX k f fd ps sp:=⟨F.len,λA outer s H args us vs Q E hr=>F.run A outer s H args us vs Q E (hr.mono h)⟩
def Env0.make {P:Program} {w:World} {K:Fg} {mg:J9} {base:Heap} {A:Around} {outer:List Env} {s:Sh} {H:Hp} (e:Env0 P w K mg base A outer s H) (C:Ad) (us:Jd) (kw:List (Str×Vl)) :
  Env0 P w K mg base (A.under (.builtin "type.__call__" ⟨.ref C::us,kw⟩)) outer s H:=⟨by first | exact e.frames | (simpa [Around.under,Code.envs,Code.isFrame,pushEnvs] using e.frames),e.mod,e.bs,e.bsz,e.funs,e.frf,e.hok,e.bare⟩
section
variable {X:Cx} {pins:Jc} {σ:St} {H:Hp} {s s':Sh}
def Inv.env0 (I:Inv X pins σ H s):Env0 X.prog X.w X.K X.mg X.base X.A X.stack s H :=
 ⟨I.ok.frames,I.ok.mod,I.bs,Nat.le_trans I.ok.bsz I.sz,I.stack,I.stkFree,I.hok,I.bare⟩
def Inv.after {Q:VK} {u:Vl} (I:Inv X pins σ H s) (h:CE X.stack X.prog X.w H s Q u s'):EP X pins σ Q u s':=by
 obtain ⟨v,H',os,bare,un,hok,r,q⟩:=h;obtain ⟨hh,g,d,t,os'⟩:=s';obtain rfl:os'=s.os:=os;exact ⟨v,H',I.call (h':=hh) (g':=g) (d':=d) (t':=t) (ch:=[]) un hok bare (λb z=>absurd z (by simp)),r,q⟩
end
def tCall (sp:Sp) (dvs:Jn) (E:XK) (t:TA):TE:=λσ H Q=>t σ H λvs H1=>sp (vs++dvs) H1 Q E
inductive tMeth_S (C:Ad) (m:Str) (sp:Sp) (dvs:Jn) (E:XK) (t:TA) (σ:St) (Q:VK) (x:V) (H1:Hp):Prop
 | mk (a dx fs:_) (_:x=.ref a) (_:H1 a=some (.ins C dx fs)) (_:fs.lookup m=none) (_:t σ H1 λvs H2=>sp (x::(vs++dvs)) H2 Q E)
def tMeth (C:Ad) (m:Str) (sp:Sp) (dvs:Jn) (E:XK) (ta:TE) (t:TA):TE:=λσ H Q=>ta σ H λx H1=>tMeth_S C m sp dvs E t σ Q x H1
def tMake (C:Ad) (sp:Sp) (dvs:Jn) (E:XK) (t:TA):TE:=λσ H Q=>t σ H λvs H1=>∀ x dx,H1 x=none->H1 dx=none->dx≠x ->
 sp (.ref x::(vs++dvs)) (upd (upd H1 dx (.own x)) x (.ins C dx [])) (λv H2=>v=.non/\Q (.ref x) H2) E
def Binds (K:Fg) (fd:FuncData) (ps:Jf) (ds:Jd):Prop :=
 ∀ (s:Sh) (us:Jd),K.In s.heap->(us++ds).length=ps.length->BindsTo s fd ⟨us,[]⟩ (ps.zip (us++ds))
def Binds.all {K:Fg} {fd:FuncData} {ps:Jf} (h:∀ us:Jd,us.length=ps.length->bindArgs fd ⟨us,[]⟩=pure (ps.zip us)):Binds K fd ps []:=λs us _ hl=>by
 rw [q3y] at hl ⊢;exact .of_eq (h us hl)
def xl (CX:CXT) (X:Cx) (E:XK):Prop:=∀ (pins:Jc) (σ:St) (H:Hp) (s:Sh) (e:Vl) (s':Sh),Inv X pins σ H s->CX X.stack H s E e s'->X.xe e s'
section
variable {X:Cx} {CX:CXT} {k:Nat} {f C:Ad} {fd:FuncData} {ps:Jf} {sp:Sp} {dvs:Jn} {ds:Jd} {E:XK} {x m:Str} {p pos apos:Pos} {e o:Expr} {es:Jh} {ta:TE} {t:TA}
theorem XS {pins:Jc} {σ:St} {H:Hp} {s:Sh} {Q:VK} {us:Jd} {vs:Jn} (F:FnOk X.prog X.w X.K X.mg X.base CX k f fd ps sp) (hr:Room k X.A) (hb:Binds X.K fd ps ds) (hd:Vals dvs ds) (hx:xl CX X E)
  (I:Inv X pins σ H s) (r:Vals vs us) (h:sp (vs++dvs) H Q E):wpAny (model X.prog X.w) X.A (call (.ref f) us) (EP X pins σ Q) X.xe s:=by
 have r2:Vals (vs++dvs) (us++ds):=r.append hd;have hl:(us++ds).length=ps.length:=by rw [← r2.length];exact F.len _ _ _ _ h
 refine wpAny_call (codeAny_mono (F.run X.A X.stack s H ⟨us,[]⟩ (us++ds) (vs++dvs) Q E hr I.env0 (hb s us I.kIn hl) r2 h) λr s' hq=>?_)
 cases r with
 | error e=>exact hx pins σ H s e s' I hq
 | ok fl =>
  cases fl with
  | ret u=>exact I.after hq
  | next=>exact False.elim hq
  | brk=>exact False.elim hq
  | cont=>exact False.elim hq
def pe_call (F:FnOk X.prog X.w X.K X.mg X.base CX k f fd ps sp) (hr:Room k X.A) (hg:Gl X x) (hm:X.mg x=some (.ref f)) (hk:PySem.W.keepIn X.K (.ref f)=true) (hb:Binds X.K fd ps ds) (hd:Vals dvs ds) (hx:xl CX X E)
  (ha:PA X (e::es) t) (hdb:(x == ("__debug__":Str))=false:=by decide) (he:starEach (e::es) X.env=(false,eval e X.env)::starEach es X.env:=by rfl) (hpl:(backTo pos (starEach es X.env)).any (·.1)=false:=by rfl) :
  PE X (.Call (.Name x p) (e::es) [] pos) (tCall sp dvs E t):=by
 intro pins s σ H Q I h;refine wpAny_Call_Name_kw (X3 I hg hm ?_ hdb);refine PySem.W.callWith_K (h₀:=X.base) I.ok.mod.kin hk (thn (ha pos pins s σ H _ I h) λus s1 ⟨vs,H1,I1,r,q⟩=>⟨I1.kIn,?_⟩) he hpl;exact XS F hr hb hd hx I1 r q
def pe_meth {pl:Sem Bool} (he:PE X o ta) (c:Cls X.K C) (hm:Meth X.K C m f) (F:FnOk X.prog X.w X.K X.mg X.base CX k f fd ps sp) (hr:Room k X.A) (hb:Binds X.K fd ps ds) (hd:Vals dvs ds) (hx:xl CX X E) (ha:PA X (e::es) t)
  (hst:starEach (e::es) X.env=(false,eval e X.env)::starEach es X.env:=by rfl) (hpl:(backTo pos (starEach es X.env)).any (·.1)=false:=by rfl)
  (ht:eval (.Call (.Attribute o m apos) (e::es) [] pos) X.env=(do
   let ov ← eval o X.env
   standAt apos.atName
   let (f,first) ← holding [ov] (getMethod ov m pl)
   callWith pos f first (backTo pos (starEach (e::es) X.env)) (backToKw pos (keywordEach [] X.env))):=by rfl) :
  PE X (.Call (.Attribute o m apos) (e::es) [] pos) (tMeth C m sp dvs E ta t):=by
 intro pins s σ H Q I h;refine PySem.W.methodCall_KW (pl:=pl) (thn (he pins s σ H _ I h) λu s1 ⟨x,H1,I1,rx,a,dx,fs,ex,ea,l,q⟩=>?_) ht;subst ex;obtain rfl:u=Value.ref a:=rx;refine Y3 I1 ea c hm l ?_;refine PySem.W.callWith_K (first:=[.ref a]) (h₀:=X.base) I.ok.mod.kin hm.kp (thn (ha pos pins s1 σ H1 _ I1 q) λus s2 ⟨vs,H2,I2,r,q2⟩=>⟨I2.kIn,?_⟩) hst hpl;exact XS (us:=.ref a::us) (vs:=.ref a::vs) F hr hb hd hx I2 (.cons rfl r) q2
def pe_meth0 {pl:Sem Bool} (he:PE X o ta) (c:Cls X.K C) (hm:Meth X.K C m f) (F:FnOk X.prog X.w X.K X.mg X.base CX k f fd ps sp) (hr:Room k X.A) (hb:Binds X.K fd ps ds) (hd:Vals dvs ds) (hx:xl CX X E)
  (ht:eval (.Call (.Attribute o m apos) [] [] pos) X.env=(do
   let ov ← eval o X.env
   standAt apos.atName
   let (f,first) ← holding [ov] (getMethod ov m pl)
   callWith pos f first (backTo pos (starEach [] X.env)) (backToKw pos (keywordEach [] X.env))):=by rfl) :
  PE X (.Call (.Attribute o m apos) [] [] pos) (tMeth C m sp dvs E ta tNil):=by
 intro pins s σ H Q I h;refine PySem.W.methodCall_KW (pl:=pl) (thn (he pins s σ H _ I h) λu s1 ⟨x,H1,I1,rx,a,dx,fs,ex,ea,l,q⟩=>?_) ht;subst ex;obtain rfl:u=Value.ref a:=rx;refine Y3 I1 ea c hm l ?_;exact PySem.W.callWith_K0 (first:=[.ref a]) I1.kIn hm.kp (XS (us:=[.ref a]) (vs:=[.ref a]) F hr hb hd hx I1 (.cons rfl .nil) q)
structure Mk (K:Fg) (C f:Ad):Prop where
 makes:PySem.W.makesIn K C=true
 init:PySem.W.findIn K (.ref C) "__init__"=some (some (.ref f))
 fn:PySem.W.isFn K (.ref f)=true
 kp:PySem.W.keepIn K (.ref C)=true
theorem run_make {pins:Jc} {σ:St} {H:Hp} {s:Sh} {Q:VK} {us:Jd} {vs:Jn} (M:Mk X.K C f) (F:FnOk X.prog X.w X.K X.mg X.base CX k f fd ps sp) (hr:Room (k+1) X.A) (hb:Binds X.K fd ps ds) (hd:Vals dvs ds)
  (hx:xl CX X E) (I:Inv X pins σ H s) (r:Vals vs us)
  (h:∀ x dx,H x=none->H dx=none->dx≠x->sp (.ref x::(vs++dvs)) (upd (upd H dx (.own x)) x (.ins C dx [])) (λv H2=>v=.non/\Q (.ref x) H2) E) :
  wpAny (model X.prog X.w) X.A (call (.ref C) us) (EP X pins σ Q) X.xe s:=by
 have hq:=h (s.heap.objs.size+1) s.heap.objs.size (I.hok.fresh (Nat.le_succ _)) (I.hok.fresh (Nat.le_refl _)) (Nat.ne_of_lt (Nat.lt_succ_self _));have I2:=Inv.made (C:=C) I;have r2:Vals (V.ref (s.heap.objs.size+1)::(vs++dvs)) (Value.ref (s.heap.objs.size+1)::(us++ds)):=.cons rfl (r.append hd)
 have hl:(Value.ref (s.heap.objs.size+1)::us++ds).length=ps.length:=by
  have e:=r2.length;rw [F.len _ _ _ _ hq] at e;exact e.symm
 refine wpAny_call (make_map (f:=f) I.kIn M.makes M.init (beq_iff_eq.mp M.fn) (codeAny_mono (F.run _ X.stack _ _ ⟨Value.ref (s.heap.objs.size+1)::us,[]⟩ (Value.ref (s.heap.objs.size+1)::(us++ds)) _ _ E (hr.make C us [])
  (I2.env0.make C us []) (hb _ (Value.ref (s.heap.objs.size+1)::us) I2.kIn hl) r2 hq) λr s' hq'=>?_))
 cases r with
 | error e=>exact hx pins σ _ _ e s' I2 hq'
 | ok fl =>
  cases fl with
  | ret u =>
   obtain ⟨v,H',I3,rv,ev,q3⟩:=I2.after hq';subst ev;exact ⟨rv,⟨V.ref (s.heap.objs.size+1),H',I3,rfl,q3⟩⟩
  | next=>exact False.elim hq'
  | brk=>exact False.elim hq'
  | cont=>exact False.elim hq'
def pe_make (M:Mk X.K C f) (F:FnOk X.prog X.w X.K X.mg X.base CX k f fd ps sp) (hr:Room (k+1) X.A) (hg:Gl X x) (hm:X.mg x=some (.ref C)) (hb:Binds X.K fd ps ds) (hd:Vals dvs ds) (hx:xl CX X E)
  (ha:PA X (e::es) t) (hdb:(x == ("__debug__":Str))=false:=by decide) (he:starEach (e::es) X.env=(false,eval e X.env)::starEach es X.env:=by rfl) (hpl:(backTo pos (starEach es X.env)).any (·.1)=false:=by rfl) :
  PE X (.Call (.Name x p) (e::es) [] pos) (tMake C sp dvs E t):=by
 intro pins s σ H Q I h;refine wpAny_Call_Name_kw (X3 I hg hm ?_ hdb);refine PySem.W.callWith_K (h₀:=X.base) I.ok.mod.kin M.kp (thn (ha pos pins s σ H _ I h) λus s1 ⟨vs,H1,I1,r,q⟩=>⟨I1.kIn,?_⟩) he hpl;exact run_make M F hr hb hd hx I1 r q
end
section
variable {X:Cx} {CX:CXT} {k:Nat} {f C:Ad} {fd:FuncData} {ps ks:Jf} {sp:Sp} {E:XK} {x m:Str} {p pos apos kpos:Pos} {e o:Expr} {es:Jh} {kws:List Keyword} {te ta:TE} {t tk:TA} {nm:Option Str}
structure KBinds (K:Fg) (fd:FuncData) (ps ks:Jf) (g:Jd->Jd->Jd) (gV:Jn->Jn->Jn):Prop where
 to:∀ (s:Sh) (us ws:Jd),K.In s.heap->(g us ws).length=ps.length->BindsTo s fd ⟨us,ks.zip ws⟩ (ps.zip (g us ws))
 rel:∀ {vs:Jn} {us:Jd} {zs:Jn} {ws:Jd},Vals vs us->Vals zs ws->Vals (gV vs zs) (g us ws)
variable {g:Jd->Jd->Jd} {gV:Jn->Jn->Jn}
end
structure FnScope (N P:Jf) (sc:Scope):Prop where
 kind:sc.kind=.function
 co:sc.isCoroutine=false
 gen:sc.isGenerator=false
 nd:N.Nodup
 pre:N.take P.length=P
 par:∀ x∈P,sc.names.lookup x=some .local∨sc.names.lookup x=some .cell
 nofree:∀ y∈sc.names,y.2≠.free
theorem XE {kindOf:Str->Option NameKind} {x:Str}:∀ {binds:List (Str×Vl)} {m:J9},(∀ v,(x,v) ∉ binds)->bindL kindOf binds m x=m x
 | [],_,_=>rfl
 | (n,v)::r,m,h=>by
  unfold bindL;rw [XE λw hw=>h w (q1y _ hw)]
  split
  ·have:x≠n:=by rintro rfl;exact h v q1z
   simp [this]
  ·rfl
theorem XG {kindOf:Str->Option NameKind} {x:Str}:∀ {binds:List (Str×Vl)} {m:J9},(∀ v,(x,v) ∉ binds)->bindC kindOf binds m x=m x
 | [],_,_=>rfl
 | (n,v)::r,m,h=>by
  unfold bindC;rw [XG λw hw=>h w (q1y _ hw)]
  split
  ·rfl
  ·have:x≠n:=by rintro rfl;exact h v q1z
   simp [this]
theorem XF {kindOf:Str->Option NameKind} {x:Str} {v:Vl}:∀ {P:Jf} {vs:Jd} {i:Nat} {m:J9},P.Nodup->P[i]?=some x->vs[i]?=some v->kindOf x=some .local ->
  bindL kindOf (P.zip vs) m x=some v
 | [],_,_,_,_,h,_,_=>by simp at h
 | _::_,[],_,_,_,_,h,_=>by simp at h
 | p::P,w::vs,0,m,nd,h1,h2,hk=>by
  simp at h1 h2;subst h1;subst h2;show bindL kindOf ((p,w)::P.zip vs) m p=_;unfold bindL;rw [XE λv hv=>(List.nodup_cons.mp nd).1 (List.of_mem_zip hv).1,if_pos hk];simp
 | p::P,w::vs,i+1,m,nd,h1,h2,hk=>by
  show bindL kindOf ((p,w)::P.zip vs) m x=_;unfold bindL;exact XF (i:=i) (List.nodup_cons.mp nd).2 (by simpa using h1) (by simpa using h2) hk
theorem XH {kindOf:Str->Option NameKind} {x:Str} {v:Vl}:∀ {P:Jf} {vs:Jd} {i:Nat} {m:J9},P.Nodup->P[i]?=some x->vs[i]?=some v->kindOf x≠some .local ->
  bindC kindOf (P.zip vs) m x=some v
 | [],_,_,_,_,h,_,_=>by simp at h
 | _::_,[],_,_,_,_,h,_=>by simp at h
 | p::P,w::vs,0,m,nd,h1,h2,hk=>by
  simp at h1 h2;subst h1;subst h2;show bindC kindOf ((p,w)::P.zip vs) m p=_;unfold bindC;rw [XG λv hv=>(List.nodup_cons.mp nd).1 (List.of_mem_zip hv).1,if_neg hk];simp
 | p::P,w::vs,i+1,m,nd,h1,h2,hk=>by
  show bindC kindOf ((p,w)::P.zip vs) m x=_;unfold bindC;exact XH (i:=i) (List.nodup_cons.mp nd).2 (by simpa using h1) (by simpa using h2) hk
def ZJ (N:Jf) (vs:Jn):St:=vs.map some++List.replicate (N.length-vs.length) none
def yd (CX:CXT) (P:Program) (w:World) (K:Fg) (mg:J9) (base:Heap) (N:Jf) (qual:Str) (scope:Scope) (f:Ad) (cd:Vl) (A:Around) (outer:List Env) (s:Sh) (H:Hp) (E:XK):Cx where
 prog:=P
 w:=w
 K:=K
 mg:=mg
 base:=base
 A:=A.deeper (envOfC qual scope s.heap.objs.size f cd)
 N:=N
 s₀:=s
 H₀:=H
 env:=envOfC qual scope s.heap.objs.size f cd
 outer:=outer
 stack:=envOfC qual scope s.heap.objs.size f cd::outer
 ex:=[]
 calm:=true
 fn:=λ_=>true
 pn:=[]
 xe:=λe s'=>wpAny (model P w) (A.deeper (envOfC qual scope s.heap.objs.size f cd)) (leaving (envOfC qual scope s.heap.objs.size f cd) e) (λ_ s''=>CX outer H s E e s'') (λe' s''=>CX outer H s E e' s'') s'
def zba {sc:Scope} {n:Nat} {x:Str} (h:sc.names.lookup x=some .cell):∃ c,(cellsFrom n sc.names []).lookup x=some c:=by
 have q:=PySem.W.cellsFrom_some sc.names n [] (.inl h);exact Option.isSome_iff_exists.mp q
theorem inv_start {CX:CXT} {P:Program} {w:World} {K:Fg} {mg:J9} {base:Heap} {N ps:Jf} {qual:Str} {scope:Scope} {f:Ad} {cd:Vl} {A:Around} {outer:List Env} {s s1:Sh} {H:Hp} {E:XK} {us:Jd} {vs:Jn}
  (S:FnScope N ps scope) (hd:A.handled=none) (e0:Env0 P w K mg base A outer s H) (hl:vs.length=ps.length) (r:Vals vs us)
  (x:InCallC s s.heap.objs.size (bindL (envOfC qual scope s.heap.objs.size f cd).kindOf (ps.zip us) λ_=>none) (cellsFrom (s.heap.objs.size+1) scope.names []) (bindC (envOfC qual scope s.heap.objs.size f cd).kindOf (ps.zip us) λ_=>none) s1) :
  Inv (yd CX P w K mg base N qual scope f cd A outer s H E) [] (ZJ N vs) H s1:=by
 have hpl:ps.length<=N.length:=by have:=congrArg List.length S.pre;rw [List.length_take] at this;omega
 obtain ⟨h1,tk,rfl,hk⟩:=x.done;have noA:∀ b:Ad,b ∉ (yd CX P w K mg base N qual scope f cd A outer s H E).ex:=λb z=>absurd (show b∈([]:Jg) from z) (by simp)
 refine ⟨⟨e0.mod,S.kind,rfl,rfl,Nat.le_refl _,λy z c h1 h2=>?_,λy hy=>?_,λy c _ h=>?_,λ_=>hd,Around.frames_deeper e0.frames,.inr ⟨rfl,rfl⟩,λb z=>absurd z (noA b),e0.bs,e0.bsz,λb _ _=>noA b,λb z=>absurd z (noA b),e0.funs,e0.frf⟩,
  rfl,e0.bare,Un.kept hk,⟨_,x.toInCall.ns,λi y v h1 h2 h3=>?_⟩,λy c h=>⟨_,x.cell y c h⟩,e0.hok.fresh (Nat.le_refl _),λy c h=>?_,λp hp=>absurd (show p∈([]:Jc) from hp) (by simp),e0.hok.kept hk,?_⟩
 ·exact name_of_addr x.apart (PySem.mem_of_lookup h1) (PySem.mem_of_lookup h2)
 ·have hy:scope.names.lookup y=some .cell∨scope.names.lookup y=some .free:=hy
  rcases hy with hy | hy
  ·exact zba hy
  ·exact absurd rfl (S.nofree _ (PySem.mem_of_lookup hy))
 ·exact Nat.le_of_lt (x.above y c (PySem.mem_of_lookup h))
 ·have hi:i<vs.length:=by
   unfold ZJ at h2;by_cases hi:i<vs.length
   ·exact hi
   ·rw [List.getElem?_append_right (by simpa using hi)] at h2
    rw [List.getElem?_replicate] at h2
    split at h2 <;> cases h2
  have ha:vs[i]?=some v:=by
   unfold ZJ at h2;rw [q4x (by simpa using hi),List.getElem?_map] at h2
   cases e:vs[i]? with
   | none=>rw [e] at h2;cases h2
   | some a=>rw [e] at h2;cases h2;rfl
  obtain ⟨u,hu,rv⟩:=r.get ha
  have hp:ps[i]?=some y:=by
   rw [← S.pre,List.getElem?_take_of_lt (by omega)];exact h1
  have ndP:ps.Nodup:=by rw [← S.pre];exact S.nd.sublist (List.take_sublist _ _)
  refine ⟨u,rv,?_⟩;rcases S.par y (List.mem_of_getElem? hp) with k | k
  ·exact .inl ⟨k,XF ndP hp hu k⟩
  ·obtain ⟨c,e⟩:=zba (n:=s.heap.objs.size+1) k
   refine .inr ⟨.inl k,c,e,?_⟩;have q:=x.cell y c e;rw [XH ndP hp hu (by show scope.names.lookup y≠_;rw [k];decide)] at q;exact q
 ·exact e0.hok.fresh (Nat.le_of_lt (x.above y c (PySem.mem_of_lookup h)))
 ·unfold ZJ
  show _=N.length;rw [Jj,Ji,List.length_replicate];omega
theorem fn_of {CX:CXT} {P:Program} {w:World} {K:Fg} {mg:J9} {base:Heap} {k:Nat} {f:Ad} {name qual:Str} {params:Arguments} {body:List Stmt} {scope:Scope} {dV kV doc pm cdv ct oc:Vl} {an od:Option Ad}
  {osl:Array (Je)} {N ps:Jf} {sp:Sp} (lk:K.lookup f=some ⟨oc,od,.func (PySem.W.fnOf name qual params body scope dV kV doc pm an cdv ct),osl⟩) (hcd:PySem.W.codeIn K cdv qual=true) (S:FnScope N ps scope)
  (len:∀ vs H Q E,sp vs H Q E->vs.length=ps.length)
  (hbody:∀ (A:Around) (outer:List Env) (s:Sh) (H:Hp) (vs:Jn) (Q:VK) (E:XK),Room k (A.deeper (envOfC qual scope s.heap.objs.size f cdv))->sp vs H Q E ->
   ∃ t,PSs (yd CX P w K mg base N qual scope f cdv A outer s H E) body t/\t { nx:=λ_ H'=>Q .non H',rt:=Q } (ZJ N vs) H) :
  FnOk P w K mg base CX (k+1) f (PySem.W.fnOf name qual params body scope dV kV doc pm an cdv ct) ps sp:=by
 refine ⟨len,λA outer s H args us vs Q E hr e0 hb r hsp=>?_⟩;have hl:=len _ _ _ _ hsp;have KX:K.In s.heap:=e0.mod.kin.keeps λb o e=>(e0.bs b o e).1;have lim:s.heap.NoLimit:=e0.mod.nolimit.keeps λb o e=>(e0.bs b o e).1
 have hkind:∀ y∈ps.zip us,scope.names.lookup y.1=some .local∨(scope.names.lookup y.1=some .cell/\((cellsFrom (s.heap.objs.size+1) scope.names []).lookup y.1).isSome=true):=λ⟨n,v⟩ hy=>by
  rcases S.par n (List.of_mem_zip hy).1 with q | q
  ·exact .inl q
  ·exact .inr ⟨q,PySem.W.cellsFrom_some _ _ _ (.inl q)⟩
 refine codeAny_call_function hr.depth (KX _ _ lk) rfl S.co S.gen rfl (PySem.W.codeRec_of KX hcd) (hb _ _ _ _ ?_);refine wpAny_newFunctionEnv_cells S.kind hkind λenv he s1 x=>?_;subst he;refine ⟨lim.keeps x.toInCall.keep,codeAny_func ?_⟩;obtain ⟨t,ht,hq⟩:=hbody A outer s H vs Q E (hr.deeper _) hsp;have I:Inv (yd CX P w K mg base N qual scope f cdv A outer s H E) [] (ZJ N vs) H s1:=inv_start S hr.hd e0 hl r x;refine wpAny_mono (ht [] s1 (ZJ N vs) H _ I hq) (λfl s' hs=>?_) λe s' hs=>hs
 have fin:∀ {σ':St} {H':Hp} {v:V} {u:Vl},Inv (yd CX P w K mg base N qual scope f cdv A outer s H E) [] σ' H' s'->RelV v u->Q v H'->CE outer P w H s Q u s' :=
  λ{σ' H' v u} J rv q=>⟨v,H',J.os,J.bare,J.base,J.hok,rv,q⟩
 cases fl with
 | ret u =>
  obtain ⟨v,σ',H',J,rv,q⟩:=hs;exact fin J rv q
 | next =>
  obtain ⟨σ',H',J,q⟩:=hs;exact fin (v:=V.non) (u:=Value.none) J rfl q
 | brk =>
  obtain ⟨_,_,_,q⟩:=hs;exact False.elim q
 | cont =>
  obtain ⟨_,_,_,q⟩:=hs;exact False.elim q
section
variable {X:Cx} {x:Str} {p pos:Pos} {e:Expr} {es:Jh} {t:TA} {id T:String} {r:Jn->Hp->VK->Prop}
def tCB (r:Jn->Hp->VK->Prop) (t:TA):TE:=λσ H Q=>t σ H λvs H1=>r vs H1 Q
def zC (hc:Zh X (.builtin id) r) (hg:Gl X x) (hm:X.mg x=none) (hv:bootBuiltins x=some (.builtin id)) (ha:PA X (e::es) t) (hn:x≠"__name__":=by decide) (hdb:(x == ("__debug__":Str))=false:=by decide)
  (he:starEach (e::es) X.env=(false,eval e X.env)::starEach es X.env:=by rfl) (hpl:(backTo pos (starEach es X.env)).any (·.1)=false:=by rfl):PE X (.Call (.Name x p) (e::es) [] pos) (tCB r t):=by
 intro pins s σ H Q I h;refine wpAny_Call_Name_kw (xD I hg hm hv ?_ hn hdb);exact PyProof.Rows.callWith_builtin1 (thn (ha pos pins s σ H _ I h) λus s1 ⟨vs,H1,I1,r1,q1⟩=>hc pins s1 σ H1 vs us Q I1 r1 q1) he hpl
def yl (hc:Zh X (.type T) r) (hg:Gl X x) (hm:X.mg x=none) (hv:bootBuiltins x=some (.type T)) (ha:PA X (e::es) t) (hn:x≠"__name__":=by decide) (hdb:(x == ("__debug__":Str))=false:=by decide)
  (he:starEach (e::es) X.env=(false,eval e X.env)::starEach es X.env:=by rfl) (hpl:(backTo pos (starEach es X.env)).any (·.1)=false:=by rfl):PE X (.Call (.Name x p) (e::es) [] pos) (tCB r t):=by
 intro pins s σ H Q I h;refine wpAny_Call_Name_kw (xD I hg hm hv ?_ hn hdb);exact PyProof.Rows.callWith_type1 (thn (ha pos pins s σ H _ I h) λus s1 ⟨vs,H1,I1,r1,q1⟩=>hc pins s1 σ H1 vs us Q I1 r1 q1) he hpl
end
end L2
namespace HT
open PySem PyProof.Rows
def lexLt:Jb->Jb->Bool
 | [],[]=>false
 | [],_::_=>true
 | _::_,[]=>false
 | x::xs,y::ys=>if x=y then lexLt xs ys else decide (x<y)
section
open PySem.SeqAt
open PySem.AutoSeq1 (wpAny_loadPart')
open PySem.MeetsSeq PySem.MeetsSeq2 PySem.MeetsSeq3
end
section
variable {prog:Program} {w:World} {A:Around} {E:Ja} {s:Sh}
def sIx (n d:Nat):Option Int->Nat
 | none=>d
 | some v=>if v<0 then (v+(n:Int)).toNat else min v.toNat n
def sIx_none (n d:Nat):sIx n d none=d:=rfl
end
end HT
namespace L2
open PySem PySem.Spec PyProof.Rows
abbrev TO:=St->Hp->(Option Int->Hp->Prop)->Prop
def PO (X:Cx) (e:Option Expr) (t:TO):Prop :=
 ∀ (pins:Jc) (s:Sh) (σ:St) (H:Hp) (Q:Option Int->Hp->Prop),Inv X pins σ H s->t σ H Q ->
  wpAny (model X.prog X.w) X.A (evalPart e X.env) (λu s'=>∃ o H',Inv X pins σ H' s'/\IsPart u o/\Q o H') X.xe s
def tNoPart:TO:=λ_ H Q=>Q none H
inductive tPart_S (Q:(Option Int->Hp->Prop)) (x:V) (H1:Hp):Prop
 | mk (i:_) (_:x=.int i) (_:Q (some i) H1)
def tPart (t:TE):TO:=λσ H Q=>t σ H λx H1=>tPart_S Q x H1
section
variable {X:Cx} {e:Expr} {te:TE} {lo hi:Option Expr} {tl th:TO} {pos p2:Pos}
def po_none:PO X none tNoPart:=by
 intro pins s σ H Q I h;rw [evalPart_none];exact q0y ⟨none,H,I,.none,h⟩
def po_some (h:PE X e te):PO X (some e) (tPart te):=by
 intro pins s σ H Q I hw;rw [evalPart_some];refine thn (h pins s σ H _ I hw) λu s1 ⟨x,H1,I1,r1,q1⟩=>?_;obtain ⟨i,rfl,q⟩:=q1;obtain ⟨t,rfl⟩:=r1;exact ⟨some i,H1,I1,.int i t,q⟩
def SlR (X:Cx) (r:V->Option Int->Option Int->Hp->VK->Prop):Prop :=
 ∀ (pins:Jc) (s:Sh) (σ:St) (H:Hp) (x:V) (v vl vu:Vl) (lo hi:Option Int) (sl:Ad) (Q:VK),Inv X pins σ H s->RelV x v->s.heap.IsSliceOf sl vl vu .none->IsPart vl lo->IsPart vu hi->r x lo hi H Q ->
  ∃ T id,typeLookup (.type T) "__getitem__"=pure (some (.builtin id))/\s.TypeIs v T/\wpAny (model X.prog X.w) X.A (getItem v (.ref sl)) (EP X pins σ Q) X.xe s
def tSl (r:V->Option Int->Option Int->Hp->VK->Prop) (te:TE) (tl th:TO):TE:=λσ H Q=>te σ H λx H1=>tl σ H1 λl H2=>th σ H2 λu H3=>r x l u H3 Q
def pe_slice {r:V->Option Int->Option Int->Hp->VK->Prop} (hr:SlR X r) (he:PE X e te) (hl:PO X lo tl) (hu:PO X hi th):PE X (.Subscript e (.Slice lo hi none p2) pos) (tSl r te tl th):=by
 intro pins s σ H Q I h;refine Subscript_ (thn (he pins s σ H _ I h) λv s1 ⟨x,H1,I1,r1,q1⟩=>?_);refine wpAny_Slice (thn (hl pins s1 σ H1 _ I1 q1) λvl s2 ⟨l,H2,I2,pl,q2⟩=>thn (hu pins s2 σ H2 _ I2 q2) λvu s3 ⟨u,H3,I3,pu,q3⟩=>?_);rw [evalPart_none];refine q0y ?_;have I4:Inv X pins σ H3 { s3 with heap:=s3.heap.push { cls:=.type "slice",data:=.fields #[vl,vu,.none] } }:=I3.kept (t':=s3.toks) λb ob q=>Heap.get?_push_of_some _ q;obtain ⟨T,id,hT,ht,hg⟩:=hr pins { s3 with heap:=s3.heap.push { cls:=.type "slice",data:=.fields #[vl,vu,.none] } } σ H3 x v vl vu l u s3.heap.objs.size Q I4 r1 (Heap.IsSliceOf.new ..) pl pu q3;show wpAny (model X.prog X.w) X.A (subscriptTail e (.Slice lo hi none p2) v (.ref s3.heap.objs.size)) (EP X pins σ Q) X.xe { s3 with heap:=s3.heap.push { cls:=.type "slice",data:=.fields #[vl,vu,.none] } };exact tail_any (ops:=[.ref s3.heap.objs.size,v]) ht hT hg (by with_unfolding_all rfl)
def cutV (xs:Jn) (lo hi:Option Int):Jn:=(xs.drop (HT.sIx xs.length 0 lo)).take (HT.sIx xs.length xs.length hi-HT.sIx xs.length 0 lo)
def za6 (xs:Jn) (lo hi:Option Int):(cutV xs lo hi).length<=xs.length:=by
 unfold cutV;rw [List.length_take,List.length_drop];omega
end
def ixN (n:Nat) (i:Int):Option Nat:=if 0<=i then (if i<n then some i.toNat else none) else if -(n:Int)<=i then some (i+n).toNat else none
def atI {α:Type} (xs:List α) (i:Int):Option α:=(ixN xs.length i).bind λj=>xs[j]?
def ixN_seq {n:Nat} {i:Int} {j:Nat} (h:ixN n i=some j):seqIndex? i n=some j/\j<n/\-(n:Int)<=i/\i<n:=by
 unfold ixN at h;by_cases h0:0<=i
 ·rw [if_pos h0] at h
  by_cases h1:i<n
  ·rw [if_pos h1] at h
   have e:i.toNat=j:=Option.some.inj h;exact ⟨by rw [seqIndex_of h0 h1,e],by omega,by omega,h1⟩
  ·rw [if_neg h1] at h;cases h
 ·rw [if_neg h0] at h
  by_cases h1:-(n:Int)<=i
  ·rw [if_pos h1] at h
   have e:(i+n).toNat=j:=Option.some.inj h;exact ⟨by rw [seqIndex_neg (by omega) h1,e],by omega,h1,by omega⟩
  ·rw [if_neg h1] at h;cases h
theorem atI_get {α:Type} {xs:List α} {i:Int} {v:α} (h:atI xs i=some v):∃ j,seqIndex? i xs.length=some j/\xs[j]?=some v/\j<xs.length/\-(xs.length:Int)<=i/\i<xs.length:=by
 unfold atI at h
 cases e:ixN xs.length i with
 | none=>rw [e] at h;cases h
 | some j =>
  rw [e] at h;obtain ⟨h1,h2,h3,h4⟩:=ixN_seq e;exact ⟨j,h1,h,h2,h3,h4⟩
def zv {α:Type} {xs:List α} {j:Nat} {v:α} (h:xs[j]?=some v):atI xs (j:Int)=some v:=by
 have hj:j<xs.length:=(List.getElem?_eq_some_iff.mp h).1
 have e:ixN xs.length (j:Int)=some j:=by
  unfold ixN;rw [if_pos (by omega),if_pos (by omega)];simp
 unfold atI;rw [e];exact h
def atI_last {α:Type} (xs:List α) (v:α):atI (xs++[v]) (-1)=some v:=by
 have hl:(xs++[v]).length=xs.length+1:=by simp
 have e:ixN (xs++[v]).length (-1)=some xs.length:=by
  unfold ixN;rw [hl,if_neg (by decide),if_pos (by omega)];congr 1;omega
 unfold atI;rw [e];show (xs++[v])[xs.length]?=some v;simp
def PlainIx (b:Expr):Prop:=∀ o i,subscripted b false o i=operate [o,i] (getItem o i)
def IxR (X:Cx) (r:R2):Prop :=
 ∀ (value slice:Expr) (pins:Jc) (s:Sh) (σ:St) (H:Hp) (x y:V) (v u:Vl) (Q:VK),Inv X pins σ H s->RelV x v->RelV y u->r x y H Q ->
  subscripted slice false v u=operate [v,u] (getItem v u)->wpAny (model X.prog X.w) X.A (subscriptTail value slice v u) (EP X pins σ Q) X.xe s
def MtR (X:Cx) (id:String) (r:V->Jn->Hp->VK->Prop):Prop :=
 ∀ (pins:Jc) (s:Sh) (σ:St) (H:Hp) (x:V) (xs:Jn) (v:Vl) (us:Jd) (Q:VK),Inv X pins σ H s->RelV x v->Vals xs us->r x xs H Q ->
  wpAny (model X.prog X.w) X.A (call (.builtin id) (v::us)) (EP X pins σ Q) X.xe s
section
variable {X:Cx} {a b:Expr} {ta tb:TE} {pos:Pos}
def zm {r:R2} (hr:IxR X r) (ha:PE X a ta) (hb:PE X b tb) (hs:PlainIx b):PE X (.Subscript a b pos) (tOp r ta tb):=by
 intro pins s σ H Q I h;exact Subscript_ (binT ha hb I h λv u s2 x y H2 I2 rx ry q=>hr a b pins s2 σ H2 x y v u Q I2 rx ry q (hs _ _))
inductive rIxL (K:Fg) (x y:V) (H:Hp) (Q:VK):Prop
 | mk (p xs:_) (i v:_) (_:x=.ref p) (_:y=.int i) (_:SqL K H p xs) (_:atI xs i=some v) (_:Q v H)
inductive rIxT (K:Fg) (x y:V) (H:Hp) (Q:VK):Prop
 | mk (p xs:_) (i v:_) (_:x=.ref p) (_:y=.int i) (_:SqT K H p xs) (_:atI xs i=some v) (_:Q v H)
def zE:IxR X (rIxL X.K):=by
 intro value slice pins s σ H x y v u Q I rx ry h hs;obtain ⟨p,xs,i,z,rfl,rfl,hq,he,q⟩:=h;cases rx;obtain ⟨t,rfl⟩:=ry;obtain ⟨its,r,pl,hz⟩:=I.list hq;obtain ⟨j,h1,h2,h3,h4,h5⟩:=atI_get he;obtain ⟨w,ew,rw'⟩:=r.get h2;have hl:=r.length;have hn:=X2;have fin:EP X pins σ Q w s:=⟨z,H,I,rw',q⟩;by_cases h0:0<=i
 ·have hj:i.toNat=j:=by
   rw [seqIndex_of h0 h5] at h1;exact Option.some.inj h1
  exact item_listR pl.isList h0 (by omega) (by rw [hj];simpa using ew) fin hs
 ·have hj:(i+(its.toArray.size:Int)).toNat=j:=by
   rw [seqIndex_neg (by omega) h4] at h1;rw [List.size_toArray,← hl];exact Option.some.inj h1
  exact subscriptTail_builtinR (x:=w) pl.isList.typeIs slot_list_getitem.lookup
   (wpAny_getItem_list_neg (Q:=λr s'=>r=w/\EP X pins σ Q r s') pl.isList (by omega) (by rw [List.size_toArray] <;> omega) (by omega) (by rw [hj];simpa using ew) ⟨rfl,fin⟩) hs
def zB:IxR X (rIxT X.K):=by
 intro value slice pins s σ H x y v u Q I rx ry h hs;obtain ⟨p,xs,i,z,rfl,rfl,hq,he,q⟩:=h;cases rx;obtain ⟨t,rfl⟩:=ry;obtain ⟨its,r,pl,hz⟩:=I.tuple hq;obtain ⟨j,h1,h2,h3,h4,h5⟩:=atI_get he;obtain ⟨w,ew,rw'⟩:=r.get h2;have hl:=r.length;have hn:=X2;have fin:EP X pins σ Q w s:=⟨z,H,I,rw',q⟩;exact subscriptTail_builtinR (x:=w) pl.typeIs slot_tuple_getitem.lookup
  (getItem_tuple (j:=j) (Q:=λr s'=>r=w/\EP X pins σ Q r s') pl (by omega) (by omega) (by rw [List.size_toArray,← hl];exact h1) (by simpa using ew) ⟨rfl,fin⟩) hs
def zbp (its:Jd) (n j:Nat) (u:Vl):Obj.mapSeq (·.setIfInBounds j u) { cls:=.type "list",data:=.seq its.toArray n }={ cls:=.type "list",data:=.seq (its.set j u).toArray n }:=by
 simp [Obj.mapSeq]
def Inv.lst {pins:Jc} {σ:St} {H:Hp} {s:Sh} {p:Ad} {xs:Jn} (I:Inv X pins σ H s) (h:H p=some (.lst xs)) :
  ∃ (its:Jd) (n:Nat),Vals xs its/\s.heap.get? p=some { cls:=.type "list",data:=.seq its.toArray n }/\xs.length<=sizeLine:=by
 obtain ⟨z,its,n,r,e⟩:=I.hok p _ h;exact ⟨its,n,r,e,z⟩
def Inv.lstUpd {pins:Jc} {σ:St} {H:Hp} {s:Sh} {p:Ad} {xs ys:Jn} {its its':Jd} {n n':Nat} {f:Obj->Obj} (I:Inv X pins σ H s) (h:H p=some (.lst xs))
  (ho:s.heap.get? p=some { cls:=.type "list",data:=.seq its.toArray n }) (hf:f { cls:=.type "list",data:=.seq its.toArray n }={ cls:=.type "list",data:=.seq its'.toArray n' }) (r:Vals ys its') (hz:ys.length<=sizeLine) (t:Nat) :
  Inv X pins σ (upd H p (.lst ys)) { s with heap:=s.heap.update p f,toks:=t }:=by
 have e:(s.heap.update p f).get? p=some { cls:=.type "list",data:=.seq its'.toArray n' }:=by
  rw [Heap.get?_update_self f ho (by rw [hf] <;> rfl),hf]
 refine I.write (x:=p) (e:=p) (by rw [h];trivial) (.inl rfl) (λb u hb q=>(Heap.get?_update_other _ _ (Ne.symm hb)).trans q) ⟨_,e⟩ ?_;exact ⟨hz,its',n',r,e⟩
inductive rSetL (o i v:V) (H:Hp) (Q:(Hp->Prop)):Prop
 | mk (p xs:_) (k j:_) (_:o=.ref p) (_:i=.int k) (_:H p=some (.lst xs)) (_:ixN xs.length k=some j) (_:Q (upd H p (.lst (xs.set j v))))
def yX:PSet X rSetL:=by
 intro pins s σ H o i v ov iv u Q I ro ri rv h;obtain ⟨p,xs,k,j,rfl,rfl,hp,hj,q⟩:=h;cases ro;obtain ⟨t,rfl⟩:=ri;obtain ⟨its,n,r,ho,hz⟩:=I.lst hp;obtain ⟨h1,h2,h3,h4⟩:=ixN_seq hj;have hl:=r.length;have hn:=X2
 have I':Inv X pins σ (upd H p (.lst (xs.set j v))) { s with heap:=s.heap.update p (Obj.mapSeq (·.setIfInBounds j u)) } :=
  I.lstUpd hp ho (zbp its n j u) (r.set rv j) (by rw [List.length_set];exact hz) s.toks
 by_cases h0:0<=k
 ·have hk:k.toNat=j:=by
   rw [seqIndex_of h0 h4] at h1;exact Option.some.inj h1
  exact PySem.W.ki_setAt ho h0 (by omega) (by rw [List.size_toArray,← hl];exact h4) (by rw [hk];exact ⟨_,I',q⟩)
 ·have hk:(k+(its.toArray.size:Int)).toNat=j:=by
   rw [seqIndex_neg (by omega) h3] at h1;rw [List.size_toArray,← hl];exact Option.some.inj h1
  exact PySem.W.ki_setBack ho (by omega) (by rw [List.size_toArray,← hl];exact h3) (by omega) (by rw [hk];exact ⟨_,I',q⟩)
theorem XL (lo hi:Option Int) (n:Nat):(sliceBounds lo hi none n).1=((HT.sIx n 0 lo:Nat):Int)/\(sliceBounds lo hi none n).2.1=((HT.sIx n n hi:Nat):Int)/\(sliceBounds lo hi none n).2.2=1:=by
 refine ⟨?_,?_,rfl⟩
 ·cases lo with
  | none=>simp [sliceBounds,HT.sIx]
  | some i =>
   simp only [sliceBounds,HT.sIx,Option.getD_none,show (1:Int) > 0 by decide,if_true];by_cases h:i<0
   ·simp only [h,if_true] <;> omega
   ·simp only [h,if_false] <;> omega
 ·cases hi with
  | none=>simp [sliceBounds,HT.sIx]
  | some i =>
   simp only [sliceBounds,HT.sIx,Option.getD_none,show (1:Int) > 0 by decide,if_true];by_cases h:i<0
   ·simp only [h,if_true] <;> omega
   ·simp only [h,if_false] <;> omega
def Xh (its:Jd) (lo hi:Option Int):slicePick its.toArray lo hi none=((its.drop (HT.sIx its.length 0 lo)).take (HT.sIx its.length its.length hi-HT.sIx its.length 0 lo)).toArray:=by
 obtain ⟨h1,h2,h3⟩:=XL lo hi its.toArray.size;unfold slicePick;rw [h1,h2,h3];simp only [sliceRange_one,pick_run,List.size_toArray] <;> rfl
inductive rSlL (K:Fg) (x:V) (lo hi:Option Int) (H:Hp) (Q:VK):Prop
 | mk (a xs:_) (_:x=.ref a) (_:SqL K H a xs) (_:∀ p,H p=none->Q (.ref p) (upd H p (.lst (cutV xs lo hi))))
def sl_list:SlR X (rSlL X.K):=by
 intro pins s σ H x v vl vu lo hi sl Q I rx hs pl pu h;obtain ⟨a,xs,rfl,hx,q⟩:=h;cases rx;obtain ⟨its,r,ht,hz⟩:=I.list hx;have hlen:=r.length;refine ⟨"list",_,slot_list_getitem.lookup,ht.isList.typeIs,?_⟩;refine wpAny_getItem_list_slice ht.isList hs pl pu .none (by simp) ?_ (by rw [List.size_toArray] <;> omega);rw [Xh,← hlen];refine ⟨.ref s.heap.objs.size,_,I.laid (t':=s.toks) (o:=.lst (cutV xs lo hi)) (λb ob q=>Heap.get?_push_of_some _ q) (Nat.le_refl _) ?_,rfl,q _ (I.hok.fresh (Nat.le_refl _))⟩;exact ⟨Nat.le_trans (za6 xs lo hi) hz,_,0,(r.drop (HT.sIx xs.length 0 lo)).take (HT.sIx xs.length xs.length hi-HT.sIx xs.length 0 lo),Heap.get?_push_size _ rfl⟩
def Zy:V->Bool
 | .non=>true
 | .bl _=>true
 | .int _=>true
 | .str _=>true
 | _=>false
def eqV:V->V->Bool
 | .non,.non=>true
 | .bl a,.bl b=>a == b
 | .bl a,.int b=>(if a then 1 else 0) == b
 | .int a,.bl b=>a == (if b then 1 else 0)
 | .int a,.int b=>a == b
 | .str a,.str b=>a == b
 | _,_=>false
theorem eqAt_V {A:Around} {s:Sh} {y x:V} {u v:Vl} (ry:RelV y u) (rx:RelV x v) (fy:Zy y=true) (fx:Zy x=true):SeqAt.EqAt A s u v (eqV y x):=by
 cases y with
 | non =>
  cases ry
  cases x with
  | non=>cases rx;exact SeqAt.EqAt.same _
  | bl b=>cases rx;exact SeqAt.EqAt.none_bool b
  | int b=>obtain ⟨t,rfl⟩:=rx;exact SeqAt.EqAt.none_int b t
  | str b=>obtain ⟨t,rfl⟩:=rx;exact SeqAt.EqAt.none_str b t
  | _=>exact absurd (show false=true from fx) q2x
 | bl a =>
  cases ry
  cases x with
  | non=>cases rx;exact SeqAt.EqAt.bool_none a
  | bl b=>cases rx;exact SeqAt.EqAt.bool_bool a b
  | int b=>obtain ⟨t,rfl⟩:=rx;exact SeqAt.EqAt.bool_int a b t
  | str b=>obtain ⟨t,rfl⟩:=rx;exact SeqAt.EqAt.bool_str a b t
  | _=>exact absurd (show false=true from fx) q2x
 | int a =>
  obtain ⟨t',rfl⟩:=ry
  cases x with
  | non=>cases rx;exact SeqAt.EqAt.int_none a t'
  | bl b=>cases rx;exact SeqAt.EqAt.int_bool a t' b
  | int b=>obtain ⟨t,rfl⟩:=rx;exact SeqAt.EqAt.int_int a t' b t
  | str b=>obtain ⟨t,rfl⟩:=rx;exact SeqAt.EqAt.int_str a t' b t
  | _=>exact absurd (show false=true from fx) q2x
 | str a =>
  obtain ⟨t',rfl⟩:=ry
  cases x with
  | non=>cases rx;exact SeqAt.EqAt.str_none a t'
  | bl b=>cases rx;exact SeqAt.EqAt.str_bool a t' b
  | int b=>obtain ⟨t,rfl⟩:=rx;exact SeqAt.EqAt.str_int a t' b t
  | str b=>obtain ⟨t,rfl⟩:=rx;exact SeqAt.EqAt.str_str a t' b t
  | _=>exact absurd (show false=true from fx) q2x
 | _=>exact absurd (show false=true from fy) q2x
def eqU (x:V) (u:Vl):Bool:=match u with
 | .none=>eqV .non x
 | .bool b=>eqV (.bl b) x
 | .int i _=>eqV (.int i) x
 | .str z _=>eqV (.str z) x
 | _=>false
theorem eqU_of {x y:V} {u:Vl} (r:RelV y u) (f:Zy y=true):eqU x u=eqV y x:=by
 cases y with
 | non=>cases r;rfl
 | bl b=>cases r;rfl
 | int i=>obtain ⟨t,rfl⟩:=r;rfl
 | str z=>obtain ⟨t,rfl⟩:=r;rfl
 | _=>exact absurd (show false=true from f) q2x
theorem zab {x:V}:∀ {xs:Jn} {us:Jd},Vals xs us->xs.all Zy=true->us.any (eqU x)=xs.any λy=>eqV y x
 | _,_,.nil,_=>rfl
 | y::xs,u::us,.cons r t,f=>by
  rw [List.all_cons,Bool.and_eq_true] at f;rw [List.any_cons,List.any_cons,eqU_of r f.1,zab t f.2]
theorem YY {A:Around} {s:Sh} {x:V} {v:Vl} (rx:RelV x v) (fx:Zy x=true):∀ {xs:Jn} {us:Jd},Vals xs us->xs.all Zy=true->∀ u∈us,SeqAt.EqAt A s u v (eqU x u)
 | _,_,.nil,_=>λu hu=>by cases hu
 | y::xs,u::us,.cons r t,f=>λu' hu=>by
  rw [List.all_cons,Bool.and_eq_true] at f;rcases List.mem_cons.mp hu with rfl | hu
  ·rw [eqU_of r f.1];exact eqAt_V r rx f.1 fx
  ·exact YY rx fx t f.2 u' hu
def inV (x:V) (xs:Jn):Bool:=xs.any λy=>eqV y x
inductive rIn (K:Fg) (neg:Bool) (x y:V) (H:Hp) (Q:VK):Prop
 | mk (p xs:_) (_:y=.ref p) (_:(SqL K H p xs∨SqT K H p xs)) (_:Zy x=true) (_:xs.all Zy=true) (_:Q (.bl (if neg then !inV x xs else inV x xs)) H)
def X0:OpR X (compareOp .NotIn) (rIn X.K true):=by
 intro pins s σ H x y v u Q I rx ry h;obtain ⟨p,xs,rfl,hq,fx,fs,q⟩:=h;cases ry;rcases hq with hq | hq
 ·obtain ⟨its,r,pl,hz⟩:=I.list hq
  refine SeqAt.notIn_listAt (eqU x) pl.isList (λw hw=>YY rx fx r fs w (by simpa using hw)) ⟨.bl _,H,I,rfl,?_⟩;rw [show its.toArray.any (eqU x)=its.any (eqU x) by simp,zab r fs];exact q
 ·obtain ⟨its,r,pl,hz⟩:=I.tuple hq
  refine SeqAt.notIn_tupleAt (eqU x) pl (λw hw=>YY rx fx r fs w (by simpa using hw)) ⟨.bl _,H,I,rfl,?_⟩;rw [show its.toArray.any (eqU x)=its.any (eqU x) by simp,zab r fs];exact q
def zN:Zh X (.builtin "len") (λxs H Q=>∃ p ys,xs=[.ref p]/\(SqL X.K H p ys∨SqT X.K H p ys)/\Q (.int ys.length) H):=by
 intro pins s σ H xs us Q I r h;obtain ⟨p,ys,rfl,hq,q⟩:=h;obtain ⟨u,rfl,rx⟩:=vals1 r;cases rx;have hn:=X2;rcases hq with hq | hq
 ·obtain ⟨its,r',pl,hz⟩:=I.list hq
  have hlen:=r'.length;exact Calls.call_len_list pl.isList (by simp only [List.size_toArray] <;> omega) ⟨.int ys.length,H,I.tok _,⟨s.toks+1,by rw [List.size_toArray,hlen]⟩,q⟩
 ·obtain ⟨its,r',pl,hz⟩:=I.tuple hq
  have hlen:=r'.length;exact len_tuple pl (by simp only [List.size_toArray] <;> omega) ⟨.int ys.length,H,I.tok _,⟨s.toks+1,by rw [List.size_toArray,hlen]⟩,q⟩
def ya:Zh X (.type "list") (λxs H Q=>∃ p ys,xs=[.ref p]/\(SqL X.K H p ys∨SqT X.K H p ys)/\∀ l,H l=none->Q (.ref l) (upd H l (.lst ys))):=by
 intro pins s σ H xs us Q I r h;obtain ⟨p,ys,rfl,hq,q⟩:=h;obtain ⟨u,rfl,rx⟩:=vals1 r;cases rx
 have fin:∀ (its:Jd),Vals ys its->ys.length<=sizeLine->∀ (h':Heap) (c':Nat),(∀ b o',s.heap.get? b=some o'->h'.get? b=some o') ->
   h'.get? s.heap.objs.size=some { cls:=.type "list",dict:=none,data:=.seq its.toArray c',slots:=#[] }->EP X pins σ Q (.ref s.heap.objs.size) { s with heap:=h' }:=λits r' hz h' c' kp e =>
  ⟨.ref s.heap.objs.size,_,I.laid (t':=s.toks) kp (Nat.le_refl _) (show ObjOk X.prog X.w _ h' _ (.lst ys) from ⟨hz,its,c',r',e⟩),rfl,q _ (I.hok.fresh (Nat.le_refl _))⟩
 rcases hq with hq | hq
 ·obtain ⟨its,r',pl,hz⟩:=I.list hq
  have hlen:=r'.length;obtain ⟨o,ho,hc,n,hd⟩:=pl.isList;exact call_list_seq p (.inl rfl) ho hc hd (λh' c' kp e=>fin its r' hz h' c' kp e) (by simp only [List.size_toArray] <;> omega)
 ·obtain ⟨its,r',pl,hz⟩:=I.tuple hq
  have hlen:=r'.length;obtain ⟨o,ho,hc,n,hd⟩:=pl;exact call_list_seq p (.inr rfl) ho hc hd (λh' c' kp e=>fin its r' hz h' c' kp e) (by simp only [List.size_toArray] <;> omega)
def tyV (K:Fg) (T:String) (x:V) (H:Hp):Prop:=match x with
 | .str _=>T="str"
 | .int _=>T="int"
 | .ref p=>(T="list"/\∃ xs,SqL K H p xs)∨(T="tuple"/\∃ o,K.lookup p=some o/\o.cls=.type "tuple"/\o.dict=none) ∨
   (T="dict"/\((∃ kvs,H p=some (.dK kvs))∨∃ kvs,H p=some (.dT kvs)))∨(T="set"/\∃ S n,H p=some (.set S n))
 | _=>False
theorem tyV_is {pins:Jc} {σ:St} {H:Hp} {s:Sh} {T:String} {x:V} {v:Vl} (I:Inv X pins σ H s) (r:RelV x v) (ty:tyV X.K T x H) :
  s.TypeIs v T/\∀ a,v=.ref a->∃ ob,s.heap.get? a=some ob/\ob.dict=none:=by
 cases x with
 | str z =>
  obtain ⟨t,rfl⟩:=r;cases (show T="str" from ty);exact ⟨typeIs_str s z t,λ_ e=>nomatch e⟩
 | int i =>
  obtain ⟨t,rfl⟩:=r;cases (show T="int" from ty);exact ⟨typeIs_int s i t,λ_ e=>nomatch e⟩
 | ref p =>
  cases r;rcases ty with ⟨rfl,xs,hq⟩ | ⟨rfl,o,hk,hc,hd⟩ | ⟨rfl,hk⟩ | ⟨rfl,S,n,hk⟩
  ·obtain ⟨its,_,pl,_⟩:=I.list hq
   refine ⟨pl.isList.typeIs,λa e=>?_⟩;cases e;obtain ⟨o,n,e,c,hd,_⟩:=pl;exact ⟨o,e,hd⟩
  ·refine ⟨⟨o,I.kIn p o hk,hc⟩,λa e=>?_⟩
   cases e;exact ⟨o,I.kIn _ o hk,hd⟩
  ·have z:∃ o,s.heap.get? p=some o/\o.ExactDict:=by
    rcases hk with ⟨kvs,hk⟩ | ⟨kvs,hk⟩
    ·obtain ⟨_,_,_,_,o,_,_,e,ex,_⟩:=I.hok p _ hk
     exact ⟨o,e,ex⟩
    ·obtain ⟨_,_,_,_,o,_,_,e,ex,_⟩:=I.hok p _ hk
     exact ⟨o,e,ex⟩
   obtain ⟨o,e,ex⟩:=z;refine ⟨⟨o,e,ex.1⟩,λa e2=>?_⟩;cases e2;exact ⟨o,e,ex.2.1⟩
  ·obtain ⟨o,_,_,_,e,ex,_⟩:=I.hok p _ hk
   refine ⟨⟨o,e,ex.1⟩,λa e2=>?_⟩;cases e2;exact ⟨o,e,ex.2.1⟩
 | _=>exact False.elim ty
def tBM (K:Fg) (T:String) (r:V->Jn->Hp->VK->Prop) (to:TE) (t:TA):TE:=λσ H Q=>to σ H λx H1=>tyV K T x H1/\t σ H1 λxs H2=>r x xs H2 Q
variable {o e:Expr} {es:Jh} {to:TE} {t:TA} {name:Str} {apos cpos:Pos} {T id:String} {r:V->Jn->Hp->VK->Prop}
def pe_bm (pa:PlainAttrs T) (slot:Slot T name id) (hty:typeOf (.builtin id)=pure (.type "method_descriptor")) (hm:MtR X id r) (ho:PE X o to) (ha:PA X (e::es) t)
  (hbase:attributeBase o name X.env (eval o X.env)=eval o X.env:=by rfl)
  (hfew:((backTo cpos (starEach (e::es) X.env)).all (λx=>!x.1) && (backToKw cpos (keywordEach [] X.env)).all (λx=>x.1.isSome)
   && decide ((e::es).length+([]:List Keyword).length+(if ([]:List Keyword).isEmpty then 0 else 1)<30))=true:=by rfl)
  (hline:(apos.endLine == cpos.line)=true:=by rfl) (hs:starEach (e::es) X.env=(false,eval e X.env)::starEach es X.env:=by rfl) (hplain:(backTo cpos (starEach es X.env)).any (·.1)=false:=by rfl) :
  PE X (.Call (.Attribute o name apos) (e::es) [] cpos) (tBM X.K T r to t):=by
 intro pins s σ H Q I h;refine wpAny_Call_method_late hbase hfew hline rfl (thn (ho pins s σ H _ I h) λv s1 ⟨x,H1,I1,r1,ty,q1⟩=>?_);obtain ⟨h1,h2⟩:=tyV_is I1 r1 ty;refine ⟨T,id,pa,slot,hty,h1,h2,?_⟩;have hA:=ha cpos pins s1 σ H1 _ I1 q1;rw [hs] at hA ⊢;refine Calls.callWith_builtin (by show (false || (backTo cpos (starEach es X.env)).any (·.1))=false;rw [hplain] <;> rfl) (Calls.evalArgs_plain ?_);exact thn hA λus s2 ⟨vs,H2,I2,r2,q2⟩=>hm pins s2 σ H2 x vs v us Q I2 r1 r2 q2
/- xs.append(e),list.index on a module's tuple .. are MtR facts of 06m -/
end
def MtM (X:Cx) (id:String) (r:V->Jn->Hp->VK->Prop):Prop :=
 ∀ (pins:Jc) (s:Sh) (σ:St) (H:Hp) (x:V) (xs:Jn) (v:Vl) (us:Jd) (Q:VK),Inv X pins σ H s->RelV x v->Vals xs us->r x xs H Q ->
  wpAny (model X.prog X.w) X.A (call (.builtin id) (v::us)) (EP X pins σ Q) X.xe s
theorem Vals.one:∀ {x:V} {us:Jd},Vals [x] us->∃ u,us=[u]/\RelV x u
 | _,_,.cons r .nil=>⟨_,rfl,r⟩
theorem Vals.rep {xs:Jn} {us:Jd} (h:Vals xs us):∀ k:Nat,Vals (List.replicate k xs).flatten (List.replicate k us).flatten
 | 0=>.nil
 | k+1=>by
  rw [List.replicate_succ,List.replicate_succ,List.flatten_cons,List.flatten_cons];exact Vals.append h (Vals.rep h k)
theorem Xw (its:Jd):∀ (k:Nat) (acc:Jd),
  List.foldl (λx1 x2=>x1++x2) acc.toArray (List.replicate k its.toArray)=(acc++(List.replicate k its).flatten).toArray
 | 0,acc=>by simp
 | k+1,acc=>by
  have e:acc.toArray++its.toArray=(acc++its).toArray:=by simp
  have e2:(acc++its)++(List.replicate k its).flatten=acc++(List.replicate (k+1) its).flatten:=by
   rw [List.replicate_succ,List.flatten_cons,List.append_assoc]
  rw [← e2,← Xw its k (acc++its),← e,List.replicate_succ,List.foldl_cons]
section
variable {X:Cx} {pins:Jc} {σ:St} {H:Hp} {s:Sh} {l b:Ad} {xs ys zs:Jn}
def Inv.lset {its its':Jd} {n:Nat} {f:Array Vl->Array Vl} {t':Nat} (I:Inv X pins σ H s) (hH:H l=some (.lst xs))
  (e:s.heap.get? l=some { cls:=.type "list",data:=.seq its.toArray n }) (hf:f its.toArray=its'.toArray) (hv:Vals ys its') (hz:ys.length<=sizeLine) :
  Inv X pins σ (upd H l (.lst ys)) { s with heap:=s.heap.update l (Obj.mapSeq f),toks:=t' }:=by
 have q:=PySem.IsL.update e f;rw [hf] at q;refine I.write (x:=l) (e:=l) (by rw [hH];exact trivial) (.inl rfl) (λb' u hb hu=>(Heap.get?_update_other s.heap (Obj.mapSeq f) (Ne.symm hb)).trans hu) ⟨_,q⟩ ?_;exact ⟨hz,its',_,hv,q⟩
def Inv.lnew {its:Jd} {t':Nat} (I:Inv X pins σ H s) (hv:Vals ys its) (hz:ys.length<=sizeLine) :
  Inv X pins σ (upd H s.heap.objs.size (.lst ys)) { s with heap:=s.heap.push { cls:=.type "list",data:=.seq its.toArray },toks:=t' } :=
 I.laid (λ_ _ q=>Heap.get?_push_of_some _ q) (Nat.le_refl _) ⟨hz,its,0,hv,Heap.get?_push_size _ rfl⟩
def Inv.fresh (I:Inv X pins σ H s):H s.heap.objs.size=none:=I.hok.fresh (Nat.le_refl _)
def Inv.lstM (I:Inv X pins σ H s) (hH:H l=some (.lst xs)):xs.length<=sizeLine/\∃ (its:Jd) (n:Nat),Vals xs its/\xs.length=its.length/\s.heap.get? l=some { cls:=.type "list",data:=.seq its.toArray n }:=by
 obtain ⟨z,its,n,r,e⟩:=I.hok l _ hH;exact ⟨z,its,n,r,r.length,e⟩
def notLongL {n:Nat} (h:n<=sizeLine):Builtin.List.listTooLong n=false:=by
 unfold Builtin.List.listTooLong;exact decide_eq_false (by omega)
end
section
variable {X:Cx}
inductive rAppend (x:V) (vs:Jn) (H:Hp) (Q:VK):Prop
 | mk (l xs y:_) (_:x=.ref l) (_:vs=[y]) (_:H l=some (.lst xs)) (_:xs.length<sizeLine) (_:Q .non (upd H l (.lst (xs++[y]))))
def xz:MtM X "list.append" rAppend:=by
 intro pins s σ H x vs v us Q I rx rv h;obtain ⟨l,xs,y,rfl,rfl,hH,hz,q⟩:=h;cases rx;obtain ⟨u,rfl,ru⟩:=rv.one;obtain ⟨z,its,n,r,hl,e⟩:=I.lstM hH;refine call_meets F.slot_list_append ⟨_,e,rfl⟩ F.entry_list_append (F.args_list_append_2 _ _) (PySem.list_append l its.toArray n u (by rw [List.size_toArray];omega)) ⟨e,?_⟩;refine ⟨.non,_,I.lset (its':=its++[u]) hH e (by simp) (r.append (.cons ru .nil)) ?_,rfl,q⟩;rw [Jj,List.length_singleton];omega
inductive rCat (x y:V) (H:Hp) (Q:VK):Prop
 | mk (l b:_) (xs zs:_) (_:x=.ref l) (_:y=.ref b) (_:H l=some (.lst xs)) (_:H b=some (.lst zs)) (_:xs.length+zs.length<=sizeLine) (_:∀ p,H p=none->Q (.ref p) (upd H p (.lst (xs++zs))))
def YT:OpR X (binaryOp .Add) rCat:=by
 intro pins s σ H x y v u Q I rx ry h;obtain ⟨l,b,xs,zs,rfl,rfl,hH,hB,hz,q⟩:=h;cases rx;cases ry;obtain ⟨z,its,n,r,hl,e⟩:=I.lstM hH;obtain ⟨z2,its2,n2,r2,hl2,e2⟩:=I.lstM hB;refine PySem.P.add_list e e2 ?_ (by rw [List.size_toArray,List.size_toArray];omega);have ea:its.toArray++its2.toArray=(its++its2).toArray:=by simp
 rw [ea];exact ⟨.ref _,_,I.lnew (t':=s.toks) (r.append r2) (by rw [Jj];omega),rfl,q _ I.fresh⟩
inductive rRep (x y:V) (H:Hp) (Q:VK):Prop
 | mk (l k xs:_) (_:x=.ref l) (_:y=.int k) (_:H l=some (.lst xs)) (_:-(2 ^ 63)<=k) (_:k<2 ^ 63) (_:xs.length*k.toNat<=sizeLine) (_:∀ p,H p=none->Q (.ref p) (upd H p (.lst (List.replicate k.toNat xs).flatten)))
theorem len_rep {α:Type} (xs:List α) (k:Nat):(List.replicate k xs).flatten.length=k*xs.length:=by
 induction k with
 | zero=>simp
 | succ k ih=>rw [List.replicate_succ,List.flatten_cons,Jj,ih,Nat.succ_mul,Nat.add_comm]
theorem ZE:OpR X (binaryOp .Mult) rRep:=by
 intro pins s σ H x y v u Q I rx ry h;obtain ⟨l,k,xs,rfl,rfl,hH,h1,h2,hz,q⟩:=h;cases rx;obtain ⟨t,rfl⟩:=ry;obtain ⟨z,its,n,r,hl,e⟩:=I.lstM hH;have hlen:its.toArray.size*k.toNat<=sizeLine:=by rw [List.size_toArray,← hl];exact hz
 have hcap:¬ its.toArray.size*k.toNat > (2 ^ 63-1) / 8:=by
  have:(sizeLine:Nat)<=(2 ^ 63-1) / 8:=by decide
  omega
 have hfit:¬ (!Builtin.List.listFitsIndex k)=true:=by
  rw [fitsIndex_both h1 h2];exact q2x
 have hlong:¬ Builtin.List.listTooLong (its.toArray.size*k.toNat)=true:=by
  rw [notLongL hlen];exact q2x
 have hnew:List.foldl (λx1 x2=>x1++x2) #[] (List.replicate (if its.toArray.isEmpty=true then 0 else k.toNat) its.toArray)=(List.replicate k.toNat its).flatten.toArray:=by
  have f0:∀ m:Nat,List.foldl (λx1 x2=>x1++x2) #[] (List.replicate m its.toArray)=(List.replicate m its).flatten.toArray:=λm=>by
   have:=Xw its m [];rw [List.nil_append] at this;exact this
  rw [f0]
  cases its with
  | nil=>simp
  | cons a r'=>rw [if_neg (by simp)]
 refine wpAny_binaryOp_repeat_ref (T:="list") (U:="int") (by decide) ⟨_,e,rfl⟩ (λs'=>typeIs_int s' k t) noFill_list_mul F.fills_int_mul F.slot_int_rmul repeat_list F.slot_int_index.lookup
  (call_meets F.slot_int_rmul (typeIs_int s k t) F.entry_int_rmul (F.args_int_rmul_2 _ _) (int___rmul___int_list k t l its.toArray n)
   ⟨e,rfl,⟨_,e,rfl⟩,call_meets F.slot_list_mul ⟨_,e,rfl⟩ F.entry_list_mul (F.args_list_mul_2 _ _) (AutoListH.list___mul___list_int_3 l its.toArray n k t hfit hcap hlong) ⟨e,?_⟩⟩)
 rw [hnew];exact ⟨.ref _,_,I.lnew (t':=s.toks) (r.rep k.toNat) (by rw [len_rep,Nat.mul_comm];exact hz),rfl,q _ I.fresh⟩
end
section
variable {prog:Program} {w:World} {A:Around} {E:Ja} {s:Sh}
set_option maxRecDepth 100000 in
end
section
variable {X:Cx}
end
end L2
namespace Att
open PySem PySem.W PySem.Calls PyProof.Rows
theorem Yw {P:Params} {h:Heap}:∀ (ns:Jb) (vs:Jd),WellAll P h vs (ns.map WData.int)->IntsAre vs ns:=by
 intro ns
 induction ns with
 | nil =>
  intro vs w;rw [List.map_nil] at w;cases w;exact .nil
 | cons n ns ih =>
  intro vs w;rw [List.map_cons] at w
  cases w with
  | cons a b =>
   cases a;exact .cons _ _ (ih _ b)
theorem script_of {l:OpenLaw} {n:Nat} (hn:l.most=some n) {P:Params} {h:Heap} {args:List WData} {vals:Jd}
  (hpre:l.row.toRowW.claim.pre args=true) (hwl:WellAll P h vals args) :
  ∃ a vs ns,vals=[Value.ref a]/\args=[WData.list (ns.map WData.int)]/\h.get? a=some { cls:=.type "list",data:=.seq vs.toArray }/\IntsAre vs ns/\ns.length<=n:=by
 have hsh:WShape.hasAll [] args [.list .int]=true:=(pre_splitW hpre).1;have hc:l.pre.holds [] { args:=args }=true:=(pre_splitW hpre).2;obtain ⟨d,r,rfl,h1,h2⟩:=hasAllW_cons hsh;obtain rfl:=hasAllW_nil h2;obtain ⟨xs,rfl,h3⟩:=hasW_list h1;obtain ⟨ns,rfl⟩:=items_int h3
 have hlen:ns.length<=n:=by
  unfold OpenLaw.pre at hc
  have h4:(WTm.not (.lt (.lit (.int (n:Int))) (.len (.arg 0)))).holds [] { args:=[.list (ns.map .int)] }=true:=by
   have h4:=(holds_andW hc).1;rw [hn] at h4;exact h4
  have h5:=condW_of h4 (w_not (w_lt w_lit (w_len_list (w_arg rfl))));rw [Ji] at h5;refine Nat.le_of_not_lt λq=>?_;have q':(n:Int)<((ns.length:Nat):Int):=by omega
  first
   | (rw [decide_eq_true q'] at h5;exact absurd h5 (by decide))
   | (simp at h5;omega)
 cases hwl with
 | cons w1 w2 =>
  cases w2
  cases w1 with
  | list ho hall=>exact ⟨_,_,ns,rfl,rfl,ho,Yw ns _ hall,hlen⟩
def post_true (l:OpenLaw) (args:List WData):l.row.toRowW.claim.post args (.bool true) args=true :=
 postW_of (r:=l.row.toRowW) (X:=(true == true))
  (show WShape.has [] (.bool true) .bool=true by first | rfl | decide | simp [WShape.has,WShape.arms,WShape.armsAll])
  (show (WTm.eq .res (.lit (.bool true))).value [] { args:=args,res:=some (.bool true),after:=args }=some (.bool (true == true)) from w_eq_bool (w_res rfl) w_lit) rfl
def attach_call {l:OpenLaw} {n:Nat} {q:Program} {loose:Jf} {XP:(J9)->Heap->Prop} {YP:World->Heap->Prop} {d:DefRec}
  (hn:l.most=some n) (hdf:d.params.defaults=[])
  (call:∀ (w:World) (s₀ s₁:Sh) (mg mb:J9) (fa:Ad) (o:Obj) (pm cd doc:Vl) (a:Ad) (vs:Jd) (ns:Jb),
   Ground q loose [] XP w s₀ mg mb s₁.heap->YP w s₁.heap ->
   s₁.heap.get? fa=some o->o.data=.func (docDef d.name d.params d.body d.scope pm cd doc)->s₁.heap.CodeRec cd d.name->mg d.name=some (.ref fa) ->
   s₁.heap.get? a=some { cls:=.type "list",data:=.seq vs.toArray }->IntsAre vs ns->ns.length<=n->s₁.gens=#[] ->
   codeAny (model l.prog w) callerA (.call (.ref fa) ⟨[.ref a],[]⟩) (λr s'=>r=.ok (.ret (.bool true))/\OldK s₁.heap s'.heap/\s'.os=s₁.os/\AllBare s'.gens) s₁) :
  WalkO q loose XP YP l.row.toRowW d [] (λf vs=>PySem.call f vs):=by
 intro w s₀ s₁ mg mb G Y fa o pm cd doc dV kV ho hd hcd hD hmg hg args vals as hpre hlay hrd hwl hlo;obtain rfl:dV=.none:=Dflts.none hD hdf;obtain rfl:kV=.none:=Dflts.noKw hD;obtain ⟨a,vs,ns,rfl,rfl,hobj,hints,hlen⟩:=script_of hn hpre hwl;refine enter_call (codeAny_mono (call w s₀ s₁ mg mb fa o pm cd doc a vs ns G Y ho (fd_plain hd) hcd hmg hobj hints hlen hg) λr s' hq=>?_);obtain ⟨rfl,h2,h3,h4⟩:=hq;exact ⟨.inl ⟨.bool true,.bool true,[],rfl,λ_=>rfl,.bool true,post_true l _,λ_=>⟨List.Pairwise.nil,λ_ hm=>(nomatch hm)⟩⟩,h2,h3,h4⟩
section
variable {prog:Program} {w:World} {A:Around} {E:Ja} {s:Sh} {K:Frag}
def noObjs (h:Heap):Heap:={ h with objs:=#[] }
theorem zbo (h:Heap) (b:Ad):(noObjs h).get? b=none:=by
 cases e:(noObjs h).get? b with
 | none=>rfl
 | some o=>exact absurd (Heap.lt_size e) (Nat.not_lt_zero _)
def ledger (h:Heap) (L d:Ad):Jc:=(List.range h.objs.size).filterMap λa=>if a=L∨a=d then none else (h.get? a).map λo=>(a,o)
def fr_all {h:Heap} {L:Ad} {m:J9} (n:h.Ns L m):Fr (noObjs h) L h m :=
 ⟨n,λb o e=>(by rw [zbo] at e;cases e),Nat.zero_le _⟩
end
end Att
namespace L2
open PySem PySem.Spec PyProof.Rows
theorem Xq:∀ {vs:Jd} {ns:Jb},IntsAre vs ns->Vals (ns.map V.int) vs
 | _,_,.nil=>.nil
 | _,_,.cons n t h=>.cons ⟨t,rfl⟩ (Xq h)
def Only (H:Hp):Prop:=∀ b,H b=none∨∃ o xs,H b=some (.frz o (.lst xs))
theorem law_call {P:Program} {w:World} {K:Fg} {mg mb:J9} {CX:CXT} {k:Nat} {fa a:Ad} {fd:FuncData} {x:Str} {sp:Sp} {s₁:Sh} {vs:Jd} {ns:Jb}
  (KX:K.In s₁.heap) (hns:s₁.heap.Ns mainGlobals mg) (hb:s₁.heap.Ns builtinsNs mb) (hbb:∀ x:Str,x≠"__name__"->mb x=bootBuiltins x) (hlim:s₁.heap.NoLimit) (hg:s₁.gens=#[])
  (ha:s₁.heap.get? a=some { cls:=.type "list",data:=.seq vs.toArray }) (hi:IntsAre vs ns) (hl:ns.length<=sizeLine) (hr:Room k callerA)
  (F:∀ base:Heap,K.In base->base.Ns mainGlobals mg->FnOk P w K mg base CX k fa fd [x] sp) (hbind:∀ (s:Sh) (u:Vl),BindsTo s fd ⟨[u],[]⟩ [(x,u)])
  (hsp:∀ H:Hp,Only H->SqL K H a (ns.map V.int)->sp [.ref a] H (λv _=>v=.bl true) λ_ _ _=>False)
  (hCX:∀ H e s',CX [] H s₁ (λ_ _ _=>False) e s'->False) :
  codeAny (model P w) callerA (.call (.ref fa) ⟨[.ref a],[]⟩) (λr s'=>r=.ok (.ret (.bool true))/\OldK s₁.heap s'.heap/\s'.os=s₁.os/\AllBare s'.gens) s₁:=by
 have rv:=Xq hi;have lenV:=hi.length
 have core:∀ H:Hp,Only H->SqL K H a (ns.map V.int)->HOk P w H s₁.heap->(∀ b,H b≠none->b=a)->(H a≠none->K.lookup a=none) ->
   codeAny (model P w) callerA (.call (.ref fa) ⟨[.ref a],[]⟩) (λr s'=>r=.ok (.ret (.bool true))/\OldK s₁.heap s'.heap/\s'.os=s₁.os/\AllBare s'.gens) s₁:=by
  intro H hO hS hok hA hK;have base_of:∀ {b:Ad} {o:Obj},s₁.heap.get? b=some o->H b=none->(hidT s₁.heap H).get? b=some o:=λe n=>hidT_get e n
  have noA:∀ {b:Ad} {o:Obj} {es:Array DictEntry} {ep:Nat},s₁.heap.get? b=some o->o.data=.dict es ep->H b=none:=λ{b o es ep} e d=>by
   cases q:H b with
   | none=>rfl
   | some u =>
    have e':b=a:=hA b (by rw [q];simp);subst e';rw [ha] at e;cases e;have d':Data.seq vs.toArray _=Data.dict es ep:=d;cases d'
  have nsK:∀ {b:Ad} {m:J9},s₁.heap.Ns b m->(hidT s₁.heap H).Ns b m:=λ{b m} ⟨o,es,ep,e,d,r⟩=>⟨o,es,ep,base_of e (noA e d),d,r⟩
  have hKb:K.In (hidT s₁.heap H):=λb o e=>base_of (KX b o e) (by
   cases q:H b with
   | none=>rfl
   | some u =>
    have e':b=a:=hA b (by rw [q];simp);subst e';rw [hK (by rw [q];simp)] at e;cases e)
  have hM:Mod K mg (hidT s₁.heap H):=⟨hKb,nsK hns,⟨mb,nsK hb,hbb⟩,let ⟨mc,h1,h2⟩:=hlim;⟨mc,nsK h1,h2⟩⟩;have e0:Env0 P w K mg (hidT s₁.heap H) callerA [] s₁ H:=⟨rfl,hM,λb o e=>of_hidT e,Nat.le_of_eq (hidT_size _ _),trivial,λb hb=>absurd (show b∈([]:Jg) from hb) (by simp),hok,.of_eq hg⟩;refine codeAny_mono ((F _ hKb (nsK hns)).run callerA [] s₁ H ⟨[.ref a],[]⟩ [.ref a] [.ref a] _ _ hr e0 (hbind s₁ (.ref a)) (.cons rfl .nil) (hsp H hO hS)) λr s' h=>?_
  cases r with
  | error e=>exact (hCX H e s' h).elim
  | ok fl =>
   cases fl with
   | next=>exact False.elim h
   | brk=>exact False.elim h
   | cont=>exact False.elim h
   | ret u =>
    obtain ⟨v,H',os,bare,un,hok',r',q⟩:=h;have q':v=.bl true:=q;subst q';obtain rfl:u=Value.bool true:=r';refine ⟨rfl,OldK.of_keep λb o e=>?_,os,bare⟩
    cases q:H b with
    | none=>exact un.keep b o e q (by intro z;exact absurd (show b∈([]:Jg) from z) (by simp)) (by simp)
    | some u =>
     rcases hO b with z | ⟨ob,xs,z⟩
     ·rw [q] at z;cases z
     ·have z2:=un.frzs b ob _ z
      obtain ⟨e1,_⟩:=hok b _ z;obtain ⟨e2,_⟩:=hok' b _ z2;rw [e] at e1;cases e1;exact e2
 cases hk:K.lookup a with
 | some o =>
  have e:=KX a o hk;rw [ha] at e;cases e;refine core (λ_=>none) (λ_=>.inl rfl) (.inr ⟨_,vs.toArray,_,hk,rfl,rfl,rfl,by rw [List.size_toArray,lenV];exact hl,by simpa using rv⟩) (λb u z=>by have z':(none:Option HO)=some u:=z;cases z') (λb z=>absurd rfl z) λz=>absurd rfl z
 | none =>
  refine core (λb=>if b=a then some (.frz { cls:=.type "list",data:=.seq vs.toArray } (.lst (ns.map V.int))) else none) (λb=>?_) (.inl (.inr ⟨{ cls:=.type "list",data:=.seq vs.toArray },if_pos rfl⟩)) (λb u z=>?_) (λb z=>?_) λ_=>hk
  ·by_cases hb:b=a
   ·exact .inr ⟨_,_,if_pos hb⟩
   ·exact .inl (if_neg hb)
  ·by_cases hb:b=a
   ·have z':=(if_pos hb).symm.trans z
    cases z';subst hb;exact ⟨ha,by rw [Ji];exact hl,vs,_,rv,ha⟩
   ·have z':=(if_neg hb).symm.trans z
    cases z'
  ·by_cases hb:b=a
   ·exact hb
   ·exact absurd (if_neg hb) z
def walk_of {l:PySem.W.OpenLaw} {n k:Nat} {q:Program} {loose:Jf} {XP:(J9)->Heap->Prop} {YP:World->Heap->Prop} {d:DefRec} {K:Params->Fg} {CX:World->CXT} {sp:World->Sp} {x:Str}
  (hn:l.most=some n) (hn2:n<=sizeLine) (hdf:d.params.defaults=[]) (hr:Room k callerA)
  (hY:∀ (w:World) (h:Heap),YP w h->(K w.params).In h)
  (F:∀ (w:World) (mg:J9) (fa:Ad) (h:Heap),(K w.params).In h->h.Ns mainGlobals mg->mg d.name=some (.ref fa) ->
   ∃ fd:FuncData,(∀ (s:Sh) (u:Vl),BindsTo s fd ⟨[u],[]⟩ [(x,u)]) /\
    ∀ base:Heap,(K w.params).In base->base.Ns mainGlobals mg->FnOk l.prog w (K w.params) mg base (CX w) k fa fd [x] (sp w))
  (hsp:∀ (w:World) (H:Hp) (a:Ad) (ns:Jb),ns.length<=n->Only H->SqL (K w.params) H a (ns.map V.int)->sp w [.ref a] H (λv _=>v=.bl true) λ_ _ _=>False)
  (hCX:∀ (w:World) (H:Hp) (s:Sh) (e:Vl) (s':Sh),CX w [] H s (λ_ _ _=>False) e s'->False) :
  PySem.W.WalkO q loose XP YP l.row.toRowW d [] (λf vs=>PySem.call f vs):=by
 refine Att.attach_call hn hdf λw s₀ s₁ mg mb fa o pm cd doc a vs ns G Y ho hd hcd hmg hobj hints hlen hg=>?_;have KX:=hY w _ Y;obtain ⟨fd,hb,hF⟩:=F w mg fa _ KX G.T.g hmg;exact law_call KX G.T.g G.T.b G.T.builtins G.T.nolimit hg hobj hints (Nat.le_trans hlen hn2) hr hF hb (λH hO hS=>hsp w H a ns hlen hO hS) λH e s'=>hCX w H s₁ e s'
end L2
/- THE LAST THEOREM (shape;LID,My.* are yours):
   My.Adr: a structure of the addresses that your layer names (classes,functions);My.Txt K t: a structure (Prop) of the equations over K;
   My.txt_mk:{K} {implicit addresses ..} (e1:nsIn K mainGlobals "law"=some (some (.ref f))) (e2:K.lookup f=some ⟨oc,od,.func (fnOf "law" "law" params body scope dV kV doc pm an cdv ct),sl⟩) (e3:codeIn K cdv "law"=true) ..:∃ t,My.Txt K t
set_option maxRecDepth 100000 in
set_option maxHeartbeats 0 in
(the tactic k_is has no namespace: write k_is) -/
namespace L2
open PySem PySem.Spec PyProof.Rows
def yj (s:Stmt) (j:Nat):Stmt:=match s with
 | .ClassDef _ _ _ body _ _ _ _ _ _ _=>body.getD j (.Pass ⟨0,0,0,0⟩)
 | _=>.Pass ⟨0,0,0,0⟩
def yQ (s:Stmt):Arguments:=match s with
 | .FunctionDef _ a _ _ _ _ _ _ _ _=>a
 | _=>{ posonlyargs:=[],args:=[],vararg:=none,kwonlyargs:=[],kw_defaults:=[],kwarg:=none,defaults:=[] }
def yv (s:Stmt):List Stmt:=match s with
 | .FunctionDef _ _ b _ _ _ _ _ _ _=>b
 | _=>[]
def zh (s:Stmt):Scope:=match s with
 | .FunctionDef _ _ _ _ _ _ sc _ _ _=>sc
 | _=>{ kind:=.function,names:=[],isGenerator:=false,isCoroutine:=false }
abbrev CX0:CXT:=λ_ _ _ _ _ _=>False
abbrev E0:XK:=λ_ _ _=>False
def zq {X:Cx}:xl CX0 X E0:=λ_ _ _ _ _ _ _ h=>h.elim
structure Fun (K:Fg) (x qual:Str) (st:Stmt) (f:Ad) (fd:FuncData):Prop where
 ex:∃ (oc:Vl) (od:Option Ad) (kV doc pm:Vl) (an:Option Ad) (cdv ct:Vl) (osl:Array (Je)),
  fd=PySem.W.fnOf x qual (yQ st) (yv st) (zh st) .none kV doc pm an cdv ct/\K.lookup f=some ⟨oc,od,.func fd,osl⟩/\PySem.W.codeIn K cdv qual=true
 kp:PySem.W.keepIn K (.ref f)=true
section
variable {P:Program} {w:World} {K:Fg} {mg:J9} {base:Heap}
def Fun.ok {x qual:Str} {st:Stmt} {f:Ad} {fd:FuncData} {N ps:Jf} {k:Nat} {sp:Sp} (F:Fun K x qual st f fd) (S:FnScope N ps (zh st)) (len:∀ vs H Q E,sp vs H Q E->vs.length=ps.length)
  (hbody:∀ (cdv:Vl) (A:Around) (outer:List Env) (s:Sh) (H:Hp) (vs:Jn) (Q:VK) (E:XK),Room k (A.deeper (envOfC qual (zh st) s.heap.objs.size f cdv))->sp vs H Q E ->
   ∃ t,PSs (yd CX0 P w K mg base N qual (zh st) f cdv A outer s H E).nox (yv st) t/\t { nx:=λ_ H'=>Q .non H',rt:=Q } (ZJ N vs) H):FnOk P w K mg base CX0 (k+1) f fd ps sp:=by
 obtain ⟨oc,od,kV,doc,pm,an,cdv,ct,osl,rfl,lk,hcd⟩:=F.ex;refine fn_of lk hcd S len λA outer s H vs Q E hr hsp=>?_;obtain ⟨t,h,q⟩:=hbody cdv A outer s H vs Q E hr hsp;exact ⟨t,h.nox,q⟩
def Fun.binds {x qual:Str} {st:Stmt} {f:Ad} {fd:FuncData} {ps:Jf} (F:Fun K x qual st f fd)
  (h:∀ (kV doc pm:Vl) (an:Option Ad) (cdv ct:Vl) (us:Jd),us.length=ps.length->bindArgs (PySem.W.fnOf x qual (yQ st) (yv st) (zh st) .none kV doc pm an cdv ct) ⟨us,[]⟩=pure (ps.zip us)):Binds K fd ps []:=by
 obtain ⟨oc,od,kV,doc,pm,an,cdv,ct,osl,rfl,lk,hcd⟩:=F.ex;exact .all (h kV doc pm an cdv ct)
def ZG {x qual:Str} {st:Stmt} {f:Ad} {oc:Vl} {od an:Option Ad} {osl:Array (Je)} {kV doc pm cdv ct:Vl} (l:K.lookup f=some ⟨oc,od,.func (PySem.W.fnOf x qual (yQ st) (yv st) (zh st) .none kV doc pm an cdv ct),osl⟩)
  (c:PySem.W.codeIn K cdv qual=true) (k:PySem.W.keepIn K (.ref f)=true):Fun K x qual st f (PySem.W.fnOf x qual (yQ st) (yv st) (zh st) .none kV doc pm an cdv ct):=⟨⟨oc,od,kV,doc,pm,an,cdv,ct,osl,rfl,l,c⟩,k⟩
end
section
variable {X:Cx}
def pv (i:Nat) {x:Str} {pos:Pos} (hN:X.N[i]?=some x:=by rfl) (hv:Vis X.env.scope x:=by first | exact Or.inl rfl | exact Or.inr (Or.inl rfl) | exact Or.inr (Or.inr rfl)) (hd:(x == ("__debug__":Str))=false:=by decide)
  (hcd:(x == ("__classdict__":Str))=false:=by decide):PE X (.Name x pos) (tVar i):=pe_var hN hv hd hcd
end
def ym {A B:Prop} (h:B):if false=true then A else B:=by
 rw [if_neg q2x];exact h
def xa {A B:Prop} (h:A):if true=true then A else B:=by
 rw [if_pos rfl];exact h
def xE {c A B:Prop} [Decidable c] (h1:c->A) (h2:¬ c->B):if c then A else B:=by
 by_cases h:c
 ·rw [if_pos h]
  exact h1 h
 ·rw [if_neg h]
  exact h2 h
def Same (H H':Hp):Prop:=∀ b o,H b=some o->H' b=some o
def Same.refl (H:Hp):Same H H:=λ_ _ h=>h
def Same.trans {H H1 H2:Hp} (a:Same H H1) (b:Same H1 H2):Same H H2:=λc o h=>b c o (a c o h)
theorem Same.free {H H':Hp} (e:Same H H') {l:Ad} (h:H' l=Option.none):H l=Option.none:=by
 cases q:H l with
 | none=>rfl
 | some o =>
  rw [e l o q] at h;cases h
structure Fly (base:Heap) (outer:List Env) (H:Hp) (s h:Heap) (e:Ad) (cls:Vl):Prop where
 stays:base.StaysIn h
 frames:h.FunFrames base outer
 baseE:base.get? e=none
 newE:s.get? e=none
 freeE:H e=none
 tr:∃ oe vs T oT ts,h.get? e=some oe/\oe.cls=cls/\oe.data=.fields vs/\vs[1]?=some (.ref T)/\T≠e/\h.get? T=some oT/\oT.data=.fields ts/\ts[3]?=some .none/\base.get? T=none/\s.get? T=none/\H T=none
section
variable {X:Cx} {pins:Jc} {σ:St} {H:Hp} {s:Sh} {e:Ad} {cls:Vl}
end
section
variable {X:Cx} {pins:Jc} {σ:St} {H H':Hp} {s s':Sh} {e:Ad} {cls:Vl}
end
section
variable {P:Program} {w:World} {K:Fg} {mg:J9} {base:Heap} {N:Jf} {qual:Str} {scope:Scope} {f:Ad} {cd:Vl} {A:Around} {outer:List Env} {s:Sh} {H:Hp} {E:XK}
end
end L2
namespace My
open PySem PySem.Spec PySem.Calls PySem.W PyProof.Rows PySem.Builtin PySem.Builtin.ObjectAttr PySem.Builtin.Getset_descriptor
def ClsAt (x D:Ad) (h:Heap):Prop:=∃ o,h.get? x=some o/\o.cls=.ref D
def Z5 {x D:Ad} (M:Model) (h:Heap) (p:ClsAt x D h):Looks M h (typeOf (.ref x)) (.ref D):=by
 obtain ⟨o,a,b⟩:=p;exact b ▸ (Looks.ld a).andThen .now
def find_data {K:Frag} {M:Model} {h:Heap} (X:K.In h) {x D:Ad} {name:Str} {g a:Vl} (ha:findIn K (.ref D) name=some (some a)) (hn:specialIn K a "__get__"=some (some g)) (htk:takesIn K a=some true) :
  Looks M h (find (.ref x) (.ref D) name) (.bind g a) :=
 (looks_findIn X ha).andThen ((show Looks M h (getOf (some a)) (some g) from looks_specialIn X hn).andThen ((show Looks M h (dataDescriptor? (some a) (some g)) (some (g,a)) from (looks_takesIn X htk).andThen .now).andThen (Looks.tag .now)))
section
variable {prog:Program} {w:World} {A:Around} {E:Ja} {s:Sh} {K:Frag} {x D:Ad} {R:Result->Sh->Prop}
def class_of {tp:Vl} (X:K.In s.heap) (p:ClsAt x D s.heap) (hm:mroIn K D (.type "object")=some true) (h:R (.ok (.ret (.ref D))) s) :
  codeAny (model prog w) A (.call (.builtin "getset_descriptor.__get__") ⟨[.builtin "object.__class__",.ref x,tp],[]⟩) R s:=by
 obtain ⟨h0,g0,d0,t0,o0⟩:=s;have T0:=Z5 (model prog w) h0 p;have T1:=looks_mroIn (M:=model prog w) X hm;refine codeAny_call_builtin KF.slot_gs.plain KF.entry_gs (KF.slot_gs.check _ _ _ _ _ _ _ _ KF.type_class (KF.args_gs _ _ _) ?_);unfold Builtin.«getset_descriptor.__get__» descrGet;rw [dga_obj];refine q0x (q0y ?_);unfold descrGetter descrCheckInstance descrNameAndClass isInstance;simp only [KF.owner_class]
 repeat lk
 refine ⟨Code.quiet_builtin _ (by decide +kernel),codeAny_builtin KF.entry_class ?_⟩;unfold Builtin.«object.__class__» shownTypeOf
 repeat lk
 exact h
def ga_check {M:Model} {Q:Unit->Sh->Prop} {nameV:Vl} {h0:Heap} {g0:Array GenState} {d0:Drawn} {t0:Nat} {o0:OsState} (T0:Looks M h0 (typeOf (.ref x)) (.ref D)) (TS:Looks M h0 (isSubtype (.ref D) (.type "BaseException")) true) (hq:Q () ⟨h0,g0,d0,t0,o0⟩) :
  wpAny M A (checkBuiltinCall "BaseException.__getattribute__" ⟨[.ref x,nameV],[]⟩) Q E ⟨h0,g0,d0,t0,o0⟩:=by
 have e1:builtinKind "BaseException.__getattribute__"=some .slot:=by decide +kernel
 have e2:splitId "BaseException.__getattribute__"=some ("BaseException","__getattribute__"):=by decide +kernel
 have e3:=F.args_bexc_ga (.ref x) nameV;simp only [checkBuiltinCall,e1,e2];refine q0x ?_;unfold isInstance
 repeat (first | lk | wp_step)
 exact hq
def ga_entry {Q:Fin->Sh->Prop} {tk:Tok} {h0:Heap} {g0:Array GenState} {d0:Drawn} {t0:Nat} {o0:OsState} (X:K.In h0) (p:ClsAt x D h0) (ha:findIn K (.ref D) "__class__"=some (some (.builtin "object.__class__")))
  (hn:specialIn K (.builtin "object.__class__") "__get__"=some (some (.builtin "getset_descriptor.__get__"))) (htk:takesIn K (.builtin "object.__class__")=some true) (hm:mroIn K D (.type "object")=some true) (hq:Q (.done (.ret (.ref D))) ⟨h0,g0,d0,t0,o0⟩) :
  wpAny (model prog w) A (Builtin.«object.__getattribute__» ⟨[.ref x,.str "__class__" tk],[]⟩) Q E ⟨h0,g0,d0,t0,o0⟩:=by
 have T0:=Z5 (model prog w) h0 p;have T2:=find_data (M:=model prog w) X (x:=x) ha hn htk;unfold Builtin.«object.__getattribute__»;refine q0x (q0y ?_)
 repeat (first | (with_reducible refine q0x (T0.at ?_)) | (with_reducible refine q0x (T2.at ?_)) | wp_step)
 refine class_of (s:=⟨h0,g0,d0,t0,o0⟩) X p hm ?_
 repeat (any_goals (first | assumption | wp_step))
def zb0 {Q:Je->Sh->Prop} (hg:findIn K (.ref D) "__getattribute__"=some (some (.builtin "BaseException.__getattribute__"))) (hgg:findIn K (.ref D) "__getattr__"=some none) (hsb:subIn K (.ref D) (.type "BaseException")=some true) (ha:findIn K (.ref D) "__class__"=some (some (.builtin "object.__class__")))
  (hn:specialIn K (.builtin "object.__class__") "__get__"=some (some (.builtin "getset_descriptor.__get__"))) (htk:takesIn K (.builtin "object.__class__")=some true) (hm:mroIn K D (.type "object")=some true)
  (X:K.In s.heap) (p:ClsAt x D s.heap) (h:Q (some (.ref D)) { s with toks:=s.toks+1 }):wpAny (model prog w) A (getAttr? (.ref x) "__class__") Q E s:=by
 obtain ⟨h0,g0,d0,t0,o0⟩:=s;have T0:=Z5 (model prog w) h0 p;have T1:=looks_findIn (M:=model prog w) X hg;have T3:=looks_findIn (M:=model prog w) X hgg;have TS:=looks_subIn (M:=model prog w) X hsb;have f3:=F.excAttr_ValueError.ga.bind (.ref x);have hx2:(Value.builtin "BaseException.__getattribute__" == Value.builtin "object.__getattribute__")=false:=by decide +kernel
 have hx1:(onTheHeap (Value.ref D) && Value.builtin "BaseException.__getattribute__" == Value.builtin "object.__getattribute__")=false:=by rw [hx2];rfl
 unfold getAttr? getAttrBy? getAttrBy;refine q0x (wpAny_mkText (q0x (wpAny_attempt (wpAny_holding (q0x (T0.at (q0x (T1.at ?_))))))));dsimp only;rw [if_neg (by rw [hx1];exact q2x)];unfold getAttrByItsOwn hookBefore;rw [if_pos (show onTheHeap (Value.ref D)=true from rfl)];refine q0x (T3.at ?_)
 repeat (any_goals (first | assumption | wp_step | lk))
 refine codeAny_call_builtin F.excAttr_ValueError.ga.plain F.entry_bexc_ga (ga_check T0 TS (ga_entry (K:=K) X p ha hn htk hm ?_))
 repeat (any_goals (first | assumption | wp_step))
def kitx_exc (hg:findIn K (.ref D) "__getattribute__"=some (some (.builtin "BaseException.__getattribute__"))) (hgg:findIn K (.ref D) "__getattr__"=some none) (hsb:subIn K (.ref D) (.type "BaseException")=some true) (hd:hasDictIn K D=true) (ha:findIn K (.ref D) "__class__"=some (some (.builtin "object.__class__")))
  (hn:specialIn K (.builtin "object.__class__") "__get__"=some (some (.builtin "getset_descriptor.__get__"))) (htk:takesIn K (.builtin "object.__class__")=some true) (hm:mroIn K D (.type "object")=some true) :
  KitX K (.ref x) (.ref D) (ClsAt x D) where
 ty:=λM h _ p=>Z5 M h p
 it:=λM h X _=>by
  obtain ⟨c,hc,_⟩:=any_some hd;unfold clsIn at hc
  split at hc
  ·rename_i u1 u2 u3 u4 ho
   intro A' Q' E' s' k q;unfold isType loadHead;exact q0x (wpAny_loadPart (k _ _ (X _ _ ho)) (q0y q))
  ·cases hc
 ne:=λh tp dd its n sl X e=>by
  obtain ⟨c,hc,_⟩:=any_some hd;refine Bool.eq_false_iff.mpr λq=>?_;obtain rfl:D=tp:=Value.ref.inj (beq_iff_eq.mp q);unfold clsIn at hc
  split at hc
  ·rename_i u1 u2 u3 u4 ho
   have z:=(X _ _ ho).symm.trans e;cases z
  ·cases hc
 ca:=λX p k=>zb0 hg hgg hsb ha hn htk hm X p k
end
end My
namespace L2
open PySem PySem.Spec PyProof.Rows
section
variable {X:Cx} {pins:Jc} {σ:St} {H H':Hp} {s s':Sh} {e C:Ad}
structure Mid (X:Cx) (H':Hp) (s:Heap) (s':Heap) (e C:Ad) (B:Heap) (a0:Vl) (T:Ad) (h:Heap):Prop where
 fly:Heap.FlyingW B (X.env::X.outer) e (.ref C) a0 h
 slots:s'.UpToSlots h
def Landed (X:Cx) (pins:Jc) (σ:St) (H':Hp) (e C:Ad) (s1:Sh):Prop :=
 ∃ (H:Hp) (s s':Sh) (B:Heap) (a0:Vl) (T:Ad),Inv X pins σ H s/\Un (frs X.stack) [] H H' s.heap s'.heap/\HOk X.prog X.w H' s'.heap/\AllBare s'.gens/\s'.os=s.os/\Fly X.base X.stack H' s.heap s'.heap e (.ref C) /\
  s.heap.get? T=none/\H' T=none/\(∀ b o,b ∉ e::T::frs X.stack->s'.heap.get? b=some o->B.get? b=some o)/\Heap.FlyingW B (X.env::X.outer) e (.ref C) a0 s1.heap/\s'.heap.UpToSlots s1.heap/\s1={ s' with heap:=s1.heap }
def Landed.free {s1:Sh} (l:Landed X pins σ H' e C s1):H' e=none:=by
 obtain ⟨H,s,s',B,a0,T,I,u,hok,bare,os,fl,_⟩:=l;exact fl.freeE
def excO (e C:Ad):HO:=.ext (My.ClsAt e C)
end
section
variable {X:Cx} {pins:Jc} {σ σ₀:St} {H H':Hp} {s s':Sh} {R:Ad->Hp->Prop}
structure Disp (P:Program) (w:World) (K:Fg) (mg:J9) (base:Heap) (CX:CXT) (k:Nat) (m:Str) (ps:Jf) (sp:Sp) (C:Ad):Prop where
 cl:Cls K C
 to:∃ (f:Ad) (fd:FuncData),Meth K C m f/\FnOk P w K mg base CX k f fd ps sp/\Binds K fd ps []
end
def Zf (w:World) (K:Fg) (a:Ad):Prop:=∃ es n,K.lookup a=some ⟨.type "dict",none,.dict es n,#[]⟩/\PySem.W.KeysLit w.params es.toList
section
variable {X:Cx} {a:Ad} {ke:Expr} {tk:TE} {p pos:Pos} {D:Str}
def top_item {pins:Jc} {σ:St} {H:Hp} {s:Sh} {x:Str} {t:Tok} {u:Vl} {A:Around} {E:Ja} {Q:Ja} (I:Inv X pins σ H s) (T:Zf X.w X.K a) (e:PySem.W.nsIn X.K a x=some (some u)) (h:Q u { s with toks:=s.toks+1 }) :
  wpAny (model X.prog X.w) A (getItem (.ref a) (.str x t)) Q E s:=by
 obtain ⟨es,n,hl,hk⟩:=T;exact wpAny_getItem_of (strKind_is X.prog X.w x t) (PySem.W.mapOf_K (prog:=X.prog) I.kIn hl hk) (PySem.W.find_K hl e) h
def top_in {pins:Jc} {σ:St} {H:Hp} {s:Sh} {x:Str} {t:Tok} {r:Je} {A:Around} {E:Ja} {Q:Ja} (I:Inv X pins σ H s) (T:Zf X.w X.K a) (e:PySem.W.nsIn X.K a x=some r) (lo:(a == sysModules)=false) (h:Q (.bool r.isSome) { s with toks:=s.toks+1 }) :
  wpAny (model X.prog X.w) A (compareOp .In (.str x t) (.ref a)) Q E s:=by
 obtain ⟨es,n,hl,hk⟩:=T;exact wpAny_in_of (strKind_is X.prog X.w x t) lo (PySem.W.mapOf_K (prog:=X.prog) I.kIn hl hk) (by rw [PySem.W.find_K hl e];exact h)
inductive rTopIn (w:World) (K:Fg) (x y:V) (H:Hp) (Q:VK):Prop
 | mk (k:Str) (a:Ad) (r:Je) (_:x=.str k) (_:y=.ref a) (_:Zf w K a) (_:(a == sysModules)=false) (_:PySem.W.nsIn K a k=some r) (_:Q (.bl r.isSome) H)
def Xt:OpR X (compareOp .In) (rTopIn X.w X.K):=by
 intro pins s σ H x y v u Q I rx ry h;obtain ⟨k,a,r,rfl,rfl,T,lo,e,q⟩:=h;obtain ⟨t,rfl⟩:=(show ∃ t,v=Value.str k t from rx);cases (show u=Value.ref a from ry);exact top_in I T e lo ⟨.bl r.isSome,H,I.tok _,rfl,q⟩
inductive tCallV_S (P:Program) (w:World) (K:Fg) (mg:J9) (base:Heap) (CX:CXT) (k:Nat) (E:XK) (t:TA) (σ:St) (Q:VK) (x:V) (H1:Hp):Prop
 | mk (f:Ad) (fd:FuncData) (ps:Jf) (sp:Sp) (_:x=.ref f) (_:FnOk P w K mg base CX k f fd ps sp) (_:PySem.W.keepIn K (.ref f)=true) (_:Binds K fd ps []) (_:t σ H1 λvs H2=>sp vs H2 Q E)
def tCallV (P:Program) (w:World) (K:Fg) (mg:J9) (base:Heap) (CX:CXT) (k:Nat) (E:XK) (tf:TE) (t:TA):TE:=λσ H Q=>tf σ H λx H1=>tCallV_S P w K mg base CX k E t σ Q x H1
def YR {CX:CXT} {k:Nat} {E:XK} {func e:Expr} {es:Jh} {tf:TE} {t:TA} (hf:PE X func tf) (hr:Room k X.A) (hx:xl CX X E) (ha:PA X (e::es) t)
  (he:starEach (e::es) X.env=(false,eval e X.env)::starEach es X.env:=by rfl) (hpl:(backTo pos (starEach es X.env)).any (·.1)=false:=by rfl)
  (hc:eval (.Call func (e::es) [] pos) X.env=(do callWith pos (← eval func X.env) [] (backTo pos (starEach (e::es) X.env)) (backToKw pos (keywordEach [] X.env))):=by rfl) :
  PE X (.Call func (e::es) [] pos) (tCallV X.prog X.w X.K X.mg X.base CX k E tf t):=by
 intro pins s σ H Q I h;refine Call_ (thn (hf pins s σ H _ I h) λu s1 ⟨x,H1,I1,rx,f,fd,ps,sp,ex,F,hk,hb,q⟩=>?_) hc;subst ex;obtain rfl:u=Value.ref f:=rx;refine PySem.W.callWith_K (h₀:=X.base) I.ok.mod.kin hk (thn (ha pos pins s1 σ H1 _ I1 q) λus s2 ⟨vs,H2,I2,r,q2⟩=>⟨I2.kIn,?_⟩) he hpl;exact XS (dvs:=[]) (ds:=[]) F hr hb .nil hx I2 r (by simpa using q2)
end
section
variable {X:Cx}
inductive rIxTop (w:World) (K:Fg) (x y:V) (H:Hp) (Q:VK):Prop
 | mk (a:Ad) (k:Str) (u:Vl) (v:V) (_:x=.ref a) (_:y=.str k) (_:Zf w K a) (_:PySem.W.nsIn K a k=some (some u)) (_:RelV v u) (_:Q v H)
def ix_top:IxR X (rIxTop X.w X.K):=by
 intro value slice pins s σ H x y v u Q I rx ry h hs;obtain ⟨a,k,u',z,rfl,rfl,T,e,r,q⟩:=h;cases (show v=Value.ref a from rx);obtain ⟨t,rfl⟩:=(show ∃ t,u=Value.str k t from ry);have T':=T;obtain ⟨es,n,hl,hk⟩:=T';exact tail_any (PySem.W.mapOf_K (prog:=X.prog) I.kIn hl hk).typeIs slot_dict_getitem.lookup (top_item I T e ⟨z,H,I.tok _,r,q⟩) hs
structure ExcCls (K:Fg) (C:Ad):Prop where
 hg:PySem.W.findIn K (.ref C) "__getattribute__"=some (some (.builtin "BaseException.__getattribute__"))
 hgg:PySem.W.findIn K (.ref C) "__getattr__"=some none
 hsb:PySem.W.subIn K (.ref C) (.type "BaseException")=some true
 hd:PySem.W.hasDictIn K C=true
 ha:PySem.W.findIn K (.ref C) "__class__"=some (some (.builtin "object.__class__"))
 hn:PySem.W.specialIn K (.builtin "object.__class__") "__get__"=some (some (.builtin "getset_descriptor.__get__"))
 ht:PySem.W.takesIn K (.builtin "object.__class__")=some true
 hm:PySem.W.mroIn K C (.type "object")=some true
def TyX (K:Fg) (H:Hp) (x:V) (t:Vl):Prop:=TyOf K H x t∨∃ e C,x=.ref e/\H e=some (excO e C)/\t=.ref C/\ExcCls K C
inductive rIsi (K:Fg) (vs:Jn) (H:Hp) (Q:VK):Prop
 | mk (x c:V) (cv t:Vl) (b:Bool) (_:vs=[x,c]) (_:RelV c cv) (_:(∀ u,RelV c u->u=cv)) (_:TyX K H x t) (_:PySem.W.kitOne K t cv=some b) (_:Q (.bl b) H)
def yg:Zh X (.builtin "isinstance") (rIsi X.K):=by
 intro pins s σ H xs us Q I r h;obtain ⟨x,c,cv,t,b,rfl,rc,ic,ty,e,q⟩:=h;obtain ⟨u,w',rfl,ru,rw'⟩:=YD r;cases ic w' rw';rcases ty with ty | ⟨ea,C,rfl,he,rfl,ec⟩
 ·exact isinst_ok I ru ty e λtk=>⟨.bl b,H,I.tok _,rfl,q⟩
 ·cases (show u=Value.ref ea from ru)
  obtain ⟨p,_⟩:=(show ObjOk X.prog X.w H s.heap ea (excO ea C) from I.hok ea _ he);exact PySem.W.kia_one (My.kitx_exc ec.hg ec.hgg ec.hsb ec.hd ec.ha ec.hn ec.ht ec.hm) I.kIn p e (λz=>nomatch z) λtk=>⟨.bl b,H,I.tok _,rfl,q⟩
end
section
variable {P:Program} {w:World} {K:Fg} {mg:J9} {base:Heap}
def zr (K:Fg) (mg:J9) (x:Str) (st:Stmt) (ps:Jf):Prop:=∃ (f:Ad) (fd:FuncData),mg x=some (.ref f)/\Fun K x x st f fd/\Binds K fd ps []
def defIn_mk {h:Heap} {x:Str} {st:Stmt} {ps:Jf} {f:Ad} {oc:Vl} {od an:Option Ad} {osl:Array (Je)} {kV doc pm cdv ct:Vl} (X:K.In h) (G:h.Ns mainGlobals mg)
  (a:PySem.W.nsIn K mainGlobals x=some (some (.ref f))) (l:K.lookup f=some ⟨oc,od,.func (PySem.W.fnOf x x (yQ st) (yv st) (zh st) .none kV doc pm an cdv ct),osl⟩)
  (c:PySem.W.codeIn K cdv x=true) (k:PySem.W.keepIn K (.ref f)=true)
  (b:∀ (kV doc pm:Vl) (an:Option Ad) (cdv ct:Vl) (us:Jd),us.length=ps.length->bindArgs (PySem.W.fnOf x x (yQ st) (yv st) (zh st) .none kV doc pm an cdv ct) ⟨us,[]⟩=pure (ps.zip us)):zr K mg x st ps :=
 ⟨f,_,PySem.W.mg_of X G a,ZG l c k,(ZG l c k).binds b⟩
def Ok (P:Program) (w:World) (K:Fg) (mg:J9) (base:Heap) (CX:CXT) (k:Nat) (x:Str) (ps:Jf) (sp:Sp):Prop :=
 ∃ (f:Ad) (fd:FuncData),mg x=some (.ref f)/\PySem.W.keepIn K (.ref f)=true/\Binds K fd ps []/\FnOk P w K mg base CX k f fd ps sp
def Ok.mono {CX:CXT} {j k:Nat} {x:Str} {ps:Jf} {sp:Sp} (o:Ok P w K mg base CX j x ps sp) (h:j<=k):Ok P w K mg base CX k x ps sp:=by
 obtain ⟨f,fd,a,b,c,d⟩:=o;exact ⟨f,fd,a,b,c,d.mono h⟩
end
def zK {X:Cx} {CX:CXT} {k:Nat} {x:Str} {ps:Jf} {sp:Sp} {E:XK} {p pos:Pos} {e:Expr} {es:Jh} {t:TA} (o:Ok X.prog X.w X.K X.mg X.base CX k x ps sp) (hr:Room k X.A) (hg:Gl X x) (hx:xl CX X E) (ha:PA X (e::es) t)
  (hdb:(x == ("__debug__":Str))=false:=by decide) (he:starEach (e::es) X.env=(false,eval e X.env)::starEach es X.env:=by rfl) (hpl:(backTo pos (starEach es X.env)).any (·.1)=false:=by rfl) :
  PE X (.Call (.Name x p) (e::es) [] pos) (tCall sp [] E t):=by
 obtain ⟨f,fd,a,b,c,d⟩:=o;exact pe_call d hr hg a b c .nil hx ha hdb he hpl
theorem X5:∀ {ns:Jb} {us:Jd},Vals (ns.map V.int) us->IntsAre us ns
 | [],_,.nil=>.nil
 | n::ns,_,.cons ⟨t,e⟩ r=>by subst e;exact .cons n t (X5 r)
section
variable {X:Cx}
def zaq:OpR X (binaryOp .FloorDiv) (rI (λ_ j=>j≠0/\-18446744073709551616<j/\j<18446744073709551616) λi j=>.int (i.fdiv j)):=opI λi j _ _ _ _ _ hc q=>floordiv_int hc.1 q (.inl (PyProof.noPylong_of_log2 (by
 have h64:j.natAbs<2 ^ 65:=by omega
 have:=(Nat.log2_lt (by omega:j.natAbs≠0)).mpr h64;omega)))
end
def XY {X:Cx} {x:Str} {i:Int} {t:Tok} {pos:Pos} (hm:X.mg x=some (.int i t)) (hg:Gl X x:=by rfl) (hd:(x == ("__debug__":Str))=false:=by decide):PE X (.Name x pos) (tC (.int i)):=pe_glob hg hm (v:=.int i) ⟨_,rfl⟩ hd
def ZU {X:Cx} {x:Str} {a:Ad} {pos:Pos} (hm:X.mg x=some (.ref a)) (hg:Gl X x:=by rfl) (hd:(x == ("__debug__":Str))=false:=by decide):PE X (.Name x pos) (tC (.ref a)):=pe_glob hg hm (v:=.ref a) rfl hd
def xC {X:Cx} {x:Str} {n:String} {pos:Pos} (hm:X.mg x=none) (hv:bootBuiltins x=some (.type n)) (hg:Gl X x:=by rfl) (hn:x≠"__name__":=by decide) (hd:(x == ("__debug__":Str))=false:=by decide):PE X (.Name x pos) (tC (.ty n)):=pe_bltn hg hm hv (v:=.ty n) rfl hn hd
abbrev Cx.comp (X:Cx) (scope:Scope) (cl:List (Str×Ad)) (NY:Jf) (s3:Sh) (H3:Hp) (fp:Jg):Cx :=
 { X with N:=NY,s₀:=s3,H₀:=H3,env:=compEnvC scope cl s3.heap.objs.size X.env,outer:=X.stack,ex:=fp,fn:=λ_=>false,pn:=[],xe:=λ_ _=>False }
abbrev Lz:Obj:={ cls:=.type "list",data:=.seq ([]:Jd).toArray }
abbrev pz (s:Sh):Sh:={ s with heap:=s.heap.push Lz }
abbrev Xz (X:Cx) (scope:Scope) (cl:List (Str×Ad)) (NY:Jf) (s2:Sh) (H2:Hp) (fp:Jg):Cx:=X.comp scope cl NY (pz s2) (upd H2 s2.heap.objs.size (.lst [])) fp
structure Sees (X:Cx) (scope:Scope) (cl:List (Str×Ad)):Prop where
 kind:scope.kind=.function
 clos:closureFor scope X.env=pure cl
 nocell:∀ y∈scope.names,y.2≠.cell
 names:∀ y∈scope.names,y.2=.local->scope.names.lookup y.1=some .local
 sub:∀ x c,cl.lookup x=some c->X.env.cells.lookup x=some c
 has:∀ x,((compEnvC scope cl 0 X.env).kindOf x=some .cell∨(compEnvC scope cl 0 X.env).kindOf x=some .free)->∃ c,cl.lookup x=some c
section
variable {X:Cx} {pins:Jc} {σ:St} {H3:Hp} {s3:Sh} {scope:Scope} {cl:List (Str×Ad)} {NY:Jf} {fp:Jg}
def comp_ok (I:Inv X pins σ H3 s3) (S:Sees X scope cl) (hfp:∀ b∈fp,xF X pins H3 b) (hob:∀ b∈fp,∃ o,s3.heap.get? b=some o):(X.comp scope cl NY s3 H3 fp).Ok where
 mod:=I.ok.mod
 kind:=S.kind
 glob:=I.ok.glob
 blt:=I.ok.blt
 above:=Nat.le_refl _
 inj:=λx y c a b=>I.ok.inj x y c (S.sub _ _ a) (S.sub _ _ b)
 has:=λx h=>S.has x h
 cab:=λ_ _ h=>nomatch h
 hd:=I.ok.hd
 frames:=I.ok.frames
 stk:=.inl rfl
 exf:=λb hb=>⟨λz=>by
  obtain ⟨o,q⟩:=hob b hb;exact absurd (Heap.lt_size q) (by rw [z];exact Nat.lt_irrefl _),λx c q=>(hfp b hb).2.2.2.2.1 x c (S.sub _ _ q)⟩
 bs:=I.bs
 bsz:=Nat.le_trans I.ok.bsz I.sz
 noex:=λb o q hb=>by
  rcases (hfp b hb).2.2.2.1 with z | z
  ·exact I.ok.noex b o q z
  ·exact absurd (q2z (Heap.lt_size q) (Nat.le_trans I.ok.bsz z)) (Nat.lt_irrefl _)
 exfs:=λb hb z=>by
  rcases List.mem_cons.mp (I.stkSub b z) with y | y
  ·exact (hfp b hb).2.1 y
  ·exact (hfp b hb).2.2.1 y
 funs:=I.stack
 frf:=I.stkFree
def Xa {h1:Heap} {t:Nat} {σY:St} (I:Inv X pins σ H3 s3) (S:Sees X scope cl) (hfp:∀ b∈fp,xF X pins H3 b) (hob:∀ b∈fp,∃ o,s3.heap.get? b=some o)
  (hn:h1.Ns s3.heap.objs.size λ_=>none) (hk:∀ b o,s3.heap.get? b=some o->h1.get? b=some o) (hl:σY.length=NY.length)
  (hσ:∀ (i:Nat) (x:Str) (v:V),NY[i]?=some x->σY[i]?=some (some v)->∃ c u,(((compEnvC scope cl 0 X.env).kindOf x=some .cell∨(compEnvC scope cl 0 X.env).kindOf x=some .free))/\cl.lookup x=some c/\RelV v u/\s3.heap.IsCell c (some u)) :
  Inv (X.comp scope cl NY s3 H3 fp) [] σY H3 { s3 with heap:=h1,toks:=t } where
 ok:=comp_ok I S hfp hob
 os:=rfl
 bare:=I.bare
 base:=Un.kept hk
 loc:=⟨_,hn,λi x v e1 e2 _=>by
  obtain ⟨c,u,k,q,r,z⟩:=hσ i x v e1 e2;obtain ⟨o,z1,z2⟩:=z;exact ⟨u,r,.inr ⟨k,c,q,o,hk _ _ z1,z2⟩⟩⟩
 cell:=λx c q=>by
  obtain ⟨v,o,z1,z2⟩:=I.cell x c (S.sub _ _ q);exact ⟨v,o,hk _ _ z1,z2⟩
 free:=I.hok.fresh (Nat.le_refl _)
 freeC:=λx c q=>I.freeC x c (S.sub _ _ q)
 pin:=λp hp=>absurd hp (by simp)
 hok:=I.hok.kept hk
 len:=hl
def Yn {Y:Jc} {σY:St} {H':Hp} {s':Sh} {h':Heap} (I:Inv X pins σ H3 s3) (hfp:∀ b∈fp,xF X pins H3 b) (J:Inv (X.comp scope cl NY s3 H3 fp) Y σY H' s') (hs:Heap.SameBut s3.heap.objs.size s'.heap h') :
  Inv X pins σ H' { s' with heap:=h' }:=by
 have ne:∀ b o,s3.heap.get? b=some o->b≠s3.heap.objs.size:=λb o q=>Nat.ne_of_lt (Heap.lt_size q);have B:=J.base;refine I.call' (s':={ s' with heap:=h' }) (ch:=fp) J.os ⟨λb o q n hb hx=>?_,λb o q n hb hx=>?_,B.free,λb o q hx=>?_,B.tups,B.frzs,B.tbls⟩ (λb o q=>?_) J.bare λb hb=>?_
 ·exact (hs.2 b (ne b o q)).trans (B.keep b o q n hb hx)
 ·obtain ⟨sl,z⟩:=B.slot b o q n hb hx
  exact ⟨sl,(hs.2 b (ne b o q)).trans z⟩
 ·obtain ⟨o',z⟩:=B.there b o q hx
  exact ⟨o',(hs.2 b (ne b o q)).trans z⟩
 ·have hf:H' s3.heap.objs.size=none:=J.free
  refine (J.hok b o q).stay (λc v hc r=>(hs.2 c ?_).trans r) (λ_ z=>z) λ_ _ z=>z;rintro rfl;rcases hc with z | z
  ·rw [← z,hf] at q;cases q
  ·rw [hf] at z;cases z
 ·obtain ⟨_,f2,_,f4,f5,f6⟩:=hfp b hb
  exact ⟨f4,f2,f5,f6⟩
end
section
variable {prog:Program} {w:World} {A:Around} {R:Result->Sh->Prop} {s:Sh}
theorem XA {elt target iter:Expr} {scope:Scope} {pos:Pos} {it acc:Vl} {env:Env} (I:Nat->Sh->Prop)
  (turn:∀ n s,I n s->wpAny (model prog w) A (pyNext it) (λr s₁=>match r with
   | none=>R (.ok .next) s₁
   | some v=>wpAny (model prog w) A (letOwnedTupleGo target it v) (λ_ s₂=>wpAny (model prog w) A (assign target env v) (λ_ s₃=>wpAny (model prog w) A (eval elt env) (λx s₄ =>
     wpAny (model prog w) A (call (.builtin "list.append") [acc,x]) (λ_ s₅=>∃ m,m<n/\I m s₅) (λ_ _=>False) s₄) (λ_ _=>False) s₃) (λ_ _=>False) s₂) (λ_ _=>False) s₁) (λ_ _=>False) s)
  (n:Nat) (h:I n s):codeAny (model prog w) A (.compLoop (.ListComp elt [⟨target,iter,[],0⟩] scope pos) 0 it acc env) R s:=by
 refine codeAny_loop rfl I (λn s hI=>?_) n h;show wpAny _ _ ((compTurn (.ListComp elt [⟨target,iter,[],0⟩] scope pos) 0 it acc env).onRaise (λx=>do noteFrame x env;theTreesLotGoes x)) _ _ s;refine wpAny_noted ?_;rw [compTurn_list1];refine q0x (wpAny_standAt (q0x (wpAny_mono (turn n s hI) (λr s₁ h₁=>?_) λ_ _ z=>z.elim)))
 cases r with
 | none=>exact q0y h₁
 | some v =>
  refine q0x (wpAny_mono h₁ (λ_ s₂ h₂=>?_) λ_ _ z=>z.elim);refine q0x (wpAny_mono h₂ (λ_ s₃ h₃=>?_) λ_ _ z=>z.elim);refine q0x (q0x (wpAny_mono h₃ (λx s₄ h₄=>?_) λ_ _ z=>z.elim));exact q0x (wpAny_mono h₄ (λ_ s₅ h₅=>q0y (q0y ⟨rfl,h₅⟩)) λ_ _ z=>z.elim)
end
inductive CompW (J:It) (g:TG) (te:TE) (σY:St) (H1:Hp) (D:Ad) (Q:VK):Prop
 | mk (W:Nat->Nat->St->Hp->Prop) (_:(∃ m,W 0 m σY H1)) (_:∀ i m σ' H',W i m σ' H'->(J.stop i H'/\Q (.ref D) H')∨(J.go i H'/\∃ N:St->Hp->Prop,(∀ σ2 H2,N σ2 H2->∃ m',m'<m/\W (i+1) m' σ2 H2)/\∀ x H2,J.yld i H' x H2->g x σ' H2 λσ3 H3=>te σ3 H3 λv H4=>∃ xs,H4 D=some (.lst xs)/\xs.length<sizeLine/\N σ3 (upd H4 D (.lst (xs++[v]))))):CompW J g te σY H1 D Q
inductive tComp_S (g:TG) (te:TE) (σ0:St->Hp->St->Prop) (σ:St) (Q:VK) (J:It) (H1:Hp):Prop
 | mk (σY:_) (_:σ0 σ H1 σY) (_:∀ D,H1 D=none->CompW J g te σY (upd H1 D (.lst [])) D Q)
def tComp (wi:TI) (g:TG) (te:TE) (σ0:St->Hp->St->Prop):TE:=λσ H Q=>wi σ H λJ H1=>tComp_S g te σ0 σ Q J H1
section
variable {X:Cx} {tg:Expr}
structure CompEnd (X:Cx) (pins:Jc) (σ:St) (H5:Hp) (s6:Sh) (C:Ad):Prop where
 ns:∃ m,s6.heap.Ns C m
 hn:H5 C=none
 hL:C≠X.env.locals
 h1:X.s₀.heap.objs.size<=C
 h2:∀ x c,X.env.cells.lookup x=some c->c≠C
 h3:∀ p∈X.pn++pins,p.1≠C
 inv:∀ h',Heap.SameBut C s6.heap h'->Inv X pins σ H5 { s6 with heap:=h' }
def XB {iter elt:Expr} {scope:Scope} {pos pos':Pos} {cl:List (Str×Ad)} {NY:Jf} {wi:TI} {g:TG} {te:TE} {σ0:St->Hp->St->Prop} (hc:X.calm=true) (S:Sees X scope cl) (hi:PI X tg iter wi)
  (hY:∀ (s3:Sh) (H3:Hp) (fp:Jg),PG (X.comp scope cl NY s3 H3 fp) tg g/\PE (X.comp scope cl NY s3 H3 fp) elt te)
  (h0:∀ (pins:Jc) (σ:St) (H:Hp) (s3:Sh) (σY:St),Inv X pins σ H s3->σ0 σ H σY->σY.length=NY.length/\∀ (i:Nat) (x:Str) (v:V),NY[i]?=some x->σY[i]?=some (some v) ->
   ∃ c u,(((compEnvC scope cl 0 X.env).kindOf x=some .cell∨(compEnvC scope cl 0 X.env).kindOf x=some .free))/\cl.lookup x=some c/\RelV v u/\s3.heap.IsCell c (some u))
  (hs:∀ x,foldedSetIterable iter X.env x=pure x) {use:Option (Vl->Sem Unit)} {R:Ja} {pins:Jc} {s:Sh} {σ:St} {H:Hp} {Q:VK} (I:Inv X pins σ H s) (h:tComp wi g te σ0 σ H Q)
  (fin:∀ (C D:Ad) (H5:Hp) (s6:Sh),CompEnd X pins σ H5 s6 C->Q (.ref D) H5->compPost (model X.prog X.w) X.A X.xe use R (.ref D) C (.ok .next) s6) :
  wpAny (model X.prog X.w) X.A (comprehension (.ListComp elt [⟨tg,iter,[],0⟩] scope pos) scope X.env pos' (newList []) (firstAsync [⟨tg,iter,[],0⟩]) (firstIter [⟨tg,iter,[],0⟩] X.env) use) R X.xe s:=by
 refine wpAny_comprehension_free rfl hs S.clos S.kind S.names (thn (hi pins s σ H _ I h) λv s1 h1=>thn h1 λitv s2 h2=>?_);obtain ⟨it,fp,tn,J,H2,e,I2,T,st2,f2,σY,hσ,hW⟩:=h2;subst e;refine wpAny_newObj_type ?_;have I3:Inv X pins σ (upd H2 s2.heap.objs.size (.lst [])) (pz s2):=I2.lnew (t':=s2.toks) (its:=[]) .nil (Nat.zero_le _);obtain ⟨W,⟨m0,w0⟩,turn⟩:=hW s2.heap.objs.size (I2.hok.fresh (Nat.le_refl _));have ob2:=T.obj _ _ st2
 have hfp:∀ b∈fp,xF X pins (upd H2 s2.heap.objs.size (.lst [])) b:=λb hb=>by
  obtain ⟨o,q,_⟩:=ob2 b hb;exact ⟨by rw [zk (Nat.ne_of_lt (Heap.lt_size q))];exact (f2 b hb).1,(f2 b hb).2⟩
 have hob:∀ b∈fp,∃ o,(s2.heap.push Lz).get? b=some o:=λb hb=>by
  obtain ⟨o,q,_⟩:=ob2 b hb;exact ⟨o,Heap.get?_push_of_some _ q⟩
 refine wpAny_newFunctionEnv S.nocell (λy hy=>absurd hy (by simp)) (λh1 hn1 hs1=>?_) S.kind;obtain ⟨hl,hY0⟩:=h0 pins σ H2 s2 σY I2 hσ;have k23:∀ b o,s2.heap.get? b=some o->(s2.heap.push Lz).get? b=some o:=λb o q=>Heap.get?_push_of_some _ q;have k34:∀ b o,(s2.heap.push Lz).get? b=some o->h1.get? b=some o:=λb o q=>(hs1.2 b (Nat.ne_of_lt (Heap.lt_size q))).trans (Heap.get?_push_of_some _ q)
 have I4:=Xa (scope:=scope) (cl:=cl) (NY:=NY) (fp:=fp) (h1:=h1) (t:=s2.toks) (σY:=σY) I3 S hfp hob hn1 k34 hl λi x v e1 e2=>by
  obtain ⟨c,u,k,q,r,o,z1,z2⟩:=hY0 i x v e1 e2;exact ⟨c,u,k,q,r,o,k23 _ _ z1,z2⟩
 have st4:tn 0 h1:=T.keep _ _ _ st2 λb hb o q=>k34 _ _ (k23 _ _ q);have fr4:∀ b∈fp,(upd H2 s2.heap.objs.size (.lst [])) b=none:=λb hb=>(hfp b hb).1;obtain ⟨hg,he⟩:=hY (pz s2) (upd H2 s2.heap.objs.size (.lst [])) fp;have okY:=I4.ok
 have statY:∀ {H':Hp},(∀ b∈fp,H' b=none)->∀ b∈fp,xF (Xz X scope cl NY s2 H2 fp) [] H' b :=
  λhn b hb=>⟨hn b hb,(okY.exf b hb).1,okY.exfs b hb,.inl hb,(okY.exf b hb).2,λp hp=>absurd hp (by simp)⟩
 have loop:codeAny (model X.prog X.w) X.A (.compLoop (.ListComp elt [⟨tg,iter,[],0⟩] scope pos) 0 (.ref it) (.ref s2.heap.objs.size) (compEnvC scope cl (s2.heap.push Lz).objs.size X.env))
   (compPost (model X.prog X.w) X.A X.xe use R (.ref s2.heap.objs.size) (s2.heap.push Lz).objs.size) { s2 with heap:=h1,toks:=s2.toks }:=by
  refine XA (λn s'=>∃ i σ' H',Inv (Xz X scope cl NY s2 H2 fp) [] σ' H' s'/\tn i s'.heap/\(∀ b∈fp,H' b=none)/\W i n σ' H') ?_ m0 ⟨0,σY,_,I4,st4,fr4,w0⟩;rintro n s5 ⟨i,σ5,H5,I5,st5,fr5,w5⟩;rcases turn i n σ5 H5 w5 with ⟨stop,q⟩ | ⟨go,N,hN,step⟩
  ·refine thn (T.done (Xz X scope cl NY s2 H2 fp) rfl rfl rfl hc i [] s5 σ5 H5 _ I5 (statY fr5) st5 stop) λr s6 ⟨hr,I6⟩=>?_
   subst hr;obtain ⟨m,hm,_⟩:=I6.loc;refine fin _ _ H5 s6 ⟨⟨m,hm⟩,I6.free,Ne.symm (Nat.ne_of_lt I3.lt),I3.sz,λx c z=>?_,λp hp=>?_,λh' hs'=>Yn I3 hfp I6 hs'⟩ q
   ·obtain ⟨_,o,z1,_⟩:=I3.cell x c z
    exact Nat.ne_of_lt (Heap.lt_size z1)
   ·exact Nat.ne_of_lt (Heap.lt_size (I3.pin p hp).1)
  ·refine thn (T.item (Xz X scope cl NY s2 H2 fp) rfl rfl rfl hc i [] s5 σ5 H5 _ I5 (statY fr5) st5 go) λr s6 ⟨u,hr,h6⟩=>?_
   subst hr;refine thn h6 λ_ s7 ⟨x,H7,I7,r7,y7,st7,fr7⟩=>?_;have I7':=I7.pinned (statY fr7) (T.obj _ _ st7);refine thn (hg _ s7 σ5 H7 x u _ I7' r7 (step x H7 y7)) λ_ s8 ⟨σ8,H8,I8,q8⟩=>?_;refine thn (he _ s8 σ8 H8 _ I8 q8) λz s9 ⟨v9,H9,I9,r9,xs,hx9,hz9,n9⟩=>?_;refine thn (xz _ s9 σ8 H9 (.ref s2.heap.objs.size) [v9] (.ref s2.heap.objs.size) [z] (λ_ H'=>H'=upd H9 s2.heap.objs.size (.lst (xs++[v9]))) I9 rfl (.cons r9 .nil) ⟨s2.heap.objs.size,xs,v9,rfl,rfl,hx9,hz9,rfl⟩) λy s10 ⟨v10,H10,I10,_,e10⟩=>?_;subst e10;obtain ⟨m',hm,w10⟩:=hN _ _ n9;refine ⟨m',hm,i+1,σ8,_,I10.unpinned,T.keep _ _ _ st7 λb hb o q=>(I10.pin (b,o) (q2y _ (q2y _ (yG hb q)))).1,λb hb=>?_,w10⟩;obtain ⟨o,q,d⟩:=T.obj _ _ st7 b hb;exact (I10.pin (b,o) (q2y _ (q2y _ (yG hb q)))).2.1
 exact codeAny_compStart_list loop (T.self _ 0 _ _ _ st4 loop)
def pe_comp {iter elt:Expr} {scope:Scope} {pos:Pos} {cl:List (Str×Ad)} {NY:Jf} {wi:TI} {g:TG} {te:TE} {σ0:St->Hp->St->Prop} (hc:X.calm=true) (S:Sees X scope cl) (hi:PI X tg iter wi)
  (hY:∀ (s3:Sh) (H3:Hp) (fp:Jg),PG (X.comp scope cl NY s3 H3 fp) tg g/\PE (X.comp scope cl NY s3 H3 fp) elt te)
  (h0:∀ (pins:Jc) (σ:St) (H:Hp) (s3:Sh) (σY:St),Inv X pins σ H s3->σ0 σ H σY->σY.length=NY.length/\∀ (i:Nat) (x:Str) (v:V),NY[i]?=some x->σY[i]?=some (some v) ->
   ∃ c u,(((compEnvC scope cl 0 X.env).kindOf x=some .cell∨(compEnvC scope cl 0 X.env).kindOf x=some .free))/\cl.lookup x=some c/\RelV v u/\s3.heap.IsCell c (some u))
  (hs:∀ x,foldedSetIterable iter X.env x=pure x:=by intro _;rfl) :
  PE X (.ListComp elt [⟨tg,iter,[],0⟩] scope pos) (tComp wi g te σ0):=by
 intro pins s σ H Q I h;rw [eval_ListComp];refine XB (use:=none) hc S hi hY h0 hs I h λC D H5 s6 e q=>?_;obtain ⟨m,hm⟩:=e.ns;exact ⟨m,hm,λh' hs'=>⟨.ref D,H5,e.inv h' hs',rfl,q⟩⟩
def ps_comp {iter elt:Expr} {scope:Scope} {pos pos' spos:Pos} {cl:List (Str×Ad)} {NY:Jf} {wi:TI} {g:TG} {te:TE} {σ0:St->Hp->St->Prop} {i:Nat} {y:Str} (hc:X.calm=true) (S:∀ {pins σ H s},Inv X pins σ H s->Sees X scope cl) (hi:PI X tg iter wi)
  (hY:∀ (s3:Sh) (H3:Hp) (fp:Jg),PG (X.comp scope cl NY s3 H3 fp) tg g/\PE (X.comp scope cl NY s3 H3 fp) elt te)
  (h0:∀ (pins:Jc) (σ:St) (H:Hp) (s3:Sh) (σY:St),Inv X pins σ H s3->σ0 σ H σY->σY.length=NY.length/\∀ (i:Nat) (x:Str) (v:V),NY[i]?=some x->σY[i]?=some (some v) ->
   ∃ c u,(((compEnvC scope cl 0 X.env).kindOf x=some .cell∨(compEnvC scope cl 0 X.env).kindOf x=some .free))/\cl.lookup x=some c/\RelV v u/\s3.heap.IsCell c (some u))
  (hs:∀ x,foldedSetIterable iter X.env x=pure x) (hN:X.N.Nodup) (hi':X.N[i]?=some y) (hx:Loc X.env.scope y) (hf:X.fn y=true∨X.env.scope.names.lookup y=some .local)
  (hw:swapsWith (.ListComp elt [⟨tg,iter,[],0⟩] scope pos) (some (.Name y pos')) spos.line X.env=pure true):PS X (.Assign [.Name y pos'] (.ListComp elt [⟨tg,iter,[],0⟩] scope pos) spos) (tAsg (tComp wi g te σ0) (Yt i)):=by
 intro pins s σ H D I h;rw [exec_Assign_Name_used _ _ _ _ hw,arm_evalThenUse_ListComp];refine q0x (wpAny_standAt (q0x (q0x (wpAny_mono (XB (use:=some (assign (.Name y pos') X.env)) (R:=λ_ s'=>SP X pins D .next s') hc (S I) hi hY h0 hs I h λC L H5 s6 e q=>?_) (λ_ s' z=>q0y (q0y z)) λ_ _ z=>z))));obtain ⟨m,hm⟩:=e.ns;have I6:Inv X pins σ H5 s6:=e.inv s6.heap ⟨rfl,λ_ _=>rfl⟩;refine wpAny_assign_Name (Z9 I6 hN hi' hx (v:=.ref L) rfl (λs' I' ⟨a,sb,ha⟩=>?_) hf)
 have ne:C≠a:=by
  rintro rfl;rcases ha with z | z
  ·exact e.hL z
  ·exact e.h2 _ _ z rfl
 refine ⟨m,?_,λh' hs'=>?_⟩
 ·obtain ⟨o,es,ep,z,r⟩:=hm
  exact ⟨o,es,ep,(sb.2 _ ne).trans z,r⟩
 ·exact ⟨_,H5,I'.turned (t':=s'.toks) (it:=C) (λb o nb z=>(hs'.2 b nb).trans z) e.hn e.hL (.inr e.h1) e.h2 e.h3,q⟩
end
def Ym {K:Fg} {a D:Ad} {xs:Jn} {g:TG} {te:TE} {σY:St} {H1:Hp} {Q:VK} (Pv:Nat->St->Hp->Prop) (h0:Pv 0 σY H1) (hl:∀ i σ H,i<=xs.length->Pv i σ H->SqL K H a xs)
  (hs:∀ i x σ H,xs[i]?=some x->Pv i σ H->g x σ H λσ3 H3=>te σ3 H3 λv H4=>∃ ys,H4 D=some (.lst ys)/\ys.length<sizeLine/\Pv (i+1) σ3 (upd H4 D (.lst (ys++[v])))) (hd:∀ σ H,Pv xs.length σ H->Q (.ref D) H) :
  CompW (Itl K a) g te σY H1 D Q:=by
 refine ⟨λi m σ H=>m=xs.length-i/\i<=xs.length/\Pv i σ H,⟨xs.length,by simp,Nat.zero_le _,h0⟩,?_⟩;rintro i m σ H ⟨rfl,hi,p⟩;have q:=hl i σ H hi p;by_cases hlt:i<xs.length
 ·refine .inr ⟨⟨xs,xs[i],q,by simp [hlt]⟩,Pv (i+1),λσ' H' p'=>⟨xs.length-(i+1),by omega,rfl,hlt,p'⟩,λx H' y=>?_⟩
  obtain ⟨e,y⟩:=y;subst e;exact hs i x σ _ (y xs q) p
 ·have e:i=xs.length:=by omega
  subst e;exact .inl ⟨⟨xs,q,Nat.le_refl _⟩,hd σ H p⟩
def yJ {lo:Int} {n:Nat} {D:Ad} {g:TG} {te:TE} {σY:St} {H1:Hp} {Q:VK} (Pv:Nat->St->Hp->Prop) (h0:Pv 0 σY H1)
  (hs:∀ i σ H,i<n->Pv i σ H->g (.int (lo+i)) σ H λσ3 H3=>te σ3 H3 λv H4=>∃ ys,H4 D=some (.lst ys)/\ys.length<sizeLine/\Pv (i+1) σ3 (upd H4 D (.lst (ys++[v])))) (hd:∀ σ H,Pv n σ H->Q (.ref D) H) :
  CompW (Itr lo n) g te σY H1 D Q:=by
 refine ⟨λi m σ H=>m=n-i/\i<=n/\Pv i σ H,⟨n,by simp,Nat.zero_le _,h0⟩,?_⟩;rintro i m σ H ⟨rfl,hi,p⟩;by_cases hlt:i<n
 ·refine .inr ⟨hlt,Pv (i+1),λσ' H' p'=>⟨n-(i+1),by omega,rfl,hlt,p'⟩,λx H' y=>?_⟩
  obtain ⟨e,y⟩:=y;subst e y;exact hs i σ _ hlt p
 ·have e:i=n:=by omega
  subst e;exact .inl ⟨Nat.le_refl _,hd σ H p⟩
def clGo (env:Env):List (Str×NameKind)->List (Str×Ad)->List (Str×Ad)
 | [],cs=>cs
 | y::r,cs=>clGo env r (if y.2 == .free then (y.1,(env.cells.lookup y.1).getD 0)::cs else cs)
abbrev xV (env:Env) (scope:Scope):List (Str×Ad):=clGo env scope.names []
theorem zbz {scope:Scope} {env:Env} (h:∀ y∈scope.names,y.2=.free->∃ c,env.cells.lookup y.1=some c):closureFor scope env=pure (xV env scope):=by
 rw [closureFor.eq_1]
 suffices q:∀ (names:List (Str×NameKind)) (cs:List (Str×Ad)),(∀ y∈names,y.2=.free->∃ c,env.cells.lookup y.1=some c) ->
   (do
    let s ← forIn names cs λx __s =>
     have cs:=__s
     match x with
     | (name,kind) =>
      if (kind == NameKind.free)=true then do
       let l ← cellOf env name;have cs:List (Str×Ad):=(name,l)::cs
       pure (ForInStep.yield cs)
      else pure (ForInStep.yield cs)
    pure s:Sem (List (Str×Ad)))=pure (clGo env names cs) from (congrArg (λ(m:Sem (List (Str×Ad)))=>m >>= λs=>(pure s:Sem (List (Str×Ad)))) (q scope.names [] h)).trans rfl
 intro names
 induction names with
 | nil=>intro cs _;rfl
 | cons y r ih =>
  intro cs h;obtain ⟨n,k⟩:=y;have hr:=λy hy=>h y (q1y _ hy);rw [List.forIn_cons];show _=pure (clGo env r (if k == .free then (n,(env.cells.lookup n).getD 0)::cs else cs));by_cases e:k=.free
  ·subst e
   obtain ⟨c,hc⟩:=h (n,.free) q1z rfl;have e1:cellOf env n=pure c:=by unfold cellOf;rw [show env.cells.lookup n=some c from hc]
   simp only [e1,show env.cells.lookup n=some c from hc,Option.getD_some,beq_self_eq_true,if_true];exact ih _ hr
  ·have e0:(k == NameKind.free)=false:=by simp [e]
   simp only [e0,Bool.false_eq_true,if_false];exact ih _ hr
theorem za9 {env:Env} {x:Str} {c:Ad}:∀ {names:List (Str×NameKind)} {cs:List (Str×Ad)},(∀ y∈names,y.2=.free->∃ c,env.cells.lookup y.1=some c)->(∀ x c,cs.lookup x=some c->env.cells.lookup x=some c)->(clGo env names cs).lookup x=some c->env.cells.lookup x=some c
 | [],cs,_,hc,h=>hc _ _ h
 | (n,k)::r,cs,hn,hc,h=>by
  refine za9 (λy hy=>hn y (q1y _ hy)) (λx c q=>?_) h;by_cases e:k=.free
  ·subst e
   obtain ⟨c',hc'⟩:=hn (n,.free) q1z rfl;simp only [beq_self_eq_true,if_true,show env.cells.lookup n=some c' from hc',Option.getD_some,List.lookup_cons] at q;by_cases z:x=n
   ·subst z;simp at q;rw [← q];exact hc'
   ·have z':(x == n)=false:=by simp [z]
    rw [z'] at q;exact hc _ _ q
  ·have e0:(k == NameKind.free)=false:=by simp [e]
   rw [e0] at q;exact hc _ _ q
theorem XC {env:Env} {x:Str}:∀ {names:List (Str×NameKind)} {cs:List (Str×Ad)},(∃ c,cs.lookup x=some c)->∃ c,(clGo env names cs).lookup x=some c
 | [],_,h=>h
 | (n,k)::r,cs,h=>by
  refine XC (names:=r) ?_;by_cases e:(k == NameKind.free)=true
  ·simp only [e,if_true,List.lookup_cons]
   cases hx:x == n with
   | true=>exact ⟨_,rfl⟩
   | false=>exact h
  ·simp only [e,if_false];exact h
theorem Xb {env:Env} {x:Str}:∀ {names:List (Str×NameKind)} {cs:List (Str×Ad)},(x,NameKind.free)∈names->∃ c,(clGo env names cs).lookup x=some c
 | (n,k)::r,cs,h=>by
  rcases List.mem_cons.mp h with e | e
  ·cases e
   refine XC (names:=r) ⟨(env.cells.lookup x).getD 0,?_⟩;simp
  ·show ∃ c,(clGo env r _).lookup x=some c
   exact Xb e
def Ya (X:Cx) (scope:Scope):Bool :=
 (match scope.kind with | .function=>true | _=>false) && scope.names.all λy=>match y.2 with
  | .cell=>false
  | .free=>(match X.env.kindOf y.1 with | some .cell=>true | some .free=>true | _=>false)
  | .local=>(match scope.names.lookup y.1 with | some .local=>true | _=>false)
  | _=>true
theorem xX {X:Cx} {scope:Scope} (ok:X.Ok) (h:Ya X scope=true):Sees X scope (xV X.env scope):=by
 unfold Ya at h;rw [Bool.and_eq_true,List.all_eq_true] at h;obtain ⟨hk,hn⟩:=h
 have fr:∀ y∈scope.names,y.2=.free->∃ c,X.env.cells.lookup y.1=some c:=λy hy e=>by
  have q:=hn y hy;rw [e] at q;refine ok.has y.1 ?_;revert q;dsimp only
  split
  ·rename_i z;intro _;exact .inl z
  ·rename_i z;intro _;exact .inr z
  ·intro q;cases q
 refine ⟨?_,zbz fr,λy hy e=>?_,λy hy e=>?_,λx c q=>za9 fr (λ_ _ z=>by cases z) q,λx q=>?_⟩
 ·revert hk
  cases scope.kind <;> simp
 ·have q:=hn y hy
  rw [e] at q;exact q2x q
 ·have q:=hn y hy
  rw [e] at q;revert q;dsimp only
  split
  ·rename_i z;intro _;exact z
  ·intro q;cases q
 ·have key:∀ k,(compEnvC scope (xV X.env scope) 0 X.env).kindOf x=some k->(k=.cell∨k=.free)->(x,NameKind.free)∈scope.names:=by
   intro k hk' hkk;have q:((scope.names.map λy=>match y with | (n,k)=>if (k == NameKind.free && X.env.scope.kind == ScopeKind.function && X.env.kindOf n == some NameKind.cell)=true then (n,NameKind.cell) else (n,k))).lookup x=some k:=hk'
   obtain ⟨n,k',e1,e2⟩:∃ n k',(n,k')∈scope.names/\(match (n,k') with | (n,k)=>if (k == NameKind.free && X.env.scope.kind == ScopeKind.function && X.env.kindOf n == some NameKind.cell)=true then (n,NameKind.cell) else (n,k))=(x,k):=by
    have m:(x,k)∈(scope.names.map λy=>match y with | (n,k)=>if (k == NameKind.free && X.env.scope.kind == ScopeKind.function && X.env.kindOf n == some NameKind.cell)=true then (n,NameKind.cell) else (n,k)):=by
     revert q;generalize (scope.names.map λy=>match y with | (n,k)=>if (k == NameKind.free && X.env.scope.kind == ScopeKind.function && X.env.kindOf n == some NameKind.cell)=true then (n,NameKind.cell) else (n,k))=l
     induction l with
     | nil=>intro q;cases q
     | cons a l ih =>
      intro q;obtain ⟨a1,a2⟩:=a;rw [List.lookup_cons] at q
      cases hx:x == a1 with
      | true=>rw [hx] at q;cases q;have:=beq_iff_eq.mp hx;subst this;exact q1z
      | false=>rw [hx] at q;exact q1y _ (ih q)
    obtain ⟨⟨n,k'⟩,h1,h2⟩:=List.mem_map.mp m;exact ⟨n,k',h1,h2⟩
   dsimp only at e2
   split at e2
   ·rename_i z
    cases e2;simp only [Bool.and_eq_true,beq_iff_eq] at z;rw [z.1.1] at e1;exact e1
   ·cases e2
    rcases hkk with rfl | rfl
    ·have z:=hn _ e1
     exact absurd z q2x
    ·exact e1
  rcases q with q | q
  ·exact Xb (key _ q (.inl rfl))
  ·exact Xb (key _ q (.inr rfl))
def Yu (X:Cx) (scope:Scope):Jf->List (Option Nat)->Bool
 | [],[]=>true
 | _::r,none::c=>Yu X scope r c
 | x::r,some j::c=>(match X.N[j]? with | some y=>x == y | none=>false) && (match (compEnvC scope (xV X.env scope) 0 X.env).kindOf x with | some .cell=>true | some .free=>true | _=>false)
   && (match X.env.kindOf x with | some .cell=>true | some .free=>true | _=>false) && Yu X scope r c
 | _,_=>false
def capt (cap:List (Option Nat)) (σ:St):St:=cap.map λo=>o.bind λj=>(σ[j]?).join
theorem Zt {X:Cx} {scope:Scope} {pins:Jc} {σ:St} {H:Hp} {s:Sh} (I:Inv X pins σ H s) (S:Sees X scope (xV X.env scope)):∀ {NY:Jf} {cap:List (Option Nat)},Yu X scope NY cap=true->(capt cap σ).length=NY.length/\∀ (i:Nat) (x:Str) (v:V),NY[i]?=some x->(capt cap σ)[i]?=some (some v) ->
   ∃ c u,(((compEnvC scope (xV X.env scope) 0 X.env).kindOf x=some .cell∨(compEnvC scope (xV X.env scope) 0 X.env).kindOf x=some .free))/\(xV X.env scope).lookup x=some c/\RelV v u/\s.heap.IsCell c (some u)
 | [],[],_=>⟨rfl,λi x v e _=>by cases e⟩
 | [],_::_,h=>by cases h
 | y::r,[],h=>by cases h
 | y::r,none::c,h=>by
  obtain ⟨l,q⟩:=Zt I S (NY:=r) (cap:=c) h;refine ⟨by rw [q3x,← l];rfl,λi x v e1 e2=>?_⟩
  cases i with
  | zero=>cases e2
  | succ i=>exact q i x v e1 e2
 | y::r,some j::c,h=>by
  unfold Yu at h;rw [Bool.and_eq_true,Bool.and_eq_true,Bool.and_eq_true] at h;obtain ⟨⟨⟨h1,h2⟩,h3⟩,h4⟩:=h;obtain ⟨l,q⟩:=Zt I S (NY:=r) (cap:=c) h4;refine ⟨by rw [q3x,← l];rfl,λi x v e1 e2=>?_⟩
  cases i with
  | succ i=>exact q i x v e1 e2
  | zero =>
   have ey:y=x:=Option.some.inj e1;subst ey;have ev:(σ[j]?).join=some v:=Option.some.inj e2
   have hσ:σ[j]?=some (some v):=by
    cases z:σ[j]? with
    | none=>rw [z] at ev;cases ev
    | some o=>rw [z] at ev;rw [show o=some v from ev]
   have hN:X.N[j]?=some y:=by
    cases z:X.N[j]? with
    | none=>rw [z] at h1;cases h1
    | some y'=>rw [z] at h1;rw [beq_iff_eq.mp h1]
   have hK:(compEnvC scope (xV X.env scope) 0 X.env).kindOf y=some .cell∨(compEnvC scope (xV X.env scope) 0 X.env).kindOf y=some .free:=by
    revert h2
    split
    ·rename_i z;intro _;exact .inl z
    ·rename_i z;intro _;exact .inr z
    ·intro q;cases q
   have hV:X.env.kindOf y=some .cell∨X.env.kindOf y=some .free:=by
    revert h3
    split
    ·rename_i z;intro _;exact .inl z
    ·rename_i z;intro _;exact .inr z
    ·intro q;cases q
   obtain ⟨c',hc'⟩:=S.has y hK;obtain ⟨m,_,hl⟩:=I.loc;obtain ⟨u,ru,lk⟩:=hl j y v hN hσ (.inr hV);refine ⟨c',u,hK,hc',ru,?_⟩;rcases lk with ⟨k,_⟩ | ⟨_,c2,e3,e4⟩
   ·have k':X.env.kindOf y=some .local:=k
    rcases hV with z | z <;> rw [z] at k' <;> cases k'
   ·have e5:=S.sub _ _ hc'
    rw [e3] at e5;cases e5;exact e4
abbrev tCompC (wi:TI) (g:TG) (te:TE) (cap:List (Option Nat)):TE:=tComp wi g te λσ _ σY=>σY=capt cap σ
section
variable {X:Cx} {tg:Expr}
def yF {iter elt:Expr} {scope:Scope} {pos:Pos} {wi:TI} {g:TG} {te:TE} (NY:Jf) (cap:List (Option Nat)) (hc:X.calm=true) (hk:Ya X scope=true) (hcap:Yu X scope NY cap=true) (hi:PI X tg iter wi)
  (hY:∀ (s3:Sh) (H3:Hp) (fp:Jg),PG (X.comp scope (xV X.env scope) NY s3 H3 fp) tg g/\PE (X.comp scope (xV X.env scope) NY s3 H3 fp) elt te)
  (hs:∀ x,foldedSetIterable iter X.env x=pure x:=by intro _;rfl):PE X (.ListComp elt [⟨tg,iter,[],0⟩] scope pos) (tCompC wi g te cap):=by
 intro pins s σ H Q I h;have S:=xX I.ok hk;refine pe_comp (NY:=NY) hc S hi hY (λpins σ H s3 σY I3 e=>?_) hs pins s σ H Q I h;subst e;exact Zt I3 S hcap
def zan {iter elt:Expr} {scope:Scope} {pos pos' spos:Pos} {wi:TI} {g:TG} {te:TE} {i:Nat} {y:Str} (NY:Jf) (cap:List (Option Nat)) (hc:X.calm=true) (hk:Ya X scope=true) (hcap:Yu X scope NY cap=true) (hi:PI X tg iter wi)
  (hY:∀ (s3:Sh) (H3:Hp) (fp:Jg),PG (X.comp scope (xV X.env scope) NY s3 H3 fp) tg g/\PE (X.comp scope (xV X.env scope) NY s3 H3 fp) elt te) (hN:X.N.Nodup) (hi':X.N[i]?=some y) (hx:Loc X.env.scope y)
  (hf:X.fn y=true∨X.env.scope.names.lookup y=some .local:=by first | exact .inl rfl | exact .inr rfl) (hw:swapsWith (.ListComp elt [⟨tg,iter,[],0⟩] scope pos) (some (.Name y pos')) spos.line X.env=pure true:=by rfl)
  (hs:∀ x,foldedSetIterable iter X.env x=pure x:=by intro _;rfl):PS X (.Assign [.Name y pos'] (.ListComp elt [⟨tg,iter,[],0⟩] scope pos) spos) (tAsg (tCompC wi g te cap) (Yt i)):=by
 refine ps_comp (NY:=NY) hc (λI=>xX I.ok hk) hi hY (λpins σ H s3 σY I3 e=>?_) hs hN hi' hx hf hw;subst e;exact Zt I3 (xX I3.ok hk) hcap
end
section
variable {X:Cx}
def za0 {K:Fg} (e:X.K=K):IxR X (rIxL K):=by subst e;exact zE
end
def Zm {ns:Jb} {j:Int} (i:Nat) (h:i<ns.length) (e:j=i):atI (ns.map V.int) j=some (.int (ns.getD i 0)):=by
 subst e;refine zv ?_;rw [List.getElem?_map,List.getElem?_eq_getElem h];simp [List.getD,h]
def getD_mem {ns:Jb} {i:Nat} (h:i<ns.length):ns.getD i 0∈ns:=by
 rw [q1x,List.getElem?_eq_getElem h];exact List.getElem_mem h
theorem ZF {ns:Jb} {i:Nat} {x:V} (h:(ns.map V.int)[i]?=some x):i<ns.length/\x=.int (ns.getD i 0):=by
 rw [List.getElem?_map] at h
 cases e:ns[i]? with
 | none=>rw [e] at h;cases h
 | some n =>
  rw [e] at h;refine ⟨(List.getElem?_eq_some_iff.mp e).1,?_⟩;rw [q1x,e];exact (Option.some.inj h).symm
section
variable {X:Cx} {pins:Jc} {σ:St} {H:Hp} {s:Sh}
def Inv.keptL {h':Heap} {t':Nat} (I:Inv X pins σ H s) {m:J9} (hl:∀ (i:Nat) (x:Str) (v:V),X.N[i]?=some x->σ[i]?=some (some v)->Vis X.env.scope x->∃ u,RelV v u/\Look X.env s.heap m x u)
  (k:∀ b o,b≠X.env.locals->s.heap.get? b=some o->h'.get? b=some o) (hn:h'.Ns X.env.locals m):Inv X pins σ H { s with heap:=h',toks:=t' }:=by
 have B:=I.base
 have ne0:∀ b o,X.s₀.heap.get? b=some o->b≠X.env.locals:=λb o q z=>by
  have h1:b<X.s₀.heap.objs.size:=Heap.lt_size q;have h2:X.s₀.heap.objs.size<=X.env.locals:=I.ok.above;rw [z] at h1;exact absurd (q2z h1 h2) (Nat.lt_irrefl _)
 refine ⟨I.ok,I.os,I.bare,⟨λb o q n hb hx=>?_,λb o q n hb hx=>?_,B.free,λb o q hx=>?_,B.tups,B.frzs,B.tbls⟩,⟨m,hn,λi x v e1 e2 vs=>?_⟩,λx c q=>?_,I.free,I.freeC,λp hp=>?_,λb o q=>?_,I.len⟩
 ·exact k _ _ (ne0 _ _ q) (B.keep b o q n hb hx)
 ·obtain ⟨sl,z⟩:=B.slot b o q n hb hx
  exact ⟨sl,k _ _ (ne0 _ _ q) z⟩
 ·obtain ⟨o',z⟩:=B.there b o q hx
  exact ⟨o',k _ _ (ne0 _ _ q) z⟩
 ·obtain ⟨u,r,lk⟩:=hl i x v e1 e2 vs
  refine ⟨u,r,?_⟩;rcases lk with z | ⟨z1,c,z2,o,z3,z4⟩
  ·exact .inl z
  ·exact .inr ⟨z1,c,z2,o,k _ _ (I.cne _ _ z2) z3,z4⟩
 ·obtain ⟨v,o,z1,z2⟩:=I.cell x c q
  exact ⟨v,o,k _ _ (I.cne _ _ q) z1,z2⟩
 ·obtain ⟨z1,z2,z3,z4⟩:=I.pin p hp
  exact ⟨k _ _ z3 z1,z2,z3,z4⟩
 ·refine (I.hok b o q).stay (λc v hc r=>k _ _ ?_ r) (λ_ z=>z) λ_ _ z=>z
  rintro rfl;rcases hc with z | z
  ·rw [← z,I.free] at q;cases q
  ·rw [I.free] at z;cases z
def fr_all (I:Inv X pins σ H s) {m:J9} (hm:s.heap.Ns X.env.locals m):Fr X.base X.env.locals s.heap m:=⟨hm,I.bk,Nat.le_trans I.ok.bsz I.ok.above⟩
theorem kept_all {h':Heap} {m:J9} (F:Fr X.base X.env.locals h' m) (N:News X.base X.env.locals h' (Z8 X.base s.heap X.env.locals)) (I:Inv X pins σ H s):∀ b o,b≠X.env.locals->s.heap.get? b=some o->h'.get? b=some o:=λb o n q=>by
 cases e:X.base.get? b with
 | none=>exact (N (b,o) (zaz n e q)).1
 | some o' =>
  have z:=I.bk b o' e;rw [q] at z;cases z;exact F.keep b o e
end
section
variable {X:Cx}
inductive rSum (K:Fg) (xs:Jn) (H:Hp) (Q:VK):Prop
 | mk (p:Ad) (ns:Jb) (_:xs=[.ref p]) (_:SqL K H p (ns.map V.int)) (_:Q (.int ns.sum) H)
def call_sum (hc:X.calm=true):Zh X (.builtin "sum") (rSum X.K):=by
 intro pins s σ H xs us Q I r h;obtain ⟨p,ns,rfl,hp,q⟩:=h;obtain ⟨u,rfl,ru⟩:=r.one;cases (show u=Value.ref p from ru);obtain ⟨its,rv,pl,_⟩:=I.list hp;obtain ⟨m,hm,hl⟩:=I.loc
 exact LSm.sum_ints (fr_all I hm) news_all (I.ok.hd hc) pl.isList (X5 rv) λh' tk t' F N =>
  ⟨.int ns.sum,H,I.keptL hl (kept_all F N I) F.ns,⟨_,rfl⟩,q⟩
end
mutual
inductive DV (K:Fg) (H:Hp):V->PyData->Prop
 | non:DV K H .non .none
 | bl (b:Bool):DV K H (.bl b) (.bool b)
 | int (i:Int):DV K H (.int i) (.int i)
 | str (x:Str):DV K H (.str x) (.str x)
 | lst {a:Ad} {xs:Jn} {ds:List PyData}:SqL K H a xs->DVs K H xs ds->DV K H (.ref a) (.list ds)
 | tup {a:Ad} {xs:Jn} {ds:List PyData}:SqT K H a xs->DVs K H xs ds->DV K H (.ref a) (.tuple ds)
inductive DVs (K:Fg) (H:Hp):Jn->List PyData->Prop
 | nil:DVs K H [] []
 | cons {v:V} {vs:Jn} {d:PyData} {ds:List PyData}:DV K H v d->DVs K H vs ds->DVs K H (v::vs) (d::ds)
end
section
variable {X:Cx} {pins:Jc} {σ:St} {H:Hp} {s:Sh}
mutual
theorem Y5 (I:Inv X pins σ H s):∀ {v:V} {d:PyData} {u:Vl},DV X.K H v d->RelV v u->∃ as,Reads s.heap u d as
 | _,_,u,.non,r=>by cases (show u=Value.none from r);exact ⟨_,.none⟩
 | _,_,u,.bl b,r=>by cases (show u=Value.bool b from r);exact ⟨_,.bool b⟩
 | _,_,u,.int i,r=>by obtain ⟨t,rfl⟩:=(show ∃ t,u=Value.int i t from r);exact ⟨_,.int i t⟩
 | _,_,u,.str x,r=>by obtain ⟨t,rfl⟩:=(show ∃ t,u=Value.str x t from r);exact ⟨_,.str x t⟩
 | _,_,u,.lst (a:=a) h q,r=>by
  cases (show u=Value.ref a from r);obtain ⟨its,rv,⟨o,n,e,c,d,f⟩,_⟩:=I.list h;obtain ⟨as,ra⟩:=Yl I q rv;exact ⟨_,.list e c f ra⟩
 | _,_,u,.tup (a:=a) h q,r=>by
  cases (show u=Value.ref a from r);obtain ⟨its,rv,⟨o,e,c,n,f⟩,_⟩:=I.tuple h;obtain ⟨as,ra⟩:=Yl I q rv;exact ⟨_,.tuple e c f ra⟩
theorem Yl (I:Inv X pins σ H s):∀ {vs:Jn} {ds:List PyData} {us:Jd},DVs X.K H vs ds->Vals vs us->∃ as,ReadsAll s.heap us ds as
 | _,_,_,.nil,.nil=>⟨_,.nil⟩
 | _,_,_,.cons h q,.cons r rr=>by
  obtain ⟨as,ra⟩:=Y5 I h r;obtain ⟨bs,rb⟩:=Yl I q rr;exact ⟨_,.cons ra rb⟩
end
end
section
variable {X:Cx}
inductive rEqD (K:Fg) (f:Bool->Bool) (x y:V) (H:Hp) (Q:VK):Prop
 | mk (d e:_) (_:DV K H x d) (_:DV K H y e) (_:d.canLay0=true) (_:e.canLay0=true) (_:d.depth<=64) (_:Q (.bl (f (d.eqv e))) H)
def op_neD (hu:X.A.units+64<cLine):OpR X (compareOp .NotEq) (rEqD X.K not):=by
 intro pins s σ H x y v u Q I rx ry h;obtain ⟨d,e,hd,he,c1,c2,dp,q⟩:=h;obtain ⟨as,ra⟩:=Y5 I hd rx;obtain ⟨bs,rb⟩:=Y5 I he ry;exact SeqAt.compareNe_reads ra rb c1 c2 (by omega) ⟨.bl _,H,I,rfl,q⟩
end
def dI (ns:Jb):PyData:=.list (ns.map PyData.int)
theorem za3 {K:Fg} {H:Hp}:∀ {ns:Jb},DVs K H (ns.map V.int) (ns.map PyData.int)
 | []=>.nil
 | n::ns=>.cons (.int n) za3
def xP {K:Fg} {H:Hp} {a:Ad} {ns:Jb} (h:SqL K H a (ns.map V.int)):DV K H (.ref a) (dI ns):=.lst h za3
theorem Zl:∀ {ns:Jb},PyData.canLayAll0 (ns.map PyData.int)=true
 | []=>rfl
 | n::ns=>by
  rw [List.map_cons];show (PyData.canLay0 (.int n) && PyData.canLayAll0 (ns.map PyData.int))=true;rw [Zl];rfl
def ZY {ns:Jb}:(dI ns).canLay0=true:=Zl
theorem ZA:∀ {ns:Jb},PyData.depthAll (ns.map PyData.int)<=1
 | []=>by decide
 | n::ns=>by
  have:=ZA (ns:=ns);rw [List.map_cons];show max (PyData.depth (.int n)) (PyData.depthAll (ns.map PyData.int))<=1;have e:PyData.depth (.int n)<=1:=by show _<=_;simp [PyData.depth]
  omega
end L2
namespace L2
open PySem
def Y7 {xs:List PyData} {n:Nat} (h:PyData.depthAll xs<=n):(PyData.list xs).depth<=n+1:=by
 have e:(PyData.list xs).depth=PyData.depthAll xs+1:=by first | rfl | (simp [PyData.depth];done) | (simp [PyData.depth];omega)
 omega
def dep_tup {xs:List PyData} {n:Nat} (h:PyData.depthAll xs<=n):(PyData.tuple xs).depth<=n+1:=by
 have e:(PyData.tuple xs).depth=PyData.depthAll xs+1:=by first | rfl | (simp [PyData.depth];done) | (simp [PyData.depth];omega)
 omega
def X7 {n:Nat}:PyData.depthAll []<=n:=by
 have e:PyData.depthAll []=0:=by first | rfl | simp [PyData.depthAll]
 omega
def xj {x:PyData} {xs:List PyData} {n:Nat} (h:x.depth<=n) (h':PyData.depthAll xs<=n):PyData.depthAll (x::xs)<=n:=by
 have e:PyData.depthAll (x::xs)=max x.depth (PyData.depthAll xs):=by first | rfl | simp [PyData.depthAll]
 omega
def Z1 {ns:Jb}:(dI ns).depth<=2:=Y7 ZA
end L2
namespace L2
open PySem PySem.Spec PyProof.Rows
def zG {K:Fg} {H H':Hp} {a:Ad} {xs:Jn} (h:SqL K H a xs) (s:Same H H'):SqL K H' a xs:=by
 rcases h with h | h
 ·exact .inl (h.imp (λz=>s _ _ z) λ⟨o,z⟩=>⟨o,s _ _ z⟩)
 ·exact .inr h
def zi {H H':Hp} {a:Ad} {o:HO} (s:Same H H') (h:H a=none):Same H (upd H' a o):=λc x z=>by rw [zk (zp z h)];exact s _ _ z
def sIx_pos {n d:Nat} {a:Int} (h:0<=a):HT.sIx n d (some a)=min a.toNat n:=by
 show (if a<0 then (a+(n:Int)).toNat else min a.toNat n)=min a.toNat n;rw [if_neg (by omega)]
def cutV_take {cs:Jb} {b:Int} (hb:0<=b):cutV (cs.map V.int) none (some b)=(cs.take b.toNat).map V.int:=by
 unfold cutV;rw [HT.sIx_none,sIx_pos hb,Ji,List.drop_zero,Nat.sub_zero,← List.map_take];congr 1;rw [List.take_eq_take_iff];omega
section
variable {P:Program} {w:World} {K:Fg} {mg:J9} {base:Heap}
def zV (K:Fg) (C:Ad) (x qual:Str) (st:Stmt) (ps:Jf):Prop:=∃ (f:Ad) (fd:FuncData),Meth K C x f/\Fun K x qual st f fd/\Binds K fd ps []
def OkM (P:Program) (w:World) (K:Fg) (mg:J9) (base:Heap) (CX:CXT) (k:Nat) (C:Ad) (x:Str) (ps:Jf) (sp:Sp):Prop :=
 ∃ (f:Ad) (fd:FuncData),Meth K C x f/\Binds K fd ps []/\FnOk P w K mg base CX k f fd ps sp
def ZH (K:Fg) (C:Ad) (qual:Str) (st:Stmt) (ps:Jf):Prop:=∃ (f:Ad) (fd:FuncData),Mk K C f/\Fun K "__init__" qual st f fd/\Binds K fd ps []
def OkI (P:Program) (w:World) (K:Fg) (mg:J9) (base:Heap) (CX:CXT) (k:Nat) (C:Ad) (ps:Jf) (sp:Sp):Prop :=
 ∃ (f:Ad) (fd:FuncData),Mk K C f/\Binds K fd ps []/\FnOk P w K mg base CX k f fd ps sp
end
section
variable {X:Cx} {CX:CXT} {k:Nat} {C:Ad} {ps:Jf} {sp:Sp} {E:XK} {x m:Str} {p pos apos:Pos} {e o:Expr} {es:Jh} {ta:TE} {t:TA}
def zY (h:OkM X.prog X.w X.K X.mg X.base CX k C m ps sp) (c:Cls X.K C) (hr:Room k X.A) (hx:xl CX X E) {pl:Sem Bool} (he:PE X o ta) (ha:PA X (e::es) t)
  (hst:starEach (e::es) X.env=(false,eval e X.env)::starEach es X.env:=by rfl) (hpl:(backTo pos (starEach es X.env)).any (·.1)=false:=by rfl)
  (ht:eval (.Call (.Attribute o m apos) (e::es) [] pos) X.env=(do
   let ov ← eval o X.env
   standAt apos.atName
   let (f,first) ← holding [ov] (getMethod ov m pl)
   callWith pos f first (backTo pos (starEach (e::es) X.env)) (backToKw pos (keywordEach [] X.env))):=by rfl) :
  PE X (.Call (.Attribute o m apos) (e::es) [] pos) (tMeth C m sp [] E ta t):=by
 obtain ⟨f,fd,a,b,d⟩:=h;exact pe_meth he c a d hr b .nil hx ha hst hpl ht
def pe_okM0 (h:OkM X.prog X.w X.K X.mg X.base CX k C m ps sp) (c:Cls X.K C) (hr:Room k X.A) (hx:xl CX X E) {pl:Sem Bool} (he:PE X o ta)
  (ht:eval (.Call (.Attribute o m apos) [] [] pos) X.env=(do
   let ov ← eval o X.env
   standAt apos.atName
   let (f,first) ← holding [ov] (getMethod ov m pl)
   callWith pos f first (backTo pos (starEach [] X.env)) (backToKw pos (keywordEach [] X.env))):=by rfl) :
  PE X (.Call (.Attribute o m apos) [] [] pos) (tMeth C m sp [] E ta tNil):=by
 obtain ⟨f,fd,a,b,d⟩:=h;exact pe_meth0 he c a d hr b .nil hx ht
def XX (h:OkI X.prog X.w X.K X.mg X.base CX k C ps sp) (hm:X.mg x=some (.ref C)) (hr:Room (k+1) X.A) (hg:Gl X x) (hx:xl CX X E) (ha:PA X (e::es) t) (hdb:(x == ("__debug__":Str))=false:=by decide)
  (he:starEach (e::es) X.env=(false,eval e X.env)::starEach es X.env:=by rfl) (hpl:(backTo pos (starEach es X.env)).any (·.1)=false:=by rfl):PE X (.Call (.Name x p) (e::es) [] pos) (tMake C sp [] E t):=by
 obtain ⟨f,fd,a,b,d⟩:=h;exact pe_make a d hr hg hm b .nil hx ha hdb he hpl
end
theorem rep_ints (n:Nat):(List.replicate n [V.int 0]).flatten=(List.replicate n (0:Int)).map V.int:=by
 induction n with
 | zero=>rfl
 | succ n ih=>rw [List.replicate_succ,List.flatten_cons,ih];rfl
def set_ints {ns:Jb} {j:Nat} {n:Int}:(ns.map V.int).set j (.int n)=(ns.set j n).map V.int:=by rw [List.map_set]
def ixN_nat {n:Nat} {i:Int} (h0:0<=i) (h1:i<n):ixN n i=some i.toNat:=by
 unfold ixN;rw [if_pos h0,if_pos h1]
def FH (K:Fg) (x qual:Str) (st:Stmt) (f:Ad):Prop:=∃ (oc:Vl) (od:Option Ad) (kV dc pm:Vl) (an:Option Ad) (cd ct:Vl) (sl:Array (Je)),K.lookup f=some ⟨oc,od,.func (PySem.W.fnOf x qual (yQ st) (yv st) (zh st) .none kV dc pm an cd ct),sl⟩/\PySem.W.codeIn K cd qual=true/\PySem.W.keepIn K (.ref f)=true
def DH (K:Fg) (x:Str) (st:Stmt) (f:Ad):Prop:=PySem.W.nsIn K mainGlobals x=some (some (.ref f))/\FH K x x st f
def MH (K:Fg) (C:Ad) (x qual:Str) (st:Stmt):Prop:=∃ f:Ad,(PySem.W.findIn K (.ref C) x=some (some (.ref f))/\PySem.W.isFn K (.ref f)=true)/\FH K x qual st f
def CH (K:Fg) (C:Ad):Prop:=PySem.W.plainGet K C Str.empty=true/\PySem.W.hasDictIn K C=true/\PySem.W.plainOver K C=true/\PySem.W.findIn K (.ref C) "__setattr__"=some (some (.builtin "object.__setattr__"))
def FN (K:Fg) (C:Ad):Jf->Prop
 | []=>True
 | f::r=>PySem.W.findIn K (.ref C) f=some none/\FN K C r
section
variable {K:Fg} {mg:J9} {x qual:Str} {st:Stmt} {f C:Ad} {h:Heap} {ps:Jf}
def DH.d (d:DH K x st f) (X:K.In h) (G:h.Ns mainGlobals mg)
  (b:∀ (kV doc pm:Vl) (an:Option Ad) (cdv ct:Vl) (us:Jd),us.length=ps.length->bindArgs (PySem.W.fnOf x x (yQ st) (yv st) (zh st) .none kV doc pm an cdv ct) ⟨us,[]⟩=pure (ps.zip us)):zr K mg x st ps :=
 let ⟨a,_,_,_,_,_,_,_,_,_,l,c,k⟩:=d;defIn_mk X G a l c k b
def MH.m (d:MH K C x qual st)
  (b:∀ (kV doc pm:Vl) (an:Option Ad) (cdv ct:Vl) (us:Jd),us.length=ps.length->bindArgs (PySem.W.fnOf x qual (yQ st) (yv st) (zh st) .none kV doc pm an cdv ct) ⟨us,[]⟩=pure (ps.zip us)):zV K C x qual st ps :=
 let ⟨f,⟨a,n⟩,_,_,_,_,_,_,_,_,_,l,c,k⟩:=d;⟨f,_,⟨a,n,k⟩,ZG l c k,(ZG l c k).binds b⟩
def MH.i (d:MH K C "__init__" qual st) (mk:PySem.W.makesIn K C=true) (kC:PySem.W.keepIn K (.ref C)=true)
  (b:∀ (kV doc pm:Vl) (an:Option Ad) (cdv ct:Vl) (us:Jd),us.length=ps.length->bindArgs (PySem.W.fnOf "__init__" qual (yQ st) (yv st) (zh st) .none kV doc pm an cdv ct) ⟨us,[]⟩=pure (ps.zip us)):ZH K C qual st ps :=
 let ⟨f,⟨a,n⟩,_,_,_,_,_,_,_,_,_,l,c,k⟩:=d;⟨f,_,⟨mk,a,n,kC⟩,ZG l c k,(ZG l c k).binds b⟩
def CH.c (d:CH K C):Cls K C:=⟨d.1,d.2.1,d.2.2.1,d.2.2.2⟩
end
end L2
namespace L2
open PySem
def DH.mk {K:Fg} {x:Str} {st:Stmt} {f:Ad} {oc:Vl} {od an:Option Ad} {kV dc pm cd ct:Vl} {sl:Array (Je)} (a:PySem.W.nsIn K mainGlobals x=some (some (.ref f))) (l:K.lookup f=some ⟨oc,od,.func (PySem.W.fnOf x x (yQ st) (yv st) (zh st) .none kV dc pm an cd ct),sl⟩) (c:PySem.W.codeIn K cd x=true) (k:PySem.W.keepIn K (.ref f)=true):DH K x st f:=⟨a,_,_,_,_,_,_,_,_,_,l,c,k⟩
def MH.mk {K:Fg} {C:Ad} {x qual:Str} {st:Stmt} {f:Ad} {oc:Vl} {od an:Option Ad} {kV dc pm cd ct:Vl} {sl:Array (Je)} (a:PySem.W.findIn K (.ref C) x=some (some (.ref f))) (n:PySem.W.isFn K (.ref f)=true) (l:K.lookup f=some ⟨oc,od,.func (PySem.W.fnOf x qual (yQ st) (yv st) (zh st) .none kV dc pm an cd ct),sl⟩) (c:PySem.W.codeIn K cd qual=true) (k:PySem.W.keepIn K (.ref f)=true):MH K C x qual st:=⟨f,⟨a,n⟩,_,_,_,_,_,_,_,_,_,l,c,k⟩
def scK {N P:Jf} {sc:Scope} (h:(decide (sc.kind=.function) && (!sc.isCoroutine && (!sc.isGenerator && (decide N.Nodup && (decide (N.take P.length=P) && ((P.all λx=>decide (sc.names.lookup x=some .local∨sc.names.lookup x=some .cell)) && sc.names.all λy=>decide (y.2≠.free)))))))=true:=by decide +kernel):FnScope N P sc:=by
 simp only [Bool.and_eq_true,decide_eq_true_eq,Bool.not_eq_true',List.all_eq_true] at h;obtain ⟨h1,h2,h3,h4,h5,h6,h7⟩:=h;exact ⟨h1,h2,h3,h4,h5,h6,h7⟩
def TB (K:Fg) (T:Ad):List (Str×Ad)->Prop
 | []=>True
 | p::r=>PySem.W.nsIn K T p.1=some (some (.ref p.2))/\TB K T r
def TN (K:Fg) (T:Ad):Jf->Prop
 | []=>True
 | x::r=>PySem.W.nsIn K T x=some none/\TN K T r
end L2
namespace L2
open PySem PySem.Spec PyProof.Rows
structure Hd (B:Hp) (L:Jm) (H:Hp):Prop where
 nd:(L.map Prod.fst).Nodup
 nw:∀ p∈L,B p.1=none
 st:∀ p∈L,H p.1=some p.2
 sm:Same B H
namespace Hd
variable {B:Hp} {L:Jm} {H H':Hp} {a b:Ad} {o o':HO}
def base:Hd B [] B:=⟨List.nodup_nil,(λ_ h=>nomatch h),(λ_ h=>nomatch h),Same.refl B⟩
def get (h:Hd B L H) (i:Nat) (e:L[i]?=some (a,o)):H a=some o:=h.st _ (List.mem_of_getElem? e)
def same (h:Hd B L H) (s:Same H H'):Hd B L H':=⟨h.nd,h.nw,λp m=>s _ _ (h.st p m),h.sm.trans s⟩
def new (h:Hd B L H) (n:H a=none):Hd B ((a,o)::L) (upd H a o):=by
 have ne:∀ p∈L,p.1≠a:=λp m=>zp (h.st p m) n;refine ⟨List.nodup_cons.mpr ⟨λm=>?_,h.nd⟩,λp m=>?_,λp m=>?_,zi h.sm (h.sm.free n)⟩
 ·obtain ⟨p,mp,e⟩:=List.mem_map.mp m
  exact ne p mp e
 ·rcases List.mem_cons.mp m with rfl | m
  ·exact h.sm.free n
  ·exact h.nw p m
 ·rcases List.mem_cons.mp m with rfl | m
  ·exact zf
  ·rw [zk (ne p m)];exact h.st p m
def fst_set (i:Nat) (e:L[i]?=some (a,o)):(L.set i (a,o')).map Prod.fst=L.map Prod.fst:=by
 rw [List.map_set];apply List.ext_getElem?;intro j;rw [List.getElem?_set]
 split
 ·rename_i q
  subst q
  split
  ·rw [List.getElem?_map,e];rfl
  ·rename_i q
   rw [List.getElem?_eq_none (by omega)]
 ·rfl
theorem ne (h:Hd B L H) (i j:Nat) (ei:L[i]?=some (a,o)) (ej:L[j]?=some (b,o')) (hij:i≠j):a≠b:=λe=>by
 subst e;have h1:(L.map Prod.fst)[i]?=some a:=by rw [List.getElem?_map,ei];rfl
 have h2:(L.map Prod.fst)[j]?=some a:=by rw [List.getElem?_map,ej];rfl
 obtain ⟨b1,e1⟩:=List.getElem?_eq_some_iff.mp h1;obtain ⟨b2,e2⟩:=List.getElem?_eq_some_iff.mp h2
 have key:∀ (l:Jg),l.Nodup->∀ (i j:Nat) (b1:i<l.length) (b2:j<l.length),l[i]=l[j]->i=j:=by
  intro l hl
  induction l with
  | nil=>intro i j b1;cases b1
  | cons x r ih =>
   intro i j b1 b2 q;have nr:=List.nodup_cons.mp hl
   cases i with
   | zero =>
    cases j with
    | zero=>rfl
    | succ j=>exact absurd (by rw [List.getElem_cons_zero,List.getElem_cons_succ] at q;rw [q];exact List.getElem_mem _) nr.1
   | succ i =>
    cases j with
    | zero=>exact absurd (by rw [List.getElem_cons_zero,List.getElem_cons_succ] at q;rw [← q];exact List.getElem_mem _) nr.1
    | succ j=>rw [List.getElem_cons_succ,List.getElem_cons_succ] at q;rw [ih nr.2 i j _ _ q]
 exact hij (key _ h.nd i j b1 b2 (e1.trans e2.symm))
def chg (h:Hd B L H) (i:Nat) (e:L[i]?=some (a,o)) (k:∀ c u,c≠a->H c=some u->H' c=some u) (q:H' a=some o'):Hd B (L.set i (a,o')) H':=by
 have nb:B a=none:=h.nw _ (List.mem_of_getElem? e);refine ⟨by rw [fst_set i e];exact h.nd,λp m=>?_,λp m=>?_,λc u z=>k c u (zp z nb) (h.sm c u z)⟩
 ·rcases List.mem_or_eq_of_mem_set m with m | rfl
  ·exact h.nw p m
  ·exact nb
 ·obtain ⟨j,lt,ej⟩:=List.getElem_of_mem m
  have ej:(L.set i (a,o'))[j]?=some p:=by rw [List.getElem?_eq_getElem lt,ej]
  rw [List.getElem?_set] at ej
  split at ej
  ·split at ej
   ·cases ej;exact q
   ·cases ej
  ·rename_i hij
   obtain ⟨c,u⟩:=p;exact k c u (Ne.symm (h.ne i j e ej hij)) (h.get j ej)
def put (h:Hd B L H) (i:Nat) (e:L[i]?=some (a,o)):Hd B (L.set i (a,o')) (upd H a o'):=h.chg i e (λc u n z=>by rw [zk n];exact z) zf
def sql (h:Hd B L H) {K:Fg} {xs:Jn} (q:SqL K B a xs):SqL K H a xs:=zG q h.sm
def sqt (h:Hd B L H) {K:Fg} {xs:Jn} (q:SqT K B a xs):SqT K H a xs:=by
 rcases q with (q | ⟨o,q⟩) | q
 ·exact .inl (.inl (h.sm _ _ q))
 ·exact .inl (.inr ⟨o,h.sm _ _ q⟩)
 ·exact .inr q
def lst (h:Hd B L H) {K:Fg} {xs:Jn} (i:Nat) (e:L[i]?=some (a,.lst xs)):SqL K H a xs:=SqL.of (h.get i e)
def tup (h:Hd B L H) {K:Fg} {xs:Jn} (i:Nat) (e:L[i]?=some (a,.tup xs)):SqT K H a xs:=SqT.of (h.get i e)
def sub {L':Jm} (h:Hd B L H) (s:List.Sublist L' L):Hd B L' H:=⟨h.nd.sublist (s.map _),λp m=>h.nw p (s.subset m),λp m=>h.st p (s.subset m),h.sm⟩
def tl {p:Ad×HO} (h:Hd B (p::L) H):Hd B L H:=h.sub (List.sublist_cons_self _ _)
def free (h:Hd B L H) (n:H a=none):B a=none:=h.sm.free n
def add (h:Hd B L H) (n:∀ p∈L,p.1≠a) (nb:B a=none) (e:H a=some o):Hd B ((a,o)::L) H:=by
 refine ⟨List.nodup_cons.mpr ⟨λm=>?_,h.nd⟩,λp m=>?_,λp m=>?_,h.sm⟩
 ·obtain ⟨p,mp,e⟩:=List.mem_map.mp m
  exact n p mp e
 ·rcases List.mem_cons.mp m with rfl | m
  ·exact nb
  ·exact h.nw p m
 ·rcases List.mem_cons.mp m with rfl | m
  ·exact e
  ·exact h.st p m
def made {C x dx l:Ad} {ox ol:HO} (h:Hd B L H) (nx:H x=none) (ndx:H dx=none) (ne:dx≠x) (k:∀ b u,b≠x->upd (upd H dx (.own x)) x (.ins C dx []) b=some u->H' b=some u)
  (nl:upd (upd H dx (.own x)) x (.ins C dx []) l=none) (ex:H' x=some ox) (el:H' l=some ol):Hd B ((l,ol)::(x,ox)::(dx,.own x)::L) H':=by
 have h1:Hd B ((dx,.own x)::L) (upd H dx (.own x)):=h.new ndx;have h2:Hd B ((x,.ins C dx [])::(dx,.own x)::L) (upd (upd H dx (.own x)) x (.ins C dx [])):=h1.new (by rw [zk (Ne.symm ne)];exact nx);have h3:Hd B ((x,ox)::(dx,.own x)::L) H':=h2.chg 0 rfl k ex;refine h3.add (λp m=>?_) (h2.free nl) el;rcases List.mem_cons.mp m with rfl | m
 ·exact zp (h2.get 0 rfl) nl
 ·exact zp (h2.st p (q1y _ m)) nl
def perm {B:Hp} {L L':Jm} {H:Hp} (h:Hd B L H) (p:L.Perm L'):Hd B L' H:=⟨(p.map Prod.fst).nodup h.nd,λq m=>h.nw q (p.mem_iff.mpr m),λq m=>h.st q (p.mem_iff.mpr m),h.sm⟩
end Hd
section
variable {X:Cx} {st:Stmt} {t:TS} {e:Expr} {te:TE}
inductive tMid (t:TS) (D:Ends) (σ:St) (H:Hp):Prop
 | mk (M:St->Hp->Prop) (_:t { D with nx:=M } σ H) (_:∀ σ' H',M σ' H'->D.nx σ' H')
theorem yc (h:PS X st t):PS X st (tMid t):=by
 intro pins s σ H D I q;obtain ⟨M,q,k⟩:=q;refine thn (h pins s σ H _ I q) λf s1 z=>?_
 cases f with
 | next=>exact let ⟨σ',H',I',z⟩:=z;⟨σ',H',I',k _ _ z⟩
 | ret v=>exact z
 | brk=>exact z
 | cont=>exact z
end
def but (H:Hp) (ls:Jg):Hp:=λb=>if b∈ls then none else H b
def Xd {H:Hp} {ls:Jg} {b:Ad} (h:b∈ls):but H ls b=none:=by unfold but;rw [if_pos h]
def Ze {H:Hp} {ls:Jg} {b:Ad} {o:HO} (h:H b=some o) (n:b ∉ ls):but H ls b=some o:=by unfold but;rw [if_neg n];exact h
def but_sub {H:Hp} {ls:Jg}:Same (but H ls) H:=λb o z=>by
 unfold but at z
 split at z
 ·cases z
 ·exact z
namespace Hd
variable {B B':Hp} {L:Jm} {H H':Hp} {a:Ad} {o:HO}
def into (h:Hd B [(a,o)] H):Same B (but H [a]):=λb u z=>Ze (h.sm _ _ z) (by
 intro q;have q:=List.mem_singleton.mp q;subst q;rw [h.nw _ (List.mem_singleton.mpr rfl)] at z;cases z)
def back {L:Jm} {o':HO} (h:Hd B L H) (i:Nat) (e:L[i]?=some (a,o)) (k:Hd (but H [a]) [(a,o')] H'):Hd B (L.set i (a,o')) H' :=
 h.chg i e (λc u n z=>k.sm _ _ (Ze z (by simp [n]))) (k.get 0 rfl)
end Hd
def but_inv {H:Hp} {a b:Ad} {o:HO} (h:but H [a] b=some o):b≠a/\H b=some o:=by
 unfold but at h
 split at h
 ·cases h
 ·rename_i z;exact ⟨λe=>z (by rw [e];exact List.mem_singleton_self a),h⟩
def but_free {H:Hp} {a b:Ad} (n:but H [a] b=none) (ne:b≠a):H b=none:=by
 unfold but at n;rw [if_neg (by simp [ne])] at n;exact n
section
variable {X:Cx} {pins:Jc} {σ σ':St} {H H':Hp} {s s':Sh} {a:Ad} {xs:Jn}
end
namespace Hd
variable {B:Hp} {L L':Jm} {H:Hp}
def split (h:Hd B L H) (s:List.Sublist L' L):Same B (but H (L'.map Prod.fst))/\Hd (but H (L'.map Prod.fst)) L' H:=by
 refine ⟨λb o z=>Ze (h.sm _ _ z) λm=>?_,(h.sub s).nd,λp m=>Xd (List.mem_map_of_mem m),(h.sub s).st,but_sub⟩;obtain ⟨p,mp,e⟩:=List.mem_map.mp m;have:=h.nw p (s.subset mp);rw [e] at this;rw [this] at z;cases z
end Hd
def ItS (lo c:Int) (n:Nat):It:=⟨λi _=>i<n,λi H x H'=>H'=H/\x=.int (lo+i*c),λi _=>n<=i⟩
def XJ {P:Program} {w:World} {K:Fg} {tg:Expr} (it:Ad) (lo c:Int) (n:Nat) :
  Turn P w K tg (ItS lo c n) [it] it (λi h=>IsRangeIter h it (lo+(i:Nat)*c) ((n:Int)-(i:Nat)) c) where
 mem:=List.mem_singleton_self it
 obj:=λi h st b hb=>by
  cases List.mem_singleton.mp hb;refine ⟨_,st,λv z=>?_⟩;have y:Data.fields _=Data.cell v:=z;cases y
 keep:=λi h h' st k=>k it (List.mem_singleton_self it) _ st
 item:=by
  intro X hP hw hK hc i pins s σ H E I hf st hg;subst hP;subst hw;subst hK;obtain ⟨a0,a1,a2,a3,a4,a5⟩:=hf it (List.mem_singleton_self it);refine (Walks.range (prog:=X.prog) (w:=X.w) (I.ok.hd hc) it lo c n).item i s _ _ hg st λv h' tk hv st' kk=>?_;obtain ⟨t,rfl⟩:=hv;have J:Inv X pins σ H { s with heap:=h',toks:=tk }:=I.turned (λb o hb e=>kk b o (by simpa using hb) e) a0 a1 a3 a4 a5;exact ⟨_,rfl,go_of (s:={ s with heap:=h',toks:=tk }) (n:="range_iterator") st' rfl rfl (by decide) ⟨.int (lo+i*c),H,J,⟨t,rfl⟩,⟨rfl,rfl⟩,st',λb hb=>(hf b hb).1⟩⟩
 done:=by
  intro X hP hw hK hc i pins s σ H E I hf st hg;subst hP;subst hw;subst hK;obtain ⟨a0,a1,a2,a3,a4,a5⟩:=hf it (List.mem_singleton_self it);have hn:n<=i:=hg;exact wpAny_pyNext_range_end (I.ok.hd hc) st (by omega) λh' eb=>⟨rfl,I.turned (t':=s.toks) (λb o hb e=>eb b o hb e) a0 a1 a3 a4 a5⟩
 self:=λ_ _ _ _ _ st h=>wpAny_pyIter_rangeiter st h
def zbg {a b c:Int} (ha:0<=a) (ha':a<2 ^ 40) (hb:0<=b) (hb':b<2 ^ 40) (h0:0<c) (h1:c<2 ^ 20):Builtin.Range.small a b c=true:=by
 unfold Builtin.Range.small
 have q:Builtin.Range.rangeSize a b c<=2 ^ 40/\0<=Builtin.Range.rangeSize a b c:=by
  unfold Builtin.Range.rangeSize;rw [if_pos (show c > 0 from h0)]
  split
  ·have z:=Int.ediv_le_self (b:=c) (show 0<=b-a-1 by omega)
   have y:=Int.ediv_nonneg (show 0<=b-a-1 by omega) (show 0<=c by omega);omega
  ·omega
 simp only [Builtin.Range.rangeFitsLong,Bool.and_eq_true,Bool.or_eq_true,decide_eq_true_eq,beq_iff_eq];refine ⟨⟨⟨⟨⟨by omega,by omega⟩,by omega,by omega⟩,by omega,by omega⟩,by omega,by omega⟩,.inr ?_⟩;rw [if_pos (show c > 0 from h0),decide_eq_true (show -2 ^ 63<=b+(c-1) by omega),decide_eq_true (show b+(c-1)<2 ^ 63 by omega)];rfl
section
variable {X:Cx} {tg:Expr}
inductive iRngS_S (R:(It->Hp->Prop)) (vs:Jn) (H1:Hp):Prop
 | mk (i j c:Int) (n:Nat) (_:vs=[.int i,.int j,.int c]) (_:(0<=i/\i<2 ^ 40/\0<=j/\j<2 ^ 40/\0<c/\c<2 ^ 20)) (_:Builtin.Range.rangeSize i j c=n) (_:R (ItS i c n) H1)
def iRngS (ta:TA):TI:=λσ H R=>ta σ H λvs H1=>iRngS_S R vs H1
def zbf {pins:Jc} {σ:St} {H:Hp} {s:Sh} {R:It->Hp->Prop} {E:Ja} {lo hi c:Int} {n:Nat} {t u v:Tok} {tk:Nat} (I:Inv X pins σ H s) (hs:Builtin.Range.small lo hi c=true) (hn:Builtin.Range.rangeSize lo hi c=n)
  (q:R (ItS lo c n) H):wpAny (model X.prog X.w) X.A (pyIter (.ref s.heap.objs.size)) (PIE X pins σ tg R) E { s with heap:=s.heap.push { cls:=.type "range",data:=.fields #[.int lo t,.int hi u,.int c v] },toks:=tk }:=by
 refine wpAny_pyIter_range (IsRange.new ..) hs ?_;have J:Inv X pins σ H { s with heap:=s.heap.push { cls:=.type "range",data:=.fields #[.int lo t,.int hi u,.int c v] },toks:=tk }:=I.kept λb o e=>Heap.get?_push_of_some _ e;generalize hh:s.heap.push { cls:=.type "range",data:=.fields #[.int lo t,.int hi u,.int c v] }=h1 at J ⊢;refine ⟨h1.objs.size,[h1.objs.size],_,_,H,rfl,J.kept (t':=tk) λb o e=>Heap.get?_push_of_some _ e,XJ _ lo c n,?_,λb hb=>?_,q⟩
 ·show IsRangeIter _ _ (lo+((0:Nat):Int)*c) ((n:Int)-((0:Nat):Int)) c
  rw [show lo+((0:Nat):Int)*c=lo by simp,show (n:Int)-((0:Nat):Int)=Builtin.Range.rangeSize lo hi c by rw [hn];simp];exact Heap.get?_push_size _ rfl
 ·cases List.mem_singleton.mp hb
  exact J.fpOk (Nat.le_refl _) (J.hok.fresh (Nat.le_refl _))
theorem pi_range3 {a b c:Expr} {ta:TA} {p pos:Pos} (hg:Gl X "range") (hm:X.mg "range"=none) (ha:PA X [a,b,c] ta) (hs:starEach [a,b,c] X.env=[(false,eval a X.env),(false,eval b X.env),(false,eval c X.env)]:=by rfl)
  (hs2:starEach [b,c] X.env=[(false,eval b X.env),(false,eval c X.env)]:=by rfl):PI X tg (.Call (.Name "range" p) [a,b,c] [] pos) (iRngS ta):=by
 intro pins s σ H R I h;refine Call_ (xD I hg hm boot_range (PyProof.Rows.callWith_type1 (thn (ha pos pins s σ H _ I h) λus s1 ⟨vs,H1,I1,r1,q1⟩=>?_) (by rw [hs,hs2]) (by rw [hs2];rfl)));obtain ⟨i,j,k,n,e,⟨b1,b2,b3,b4,b5,b6⟩,en,q⟩:=q1;subst e
 cases r1 with
 | cons r rr =>
  cases rr with
  | cons r' rr =>
   cases rr with
   | cons r'' rr =>
    cases rr;obtain ⟨t,rfl⟩:=r;obtain ⟨t',rfl⟩:=r';obtain ⟨t'',rfl⟩:=r'';refine call_range_3 (by omega) (zbf I1 (zbg b1 b2 b3 b4 b5 b6) en q) (.inl ?_);exact PyProof.noPylong_small (by omega)
end
section
variable {X:Cx}
def for_step {lo c:Int} {n:Nat} {g:TG} {tb:TS} {D:Ends} {σ:St} {H:Hp} (Pv:Nat->St->Hp->Prop) (h0:Pv 0 σ H)
  (hs:∀ i σ H,i<n->Pv i σ H->g (.int (lo+i*c)) σ H λσ2 H2=>tb { D with nx:=Pv (i+1),ct:=Pv (i+1),bk:=D.nx } σ2 H2) (hd:∀ σ H,Pv n σ H->D.nx σ H) :
  tFor_S g tb D σ (ItS lo c n) H:=by
 refine ⟨λi m σ H=>m=n-i/\i<=n/\Pv i σ H,⟨n,by simp,Nat.zero_le _,h0⟩,?_⟩;rintro i m σ H ⟨rfl,hi,p⟩;by_cases hlt:i<n
 ·refine .inr ⟨hlt,Pv (i+1),λσ' H' p'=>⟨n-(i+1),by omega,rfl,hlt,p'⟩,λx H' y=>?_⟩
  obtain ⟨e,y⟩:=y;subst e y;exact hs i σ _ hlt p
 ·have e:i=n:=by omega
  subst e;exact .inl ⟨Nat.le_refl _,hd σ H p⟩
end
section
variable {X:Cx} {pins:Jc} {σ σ':St} {H H':Hp} {s s':Sh} {a:Ad} {xs:Jn}
def Part (H H':Hp):Prop:=∀ b o,(∀ x u,o≠.frz x u)->H b=some o->H' b=some o
def lsts (L:List (Ad×Jn)):Jm:=L.map λp=>(p.1,.lst p.2)
end
theorem ints_at {ns:Jb} {us:Jd} (h:Vals (ns.map V.int) us) (i:Nat) (v:Vl) (e:us[i]?=some v):∃ n t,ns[i]?=some n/\v=.int n t:=by
 induction ns generalizing us i with
 | nil=>cases h;cases e
 | cons n ns ih =>
  cases h with
  | cons r rr =>
   cases i with
   | zero=>obtain ⟨t,rfl⟩:=r;cases (show some _=some v from e);exact ⟨n,t,rfl,rfl⟩
   | succ i=>exact ih rr i e
theorem vals_len {vs:Jn} {us:Jd} (h:Vals vs us):us.length=vs.length:=by
 induction h with
 | nil=>rfl
 | cons _ _ ih=>rw [q3x,q3x,ih]
section
variable {X:Cx}
end
section
variable {X:Cx} {pins:Jc} {σ:St} {H:Hp} {s:Sh}
theorem kit_of {x:V} {u t:Vl} (I:Inv X pins σ H s) (rx:RelV x u) (ty:TyOf X.K H x t):∃ Z:Heap->Prop,PySem.W.KitX X.K u t Z/\Z s.heap/\u≠.builtin "__main__.__loader__#opaque":=by
 cases ty with
 | non=>cases (show u=Value.none from rx);exact ⟨_,PySem.W.kitx_none,True.intro,λz=>nomatch z⟩
 | bl y=>cases (show u=Value.bool y from rx);exact ⟨_,PySem.W.kitx_bool,True.intro,λz=>nomatch z⟩
 | int i=>obtain ⟨t,q⟩:=(show ∃ t,u=Value.int i t from rx);cases q;exact ⟨_,PySem.W.kitx_int,True.intro,λz=>nomatch z⟩
 | str y=>obtain ⟨t,q⟩:=(show ∃ t,u=Value.str y t from rx);cases q;exact ⟨_,PySem.W.kitx_str,True.intro,λz=>nomatch z⟩
 | flt y=>obtain ⟨t,q⟩:=(show ∃ t,u=Value.float y t from rx);cases q;exact ⟨_,PySem.W.kitx_float,True.intro,λz=>nomatch z⟩
 | @lst a xs ea =>
  cases (show u=Value.ref a from rx);obtain ⟨_,_,n,_,e1⟩:=(show ObjOk X.prog X.w H s.heap a (.lst xs) from I.hok a _ ea);exact ⟨_,PySem.W.kitx_list,⟨_,e1,rfl⟩,λz=>nomatch z⟩
 | @frz a ob xs ea =>
  cases (show u=Value.ref a from rx);obtain ⟨_,_,_,n,_,e1⟩:=(show ObjOk X.prog X.w H s.heap a (.frz ob (.lst xs)) from I.hok a _ ea);exact ⟨_,PySem.W.kitx_list,⟨_,e1,rfl⟩,λz=>nomatch z⟩
 | @tup a xs ea =>
  cases (show u=Value.ref a from rx);obtain ⟨_,_,_,p⟩:=(show ObjOk X.prog X.w H s.heap a (.tup xs) from I.hok a _ ea);obtain ⟨o,e1,e2,_⟩:=p;exact ⟨_,PySem.W.kitx_tuple,⟨o,e1,e2⟩,λz=>nomatch z⟩
 | @dK a kvs ea =>
  cases (show u=Value.ref a from rx);obtain ⟨_,_,vs,_,p⟩:=(show ObjOk X.prog X.w H s.heap a (.dK kvs) from I.hok a _ ea);obtain ⟨o,es,ep,e1,e2,_⟩:=p;exact ⟨_,PySem.W.kitx_dict,⟨o,e1,e2.1⟩,λz=>nomatch z⟩
 | @dT a kvs ea =>
  cases (show u=Value.ref a from rx);obtain ⟨_,_,xs,_,p⟩:=(show ObjOk X.prog X.w H s.heap a (.dT kvs) from I.hok a _ ea);obtain ⟨o,es,ep,e1,e2,_⟩:=p;exact ⟨_,PySem.W.kitx_dict,⟨o,e1,e2.1⟩,λz=>nomatch z⟩
 | @ins a C dx fs ea cl ha hn htk hm =>
  cases (show u=Value.ref a from rx);obtain ⟨mA,O,_⟩:=ZZ I.hok ea;obtain ⟨od,J,_⟩:=O.look;exact ⟨_,PySem.W.kitx_own (cl.get _) cl.hd ha hn htk hm,J,λz=>nomatch z⟩
def clsV:V->Vl
 | .ref a=>.ref a
 | .ty n=>.type n
 | _=>.none
def isClsV:V->Bool
 | .ref _=>true
 | .ty _=>true
 | _=>false
theorem zad:∀ {cs:Jn} {us:Jd},cs.all isClsV=true->Vals cs us->us=cs.map clsV
 | [],_,_,.nil=>rfl
 | c::cs,_,h,.cons r rr=>by
  rw [List.all_cons,Bool.and_eq_true] at h;rw [zad h.2 rr]
  cases c with
  | ref a=>cases (show _=Value.ref a from r);rfl
  | ty n=>cases (show _=Value.type n from r);rfl
  | _=>cases h.1
inductive rIsiT (K:Fg) (vs:Jn) (H:Hp) (Q:VK):Prop
 | mk (x:V) (tp:Ad) (cs:Jn) (t:Vl) (b:Bool) (_:vs=[x,.ref tp]) (_:H tp=some (.tup cs)) (_:cs.all isClsV=true) (_:TyOf K H x t) (_:PySem.W.kitAny K t (cs.map clsV)=some b) (_:Q (.bl b) H)
def zaa:Zh X (.builtin "isinstance") (rIsiT X.K):=by
 intro pins s σ H xs us Q I r h;obtain ⟨x,tp,cs,t,b,rfl,et,hc,ty,e,q⟩:=h;obtain ⟨u,w',rfl,ru,rw'⟩:=YD r;cases (show w'=Value.ref tp from rw');obtain ⟨Z,kx,hz,nl⟩:=kit_of I ru ty;obtain ⟨_,its,rv,⟨cls,dd,data,sl⟩,e1,e2,n,e3⟩:=(show ObjOk X.prog X.w H s.heap tp (.tup cs) from I.hok tp _ et);simp only at e2 e3;subst e2 e3;rw [← zad hc rv] at e;exact PySem.W.kia_tup kx I.kIn hz e1 e nl λtk=>⟨.bl b,H,I.tok _,rfl,q⟩
end
section
variable {prog:Program} {w:World} {A:Around} {E:Ja} {s:Sh}
end
section
variable {X:Cx} {pos:Pos}
end
section
variable {X:Cx} {pins:Jc} {σ:St} {H:Hp} {s:Sh} {h':Heap}
def Inv.turnedT {its:Jg} {T:Ad} {o:HO} {t':Nat} (I:Inv X pins σ H s) (k:∀ b u,b ∉ its->s.heap.get? b=some u->h'.get? b=some u) (hf:∀ b∈its,xF X pins H b) (hT:s.heap.objs.size<=T) (new:ObjOk X.prog X.w (upd H T o) h' T o) :
  Inv X pins σ (upd H T o) { s with heap:=h',toks:=t' }:=by
 have fr:=I.hok.fresh hT;have neT:∀ {b:Ad} {u:Obj},s.heap.get? b=some u->b≠T:=λe=>Nat.ne_of_lt (q2z (Heap.lt_size e) hT);have ni:∀ {b:Ad} {u:HO},H b=some u->b ∉ its:=λe m=>by rw [(hf _ m).1] at e;cases e
 refine I.step (g':=s.gens) (d':=s.drawn) (ch:=its) (λb hb=>?_) (λb u _ _ hc e _=>k b u hc e) (λb u _ _ hc e _=>⟨u.slots,k b u hc e⟩) (λb u _ e n=>by rw [zk (neT e)];exact n)
  (λb u hc e=>⟨u,k b u hc e⟩) (λb ys e=>by rw [zk (zp e fr)];exact e) (λb u v e=>by rw [zk (zp e fr)];exact e) (λb ps e=>⟨#[],by rw [zk (zp e fr),e];simp⟩) (λm hm=>?_) (λb u e=>?_) I.bare
 ·obtain ⟨_,f1,_,f3,f4,f5⟩:=hf b hb
  exact ⟨f3,f1,f4,f5⟩
 ·obtain ⟨ob,es,ep,ho,r⟩:=hm
  exact ⟨ob,es,ep,k _ ob (λm=>(hf _ m).2.1 rfl) ho,r⟩
 ·by_cases hb:b=T
  ·subst hb;rw [zf] at e;cases e;exact new
  ·rw [zk hb] at e
   refine (I.hok b u e).stay (λc v hc q=>k c v ?_ q) (λc q=>by rw [zk (zp q fr)];exact q) λc ys q=>by rw [zk (zp q fr)];exact q
   rcases hc with z | z
   ·rw [z];exact ni e
   ·exact ni z
def Inv.turnedL {its:Jg} {t':Nat} (I:Inv X pins σ H s) (k:∀ b u,b ∉ its->s.heap.get? b=some u->h'.get? b=some u) (hf:∀ b∈its,xF X pins H b):Inv X pins σ H { s with heap:=h',toks:=t' }:=by
 have ni:∀ {b:Ad} {u:HO},H b=some u->b ∉ its:=λe m=>by rw [(hf _ m).1] at e;cases e
 refine I.step (g':=s.gens) (d':=s.drawn) (ch:=its) (λb hb=>?_) (λb u _ _ hc e _=>k b u hc e) (λb u _ _ hc e _=>⟨u.slots,k b u hc e⟩) (λ_ _ _ _ n=>n)
  (λb u hc e=>⟨u,k b u hc e⟩) (λ_ _ e=>e) (λ_ _ _ e=>e) (λb ps e=>⟨#[],by rw [e];simp⟩) (λm hm=>?_) (λb u e=>?_) I.bare
 ·obtain ⟨_,f1,_,f3,f4,f5⟩:=hf b hb
  exact ⟨f3,f1,f4,f5⟩
 ·obtain ⟨ob,es,ep,ho,r⟩:=hm
  exact ⟨ob,es,ep,k _ ob (λm=>(hf _ m).2.1 rfl) ho,r⟩
 ·refine (I.hok b u e).stay (λc v hc q=>k c v ?_ q) (λ_ q=>q) λ_ _ q=>q
  rcases hc with z | z
  ·rw [z];exact ni e
  ·exact ni z
end
def Itz (K:Fg) (l1 l2:Ad):It :=
  ⟨λi H=>∃ xs ys x y,SqL K H l1 xs/\SqL K H l2 ys/\xs[i]?=some x/\ys[i]?=some y,
   λi H x H'=>∃ T u v,x=.ref T/\H T=none/\H'=upd H T (.tup [u,v])/\∀ xs ys,SqL K H l1 xs->SqL K H l2 ys->xs[i]?=some u/\ys[i]?=some v,
   λi H=>∃ xs ys,SqL K H l1 xs/\SqL K H l2 ys/\(xs.length<=i∨ys.length<=i)⟩
def zaf {P:Program} {w:World} {K:Fg} {es:Jh} {kt:Nat} {pos:Pos} {z TI TO i1 i2 l1 l2:Ad} (D:ZipApart z TI TO i1 i2 l1 l2) :
  Turn P w K (.Tuple es kt pos) (Itz K l1 l2) [z,TI,TO,i1,i2] z (λi h=>IsZip h z TI TO .none/\IsPair h TI (.ref i1) (.ref i2)/\(∃ a b,IsPair h TO a b)/\h.IsListIter i1 l1 i/\h.IsListIter i2 l2 i) where
 mem:=by simp
 obj:=λi h st b hb=>by
  obtain ⟨hz,hI,⟨a,b',hO⟩,⟨o1,e1,c1,d1⟩,⟨o2,e2,c2,d2⟩⟩:=st;simp at hb;rcases hb with rfl | rfl | rfl | rfl | rfl
  ·exact ⟨_,hz,λv q=>by cases q⟩
  ·exact ⟨_,hI,λv q=>by cases q⟩
  ·exact ⟨_,hO,λv q=>by cases q⟩
  ·exact ⟨_,e1,λv q=>by rw [d1] at q;cases q⟩
  ·exact ⟨_,e2,λv q=>by rw [d2] at q;cases q⟩
 keep:=λi h h' st k=>by
  obtain ⟨hz,hI,⟨a,b',hO⟩,h1,h2⟩:=st;exact ⟨k z (by simp) _ hz,k TI (by simp) _ hI,⟨a,b',k TO (by simp) _ hO⟩,h1.at λo e=>k i1 (by simp) o e,h2.at λo e=>k i2 (by simp) o e⟩
 item:=by
  intro X hP hw hK hc i pins s σ H E I hf st hg;subst hP hw hK;obtain ⟨hz,hI,⟨a,b',hO⟩,h1,h2⟩:=st;obtain ⟨xs,ys,x,y,q1,q2,ex,ey⟩:=hg;obtain ⟨is1,r1,p1,_⟩:=I.list q1;obtain ⟨is2,r2,p2,_⟩:=I.list q2;obtain ⟨u,hu,ru⟩:=r1.get ex;obtain ⟨v,hv,rv⟩:=r2.get ey;refine wpAny_pyNext_zip_item D hz hI hO h1 h2 p1.isList p2.isList (x:=u) (y:=v) (by simpa using hu) (by simpa using hv) λh1' a1 a2 a3 a4 a5 a6 hk=>?_;refine ⟨_,rfl,wpAny_letOwnedTupleGo_zip (s:={ s with heap:=h1' }) a1 λh2' z' sb=>?_⟩;have lt:∀ {c:Ad} {o:Obj},s.heap.get? c=some o->c≠s.heap.objs.size:=λe=>Nat.ne_of_lt (Heap.lt_size e);have Tz:s.heap.objs.size≠z:=(lt hz).symm;have fr:=I.hok.fresh (Nat.le_refl _);refine ⟨.ref s.heap.objs.size,upd H s.heap.objs.size (.tup [x,y]),I.turnedT (its:=[z,TI,TO,i1,i2]) (t':=s.toks) (λb o nb e=>?_) hf (Nat.le_refl _) ⟨by show 2<=sizeLine;decide,[u,v],.cons ru (.cons rv .nil),_,sb.extBut _ _ Tz a5,rfl,_,rfl⟩,rfl,⟨s.heap.objs.size,x,y,rfl,fr,rfl,λxs' ys' q1' q2'=>?_⟩,?_,λb hb=>?_⟩
  ·have nb':b≠z/\b≠TI/\b≠TO/\b≠i1/\b≠i2:=by simpa using nb
   exact sb.extBut _ _ nb'.1 (hk b o nb'.1 nb'.2.2.1 nb'.2.2.2.1 nb'.2.2.2.2 e)
  ·rw [I.list_inj q1' q1,I.list_inj q2' q2];exact ⟨ex,ey⟩
  ·exact ⟨z',sb.extBut _ _ D.TIz (hk _ _ D.TIz D.TITO D.TIi1 D.TIi2 hI),⟨_,_,sb.extBut _ _ D.TOz a2⟩,a3.extBut sb.extBut D.i1z,a4.extBut sb.extBut D.i2z⟩
  ·have e:=(hf b hb).1
   have:∃ o,s.heap.get? b=some o:=by
    simp at hb;rcases hb with rfl | rfl | rfl | rfl | rfl
    ·exact ⟨_,hz⟩
    ·exact ⟨_,hI⟩
    ·exact ⟨_,hO⟩
    ·obtain ⟨o,e,_⟩:=h1;exact ⟨o,e⟩
    ·obtain ⟨o,e,_⟩:=h2;exact ⟨o,e⟩
   obtain ⟨o,eo⟩:=this;rw [zk (lt eo)];exact e
 done:=by
  intro X hP hw hK hc i pins s σ H E I hf st hg;subst hP hw hK;obtain ⟨hz,hI,⟨a,b',hO⟩,h1,h2⟩:=st;obtain ⟨xs,ys,q1,q2,le⟩:=hg;obtain ⟨is1,r1,p1,_⟩:=I.list q1;obtain ⟨is2,r2,p2,_⟩:=I.list q2;have g1:=r1.length;have g2:=r2.length;refine wpAny_pyNext_zip_end (I.ok.hd hc) D hz hI hO h1 h2 p1.isList p2.isList (by rcases le with le | le;exact .inl (by simp;omega);exact .inr (by simp;omega)) λh1' hk=>⟨rfl,I.turnedL (its:=[z,TI,TO,i1,i2]) (t':=s.toks) (λb o nb e=>?_) hf⟩;have nb':b≠z/\b≠TI/\b≠TO/\b≠i1/\b≠i2:=by simpa using nb
  exact hk b o nb'.1 nb'.2.2.1 nb'.2.2.2.1 nb'.2.2.2.2 e
 self:=λ_ _ _ _ _ st h=>wpAny_pyIter_zip st.1 h
section
variable {X:Cx} {es:Jh} {kt:Nat} {tp:Pos}
inductive iZip_S (K:Fg) (R:(It->Hp->Prop)) (vs:Jn) (H1:Hp):Prop
 | mk (l1 l2:_) (_:vs=[.ref l1,.ref l2]) (_:(∃ xs,SqL K H1 l1 xs)) (_:(∃ ys,SqL K H1 l2 ys)) (_:R (Itz K l1 l2) H1)
def iZip (K:Fg) (ta:TA):TI:=λσ H R=>ta σ H λvs H1=>iZip_S K R vs H1
def pi_zip {a b:Expr} {ta:TA} {p pos:Pos} (hg:Gl X "zip") (hm:X.mg "zip"=none) (ha:PA X [a,b] ta) (hs:starEach [a,b] X.env=[(false,eval a X.env),(false,eval b X.env)]:=by rfl)
  (hs2:starEach [b] X.env=[(false,eval b X.env)]:=by rfl):PI X (.Tuple es kt tp) (.Call (.Name "zip" p) [a,b] [] pos) (iZip X.K ta):=by
 intro pins s σ H R I h;refine Call_ (xD I hg hm boot_zip (PyProof.Rows.callWith_type1 (thn (ha pos pins s σ H _ I h) λus s1 ⟨vs,H1,I1,r1,q1⟩=>?_) (by rw [hs,hs2]) (by rw [hs2];rfl)));obtain ⟨l1,l2,e,⟨xs,x1⟩,⟨ys,x2⟩,q⟩:=q1;subst e;obtain ⟨u,v,rfl,ru,rv⟩:=YD r1;cases (show u=Value.ref l1 from ru);cases (show v=Value.ref l2 from rv);obtain ⟨is1,g1,p1,_⟩:=I1.list x1;obtain ⟨is2,g2,p2,_⟩:=I1.list x2;have L1:l1<s1.heap.objs.size:=by obtain ⟨_,e,_⟩:=p1.isList;exact Heap.lt_size e
 have L2:l2<s1.heap.objs.size:=by obtain ⟨_,e,_⟩:=p2.isList;exact Heap.lt_size e
 refine call_zip_2 p1.isList p2.isList λh' a1 a2 a3 a4 a5 a6 hk=>?_;refine wpAny_pyIter_zip (s:={ s1 with heap:=h' }) a1 ?_;have J:Inv X pins σ H1 { s1 with heap:=h' }:=I1.kept (t':=s1.toks) λb o e=>hk b o e;have fp:∀ n,xF X pins H1 (s1.heap.objs.size+n):=λn=>I1.fpOk (Nat.le_add_right _ _) (I1.hok.fresh (Nat.le_add_right _ _));refine ⟨_,_,_,_,H1,rfl,J,zaf (zipApart_new L1 L2),⟨a1,a2,⟨_,_,a3⟩,a4,a5⟩,λb hb=>?_,q⟩;simp at hb;rcases hb with rfl | rfl | rfl | rfl | rfl
 ·exact fp 4
 ·exact fp 2
 ·exact fp 3
 ·exact fp 0
 ·exact fp 1
end
def for_zip {K:Fg} {l1 l2:Ad} {xs ys:Jn} {g:TG} {tb:TS} {D:Ends} {σ:St} {H:Hp} (Pv:Nat->St->Hp->Prop) (h0:Pv 0 σ H) (hl:∀ i σ H,i<=xs.length->Pv i σ H->SqL K H l1 xs/\SqL K H l2 ys) (he:ys.length=xs.length)
  (hs:∀ i x y σ H T,xs[i]?=some x->ys[i]?=some y->Pv i σ H->H T=none->g (.ref T) σ (upd H T (.tup [x,y])) λσ2 H2=>tb { D with nx:=Pv (i+1),ct:=Pv (i+1),bk:=D.nx } σ2 H2) (hd:∀ σ H,Pv xs.length σ H->D.nx σ H) :
  tFor_S g tb D σ (Itz K l1 l2) H:=by
 refine ⟨λi m σ H=>m=xs.length-i/\i<=xs.length/\Pv i σ H,⟨xs.length,by simp,Nat.zero_le _,h0⟩,?_⟩;rintro i m σ H ⟨rfl,hi,p⟩;obtain ⟨q1,q2⟩:=hl i σ H hi p;by_cases hlt:i<xs.length
 ·refine .inr ⟨⟨xs,ys,xs[i],ys[i],q1,q2,by simp [hlt],by simp [he,hlt]⟩,Pv (i+1),λσ' H' p'=>⟨xs.length-(i+1),by omega,rfl,hlt,p'⟩,λx H' y=>?_⟩
  obtain ⟨T,u,v,e,nT,e',y⟩:=y;subst e e';obtain ⟨y1,y2⟩:=y xs ys q1 q2;exact hs i u v σ H T y1 y2 p nT
 ·have e:i=xs.length:=by omega
  subst e;exact .inl ⟨⟨xs,ys,q1,q2,.inl (Nat.le_refl _)⟩,hd σ H p⟩
section
variable (P:Program) (w:World)
end
section
variable {P:Program} {w:World} {H H':Hp} {h h':Heap} {a:Ad} {o:HO}
end
section
variable {P:Program} {w:World} {H:Hp} {h h':Heap} {x e:Ad} {o':HO}
end
section
variable {fs fs' ex ex':Jg} {H H1 H2:Hp} {h h1 h2 h':Heap} {a x e:Ad} {o:HO}
end
section
variable {X:Cx} {pins:Jc} {σ:List (Jo)} {H H':Hp} {s:Sh} {h':Heap}
end
section
variable {X:Cx}
variable {a b:Expr} {ta tb:TE} {pos:Pos}
variable {tA tB':TT} {rest:Jh}
end
section
variable {X:Cx} {pins:Jc} {σ:St} {H:Hp} {s:Sh} {a:Ad} {xs ys:Jn}
end
section
variable {X:Cx} {pins:Jc} {σ:St} {H:Hp} {s:Sh} {E:Ja}
end
section
variable {X:Cx} {st:Stmt} {rest:List Stmt} {t u:TS} {e:Expr} {te:TE} {pos:Pos}
end
section
variable {X:Cx} {pos:Pos}
end
section
variable {X:Cx} {tg:Expr}
end
section
variable {X:Cx} {a b c:Expr} {ta tb tc:TE} {pos:Pos}
end
section
variable {prog:Program} {w:World} {A:Around} {E:Ja} {s:Sh} {K:Fg} {x dx C f:Ad} {mA:J9} {name:Str} {v:Vl}
end
section
variable {P:Program} {w:World} {H H':Hp} {h h':Heap} {a C dx:Ad} {fs fs':List (Str×V)}
end
section
variable {X:Cx} {pins:Jc} {σ:St} {H:Hp} {s:Sh} {a C dx:Ad} {fs:List (Str×V)} {f:Str} {v:V} {A:Around} {E:Ja}
end
section
variable {X:Cx} {o e value:Expr} {f:Str} {pos pos' tpos:Pos} {ta tv:TE}
end
section
variable {X:Cx} {pins:Jc} {σ:St} {H:Hp} {s:Sh} {A:Around} {E:Ja} {Q:Ja} {c:Vl} {b:Bool}
end
section
variable {X:Cx} {e:Expr} {es:Jh} {te:TE} {t:TA} {pos:Pos}
end
section
variable {X:Cx} {pins:Jc} {σ:St} {H:Hp} {s s':Sh}
end
section
variable {X:Cx} {CX:CXT} {k:Nat} {f C:Ad} {fd:FuncData} {ps:Jf} {sp:Sp} {dvs:Jn} {ds:Jd} {E:XK} {x m:Str} {p pos apos:Pos} {e o:Expr} {es:Jh} {ta:TE} {t:TA}
end
section
variable {X:Cx} {CX:CXT} {k:Nat} {f C:Ad} {fd:FuncData} {ps ks:Jf} {sp:Sp} {E:XK} {x m:Str} {p pos apos kpos:Pos} {e o:Expr} {es:Jh} {kws:List Keyword} {te ta:TE} {t tk:TA} {nm:Option Str}
variable {g:Jd->Jd->Jd} {gV:Jn->Jn->Jn}
end
section
variable {X:Cx} {x:Str} {p pos:Pos} {e:Expr} {es:Jh} {t:TA} {id T:String} {r:Jn->Hp->VK->Prop}
end
section
variable {κ:Type} [DecidableEq κ]
def zQ (kvs:List (κ×V)) (k:κ):Jo:=(kvs.find? λkv=>decide (kv.1=k)).map (·.2)
def yh (kvs:List (κ×V)) (k:κ) (v:V):List (κ×V) :=
 if (kvs.any λkv=>decide (kv.1=k))=true then kvs.map (λkv=>if kv.1=k then (kv.1,v) else kv) else kvs++[(k,v)]
def dropK (kvs:List (κ×V)) (k:κ):List (κ×V):=kvs.filter λkv=>decide (kv.1≠k)
def yw {p:κ×V} {r:List (κ×V)} {k:κ} (e:p.1=k):zQ (p::r) k=some p.2:=by simp [zQ,List.find?_cons,e]
def yx {p:κ×V} {r:List (κ×V)} {k:κ} (e:¬ p.1=k):zQ (p::r) k=zQ r k:=by simp [zQ,List.find?_cons,e]
theorem ZI (k:κ):∀ kvs:List (κ×V),(kvs.any λkv=>decide (kv.1=k))=(zQ kvs k).isSome
 | []=>rfl
 | p::r=>by
  rw [List.any_cons];by_cases e:p.1=k
  ·simp only [yw e,decide_eq_true e,Bool.true_or,Option.isSome_some]
  ·rw [yx e,decide_eq_false e,Bool.false_or];exact ZI k r
theorem zae (k j:κ) (y:V):∀ kvs:List (κ×V),zQ (kvs.map λkv=>if kv.1=k then (kv.1,y) else kv) j=(zQ kvs j).map λx=>if j=k then y else x
 | []=>rfl
 | p::r=>by
  have ih:=zae k j y r;rw [List.map_cons];by_cases h:p.1=k
  ·rw [if_pos h]
   by_cases e:p.1=j
   ·rw [yw (p:=(p.1,y)) e,yw e,Option.map_some,if_pos (e.symm.trans h)]
   ·rw [yx (p:=(p.1,y)) e,yx e,ih]
  ·rw [if_neg h]
   by_cases e:p.1=j
   ·rw [yw (p:=p) e,yw e,Option.map_some,if_neg (λz=>h (e.trans z))]
   ·rw [yx (p:=p) e,yx e,ih]
theorem Xr (k j:κ) (y:V):∀ kvs:List (κ×V),zQ kvs k=none->zQ (kvs++[(k,y)]) j=if j=k then some y else zQ kvs j
 | [],_=>by
  by_cases e:k=j
  ·rw [if_pos e.symm];exact yw (p:=(k,y)) e
  ·rw [if_neg (λz=>e z.symm)];exact yx (p:=(k,y)) e
 | p::r,hn=>by
  rw [List.cons_append];have hk:¬ p.1=k:=λz=>by rw [yw z] at hn;cases hn
  rw [yx hk] at hn;have ih:=Xr k j y r hn;by_cases e:p.1=j
  ·rw [yw e,yw e,if_neg (λz=>hk (e.trans z))]
  ·rw [yx e,yx e,ih]
theorem xA (kvs:List (κ×V)) (k j:κ) (y:V):zQ (yh kvs k y) j=if j=k then some y else zQ kvs j:=by
 unfold yh;by_cases a:(kvs.any λkv=>decide (kv.1=k))=true
 ·rw [if_pos a,zae]
  rw [ZI] at a;by_cases e:j=k
  ·obtain ⟨x,hx⟩:=Option.isSome_iff_exists.mp a
   rw [if_pos e,e,hx,Option.map_some,if_pos rfl]
  ·rw [if_neg e]
   cases zQ kvs j with
   | none=>rfl
   | some x=>rw [Option.map_some,if_neg e]
 ·rw [if_neg a]
  refine Xr k j y kvs ?_;rw [ZI] at a
  cases q:zQ kvs k with
  | none=>rfl
  | some x=>rw [q] at a;exact (a rfl).elim
def xi (kvs:List (κ×V)) (k:κ) (v:V):(yh kvs k v).length<=kvs.length+1:=by
 unfold yh
 split
 ·rw [Ji];omega
 ·rw [Jj,q3x,List.length_nil];omega
theorem RelO.isSome_eq {o:Jo} {u:Je} (r:RelO o u):o.isSome=u.isSome:=by
 cases o with
 | none=>cases u with
  | none=>rfl
  | some _=>exact (show False from r).elim
 | some _=>cases u with
  | none=>exact (show False from r).elim
  | some _=>rfl
theorem RelO.getD {o:Jo} {u:Je} {d:V} {d':Vl} (r:RelO o u) (rd:RelV d d'):RelV (o.getD d) (u.getD d'):=by
 cases o with
 | none=>cases u with
  | none=>exact rd
  | some _=>exact (show False from r).elim
 | some _=>cases u with
  | none=>exact (show False from r).elim
  | some _=>exact r
theorem KV.val {kvs:List (κ×V)} {vs:List (κ×Vl)} (r:KV kvs vs) (k:κ):RelO (zQ kvs k) (valueAt vs k):=by
 unfold KV at r
 induction r with
 | nil=>exact True.intro
 | @cons p q ps qs h t ih =>
  obtain ⟨h1,h2⟩:=h;by_cases e:p.1=k
  ·have e':q.1=k:=h1.symm.trans e
   have b:valueAt (q::qs) k=some q.2:=by simp [valueAt,List.find?_cons,e']
   rw [yw e,b];exact h2
  ·have e':¬ q.1=k:=λz=>e (h1.trans z)
   have b:valueAt (q::qs) k=valueAt qs k:=by simp [valueAt,List.find?_cons,e']
   rw [yx e,b];exact ih
theorem KV.any {kvs:List (κ×V)} {vs:List (κ×Vl)} (r:KV kvs vs) (k:κ):(kvs.any λkv=>decide (kv.1=k))=vs.any λkv=>decide (kv.1=k):=by
 unfold KV at r
 induction r with
 | nil=>rfl
 | cons h t ih=>rw [List.any_cons,List.any_cons,ih,h.1]
theorem KV.repl {kvs:List (κ×V)} {vs:List (κ×Vl)} (r:KV kvs vs) (k:κ) {y:V} {u:Vl} (ry:RelV y u) :
  KV (kvs.map λkv=>if kv.1=k then (kv.1,y) else kv) (vs.map λkv=>if kv.1=k then (kv.1,u) else kv):=by
 unfold KV at r ⊢
 induction r with
 | nil=>exact .nil
 | @cons p q ps qs h t ih =>
  rw [List.map_cons,List.map_cons];refine .cons ?_ ih;obtain ⟨h1,h2⟩:=h;by_cases e:p.1=k
  ·rw [if_pos e,if_pos (h1.symm.trans e)];exact ⟨h1,ry⟩
  ·rw [if_neg e,if_neg (λz=>e (h1.trans z))];exact ⟨h1,h2⟩
def KV.put {kvs:List (κ×V)} {vs:List (κ×Vl)} (r:KV kvs vs) (k:κ) {y:V} {u:Vl} (ry:RelV y u):KV (yh kvs k y) (stored vs k u):=by
 unfold yh stored;rw [r.any k];by_cases e:(vs.any λkv=>decide (kv.1=k))=true
 ·rw [if_pos e,if_pos e];exact r.repl k ry
 ·rw [if_neg e,if_neg e];exact Paired.snoc r ⟨rfl,ry⟩
theorem KV.drop {kvs:List (κ×V)} {vs:List (κ×Vl)} (r:KV kvs vs) (k:κ):KV (dropK kvs k) (without vs k):=by
 unfold KV at r ⊢;unfold dropK without
 induction r with
 | nil=>exact .nil
 | @cons p q ps qs h t ih =>
  obtain ⟨h1,h2⟩:=h;rw [List.filter_cons,List.filter_cons];by_cases e:p.1=k
  ·have a:¬ decide (p.1≠k)=true:=by simp [e]
   have b:¬ decide (q.1≠k)=true:=by simp [h1.symm.trans e]
   rw [if_neg a,if_neg b];exact ih
  ·have e':¬ q.1=k:=λz=>e (h1.trans z)
   have a:decide (p.1≠k)=true:=by simp [e]
   have b:decide (q.1≠k)=true:=by simp [e']
   rw [if_pos a,if_pos b];exact .cons ⟨h1,h2⟩ ih
theorem KV.keys {kvs:List (κ×V)} {vs:List (κ×Vl)} (r:KV kvs vs):kvs.map (·.1)=vs.map (·.1):=by
 unfold KV at r
 induction r with
 | nil=>rfl
 | cons h t ih=>rw [List.map_cons,List.map_cons,ih,h.1]
def KV.length {kvs:List (κ×V)} {vs:List (κ×Vl)} (r:KV kvs vs):kvs.length=vs.length:=Paired.length r
end
theorem Y2 {P:Program} {w:World} {k:Key} {u:Vl} (r:RelV (kV k) u):(zI P w).is k u=true:=by
 cases k with
 | inl i=>obtain ⟨t,e⟩:=(show ∃ t,u=Value.int i t from r);subst e;exact zax P w i t
 | inr x=>obtain ⟨t,e⟩:=(show ∃ t,u=Value.str x t from r);subst e;exact zaw P w x t
theorem Xv {P:Program} {w:World}:∀ {ks:List Key} {us:Jd},Vals (ks.map kV) us->ItemsAre (zI P w) ks us
 | [],_,r=>by rw [List.map_nil] at r;cases r;exact .nil
 | k::ks,_,r=>by
  rw [List.map_cons] at r
  cases r with
  | cons h t=>exact .cons (Y2 h) (Xv t)
abbrev KT (H:Hp):List (List Key×V)->List (List Key×Ad×Vl)->Prop:=Paired λp q=>p.1=q.1/\H q.2.1=some (.tup (p.1.map kV))/\RelV p.2 q.2.2
theorem KT.val {H:Hp} {kvs:List (List Key×V)} {xs:List (List Key×Ad×Vl)} (r:KT H kvs xs) (k:List Key):RelO (zQ kvs k) ((atKey xs k).map (·.2)):=by
 induction r with
 | nil=>exact True.intro
 | @cons p q ps qs h t ih =>
  obtain ⟨h1,_,h2⟩:=h;by_cases e:p.1=k
  ·have e':q.1=k:=h1.symm.trans e
   have b:atKey (q::qs) k=some q.2:=by simp [atKey,List.find?_cons,e']
   rw [yw e,b];exact h2
  ·have e':¬ q.1=k:=λz=>e (h1.trans z)
   have b:atKey (q::qs) k=atKey qs k:=by simp [atKey,List.find?_cons,e']
   rw [yx e,b];exact ih
theorem KT.repl {H:Hp} {kvs:List (List Key×V)} {xs:List (List Key×Ad×Vl)} (r:KT H kvs xs) (k:List Key) {y:V} {u:Vl} (ry:RelV y u) :
  KT H (kvs.map λkv=>if kv.1=k then (kv.1,y) else kv) (xs.map (putAt k u)):=by
 induction r with
 | nil=>exact .nil
 | @cons p q ps qs h t ih =>
  rw [List.map_cons,List.map_cons];refine .cons ?_ ih;obtain ⟨h1,h2,h3⟩:=h;unfold putAt;by_cases e:p.1=k
  ·rw [if_pos e,if_pos (h1.symm.trans e)];exact ⟨h1,h2,ry⟩
  ·rw [if_neg e,if_neg (λz=>e (h1.trans z))];exact ⟨h1,h2,h3⟩
def KT.put {H:Hp} {kvs:List (List Key×V)} {xs:List (List Key×Ad×Vl)} (r:KT H kvs xs) (k:List Key) {b:Ad} {y:V} {u:Vl} (hb:H b=some (.tup (k.map kV))) (ry:RelV y u) :
  KT H (yh kvs k y) (storedH xs k b u):=by
 have e:(kvs.any λkv=>decide (kv.1=k))=(atKey xs k).isSome:=by
  rw [ZI,(r.val k).isSome_eq,Option.isSome_map]
 unfold yh storedH;rw [e];by_cases q:(atKey xs k).isSome=true
 ·rw [if_pos q,if_pos q];exact r.repl k ry
 ·rw [if_neg q,if_neg q];exact Paired.snoc r ⟨rfl,hb,ry⟩
def KT.keeps {H H':Hp} {kvs:List (List Key×V)} {xs:List (List Key×Ad×Vl)} (r:KT H kvs xs) (ht:∀ b ys,H b=some (.tup ys)->H' b=some (.tup ys)):KT H' kvs xs :=
 Paired.mapP r λ_ _ z=>⟨z.1,ht _ _ z.2.1,z.2.2⟩
section
variable {P:Program} {w:World} {H:Hp} {h:Heap} {a:Ad}
def rd_of {u:HO} (ok:HOk P w H h) (e:Rd H a u):ObjOk P w H h a u:=e.ok ok
def Xy {kvs:Jl} (ok:HOk P w H h) (e:Rd H a (.dK kvs)):kvs.length<=sizeLine/\(a == sysModules)=false/\∃ vs,KV kvs vs/\h.DictOf (zI P w) a vs :=
 show ObjOk P w H h a (.dK kvs) from rd_of ok e
def dk_of {kvs:Jl} (ok:HOk P w H h) (e:H a=some (.dK kvs)):kvs.length<=sizeLine/\(a == sysModules)=false/\∃ vs,KV kvs vs/\h.DictOf (zI P w) a vs:=Xy ok (.inl e)
def Y1 {ks:List Key} (ok:HOk P w H h) (e:H a=some (.tup (ks.map kV))):(tupleKind (zI P w)).is h ks a:=by
 obtain ⟨_,its,r,o,h1,h2,n,h3⟩:=(show ObjOk P w H h a (.tup (ks.map kV)) from ok a _ e);exact ⟨o,its.toArray,n,h1,h2,h3,by simpa using Xv r⟩
theorem Xx {kvs:List (List Key×V)} (ok:HOk P w H h) (e:Rd H a (.dT kvs)):kvs.length<=sizeLine/\(a == sysModules)=false /\
  ∃ xs,KT H kvs xs/\h.DictOfH (tupleKind (zI P w)) a xs:=by
 obtain ⟨z,y,xs,r,o,es,ep,h1,h2,h3,h4,h5⟩:=(show ObjOk P w H h a (.dT kvs) from rd_of ok e);refine ⟨z,y,xs,r,o,es,ep,h1,h2,h3,h4,λx hx=>?_,h5⟩
 have all:∀ {l:List (List Key×V)} {m:List (List Key×Ad×Vl)},KT H l m->∀ x∈m,(tupleKind (zI P w)).is h x.1 x.2.1:=by
  intro l m q
  induction q with
  | nil=>intro x hx;exact nomatch hx
  | @cons p q ps qs hq t ih =>
   intro x hx;rcases List.mem_cons.mp hx with e | hx
   ·subst e
    exact Y1 ok (by rw [← hq.1];exact hq.2.1)
   ·exact ih x hx
 exact all r x hx
def dt_of {kvs:List (List Key×V)} (ok:HOk P w H h) (e:H a=some (.dT kvs)):kvs.length<=sizeLine/\(a == sysModules)=false /\
  ∃ xs,KT H kvs xs/\h.DictOfH (tupleKind (zI P w)) a xs:=Xx ok (.inl e)
end
def DGet (H:Hp) (a:Ad) (y:V) (r:Jo):Prop :=
 (∃ kvs k,Rd H a (.dK kvs)/\y=kV k/\r=zQ kvs k)∨∃ kvs k b,Rd H a (.dT kvs)/\y=.ref b/\H b=some (.tup (k.map kV))/\r=zQ kvs k
def DPut (H:Hp) (a:Ad) (y v:V) (H':Hp):Prop :=
 (∃ kvs k,H a=some (.dK kvs)/\y=kV k/\kvs.length<sizeLine/\H'=upd H a (.dK (yh kvs k v))) ∨
 ∃ kvs k b,H a=some (.dT kvs)/\y=.ref b/\H b=some (.tup (k.map kV))/\kvs.length<sizeLine/\H'=upd H a (.dT (yh kvs k v))
def DGet.k {H:Hp} {a:Ad} {kvs:Jl} {k:Key} (e:H a=some (.dK kvs)):DGet H a (kV k) (zQ kvs k):=.inl ⟨kvs,k,.inl e,rfl,rfl⟩
def DPut.k {H:Hp} {a:Ad} {kvs:Jl} {k:Key} {v:V} (e:H a=some (.dK kvs)) (hl:kvs.length<sizeLine):DPut H a (kV k) v (upd H a (.dK (yh kvs k v))):=.inl ⟨kvs,k,e,rfl,hl,rfl⟩
section
variable {X:Cx} {pins:Jc} {σ:St} {H:Hp} {s:Sh} {a:Ad} {y v:V} {u r:Vl} {o:Jo} {A:Around} {E:Ja}
def Inv.big (I:Inv X pins σ H s):sysModules<s.heap.objs.size:=by
 have h:mainGlobals<s.heap.objs.size:=(I.mod.glob.keeps I.bk).lt;exact Nat.lt_trans (by decide) h
def d_getItem {Q:Ja} (hu:A.units+1<cLine) (I:Inv X pins σ H s) (g:DGet H a y (some v)) (ry:RelV y u) (h:∀ w' s',Inv X pins σ H s'->RelV v w'->Q w' s') :
  wpAny (model X.prog X.w) A (getItem (.ref a) u) Q E s:=by
 rcases g with ⟨kvs,k,e,ey,l⟩ | ⟨kvs,k,b,e,ey,eb,l⟩
 ·subst ey
  obtain ⟨z,hd,vs,rel,dd⟩:=Xy I.hok e;obtain ⟨w',hw,rw'⟩:=RelO.some_of (v:=v) (o:=valueAt vs k) (by rw [l];exact rel.val k);exact wpAny_getItem_of (Y2 ry) dd.mapOf hw (h w' _ (I.tok _) rw')
 ·subst ey
  cases (show u=Value.ref b from ry);obtain ⟨z,hd,xs,rel,dd⟩:=Xx I.hok e;obtain ⟨w',hw,rw'⟩:=RelO.some_of (v:=v) (o:=(atKey xs k).map (·.2)) (by rw [l];exact rel.val k);obtain ⟨p,hp,hp2⟩:=Option.map_eq_some_iff.mp hw;refine wpAny_getItem_heap (tupleKind_room_in1 hu) (Y1 I.hok eb) dd hp ?_;rw [hp2];exact h w' _ (I.tok _) rw'
def d_notIn {Q:Ja} (hu:A.units+1<cLine) (I:Inv X pins σ H s) (g:DGet H a y o) (ry:RelV y u) (h:∀ s',Inv X pins σ H s'->Q (.bool (!o.isSome)) s') :
  wpAny (model X.prog X.w) A (compareOp .NotIn u (.ref a)) Q E s:=by
 rcases g with ⟨kvs,k,e,ey,l⟩ | ⟨kvs,k,b,e,ey,eb,l⟩
 ·subst ey
  obtain ⟨z,hd,vs,rel,dd⟩:=Xy I.hok e;refine wpAny_notIn_of (Y2 ry) hd dd.mapOf ?_;rw [← (rel.val k).isSome_eq,← l];exact h _ (I.tok _)
 ·subst ey
  cases (show u=Value.ref b from ry);obtain ⟨z,hd,xs,rel,dd⟩:=Xx I.hok e;refine wpAny_notIn_heap (tupleKind_room_in1 hu) (Y1 I.hok eb) hd dd ?_;have q:=(rel.val k).isSome_eq;rw [Option.isSome_map] at q;rw [← q,← l];exact h _ (I.tok _)
def X9 {h':Heap} {t':Nat} {ob:HO} (I:Inv X pins σ H s) (mu:Mut (H a)) (hs:Heap.SameBut a s.heap h') (he:∃ q,h'.get? a=some q) (new:ObjOk X.prog X.w (upd H a ob) h' a ob) :
  Inv X pins σ (upd H a ob) { s with heap:=h',toks:=t' } :=
 I.write (x:=a) (e:=a) mu (.inl rfl) (λb q hb z=>(hs.2 b hb).trans z) he new
def dk_new {P:Program} {w:World} {H':Hp} {h':Heap} {kvs:Jl} {vs:List (Key×Vl)} (z:kvs.length<=sizeLine) (hd:(a == sysModules)=false) (rel:KV kvs vs) (dd:h'.DictOf (zI P w) a vs) :
  ObjOk P w H' h' a (.dK kvs):=⟨z,hd,vs,rel,dd⟩
def d_setItem {H':Hp} {Q:Unit->Sh->Prop} (hu:A.units+1<cLine) (I:Inv X pins σ H s) (g:DPut H a y v H') (ry:RelV y u) (rv:RelV v r) (h:∀ s',Inv X pins σ H' s'->Q () s') :
  wpAny (model X.prog X.w) A (setItem (.ref a) u r) Q E s:=by
 rcases g with ⟨kvs,k,e,ey,l,eH⟩ | ⟨kvs,k,b,e,ey,eb,l,eH⟩
 ·subst ey eH
  obtain ⟨z,hd,vs,rel,dd⟩:=dk_of I.hok e;have hz:vs.length<=sizeLine:=by rw [← rel.length];exact z
  have hl:(yh kvs k v).length<=sizeLine:=by have:=xi kvs k v;omega
  refine wpAny_setItem_pairs (hsz:=hz) (Y2 ry) dd λh' dd' hs=>h _ ?_;have he:∃ q,h'.get? a=some q:=let ⟨q,_,_,hq,_⟩:=dd';⟨q,hq⟩;exact X9 I (by rw [e];exact True.intro) hs he (dk_new hl hd (rel.put k rv) dd')
 ·subst ey eH
  cases (show u=Value.ref b from ry);obtain ⟨z,hd,xs,rel,dd⟩:=dt_of I.hok e;have hz:xs.length<=sizeLine:=by rw [← Paired.length rel];exact z
  have hl:(yh kvs k v).length<=sizeLine:=by have:=xi kvs k v;omega
  refine wpAny_setItem_heap (hsz:=hz) (tupleKind_room_in1 hu) (Y1 I.hok eb) dd λh' dd' hs=>h _ ?_;obtain ⟨q,es,ep,hq,h2,h3,h4,_,h5⟩:=dd';refine X9 I (by rw [e];exact True.intro) hs ⟨q,hq⟩ ⟨hl,hd,_,(rel.put k eb rv).keeps λc ys ec=>?_,q,es,ep,hq,h2,h3,h4,h5⟩;rw [zk (ne_of ec e (λz=>nomatch z))];exact ec
end
section
variable {X:Cx} {pins:Jc} {σ:St} {H:Hp} {s:Sh} {a:Ad} {kvs:Jl} {k:Key} {u:Vl} {A:Around} {E:Ja}
end
def NoSl (i:Expr):Prop:=∀ ov iv,subscripted i false ov iv=operate [ov,iv] (getItem ov iv)
theorem subD_of {prog:Program} {w:World} {A:Around} {E:Ja} {s:Sh} {env:Env} {value slice:Expr} {pos:Pos} {T id:String} {Q:Ja}
  (hl:typeLookup (.type T) "__getitem__"=pure (some (.builtin id))) (hs:NoSl slice)
  (h:wpAny (model prog w) A (eval value env) (λo s₁=>wpAny (model prog w) A (eval slice env) (λi s₂=>s₂.TypeIs o T/\wpAny (model prog w) A (getItem o i) Q E s₂) E s₁) E s) :
  wpAny (model prog w) A (eval (.Subscript value slice pos) env) Q E s:=by
 refine Subscript_ (wpAny_mono h (λo s₁ h₁=>wpAny_mono h₁ (λi s₂ h₂=>?_) λ_ _ x=>x) λ_ _ x=>x);obtain ⟨hT,h₂⟩:=h₂;unfold subscriptTail;refine q0x ?_;rw [getitemInPython_of_ne hT.not_modules];refine q0x (wpAny_specialOf hT hl ?_)
 have fin:wpAny (model prog w) A (subscripted slice false o i) (λr s₃=>wpAny (model prog w) A (letTemporaryGo value o r >>= λ_=>pure r) Q E s₃) E s₂:=by
  rw [hs o i];exact wpAny_operating (wpAny_mono h₂ (λr s₃ h₃=>q0x (wpAny_letTemporaryGo (q0y h₃))) λ_ _ x=>x)
 first
  | exact q0y (q0x fin)
  | exact q0x (q0y (q0x fin))
  | exact q0x fin
def za5 {X:Cx} {pins:Jc} {σ:St} {H:Hp} {s:Sh} {a:Ad} {y:V} {o:Jo} (I:Inv X pins σ H s) (g:DGet H a y o):s.TypeIs (.ref a) "dict":=by
 rcases g with ⟨kvs,k,e,_,_⟩ | ⟨kvs,k,b,e,_,_,_⟩
 ·obtain ⟨_,_,vs,_,dd⟩:=Xy I.hok e
  exact dd.typeIs
 ·obtain ⟨_,_,xs,_,dd⟩:=Xx I.hok e
  exact dd.typeIs
inductive tDGet_S (Q:VK) (x y:V) (H2:Hp):Prop
 | mk (a v:_) (_:x=.ref a) (_:DGet H2 a y (some v)) (_:Q v H2)
def tDGet (td ty:TE):TE:=λσ H Q=>td σ H λx H1=>ty σ H1 λy H2=>tDGet_S Q x y H2
inductive tDNotIn_S (Q:VK) (y x:V) (H2:Hp):Prop
 | mk (a o:_) (_:x=.ref a) (_:DGet H2 a y o) (_:Q (.bl (!o.isSome)) H2)
def tDNotIn (ty td:TE):TE:=λσ H Q=>ty σ H λy H1=>td σ H1 λx H2=>tDNotIn_S Q y x H2
inductive sDPut_S (D:Ends) (σ:St) (v x y:V) (H3:Hp):Prop
 | mk (a H4:_) (_:x=.ref a) (_:DPut H3 a y v H4) (_:D.nx σ H4)
def sDPut (td ty tv:TE):TS:=λD σ H=>tv σ H λv H1=>td σ H1 λx H2=>ty σ H2 λy H3=>sDPut_S D σ v x y H3
section
variable {X:Cx} {o i e value:Expr} {pos pos' tpos:Pos} {td ty tv:TE}
def zM (hu:X.A.units+1<cLine) (ho:PE X o td) (hi:PE X i ty) (hs:NoSl i):PE X (.Subscript o i pos) (tDGet td ty):=by
 intro pins s σ H Q I h;refine subD_of PySem.F.slot_dict_getitem.lookup hs (thn (ho pins s σ H _ I h) λu s1 ⟨x,H1,I1,rx,q1⟩=>thn (hi pins s1 σ H1 _ I1 q1) λiv s2 ⟨y,H2,I2,ry,a,v,ex,g,q2⟩=>?_);subst ex;obtain rfl:u=Value.ref a:=rx;exact ⟨za5 I2 g,d_getItem hu I2 g ry λw' s3 I3 rw'=>⟨v,H2,I3,rw',q2⟩⟩
def pc_dnotin (hu:X.A.units+1<cLine) (hi:PE X i ty) (ho:PE X o td):PC X .NotIn i o (tDNotIn ty td):=by
 intro pins s σ H Q I h;refine thn (hi pins s σ H _ I h) λiv s1 ⟨y,H1,I1,ry,q1⟩=>thn (ho pins s1 σ H1 _ I1 q1) λu s2 ⟨x,H2,I2,rx,a,ov,ex,g,q2⟩=>?_;subst ex;obtain rfl:u=Value.ref a:=rx;exact d_notIn hu I2 g ry λs3 I3=>⟨.bl (!ov.isSome),H2,I3,rfl,q2⟩
def Zq (hu:X.A.units+1<cLine) (ho:PE X o td) (hi:PE X i ty) (hv:PE X value tv) (hs:swapsWith value (some (.Subscript o i pos')) pos.line X.env=pure false) :
  PS X (.Assign [.Subscript o i pos'] value pos) (sDPut td ty tv):=by
 intro pins s σ H D I h;refine wpAny_Assign_Subscript (thn (hv pins s σ H _ I h) λr s1 ⟨v,H1,I1,rv,q1⟩=>thn (ho pins s1 σ H1 _ I1 q1) λu s2 ⟨x,H2,I2,rx,q2⟩=>thn (hi pins s2 σ H2 _ I2 q2) λiv s3 ⟨y,H3,I3,ry,a,H4,ex,g,q3⟩=>?_) hs;subst ex;obtain rfl:u=Value.ref a:=rx;exact d_setItem hu I3 g ry rv λs4 I4=>⟨σ,H4,I4,q3⟩
end
def za4 {P:Program} {w:World} {H:Hp} (h:Heap) (hb:sysModules<h.objs.size):ObjOk P w H (h.push { cls:=.type "dict",data:=.dict #[] }) h.objs.size (.dK []) :=
 ⟨Nat.zero_le _,beq_eq_false_iff_ne.mpr (Ne.symm (Nat.ne_of_lt hb)),[],.nil,Heap.DictOf.new h⟩
def tDNewK:TE:=λ_ H Q=>∀ p,H p=none->Q (.ref p) (upd H p (.dK []))
section
variable {X:Cx} {pos:Pos}
def YQ:PE X (.Dict [] [] pos) tDNewK:=λpins s σ H Q I h =>
 wpAny_Dict_empty ⟨.ref s.heap.objs.size,_,I.laid (a:=s.heap.objs.size) (o:=.dK []) (t':=s.toks) (λ_ _ q=>Heap.get?_push_of_some _ q) (Nat.le_refl _) (za4 s.heap I.big),rfl,h _ (I.hok.fresh (Nat.le_refl _))⟩
end
def tPairs:List (TE×TE)->St->Hp->(List (V×V)->Hp->Prop)->Prop
 | [],_,H,Q=>Q [] H
 | (tk,tv)::r,σ,H,Q=>tk σ H λx H1=>tv σ H1 λy H2=>tPairs r σ H2 λps H3=>Q ((x,y)::ps) H3
abbrev VV:List (V×V)->List (Vl×Vl)->Prop:=Paired λp q=>RelV p.1 q.1/\RelV p.2 q.2
def PPs (X:Cx) (pos:Pos) (keys:List (Option Expr)) (values:Jh) (trs:List (TE×TE)):Prop :=
 ∀ (pins:Jc) (s:Sh) (σ:St) (H:Hp) (Q:List (V×V)->Hp->Prop),Inv X pins σ H s->tPairs trs σ H Q ->
  wpAny (model X.prog X.w) X.A (evalPairs (pairTrees keys values X.env pos)) (λvs s'=>∃ ps H',Inv X pins σ H' s'/\VV ps vs/\Q ps H') X.xe s
def pps_nil {X:Cx} {pos:Pos}:PPs X pos [] [] []:=λpins s σ H Q I h=>pairTrees_nil_walk ⟨[],H,I,.nil,h⟩
def Zk {X:Cx} {pos:Pos} {k v:Expr} {ks:List (Option Expr)} {vs:Jh} {tk tv:TE} {trs:List (TE×TE)} (hk:PE X k tk) (hv:PE X v tv) (hr:PPs X pos ks vs trs) :
  PPs X pos (some k::ks) (v::vs) ((tk,tv)::trs):=λpins s σ H Q I h =>
 pairTrees_cons_walk (thn (hk pins s σ H _ I h) λu s1 ⟨x,H1,I1,rx,q1⟩=>thn (hv pins s1 σ H1 _ I1 q1) λw2 s2 ⟨y,H2,I2,ry,q2⟩ =>
  thn (hr pins s2 σ H2 _ I2 q2) λws s3 ⟨ps,H3,I3,rel,q3⟩=>⟨(x,y)::ps,H3,I3,.cons ⟨rx,ry⟩ rel,q3⟩)
def Yi (kvs more:Jl):Jl:=more.foldl (λacc kv=>yh acc kv.1 kv.2) kvs
theorem KV.merge:∀ {more:Jl} {rs:List (Key×Vl)} {kvs:Jl} {vs:List (Key×Vl)},KV more rs->KV kvs vs->KV (Yi kvs more) (merged vs rs):=by
 intro more rs kvs vs r;unfold KV at r
 induction r generalizing kvs vs with
 | nil=>intro q;exact q
 | @cons p q ps qs h t ih =>
  intro r0
  have e:KV (yh kvs p.1 p.2) (stored vs q.1 q.2):=by
   have:=r0.put p.1 h.2;rw [← h.1];exact this
  exact ih e
theorem Zx:∀ (more kvs:Jl),(Yi kvs more).length<=kvs.length+more.length
 | [],kvs=>by show kvs.length<=kvs.length+0;omega
 | p::r,kvs=>by
  have h1:=Zx r (yh kvs p.1 p.2);have h2:=xi kvs p.1 p.2;show (Yi (yh kvs p.1 p.2) r).length<=_;rw [q3x];omega
theorem Xc {P:Program} {w:World}:∀ {kvs:Jl} {ws:List (Vl×Vl)},VV (kvs.map λkv=>(kV kv.1,kv.2)) ws->∃ rs,Carries (zI P w) ws rs/\KV kvs rs
 | [],_,r=>by rw [List.map_nil] at r;cases r;exact ⟨[],True.intro,.nil⟩
 | p::kvs,_,r=>by
  rw [List.map_cons] at r
  cases r with
  | @cons a b as bs h t =>
   obtain ⟨rs,c,q⟩:=Xc (P:=P) (w:=w) t;obtain ⟨b1,b2⟩:=b;exact ⟨(p.1,b2)::rs,⟨Y2 h.1,rfl,c⟩,.cons ⟨rfl,h.2⟩ q⟩
def tDisp (trs:List (TE×TE)):TE:=λσ H Q=>∀ p,H p=none->tPairs trs σ (upd H p (.dK [])) λps H2=>H2 p=some (.dK [])/\∃ kvs:Jl,ps=kvs.map (λkv=>(kV kv.1,kv.2))/\kvs.length<=15/\Q (.ref p) (upd H2 p (.dK (Yi [] kvs)))
def pe_disp {X:Cx} {pos:Pos} {keys:List (Option Expr)} {values:Jh} {trs:List (TE×TE)} (h:PPs X pos keys values trs) (hall:keys.all (·.isSome)=true) (hl:keys.length=values.length) (h0:keys≠[])
  (h15:keys.length<=15):PE X (.Dict keys values pos) (tDisp trs):=by
 intro pins s σ H Q I q;have hn:=I.hok.fresh (Nat.le_refl s.heap.objs.size);have I1:=I.laid (a:=s.heap.objs.size) (o:=.dK []) (h':=s.heap.push { cls:=.type "dict",data:=.dict #[] }) (t':=s.toks) (λ_ _ q=>Heap.get?_push_of_some _ q) (Nat.le_refl _) (za4 s.heap I.big);refine wpAny_Dict_walk (knd:=zI X.prog X.w) hall hl h0 h15 (thn (h pins _ σ _ _ I1 (q _ hn)) λws s2 ⟨ps,H2,I2,rel,e,kvs,ep,lk,q2⟩=>?_);subst ep;obtain ⟨rs,c,rk⟩:=Xc (P:=X.prog) (w:=X.w) rel;obtain ⟨z,hd,vs0,r0,dd⟩:=dk_of I2.hok e;cases r0;refine ⟨rs,c,dd,λh' dd' hs=>⟨.ref s.heap.objs.size,_,?_,rfl,q2⟩⟩
 have hz:(Yi [] kvs).length<=sizeLine:=by
  have h1:=Zx kvs [];rw [List.length_nil] at h1;rw [sizeLine_eq];omega
 have he:∃ q,h'.get? s.heap.objs.size=some q:=let ⟨q,_,_,hq,_⟩:=dd';⟨q,hq⟩;exact X9 I2 (by rw [e];exact True.intro) hs he (dk_new hz hd (rk.merge .nil) dd')
structure M1 (X:Cx) (o:Expr) (m:Str) (apos:Pos) (e:Expr) (cpos:Pos):Prop where
 base:attributeBase o m X.env (eval o X.env)=eval o X.env
 few:((backTo cpos (starEach [e] X.env)).all (λx=>!x.1) && (backToKw cpos (keywordEach [] X.env)).all (λx=>x.1.isSome)
  && decide (([e]:Jh).length+([]:List Keyword).length+(if ([]:List Keyword).isEmpty then 0 else 1)<30))=true
 line:(apos.endLine == cpos.line)=true
 trees:backTo cpos (starEach [e] X.env)=[(false,eval e X.env)]
structure M2 (X:Cx) (o:Expr) (m:Str) (apos:Pos) (e f:Expr) (cpos:Pos):Prop where
 base:attributeBase o m X.env (eval o X.env)=eval o X.env
 few:((backTo cpos (starEach [e,f] X.env)).all (λx=>!x.1) && (backToKw cpos (keywordEach [] X.env)).all (λx=>x.1.isSome)
  && decide (([e,f]:Jh).length+([]:List Keyword).length+(if ([]:List Keyword).isEmpty then 0 else 1)<30))=true
 line:(apos.endLine == cpos.line)=true
 trees:backTo cpos (starEach [e,f] X.env)=[(false,eval e X.env),(false,eval f X.env)]
def IsD (H:Hp) (a:Ad):Prop:=(∃ kvs,Rd H a (.dK kvs))∨∃ kvs,Rd H a (.dT kvs)
def isD_at {X:Cx} {pins:Jc} {σ:St} {H:Hp} {s:Sh} {a:Ad} (I:Inv X pins σ H s) (d:IsD H a) :
  s.TypeIs (.ref a) "dict"/\(∀ b,Value.ref a=.ref b->∃ ob,s.heap.get? b=some ob/\ob.dict=none)/\(a == sysModules)=false:=by
 rcases d with ⟨kvs,e⟩ | ⟨kvs,e⟩
 ·obtain ⟨_,hd,vs,_,dd⟩:=Xy I.hok e
  refine ⟨dd.typeIs,λb q=>?_,hd⟩;cases q;obtain ⟨ob,_,_,h1,h2,_⟩:=dd;exact ⟨ob,h1,h2.2.1⟩
 ·obtain ⟨_,hd,xs,_,dd⟩:=Xx I.hok e
  refine ⟨dd.typeIs,λb q=>?_,hd⟩;cases q;obtain ⟨ob,_,_,h1,h2,_⟩:=dd;exact ⟨ob,h1,h2.2.1⟩
section
variable {X:Cx} {pins:Jc} {σ:St} {H:Hp} {s:Sh} {a:Ad} {y d:V} {u r:Vl} {o:Jo} {A:Around} {E:Ja}
def d_get1 {Q:Ja} (hu:A.units+1<cLine) (I:Inv X pins σ H s) (g:DGet H a y o) (ry:RelV y u) (h:∀ w' s',Inv X pins σ H s'->RelV (o.getD .non) w'->Q w' s') :
  wpAny (model X.prog X.w) A (call (.builtin "dict.get") [.ref a,u]) Q E s:=by
 rcases g with ⟨kvs,k,e,ey,l⟩ | ⟨kvs,k,b,e,ey,eb,l⟩
 ·subst ey
  obtain ⟨z,hd,vs,rel,dd⟩:=Xy I.hok e;refine call_meetsIn PySem.F.slot_dict_get dd.typeIs PySem.F.entry_dict_get (PySem.F.args_dict_get_2 _ _) (meets_dict_get (zI X.prog X.w) a (Y2 ry) hd) ⟨_,dd.mapOf,h _ _ (I.tok _) ?_⟩;rw [l];exact (rel.val k).getD rfl
 ·subst ey
  cases (show u=Value.ref b from ry);obtain ⟨z,hd,xs,rel,dd⟩:=Xx I.hok e;refine call_meetsIn PySem.F.slot_dict_get dd.typeIs PySem.F.entry_dict_get (PySem.F.args_dict_get_2 _ _) (meetsH_dict_get (tupleKind (zI X.prog X.w)) a b hd) ⟨tupleKind_room_in1 hu,k,xs,Y1 I.hok eb,dd,h _ _ (I.tok _) ?_⟩;rw [l];exact (rel.val k).getD rfl
end
inductive tDGet1_S (ty:TE) (σ:St) (Q:VK) (x:V) (H1:Hp):Prop
 | mk (a:_) (_:x=.ref a) (_:IsD H1 a) (_:ty σ H1 λy H2=>∃ o,DGet H2 a y o/\Q (o.getD .non) H2)
def tDGet1 (td ty:TE):TE:=λσ H Q=>td σ H λx H1=>tDGet1_S ty σ Q x H1
section
variable {X:Cx} {o e f:Expr} {apos cpos:Pos} {td ty tx:TE}
def pe_dget1 (hu:X.A.units+1<cLine) (ho:PE X o td) (he:PE X e ty) (m:M1 X o "get" apos e cpos):PE X (.Call (.Attribute o "get" apos) [e] [] cpos) (tDGet1 td ty):=by
 intro pins s σ H Q I h;refine wpAny_Call_method m.base m.few m.line PySem.F.plainAttrs_dict PySem.F.slot_dict_get PySem.F.type_dict_get (thn (ho pins s σ H _ I h) λu s1 ⟨x,H1,I1,rx,a,ex,d,q1⟩=>?_);subst ex;obtain rfl:u=Value.ref a:=rx;obtain ⟨t1,t2,_⟩:=isD_at I1 d;refine ⟨t1,t2,?_⟩;rw [m.trees];refine Calls.callWith_builtin rfl (Calls.evalArgs_plain (Calls.spliced_cons (thn (he pins s1 σ H1 _ I1 q1) λiv s2 ⟨y,H2,I2,ry,ov,g,q2⟩=>Calls.spliced_nil ?_)));exact d_get1 hu I2 g ry λw' s3 I3 rw'=>⟨_,H2,I3,rw',q2⟩
end
section
variable {X:Cx} {pins:Jc} {σ:St} {H:Hp} {s:Sh} {a:Ad} {kvs:Jl} {A:Around} {E:Ja}
end
section
variable {X:Cx} {pins:Jc} {σ:St} {H:Hp} {s:Sh} {a:Ad} {y:V} {u:Vl} {A:Around} {E:Ja}
end
end L2
namespace Att
open PySem PySem.W PySem.Calls PyProof.Rows
section
variable {prog:Program} {w:World} {A:Around} {E:Ja} {s:Sh} {K:Frag}
end
end Att
namespace L2
open PySem PySem.Spec PyProof.Rows
section
variable {P:Program} {w:World} {K:Fg} {mg:J9} {base:Heap}
end
section
variable {X:Cx}
end
section
variable {κ:Type} [DecidableEq κ]
end
abbrev Yp (h:Heap) (z TI TO T:Ad) (f1:Vl):Prop :=
 h.get? z=some { cls:=.type "zip",dict:=none,data:=.fields #[rawInt T,f1,.bool false,.ref TI,.ref TO],slots:=#[] }
section
variable {prog:Program} {w:World} {A:Around} {E:Ja} {s:Sh}
def alive_at {a:Ad} {Q:Option Obj->Sh->Prop} (h:Q (s.heap.get? a) s):wpAny (model prog w) A (loadIfAlive a) Q E s:=λ_ _ _=>h
theorem Zv {z TI TO T:Ad} {b1:Bool} {Q:Bool->Sh->Prop} (zz:Yp s.heap z TI TO T (.bool b1)) (al:∃ o,s.heap.get? T=some o)
  (q:∀ h2,Yp h2 z TI TO T (.bool true)->Heap.SameBut z s.heap h2->Q false { s with heap:=h2 }):wpAny (model prog w) A (Builtin.SmallTypes.ownedTupleIsFree (.ref z)) Q E s:=by
 obtain ⟨o,eo⟩:=al;unfold Builtin.SmallTypes.ownedTupleIsFree;refine q0x (wpAny_field zz rfl (x:=rawInt T) rfl ?_);show wpAny _ _ (loadIfAlive (T:Int).toNat >>= _) _ _ _;refine q0x (alive_at ?_);rw [q0z,eo];simp only [Option.isNone_some,Bool.false_eq_true,if_false];refine q0x (wpAny_field zz rfl (x:=.bool b1) rfl ?_)
 cases b1 with
 | true =>
  rw [if_neg (by decide)];exact q0y (q s.heap zz (Heap.SameBut.refl ..))
 | false =>
  rw [if_pos (by decide)];refine q0x (wpAny_setField_rec zz (by simp) λh2 z2 sb=>q0y (q h2 z2 sb))
def Xg {z TI TO T i1 i2 l1 l2:Ad} {b1:Bool} {k:Nat} {xs ys:Array Vl} {x y:Vl} {Q:Je->Sh->Prop} (D:ZipApart z TI TO i1 i2 l1 l2) (zz:Yp s.heap z TI TO T (.bool b1)) (al:∃ o,s.heap.get? T=some o)
  (pI:IsPair s.heap TI (.ref i1) (.ref i2)) (h1:s.heap.IsListIter i1 l1 k) (h2:s.heap.IsListIter i2 l2 k) (hl1:s.heap.IsList l1 xs) (hl2:s.heap.IsList l2 ys) (ex:xs[k]?=some x) (ey:ys[k]?=some y)
  (q:∀ h',Yp h' z TI TO T (.bool true)->h'.IsListIter i1 l1 (k+1)->h'.IsListIter i2 l2 (k+1)->IsPair h' s.heap.objs.size x y->(∀ c o,c≠z->c≠i1->c≠i2->s.heap.get? c=some o->h'.get? c=some o)->h'.objs.size=s.heap.objs.size+1->Q (some (.ref s.heap.objs.size)) { s with heap:=h' }) :
  wpAny (model prog w) A (pyNext (.ref z)) Q E s:=by
 have ty:s.TypeIs (.ref z) "zip":=⟨_,zz,rfl⟩;unfold pyNext;refine q0x (wpAny_attempt (wpAny_callSpecial?_slot (name:=Str.ofString "__next__") ty F.slot_zip_next (wpAny_call_entry F.slot_zip_next ty F.entry_zip_next ?_ (F.args_zip_next_1 _))));show wpAny _ _ (field (.ref z) 2 >>= _) _ _ _;refine q0x (wpAny_field zz rfl (x:=.bool false) rfl ?_);show wpAny _ _ (field (.ref z) 3 >>= _) _ _ _;refine q0x (wpAny_field zz rfl (x:=.ref TI) rfl ?_);refine q0x (wpAny_seqItems pI rfl ?_);show wpAny _ _ (Builtin.SmallTypes.ownedTupleIsFree (.ref z) >>= _) _ _ _;refine q0x (Zv zz al λh3 z3 sb=>?_);simp only [Bool.false_eq_true,if_false];rw [show (forIn (#[Value.ref i1,Value.ref i2]:Array Vl):(Option Fin×Array Vl)->_->Sem _)=forIn [Value.ref i1,Value.ref i2] from funext λ_=>funext λ_=>by simp];simp only [List.forIn_cons,List.forIn_nil];have h13:=h1.extBut sb.extBut D.i1z;have h23:=h2.extBut sb.extBut D.i2z;have hl13:=hl1.extBut sb.extBut D.l1z;have hl23:=hl2.extBut sb.extBut D.l2z;refine q0x (q0x (q0x (wpAny_holding ?_)));show wpAny _ _ (Builtin.SmallTypes.nextOf (.ref i1) >>= _) _ _ _;refine q0x (wpAny_nextOf_list_item h13 hl13 ex λh4 a4 sb4=>q0y (q0y ?_));refine q0x (q0x (wpAny_holding ?_));show wpAny _ _ (Builtin.SmallTypes.nextOf (.ref i2) >>= _) _ _ _;refine q0x (wpAny_nextOf_list_item (h23.extBut sb4.extBut D.i12.symm) (hl23.extBut sb4.extBut D.l2i1) ey λh5 a5 sb5=>q0y (q0y (q0y ?_)));show wpAny _ _ (newTuple [x,y] >>= _) _ _ _;refine q0x (wpAny_newTuple ?_);have sz:h5.objs.size=s.heap.objs.size:=by rw [sb5.1,sb4.1,sb.1]
 have up:∀ c o,c≠z->c≠i1->c≠i2->s.heap.get? c=some o->(h5.push { cls:=.type "tuple",data:=.seq #[x,y] }).get? c=some o:=λc o c1 c2 c3 e=>Heap.get?_push_of_some _ (sb5.extBut _ _ c3 (sb4.extBut _ _ c2 (sb.extBut _ _ c1 e)));refine q0y ⟨_,rfl,q0y ?_⟩;show Q (some (.ref h5.objs.size)) _;rw [sz];have fin:=q (h5.push { cls:=.type "tuple",data:=.seq #[x,y] }) (Heap.get?_push_of_some _ (sb5.extBut _ _ D.i2z.symm (sb4.extBut _ _ D.i1z.symm z3))) ((a4.extBut sb5.extBut D.i12).at λo e=>Heap.get?_push_of_some _ e) (a5.at λo e=>Heap.get?_push_of_some _ e) (by rw [← sz];exact Heap.get?_push_size _ rfl) up (by rw [Heap.size_push,sz]);exact fin
def XI {z TI TO T i1 i2 l1 l2:Ad} {b1:Bool} {k:Nat} {xs ys:Array Vl} {Q:Je->Sh->Prop} (hd:A.handled=none) (D:ZipApart z TI TO i1 i2 l1 l2) (zz:Yp s.heap z TI TO T (.bool b1)) (al:∃ o,s.heap.get? T=some o)
  (pI:IsPair s.heap TI (.ref i1) (.ref i2)) (h1:s.heap.IsListIter i1 l1 k) (hl1:s.heap.IsList l1 xs) (ex:xs[k]?=none)
  (q:∀ h',(∀ c o,c≠z->c≠i1->c≠i2->s.heap.get? c=some o->h'.get? c=some o)->Q none { s with heap:=h' }) :
  wpAny (model prog w) A (pyNext (.ref z)) Q E s:=by
 have ty:s.TypeIs (.ref z) "zip":=⟨_,zz,rfl⟩;unfold pyNext;refine q0x (wpAny_attempt (wpAny_callSpecial?_slot (name:=Str.ofString "__next__") ty F.slot_zip_next (wpAny_call_entry F.slot_zip_next ty F.entry_zip_next ?_ (F.args_zip_next_1 _))));show wpAny _ _ (field (.ref z) 2 >>= _) _ _ _;refine q0x (wpAny_field zz rfl (x:=.bool false) rfl ?_);show wpAny _ _ (field (.ref z) 3 >>= _) _ _ _;refine q0x (wpAny_field zz rfl (x:=.ref TI) rfl ?_);refine q0x (wpAny_seqItems pI rfl ?_);show wpAny _ _ (Builtin.SmallTypes.ownedTupleIsFree (.ref z) >>= _) _ _ _;refine q0x (Zv zz al λh3 z3 sb=>?_);simp only [Bool.false_eq_true,if_false];rw [show (forIn (#[Value.ref i1,Value.ref i2]:Array Vl):(Option Fin×Array Vl)->_->Sem _)=forIn [Value.ref i1,Value.ref i2] from funext λ_=>funext λ_=>by simp];simp only [List.forIn_cons,List.forIn_nil];refine q0x (q0x (q0x (wpAny_holding ?_)));show wpAny _ _ (Builtin.SmallTypes.nextOf (.ref i1) >>= _) _ _ _;refine q0x (wpAny_nextOf_list_end hd (h1.extBut sb.extBut D.i1z) (hl1.extBut sb.extBut D.l1z) ex λh4 e sb4 he=>?_);obtain ⟨o,ho,hc⟩:=he;refine q0x (wpAny_isInstance (T:="StopIteration") (b:=true) ⟨o,ho,hc⟩ isSubtype_stop ?_);exact q0y (q _ λc o c1 c2 c3 e=>sb4 c o c2 (sb.extBut _ _ c1 e))
end
end L2
namespace PySem
open Sem (wp)
namespace F
def my_entry_zip_ga:entryFor table "zip.__getattribute__"=some Builtin.«object.__getattribute__» :=
 entryFor_alias (id':="object.__getattribute__") (by kernel_rfl) (by first | rfl | decide +kernel) (by decide +kernel) (by kernel_rfl)
def my_lk_zip_keys:typeLookup (.type "zip") "keys"=pure none:=by rw [typeLookup_type,builtinLookup_eq_fast];kernel_rfl
def my_lk_zip_hook:typeLookup (.type "zip") "__getattr__"=pure none:=by rw [typeLookup_type,builtinLookup_eq_fast];kernel_rfl
end F
def Yh (a:Ad) (fs:Array Vl) (u:Tok) :
  Meets (Builtin.«object.__getattribute__» ⟨[.ref a,.str "keys" u],[]⟩) (λA R s=>s.heap.get? a=some { cls:=.type "zip",dict:=none,data:=.fields fs,slots:=#[] }/\raisesAttr (.ref a) "keys" A R s) :=
 Meets.of_wp λprog w A R s z=>by
  obtain ⟨hp,g,d,tk,os⟩:=s;obtain ⟨zx,zs⟩:=z;have zT:(⟨hp,g,d,tk,os⟩:Sh).TypeIs (.ref a) "zip":=⟨_,zx,rfl⟩;have f4:=F.my_lk_zip_keys;unfold Builtin.«object.__getattribute__»;repeat (any_goals (first | assumption | wp_step | fail))
  exact wpAny_raiseAttrError zs.1 zs.2 (attrMsg_fits (by decide +kernel) (by decide +kernel))
def YW {prog:Program} {w:World} {A:Around} {E:Ja} {s:Sh} {a:Ad} {fs:Array Vl} {Q:Je->Sh->Prop} (zx:s.heap.get? a=some { cls:=.type "zip",dict:=none,data:=.fields fs,slots:=#[] }) (zA:A.handled=none)
  (q:∀ h' tk e,Heap.NewExcOf s.heap h' e "AttributeError"->Q none { s with heap:=h',toks:=tk }):wpAny (model prog w) A (getAttr? (.ref a) "keys") Q E s:=by
 obtain ⟨hp,g,d,tk,os⟩:=s;have zT:∀ tk',(⟨hp,g,d,tk',os⟩:Sh).TypeIs (.ref a) "zip":=λ_=>⟨_,zx,rfl⟩;have f1:=sub_AttributeError;have f3:=F.slot_zip_getattribute.lookup;have f4:=F.slot_zip_getattribute.bind (.ref a);have f5:=F.my_lk_zip_hook;unfold getAttr? getAttrBy? getAttrBy
 repeat (any_goals (first | assumption | exact zT _ | ((with_reducible show wpAny _ _ (call (Value.builtin "zip.__getattribute__") _ _) _ _ _);refine call_meets F.slot_zip_getattribute (zT _) F.my_entry_zip_ga (F.args_zip_getattribute_2 _ _) (Yh a fs _) ⟨zx,zA,λh9 k9 e9 n9=>?_⟩) | wp_step))
 obtain ⟨t9,u9,x9⟩:=n9.there;show wpAny _ _ (getattributeRaised _ _ _ _ _ _ _) _ _ _;unfold getattributeRaised
 repeat (any_goals (first | assumption | wp_step | fail))
 exact q _ _ _ n9.of
end PySem
namespace L2
open PySem PySem.Spec PyProof.Rows
def Zg:entryFor table "dict.update.loop"=some Builtin.«dict.update.loop»:=entryFor_of_tree (by kernel_rfl)
def ZS (z TI TO i1 i2 l1 l2:Ad) (k:Nat) (h:Heap):Prop :=
 (IsZip h z TI TO .none∨∃ T b,Yp h z TI TO T (.bool b)/\(∃ o,h.get? T=some o)/\T≠z/\T≠TO/\T≠i1/\T≠i2)/\IsPair h TI (.ref i1) (.ref i2)/\(∃ a b,IsPair h TO a b)/\h.IsListIter i1 l1 k/\h.IsListIter i2 l2 k
section
variable {prog:Program} {w:World} {A:Around} {E:Ja} {s:Sh} {z TI TO i1 i2 l1 l2 d:Ad} {xs ys:Array Vl}
def zs_item {k:Nat} {x y:Vl} {Q:Je->Sh->Prop} (D:ZipApart z TI TO i1 i2 l1 l2) (st:ZS z TI TO i1 i2 l1 l2 k s.heap) (hl1:s.heap.IsList l1 xs) (hl2:s.heap.IsList l2 ys) (ex:xs[k]?=some x) (ey:ys[k]?=some y)
  (q:∀ h',ZS z TI TO i1 i2 l1 l2 (k+1) h'->IsPair h' s.heap.objs.size x y->(∀ c o,c≠z->c≠TO->c≠i1->c≠i2->s.heap.get? c=some o->h'.get? c=some o)->Q (some (.ref s.heap.objs.size)) { s with heap:=h' }) :
  wpAny (model prog w) A (pyNext (.ref z)) Q E s:=by
 obtain ⟨zz,pI,⟨a,b,pO⟩,h1,h2⟩:=st;have lt:∀ {c:Ad} {o:Obj},s.heap.get? c=some o->s.heap.objs.size≠c:=λe=>Nat.ne_of_gt (Heap.lt_size e);have n1:s.heap.objs.size≠i1:=by obtain ⟨o,e,_⟩:=h1;exact lt e
 have n2:s.heap.objs.size≠i2:=by obtain ⟨o,e,_⟩:=h2;exact lt e
 rcases zz with zz | ⟨T,b1,zz,al,t1,t2,t3,t4⟩
 ·refine wpAny_pyNext_zip_item D zz pI pO h1 h2 hl1 hl2 ex ey λh' a1 a2 a3 a4 a5 a6 hk=>?_
  exact q h' ⟨.inr ⟨_,_,a1,⟨_,a5⟩,lt zz,lt pO,n1,n2⟩,hk _ _ D.TIz D.TITO D.TIi1 D.TIi2 pI,⟨_,_,a2⟩,a3,a4⟩ a5 hk
 ·obtain ⟨o,eo⟩:=al
  refine Xg D zz ⟨o,eo⟩ pI h1 h2 hl1 hl2 ex ey λh' a1 a3 a4 a5 hk _=>?_;exact q h' ⟨.inr ⟨T,true,a1,⟨o,hk _ _ t1 t3 t4 eo⟩,t1,t2,t3,t4⟩,hk _ _ D.TIz D.TIi1 D.TIi2 pI,⟨_,_,hk _ _ D.TOz D.TOi1 D.TOi2 pO⟩,a3,a4⟩ a5 λc o c1 _ c3 c4 e=>hk c o c1 c3 c4 e
def zs_end {k:Nat} {Q:Je->Sh->Prop} (hd:A.handled=none) (D:ZipApart z TI TO i1 i2 l1 l2) (st:ZS z TI TO i1 i2 l1 l2 k s.heap) (hl1:s.heap.IsList l1 xs) (hl2:s.heap.IsList l2 ys) (ex:xs[k]?=none)
  (q:∀ h',(∀ c o,c≠z->c≠TO->c≠i1->c≠i2->s.heap.get? c=some o->h'.get? c=some o)->Q none { s with heap:=h' }):wpAny (model prog w) A (pyNext (.ref z)) Q E s:=by
 obtain ⟨zz,pI,⟨a,b,pO⟩,h1,h2⟩:=st;rcases zz with zz | ⟨T,b1,zz,al,_⟩
 ·exact wpAny_pyNext_zip_end hd D zz pI pO h1 h2 hl1 hl2 (.inl ex) λh' hk=>q h' hk
 ·exact XI (ys:=ys) hd D zz al pI h1 hl1 ex λh' hk=>q h' λc o c1 _ c3 c4 e=>hk c o c1 c3 c4 e
def YZ (kvs:List (Key×Vl)):List (Key×Vl)->List (Key×Vl)
 | []=>kvs
 | p::r=>YZ (stored kvs p.1 p.2) r
def ZS.same {k:Nat} {h h2:Heap} (st:ZS z TI TO i1 i2 l1 l2 k h) (dz:d≠z) (dI:d≠TI) (dO:d≠TO) (d1:d≠i1) (d2:d≠i2) (kp:∀ c o,c≠d->h.get? c=some o->h2.get? c=some o) (hd:∃ o,h2.get? d=some o):ZS z TI TO i1 i2 l1 l2 k h2:=by
 obtain ⟨zz,pI,⟨a,b,pO⟩,h1,h2'⟩:=st;refine ⟨?_,kp _ _ dI.symm pI,⟨a,b,kp _ _ dO.symm pO⟩,h1.at λo e=>kp _ o d1.symm e,h2'.at λo e=>kp _ o d2.symm e⟩;rcases zz with zz | ⟨T,b1,zz,⟨o,eo⟩,t⟩
 ·exact .inl (kp _ _ dz.symm zz)
 ·refine .inr ⟨T,b1,kp _ _ dz.symm zz,?_,t⟩
  by_cases e:T=d
  ·rw [e];exact hd
  ·exact ⟨o,kp _ _ e eo⟩
theorem dz_loop (hd:A.handled=none) (D:ZipApart z TI TO i1 i2 l1 l2) (dz:d≠z) (dI:d≠TI) (dO:d≠TO) (d1:d≠i1) (d2:d≠i2) (dl1:d≠l1) (dl2:d≠l2) :
  ∀ (ps:List (Key×Vl)) (k:Nat) (s:Sh) (kvs:List (Key×Vl)) (i:Int) (t:Tok) (R:Result->Sh->Prop),ZS z TI TO i1 i2 l1 l2 k s.heap->s.heap.IsList l1 xs->s.heap.IsList l2 ys->s.heap.DictOf (zI prog w) d kvs->kvs.length+ps.length<=sizeLine ->
   xs.size=k+ps.length->(∀ j (p:Key×Vl),ps[j]?=some p->∃ u,xs[k+j]?=some u/\(zI prog w).is p.1 u=true/\ys[k+j]?=some p.2) ->
   (∀ h' tk,h'.DictOf (zI prog w) d (YZ kvs ps)->(∀ c o,c≠z->c≠TO->c≠i1->c≠i2->c≠d->s.heap.get? c=some o->h'.get? c=some o)->R (.ok (.ret .none)) { s with heap:=h',toks:=tk }) ->
   codeAny (model prog w) A (.builtin "dict.update.loop" ⟨[.ref d,.ref z,.int i t,.none],[]⟩) R s
 | [],k,s,kvs,i,t,R,st,hl1,hl2,hm,hz,hn,hp,q=>by
  refine codeAny_builtin Zg ?_;show wpAny _ _ (pyNext (.ref z) >>= _) _ _ _;refine q0x (zs_end hd D st hl1 hl2 (Array.getElem?_eq_none (by rw [hn];exact Nat.le_refl _)) λh' hk=>?_);show wpAny _ _ (Builtin.Dict.addKeywords d [] >>= _) _ _ _;refine q0x (q0y (q0y ?_))
  have hd':h'.DictOf (zI prog w) d kvs:=by
   obtain ⟨o,es,ep,ho,r⟩:=hm;exact ⟨o,es,ep,hk _ _ dz dO d1 d2 ho,r⟩
  exact q h' s.toks hd' λc o c1 c2 c3 c4 _ e=>hk c o c1 c2 c3 c4 e
 | p::ps,k,s,kvs,i,t,R,st,hl1,hl2,hm,hz,hn,hp,q=>by
  refine codeAny_builtin Zg ?_;obtain ⟨u,eu,ku,ev⟩:=hp 0 p rfl;show wpAny _ _ (pyNext (.ref z) >>= _) _ _ _;refine q0x (zs_item D st hl1 hl2 eu ev λh' st' pT hk=>?_)
  have hm':h'.DictOf (zI prog w) d kvs:=by
   obtain ⟨o,es,ep,ho,r⟩:=hm;exact ⟨o,es,ep,hk _ _ dz dO d1 d2 ho,r⟩
  have hl1':h'.IsList l1 xs:=hl1.at λo e=>hk _ o D.l1z D.l1TO D.l1i1 D.l1i2 e;have hl2':h'.IsList l2 ys:=hl2.at λo e=>hk _ o D.l2z D.l2TO D.l2i1 D.l2i2 e;refine q0x (wpAny_holding ?_);refine q0x (wpAny_tryCatch ?_);unfold Builtin.Dict.pairItems;refine q0x (wpAny_typeOf (T:="tuple") ⟨_,pT,rfl⟩ ?_);rw [if_pos (by decide)];refine q0x (wpAny_seqItems pT rfl (q0y ?_));show wpAny _ _ (holding [u,p.2] (dictSet d u p.2)) _ _ _;refine wpAny_holding (wpAny_dictSet_pairs (hsz:=by rw [q3x] at hz;omega) ku hm' λh2 hm2 sb=>?_);refine q0y ⟨Code.quiet_builtin _ (by decide +kernel),?_⟩;have nd:∃ o,h2.get? d=some o:=by obtain ⟨o,_,_,e,_⟩:=hm2;exact ⟨o,e⟩
  have ls:(stored kvs p.1 p.2).length<=kvs.length+1:=by
   unfold stored;split
   ·rw [Ji];omega
   ·rw [Jj];exact Nat.le_refl _
  refine dz_loop hd D dz dI dO d1 d2 dl1 dl2 ps (k+1) { s with heap:=h2,toks:=s.toks+1 } (stored kvs p.1 p.2) (i+1) 0 R (st'.same dz dI dO d1 d2 (λc o n e=>sb.extBut _ _ n e) nd) (hl1'.extBut sb.extBut dl1.symm) (hl2'.extBut sb.extBut dl2.symm) hm2 (by rw [q3x] at hz;omega) (by rw [hn,q3x];omega) (λj r hj=>?_) (λh3 tk hm3 hk3=>?_)
  ·have:=hp (j+1) r hj
   rw [show k+1+j=k+(j+1) by omega];exact this
  ·exact q h3 tk hm3 λc o c1 c2 c3 c4 c5 e=>hk3 c o c1 c2 c3 c4 c5 (sb.extBut _ _ c5 (hk c o c1 c2 c3 c4 e))
end
def putAll (kvs:Jl):Jl->Jl
 | []=>kvs
 | p::r=>putAll (yh kvs p.1 p.2) r
theorem KV.putAll:∀ {ps:Jl} {qs:List (Key×Vl)} {kvs:Jl} {vs:List (Key×Vl)},KV ps qs->KV kvs vs->KV (L2.putAll kvs ps) (YZ vs qs)
 | [],_,_,_,.nil,h=>h
 | p::ps,_,_,_,.cons (b:=q) r rr,h=>by
  have e:q.1=p.1:=r.1.symm;show KV (L2.putAll (yh _ p.1 p.2) ps) (YZ (stored _ q.1 q.2) _);rw [e];exact KV.putAll rr (h.put p.1 r.2)
theorem YM:∀ (ps:Jl) (kvs:Jl),(putAll kvs ps).length<=kvs.length+ps.length
 | [],_=>Nat.le_refl _
 | p::ps,kvs=>by
  have:=YM ps (yh kvs p.1 p.2);have:=xi kvs p.1 p.2;show (putAll (yh kvs p.1 p.2) ps).length<=kvs.length+(ps.length+1);omega
section
variable {prog:Program} {w:World} {A:Around} {E:Ja} {s:Sh} {z TI TO i1 i2 l1 l2:Ad} {xs ys:Array Vl}
def ZS.keeps {k:Nat} {h h2:Heap} (st:ZS z TI TO i1 i2 l1 l2 k h) (kp:∀ c o,h.get? c=some o->h2.get? c=some o):ZS z TI TO i1 i2 l1 l2 k h2:=by
 obtain ⟨zz,pI,⟨a,b,pO⟩,h1,h2'⟩:=st;refine ⟨?_,kp _ _ pI,⟨a,b,kp _ _ pO⟩,h1.at λo e=>kp _ o e,h2'.at λo e=>kp _ o e⟩;rcases zz with zz | ⟨T,b1,zz,⟨o,eo⟩,t⟩
 ·exact .inl (kp _ _ zz)
 ·exact .inr ⟨T,b1,kp _ _ zz,⟨o,kp _ _ eo⟩,t⟩
def Xm {ps:List (Key×Vl)} {Q:Ja} (hd:A.handled=none) (D:ZipApart z TI TO i1 i2 l1 l2) (zz:IsZip s.heap z TI TO .none) (st:ZS z TI TO i1 i2 l1 l2 0 s.heap) (hl1:s.heap.IsList l1 xs) (hl2:s.heap.IsList l2 ys) (hz:ps.length<=sizeLine) (hn:xs.size=ps.length)
  (hp:∀ (j:Nat) (p:Key×Vl),ps[j]?=some p->∃ u,xs[j]?=some u/\(zI prog w).is p.1 u=true/\ys[j]?=some p.2)
  (q:∀ h' tk,h'.DictOf (zI prog w) s.heap.objs.size (YZ [] ps)->(∀ c o,c≠z->c≠TO->c≠i1->c≠i2->s.heap.get? c=some o->h'.get? c=some o)->Q (.ref s.heap.objs.size) { s with heap:=h',toks:=tk }):wpAny (model prog w) A (call (.type "dict") [.ref z]) Q E s:=by
 refine callType_codes (Q₁:=λobj s₁=>obj=.ref s.heap.objs.size/\s₁={ s with heap:=s.heap.push { cls:=.type "dict",data:=.dict #[] } }) F.kt_called_dict (F.kt_typeCall_dict_1 _) F.entry_dict_init (kt_code_dict_new _ ⟨rfl,rfl⟩) λobj s1 y=>?_;obtain ⟨rfl,rfl⟩:=y;have nw:(s.heap.push { cls:=.type "dict",data:=.dict #[] }).DictOf (zI prog w) s.heap.objs.size []:=Heap.DictOf.new s.heap;have kp:∀ c o,s.heap.get? c=some o->(s.heap.push { cls:=.type "dict",data:=.dict #[] }).get? c=some o:=λc o e=>Heap.get?_push_of_some _ e;have lt:∀ {c:Ad} {o:Obj},s.heap.get? c=some o->s.heap.objs.size≠c:=λe=>Nat.ne_of_gt (Heap.lt_size e);obtain ⟨_,pI,⟨a,b,pO⟩,g1,g2⟩:=id st;have e1:s.heap.objs.size≠i1:=by obtain ⟨o,e,_⟩:=g1;exact lt e
 have e2:s.heap.objs.size≠i2:=by obtain ⟨o,e,_⟩:=g2;exact lt e
 have e3:s.heap.objs.size≠l1:=by obtain ⟨o,e,_⟩:=hl1;exact lt e
 have e4:s.heap.objs.size≠l2:=by obtain ⟨o,e,_⟩:=hl2;exact lt e
 refine ⟨nw.typeIs,F.args_dict_init_2 _ _,?_⟩;unfold Builtin.«dict.__init__»;refine q0x ?_;unfold Builtin.Dict.selfAndRest;refine q0x (wpAny_notOrdered_dict nw.typeIs ?_);show wpAny _ _ (pure (s.heap.objs.size,[Value.ref z])) _ _ _;refine q0y ?_;show wpAny _ _ (Builtin.Dict.updateFrom "dict.__init__" s.heap.objs.size (.ref z) [] .none) _ _ _;unfold Builtin.Dict.updateFrom;refine q0x (wpAny_typeOf (T:="zip") ⟨_,kp _ _ zz,rfl⟩ ?_);rw [if_pos (by decide)];refine q0x (YW (kp _ _ zz) hd λh3 tk e ne=>?_);simp only [Option.isNone_none,if_true];have k3:∀ c o,s.heap.get? c=some o->h3.get? c=some o:=λc o e=>ne.keeps c o (kp c o e);refine q0x (wpAny_rule (q0x (wpAny_pyIter_zip (f0:=.none) (k3 _ _ zz) ?_)));refine q0y ⟨Code.quiet_builtin _ (by decide +kernel),?_⟩
 have d3:h3.DictOf (zI prog w) s.heap.objs.size []:=by
  obtain ⟨o,es,ep,ho,r⟩:=nw;exact ⟨o,es,ep,ne.keeps _ _ ho,r⟩
 refine dz_loop (A:=A.in1) (xs:=xs) (ys:=ys) hd D (lt zz) (lt pI) (lt pO) e1 e2 e3 e4 ps 0 { s with heap:=h3,toks:=tk } [] 0 0 _ (st.keeps k3) (hl1.at λo e=>k3 _ o e) (hl2.at λo e=>k3 _ o e) d3 (by show 0+ps.length<=_;omega) (by rw [hn,Nat.zero_add]) (λj r hj=>by rw [Nat.zero_add];exact hp j r hj) λh4 tk4 d4 k4=>?_;exact ⟨rfl,q h4 tk4 d4 λc o c1 c2 c3 c4 e=>k4 c o c1 c2 c3 c4 (lt e).symm (k3 c o e)⟩
end
theorem kv_zip:∀ (ks:List Key) {ys:Jn} {us:Jd},Vals ys us->ks.length=ys.length->KV (ks.zip ys) (ks.zip us)
 | [],_,_,_,_=>.nil
 | k::ks,_,_,.nil,h=>by cases h
 | k::ks,_,_,.cons r rr,h=>.cons ⟨rfl,r⟩ (kv_zip ks rr (by simpa using h))
section
variable {X:Cx}
inductive tDictZip_S (K:Fg) (Q:VK) (vs:Jn) (H1:Hp):Prop
 | mk (l1 l2:Ad) (ks:List Key) (ys:Jn) (_:vs=[.ref l1,.ref l2]) (_:SqL K H1 l1 (ks.map kV)) (_:SqL K H1 l2 ys) (_:ks.length=ys.length) (_:∀ d,H1 d=none->Q (.ref d) (upd H1 d (.dK (putAll [] (ks.zip ys)))))
def tDictZip (K:Fg) (ta:TA):TE:=λσ H Q=>ta σ H λvs H1=>tDictZip_S K Q vs H1
def zbk {a b:Expr} {ta:TA} {p p2 pos pos2:Pos} (hc:X.calm=true) (hg:Gl X "dict") (hm:X.mg "dict"=none) (hg2:Gl X "zip") (hm2:X.mg "zip"=none) (ha:PA X [a,b] ta)
  (hs:starEach [a,b] X.env=[(false,eval a X.env),(false,eval b X.env)]:=by rfl) (hs2:starEach [b] X.env=[(false,eval b X.env)]:=by rfl)
  (hs3:starEach [Expr.Call (.Name "zip" p2) [a,b] [] pos2] X.env=[(false,eval (.Call (.Name "zip" p2) [a,b] [] pos2) X.env)]:=by rfl):PE X (.Call (.Name "dict" p) [.Call (.Name "zip" p2) [a,b] [] pos2] [] pos) (tDictZip X.K ta):=by
 intro pins s σ H Q I h;refine wpAny_Call_Name_kw (xD I hg hm boot_dict (PyProof.Rows.callWith_type1 ?_ (by rw [hs3];rfl) (by rfl)));rw [hs3];show wpAny _ _ (spliced [(false,eval (.Call (.Name "zip" p2) [a,b] [] pos2) X.env)]) _ _ s;refine Calls.spliced_cons (Call_ (xD I hg2 hm2 boot_zip (PyProof.Rows.callWith_type1 (thn (ha pos2 pins s σ H _ I h) λus s1 ⟨vs,H1,I1,r1,q1⟩=>?_) (by rw [hs,hs2]) (by rw [hs2];rfl))));obtain ⟨l1,l2,ks,ys,e,x1,x2,le,q⟩:=q1;subst e;obtain ⟨u,v,rfl,ru,rv⟩:=YD r1;cases (show u=Value.ref l1 from ru);cases (show v=Value.ref l2 from rv);obtain ⟨is1,g1,p1,z1⟩:=I1.list x1;obtain ⟨is2,g2,p2',z2⟩:=I1.list x2;have L1:l1<s1.heap.objs.size:=by obtain ⟨_,e,_⟩:=p1.isList;exact Heap.lt_size e
 have L2:l2<s1.heap.objs.size:=by obtain ⟨_,e,_⟩:=p2'.isList;exact Heap.lt_size e
 have n1:=g1.length;have n2:=g2.length;rw [Ji] at n1;refine call_zip_2 p1.isList p2'.isList λh' a1 a2 a3 a4 a5 a6 hk=>Calls.spliced_nil ?_;have J:Inv X pins σ H1 { s1 with heap:=h' }:=I1.kept (t':=s1.toks) λb o e=>hk b o e;have fp:∀ n,xF X pins H1 (s1.heap.objs.size+n):=λn=>I1.fpOk (Nat.le_add_right _ _) (I1.hok.fresh (Nat.le_add_right _ _));have rel:KV (ks.zip ys) (ks.zip is2):=kv_zip ks g2 le;have lz:(ks.zip is2).length=ks.length:=by rw [List.length_zip,Nat.min_eq_left];omega
 rw [Ji] at z1;refine Xm (s:={ s1 with heap:=h' }) (xs:=is1.toArray) (ys:=is2.toArray) (ps:=ks.zip is2) (I1.ok.hd hc) (zipApart_new L1 L2) a1 ⟨.inl a1,a2,⟨_,_,a3⟩,a4,a5⟩ (p1.isList.at λo e=>hk _ o e) (p2'.isList.at λo e=>hk _ o e) (by omega) (by rw [lz,List.size_toArray];omega) (λj r hj=>?_) λh3 tk d3 k3=>?_
 ·obtain ⟨ek,ev⟩:ks[j]?=some r.1/\is2[j]?=some r.2:=by
   rw [List.getElem?_zip_eq_some] at hj;exact hj
  obtain ⟨u,eu,ru⟩:=g1.get (show (ks.map kV)[j]?=some (kV r.1) by rw [List.getElem?_map,ek];rfl);exact ⟨u,by simpa using eu,Y2 ru,by simpa using ev⟩
 ·have fr:H1 h'.objs.size=none:=I1.hok.fresh (by rw [a6];omega)
  have b4:=fp 4;have b3:=fp 3;have b0:=fp 0;have b1:=fp 1;have b2:=fp 2
  have lay:ObjOk X.prog X.w (upd H1 h'.objs.size (.dK (putAll [] (ks.zip ys)))) h3 h'.objs.size (.dK (putAll [] (ks.zip ys))):=by
   refine ⟨?_,?_,_,KV.putAll rel .nil,d3⟩
   ·have:=YM (ks.zip ys) []
    rw [List.length_zip] at this;have:([]:Jl).length=0:=rfl;omega
   ·have:=J.big
    exact beq_eq_false_iff_ne.mpr (Nat.ne_of_gt this)
  refine ⟨.ref h'.objs.size,upd H1 h'.objs.size (.dK (putAll [] (ks.zip ys))),?_,rfl,q _ fr⟩
  exact J.turnedT (its:=[s1.heap.objs.size+4,s1.heap.objs.size+2,s1.heap.objs.size+3,s1.heap.objs.size,s1.heap.objs.size+1]) (λc o nc e=>by
   have nc':c≠s1.heap.objs.size+4/\c≠s1.heap.objs.size+2/\c≠s1.heap.objs.size+3/\c≠s1.heap.objs.size/\c≠s1.heap.objs.size+1:=by simpa using nc
   exact k3 c o nc'.1 nc'.2.2.1 nc'.2.2.2.1 nc'.2.2.2.2 e) (λc hc'=>by
   simp at hc';rcases hc' with rfl | rfl | rfl | rfl | rfl
   ·exact b4
   ·exact b2
   ·exact b3
   ·exact b0
   ·exact b1) (Nat.le_refl _) lay
end
section
variable {prog:Program} {w:World} {A:Around} {R:Result->Sh->Prop} {s:Sh}
theorem Y9 {elt target iter tst:Expr} {scope:Scope} {pos:Pos} {it acc:Vl} {env:Env} (I:Nat->Sh->Prop)
  (turn:∀ n s,I n s->wpAny (model prog w) A (pyNext it) (λr s₁=>match r with
   | none=>R (.ok .next) s₁
   | some v=>wpAny (model prog w) A (letOwnedTupleGo target it v) (λ_ s₂=>wpAny (model prog w) A (assign target env v) (λ_ s₃=>wpAny (model prog w) A (isTrue tst env (eval tst env)) (λok t₃=>match ok with
     | true=>wpAny (model prog w) A (eval elt env) (λx s₄=>wpAny (model prog w) A (call (.builtin "list.append") [acc,x]) (λ_ s₅=>∃ m,m<n/\I m s₅) (λ_ _=>False) s₄) (λ_ _=>False) t₃
     | false=>∃ m,m<n/\I m t₃) (λ_ _=>False) s₃) (λ_ _=>False) s₂) (λ_ _=>False) s₁) (λ_ _=>False) s)
  (n:Nat) (h:I n s):codeAny (model prog w) A (.compLoop (.ListComp elt [⟨target,iter,[tst],0⟩] scope pos) 0 it acc env) R s:=by
 refine codeAny_loop rfl I (λn s hI=>?_) n h;show wpAny _ _ ((compTurn (.ListComp elt [⟨target,iter,[tst],0⟩] scope pos) 0 it acc env).onRaise (λx=>do noteFrame x env;theTreesLotGoes x)) _ _ s;refine wpAny_noted ?_;rw [compTurn_list];refine q0x (wpAny_standAt (q0x (wpAny_mono (turn n s hI) (λr s₁ h₁=>?_) λ_ _ z=>z.elim)))
 cases r with
 | none=>exact q0y h₁
 | some v =>
  refine q0x (wpAny_mono h₁ (λ_ s₂ h₂=>?_) λ_ _ z=>z.elim);refine q0x (wpAny_mono h₂ (λ_ s₃ h₃=>?_) λ_ _ z=>z.elim);refine q0x (wpAny_tests_one (wpAny_mono h₃ (λok t₃ h₃=>?_) λ_ _ z=>z.elim))
  cases ok with
  | false=>exact q0y ⟨rfl,h₃⟩
  | true =>
   refine q0x (q0x (wpAny_mono h₃ (λx s₄ h₄=>?_) λ_ _ z=>z.elim));exact q0x (wpAny_mono h₄ (λ_ s₅ h₅=>q0y (q0y ⟨rfl,h₅⟩)) λ_ _ z=>z.elim)
end
inductive CompWF (J:It) (g:TG) (tt:TT) (te:TE) (σY:St) (H1:Hp) (D:Ad) (Q:VK):Prop
 | mk (W:Nat->Nat->St->Hp->Prop) (_:(∃ m,W 0 m σY H1)) (_:∀ i m σ' H',W i m σ' H'->(J.stop i H'/\Q (.ref D) H')∨(J.go i H'/\∃ N:St->Hp->Prop,(∀ σ2 H2,N σ2 H2->∃ m',m'<m/\W (i+1) m' σ2 H2)/\∀ x H2,J.yld i H' x H2->g x σ' H2 λσ3 H3=>tt σ3 H3 λb H4=>if b=true then te σ3 H4 λv H5=>∃ xs,H5 D=some (.lst xs)/\xs.length<sizeLine/\N σ3 (upd H5 D (.lst (xs++[v]))) else N σ3 H4)):CompWF J g tt te σY H1 D Q
inductive tCompF_S (g:TG) (tt:TT) (te:TE) (σ0:St->Hp->St->Prop) (σ:St) (Q:VK) (J:It) (H1:Hp):Prop
 | mk (σY:_) (_:σ0 σ H1 σY) (_:∀ D,H1 D=none->CompWF J g tt te σY (upd H1 D (.lst [])) D Q)
def tCompF (wi:TI) (g:TG) (tt:TT) (te:TE) (σ0:St->Hp->St->Prop):TE:=λσ H Q=>wi σ H λJ H1=>tCompF_S g tt te σ0 σ Q J H1
section
variable {X:Cx} {tg:Expr}
theorem zbw {iter elt tst:Expr} {scope:Scope} {pos pos':Pos} {cl:List (Str×Ad)} {NY:Jf} {wi:TI} {g:TG} {tt:TT} {te:TE} {σ0:St->Hp->St->Prop} (hc:X.calm=true) (S:Sees X scope cl) (hi:PI X tg iter wi)
  (hY:∀ (s3:Sh) (H3:Hp) (fp:Jg),PG (X.comp scope cl NY s3 H3 fp) tg g/\PT (X.comp scope cl NY s3 H3 fp) tst tt/\PE (X.comp scope cl NY s3 H3 fp) elt te)
  (h0:∀ (pins:Jc) (σ:St) (H:Hp) (s3:Sh) (σY:St),Inv X pins σ H s3->σ0 σ H σY->σY.length=NY.length/\∀ (i:Nat) (x:Str) (v:V),NY[i]?=some x->σY[i]?=some (some v) ->
   ∃ c u,(((compEnvC scope cl 0 X.env).kindOf x=some .cell∨(compEnvC scope cl 0 X.env).kindOf x=some .free))/\cl.lookup x=some c/\RelV v u/\s3.heap.IsCell c (some u))
  (hs:∀ x,foldedSetIterable iter X.env x=pure x) {use:Option (Vl->Sem Unit)} {R:Ja} {pins:Jc} {s:Sh} {σ:St} {H:Hp} {Q:VK} (I:Inv X pins σ H s) (h:tCompF wi g tt te σ0 σ H Q)
  (fin:∀ (C D:Ad) (H5:Hp) (s6:Sh),CompEnd X pins σ H5 s6 C->Q (.ref D) H5->compPost (model X.prog X.w) X.A X.xe use R (.ref D) C (.ok .next) s6) :
  wpAny (model X.prog X.w) X.A (comprehension (.ListComp elt [⟨tg,iter,[tst],0⟩] scope pos) scope X.env pos' (newList []) (firstAsync [⟨tg,iter,[tst],0⟩]) (firstIter [⟨tg,iter,[tst],0⟩] X.env) use) R X.xe s:=by
 refine wpAny_comprehension_free rfl hs S.clos S.kind S.names (thn (hi pins s σ H _ I h) λv s1 h1=>thn h1 λitv s2 h2=>?_);obtain ⟨it,fp,tn,J,H2,e,I2,T,st2,f2,σY,hσ,hW⟩:=h2;subst e;refine wpAny_newObj_type ?_;have I3:Inv X pins σ (upd H2 s2.heap.objs.size (.lst [])) (pz s2):=I2.lnew (t':=s2.toks) (its:=[]) .nil (Nat.zero_le _);obtain ⟨W,⟨m0,w0⟩,turn⟩:=hW s2.heap.objs.size (I2.hok.fresh (Nat.le_refl _));have ob2:=T.obj _ _ st2
 have hfp:∀ b∈fp,xF X pins (upd H2 s2.heap.objs.size (.lst [])) b:=λb hb=>by
  obtain ⟨o,q,_⟩:=ob2 b hb;exact ⟨by rw [zk (Nat.ne_of_lt (Heap.lt_size q))];exact (f2 b hb).1,(f2 b hb).2⟩
 have hob:∀ b∈fp,∃ o,(s2.heap.push Lz).get? b=some o:=λb hb=>by
  obtain ⟨o,q,_⟩:=ob2 b hb;exact ⟨o,Heap.get?_push_of_some _ q⟩
 refine wpAny_newFunctionEnv S.nocell (λy hy=>absurd hy (by simp)) (λh1 hn1 hs1=>?_) S.kind;obtain ⟨hl,hY0⟩:=h0 pins σ H2 s2 σY I2 hσ;have k23:∀ b o,s2.heap.get? b=some o->(s2.heap.push Lz).get? b=some o:=λb o q=>Heap.get?_push_of_some _ q;have k34:∀ b o,(s2.heap.push Lz).get? b=some o->h1.get? b=some o:=λb o q=>(hs1.2 b (Nat.ne_of_lt (Heap.lt_size q))).trans (Heap.get?_push_of_some _ q)
 have I4:=Xa (scope:=scope) (cl:=cl) (NY:=NY) (fp:=fp) (h1:=h1) (t:=s2.toks) (σY:=σY) I3 S hfp hob hn1 k34 hl λi x v e1 e2=>by
  obtain ⟨c,u,k,q,r,o,z1,z2⟩:=hY0 i x v e1 e2;exact ⟨c,u,k,q,r,o,k23 _ _ z1,z2⟩
 have st4:tn 0 h1:=T.keep _ _ _ st2 λb hb o q=>k34 _ _ (k23 _ _ q);have fr4:∀ b∈fp,(upd H2 s2.heap.objs.size (.lst [])) b=none:=λb hb=>(hfp b hb).1;obtain ⟨hg,ht,he⟩:=hY (pz s2) (upd H2 s2.heap.objs.size (.lst [])) fp;have okY:=I4.ok
 have statY:∀ {H':Hp},(∀ b∈fp,H' b=none)->∀ b∈fp,xF (Xz X scope cl NY s2 H2 fp) [] H' b :=
  λhn b hb=>⟨hn b hb,(okY.exf b hb).1,okY.exfs b hb,.inl hb,(okY.exf b hb).2,λp hp=>absurd hp (by simp)⟩
 have loop:codeAny (model X.prog X.w) X.A (.compLoop (.ListComp elt [⟨tg,iter,[tst],0⟩] scope pos) 0 (.ref it) (.ref s2.heap.objs.size) (compEnvC scope cl (s2.heap.push Lz).objs.size X.env))
   (compPost (model X.prog X.w) X.A X.xe use R (.ref s2.heap.objs.size) (s2.heap.push Lz).objs.size) { s2 with heap:=h1,toks:=s2.toks }:=by
  refine Y9 (λn s'=>∃ i σ' H',Inv (Xz X scope cl NY s2 H2 fp) [] σ' H' s'/\tn i s'.heap/\(∀ b∈fp,H' b=none)/\W i n σ' H') ?_ m0 ⟨0,σY,_,I4,st4,fr4,w0⟩;rintro n s5 ⟨i,σ5,H5,I5,st5,fr5,w5⟩;rcases turn i n σ5 H5 w5 with ⟨stop,q⟩ | ⟨go,N,hN,step⟩
  ·refine thn (T.done (Xz X scope cl NY s2 H2 fp) rfl rfl rfl hc i [] s5 σ5 H5 _ I5 (statY fr5) st5 stop) λr s6 ⟨hr,I6⟩=>?_
   subst hr;obtain ⟨m,hm,_⟩:=I6.loc;refine fin _ _ H5 s6 ⟨⟨m,hm⟩,I6.free,Ne.symm (Nat.ne_of_lt I3.lt),I3.sz,λx c z=>?_,λp hp=>?_,λh' hs'=>Yn I3 hfp I6 hs'⟩ q
   ·obtain ⟨_,o,z1,_⟩:=I3.cell x c z
    exact Nat.ne_of_lt (Heap.lt_size z1)
   ·exact Nat.ne_of_lt (Heap.lt_size (I3.pin p hp).1)
  ·refine thn (T.item (Xz X scope cl NY s2 H2 fp) rfl rfl rfl hc i [] s5 σ5 H5 _ I5 (statY fr5) st5 go) λr s6 ⟨u,hr,h6⟩=>?_
   subst hr;refine thn h6 λ_ s7 ⟨x,H7,I7,r7,y7,st7,fr7⟩=>?_;have I7':=I7.pinned (statY fr7) (T.obj _ _ st7);refine thn (hg _ s7 σ5 H7 x u _ I7' r7 (step x H7 y7)) λ_ s8 ⟨σ8,H8,I8,q8⟩=>?_
   have pk:∀ {H':Hp} {s':Sh} {σ':St},Inv (Xz X scope cl NY s2 H2 fp) ([]++Yd fp s7.heap) σ' H' s'->tn (i+1) s'.heap/\∀ b∈fp,H' b=none:=λI'=>by
    refine ⟨T.keep _ _ _ st7 λb hb o q=>(I'.pin (b,o) (q2y _ (q2y _ (yG hb q)))).1,λb hb=>?_⟩;obtain ⟨o,q,d⟩:=T.obj _ _ st7 b hb;exact (I'.pin (b,o) (q2y _ (q2y _ (yG hb q)))).2.1
   refine thn (ht _ s8 σ8 H8 _ I8 q8) λbb s8' ⟨H8',I8',q8'⟩=>?_
   cases bb with
   | false =>
    have q8':=(show N σ8 H8' by simpa using q8');obtain ⟨m',hm,w10⟩:=hN _ _ q8';exact ⟨m',hm,i+1,σ8,_,I8'.unpinned,(pk I8').1,(pk I8').2,w10⟩
   | true =>
    have q8':=(show te σ8 H8' _ by simpa using q8');refine thn (he _ s8' σ8 H8' _ I8' q8') λz s9 ⟨v9,H9,I9,r9,xs,hx9,hz9,n9⟩=>?_;refine thn (xz _ s9 σ8 H9 (.ref s2.heap.objs.size) [v9] (.ref s2.heap.objs.size) [z] (λ_ H'=>H'=upd H9 s2.heap.objs.size (.lst (xs++[v9]))) I9 rfl (.cons r9 .nil) ⟨s2.heap.objs.size,xs,v9,rfl,rfl,hx9,hz9,rfl⟩) λy s10 ⟨v10,H10,I10,_,e10⟩=>?_;subst e10;obtain ⟨m',hm,w10⟩:=hN _ _ n9;exact ⟨m',hm,i+1,σ8,_,I10.unpinned,(pk I10).1,(pk I10).2,w10⟩
 exact codeAny_compStart_list loop (T.self _ 0 _ _ _ st4 loop)
def pe_compF0 {iter elt tst:Expr} {scope:Scope} {pos:Pos} {cl:List (Str×Ad)} {NY:Jf} {wi:TI} {g:TG} {tt:TT} {te:TE} {σ0:St->Hp->St->Prop} (hc:X.calm=true) (S:Sees X scope cl) (hi:PI X tg iter wi)
  (hY:∀ (s3:Sh) (H3:Hp) (fp:Jg),PG (X.comp scope cl NY s3 H3 fp) tg g/\PT (X.comp scope cl NY s3 H3 fp) tst tt/\PE (X.comp scope cl NY s3 H3 fp) elt te)
  (h0:∀ (pins:Jc) (σ:St) (H:Hp) (s3:Sh) (σY:St),Inv X pins σ H s3->σ0 σ H σY->σY.length=NY.length/\∀ (i:Nat) (x:Str) (v:V),NY[i]?=some x->σY[i]?=some (some v) ->
   ∃ c u,(((compEnvC scope cl 0 X.env).kindOf x=some .cell∨(compEnvC scope cl 0 X.env).kindOf x=some .free))/\cl.lookup x=some c/\RelV v u/\s3.heap.IsCell c (some u))
  (hs:∀ x,foldedSetIterable iter X.env x=pure x:=by intro _;rfl) :
  PE X (.ListComp elt [⟨tg,iter,[tst],0⟩] scope pos) (tCompF wi g tt te σ0):=by
 intro pins s σ H Q I h;rw [eval_ListComp];refine zbw (use:=none) hc S hi hY h0 hs I h λC D H5 s6 e q=>?_;obtain ⟨m,hm⟩:=e.ns;exact ⟨m,hm,λh' hs'=>⟨.ref D,H5,e.inv h' hs',rfl,q⟩⟩
end
abbrev tCompFC (wi:TI) (g:TG) (tt:TT) (te:TE) (cap:List (Option Nat)):TE:=tCompF wi g tt te λσ _ σY=>σY=capt cap σ
section
variable {X:Cx} {tg:Expr}
def zap {iter elt tst:Expr} {scope:Scope} {pos:Pos} {wi:TI} {g:TG} {tt:TT} {te:TE} (NY:Jf) (cap:List (Option Nat)) (hc:X.calm=true) (hk:Ya X scope=true) (hcap:Yu X scope NY cap=true) (hi:PI X tg iter wi)
  (hY:∀ (s3:Sh) (H3:Hp) (fp:Jg),PG (X.comp scope (xV X.env scope) NY s3 H3 fp) tg g/\PT (X.comp scope (xV X.env scope) NY s3 H3 fp) tst tt/\PE (X.comp scope (xV X.env scope) NY s3 H3 fp) elt te)
  (hs:∀ x,foldedSetIterable iter X.env x=pure x:=by intro _;rfl):PE X (.ListComp elt [⟨tg,iter,[tst],0⟩] scope pos) (tCompFC wi g tt te cap):=by
 intro pins s σ H Q I h;have S:=xX I.ok hk;refine pe_compF0 (NY:=NY) hc S hi hY (λpins σ H s3 σY I3 e=>?_) hs pins s σ H Q I h;subst e;exact Zt I3 (xX I3.ok hk) hcap
end
def za7 {lo:Int} {n:Nat} {D:Ad} {g:TG} {tt:TT} {te:TE} {σY:St} {H1:Hp} {Q:VK} (Pv:Nat->St->Hp->Prop) (h0:Pv 0 σY H1)
  (hs:∀ i σ H,i<n->Pv i σ H->g (.int (lo+i)) σ H λσ3 H3=>tt σ3 H3 λb H4=>if b=true then te σ3 H4 λv H5=>∃ ys,H5 D=some (.lst ys)/\ys.length<sizeLine/\Pv (i+1) σ3 (upd H5 D (.lst (ys++[v]))) else Pv (i+1) σ3 H4) (hd:∀ σ H,Pv n σ H->Q (.ref D) H) :
  CompWF (Itr lo n) g tt te σY H1 D Q:=by
 refine ⟨λi m σ H=>m=n-i/\i<=n/\Pv i σ H,⟨n,by simp,Nat.zero_le _,h0⟩,?_⟩;rintro i m σ H ⟨rfl,hi,p⟩;by_cases hlt:i<n
 ·refine .inr ⟨hlt,Pv (i+1),λσ' H' p'=>⟨n-(i+1),by omega,rfl,hlt,p'⟩,λx H' y=>?_⟩
  obtain ⟨e,y⟩:=y;subst e y;exact hs i σ _ hlt p
 ·have e:i=n:=by omega
  subst e;exact .inl ⟨Nat.le_refl _,hd σ H p⟩
section
variable {prog:Program} {w:World} {A:Around} {s:Sh}
end
section
variable {prog:Program} {w:World} {A:Around} {E:Ja} {s:Sh}
end
section
variable {X:Cx} {e:Expr} {te:TE} {p p' pos pos':Pos}
end
end L2
namespace L2
open PySem PySem.Spec PyProof.Rows PyProof
section
variable {X:Cx}
def zbb:Zh X (.type "range") (λxs H Q=>∃ j:Int,xs=[.int j]/\∀ l,H l=none->Q (.ref l) (upd H l (.rng 0 j))):=by
 intro pins s σ H xs us Q I r h;obtain ⟨j,rfl,q⟩:=h;obtain ⟨u,rfl,rx⟩:=vals1 r;obtain ⟨t,rfl⟩:=rx;refine call_range_1 ?_;exact ⟨.ref s.heap.objs.size,_,I.laid (λb o e=>Heap.get?_push_of_some _ e) (Nat.le_refl _) (show ObjOk X.prog X.w _ _ _ (.rng 0 j) from ⟨_,_,_,Heap.get?_push_size _ rfl⟩),rfl,q _ (I.hok.fresh (Nat.le_refl _))⟩
def xQ (n:Nat):Jb:=(List.range n).map Int.ofNat
theorem vals_upto:∀ (n:Nat) (us:Jd),us.length=n->(∀ (i:Nat) (v:Vl),us[i]?=some v->∃ t,v=Value.int (0+(i:Nat)*1) t)->Vals ((xQ n).map V.int) us:=by
 intro n
 induction n with
 | zero=>intro us hl _;cases us with
  | nil=>exact .nil
  | cons _ _=>cases hl
 | succ n ih =>
  intro us hl h;obtain ⟨ini,last,rfl⟩:∃ ini last,us=ini++[last]:=⟨us.dropLast,us.getLast (by intro e;rw [e] at hl;cases hl),(List.dropLast_concat_getLast _).symm⟩;have hi:ini.length=n:=by rw [Jj] at hl;simpa using hl
  have e:xQ (n+1)=xQ n++[(n:Int)]:=by unfold xQ;rw [List.range_succ,Jk];rfl
  rw [e,Jk];refine (ih ini hi λi v hv=>?_).append (.cons ?_ .nil)
  ·have:i<ini.length:=(List.getElem?_eq_some_iff.mp hv).1
   exact h i v (by rw [q4x this];exact hv)
  ·obtain ⟨t,rfl⟩:=h n last (by rw [List.getElem?_append_right (by omega),hi,Nat.sub_self];rfl)
   exact ⟨t,by show Value.int (0+(n:Int)*1) t=Value.int n t;congr 1;omega⟩
def Xo (hc:X.calm=true):Zh X (.type "list") (λxs H Q=>∃ (p:Ad) (n:Nat),xs=[.ref p]/\H p=some (.rng 0 n)/\n<=1000/\∀ l,H l=none->Q (.ref l) (upd H l (.lst ((xQ n).map V.int)))):=by
 intro pins s σ H xs us Q I r h;obtain ⟨p,n,rfl,hp,hn,q⟩:=h;obtain ⟨u,rfl,rx⟩:=vals1 r;cases rx;obtain ⟨t,u,v,e⟩:=I.hok p _ hp;have hs:Builtin.Range.small 0 (n:Int) 1=true:=small_one (by omega) (by omega) (by omega) (by omega);have hz:Builtin.Range.rangeSize 0 (n:Int) 1=n:=by rw [rangeSize_one];split <;> omega
 have SL:(1000:Nat)<=sizeLine:=by decide
 refine call_list_range (I.ok.hd hc) e hs hz (by omega) λh' tk acc c' hk hS ha=>?_;refine ⟨.ref s.heap.objs.size,_,I.laid (t':=tk) hk (Nat.le_refl _) (show ObjOk X.prog X.w _ h' _ (.lst ((xQ n).map V.int)) from ⟨?_,acc.toList,c',vals_upto n acc.toList ?_ ?_,?_⟩),rfl,q _ (I.hok.fresh (Nat.le_refl _))⟩
 ·rw [Ji];unfold xQ;rw [Ji,List.length_range];omega
 ·simpa using ha.1
 ·intro i v hv
  exact ha.2 i v (by simpa using hv)
 ·simpa using hS
end
end L2
namespace L2
open PySem PySem.Spec PyProof.Rows
section
variable {X:Cx}
end
end L2
namespace L2
open PySem
namespace Hd
variable {B:Hp} {L:Jm} {H H' J:Hp} {a b:Ad} {o o':HO}
def grow (h:Hd B L H) (n:H a=none):Hd (upd B a o) L (upd H a o):=by
 refine ⟨h.nd,λp q=>?_,λp q=>?_,λb u z=>?_⟩
 ·rw [zk (zp (h.st p q) n)];exact h.nw p q
 ·rw [zk (zp (h.st p q) n)];exact h.st p q
 ·by_cases e:b=a
  ·subst e;rw [zf] at z ⊢;exact z
  ·rw [zk e] at z ⊢;exact h.sm _ _ z
def adopt (m:Hd B L H) (h:Hd H [(a,o)] J):Hd (upd B a o) L J:=by
 have na:H a=none:=h.nw _ (List.mem_singleton.mpr rfl);refine ⟨m.nd,λp q=>?_,λp q=>h.sm _ _ (m.st p q),λb u z=>?_⟩
 ·rw [zk (zp (m.st p q) na)];exact m.nw p q
 ·by_cases e:b=a
  ·subst e;rw [zf] at z;cases z;exact h.get 0 rfl
  ·rw [zk e] at z;exact h.sm _ _ (m.sm _ _ z)
def settle (m:Hd B ((a,o)::L) H):Hd (upd B a o) L H:=by
 have h:=m.tl;have na:a ∉ L.map Prod.fst:=(List.nodup_cons.mp m.nd).1;refine ⟨h.nd,λp q=>?_,h.st,λb u z=>?_⟩
 ·rw [zk (λe=>na (by rw [← e];exact List.mem_map_of_mem q))];exact h.nw p q
 ·by_cases e:b=a
  ·subst e;rw [zf] at z;cases z;exact m.get 0 rfl
  ·rw [zk e] at z;exact m.sm _ _ z
def settled (m:Hd B ((a,o)::L) H):Same B (upd B a o):=zi (Same.refl _) (m.nw (a,o) (q1z ..))
def waste (h:Hd B L H) (n:H a=none):Hd B L (upd H a o):=h.same (zi (Same.refl _) n)
def fnew {p:Ad×HO} (h:Hd B (p::L) H) (n:H a=none):Hd B (p::(a,o)::L) (upd H a o):=(h.new n).perm (List.Perm.swap _ _ _)
def fput (h:Hd B ((a,o)::L) H):Hd B ((a,o')::L) (upd H a o'):=h.put 0 rfl
end Hd
namespace Hd
variable {B:Hp} {L L2:Jm} {H H' J:Hp} {a b:Ad} {o o':HO}
def mv {p:Ad×HO} (k:Nat) (h:Hd B (p::L) H):Hd B (L.take k++p::L.drop k) H :=
 h.perm (by
  have e:(p::L).Perm (p::(L.take k++L.drop k)):=by rw [List.take_append_drop]
  exact e.trans List.perm_middle.symm)
def join (m:Hd B L H) (h:Hd H L2 J):Hd B (L++L2) J:=by
 refine ⟨?_,λp q=>?_,λp q=>?_,λb u z=>h.sm _ _ (m.sm _ _ z)⟩
 ·rw [Jk]
  refine List.nodup_append.mpr ⟨m.nd,h.nd,λx hx y hy e=>?_⟩;obtain ⟨p,hp,rfl⟩:=List.mem_map.mp hx;obtain ⟨q,hq,rfl⟩:=List.mem_map.mp hy;have:=m.st p hp;rw [e,h.nw q hq] at this;cases this
 ·rcases List.mem_append.mp q with q | q
  ·exact m.nw p q
  ·exact m.free (h.nw p q)
 ·rcases List.mem_append.mp q with q | q
  ·exact h.sm _ _ (m.st p q)
  ·exact h.st p q
theorem settles {S:Jm}:∀ {B:Hp},Hd B (S++L) H->∃ B',Same B B'/\(∀ p∈S,B' p.1=some p.2)/\Hd B' L H:=by
 induction S with
 | nil=>exact λ{B} h=>⟨B,Same.refl _,(λp m=>by cases m),h⟩
 | cons p S ih =>
  intro B h;obtain ⟨a,o⟩:=p;obtain ⟨B',s,e,h'⟩:=ih (Hd.settle h);refine ⟨B',(Hd.settled h).trans s,λp m=>?_,h'⟩;rcases List.mem_cons.mp m with rfl | m
  ·exact s _ _ zf
  ·exact e p m
end Hd
end L2
namespace L2
open PySem PySem.Spec PyProof.Rows
open Sem (wp)
section
variable {prog:Program} {w:World} {A:Around} {E:Ja} {s:Sh}
def nxt_tup {j t:Ad} {k:Nat} {us:Array Vl} {v:Vl} {Q:Ja} (hj:s.heap.IsTupleIter j t k) (ht:s.heap.IsTuple t us) (hv:us[k]?=some v)
  (q:∀ g,g.IsTupleIter j t (k+1)->Heap.SameBut j s.heap g->Q v { s with heap:=g }):wpAny (model prog w) A (Builtin.SmallTypes.nextOf (.ref j)) Q E s:=by
 have ty:=hj.typeIs;obtain ⟨o,eo,ec,ed⟩:=hj;obtain ⟨o2,eo2,_,m,ed2⟩:=ht;unfold Builtin.SmallTypes.nextOf;refine q0x (wpAny_callSpecial?_slot (name:=Str.ofString "__next__") ty F.slot_tuple_iterator_next (wpAny_call_entry F.slot_tuple_iterator_next ty F.entry_tuple_iterator_next ?_ (F.args_tuple_iterator_next_1 _)));refine q0x (m:=field (.ref j) 0) (wpAny_field eo ed (x:=.ref t) rfl ?_);show wpAny _ _ (if (Value.ref t == Value.none)=true then _ else _) _ _ s;rw [if_neg (show ¬ ((Value.ref t == Value.none)=true) from nofun)];refine q0x (m:=field (.ref j) 1) (wpAny_field eo ed (x:=.int k 0) rfl ?_);refine q0x (m:=seqItems? (.ref t)) (wpAny_seqItems eo2 ed2 ?_);simp only [q0z,hv];refine q0x (wpAny_setField eo ed (by simp) (q0y ⟨v,rfl,q0y (q _ ?_ (Heap.SameBut.update ..))⟩));exact ⟨_,Heap.get?_update_self _ eo (Obj.isFreed_of_fields (Obj.data_mapFields ed _)),(Obj.cls_mapFields ..).trans ec,by rw [Obj.data_mapFields ed];simp [rawInt]⟩
def zas {j t:Ad} {k:Nat} {us:Array Vl} {Q:Ja} (hh:A.handled=none) (hj:s.heap.IsTupleIter j t k) (ht:s.heap.IsTuple t us) (hv:us[k]?=none)
  (q:∀ g e,Heap.ExtBut j s.heap g->(∃ o,g.get? e=some o/\o.cls=.type "StopIteration")->E (.ref e) { s with heap:=g }):wpAny (model prog w) A (Builtin.SmallTypes.nextOf (.ref j)) Q E s:=by
 have ty:=hj.typeIs;obtain ⟨o,eo,ec,ed⟩:=hj;obtain ⟨o2,eo2,_,m,ed2⟩:=ht;unfold Builtin.SmallTypes.nextOf;refine q0x (wpAny_callSpecial?_slot (name:=Str.ofString "__next__") ty F.slot_tuple_iterator_next (wpAny_call_entry F.slot_tuple_iterator_next ty F.entry_tuple_iterator_next ?_ (F.args_tuple_iterator_next_1 _)));refine q0x (m:=field (.ref j) 0) (wpAny_field eo ed (x:=.ref t) rfl ?_);show wpAny _ _ (if (Value.ref t == Value.none)=true then _ else _) _ _ s;rw [if_neg (show ¬ ((Value.ref t == Value.none)=true) from nofun)];refine q0x (m:=field (.ref j) 1) (wpAny_field eo ed (x:=.int k 0) rfl ?_);refine q0x (m:=seqItems? (.ref t)) (wpAny_seqItems eo2 ed2 ?_);simp only [q0z,hv];refine q0x (wpAny_rule (q0x (wpAny_setField eo ed (by simp) (q0x (m:=newExc (.type "StopIteration") []) ?_))));simp only [newExc,newTuple];refine q0x (wpAny_newObj_type (q0x (m:=firstArgMember _ _) (wpAny_of_eq (a:=Value.none) (by first | rfl | (simp only [firstArgMember];rfl)) (wpAny_newObj_type ?_ (by size_fits)))) (by size_fits));simp only [raiseNew];refine q0x (wpAny_handled ?_)
 first | rw [show A.in1.handled=none from hh] | rw [hh]
 refine q0x (q0y (wpAny_throw ?_));exact q _ _ (((Heap.SameBut.update ..).extBut.push _).push _) ⟨_,Heap.get?_push_size _ rfl,rfl⟩
def zt_item {z TI TO j1 j2 t1 t2:Ad} {k1 k2:Nat} {us vs:Array Vl} {u v a b:Vl} {Q:Ja} (D:ZipApart z TI TO j1 j2 t1 t2) (hz:IsZip s.heap z TI TO .none) (hI:IsPair s.heap TI (.ref j1) (.ref j2)) (hO:IsPair s.heap TO a b)
  (i1:s.heap.IsTupleIter j1 t1 k1) (i2:s.heap.IsTupleIter j2 t2 k2) (e1:s.heap.IsTuple t1 us) (e2:s.heap.IsTuple t2 vs) (hu:us[k1]?=some u) (hv:vs[k2]?=some v)
  (q:∀ g,IsZip g z TI TO (rawInt s.heap.objs.size)->IsPair g TO u v->g.IsTupleIter j1 t1 (k1+1)->g.IsTupleIter j2 t2 (k2+1)->IsPair g s.heap.objs.size u v->g.objs.size=s.heap.objs.size+1->(∀ c o,c≠z->c≠TO->c≠j1->c≠j2->s.heap.get? c=some o->g.get? c=some o)->Q (.ref s.heap.objs.size) { s with heap:=g }) :
  wpAny (model prog w) A (Builtin.«zip.__next__» ⟨[.ref z],[]⟩) (λfin s'=>∃ v,fin=.done (.ret v)/\Q v s') E s:=by
 refine q0x (m:=field (.ref z) 2) (wpAny_field hz rfl (x:=.bool false) rfl ?_);refine q0x (m:=field (.ref z) 3) (wpAny_field hz rfl (x:=.ref TI) rfl (q0x (wpAny_seqItems hI rfl ?_)));refine q0x (m:=Builtin.SmallTypes.ownedTupleIsFree (.ref z)) ?_;unfold Builtin.SmallTypes.ownedTupleIsFree;refine q0x (wpAny_field hz rfl (x:=.none) rfl (q0y ?_));simp only [if_true];refine q0x (wpAny_rule (q0x (wpAny_field hz rfl (x:=.ref TO) rfl ?_)));refine q0x (wpAny_setField_rec hz (by simp) λg1 z1 c1=>q0x ?_);replace z1:IsZip g1 z TI TO .ellipsis:=z1;simp only [List.zipIdx_cons,List.zipIdx_nil,List.forIn_cons,List.forIn_nil];refine q0x (q0x (wpAny_onRaise ?_));refine q0x (m:=Builtin.SmallTypes.nextOf (.ref j1)) (nxt_tup (i1.extBut c1.extBut D.i1z) (e1.extBut c1.extBut D.l1z) hu λg2 n1 c2=>q0y ?_);have o2:IsPair g2 TO a b:=c2.extBut _ _ D.TOi1 (c1.extBut _ _ D.TOz hO);refine q0x (wpAny_seqItems o2 rfl (q0x (wpAny_updateSeq_pair o2 λg3 o3 c3=>?_)));replace o3:IsPair g3 TO u b:=o3;refine q0x (wpAny_letGo (q0y (q0x (q0x (wpAny_onRaise ?_)))));refine q0x (m:=Builtin.SmallTypes.nextOf (.ref j2)) (nxt_tup (((i2.extBut c1.extBut D.i2z).extBut c2.extBut D.i12.symm).extBut c3.extBut D.TOi2.symm) (((e2.extBut c1.extBut D.l2z).extBut c2.extBut D.l2i1).extBut c3.extBut D.l2TO) hv λg4 n2 c4=>q0y ?_);have o4:IsPair g4 TO u b:=c4.extBut _ _ D.TOi2 o3;refine q0x (wpAny_seqItems o4 rfl (q0x (wpAny_updateSeq_pair o4 λg5 o5 c5=>?_)));replace o5:IsPair g5 TO u v:=o5;refine q0x (wpAny_letGo (q0y (q0y (q0x (wpAny_seqItems o5 rfl (q0x (wpAny_newTuple ?_)))))));have sz:g5.objs.size=s.heap.objs.size:=by rw [c5.1,c4.1,c3.1,c2.1,c1.1]
 have z5:IsZip g5 z TI TO .ellipsis:=c5.extBut _ _ D.TOz.symm (c4.extBut _ _ D.i2z.symm (c3.extBut _ _ D.TOz.symm (c2.extBut _ _ D.i1z.symm z1)));have k5:∀ c o,c≠z->c≠TO->c≠j1->c≠j2->s.heap.get? c=some o->g5.get? c=some o:=λc o d1 d2 d3 d4 e=>c5.extBut _ _ d2 (c4.extBut _ _ d4 (c3.extBut _ _ d2 (c2.extBut _ _ d3 (c1.extBut _ _ d1 e))));have m1:g5.IsTupleIter j1 t1 (k1+1):=((n1.extBut c3.extBut D.TOi1.symm).extBut c4.extBut D.i12).extBut c5.extBut D.TOi1.symm;have m2:g5.IsTupleIter j2 t2 (k2+1):=n2.extBut c5.extBut D.TOi2.symm;have zl:z<g5.objs.size:=Heap.lt_size z5;refine q0x (m:=Builtin.SmallTypes.ownedTupleHandOut (.ref z) (.ref g5.objs.size)) ?_;unfold Builtin.SmallTypes.ownedTupleHandOut;have z6:IsZip (g5.push { cls:=.type "tuple",data:=.seq #[u,v] }) z TI TO .ellipsis:=Heap.get?_push_of_some _ z5;refine q0x (wpAny_setField_rec z6 (by simp) λg7 z7 c7=>?_);replace z7:IsZip g7 z TI TO (rawInt g5.objs.size):=z7;refine wpAny_setField_rec z7 (by simp) λg8 z8 c8=>?_;replace z8:IsZip g8 z TI TO (rawInt g5.objs.size):=z8;have up:∀ c o,c≠z->g5.get? c=some o->g8.get? c=some o:=λc o d e=>c8.extBut _ _ d (c7.extBut _ _ d (Heap.get?_push_of_some _ e));have T8:IsPair g8 g5.objs.size u v:=c8.extBut _ _ (Nat.ne_of_gt zl) (c7.extBut _ _ (Nat.ne_of_gt zl) (Heap.get?_push_size _ rfl));have s8:g8.objs.size=g5.objs.size+1:=by rw [c8.1,c7.1,Heap.size_push]
 rw [sz] at z8 T8 s8;refine q0y ⟨_,rfl,?_⟩;show Q (.ref g5.objs.size) _;rw [sz];exact q g8 z8 (up _ _ D.TOz o5) (m1.at λo e=>up _ o D.i1z e) (m2.at λo e=>up _ o D.i2z e) T8 s8 λc o d1 d2 d3 d4 e=>up c o d1 (k5 c o d1 d2 d3 d4 e)
def zt_end {z TI TO j1 j2 t1 t2:Ad} {k1 k2:Nat} {us vs:Array Vl} {a b:Vl} {Q:Fin->Sh->Prop} (hh:A.handled=none) (D:ZipApart z TI TO j1 j2 t1 t2) (hz:IsZip s.heap z TI TO .none) (hI:IsPair s.heap TI (.ref j1) (.ref j2)) (hO:IsPair s.heap TO a b)
  (i1:s.heap.IsTupleIter j1 t1 k1) (i2:s.heap.IsTupleIter j2 t2 k2) (e1:s.heap.IsTuple t1 us) (e2:s.heap.IsTuple t2 vs) (he:us[k1]?=none)
  (q:∀ g e,(∀ c o,c≠z->c≠TO->c≠j1->c≠j2->s.heap.get? c=some o->g.get? c=some o)->(∃ o,g.get? e=some o/\o.cls=.type "StopIteration")->E (.ref e) { s with heap:=g }) :
  wpAny (model prog w) A (Builtin.«zip.__next__» ⟨[.ref z],[]⟩) Q E s:=by
 refine q0x (m:=field (.ref z) 2) (wpAny_field hz rfl (x:=.bool false) rfl ?_);refine q0x (m:=field (.ref z) 3) (wpAny_field hz rfl (x:=.ref TI) rfl (q0x (wpAny_seqItems hI rfl ?_)));refine q0x (m:=Builtin.SmallTypes.ownedTupleIsFree (.ref z)) ?_;unfold Builtin.SmallTypes.ownedTupleIsFree;refine q0x (wpAny_field hz rfl (x:=.none) rfl (q0y ?_));simp only [if_true];refine q0x (wpAny_rule (q0x (wpAny_field hz rfl (x:=.ref TO) rfl ?_)));refine q0x (wpAny_setField_rec hz (by simp) λg1 z1 c1=>q0x ?_);replace z1:IsZip g1 z TI TO .ellipsis:=z1;simp only [List.zipIdx_cons,List.zipIdx_nil,List.forIn_cons,List.forIn_nil];refine q0x (q0x (wpAny_onRaise ?_));refine q0x (m:=Builtin.SmallTypes.nextOf (.ref j1)) (zas hh (i1.extBut c1.extBut D.i1z) (e1.extBut c1.extBut D.l1z) he λg2 e c2 ⟨oe,ho,hc⟩=>?_);have z2:IsZip g2 z TI TO .ellipsis:=c2 _ _ D.i1z.symm z1;have ne:e≠z:=λx=>by subst x;rw [z2] at ho;cases ho;simp at hc
 exact wpAny_setField_rec z2 (by simp) λg3 _ c3=>q g3 e (λc o d1 _ d3 _ x=>c3.extBut _ _ d1 (c2 _ _ d3 (c1.extBut _ _ d1 x))) ⟨oe,c3.extBut _ _ ne ho,hc⟩
def next_zt {z TI TO j1 j2 t1 t2:Ad} {k1 k2:Nat} {us vs:Array Vl} {u v a b:Vl} {Q:Je->Sh->Prop} (D:ZipApart z TI TO j1 j2 t1 t2) (hz:IsZip s.heap z TI TO .none) (hI:IsPair s.heap TI (.ref j1) (.ref j2)) (hO:IsPair s.heap TO a b)
  (i1:s.heap.IsTupleIter j1 t1 k1) (i2:s.heap.IsTupleIter j2 t2 k2) (e1:s.heap.IsTuple t1 us) (e2:s.heap.IsTuple t2 vs) (hu:us[k1]?=some u) (hv:vs[k2]?=some v)
  (q:∀ g,IsZip g z TI TO (rawInt s.heap.objs.size)->IsPair g TO u v->g.IsTupleIter j1 t1 (k1+1)->g.IsTupleIter j2 t2 (k2+1)->IsPair g s.heap.objs.size u v->g.objs.size=s.heap.objs.size+1->(∀ c o,c≠z->c≠TO->c≠j1->c≠j2->s.heap.get? c=some o->g.get? c=some o)->Q (some (.ref s.heap.objs.size)) { s with heap:=g }) :
  wpAny (model prog w) A (pyNext (.ref z)) Q E s:=by
 have ty:s.TypeIs (.ref z) "zip":=⟨_,hz,rfl⟩;unfold pyNext;exact q0x (wpAny_attempt (wpAny_callSpecial?_slot (name:=Str.ofString "__next__") ty F.slot_zip_next (wpAny_call_entry F.slot_zip_next ty F.entry_zip_next (zt_item D hz hI hO i1 i2 e1 e2 hu hv λg a1 a2 a3 a4 a5 a6 a7=>q0y (q g a1 a2 a3 a4 a5 a6 a7)) (F.args_zip_next_1 _))))
def zau {z TI TO j1 j2 t1 t2:Ad} {k1 k2:Nat} {us vs:Array Vl} {a b:Vl} {Q:Je->Sh->Prop} (hh:A.handled=none) (D:ZipApart z TI TO j1 j2 t1 t2) (hz:IsZip s.heap z TI TO .none) (hI:IsPair s.heap TI (.ref j1) (.ref j2)) (hO:IsPair s.heap TO a b)
  (i1:s.heap.IsTupleIter j1 t1 k1) (i2:s.heap.IsTupleIter j2 t2 k2) (e1:s.heap.IsTuple t1 us) (e2:s.heap.IsTuple t2 vs) (he:us[k1]?=none)
  (q:∀ g,(∀ c o,c≠z->c≠TO->c≠j1->c≠j2->s.heap.get? c=some o->g.get? c=some o)->Q none { s with heap:=g }):wpAny (model prog w) A (pyNext (.ref z)) Q E s:=by
 have ty:s.TypeIs (.ref z) "zip":=⟨_,hz,rfl⟩;unfold pyNext;refine q0x (wpAny_attempt (wpAny_callSpecial?_slot (name:=Str.ofString "__next__") ty F.slot_zip_next (wpAny_call_entry F.slot_zip_next ty F.entry_zip_next (zt_end hh D hz hI hO i1 i2 e1 e2 he λg e hk ⟨o,ho,hc⟩=>?_) (F.args_zip_next_1 _))));exact q0x (wpAny_isInstance (T:="StopIteration") (b:=true) ⟨o,ho,hc⟩ isSubtype_stop (q0y (q _ hk)))
abbrev zt1 (h:Heap) (t1:Ad):Heap:=h.push { cls:=.type "tuple_iterator",data:=.fields #[.ref t1,.int 0 0] }
abbrev zt2 (h:Heap) (t1 t2:Ad):Heap:=(zt1 h t1).push { cls:=.type "tuple_iterator",data:=.fields #[.ref t2,.int 0 0] }
abbrev zt3 (h:Heap) (t1 t2:Ad):Heap:=(zt2 h t1 t2).push { cls:=.type "tuple",data:=.seq #[.ref h.objs.size,.ref (zt1 h t1).objs.size] }
abbrev zt4 (h:Heap) (t1 t2:Ad):Heap:=(zt3 h t1 t2).push { cls:=.type "tuple",data:=.seq #[.none,.none] }
abbrev zt5 (h:Heap) (t1 t2:Ad):Heap:=(zt4 h t1 t2).push { cls:=.type "zip",data:=.fields #[.none,.bool false,.bool false,.ref (zt2 h t1 t2).objs.size,.ref (zt3 h t1 t2).objs.size] }
def meets_zt (t1 t2:Ad) (us vs:Array Vl):Meets (Builtin.«zip.__new__» ⟨[.type "zip",.ref t1,.ref t2],[]⟩) (λ_ R s=>s.heap.IsTuple t1 us/\s.heap.IsTuple t2 vs/\R (.ok (.ret (.ref (zt4 s.heap t1 t2).objs.size))) { s with heap:=zt5 s.heap t1 t2 }) :=
 .of_wp λprog w A R s h=>by
  obtain ⟨hp,g,d,tk,os⟩:=s;obtain ⟨x1,x2,h⟩:=h;have hsub:=sub_zip;have y1:Heap.IsTuple (Shared.heap ⟨hp,g,d,tk,os⟩) t1 us:=x1;have y2:Heap.IsTuple (Shared.heap ⟨hp.push { cls:=.type "tuple_iterator",data:=.fields #[.ref t1,.int 0 0] },g,d,tk,os⟩) t2 vs:=Heap.IsTuple.push x2 _
  wp_walk using wpAny_pyIter_tuple y1,wpAny_pyIter_tuple y2
  exact ⟨_,rfl,h⟩
def call_zt {t1 t2:Ad} {us vs:Array Vl} {Q:Ja} (x1:s.heap.IsTuple t1 us) (x2:s.heap.IsTuple t2 vs)
  (q:∀ g,IsZip g (s.heap.objs.size+4) (s.heap.objs.size+2) (s.heap.objs.size+3) .none->IsPair g (s.heap.objs.size+2) (.ref s.heap.objs.size) (.ref (s.heap.objs.size+1))->IsPair g (s.heap.objs.size+3) .none .none->g.IsTupleIter s.heap.objs.size t1 0->g.IsTupleIter (s.heap.objs.size+1) t2 0->(∀ c o,s.heap.get? c=some o->g.get? c=some o)->Q (.ref (s.heap.objs.size+4)) { s with heap:=g }) :
  wpAny (model prog w) A (call (.type "zip") [.ref t1,.ref t2]) Q E s:=by
 refine callType_new F.called_zip (by decide) (F.typeCall_zip_2 _ _) (F.newCall_zip_2 _ _) (λobj=>F.args_object_init_3 obj _ _) F.entry_zip_new (meets_zt t1 t2 us vs) ⟨x1,x2,?_⟩;have z1:(zt1 s.heap t1).objs.size=s.heap.objs.size+1:=Heap.size_push ..;have z2:(zt2 s.heap t1 t2).objs.size=s.heap.objs.size+2:=by rw [Heap.size_push,z1]
 have z3:(zt3 s.heap t1 t2).objs.size=s.heap.objs.size+3:=by rw [Heap.size_push,z2]
 have z4:(zt4 s.heap t1 t2).objs.size=s.heap.objs.size+4:=by rw [Heap.size_push,z3]
 have up:∀ {h:Heap} {c:Ad} {o o':Obj},h.get? c=some o->(h.push o').get? c=some o:=λe=>Heap.get?_push_of_some _ e;have g5:(zt5 s.heap t1 t2).get? (zt4 s.heap t1 t2).objs.size=some _:=Heap.get?_push_size _ rfl;have g4:(zt5 s.heap t1 t2).get? (zt3 s.heap t1 t2).objs.size=some _:=up (Heap.get?_push_size _ rfl);have g3:(zt5 s.heap t1 t2).get? (zt2 s.heap t1 t2).objs.size=some _:=up (up (Heap.get?_push_size _ rfl));have g2:(zt5 s.heap t1 t2).get? (zt1 s.heap t1).objs.size=some _:=up (up (up (Heap.get?_push_size _ rfl)));have g1:(zt5 s.heap t1 t2).get? s.heap.objs.size=some _:=up (up (up (up (Heap.get?_push_size _ rfl))));show _/\_;rw [z2,z3,z4] at g5;rw [z1,z2] at g3;rw [z3] at g4;rw [z1] at g2;rw [z4];exact ⟨⟨_,g5,rfl⟩,q _ g5 g3 g4 ⟨_,g1,rfl,rfl⟩ ⟨_,g2,rfl,rfl⟩ λc o x=>up (up (up (up (up x))))⟩
end
def Itzt (K:Fg) (l1 l2:Ad):It :=
  ⟨λi H=>∃ xs ys x y,SqT K H l1 xs/\SqT K H l2 ys/\xs[i]?=some x/\ys[i]?=some y,
   λi H x H'=>∃ T u v,x=.ref T/\H T=none/\H'=upd H T (.tup [u,v])/\∀ xs ys,SqT K H l1 xs->SqT K H l2 ys->xs[i]?=some u/\ys[i]?=some v,
   λi H=>∃ xs ys,SqT K H l1 xs/\SqT K H l2 ys/\xs.length<=i⟩
def turn_zt {P:Program} {w:World} {K:Fg} {es:Jh} {kt:Nat} {pos:Pos} {z TI TO i1 i2 l1 l2:Ad} (D:ZipApart z TI TO i1 i2 l1 l2) :
  Turn P w K (.Tuple es kt pos) (Itzt K l1 l2) [z,TI,TO,i1,i2] z (λi h=>IsZip h z TI TO .none/\IsPair h TI (.ref i1) (.ref i2)/\(∃ a b,IsPair h TO a b)/\h.IsTupleIter i1 l1 i/\h.IsTupleIter i2 l2 i) where
 mem:=by simp
 obj:=λi h st b hb=>by
  obtain ⟨hz,hI,⟨a,b',hO⟩,⟨o1,e1,c1,d1⟩,⟨o2,e2,c2,d2⟩⟩:=st;simp at hb;rcases hb with rfl | rfl | rfl | rfl | rfl
  ·exact ⟨_,hz,λv q=>by cases q⟩
  ·exact ⟨_,hI,λv q=>by cases q⟩
  ·exact ⟨_,hO,λv q=>by cases q⟩
  ·exact ⟨_,e1,λv q=>by rw [d1] at q;cases q⟩
  ·exact ⟨_,e2,λv q=>by rw [d2] at q;cases q⟩
 keep:=λi h h' st k=>by
  obtain ⟨hz,hI,⟨a,b',hO⟩,h1,h2⟩:=st;exact ⟨k z (by simp) _ hz,k TI (by simp) _ hI,⟨a,b',k TO (by simp) _ hO⟩,h1.at λo e=>k i1 (by simp) o e,h2.at λo e=>k i2 (by simp) o e⟩
 item:=by
  intro X hP hw hK hc i pins s σ H E I hf st hg;subst hP hw hK;obtain ⟨hz,hI,⟨a,b',hO⟩,h1,h2⟩:=st;obtain ⟨xs,ys,x,y,q1,q2,ex,ey⟩:=hg;obtain ⟨is1,r1,p1,_⟩:=I.tuple q1;obtain ⟨is2,r2,p2,_⟩:=I.tuple q2;obtain ⟨u,hu,ru⟩:=r1.get ex;obtain ⟨v,hv,rv⟩:=r2.get ey;refine next_zt D hz hI hO h1 h2 (show s.heap.IsTuple l1 is1.toArray from p1) (show s.heap.IsTuple l2 is2.toArray from p2) (u:=u) (v:=v) (by simpa using hu) (by simpa using hv) λh1' a1 a2 a3 a4 a5 a6 hk=>?_;refine ⟨_,rfl,wpAny_letOwnedTupleGo_zip (s:={ s with heap:=h1' }) a1 λh2' z' sb=>?_⟩;have lt:∀ {c:Ad} {o:Obj},s.heap.get? c=some o->c≠s.heap.objs.size:=λe=>Nat.ne_of_lt (Heap.lt_size e);have Tz:s.heap.objs.size≠z:=(lt hz).symm;have fr:=I.hok.fresh (Nat.le_refl _);refine ⟨.ref s.heap.objs.size,upd H s.heap.objs.size (.tup [x,y]),I.turnedT (its:=[z,TI,TO,i1,i2]) (t':=s.toks) (λb o nb e=>?_) hf (Nat.le_refl _) ⟨by show 2<=sizeLine;decide,[u,v],.cons ru (.cons rv .nil),_,sb.extBut _ _ Tz a5,rfl,_,rfl⟩,rfl,⟨s.heap.objs.size,x,y,rfl,fr,rfl,λxs' ys' q1' q2'=>?_⟩,?_,λb hb=>?_⟩
  ·have nb':b≠z/\b≠TI/\b≠TO/\b≠i1/\b≠i2:=by simpa using nb
   exact sb.extBut _ _ nb'.1 (hk b o nb'.1 nb'.2.2.1 nb'.2.2.2.1 nb'.2.2.2.2 e)
  ·rw [I.tuple_inj q1' q1,I.tuple_inj q2' q2];exact ⟨ex,ey⟩
  ·exact ⟨z',sb.extBut _ _ D.TIz (hk _ _ D.TIz D.TITO D.TIi1 D.TIi2 hI),⟨_,_,sb.extBut _ _ D.TOz a2⟩,a3.extBut sb.extBut D.i1z,a4.extBut sb.extBut D.i2z⟩
  ·have e:=(hf b hb).1
   have:∃ o,s.heap.get? b=some o:=by
    simp at hb;rcases hb with rfl | rfl | rfl | rfl | rfl
    ·exact ⟨_,hz⟩
    ·exact ⟨_,hI⟩
    ·exact ⟨_,hO⟩
    ·obtain ⟨o,e,_⟩:=h1;exact ⟨o,e⟩
    ·obtain ⟨o,e,_⟩:=h2;exact ⟨o,e⟩
   obtain ⟨o,eo⟩:=this;rw [zk (lt eo)];exact e
 done:=by
  intro X hP hw hK hc i pins s σ H E I hf st hg;subst hP hw hK;obtain ⟨hz,hI,⟨a,b',hO⟩,h1,h2⟩:=st;obtain ⟨xs,ys,q1,q2,le⟩:=hg;obtain ⟨is1,r1,p1,_⟩:=I.tuple q1;obtain ⟨is2,r2,p2,_⟩:=I.tuple q2;have g1:=r1.length;have g2:=r2.length;refine zau (I.ok.hd hc) D hz hI hO h1 h2 (show s.heap.IsTuple l1 is1.toArray from p1) (show s.heap.IsTuple l2 is2.toArray from p2) (by simp;omega) λh1' hk=>⟨rfl,I.turnedL (its:=[z,TI,TO,i1,i2]) (t':=s.toks) (λb o nb e=>?_) hf⟩;have nb':b≠z/\b≠TI/\b≠TO/\b≠i1/\b≠i2:=by simpa using nb
  exact hk b o nb'.1 nb'.2.2.1 nb'.2.2.2.1 nb'.2.2.2.2 e
 self:=λ_ _ _ _ _ st h=>wpAny_pyIter_zip st.1 h
section
variable {X:Cx} {es:Jh} {kt:Nat} {tp:Pos}
end
def for_zt {K:Fg} {l1 l2:Ad} {xs ys:Jn} {g:TG} {tb:TS} {D:Ends} {σ:St} {H:Hp} (Pv:Nat->St->Hp->Prop) (h0:Pv 0 σ H) (hl:∀ i σ H,i<=xs.length->Pv i σ H->SqT K H l1 xs/\SqT K H l2 ys) (he:ys.length=xs.length)
  (hs:∀ i x y σ H T,xs[i]?=some x->ys[i]?=some y->Pv i σ H->H T=none->g (.ref T) σ (upd H T (.tup [x,y])) λσ2 H2=>tb { D with nx:=Pv (i+1),ct:=Pv (i+1),bk:=D.nx } σ2 H2) (hd:∀ σ H,Pv xs.length σ H->D.nx σ H) :
  tFor_S g tb D σ (Itzt K l1 l2) H:=by
 refine ⟨λi m σ H=>m=xs.length-i/\i<=xs.length/\Pv i σ H,⟨xs.length,by simp,Nat.zero_le _,h0⟩,?_⟩;rintro i m σ H ⟨rfl,hi,p⟩;obtain ⟨q1,q2⟩:=hl i σ H hi p;by_cases hlt:i<xs.length
 ·refine .inr ⟨⟨xs,ys,xs[i],ys[i],q1,q2,by simp [hlt],by simp [he,hlt]⟩,Pv (i+1),λσ' H' p'=>⟨xs.length-(i+1),by omega,rfl,hlt,p'⟩,λx H' y=>?_⟩
  obtain ⟨T,u,v,e,nT,e',y⟩:=y;subst e e';obtain ⟨y1,y2⟩:=y xs ys q1 q2;exact hs i u v σ H T y1 y2 p nT
 ·have e:i=xs.length:=by omega
  subst e;exact .inl ⟨⟨xs,ys,q1,q2,Nat.le_refl _⟩,hd σ H p⟩
section
variable {X:Cx} {es:Jh} {kt:Nat} {tp:Pos}
inductive iZb_S (K:Fg) (R:(It->Hp->Prop)) (vs:Jn) (H1:Hp):Prop
 | mk (l1 l2:_) (_:vs=[.ref l1,.ref l2]) (_:(((∃ xs,SqL K H1 l1 xs)/\(∃ ys,SqL K H1 l2 ys)/\R (Itz K l1 l2) H1)∨((∃ xs,SqT K H1 l1 xs)/\(∃ ys,SqT K H1 l2 ys)/\R (Itzt K l1 l2) H1)))
def iZb (K:Fg) (ta:TA):TI:=λσ H R=>ta σ H λvs H1=>iZb_S K R vs H1
def pi_zb {a b:Expr} {ta:TA} {p pos:Pos} (hg:Gl X "zip") (hm:X.mg "zip"=none) (ha:PA X [a,b] ta) (hs:starEach [a,b] X.env=[(false,eval a X.env),(false,eval b X.env)]:=by rfl)
  (hs2:starEach [b] X.env=[(false,eval b X.env)]:=by rfl):PI X (.Tuple es kt tp) (.Call (.Name "zip" p) [a,b] [] pos) (iZb X.K ta):=by
 intro pins s σ H R I h;refine Call_ (xD I hg hm boot_zip (PyProof.Rows.callWith_type1 (thn (ha pos pins s σ H _ I h) λus s1 ⟨vs,H1,I1,r1,q1⟩=>?_) (by rw [hs,hs2]) (by rw [hs2];rfl)));obtain ⟨l1,l2,e,q1⟩:=q1;subst e;obtain ⟨u,v,rfl,ru,rv⟩:=YD r1;cases (show u=Value.ref l1 from ru);cases (show v=Value.ref l2 from rv);have fp:∀ n,xF X pins H1 (s1.heap.objs.size+n):=λn=>I1.fpOk (Nat.le_add_right _ _) (I1.hok.fresh (Nat.le_add_right _ _))
 have fps:∀ b∈[s1.heap.objs.size+4,s1.heap.objs.size+2,s1.heap.objs.size+3,s1.heap.objs.size,s1.heap.objs.size+1],xF X pins H1 b:=λb hb=>by
  simp at hb;rcases hb with rfl | rfl | rfl | rfl | rfl
  ·exact fp 4
  ·exact fp 2
  ·exact fp 3
  ·exact fp 0
  ·exact fp 1
 rcases q1 with ⟨⟨xs,x1⟩,⟨ys,x2⟩,q⟩ | ⟨⟨xs,x1⟩,⟨ys,x2⟩,q⟩
 ·obtain ⟨is1,g1,p1,_⟩:=I1.list x1
  obtain ⟨is2,g2,p2,_⟩:=I1.list x2;have L1:l1<s1.heap.objs.size:=by obtain ⟨_,e,_⟩:=p1.isList;exact Heap.lt_size e
  have L2:l2<s1.heap.objs.size:=by obtain ⟨_,e,_⟩:=p2.isList;exact Heap.lt_size e
  refine call_zip_2 p1.isList p2.isList λh' a1 a2 a3 a4 a5 a6 hk=>wpAny_pyIter_zip (s:={ s1 with heap:=h' }) a1 ?_;exact ⟨_,_,_,_,H1,rfl,I1.kept (t':=s1.toks) λb o e=>hk b o e,zaf (zipApart_new L1 L2),⟨a1,a2,⟨_,_,a3⟩,a4,a5⟩,fps,q⟩
 ·obtain ⟨is1,g1,p1,_⟩:=I1.tuple x1
  obtain ⟨is2,g2,p2,_⟩:=I1.tuple x2;have L1:l1<s1.heap.objs.size:=by obtain ⟨_,e,_⟩:=p1;exact Heap.lt_size e
  have L2:l2<s1.heap.objs.size:=by obtain ⟨_,e,_⟩:=p2;exact Heap.lt_size e
  refine call_zt (show s1.heap.IsTuple l1 is1.toArray from p1) (show s1.heap.IsTuple l2 is2.toArray from p2) λh' a1 a2 a3 a4 a5 hk=>wpAny_pyIter_zip (s:={ s1 with heap:=h' }) a1 ?_;exact ⟨_,_,_,_,H1,rfl,I1.kept (t':=s1.toks) λb o e=>hk b o e,turn_zt (zipApart_new L1 L2),⟨a1,a2,⟨_,_,a3⟩,a4,a5⟩,fps,q⟩
end
end L2
namespace L2
open PySem
def XV {X:Cx} {K:Fg} {es:Jh} {k:Nat} {t:TGs} {n:Nat} {pos:Pos} (e:X.K=K) (hc:X.calm=true) (h:PGs X es t) (hn:(assignEach es X.env).length=n:=by rfl) (hst:(assignEach es X.env).findIdx? (·.1)=none:=by rfl):PG X (.Tuple es k pos) (gTup K n t):=e ▸ pg_tup hc h hn hst
def comp_zip {K:Fg} {l1 l2 D:Ad} {xs ys:Jn} {g:TG} {te:TE} {σY:St} {H1:Hp} {Q:VK} (Pv:Nat->St->Hp->Prop) (h0:Pv 0 σY H1) (hl:∀ i σ H,i<=xs.length->Pv i σ H->SqL K H l1 xs/\SqL K H l2 ys) (he:ys.length=xs.length)
  (hs:∀ i x y σ H T,xs[i]?=some x->ys[i]?=some y->Pv i σ H->H T=none->g (.ref T) σ (upd H T (.tup [x,y])) λσ3 H3=>te σ3 H3 λv H4=>∃ zs,H4 D=some (.lst zs)/\zs.length<sizeLine/\Pv (i+1) σ3 (upd H4 D (.lst (zs++[v])))) (hd:∀ σ H,Pv xs.length σ H->Q (.ref D) H) :
  CompW (Itz K l1 l2) g te σY H1 D Q:=by
 refine ⟨λi m σ H=>m=xs.length-i/\i<=xs.length/\Pv i σ H,⟨xs.length,by simp,Nat.zero_le _,h0⟩,?_⟩;rintro i m σ H ⟨rfl,hi,p⟩;obtain ⟨q1,q2⟩:=hl i σ H hi p;by_cases hlt:i<xs.length
 ·refine .inr ⟨⟨xs,ys,xs[i],ys[i],q1,q2,by simp [hlt],by simp [he,hlt]⟩,Pv (i+1),λσ' H' p'=>⟨xs.length-(i+1),by omega,rfl,hlt,p'⟩,λx H' y=>?_⟩
  obtain ⟨T,u,v,e,nT,e',y⟩:=y;subst e e';obtain ⟨y1,y2⟩:=y xs ys q1 q2;exact hs i u v σ H T y1 y2 p nT
 ·have e:i=xs.length:=by omega
  subst e;exact .inl ⟨⟨xs,ys,q1,q2,.inl (Nat.le_refl _)⟩,hd σ H p⟩
def compF_zip {K:Fg} {l1 l2 D:Ad} {xs ys:Jn} {g:TG} {tt:TT} {te:TE} {σY:St} {H1:Hp} {Q:VK} (Pv:Nat->St->Hp->Prop) (h0:Pv 0 σY H1) (hl:∀ i σ H,i<=xs.length->Pv i σ H->SqL K H l1 xs/\SqL K H l2 ys) (he:ys.length=xs.length)
  (hs:∀ i x y σ H T,xs[i]?=some x->ys[i]?=some y->Pv i σ H->H T=none->g (.ref T) σ (upd H T (.tup [x,y])) λσ3 H3=>tt σ3 H3 λb H4=>if b=true then te σ3 H4 λv H5=>∃ zs,H5 D=some (.lst zs)/\zs.length<sizeLine/\Pv (i+1) σ3 (upd H5 D (.lst (zs++[v]))) else Pv (i+1) σ3 H4) (hd:∀ σ H,Pv xs.length σ H->Q (.ref D) H) :
  CompWF (Itz K l1 l2) g tt te σY H1 D Q:=by
 refine ⟨λi m σ H=>m=xs.length-i/\i<=xs.length/\Pv i σ H,⟨xs.length,by simp,Nat.zero_le _,h0⟩,?_⟩;rintro i m σ H ⟨rfl,hi,p⟩;obtain ⟨q1,q2⟩:=hl i σ H hi p;by_cases hlt:i<xs.length
 ·refine .inr ⟨⟨xs,ys,xs[i],ys[i],q1,q2,by simp [hlt],by simp [he,hlt]⟩,Pv (i+1),λσ' H' p'=>⟨xs.length-(i+1),by omega,rfl,hlt,p'⟩,λx H' y=>?_⟩
  obtain ⟨T,u,v,e,nT,e',y⟩:=y;subst e e';obtain ⟨y1,y2⟩:=y xs ys q1 q2;exact hs i u v σ H T y1 y2 p nT
 ·have e:i=xs.length:=by omega
  subst e;exact .inl ⟨⟨xs,ys,q1,q2,.inl (Nat.le_refl _)⟩,hd σ H p⟩
end L2
namespace L2
open PySem PySem.Spec PyProof.Rows
section
variable {X:Cx} {pins:Jc} {σ σ':St} {H H':Hp} {s s':Sh} {a:Ad} {kvs:Jl}
def Inv.hideD (I:Inv X pins σ H s) (e:H a=some (.dK kvs)):∃ (ob:Obj) (es:Array DictEntry) (ep:Nat) (vs:List (Key×Vl)),KV kvs vs/\(ob.ExactDict/\ob.data=.dict es ep/\PySem.KeysOf (zI X.prog X.w) es/\PySem.Pairs (zI X.prog X.w) es.toList vs/\(vs.map (λx=>x.fst)).Nodup)/\s.heap.get? a=some ob/\(a == sysModules)=false/\kvs.length<=sizeLine/\Inv X ((a,ob)::pins) σ (but H [a]) s:=by
 obtain ⟨hz,hS,vs,r,ob,es,ep,ea,c1,c2,c3⟩:=I.hok a _ e
 have ne:∀ {b:Ad} {o:HO},H b=some o->o≠.dK kvs->b ∉ [a]:=λ{b o} z y m=>by
  cases List.mem_singleton.mp m;rw [e] at z;injection z with z;exact y z.symm
 have nn:∀ {b:Ad},H b=none->but H [a] b=none:=λ{b} z=>by
  unfold but;split
  ·rfl
  ·exact z
 refine ⟨ob,es,ep,vs,r,⟨c1,c2,c3⟩,ea,hS,hz,I.ok,I.os,I.bare,⟨I.base.keep,I.base.slot,λb o q m x=>nn (I.base.free b o q m x),I.base.there,λb ys q=>Ze (I.base.tups b ys q) (ne (I.base.tups b ys q) (λz=>by cases z)),λb o u q=>Ze (I.base.frzs b o u q) (ne (I.base.frzs b o u q) (λz=>by cases z)),λb ps q=>let ⟨more,z⟩:=I.base.tbls b ps q;⟨more,Ze z (ne z (λz=>by cases z))⟩⟩,I.loc,I.cell,nn I.free,λx c q=>nn (I.freeC x c q),λp m=>?_,λb u q=>?_,I.len⟩
 ·rcases List.mem_append.mp m with m | m
  ·have q:=I.pin p (List.mem_append_left _ m)
   exact ⟨q.1,nn q.2.1,q.2.2⟩
  ·rcases List.mem_cons.mp m with rfl | m
   ·refine ⟨ea,Xd (List.mem_singleton_self a),λz=>?_,λz=>?_,λv z=>by rw [c2] at z;cases z⟩
    ·have:=I.free
     rw [← z] at this;have e':H a=some (.dK kvs):=e;rw [e'] at this;cases this
    ·obtain ⟨_,o,q,_⟩:=I.ok.funs.mem z
     have:=I.base.free a o q (I.ok.frf a z) (λy=>I.ok.exfs a y z);rw [e] at this;cases this
   ·have q:=I.pin p (q2y _ m)
    exact ⟨q.1,nn q.2.1,q.2.2⟩
 ·obtain ⟨nb,q⟩:=but_inv q
  exact (I.hok b u q).stay (λ_ _ _ z=>z) (λc z=>Ze z (ne z (λy=>by cases y))) (λc ys z=>Ze z (ne z (λy=>by cases y)))
def Inv.backD {ob:Obj} {es:Array DictEntry} {ep:Nat} {vs:List (Key×Vl)} (I:Inv X pins σ H s) (e:H a=some (.dK kvs)) (r:KV kvs vs) (c:ob.ExactDict/\ob.data=.dict es ep/\PySem.KeysOf (zI X.prog X.w) es/\PySem.Pairs (zI X.prog X.w) es.toList vs/\(vs.map (λx=>x.fst)).Nodup) (hS:(a == sysModules)=false) (hz:kvs.length<=sizeLine) (J:Inv X ((a,ob)::pins) σ' H' s'):H' a=none/\Inv X pins σ' (upd H' a (.dK kvs)) s':=by
 have ea:=J.pin (a,ob) (q2y _ q1z);have na:∀ {b:Ad},H b=none->b≠a:=λ{b} z y=>by subst y;rw [e] at z;cases z
 have st:∀ {b:Ad} {o:HO},H' b=some o->upd H' a (.dK kvs) b=some o:=λ{b o} z=>by rw [zk (zp z ea.2.1)];exact z
 refine ⟨ea.2.1,J.ok,J.os,J.bare,⟨J.base.keep,J.base.slot,λb o q m x=>?_,J.base.there,λb ys q=>st (J.base.tups b ys q),λb o u q=>st (J.base.frzs b o u q),λb ps q=>let ⟨more,z⟩:=J.base.tbls b ps q;⟨more,st z⟩⟩,J.loc,J.cell,?_,λx c q=>?_,λp m=>?_,λb u q=>?_,J.len⟩
 ·rw [zk (na (I.base.free b o q m x))];exact J.base.free b o q m x
 ·rw [zk (na I.free)];exact J.free
 ·rw [zk (na (I.freeC x c q))];exact J.freeC x c q
 ·have q:=J.pin p (by
   rcases List.mem_append.mp m with m | m
   ·exact List.mem_append_left _ m
   ·exact q2y _ (q1y _ m))
  exact ⟨q.1,by rw [zk (na (I.pin p m).2.1)];exact q.2.1,q.2.2⟩
 ·by_cases hb:b=a
  ·subst hb
   rw [zf] at q;cases q;exact ⟨hz,hS,vs,r,ob,es,ep,ea.1,c⟩
  ·rw [zk hb] at q
   exact (J.hok b u q).stay (λ_ _ _ z=>z) (λc z=>st z) (λc ys z=>st z)
end
def kV_rel {P:Program} {w:World} {k:Key} {u:Vl} (h:(zI P w).is k u=true):RelV (kV k) u:=by
 rcases yb h with ⟨i,t,rfl,rfl⟩ | ⟨x,t,rfl,rfl⟩
 ·exact ⟨t,rfl⟩
 ·exact ⟨t,rfl⟩
def Itk (kvs:Jl):It:=⟨λi _=>i<kvs.length,λi H x H'=>H'=H/\∃ p,kvs[i]?=some p/\x=kV p.1,λi _=>kvs.length<=i⟩
def tTrue:TT:=λ_ H Q=>Q true H
def Ifs (X:Cx) (ifs:Jh) (tt:TT):Prop:=(ifs=[]/\tt=tTrue)∨∃ tst,ifs=[tst]/\PT X tst tt
def Ifs.len {X:Cx} {ifs:Jh} {tt:TT} (h:Ifs X ifs tt):ifs.length<=1:=by
 rcases h with ⟨rfl,_⟩ | ⟨_,rfl,_⟩
 ·exact Nat.zero_le _
 ·exact Nat.le_refl _
def testW (M:Model) (A:Around) (env:Env) (ifs:Jh) (K:Bool->Sh->Prop) (E:Ja) (s:Sh):Prop:=match ifs with
 | [t]=>wpAny M A (isTrue t env (eval t env)) K E s
 | _=>K true s
def ifs_ok {X:Cx} {ifs:Jh} {tt:TT} {pins:Jc} {σ:St} {H:Hp} {s:Sh} {Q:Bool->Hp->Prop} {K:Bool->Sh->Prop} (h:Ifs X ifs tt) (I:Inv X pins σ H s) (q:tt σ H Q) (k:∀ b H' s',Inv X pins σ H' s'->Q b H'->K b s'):testW (model X.prog X.w) X.A X.env ifs K X.xe s:=by
 rcases h with ⟨rfl,rfl⟩ | ⟨_,rfl,ht⟩
 ·exact k true H s I q
 ·exact thn (ht pins s σ H Q I q) λb s' ⟨H',I',q'⟩=>k b H' s' I' q'
theorem zbv {prog:Program} {w:World} {A:Around} {R:Result->Sh->Prop} {s:Sh} {elt target iter:Expr} {ifs:Jh} {scope:Scope} {pos:Pos} {it acc:Vl} {env:Env} (hi:ifs.length<=1) (I:Nat->Sh->Prop)
  (turn:∀ n s,I n s->wpAny (model prog w) A (pyNext it) (λr s₁=>match r with
   | none=>R (.ok .next) s₁
   | some v=>wpAny (model prog w) A (letOwnedTupleGo target it v) (λ_ s₂=>wpAny (model prog w) A (assign target env v) (λ_ s₃=>testW (model prog w) A env ifs (λok t₃=>match ok with
     | true=>wpAny (model prog w) A (eval elt env) (λx s₄=>wpAny (model prog w) A (call (.builtin "list.append") [acc,x]) (λ_ s₅=>∃ m,m<n/\I m s₅) (λ_ _=>False) s₄) (λ_ _=>False) t₃
     | false=>∃ m,m<n/\I m t₃) (λ_ _=>False) s₃) (λ_ _=>False) s₂) (λ_ _=>False) s₁) (λ_ _=>False) s)
  (n:Nat) (h:I n s):codeAny (model prog w) A (.compLoop (.ListComp elt [⟨target,iter,ifs,0⟩] scope pos) 0 it acc env) R s:=by
 match ifs,hi with
 | [],_=>exact XA I turn n h
 | [t],_=>exact Y9 I turn n h
inductive tCompD_S (g:TG) (tt:TT) (te:TE) (σ0:St->Hp->St->Prop) (σ:St) (Q:VK) (x:V) (H1:Hp):Prop
 | mk (d kvs:_) (_:x=.ref d) (_:H1 d=some (.dK kvs)) (σY:_) (_:σ0 σ (but H1 [d]) σY) (_:∀ D,but H1 [d] D=none->D≠d->CompWF (Itk kvs) g tt te σY (upd (but H1 [d]) D (.lst [])) D λv H'=>H' d=none->Q v (upd H' d (.dK kvs)))
def tCompD (td:TE) (g:TG) (tt:TT) (te:TE) (σ0:St->Hp->St->Prop):TE:=λσ H Q=>td σ H λx H1=>tCompD_S g tt te σ0 σ Q x H1
section
variable {X:Cx} {tg:Expr}
theorem zbx {iter elt:Expr} {ifs:Jh} {scope:Scope} {pos pos':Pos} {cl:List (Str×Ad)} {NY:Jf} {td:TE} {g:TG} {tt:TT} {te:TE} {σ0:St->Hp->St->Prop} (hc:X.calm=true) (S:Sees X scope cl) (hi:PE X iter td)
  (hY:∀ (s3:Sh) (H3:Hp) (fp:Jg),PG (X.comp scope cl NY s3 H3 fp) tg g/\Ifs (X.comp scope cl NY s3 H3 fp) ifs tt/\PE (X.comp scope cl NY s3 H3 fp) elt te)
  (h0:∀ (pins:Jc) (σ:St) (H:Hp) (s3:Sh) (σY:St),Inv X pins σ H s3->σ0 σ H σY->σY.length=NY.length/\∀ (i:Nat) (x:Str) (v:V),NY[i]?=some x->σY[i]?=some (some v) ->
   ∃ c u,(((compEnvC scope cl 0 X.env).kindOf x=some .cell∨(compEnvC scope cl 0 X.env).kindOf x=some .free))/\cl.lookup x=some c/\RelV v u/\s3.heap.IsCell c (some u))
  (hs:∀ x,foldedSetIterable iter X.env x=pure x) {use:Option (Vl->Sem Unit)} {R:Ja} {pins:Jc} {s:Sh} {σ:St} {H:Hp} {Q:VK} (I:Inv X pins σ H s) (h:tCompD td g tt te σ0 σ H Q)
  (fin:∀ (C D:Ad) (H5:Hp) (s6:Sh),CompEnd X pins σ H5 s6 C->Q (.ref D) H5->compPost (model X.prog X.w) X.A X.xe use R (.ref D) C (.ok .next) s6) :
  wpAny (model X.prog X.w) X.A (comprehension (.ListComp elt [⟨tg,iter,ifs,0⟩] scope pos) scope X.env pos' (newList []) (firstAsync [⟨tg,iter,ifs,0⟩]) (firstIter [⟨tg,iter,ifs,0⟩] X.env) use) R X.xe s:=by
 refine wpAny_comprehension_free rfl hs S.clos S.kind S.names (thn (hi pins s σ H _ I h) λv s1 h1=>?_);obtain ⟨x,H1,I1,r1,d,kvs,ex,ed,σY,hσ,hW⟩:=h1;subst ex;cases r1;obtain ⟨ob,es,ep,vs,rk,cc,eob,hS,hz,J1⟩:=I1.hideD ed;have lk:kvs.length=vs.length:=rk.length;have DA:∀ {h:Heap},h.get? d=some ob->Heap.DictAt (zI X.prog X.w) h d vs ep:=λ{h} q=>⟨ob,es,q,cc⟩;refine wpAny_pyIter_dict hS (DA eob) ?_;generalize hH2:but H1 [d]=H2 at *;have nd2:H2 d=none:=by rw [← hH2];exact Xd (List.mem_singleton_self d)
 let it:Ad:=s1.heap.objs.size;generalize hs2:({ s1 with heap:=s1.heap.push { cls:=.type "dict_keyiterator",data:=.fields #[.ref d,.int 0 0,.int (vs.length:Nat) 0,.int (ep:Nat) 0] } }:Sh)=s2;have k12:∀ b o,s1.heap.get? b=some o->s2.heap.get? b=some o:=λb o q=>by rw [← hs2];exact Heap.get?_push_of_some _ q
 have I2:Inv X ((d,ob)::pins) σ H2 s2:=by rw [← hs2];exact J1.kept (t':=s1.toks) λb o e=>Heap.get?_push_of_some _ e
 let fp:Jg:=[it];let tn:Nat->Heap->Prop:=λi h=>h.IsKeyIter it d i vs.length ep;have st2:tn 0 s2.heap:=by rw [← hs2];exact ⟨_,Heap.get?_push_size _ rfl,rfl,rfl⟩
 have f2:∀ b∈fp,xF X ((d,ob)::pins) H2 b:=λb hb=>by
  have e:b=it:=List.mem_singleton.mp hb;subst e;exact J1.fpOk (Nat.le_refl _) (J1.hok.fresh (Nat.le_refl _))
 have Tobj:∀ i h,tn i h->∀ b∈fp,∃ o,h.get? b=some o/\∀ v,o.data≠.cell v:=λi h st b hb=>by
  have e:b=it:=List.mem_singleton.mp hb;subst e;obtain ⟨o,e,c,d⟩:=st;exact ⟨o,e,λv z=>by rw [d] at z;cases z⟩
 have Tkeep:∀ i h h',tn i h->(∀ b∈fp,∀ o,h.get? b=some o->h'.get? b=some o)->tn i h':=λi h h' st k=>st.at λo e=>k it (List.mem_singleton.mpr rfl) o e;refine wpAny_newObj_type ?_;have I3:Inv X ((d,ob)::pins) σ (upd H2 s2.heap.objs.size (.lst [])) (pz s2):=I2.lnew (t':=s2.toks) (its:=[]) .nil (Nat.zero_le _);have eob2:s2.heap.get? d=some ob:=k12 _ _ eob;have dlt:d≠s2.heap.objs.size:=Nat.ne_of_lt (Heap.lt_size eob2);obtain ⟨W,⟨m0,w0⟩,turn⟩:=hW s2.heap.objs.size (I2.hok.fresh (Nat.le_refl _)) (Ne.symm dlt);have ob2:=Tobj _ _ st2
 have hfp:∀ b∈fp,xF X ((d,ob)::pins) (upd H2 s2.heap.objs.size (.lst [])) b:=λb hb=>by
  obtain ⟨o,q,_⟩:=ob2 b hb;exact ⟨by rw [zk (Nat.ne_of_lt (Heap.lt_size q))];exact (f2 b hb).1,(f2 b hb).2⟩
 have hob:∀ b∈fp,∃ o,(s2.heap.push Lz).get? b=some o:=λb hb=>by
  obtain ⟨o,q,_⟩:=ob2 b hb;exact ⟨o,Heap.get?_push_of_some _ q⟩
 refine wpAny_newFunctionEnv S.nocell (λy hy=>absurd hy (by simp)) (λh1 hn1 hs1=>?_) S.kind;obtain ⟨hl,hY0⟩:=h0 _ σ H2 s2 σY I2 hσ;have k23:∀ b o,s2.heap.get? b=some o->(s2.heap.push Lz).get? b=some o:=λb o q=>Heap.get?_push_of_some _ q;have k34:∀ b o,(s2.heap.push Lz).get? b=some o->h1.get? b=some o:=λb o q=>(hs1.2 b (Nat.ne_of_lt (Heap.lt_size q))).trans (Heap.get?_push_of_some _ q)
 have I4:=Xa (scope:=scope) (cl:=cl) (NY:=NY) (fp:=fp) (h1:=h1) (t:=s2.toks) (σY:=σY) I3 S hfp hob hn1 k34 hl λi x v e1 e2=>by
  obtain ⟨c,u,k,q,r,o,z1,z2⟩:=hY0 i x v e1 e2;exact ⟨c,u,k,q,r,o,k23 _ _ z1,z2⟩
 have st4:tn 0 h1:=Tkeep _ _ _ st2 λb hb o q=>k34 _ _ (k23 _ _ q);have fr4:∀ b∈fp,(upd H2 s2.heap.objs.size (.lst [])) b=none:=λb hb=>(hfp b hb).1;obtain ⟨hg,ht,he⟩:=hY (pz s2) (upd H2 s2.heap.objs.size (.lst [])) fp;have okY:=I4.ok
 have statY:∀ {H':Hp},(∀ b∈fp,H' b=none)->∀ b∈fp,xF (Xz X scope cl NY s2 H2 fp) [] H' b :=
  λhn b hb=>⟨hn b hb,(okY.exf b hb).1,okY.exfs b hb,.inl hb,(okY.exf b hb).2,λp hp=>absurd hp (by simp)⟩
 have pinD:=I3.pin (d,ob) (q2y _ q1z)
 have dfs:d ∉ (Xz X scope cl NY s2 H2 fp).fs:=λz=>by
  rcases List.mem_cons.mp (I3.stkSub d z) with y | y
  ·exact pinD.2.2.1 y
  ·exact pinD.2.2.2.1 y
 have dex:d ∉ fp:=λz=>by
  have e:d=it:=List.mem_singleton.mp z;exact absurd (Heap.lt_size eob) (by rw [e];exact Nat.lt_irrefl _)
 have stay:∀ {pp:Jc} {σ':St} {H':Hp} {s':Sh},Inv (Xz X scope cl NY s2 H2 fp) pp σ' H' s'->s'.heap.get? d=some ob:=λI' =>
  I'.base.keep d ob (k23 _ _ eob2) (show upd H2 s2.heap.objs.size (.lst []) d=none by rw [zk dlt];exact nd2) dfs dex
 have loop:codeAny (model X.prog X.w) X.A (.compLoop (.ListComp elt [⟨tg,iter,ifs,0⟩] scope pos) 0 (.ref it) (.ref s2.heap.objs.size) (compEnvC scope cl (s2.heap.push Lz).objs.size X.env))
   (compPost (model X.prog X.w) X.A X.xe use R (.ref s2.heap.objs.size) (s2.heap.push Lz).objs.size) { s2 with heap:=h1,toks:=s2.toks }:=by
  refine zbv ht.len (λn s'=>∃ i σ' H',Inv (Xz X scope cl NY s2 H2 fp) [] σ' H' s'/\tn i s'.heap/\(∀ b∈fp,H' b=none)/\W i n σ' H') ?_ m0 ⟨0,σY,_,I4,st4,fr4,w0⟩;rintro n s5 ⟨i,σ5,H5,I5,st5,fr5,w5⟩;obtain ⟨g0,g1,g2,g3,g4,g5⟩:=statY fr5 it (List.mem_singleton.mpr rfl);rcases turn i n σ5 H5 w5 with ⟨stop,q⟩ | ⟨go,N,hN,step⟩
  ·have stop:kvs.length<=i:=stop
   refine wpAny_pyNext_dict_end (I5.ok.hd hc) st5 (DA (stay I5)) (List.getElem?_eq_none (by omega)) λh' eb=>?_;have I6:Inv (Xz X scope cl NY s2 H2 fp) [] σ5 H5 { s5 with heap:=h' }:=I5.turned (t':=s5.toks) (λb o hb e=>eb b o hb e) g0 g1 g3 g4 g5;obtain ⟨m,hm,_⟩:=I6.loc;have back:=λ(h2:Heap) (hs':Heap.SameBut (s2.heap.push Lz).objs.size h' h2)=>I1.backD ed rk cc hS hz (Yn I3 hfp I6 hs');have nd5:=(back h' ⟨rfl,λ_ _=>rfl⟩).1;have dC:(s2.heap.push Lz).objs.size≠d:=Ne.symm (Nat.ne_of_lt (Heap.lt_size (k23 _ _ eob2)));refine fin _ _ (upd H5 d (.dK kvs)) _ ⟨⟨m,hm⟩,by rw [zk dC];exact I6.free,Ne.symm (Nat.ne_of_lt I3.lt),I3.sz,λx c z=>?_,λp hp=>?_,λh2 hs'=>(back h2 hs').2⟩ (q nd5)
   ·obtain ⟨_,o,z1,_⟩:=I3.cell x c z
    exact Nat.ne_of_lt (Heap.lt_size z1)
   ·exact Nat.ne_of_lt (Heap.lt_size (I3.pin p (by
     rcases List.mem_append.mp hp with hp | hp
     ·exact List.mem_append_left _ hp
     ·exact q2y _ (q1y _ hp))).1)
  ·have go:i<kvs.length:=go
   obtain ⟨pv,hpv⟩:∃ p,vs[i]?=some p:=⟨vs[i]'(by omega),List.getElem?_eq_getElem _⟩;obtain ⟨pk',hpk⟩:∃ p,kvs[i]?=some p:=⟨kvs[i],List.getElem?_eq_getElem go⟩
   have ek:pk'.1=pv.1:=by
    have:=rk.keys;have e1:(kvs.map (·.1))[i]?=some pk'.1:=by rw [List.getElem?_map,hpk];rfl
    rw [this,List.getElem?_map,hpv] at e1;exact (Option.some.inj e1).symm
   refine wpAny_pyNext_dict_item st5 (DA (stay I5)) (k:=pv.1) (v:=pv.2) hpv λkey h' hkey st' sb=>?_;have I6:Inv (Xz X scope cl NY s2 H2 fp) [] σ5 H5 { s5 with heap:=h' }:=I5.turned (t':=s5.toks) (λb o hb e=>(sb.2 b hb).trans e) g0 g1 g3 g4 g5;obtain ⟨oi,ei,ci,di⟩:=id st'
   have rkey:RelV (kV pk'.1) key:=by
    rw [ek];exact kV_rel hkey
   show wpAny (model X.prog X.w) X.A (letOwnedTupleGo tg (.ref it) key) _ _ { s5 with heap:=h' };refine go_of (s:={ s5 with heap:=h' }) ei ci di (by decide) ?_;have I7':=I6.pinned (statY fr5) (Tobj _ _ st');refine thn (hg _ _ σ5 H5 (kV pk'.1) key _ I7' rkey (step (kV pk'.1) H5 ⟨rfl,pk',hpk,rfl⟩)) λ_ s8 ⟨σ8,H8,I8,q8⟩=>?_
   have pk:∀ {H':Hp} {s':Sh} {σ':St},Inv (Xz X scope cl NY s2 H2 fp) ([]++Yd fp h') σ' H' s'->tn (i+1) s'.heap/\∀ b∈fp,H' b=none:=λI'=>by
    refine ⟨Tkeep _ _ _ st' λb hb o q=>(I'.pin (b,o) (q2y _ (q2y _ (yG hb q)))).1,λb hb=>?_⟩;obtain ⟨o,q,d⟩:=Tobj _ _ st' b hb;exact (I'.pin (b,o) (q2y _ (q2y _ (yG hb q)))).2.1
   refine ifs_ok ht I8 q8 λbb H8' s8' I8' q8'=>?_
   cases bb with
   | false =>
    have q8':=(show N σ8 H8' by simpa using q8');obtain ⟨m',hm,w10⟩:=hN _ _ q8';exact ⟨m',hm,i+1,σ8,_,I8'.unpinned,(pk I8').1,(pk I8').2,w10⟩
   | true =>
    have q8':=(show te σ8 H8' _ by simpa using q8');refine thn (he _ s8' σ8 H8' _ I8' q8') λz s9 ⟨v9,H9,I9,r9,xs,hx9,hz9,n9⟩=>?_;refine thn (xz _ s9 σ8 H9 (.ref s2.heap.objs.size) [v9] (.ref s2.heap.objs.size) [z] (λ_ H'=>H'=upd H9 s2.heap.objs.size (.lst (xs++[v9]))) I9 rfl (.cons r9 .nil) ⟨s2.heap.objs.size,xs,v9,rfl,rfl,hx9,hz9,rfl⟩) λy s10 ⟨v10,H10,I10,_,e10⟩=>?_;subst e10;obtain ⟨m',hm,w10⟩:=hN _ _ n9;exact ⟨m',hm,i+1,σ8,_,I10.unpinned,(pk I10).1,(pk I10).2,w10⟩
 exact codeAny_compStart_list loop (wpAny_pyIter_keyiter st4 loop)
def ps_compD {iter elt tst:Expr} {scope:Scope} {pos pos' spos:Pos} {td:TE} {g:TG} {tt:TT} {te:TE} {i:Nat} {y:Str} (NY:Jf) (cap:List (Option Nat)) (hc:X.calm=true) (hk:Ya X scope=true) (hcap:Yu X scope NY cap=true) (hi:PE X iter td)
  (hY:∀ (s3:Sh) (H3:Hp) (fp:Jg),PG (X.comp scope (xV X.env scope) NY s3 H3 fp) tg g/\PT (X.comp scope (xV X.env scope) NY s3 H3 fp) tst tt/\PE (X.comp scope (xV X.env scope) NY s3 H3 fp) elt te) (hN:X.N.Nodup) (hi':X.N[i]?=some y) (hx:Loc X.env.scope y)
  (hf:X.fn y=true∨X.env.scope.names.lookup y=some .local:=by first | exact .inl rfl | exact .inr rfl) (hw:swapsWith (.ListComp elt [⟨tg,iter,[tst],0⟩] scope pos) (some (.Name y pos')) spos.line X.env=pure true:=by rfl)
  (hs:∀ x,foldedSetIterable iter X.env x=pure x:=by intro _;rfl):PS X (.Assign [.Name y pos'] (.ListComp elt [⟨tg,iter,[tst],0⟩] scope pos) spos) (tAsg (tCompD td g tt te λσ _ σY=>σY=capt cap σ) (Yt i)):=by
 intro pins s σ H D I h;rw [exec_Assign_Name_used _ _ _ _ hw,arm_evalThenUse_ListComp]
 refine q0x (wpAny_standAt (q0x (q0x (wpAny_mono (zbx (NY:=NY) (use:=some (assign (.Name y pos') X.env)) (R:=λ_ s'=>SP X pins D .next s') hc (xX I.ok hk) hi (λs3 H3 fp=>⟨(hY s3 H3 fp).1,.inr ⟨_,rfl,(hY s3 H3 fp).2.1⟩,(hY s3 H3 fp).2.2⟩) (λpins σ H s3 σY I3 e=>by
  subst e;exact Zt I3 (xX I3.ok hk) hcap) hs I h λC L H5 s6 e q=>?_) (λ_ s' z=>q0y (q0y z)) λ_ _ z=>z))))
 obtain ⟨m,hm⟩:=e.ns;have I6:Inv X pins σ H5 s6:=e.inv s6.heap ⟨rfl,λ_ _=>rfl⟩;refine wpAny_assign_Name (Z9 I6 hN hi' hx (v:=.ref L) rfl (λs' I' ⟨a,sb,ha⟩=>?_) hf)
 have ne:C≠a:=by
  rintro rfl;rcases ha with z | z
  ·exact e.hL z
  ·exact e.h2 _ _ z rfl
 refine ⟨m,?_,λh' hs'=>?_⟩
 ·obtain ⟨o,es,ep,z,r⟩:=hm
  exact ⟨o,es,ep,(sb.2 _ ne).trans z,r⟩
 ·exact ⟨_,H5,I'.turned (t':=s'.toks) (it:=C) (λb o nb z=>(hs'.2 b nb).trans z) e.hn e.hL (.inr e.h1) e.h2 e.h3,q⟩
def zby {kvs:Jl} {D:Ad} {g:TG} {tt:TT} {te:TE} {σY:St} {H1:Hp} {Q:VK} (Pv:Nat->St->Hp->Prop) (h0:Pv 0 σY H1)
  (hs:∀ i p σ H,kvs[i]?=some p->Pv i σ H->g (kV p.1) σ H λσ3 H3=>tt σ3 H3 λb H4=>if b=true then te σ3 H4 λv H5=>∃ ys,H5 D=some (.lst ys)/\ys.length<sizeLine/\Pv (i+1) σ3 (upd H5 D (.lst (ys++[v]))) else Pv (i+1) σ3 H4) (hd:∀ σ H,Pv kvs.length σ H->Q (.ref D) H) :
  CompWF (Itk kvs) g tt te σY H1 D Q:=by
 refine ⟨λi m σ H=>m=kvs.length-i/\i<=kvs.length/\Pv i σ H,⟨kvs.length,by simp,Nat.zero_le _,h0⟩,?_⟩;rintro i m σ H ⟨rfl,hi,p⟩;by_cases hlt:i<kvs.length
 ·refine .inr ⟨hlt,Pv (i+1),λσ' H' p'=>⟨kvs.length-(i+1),by omega,rfl,hlt,p'⟩,λx H' y=>?_⟩
  obtain ⟨e,q,hq,ex⟩:=y;subst e ex;exact hs i q σ _ hq p
 ·have e:i=kvs.length:=by omega
  subst e;exact .inl ⟨Nat.le_refl _,hd σ H p⟩
end
section
variable {X:Cx}
def XD (hc:X.calm=true):Zh X (.builtin "min") (λxs H Q=>∃ (p:Ad) (ns:Jb),xs=[.ref p]/\SqL X.K H p (ns.map V.int)/\0<ns.length/\∀ m,m∈ns->(∀ v∈ns,m<=v)->Q (.int m) H):=by
 intro pins s σ H xs us Q I r h;obtain ⟨p,ns,rfl,hp,h0,q⟩:=h;obtain ⟨u,rfl,ru⟩:=r.one;cases (show u=Value.ref p from ru);obtain ⟨its,rv,pl,_⟩:=I.list hp;obtain ⟨ys,hy⟩:=(X5 rv).allInts.items;have hl:s.heap.IsList p (intItems ys):=hy ▸ pl.isList;have e1:=vals_len rv;rw [Ji] at e1
 have hsz:ys.size=ns.length:=by
  have z:its.toArray.size=(intItems ys).size:=by rw [hy]
  simp [intItems] at z;omega
 have hne:0<ys.size:=by omega
 refine min_intList (I.ok.hd hc) hl hne λv h' tk hv hk=>?_
 have z:its[argBest (λi j=>decide (numAt ys i<numAt ys j)) (ys.size-1)]?=some v:=by
  rw [← hy] at hv;simpa using hv
 obtain ⟨n,t,en,rfl⟩:=ints_at rv _ v z
 have nu:∀ (j:Nat) (n':Int),ns[j]?=some n'->n'=numAt ys j:=λj n' e=>by
  obtain ⟨u,eu,ru⟩:=rv.get (show (ns.map V.int)[j]?=some (.int n') by rw [List.getElem?_map,e];rfl);obtain ⟨t',rfl⟩:=(show ∃ t',u=Value.int n' t' from ru);obtain ⟨t2,e2⟩:=intItems_at (xs:=ys) (i:=j) (v:=.int n' t') (by rw [← hy];simpa using eu);injection e2
 refine ⟨.int n,H,I.kept hk,⟨_,rfl⟩,q n (List.mem_of_getElem? en) λv' hv'=>?_⟩;obtain ⟨j,hj,ej⟩:=List.getElem_of_mem hv';have a1:=nu j v' (by rw [List.getElem?_eq_getElem hj,ej]);have a2:=nu _ n en;have a3:=(argBest_lt (numAt ys) (ys.size-1)).2 j (by omega);rw [a1,a2];exact a3
end
end L2
namespace L2
open PySem PySem.Spec PyProof.Rows
open Sem (wp)
@[reducible] def IsTrip (h:Heap) (T:Ad) (a b c:Vl):Prop:=h.get? T=some { cls:=.type "tuple",data:=.seq #[a,b,c] }
structure Apart3 (z TI TO i1 i2 i3 l1 l2 l3:Ad):Prop where
 TIz:TI≠z
 TOz:TO≠z
 TITO:TI≠TO
 i1z:i1≠z
 i2z:i2≠z
 i3z:i3≠z
 TIi1:TI≠i1
 TIi2:TI≠i2
 TIi3:TI≠i3
 TOi1:TO≠i1
 TOi2:TO≠i2
 TOi3:TO≠i3
 i12:i1≠i2
 i13:i1≠i3
 i23:i2≠i3
 l1z:l1≠z
 l2z:l2≠z
 l3z:l3≠z
 l2i1:l2≠i1
 l2TO:l2≠TO
 l3i1:l3≠i1
 l3i2:l3≠i2
 l3TO:l3≠TO
section
variable {prog:Program} {w:World} {A:Around} {E:Ja} {s:Sh}
def YE {T:Ad} {a b c x:Vl} {k:Nat} {Q:Unit->Sh->Prop} (h:IsTrip s.heap T a b c) (q:∀ h',h'.get? T=some { cls:=.type "tuple",data:=.seq (#[a,b,c].setIfInBounds k x) }->Heap.SameBut T s.heap h'->Q () { s with heap:=h' }) :
  wpAny (model prog w) A (updateSeq T λy=>y.setIfInBounds k x) Q E s:=by
 refine wpAny_updateSeq h rfl (q _ ?_ (Heap.SameBut.update ..)) (by show 3<=sizeLine;decide) (by rw [Array.size_setIfInBounds];show 3<=sizeLine+1;decide);rw [Heap.get?_update_self _ h (by simp [Obj.mapSeq,Obj.isFreed])];simp [Obj.mapSeq]
def z3_item {z TI TO j1 j2 j3 t1 t2 t3:Ad} {k:Nat} {us vs ws:Array Vl} {u v y a b c:Vl} {Q:Ja} (D:Apart3 z TI TO j1 j2 j3 t1 t2 t3) (hz:IsZip s.heap z TI TO .none) (hI:IsTrip s.heap TI (.ref j1) (.ref j2) (.ref j3)) (hO:IsTrip s.heap TO a b c)
  (i1:s.heap.IsListIter j1 t1 k) (i2:s.heap.IsListIter j2 t2 k) (i3:s.heap.IsListIter j3 t3 k) (e1:s.heap.IsList t1 us) (e2:s.heap.IsList t2 vs) (e3:s.heap.IsList t3 ws) (hu:us[k]?=some u) (hv:vs[k]?=some v) (hy:ws[k]?=some y)
  (q:∀ g,IsZip g z TI TO (rawInt s.heap.objs.size)->IsTrip g TO u v y->g.IsListIter j1 t1 (k+1)->g.IsListIter j2 t2 (k+1)->g.IsListIter j3 t3 (k+1)->IsTrip g s.heap.objs.size u v y->g.objs.size=s.heap.objs.size+1->(∀ c o,c≠z->c≠TO->c≠j1->c≠j2->c≠j3->s.heap.get? c=some o->g.get? c=some o)->Q (.ref s.heap.objs.size) { s with heap:=g }) :
  wpAny (model prog w) A (Builtin.«zip.__next__» ⟨[.ref z],[]⟩) (λfin s'=>∃ v,fin=.done (.ret v)/\Q v s') E s:=by
 refine q0x (m:=field (.ref z) 2) (wpAny_field hz rfl (x:=.bool false) rfl ?_);refine q0x (m:=field (.ref z) 3) (wpAny_field hz rfl (x:=.ref TI) rfl (q0x (wpAny_seqItems hI rfl ?_)));refine q0x (m:=Builtin.SmallTypes.ownedTupleIsFree (.ref z)) ?_;unfold Builtin.SmallTypes.ownedTupleIsFree;refine q0x (wpAny_field hz rfl (x:=.none) rfl (q0y ?_));simp only [if_true];refine q0x (wpAny_rule (q0x (wpAny_field hz rfl (x:=.ref TO) rfl ?_)));refine q0x (wpAny_setField_rec hz (by simp) λg1 z1 c1=>q0x ?_);replace z1:IsZip g1 z TI TO .ellipsis:=z1;simp only [List.zipIdx_cons,List.zipIdx_nil,List.forIn_cons,List.forIn_nil];refine q0x (q0x (wpAny_onRaise ?_));refine q0x (m:=Builtin.SmallTypes.nextOf (.ref j1)) (wpAny_nextOf_list_item (i1.extBut c1.extBut D.i1z) (e1.extBut c1.extBut D.l1z) hu λg2 n1 c2=>q0y ?_);have o2:IsTrip g2 TO a b c:=c2.extBut _ _ D.TOi1 (c1.extBut _ _ D.TOz hO);refine q0x (wpAny_seqItems o2 rfl (q0x (YE o2 λg3 o3 c3=>?_)));replace o3:IsTrip g3 TO u b c:=o3;refine q0x (wpAny_letGo (q0y (q0x (q0x (wpAny_onRaise ?_)))));have k13:∀ {x:Ad},x≠z->x≠j1->x≠TO->∀ o,s.heap.get? x=some o->g3.get? x=some o:=λd1 d2 d3 o e=>c3.extBut _ _ d3 (c2.extBut _ _ d2 (c1.extBut _ _ d1 e));refine q0x (m:=Builtin.SmallTypes.nextOf (.ref j2)) (wpAny_nextOf_list_item (((i2.extBut c1.extBut D.i2z).extBut c2.extBut D.i12.symm).extBut c3.extBut D.TOi2.symm) (((e2.extBut c1.extBut D.l2z).extBut c2.extBut D.l2i1).extBut c3.extBut D.l2TO) hv λg4 n2 c4=>q0y ?_);have o4:IsTrip g4 TO u b c:=c4.extBut _ _ D.TOi2 o3;refine q0x (wpAny_seqItems o4 rfl (q0x (YE o4 λg5 o5 c5=>?_)));replace o5:IsTrip g5 TO u v c:=o5;refine q0x (wpAny_letGo (q0y (q0x (q0x (wpAny_onRaise ?_)))));refine q0x (m:=Builtin.SmallTypes.nextOf (.ref j3)) (wpAny_nextOf_list_item (((((i3.extBut c1.extBut D.i3z).extBut c2.extBut D.i13.symm).extBut c3.extBut D.TOi3.symm).extBut c4.extBut D.i23.symm).extBut c5.extBut D.TOi3.symm) (((((e3.extBut c1.extBut D.l3z).extBut c2.extBut D.l3i1).extBut c3.extBut D.l3TO).extBut c4.extBut D.l3i2).extBut c5.extBut D.l3TO) hy λg6 n3 c6=>q0y ?_);have o6:IsTrip g6 TO u v c:=c6.extBut _ _ D.TOi3 o5;refine q0x (wpAny_seqItems o6 rfl (q0x (YE o6 λg7 o7 c7=>?_)));replace o7:IsTrip g7 TO u v y:=o7;refine q0x (wpAny_letGo (q0y (q0y (q0x (wpAny_seqItems o7 rfl (q0x (wpAny_newTuple ?_)))))));have sz:g7.objs.size=s.heap.objs.size:=by rw [c7.1,c6.1,c5.1,c4.1,c3.1,c2.1,c1.1]
 have z7:IsZip g7 z TI TO .ellipsis:=c7.extBut _ _ D.TOz.symm (c6.extBut _ _ D.i3z.symm (c5.extBut _ _ D.TOz.symm (c4.extBut _ _ D.i2z.symm (c3.extBut _ _ D.TOz.symm (c2.extBut _ _ D.i1z.symm z1)))));have k7:∀ c o,c≠z->c≠TO->c≠j1->c≠j2->c≠j3->s.heap.get? c=some o->g7.get? c=some o:=λc o d1 d2 d3 d4 d5 e=>c7.extBut _ _ d2 (c6.extBut _ _ d5 (c5.extBut _ _ d2 (c4.extBut _ _ d4 (c3.extBut _ _ d2 (c2.extBut _ _ d3 (c1.extBut _ _ d1 e))))));have m1:g7.IsListIter j1 t1 (k+1):=((((n1.extBut c3.extBut D.TOi1.symm).extBut c4.extBut D.i12).extBut c5.extBut D.TOi1.symm).extBut c6.extBut D.i13).extBut c7.extBut D.TOi1.symm;have m2:g7.IsListIter j2 t2 (k+1):=((n2.extBut c5.extBut D.TOi2.symm).extBut c6.extBut D.i23).extBut c7.extBut D.TOi2.symm;have m3:g7.IsListIter j3 t3 (k+1):=n3.extBut c7.extBut D.TOi3.symm;have zl:z<g7.objs.size:=Heap.lt_size z7;refine q0x (m:=Builtin.SmallTypes.ownedTupleHandOut (.ref z) (.ref g7.objs.size)) ?_;unfold Builtin.SmallTypes.ownedTupleHandOut;have z8:IsZip (g7.push { cls:=.type "tuple",data:=.seq #[u,v,y] }) z TI TO .ellipsis:=Heap.get?_push_of_some _ z7;refine q0x (wpAny_setField_rec z8 (by simp) λg9 z9 c9=>?_);replace z9:IsZip g9 z TI TO (rawInt g7.objs.size):=z9;refine wpAny_setField_rec z9 (by simp) λga za ca=>?_;replace za:IsZip ga z TI TO (rawInt g7.objs.size):=za;have up:∀ c o,c≠z->g7.get? c=some o->ga.get? c=some o:=λc o d e=>ca.extBut _ _ d (c9.extBut _ _ d (Heap.get?_push_of_some _ e));have T8:IsTrip ga g7.objs.size u v y:=ca.extBut _ _ (Nat.ne_of_gt zl) (c9.extBut _ _ (Nat.ne_of_gt zl) (Heap.get?_push_size _ rfl));have s8:ga.objs.size=g7.objs.size+1:=by rw [ca.1,c9.1,Heap.size_push]
 rw [sz] at za T8 s8;refine q0y ⟨_,rfl,?_⟩;show Q (.ref g7.objs.size) _;rw [sz];exact q ga za (up _ _ D.TOz o7) (m1.at λo e=>up _ o D.i1z e) (m2.at λo e=>up _ o D.i2z e) (m3.at λo e=>up _ o D.i3z e) T8 s8 λc o d1 d2 d3 d4 d5 e=>up c o d1 (k7 c o d1 d2 d3 d4 d5 e)
def z3_end {z TI TO j1 j2 j3 t1 t2 t3:Ad} {k:Nat} {us:Array Vl} {a b c:Vl} {Q:Fin->Sh->Prop} (hh:A.handled=none) (D:Apart3 z TI TO j1 j2 j3 t1 t2 t3) (hz:IsZip s.heap z TI TO .none) (hI:IsTrip s.heap TI (.ref j1) (.ref j2) (.ref j3)) (hO:IsTrip s.heap TO a b c)
  (i1:s.heap.IsListIter j1 t1 k) (e1:s.heap.IsList t1 us) (he:us[k]?=none)
  (q:∀ g e,(∀ c o,c≠z->c≠TO->c≠j1->c≠j2->c≠j3->s.heap.get? c=some o->g.get? c=some o)->(∃ o,g.get? e=some o/\o.cls=.type "StopIteration")->E (.ref e) { s with heap:=g }) :
  wpAny (model prog w) A (Builtin.«zip.__next__» ⟨[.ref z],[]⟩) Q E s:=by
 refine q0x (m:=field (.ref z) 2) (wpAny_field hz rfl (x:=.bool false) rfl ?_);refine q0x (m:=field (.ref z) 3) (wpAny_field hz rfl (x:=.ref TI) rfl (q0x (wpAny_seqItems hI rfl ?_)));refine q0x (m:=Builtin.SmallTypes.ownedTupleIsFree (.ref z)) ?_;unfold Builtin.SmallTypes.ownedTupleIsFree;refine q0x (wpAny_field hz rfl (x:=.none) rfl (q0y ?_));simp only [if_true];refine q0x (wpAny_rule (q0x (wpAny_field hz rfl (x:=.ref TO) rfl ?_)));refine q0x (wpAny_setField_rec hz (by simp) λg1 z1 c1=>q0x ?_);replace z1:IsZip g1 z TI TO .ellipsis:=z1;simp only [List.zipIdx_cons,List.zipIdx_nil,List.forIn_cons,List.forIn_nil];refine q0x (q0x (wpAny_onRaise ?_));refine q0x (m:=Builtin.SmallTypes.nextOf (.ref j1)) (wpAny_nextOf_list_end hh (i1.extBut c1.extBut D.i1z) (e1.extBut c1.extBut D.l1z) he λg2 e c2 ⟨oe,ho,hc⟩=>?_);have z2:IsZip g2 z TI TO .ellipsis:=c2 _ _ D.i1z.symm z1;have ne:e≠z:=λx=>by subst x;rw [z2] at ho;cases ho;simp at hc
 exact wpAny_setField_rec z2 (by simp) λg3 _ c3=>q g3 e (λc o d1 _ d3 _ _ x=>c3.extBut _ _ d1 (c2 _ _ d3 (c1.extBut _ _ d1 x))) ⟨oe,c3.extBut _ _ ne ho,hc⟩
def next_z3 {z TI TO j1 j2 j3 t1 t2 t3:Ad} {k:Nat} {us vs ws:Array Vl} {u v y a b c:Vl} {Q:Je->Sh->Prop} (D:Apart3 z TI TO j1 j2 j3 t1 t2 t3) (hz:IsZip s.heap z TI TO .none) (hI:IsTrip s.heap TI (.ref j1) (.ref j2) (.ref j3)) (hO:IsTrip s.heap TO a b c)
  (i1:s.heap.IsListIter j1 t1 k) (i2:s.heap.IsListIter j2 t2 k) (i3:s.heap.IsListIter j3 t3 k) (e1:s.heap.IsList t1 us) (e2:s.heap.IsList t2 vs) (e3:s.heap.IsList t3 ws) (hu:us[k]?=some u) (hv:vs[k]?=some v) (hy:ws[k]?=some y)
  (q:∀ g,IsZip g z TI TO (rawInt s.heap.objs.size)->IsTrip g TO u v y->g.IsListIter j1 t1 (k+1)->g.IsListIter j2 t2 (k+1)->g.IsListIter j3 t3 (k+1)->IsTrip g s.heap.objs.size u v y->g.objs.size=s.heap.objs.size+1->(∀ c o,c≠z->c≠TO->c≠j1->c≠j2->c≠j3->s.heap.get? c=some o->g.get? c=some o)->Q (some (.ref s.heap.objs.size)) { s with heap:=g }) :
  wpAny (model prog w) A (pyNext (.ref z)) Q E s:=by
 have ty:s.TypeIs (.ref z) "zip":=⟨_,hz,rfl⟩;unfold pyNext;exact q0x (wpAny_attempt (wpAny_callSpecial?_slot (name:=Str.ofString "__next__") ty F.slot_zip_next (wpAny_call_entry F.slot_zip_next ty F.entry_zip_next (z3_item D hz hI hO i1 i2 i3 e1 e2 e3 hu hv hy λg a1 a2 a3 a4 a5 a6 a7 a8=>q0y (q g a1 a2 a3 a4 a5 a6 a7 a8)) (F.args_zip_next_1 _))))
def zav {z TI TO j1 j2 j3 t1 t2 t3:Ad} {k:Nat} {us:Array Vl} {a b c:Vl} {Q:Je->Sh->Prop} (hh:A.handled=none) (D:Apart3 z TI TO j1 j2 j3 t1 t2 t3) (hz:IsZip s.heap z TI TO .none) (hI:IsTrip s.heap TI (.ref j1) (.ref j2) (.ref j3)) (hO:IsTrip s.heap TO a b c)
  (i1:s.heap.IsListIter j1 t1 k) (e1:s.heap.IsList t1 us) (he:us[k]?=none)
  (q:∀ g,(∀ c o,c≠z->c≠TO->c≠j1->c≠j2->c≠j3->s.heap.get? c=some o->g.get? c=some o)->Q none { s with heap:=g }):wpAny (model prog w) A (pyNext (.ref z)) Q E s:=by
 have ty:s.TypeIs (.ref z) "zip":=⟨_,hz,rfl⟩;unfold pyNext;refine q0x (wpAny_attempt (wpAny_callSpecial?_slot (name:=Str.ofString "__next__") ty F.slot_zip_next (wpAny_call_entry F.slot_zip_next ty F.entry_zip_next (z3_end hh D hz hI hO i1 e1 he λg e hk ⟨o,ho,hc⟩=>?_) (F.args_zip_next_1 _))));exact q0x (wpAny_isInstance (T:="StopIteration") (b:=true) ⟨o,ho,hc⟩ isSubtype_stop (q0y (q _ hk)))
abbrev z31 (h:Heap) (t1:Ad):Heap:=h.push { cls:=.type "list_iterator",data:=.fields #[.ref t1,.int 0 0] }
abbrev z32 (h:Heap) (t1 t2:Ad):Heap:=(z31 h t1).push { cls:=.type "list_iterator",data:=.fields #[.ref t2,.int 0 0] }
abbrev z33 (h:Heap) (t1 t2 t3:Ad):Heap:=(z32 h t1 t2).push { cls:=.type "list_iterator",data:=.fields #[.ref t3,.int 0 0] }
abbrev z34 (h:Heap) (t1 t2 t3:Ad):Heap:=(z33 h t1 t2 t3).push { cls:=.type "tuple",data:=.seq #[.ref h.objs.size,.ref (z31 h t1).objs.size,.ref (z32 h t1 t2).objs.size] }
abbrev z35 (h:Heap) (t1 t2 t3:Ad):Heap:=(z34 h t1 t2 t3).push { cls:=.type "tuple",data:=.seq #[.none,.none,.none] }
abbrev z36 (h:Heap) (t1 t2 t3:Ad):Heap:=(z35 h t1 t2 t3).push { cls:=.type "zip",data:=.fields #[.none,.bool false,.bool false,.ref (z33 h t1 t2 t3).objs.size,.ref (z34 h t1 t2 t3).objs.size] }
def meets_z3 (t1 t2 t3:Ad) (us vs ws:Array Vl):Meets (Builtin.«zip.__new__» ⟨[.type "zip",.ref t1,.ref t2,.ref t3],[]⟩) (λ_ R s=>s.heap.IsList t1 us/\s.heap.IsList t2 vs/\s.heap.IsList t3 ws/\R (.ok (.ret (.ref (z35 s.heap t1 t2 t3).objs.size))) { s with heap:=z36 s.heap t1 t2 t3 }) :=
 .of_wp λprog w A R s h=>by
  obtain ⟨hp,g,d,tk,os⟩:=s;obtain ⟨x1,x2,x3,h⟩:=h;have hsub:=sub_zip;have y1:Heap.IsList (Shared.heap ⟨hp,g,d,tk,os⟩) t1 us:=x1;have y2:Heap.IsList (Shared.heap ⟨hp.push { cls:=.type "list_iterator",data:=.fields #[.ref t1,.int 0 0] },g,d,tk,os⟩) t2 vs:=Heap.IsList.push x2 _;have y3:Heap.IsList (Shared.heap ⟨(hp.push { cls:=.type "list_iterator",data:=.fields #[.ref t1,.int 0 0] }).push { cls:=.type "list_iterator",data:=.fields #[.ref t2,.int 0 0] },g,d,tk,os⟩) t3 ws:=Heap.IsList.push (Heap.IsList.push x3 _) _
  wp_walk using wpAny_pyIter_list y1,wpAny_pyIter_list y2,wpAny_pyIter_list y3
  exact ⟨_,rfl,h⟩
def call_z3 {t1 t2 t3:Ad} {us vs ws:Array Vl} {Q:Ja} (x1:s.heap.IsList t1 us) (x2:s.heap.IsList t2 vs) (x3:s.heap.IsList t3 ws)
  (q:∀ g,IsZip g (s.heap.objs.size+5) (s.heap.objs.size+3) (s.heap.objs.size+4) .none->IsTrip g (s.heap.objs.size+3) (.ref s.heap.objs.size) (.ref (s.heap.objs.size+1)) (.ref (s.heap.objs.size+2))->IsTrip g (s.heap.objs.size+4) .none .none .none->g.IsListIter s.heap.objs.size t1 0->g.IsListIter (s.heap.objs.size+1) t2 0->g.IsListIter (s.heap.objs.size+2) t3 0->(∀ c o,s.heap.get? c=some o->g.get? c=some o)->Q (.ref (s.heap.objs.size+5)) { s with heap:=g }) :
  wpAny (model prog w) A (call (.type "zip") [.ref t1,.ref t2,.ref t3]) Q E s:=by
 refine callType_new F.called_zip (by decide) (by rfl) (by with_unfolding_all rfl) (λobj=>by rfl) F.entry_zip_new (meets_z3 t1 t2 t3 us vs ws) ⟨x1,x2,x3,?_⟩;have z1:(z31 s.heap t1).objs.size=s.heap.objs.size+1:=Heap.size_push ..;have z2:(z32 s.heap t1 t2).objs.size=s.heap.objs.size+2:=by rw [Heap.size_push,z1]
 have z3:(z33 s.heap t1 t2 t3).objs.size=s.heap.objs.size+3:=by rw [Heap.size_push,z2]
 have z4:(z34 s.heap t1 t2 t3).objs.size=s.heap.objs.size+4:=by rw [Heap.size_push,z3]
 have z5:(z35 s.heap t1 t2 t3).objs.size=s.heap.objs.size+5:=by rw [Heap.size_push,z4]
 have up:∀ {h:Heap} {c:Ad} {o o':Obj},h.get? c=some o->(h.push o').get? c=some o:=λe=>Heap.get?_push_of_some _ e;have g6:(z36 s.heap t1 t2 t3).get? (z35 s.heap t1 t2 t3).objs.size=some _:=Heap.get?_push_size _ rfl;have g5:(z36 s.heap t1 t2 t3).get? (z34 s.heap t1 t2 t3).objs.size=some _:=up (Heap.get?_push_size _ rfl);have g4:(z36 s.heap t1 t2 t3).get? (z33 s.heap t1 t2 t3).objs.size=some _:=up (up (Heap.get?_push_size _ rfl));have g3:(z36 s.heap t1 t2 t3).get? (z32 s.heap t1 t2).objs.size=some _:=up (up (up (Heap.get?_push_size _ rfl)));have g2:(z36 s.heap t1 t2 t3).get? (z31 s.heap t1).objs.size=some _:=up (up (up (up (Heap.get?_push_size _ rfl))));have g1:(z36 s.heap t1 t2 t3).get? s.heap.objs.size=some _:=up (up (up (up (up (Heap.get?_push_size _ rfl)))));show _/\_;rw [z3,z4,z5] at g6;rw [z1,z2,z3] at g4;rw [z4] at g5;rw [z2] at g3;rw [z1] at g2;rw [z5];exact ⟨⟨_,g6,rfl⟩,q _ g6 g4 g5 ⟨_,g1,rfl,rfl⟩ ⟨_,g2,rfl,rfl⟩ ⟨_,g3,rfl,rfl⟩ λc o x=>up (up (up (up (up (up x)))))⟩
end
def Itz3 (K:Fg) (l1 l2 l3:Ad):It :=
  ⟨λi H=>∃ xs ys zs x y z,SqL K H l1 xs/\SqL K H l2 ys/\SqL K H l3 zs/\xs[i]?=some x/\ys[i]?=some y/\zs[i]?=some z,
   λi H x H'=>∃ T u v w,x=.ref T/\H T=none/\H'=upd H T (.tup [u,v,w])/\∀ xs ys zs,SqL K H l1 xs->SqL K H l2 ys->SqL K H l3 zs->xs[i]?=some u/\ys[i]?=some v/\zs[i]?=some w,
   λi H=>∃ xs,SqL K H l1 xs/\xs.length<=i⟩
def zbs {P:Program} {w:World} {A:Around} {E:Ja} {s:Sh} {es:Jh} {kt:Nat} {pos:Pos} {z TI TO T:Ad} {Q:Unit->Sh->Prop} (hz:IsZip s.heap z TI TO (rawInt T)) (q:∀ h',IsZip h' z TI TO .none->Heap.SameBut z s.heap h'->Q () { s with heap:=h' }) :
  wpAny (model P w) A (letOwnedTupleGo (.Tuple es kt pos) (.ref z) (.ref T)) Q E s:=wpAny_letOwnedTupleGo_zip hz q
def turn_z3 {P:Program} {w:World} {K:Fg} {es:Jh} {kt:Nat} {pos:Pos} {z TI TO i1 i2 i3 l1 l2 l3:Ad} (D:Apart3 z TI TO i1 i2 i3 l1 l2 l3) :
  Turn P w K (.Tuple es kt pos) (Itz3 K l1 l2 l3) [z,TI,TO,i1,i2,i3] z (λi h=>IsZip h z TI TO .none/\IsTrip h TI (.ref i1) (.ref i2) (.ref i3)/\(∃ a b c,IsTrip h TO a b c)/\h.IsListIter i1 l1 i/\h.IsListIter i2 l2 i/\h.IsListIter i3 l3 i) where
 mem:=by simp
 obj:=λi h st b hb=>by
  obtain ⟨hz,hI,⟨a,b',c',hO⟩,⟨o1,e1,c1,d1⟩,⟨o2,e2,c2,d2⟩,⟨o3,e3,c3,d3⟩⟩:=st;simp at hb;rcases hb with rfl | rfl | rfl | rfl | rfl | rfl
  ·exact ⟨_,hz,λv q=>by cases q⟩
  ·exact ⟨_,hI,λv q=>by cases q⟩
  ·exact ⟨_,hO,λv q=>by cases q⟩
  ·exact ⟨_,e1,λv q=>by rw [d1] at q;cases q⟩
  ·exact ⟨_,e2,λv q=>by rw [d2] at q;cases q⟩
  ·exact ⟨_,e3,λv q=>by rw [d3] at q;cases q⟩
 keep:=λi h h' st k=>by
  obtain ⟨hz,hI,⟨a,b',c',hO⟩,h1,h2,h3⟩:=st;exact ⟨k z (by simp) _ hz,k TI (by simp) _ hI,⟨a,b',c',k TO (by simp) _ hO⟩,h1.at λo e=>k i1 (by simp) o e,h2.at λo e=>k i2 (by simp) o e,h3.at λo e=>k i3 (by simp) o e⟩
 item:=by
  intro X hP hw hK hc i pins s σ H E I hf st hg;subst hP hw hK;obtain ⟨hz,hI,⟨a,b',c',hO⟩,h1,h2,h3⟩:=st;obtain ⟨xs,ys,zs,x,y,z',q1,q2,q3,ex,ey,ez⟩:=hg;obtain ⟨is1,r1,p1,_⟩:=I.list q1;obtain ⟨is2,r2,p2,_⟩:=I.list q2;obtain ⟨is3,r3,p3,_⟩:=I.list q3;obtain ⟨u,hu,ru⟩:=r1.get ex;obtain ⟨v,hv,rv⟩:=r2.get ey;obtain ⟨t,ht,rt⟩:=r3.get ez;refine next_z3 D hz hI hO h1 h2 h3 p1.isList p2.isList p3.isList (u:=u) (v:=v) (y:=t) (by simpa using hu) (by simpa using hv) (by simpa using ht) λh1' a1 a2 a3 a4 a4' a5 a6 hk=>?_;refine ⟨_,rfl,zbs (s:={ s with heap:=h1' }) a1 λh2' z'' sb=>?_⟩;have lt:∀ {c:Ad} {o:Obj},s.heap.get? c=some o->c≠s.heap.objs.size:=λe=>Nat.ne_of_lt (Heap.lt_size e);have Tz:s.heap.objs.size≠z:=(lt hz).symm;have fr:=I.hok.fresh (Nat.le_refl _);refine ⟨.ref s.heap.objs.size,upd H s.heap.objs.size (.tup [x,y,z']),I.turnedT (its:=[z,TI,TO,i1,i2,i3]) (t':=s.toks) (λb o nb e=>?_) hf (Nat.le_refl _) ⟨by show 3<=sizeLine;decide,[u,v,t],.cons ru (.cons rv (.cons rt .nil)),_,sb.extBut _ _ Tz a5,rfl,_,rfl⟩,rfl,⟨s.heap.objs.size,x,y,z',rfl,fr,rfl,λxs' ys' zs' q1' q2' q3'=>?_⟩,?_,λb hb=>?_⟩
  ·have nb':b≠z/\b≠TI/\b≠TO/\b≠i1/\b≠i2/\b≠i3:=by simpa using nb
   exact sb.extBut _ _ nb'.1 (hk b o nb'.1 nb'.2.2.1 nb'.2.2.2.1 nb'.2.2.2.2.1 nb'.2.2.2.2.2 e)
  ·rw [I.list_inj q1' q1,I.list_inj q2' q2,I.list_inj q3' q3];exact ⟨ex,ey,ez⟩
  ·exact ⟨z'',sb.extBut _ _ D.TIz (hk _ _ D.TIz D.TITO D.TIi1 D.TIi2 D.TIi3 hI),⟨_,_,_,sb.extBut _ _ D.TOz a2⟩,a3.extBut sb.extBut D.i1z,a4.extBut sb.extBut D.i2z,a4'.extBut sb.extBut D.i3z⟩
  ·have e:=(hf b hb).1
   have:∃ o,s.heap.get? b=some o:=by
    simp at hb;rcases hb with rfl | rfl | rfl | rfl | rfl | rfl
    ·exact ⟨_,hz⟩
    ·exact ⟨_,hI⟩
    ·exact ⟨_,hO⟩
    ·obtain ⟨o,e,_⟩:=h1;exact ⟨o,e⟩
    ·obtain ⟨o,e,_⟩:=h2;exact ⟨o,e⟩
    ·obtain ⟨o,e,_⟩:=h3;exact ⟨o,e⟩
   obtain ⟨o,eo⟩:=this;rw [zk (lt eo)];exact e
 done:=by
  intro X hP hw hK hc i pins s σ H E I hf st hg;subst hP hw hK;obtain ⟨hz,hI,⟨a,b',c',hO⟩,h1,h2,h3⟩:=st;obtain ⟨xs,q1,le⟩:=hg;obtain ⟨is1,r1,p1,_⟩:=I.list q1;have g1:=r1.length;refine zav (I.ok.hd hc) D hz hI hO h1 p1.isList (by simp;omega) λh1' hk=>⟨rfl,I.turnedL (its:=[z,TI,TO,i1,i2,i3]) (t':=s.toks) (λb o nb e=>?_) hf⟩;have nb':b≠z/\b≠TI/\b≠TO/\b≠i1/\b≠i2/\b≠i3:=by simpa using nb
  exact hk b o nb'.1 nb'.2.2.1 nb'.2.2.2.1 nb'.2.2.2.2.1 nb'.2.2.2.2.2 e
 self:=λ_ _ _ _ _ st h=>wpAny_pyIter_zip st.1 h
section
variable {X:Cx} {es:Jh} {kt:Nat} {tp:Pos}
inductive iZip3_S (K:Fg) (R:(It->Hp->Prop)) (vs:Jn) (H1:Hp):Prop
 | mk (l1 l2 l3:_) (_:vs=[.ref l1,.ref l2,.ref l3]) (_:(∃ xs,SqL K H1 l1 xs)) (_:(∃ ys,SqL K H1 l2 ys)) (_:(∃ zs,SqL K H1 l3 zs)) (_:R (Itz3 K l1 l2 l3) H1)
def iZip3 (K:Fg) (ta:TA):TI:=λσ H R=>ta σ H λvs H1=>iZip3_S K R vs H1
theorem vals3 {x y z:V} {us:Jd} (r:Vals [x,y,z] us):∃ u v t,us=[u,v,t]/\RelV x u/\RelV y v/\RelV z t:=by
 cases r with
 | cons ru r =>
  cases r with
  | cons rv r =>
   cases r with
   | cons rt r=>cases r;exact ⟨_,_,_,rfl,ru,rv,rt⟩
def zb2 {n l1 l2 l3:Nat} (h1:l1<n) (h2:l2<n) (h3:l3<n):Apart3 (n+5) (n+3) (n+4) n (n+1) (n+2) l1 l2 l3 :=
 have lt:∀ {a b:Nat},a<b->n+a≠n+b:=λh=>Nat.ne_of_lt (Nat.add_lt_add_left h n);have gt:∀ {a b:Nat},b<a->n+a≠n+b:=λh=>Nat.ne_of_gt (Nat.add_lt_add_left h n);have l:∀ {a:Nat},a<n->∀ k,a≠n+k:=λh k=>Nat.ne_of_lt (q2z h (Nat.le_add_right _ _))
 ⟨lt (by decide),lt (by decide),lt (by decide),lt (a:=0) (by decide),lt (by decide),lt (by decide),gt (b:=0) (by decide),gt (by decide),gt (by decide),gt (b:=0) (by decide),gt (by decide),gt (by decide),lt (a:=0) (by decide),lt (a:=0) (by decide),lt (by decide),l h1 5,l h2 5,l h3 5,l h2 0,l h2 4,l h3 0,l h3 1,l h3 4⟩
def pi_zip3 {a b c:Expr} {ta:TA} {p pos:Pos} (hg:Gl X "zip") (hm:X.mg "zip"=none) (ha:PA X [a,b,c] ta) (hs:starEach [a,b,c] X.env=[(false,eval a X.env),(false,eval b X.env),(false,eval c X.env)]:=by rfl)
  (hs2:starEach [b,c] X.env=[(false,eval b X.env),(false,eval c X.env)]:=by rfl):PI X (.Tuple es kt tp) (.Call (.Name "zip" p) [a,b,c] [] pos) (iZip3 X.K ta):=by
 intro pins s σ H R I h;refine Call_ (xD I hg hm boot_zip (PyProof.Rows.callWith_type1 (thn (ha pos pins s σ H _ I h) λus s1 ⟨vs,H1,I1,r1,q1⟩=>?_) (by rw [hs,hs2]) (by rw [hs2];rfl)));obtain ⟨l1,l2,l3,e,⟨xs,x1⟩,⟨ys,x2⟩,⟨zs,x3⟩,q⟩:=q1;subst e;obtain ⟨u,v,t,rfl,ru,rv,rt⟩:=vals3 r1;cases (show u=Value.ref l1 from ru);cases (show v=Value.ref l2 from rv);cases (show t=Value.ref l3 from rt);obtain ⟨is1,g1,p1,_⟩:=I1.list x1;obtain ⟨is2,g2,p2,_⟩:=I1.list x2;obtain ⟨is3,g3,p3,_⟩:=I1.list x3;have L1:l1<s1.heap.objs.size:=by obtain ⟨_,e,_⟩:=p1.isList;exact Heap.lt_size e
 have L2:l2<s1.heap.objs.size:=by obtain ⟨_,e,_⟩:=p2.isList;exact Heap.lt_size e
 have L3:l3<s1.heap.objs.size:=by obtain ⟨_,e,_⟩:=p3.isList;exact Heap.lt_size e
 refine call_z3 p1.isList p2.isList p3.isList λh' a1 a2 a3 a4 a5 a6 hk=>?_;refine wpAny_pyIter_zip (s:={ s1 with heap:=h' }) a1 ?_;have J:Inv X pins σ H1 { s1 with heap:=h' }:=I1.kept (t':=s1.toks) λb o e=>hk b o e;have fp:∀ n,xF X pins H1 (s1.heap.objs.size+n):=λn=>I1.fpOk (Nat.le_add_right _ _) (I1.hok.fresh (Nat.le_add_right _ _));refine ⟨_,_,_,_,H1,rfl,J,turn_z3 (zb2 L1 L2 L3),⟨a1,a2,⟨_,_,_,a3⟩,a4,a5,a6⟩,λb hb=>?_,q⟩;simp at hb;rcases hb with rfl | rfl | rfl | rfl | rfl | rfl
 ·exact fp 5
 ·exact fp 3
 ·exact fp 4
 ·exact fp 0
 ·exact fp 1
 ·exact fp 2
end
def comp_zip3 {K:Fg} {l1 l2 l3 D:Ad} {xs ys zs:Jn} {g:TG} {te:TE} {σY:St} {H1:Hp} {Q:VK} (Pv:Nat->St->Hp->Prop) (h0:Pv 0 σY H1) (hl:∀ i σ H,i<=xs.length->Pv i σ H->SqL K H l1 xs/\SqL K H l2 ys/\SqL K H l3 zs) (he:ys.length=xs.length) (he3:zs.length=xs.length)
  (hs:∀ i x y z σ H T,xs[i]?=some x->ys[i]?=some y->zs[i]?=some z->Pv i σ H->H T=none->g (.ref T) σ (upd H T (.tup [x,y,z])) λσ3 H3=>te σ3 H3 λv H4=>∃ ws,H4 D=some (.lst ws)/\ws.length<sizeLine/\Pv (i+1) σ3 (upd H4 D (.lst (ws++[v])))) (hd:∀ σ H,Pv xs.length σ H->Q (.ref D) H) :
  CompW (Itz3 K l1 l2 l3) g te σY H1 D Q:=by
 refine ⟨λi m σ H=>m=xs.length-i/\i<=xs.length/\Pv i σ H,⟨xs.length,by simp,Nat.zero_le _,h0⟩,?_⟩;rintro i m σ H ⟨rfl,hi,p⟩;obtain ⟨q1,q2,q3⟩:=hl i σ H hi p;by_cases hlt:i<xs.length
 ·refine .inr ⟨⟨xs,ys,zs,xs[i],ys[i],zs[i],q1,q2,q3,by simp [hlt],by simp [he,hlt],by simp [he3,hlt]⟩,Pv (i+1),λσ' H' p'=>⟨xs.length-(i+1),by omega,rfl,hlt,p'⟩,λx H' y=>?_⟩
  obtain ⟨T,u,v,w,e,nT,e',y⟩:=y;subst e e';obtain ⟨y1,y2,y3⟩:=y xs ys zs q1 q2 q3;exact hs i u v w σ H T y1 y2 y3 p nT
 ·have e:i=xs.length:=by omega
  subst e;exact .inl ⟨⟨xs,q1,Nat.le_refl _⟩,hd σ H p⟩
end L2
namespace L2
open PySem
namespace Hd
def over {B J J2:Hp} {L:Jm} (h:Hd B L J) (s:Same J J2):∃ B2,Same B B2/\Hd B2 L J2/\∀ a o,J2 a=some o->a ∉ L.map Prod.fst->B2 a=some o:=by
 classical
 refine ⟨λa=>if a∈L.map Prod.fst then none else J2 a,λa o e=>?_,⟨h.nd,λp q=>?_,λp q=>s _ _ (h.st p q),λa o e=>?_⟩,λa o e n=>?_⟩
 ·have na:a ∉ L.map Prod.fst:=λm=>by
   obtain ⟨p,hp,rfl⟩:=List.mem_map.mp m;rw [h.nw p hp] at e;cases e
  show (if _ then _ else _)=_;rw [if_neg na];exact s _ _ (h.sm _ _ e)
 ·show (if _ then _ else _)=_
  rw [if_pos (List.mem_map_of_mem q)]
 ·have e:(if a∈L.map Prod.fst then none else J2 a)=some o:=e
  split at e
  ·cases e
  ·exact e
 ·show (if _ then _ else _)=_
  rw [if_neg n];exact e
end Hd
end L2
namespace L2
open PySem PySem.Spec PyProof.Rows
structure PB (X:Cx) (sts:List Stmt) (t:TS):Prop where
 h:PSs X sts t
structure PW1 (X:Cx) (st:Stmt) (t:TS):Prop where
 h:PS X st t
section
variable {X:Cx} {st:Stmt} {rest:List Stmt} {t u:TS}
def zZ (h1:PW1 X st t) (h2:PB X rest u):PB X (st::rest) (tSeq t u):=⟨zc h1.h h2.h⟩
def pb_one (h1:PW1 X st t):PB X [st] t:=⟨zg h1.h⟩
end
section
variable {P:Program} {w:World} {K:Fg} {mg:J9} {base:Heap}
def Fun.okB {x qual:Str} {st:Stmt} {f:Ad} {fd:FuncData} {N ps:Jf} {k:Nat} {sp:Sp} (F:Fun K x qual st f fd) (S:FnScope N ps (zh st)) (len:∀ vs H Q E,sp vs H Q E->vs.length=ps.length)
  (hbody:∀ (cdv:Vl) (A:Around) (outer:List Env) (s:Sh) (H:Hp) (vs:Jn) (Q:VK) (E:XK),Room k (A.deeper (envOfC qual (zh st) s.heap.objs.size f cdv))->sp vs H Q E ->
   ∃ t,PB (yd CX0 P w K mg base N qual (zh st) f cdv A outer s H E).nox (yv st) t/\t { nx:=λ_ H'=>Q .non H',rt:=Q } (ZJ N vs) H):FnOk P w K mg base CX0 (k+1) f fd ps sp :=
 F.ok S len λcdv A outer s H vs Q E hr h=>let ⟨t,q,z⟩:=hbody cdv A outer s H vs Q E hr h;⟨t,q.h,z⟩
end
end L2
namespace K37
open PySem L2
abbrev rq (a:Ad):Jo:=some (.ref a)
abbrev iq (n:Int):Jo:=some (.int n)
def top (i:Nat):Stmt:=PySem.Challenge.pw_rowbreadth_k37_masks_and_dust.main.body.getD i (.Pass ⟨0,0,0,0⟩)
abbrev xY:Stmt:=top 6
def zai:FnScope ["lengths","row"] ["lengths","row"] (zh xY):=scK
abbrev xH:Stmt:=top 45
def sc_play_trim:FnScope ["bench","step","faulted","lane"] ["bench","step"] (zh xH):=scK
abbrev xp:Stmt:=top 47
def sc_lay_chosen:FnScope ["bench","step","nought","active","numbers","lane","number"] ["bench","step","nought"] (zh xp):=scK
abbrev xf:Stmt:=top 48
def YH:FnScope ["bench","step"] ["bench","step"] (zh xf):=scK
abbrev xn:Stmt:=top 49
def Xi:FnScope ["bench","step"] ["bench","step"] (zh xn):=scK
abbrev xm:Stmt:=top 51
def sc_play_store:FnScope ["bench","step","active","lane","number"] ["bench","step"] (zh xm):=scK
abbrev xq:Stmt:=top 60
def Xk:FnScope ["word"] ["word"] (zh xq):=scK
abbrev xc:Stmt:=top 61
def YG:FnScope ["bench","step"] ["bench","step"] (zh xc):=scK
abbrev yy:Stmt:=top 63
def ZB:FnScope ["bench","step","active"] ["bench","step","active"] (zh yy):=scK
abbrev yz:Stmt:=top 64
def sc_numbers_of_here:FnScope ["bench","step","active","lane"] ["bench","step","active"] (zh yz):=scK
abbrev yM:Stmt:=top 65
def sc_numbers_loaded:FnScope ["bench","step","active","lane"] ["bench","step","active"] (zh yM):=scK
abbrev yA:Stmt:=top 69
def ZC:FnScope ["bench","row","place","lane"] ["bench","row","place","lane"] (zh yA):=scK
abbrev yo:Stmt:=top 70
def sc_numbers_gathered:FnScope ["bench","step","active","places","place","lane"] ["bench","step","active"] (zh yo):=scK
abbrev yL:Stmt:=top 73
def sc_numbers_picked:FnScope ["bench","step","active","lefts","rights","truths","left","right","lane"] ["bench","step","active"] (zh yL):=scK
abbrev yN:Stmt:=top 74
def ZK:FnScope ["bench","step","active"] ["bench","step","active"] (zh yN):=scK
abbrev xJ:Stmt:=top 77
def XN:FnScope ["word"] ["word"] (zh xJ):=scK
abbrev yK:Stmt:=top 78
def sc_play_seat_step:FnScope ["bench","step","active"] ["bench","step"] (zh yK):=scK
abbrev xo:Stmt:=top 80
def Xj:FnScope ["bench","step"] ["bench","step"] (zh xo):=scK
abbrev xI:Stmt:=top 81
def sc_play_next:FnScope ["bench","step","base"] ["bench","step"] (zh xI):=scK
abbrev yZ:Stmt:=top 86
def Yv:FnScope ["bench","step"] ["bench","step"] (zh yZ):=scK
abbrev s_ran:Stmt:=top 87
def sc_ran:FnScope ["code","lengths","cells","lanes","dust","picks","bench"] ["code","lengths","cells","lanes","dust","picks"] (zh s_ran):=scK
abbrev xK:Stmt:=top 89
def XO:FnScope ["_law_script","_law_k"] ["_law_script","_law_k"] (zh xK):=scK
abbrev ZM:Stmt:=top 90
def sc_l_some:FnScope ["_law_script","_law_k","_law_salt","_law_many","_law_cell","_law_mixed"] ["_law_script","_law_k","_law_salt","_law_many"] (zh ZM):=scK
abbrev x6:Stmt:=top 91
def sc_l_number:FnScope ["_law_script","_law_k","_law_cell","_law_mixed"] ["_law_script","_law_k"] (zh x6):=scK
abbrev xy:Stmt:=top 92
def sc_l_alike:FnScope ["_law_found","_law_due","_law_one","_law_other"] ["_law_found","_law_due"] (zh xy):=scK
abbrev Zo:Stmt:=top 93
def zbi:FnScope ["_law_cell"] ["_law_cell"] (zh Zo):=scK
abbrev Zp:Stmt:=top 94
def zbj:FnScope ["_law_script","_law_k","_law_salt"] ["_law_script","_law_k","_law_salt"] (zh Zp):=scK
abbrev ZO:Stmt:=top 95
def sc_l_dust:FnScope ["_law_script","_law_k","_law_salt","_law_j"] ["_law_script","_law_k","_law_salt"] (zh ZO):=scK
abbrev Yz:Stmt:=top 96
def sc_l_ran:FnScope ["_law_code","_law_lengths","_law_cells","_law_lanes_here","_law_dust_here","_law_picks","_law_handed","_law_found"] ["_law_code","_law_lengths","_law_cells","_law_lanes_here","_law_dust_here","_law_picks"] (zh Yz):=scK
abbrev ZL:Stmt:=top 97
def sc_l_step:FnScope ["_law_script","_law_k","_law_seats","_law_masks","_law_word","_law_p","_law_q","_law_r","_law_m"] ["_law_script","_law_k","_law_seats","_law_masks"] (zh ZL):=scK
abbrev Zn:Stmt:=top 98
def sc_l_taken:FnScope ["_law_world"] ["_law_world"] (zh Zn):=scK
abbrev xg:Stmt:=top 99
def sc_l_number_of:FnScope ["_law_world","_law_step_here","_law_side","_law_lane","_law_element","_law_flat","_law_at"] ["_law_world","_law_step_here","_law_side","_law_lane","_law_element"] (zh xg):=scK
abbrev x8:Stmt:=top 100
def sc_l_masked:FnScope ["_law_world","_law_step_here","_law_side","_law_lane","_law_active","_law_nought","_law_truth"] ["_law_world","_law_step_here","_law_side","_law_lane","_law_active"] (zh x8):=scK
abbrev ZN:Stmt:=top 101
def sc_l_laid:FnScope ["_law_world","_law_step_here","_law_side","_law_lane","_law_active","_law_element","_law_number_here"] ["_law_world","_law_step_here","_law_side","_law_lane","_law_active","_law_element"] (zh ZN):=scK
abbrev xZ:Stmt:=top 102
def sc_l_played:FnScope ["_law_world","_law_step_here","_law_side","_law_base","_law_lane","_law_active","_law_address"] ["_law_world","_law_step_here","_law_side","_law_base"] (zh xZ):=scK
abbrev YJ:Stmt:=top 103
def sc_law:FnScope ["_law_script","_law_many","_law_longest","_law_lanes_here","_law_group_here","_law_side","_law_seats","_law_masks","_law_k","_law_cells","_law_last","_law_steps","_law_turn","_law_p","_law_dust_here","_law_world","_law_base","_law_width","_law_step_here","_law_code","_law_found"] ["_law_script"] (zh YJ):=scK
abbrev xu:Stmt:=yj (top 2) 0
def Xl:FnScope ["self","lanes"] ["self","lanes"] (zh xu):=scK
abbrev yT:Stmt:=yj (top 2) 1
def Yb:FnScope ["self","group","seat","lane"] ["self","group","seat","lane"] (zh yT):=scK
abbrev xM:Stmt:=yj (top 2) 2
def XR:FnScope ["self","group","seat","lane","number"] ["self","group","seat","lane","number"] (zh xM):=scK
abbrev yB:Stmt:=yj (top 2) 3
def ZD:FnScope ["self","group","seat","lane"] ["self","group","seat","lane"] (zh yB):=scK
abbrev xL:Stmt:=yj (top 4) 0
def XQ:FnScope ["self","numbers"] ["self","numbers"] (zh xL):=scK
abbrev xt:Stmt:=yj (top 4) 1
def sc_Feed_taken:FnScope ["self","number"] ["self"] (zh xt):=scK
abbrev xv:Stmt:=yj (top 10) 0
def sc_Bench_init:FnScope ["self","lengths","cells","lanes","dust","picks","row","mask"] ["self","lengths","cells","lanes","dust","picks"] (zh xv):=scK
abbrev yq:Stmt:=yj (top 10) 1
def sc_Bench_open_round:FnScope ["self","many","group"] ["self","many","group"] (zh yq):=scK
abbrev yi:Stmt:=yj (top 10) 2
def sc_Bench_begin_strip:FnScope ["self","base"] ["self","base"] (zh yi):=scK
abbrev yf:Stmt:=yj (top 10) 3
def sc_Bench_active_under:FnScope ["self","mask","truths","lane"] ["self","mask"] (zh yf):=scK
abbrev yr:Stmt:=yj (top 10) 4
def sc_Bench_numbers_in:FnScope ["self","seat","active","lane"] ["self","seat","active"] (zh yr):=scK
abbrev yO:Stmt:=yj (top 10) 5
def sc_Bench_lay_seat:FnScope ["self","seat","active","numbers","told","lane","number"] ["self","seat","active","numbers"] (zh yO):=scK
abbrev yP:Stmt:=yj (top 10) 6
def sc_Bench_lay_mask:FnScope ["self","mask","chosen","truths","lane"] ["self","mask","chosen"] (zh yP):=scK
abbrev xh:Stmt:=yj (top 10) 7
def YI:FnScope ["self","kind","address"] ["self","kind","address"] (zh xh):=scK
abbrev yC:Stmt:=yj (top 10) 8
def sc_Bench_read_cell:FnScope ["self","row","place","address"] ["self","row","place"] (zh yC):=scK
abbrev yp:Stmt:=yj (top 10) 9
def sc_Bench_write_cell:FnScope ["self","row","place","number","address"] ["self","row","place","number"] (zh yp):=scK
section
variable {P:Program} {w:World} {K:Fg} {mg:J9} {base:Heap}
structure Ints (K:Fg) (mg:J9):Prop where
 isi:mg "isinstance"=none
 int:mg "int"=none
 bool:mg "bool"=none
 ii:PySem.W.kitOne K (.type "int") (.type "int")=some true
 ib:PySem.W.kitOne K (.type "int") (.type "bool")=some false
structure FCls (K:Fg) (C:Ad):Prop where
 c:Cls K C
 n1:NoAttr K C "numbers"
 n2:NoAttr K C "at"
abbrev Zz (C dx:Ad) (l:Ad) (p:Int):HO:=.ins C dx [("numbers",.ref l),("at",.int p)]
def fAt (ns:Jb) (q:Nat):Int:=if ns.length=0 then 0 else ((q % ns.length:Nat):Int)
def y9 (ns:Jb) (q:Nat):Int:=ns.getD (q % ns.length) 0
inductive spInitF (K:Fg) (C:Ad) (vs:Jn) (H:Hp) (Q:VK) (_:XK):Prop
 | mk (x dx a:Ad) (ns:Jb) (_:vs=[.ref x,.ref a]) (_:H x=some (.ins C dx [])) (_:SqL K H a (ns.map V.int)) (_:∀ (H':Hp) (l:Ad),(∀ b o,b≠x->H b=some o->H' b=some o)->H l=none->H' x=some (Zz C dx l 0)->H' l=some (.lst (ns.map V.int))->Q .non H')
def ok_initF {C:Ad} (d:ZH K C "Feed.__init__" xL ["self","numbers"]) (b:FCls K C) (hlist:mg "list"=none):OkI P w K mg base CX0 1 C ["self","numbers"] (spInitF K C):=by
 obtain ⟨f,fd,m,F,bd⟩:=d;refine ⟨f,fd,m,bd,F.ok XQ (by rintro vs H Q E ⟨_,_,_,_,e,_⟩;rw [e];rfl) λcdv A outer s H vs Q E hr h=>?_⟩;obtain ⟨x,dx,a,ns,rfl,hx,hS,k⟩:=h;refine ⟨_,(zc (zJ (pv 0) (yl ya (by rfl) hlist PyProof.Rows.boot_list (zb (pv 1) ze)) rfl)
   (zg (zJ (pv 0) zd rfl))),?_⟩
 dsimp only [yd,Cx.nox,Cx.wish];refine ⟨_,rfl,a,_,rfl,.inl hS,λl nl=>?_⟩;have nx:x≠l:=zp hx nl;refine ⟨_,rfl,x,C,dx,[],rfl,by rw [zk nx];exact hx,b.c,b.n1,by decide,?_⟩;refine ⟨_,rfl,x,C,dx,[("numbers",.ref l)],rfl,zf,b.c,b.n2,(by show 1<1000;decide),?_⟩;refine k _ l (λc o nc z=>?_) nl zf ?_
 ·rw [zk nc,zk nc,zk (zp z nl)]
  exact z
 ·rw [zk (Ne.symm nx),zk (Ne.symm nx),zf]
inductive spTaken (C:Ad) (vs:Jn) (H:Hp) (Q:VK) (_:XK):Prop
 | mk (x dx l:Ad) (ns:Jb) (q:Nat) (_:vs=[.ref x]) (_:H x=some (Zz C dx l (fAt ns q))) (_:H l=some (.lst (ns.map V.int))) (_:∀ H',(∀ b o,b≠x->H b=some o->H' b=some o)->H' x=some (Zz C dx l (fAt ns (q+1)))->Q (.int (y9 ns q)) H')
def ok_taken {C:Ad} (d:zV K C "taken" "Feed.taken" xt ["self"]) (b:FCls K C) (hlen:mg "len"=none):OkM P w K mg base CX0 1 C "taken" ["self"] (spTaken C):=by
 obtain ⟨f,fd,m,F,bd⟩:=d;refine ⟨f,fd,m,bd,F.ok sc_Feed_taken (by rintro vs H Q E ⟨_,_,_,_,_,e,_⟩;rw [e];rfl) λcdv A outer s H vs Q E hr h=>?_⟩;obtain ⟨x,dx,l,ns,q,rfl,hx,hl,k⟩:=h;have nd:=sc_Feed_taken.nd;refine ⟨_,(zc (zO (zD ye (zC zN (by rfl) hlen PySem.boot_len (zb (zu (pv 0) rfl) ze)) zd (zy _)) (zg (zo zd)) zw)
   (zc (zt (i:=1) nd rfl (Or.inl rfl) (zm zE (zu (pv 0) rfl) (zu (pv 0) rfl) (λ_ _=>rfl)))
   (zc (zJ (pv 0) (zj yS (zj zF (zu (pv 0) rfl) zd) (zC zN (by rfl) hlen PySem.boot_len (zb (zu (pv 0) rfl) ze))) rfl)
   (zg (zo (pv 1)))))),?_⟩
 dsimp only [yd,Cx.nox,Cx.wish];refine ⟨_,rfl,x,C,dx,_,.ref l,rfl,hx,b.c,b.n1,rfl,l,_,rfl,.inl (SqL.of hl),rfl,_,rfl,?_⟩;rw [Ji];refine xE (λz=>?_) (λz=>?_)
 ·have z:(ns.length:Int)=0:=by simpa using z
  have e:ns=[]:=List.length_eq_zero_iff.mp (by omega);subst e;exact k H (λb o _ z=>z) hx
 ·have z:ns.length≠0:=by simpa using z
  have lt:q % ns.length<ns.length:=Nat.mod_lt _ (by omega);have e1:fAt ns q=((q % ns.length:Nat):Int):=if_neg z;have e2:fAt ns (q+1)=(((q+1) % ns.length:Nat):Int):=if_neg z;have nx:x≠l:=ne_of hx hl (by intro y;cases y);refine ⟨_,rfl,x,C,dx,_,.ref l,rfl,hx,b.c,b.n1,rfl,_,rfl,x,C,dx,_,.int (fAt ns q),rfl,hx,b.c,b.n2,rfl,l,_,_,_,rfl,rfl,SqL.of hl,Zm (q % ns.length) lt e1,?_⟩;refine ⟨_,rfl,x,C,dx,_,.int (fAt ns q),rfl,hx,b.c,b.n2,rfl,_,_,rfl,rfl,_,rfl,x,C,dx,_,.ref l,rfl,hx,b.c,b.n1,rfl,l,_,rfl,.inl (SqL.of hl),_,_,rfl,rfl,(by rw [Ji];omega),?_⟩;refine ⟨_,rfl,x,C,dx,_,rfl,hx,b.c,b.n2,(by show 2<1000;decide),?_⟩;refine ⟨_,rfl,k _ (λc o nc z=>by rw [zk nc];exact z) ?_⟩
  have e3:(fAt ns q+1) % ((ns.map V.int).length:Int)=fAt ns (q+1):=by
   rw [e1,e2,Ji];have h1:(((q % ns.length:Nat):Int)+1)=((q % ns.length+1:Nat):Int):=by omega
   rw [h1,← Int.natCast_emod,Nat.mod_add_mod]
  rw [zf,← e3];rfl
structure BCls (K:Fg) (C:Ad):Prop where
 c:Cls K C
 n1:NoAttr K C "lanes"
 n2:NoAttr K C "numbers"
abbrev boxO (C dx:Ad) (L:Int) (l:Ad):HO:=.ins C dx [("lanes",.int L),("numbers",.ref l)]
inductive spInitB (C:Ad) (vs:Jn) (H:Hp) (Q:VK) (_:XK):Prop
 | mk (x dx:Ad) (L:Int) (_:vs=[.ref x,.int L]) (_:H x=some (.ins C dx [])) (_:1<=L) (_:L<=64) (_:∀ (H':Hp) (l:Ad),(∀ b o,b≠x->H b=some o->H' b=some o)->H l=none->H' x=some (boxO C dx L l)->H' l=some (.lst ((List.replicate (8*L).toNat (0:Int)).map V.int))->Q .non H')
def ok_initB {C:Ad} {t:Tok} (d:ZH K C "Boxes.__init__" xu ["self","lanes"]) (b:BCls K C) (hMB:mg "MANY_BOXES"=some (.int 8 t)):OkI P w K mg base CX0 1 C ["self","lanes"] (spInitB C):=by
 obtain ⟨f,fd,m,F,bd⟩:=d;refine ⟨f,fd,m,bd,F.ok Xl (by rintro vs H Q E ⟨_,_,_,e,_⟩;rw [e];rfl) λcdv A outer s H vs Q E hr h=>?_⟩;obtain ⟨x,dx,L,rfl,hx,h1,h2,k⟩:=h;refine ⟨_,zc (zJ (pv 0) (pv 1) rfl) (zg (zJ (pv 0) (zj ZE (yu (zb zd ze)) (zj zP (XY hMB) (pv 1))) rfl)),?_⟩;refine ⟨_,rfl,_,rfl,x,C,dx,[],rfl,hx,b.c,b.n1,by decide,?_⟩;refine ⟨(by show 1<=sizeLine;decide),λt nt=>⟨_,rfl,_,_,rfl,rfl,.inl ⟨by decide,by decide⟩,t,_,_,rfl,rfl,zf,by omega,by omega,?_,λl nl=>?_⟩⟩
 ·show 1*(8*L).toNat<=sizeLine
  have:(600:Nat)<=sizeLine:=by decide
  omega
 have nx:x≠t:=zp (o:=.ins C dx [("lanes",.int L)]) zf nt;have nl':x≠l:=zp (o:=.ins C dx [("lanes",.int L)]) (by rw [zk nx,zf];rfl) nl;refine ⟨_,rfl,x,C,dx,[("lanes",.int L)],rfl,?_,b.c,b.n2,(by show 1<1000;decide),?_⟩
 ·rw [zk nl',zk nx,zf];rfl
 rw [rep_ints];have lt:l≠t:=Ne.symm (zp (o:=.lst [.int 0]) zf nl)
 have hl:H l=none:=by
  have z:=nl;rw [zk lt,zk (Ne.symm nl')] at z;exact z
 have ht:H t=none:=by
  have z:=nt;rw [zk (Ne.symm nx)] at z;exact z
 refine k _ l (λc o nc z=>?_) hl zf ?_
 ·rw [zk nc,zk (zp z hl),zk (zp z ht),zk nc]
  exact z
 ·rw [zk (Ne.symm nl'),zf]
inductive spSpot (C:Ad) (vs:Jn) (H:Hp) (Q:VK) (_:XK):Prop
 | mk (x dx l:Ad) (L g p j:Int) (_:vs=[.ref x,.int g,.int p,.int j]) (_:H x=some (boxO C dx L l)) (_:1<=L) (_:L<=64) (_:1<=g) (_:g<=4) (_:Q (.int (p*g*L+j)) H)
def ok_spot {C:Ad} (d:zV K C "spot_of" "Boxes.spot_of" yT ["self","group","seat","lane"]) (b:BCls K C):OkM P w K mg base CX0 1 C "spot_of" ["self","group","seat","lane"] (spSpot C):=by
 obtain ⟨f,fd,m,F,bd⟩:=d;refine ⟨f,fd,m,bd,F.ok Yb (by rintro vs H Q E ⟨_,_,_,_,_,_,_,e,_⟩;rw [e];rfl) λcdv A outer s H vs Q E hr h=>?_⟩;obtain ⟨x,dx,l,L,g,p,j,rfl,hx,h1,h2,h3,h4,k⟩:=h;refine ⟨_,(zg (zo (zj zF (zj zP (zj zP (pv 2) (pv 1)) (zu (pv 0) rfl)) (pv 3)))),?_⟩;dsimp only [yd,Cx.nox,Cx.wish];exact ⟨_,rfl,_,rfl,_,_,rfl,rfl,.inr ⟨by omega,by omega⟩,_,rfl,x,C,dx,_,.int L,rfl,hx,b.c,b.n1,rfl,_,_,rfl,rfl,.inr ⟨by omega,by omega⟩,_,rfl,_,_,rfl,rfl,k⟩
inductive spLay (C:Ad) (vs:Jn) (H:Hp) (Q:VK) (_:XK):Prop
 | mk (x dx l:Ad) (L g p j n:Int) (nums:Jb) (_:vs=[.ref x,.int g,.int p,.int j,.int n]) (_:H x=some (boxO C dx L l)) (_:H l=some (.lst (nums.map V.int))) (_:1<=L) (_:L<=64) (_:1<=g) (_:g<=4) (_:0<=p*g*L+j) (_:p*g*L+j<nums.length) (_:Q .non (upd H l (.lst ((nums.set (p*g*L+j).toNat n).map V.int))))
def ok_lay {C:Ad} (d:zV K C "lay" "Boxes.lay" xM ["self","group","seat","lane","number"]) (b:BCls K C) (SO:OkM P w K mg base CX0 1 C "spot_of" ["self","group","seat","lane"] (spSpot C)):OkM P w K mg base CX0 2 C "lay" ["self","group","seat","lane","number"] (spLay C):=by
 obtain ⟨f,fd,m,F,bd⟩:=d;refine ⟨f,fd,m,bd,F.ok XR (by rintro vs H Q E ⟨_,_,_,_,_,_,_,_,_,e,_⟩;rw [e];rfl) λcdv A outer s H vs Q E hr h=>?_⟩;obtain ⟨x,dx,l,L,g,p,j,n,nums,rfl,hx,hl,h1,h2,h3,h4,h5,h6,k⟩:=h;have hr1:=hr;have cC:=b.c;refine ⟨_,(zg (Za (pv 4) (Zb (zu (pv 0) rfl) (zY SO cC hr1 zq (pv 0) (zb (pv 1) (zb (pv 2) (zb (pv 3) ze)))) yX))),?_⟩;dsimp only [yd,Cx.nox,Cx.wish];refine ⟨_,rfl,_,rfl,x,C,dx,_,.ref l,rfl,hx,b.c,b.n2,rfl,_,rfl,x,dx,_,rfl,hx,rfl,_,rfl,_,rfl,_,rfl,x,dx,l,L,g,p,j,rfl,hx,h1,h2,h3,h4,?_⟩;refine ⟨l,_,_,_,rfl,rfl,hl,ixN_nat h5 (by rw [Ji];exact h6),?_⟩;rw [set_ints];exact k
inductive spNum (C:Ad) (vs:Jn) (H:Hp) (Q:VK) (_:XK):Prop
 | mk (x dx l:Ad) (L g p j:Int) (nums:Jb) (_:vs=[.ref x,.int g,.int p,.int j]) (_:H x=some (boxO C dx L l)) (_:H l=some (.lst (nums.map V.int))) (_:1<=L) (_:L<=64) (_:1<=g) (_:g<=4) (_:0<=p*g*L+j) (_:p*g*L+j<nums.length) (_:Q (.int (nums.getD (p*g*L+j).toNat 0)) H)
def ok_num {C:Ad} (d:zV K C "number_at" "Boxes.number_at" yB ["self","group","seat","lane"]) (b:BCls K C) (SO:OkM P w K mg base CX0 1 C "spot_of" ["self","group","seat","lane"] (spSpot C)):OkM P w K mg base CX0 2 C "number_at" ["self","group","seat","lane"] (spNum C):=by
 obtain ⟨f,fd,m,F,bd⟩:=d;refine ⟨f,fd,m,bd,F.ok ZD (by rintro vs H Q E ⟨_,_,_,_,_,_,_,_,e,_⟩;rw [e];rfl) λcdv A outer s H vs Q E hr h=>?_⟩;obtain ⟨x,dx,l,L,g,p,j,nums,rfl,hx,hl,h1,h2,h3,h4,h5,h6,k⟩:=h;have hr1:=hr;have cC:=b.c;refine ⟨_,(zg (zo (zm zE (zu (pv 0) rfl) (zY SO cC hr1 zq (pv 0) (zb (pv 1) (zb (pv 2) (zb (pv 3) ze)))) (λ_ _=>rfl)))),?_⟩;dsimp only [yd,Cx.nox,Cx.wish];exact ⟨_,rfl,x,C,dx,_,.ref l,rfl,hx,b.c,b.n2,rfl,_,rfl,x,dx,_,rfl,hx,rfl,_,rfl,_,rfl,_,rfl,x,dx,l,L,g,p,j,rfl,hx,h1,h2,h3,h4,l,_,_,_,rfl,rfl,SqL.of hl,Zm (p*g*L+j).toNat (by omega) (by omega),k⟩
end
end K37
namespace L2
open PySem
def Zr {X:Cx} {K:Fg} {e:Expr} {f:Str} {pos:Pos} {ta:TE} (h:X.K=K) (he:PE X e ta) (hb:attributeBase e f X.env (eval e X.env)=eval e X.env):PE X (.Attribute e f pos) (tFld K ta f):=h ▸ zu he hb
end L2
namespace K37
open PySem L2
variable {P:Program} {w:World} {K:Fg} {mg:J9} {base:Heap}
structure MCs where
 bx:Ad
 fe:Ad
 bn:Ad
structure Mc where
 lens:Jb
 starts:Jb
 cells:Jb
 lq:Nat
 nums:Jb
 masks:List (List Bool)
 slots:Jl
 dust:Jb
 dq:Nat
 picks:Jb
 pq:Nat
 tq:List (Int×Str×Int)
 pc:Int
 oq:Int
 mn_:Int
 group:Int
 base:Int
 bq:Int
 wq:Int
 fq:Jl
 cut:Option Int
 cq:Option Int
 raised:Bool
 turns:List (Int×Int)
 rq_:Option (Int×Int×Str)
structure Ma where
 b:Ad
 db:Ad
 aL:Ad
 aS:Ad
 aC:Ad
 bx:Ad
 dbx:Ad
 aN:Ad
 aM:Ad
 aSl:Ad
 fd:Ad
 dfd:Ad
 aD:Ad
 fp:Ad
 dfp:Ad
 aP:Ad
 aT:Ad
 aF:Ad
 aU:Ad
 ms:Jg
 ts:Jg
 us:Jg
 rf:V
def oV:Option Int->V
 | none=>.non
 | some n=>.int n
def xb (A:Ma) (M:Mc):List (Str×V):=[("lengths",.ref A.aL),("starts",.ref A.aS),("cells",.ref A.aC),("lanes",.int M.lq),("boxes",.ref A.bx),("masks",.ref A.aM),("slots",.ref A.aSl),("dust",.ref A.fd),("picks",.ref A.fp),("touches",.ref A.aT),("at",.int M.pc),("opened",.int M.oq),("many",.int M.mn_),("group",.int M.group),("base",.int M.base),("begun",.int M.bq),("width",.int M.wq),("faults",.ref A.aF),("cut",oV M.cut),("carried",oV M.cq),("raised",.bl M.raised),("turns",.ref A.aU),("refusal",A.rf)]
def xT (A:Ma) (M:Mc):Jm:=(A.ms.zip M.masks).map λp=>(p.1,.lst (p.2.map V.bl))
def objs (c:MCs) (A:Ma) (M:Mc) (R:Jm):Jm :=
 (A.b,.ins c.bn A.db (xb A M))::(A.aC,.lst (M.cells.map V.int))::(A.aN,.lst (M.nums.map V.int))::(A.aSl,.dK M.slots)::(A.fd,Zz c.fe A.dfd A.aD (fAt M.dust M.dq))::(A.fp,Zz c.fe A.dfp A.aP (fAt M.picks M.pq))::(A.aT,.lst (A.ts.map V.ref))::(A.aF,.dK M.fq)::(A.aU,.lst (A.us.map V.ref))::(xT A M++R)
structure BenchB (c:MCs) (B:Hp) (A:Ma) (M:Mc):Prop where
 lens:B A.aL=some (.lst (M.lens.map V.int))
 starts:B A.aS=some (.lst (M.starts.map V.int))
 bx:B A.bx=some (boxO c.bx A.dbx M.lq A.aN)
 msk:B A.aM=some (.lst (A.ms.map V.ref))
 ml:A.ms.length=M.masks.length
 dl:B A.aD=some (.lst (M.dust.map V.int))
 pl:B A.aP=some (.lst (M.picks.map V.int))
 tl:A.ts.length=M.tq.length
 tt:∀ (i:Nat) (t:Ad) (p:Int×Str×Int),A.ts[i]?=some t->M.tq[i]?=some p->B t=some (.tup [.int p.1,.str p.2.1,.int p.2.2])
 ul:A.us.length=M.turns.length
 uu:∀ (i:Nat) (t:Ad) (p:Int×Int),A.us[i]?=some t->M.turns[i]?=some p->B t=some (.tup [.int p.1,.int p.2])
 rf:match M.rq_ with
  | none=>A.rf=.non
  | some r=>∃ t,A.rf=.ref t/\B t=some (.tup [.int r.1,.int r.2.1,.str r.2.2])
theorem BenchB.same {c:MCs} {B B':Hp} {A:Ma} {M:Mc} (h:BenchB c B A M) (s:Same B B'):BenchB c B' A M:=by
 refine ⟨s _ _ h.lens,s _ _ h.starts,s _ _ h.bx,s _ _ h.msk,h.ml,s _ _ h.dl,s _ _ h.pl,h.tl,λi t p a b=>s _ _ (h.tt i t p a b),h.ul,λi t p a b=>s _ _ (h.uu i t p a b),?_⟩;have:=h.rf;revert this
 cases M.rq_ with
 | none=>exact λz=>z
 | some r=>exact λ⟨t,a,b⟩=>⟨t,a,s _ _ b⟩
structure NCls (K:Fg) (C:Ad):Prop where
 c:Cls K C
 lengths:NoAttr K C "lengths"
 starts:NoAttr K C "starts"
 cells:NoAttr K C "cells"
 lq:NoAttr K C "lanes"
 boxes:NoAttr K C "boxes"
 masks:NoAttr K C "masks"
 slots:NoAttr K C "slots"
 dust:NoAttr K C "dust"
 picks:NoAttr K C "picks"
 tq:NoAttr K C "touches"
 pc:NoAttr K C "at"
 oq:NoAttr K C "opened"
 mn_:NoAttr K C "many"
 group:NoAttr K C "group"
 base:NoAttr K C "base"
 bq:NoAttr K C "begun"
 wq:NoAttr K C "width"
 fq:NoAttr K C "faults"
 cut:NoAttr K C "cut"
 cq:NoAttr K C "carried"
 raised:NoAttr K C "raised"
 turns:NoAttr K C "turns"
 rq_:NoAttr K C "refusal"
structure MCls (K:Fg) (c:MCs):Prop where
 b:BCls K c.bx
 f:FCls K c.fe
 n:NCls K c.bn
structure MAt (c:MCs) (B:Hp) (A:Ma) (M:Mc) (R:Jm) (H:Hp):Prop where
 bb:BenchB c B A M
 h:Hd B (objs c A M R) H
def MAt.b {c:MCs} {B:Hp} {A:Ma} {M:Mc} {R:Jm} {H:Hp} (m:MAt c B A M R H):H A.b=some (.ins c.bn A.db (xb A M)):=m.h.get 0 rfl
def MAt.grow {c:MCs} {B:Hp} {A:Ma} {M:Mc} {R:Jm} {H:Hp} {t:Ad} {o:HO} (m:MAt c B A M R H) (n:H t=none):MAt c (upd B t o) A M R (upd H t o):=by
 have sB:Same B (upd B t o):=zi (Same.refl _) (m.h.free n);refine ⟨m.bb.same sB,m.h.nd,λp q=>?_,λp q=>?_,λb u z=>?_⟩
 ·rw [zk (zp (m.h.st p q) n)];exact m.h.nw p q
 ·rw [zk (zp (m.h.st p q) n)];exact m.h.st p q
 ·by_cases e:b=t
  ·subst e;rw [zf] at z ⊢;exact z
  ·rw [zk e] at z ⊢;exact m.h.sm _ _ z
def Mc.touched (M:Mc) (kind:Str) (a:Int):Mc:={ M with tq:=M.tq++[(M.pc,kind,a)] }
inductive spTouch (c:MCs) (vs:Jn) (H:Hp) (Q:VK) (_:XK):Prop
 | mk (B:Hp) (A:Ma) (M:Mc) (R:Jm) (kind:Str) (a:Int) (_:vs=[.ref A.b,.str kind,.int a]) (_:MAt c B A M R H) (_:M.tq.length<100000) (_:∀ B' A' H',Same B B'->A'.b=A.b->MAt c B' A' (M.touched kind a) R H'->Q .non H')
theorem ok_touch {c:MCs} (d:zV K c.bn "touch" "Bench.touch" xh ["self","kind","address"]) (CN:NCls K c.bn):OkM P w K mg base CX0 1 c.bn "touch" ["self","kind","address"] (spTouch c):=by
 obtain ⟨f,fd,m,F,bd⟩:=d;refine ⟨f,fd,m,bd,F.ok YI (by rintro vs H Q E ⟨_,_,_,_,_,_,e,_⟩;rw [e];rfl) λcdv A outer s H vs Q E hr h=>?_⟩;obtain ⟨B,A,M,R,kind,a,rfl,m,hl,k⟩:=h;refine ⟨_,(zg (zW (pe_bm PySem.F.plainAttrs_list PySem.F.slot_list_append PySem.F.type_list_append xz (zu (pv 0) rfl) (zb (yt (zb (zu (pv 0) rfl) (zb (pv 1) (zb (pv 2) ze)))) ze)))),?_⟩;dsimp only [yd,Cx.nox,Cx.wish];refine ⟨_,rfl,A.b,_,_,_,.ref A.aT,rfl,m.b,CN.c,CN.tq,rfl,.inl ⟨rfl,_,m.h.lst 6 rfl⟩,_,rfl,A.b,_,_,_,.int M.pc,rfl,m.b,CN.c,CN.pc,rfl,_,rfl,_,rfl,(by show 3<=sizeLine;decide),λt nt=>?_⟩;have sB:Same B (upd B t (.tup [.int M.pc,.str kind,.int a])):=zi (Same.refl _) (m.h.free nt);have m1:=m.grow (o:=.tup [.int M.pc,.str kind,.int a]) nt;have e1:upd B t (.tup [.int M.pc,.str kind,.int a]) t=some (.tup [.int M.pc,.str kind,.int a]):=zf;generalize upd B t (.tup [.int M.pc,.str kind,.int a])=B1 at sB m1 e1;have tl:=m.bb.tl;refine ⟨A.aT,_,_,rfl,rfl,m1.h.get 6 rfl,(by rw [Ji];exact Nat.lt_of_le_of_lt (show A.ts.length<=100000 by omega) (by decide)),?_⟩;have h2:=m1.h.put (o':=.lst ((A.ts++[t]).map V.ref)) 6 rfl;rw [Jk] at h2;refine k B1 { A with ts:=A.ts++[t] } _ sB rfl ⟨⟨m1.bb.lens,m1.bb.starts,m1.bb.bx,m1.bb.msk,m1.bb.ml,m1.bb.dl,m1.bb.pl,?_,λi t' p a1 a2=>?_,m1.bb.ul,m1.bb.uu,m1.bb.rf⟩,?_⟩
 ·show (A.ts++[t]).length=(M.tq++[_]).length
  rw [Jj,Jj,tl];rfl
 ·have a1:(A.ts++[t])[i]?=some t':=a1
  have a2:(M.tq++[(M.pc,kind,a)])[i]?=some p:=a2;by_cases z:i<A.ts.length
  ·rw [q4x z] at a1
   rw [q4x (by omega)] at a2;exact m1.bb.tt i t' p a1 a2
  ·rw [List.getElem?_append_right (by omega)] at a1 a2
   rw [tl] at a1
   cases e:i-M.tq.length with
   | zero=>rw [e] at a1 a2;cases a1;cases a2;exact e1
   | succ j=>rw [e] at a1;cases a1
 ·show Hd B1 (objs c { A with ts:=A.ts++[t] } (M.touched kind a) R) _
  have e:(A.ts++[t]).map V.ref=A.ts.map V.ref++[V.ref t]:=by rw [Jk];rfl
  unfold objs;rw [e];exact h2
section
variable {c:MCs} {B:Hp} {A:Ma} {M:Mc} {R:Jm} {H J:Hp} {a:Ad} {o o':HO}
def MAt.adopt (m:MAt c B A M R H) (h:Hd H [(a,o)] J):MAt c (upd B a o) A M R J:=by
 have na:H a=none:=h.nw _ (List.mem_singleton.mpr rfl);have nb:B a=none:=m.h.free na;have sB:Same B (upd B a o):=zi (Same.refl _) nb;refine ⟨m.bb.same sB,m.h.nd,λp q=>?_,λp q=>h.sm _ _ (m.h.st p q),λb u z=>?_⟩
 ·rw [zk (zp (m.h.st p q) na)];exact m.h.nw p q
 ·by_cases e:b=a
  ·subst e;rw [zf] at z;cases z;exact h.get 0 rfl
  ·rw [zk e] at z;exact h.sm _ _ (m.h.sm _ _ z)
def MAt.newR (m:MAt c B A M R H) (n:H a=none):MAt c B A M ((a,o)::R) (upd H a o):=by
 refine ⟨m.bb,(m.h.new (o:=o) n).perm ?_⟩;unfold objs;rw [← List.cons_append,← List.cons_append,← List.cons_append,← List.cons_append,← List.cons_append,← List.cons_append,← List.cons_append,← List.cons_append,← List.cons_append];rw [← List.cons_append,← List.cons_append,← List.cons_append,← List.cons_append,← List.cons_append,← List.cons_append,← List.cons_append,← List.cons_append,← List.cons_append];exact (List.perm_middle (a:=(a,o)) (l₁:=_::_::_::_::_::_::_::_::_::xT A M) (l₂:=R)).symm
def atR:(objs c A M ((a,o)::R))[9+(xT A M).length]?=some (a,o):=by
 unfold objs;rw [show 9+(xT A M).length=(xT A M).length+1+1+1+1+1+1+1+1+1 by omega];simp only [List.getElem?_cons_succ];rw [List.getElem?_append_right (Nat.le_refl _),Nat.sub_self];rfl
def setR:(objs c A M ((a,o)::R)).set (9+(xT A M).length) (a,o')=objs c A M ((a,o')::R):=by
 unfold objs;rw [show 9+(xT A M).length=(xT A M).length+1+1+1+1+1+1+1+1+1 by omega];simp only [List.set_cons_succ];rw [List.set_append_right _ _ (Nat.le_refl _),Nat.sub_self];rfl
def MAt.getR (m:MAt c B A M ((a,o)::R) H):H a=some o:=m.h.get _ atR
def MAt.putR (m:MAt c B A M ((a,o)::R) H):MAt c B A M ((a,o')::R) (upd H a o'):=by
 have h:=m.h.put (o':=o') _ atR;rw [setR] at h;exact ⟨m.bb,h⟩
def MAt.settle (m:MAt c B A M ((a,o)::R) H):MAt c (upd B a o) A M R H:=by
 have nb:B a=none:=m.h.nw (a,o) (List.mem_of_getElem? atR);have sB:Same B (upd B a o):=zi (Same.refl _) nb
 have sub:List.Sublist (objs c A M R) (objs c A M ((a,o)::R)):=by
  unfold objs;exact .cons₂ _ (.cons₂ _ (.cons₂ _ (.cons₂ _ (.cons₂ _ (.cons₂ _ (.cons₂ _ (.cons₂ _ (.cons₂ _ (List.Sublist.append (List.Sublist.refl _) (List.sublist_cons_self _ _))))))))))
 have h:=m.h.sub sub;refine ⟨m.bb.same sB,h.nd,λp q=>?_,h.st,λb u z=>?_⟩
 ·rw [zk ?_]
  ·exact h.nw p q
  ·intro e
   have nd:=m.h.nd;have p1:p∈objs c A M ((a,o)::R):=sub.subset q
   have:((a,o)::objs c A M R).Perm (objs c A M ((a,o)::R)):=by
    unfold objs;exact (List.perm_middle (a:=(a,o)) (l₁:=_::_::_::_::_::_::_::_::_::xT A M) (l₂:=R)).symm
   have nd2:=(this.map Prod.fst).symm.nodup nd;exact (List.nodup_cons.mp nd2).1 (by have:=List.mem_map_of_mem (f:=Prod.fst) q;rw [e] at this;exact this)
 ·by_cases e:b=a
  ·subst e;rw [zf] at z;cases z;exact m.getR
  ·rw [zk e] at z;exact m.h.sm _ _ z
def MAt.mask (m:MAt c B A M R H) {k:Nat} (hk:k<M.masks.length):∃ x,A.ms[k]?=some x/\H x=some (.lst ((M.masks.getD k []).map V.bl)):=by
 have ml:=m.bb.ml;refine ⟨A.ms[k],by rw [List.getElem?_eq_getElem (by omega)],?_⟩;refine m.h.get (9+k) ?_;unfold objs;rw [show 9+k=k+1+1+1+1+1+1+1+1+1 by omega];simp only [List.getElem?_cons_succ];have lm:(xT A M).length=A.ms.length:=by unfold xT;rw [Ji,List.length_zip];omega
 rw [q4x (by omega)];unfold xT;have e:(A.ms.zip M.masks)[k]?=some (A.ms[k],M.masks[k]):=by rw [List.getElem?_zip_eq_some];exact ⟨by rw [List.getElem?_eq_getElem (by omega)],by rw [List.getElem?_eq_getElem hk]⟩
 rw [List.getElem?_map,e];show some _=some _;rw [q1x,List.getElem?_eq_getElem hk];rfl
end
def Mc.adr (M:Mc) (row:Nat) (place:Int):Int:=M.starts.getD row 0+place
inductive spRead (c:MCs) (vs:Jn) (H:Hp) (Q:VK) (_:XK):Prop
 | mk (B:Hp) (A:Ma) (M:Mc) (R:Jm) (row:Nat) (place:Int) (_:vs=[.ref A.b,.int row,.int place]) (_:MAt c B A M R H) (_:M.tq.length<100000) (_:row<M.starts.length) (_:0<=M.adr row place) (_:(M.adr row place).toNat<M.cells.length) (_:∀ B' A' H',Same B B'->A'.b=A.b->MAt c B' A' (M.touched "read" (M.adr row place)) R H'->Q (.int (M.cells.getD (M.adr row place).toNat 0)) H')
def ok_read {c:MCs} (d:zV K c.bn "read_cell" "Bench.read_cell" yC ["self","row","place"]) (CN:NCls K c.bn) (TO:OkM P w K mg base CX0 1 c.bn "touch" ["self","kind","address"] (spTouch c)):OkM P w K mg base CX0 2 c.bn "read_cell" ["self","row","place"] (spRead c):=by
 obtain ⟨f,fd,m,F,bd⟩:=d;refine ⟨f,fd,m,bd,F.ok sc_Bench_read_cell (by rintro vs H Q E ⟨_,_,_,_,_,_,e,_⟩;rw [e];rfl) λcdv A outer s H vs Q E hr h=>?_⟩;obtain ⟨B,A,M,R,row,place,rfl,m,hl,h0,h1,h2,k⟩:=h;have nd:=sc_Bench_read_cell.nd;have hr1:=hr;refine ⟨_,(zc (zt (i:=3) nd rfl (Or.inl rfl) (zj zF (zm zE (zu (pv 0) rfl) (pv 1) (λ_ _=>rfl)) (pv 2)))
   (zc (zW (zY TO CN.c hr1 zq (pv 0) (zb zn (zb (pv 3) ze))))
   (zg (zo (zm zE (zu (pv 0) rfl) (pv 3) (λ_ _=>rfl)))))),?_⟩
 dsimp only [yd,Cx.nox,Cx.wish];refine ⟨_,rfl,A.b,_,_,_,.ref A.aS,rfl,m.b,CN.c,CN.starts,rfl,_,rfl,A.aS,_,_,_,rfl,rfl,SqL.of (m.h.sm _ _ m.bb.starts),Zm row h0 rfl,_,rfl,_,_,rfl,rfl,?_⟩;refine ⟨_,rfl,A.b,_,_,rfl,m.b,rfl,_,rfl,B,A,M,R,"read",M.adr row place,rfl,m,hl,λB1 A1 H1 s1 eb m1=>?_⟩;refine ⟨_,rfl,A1.b,_,_,_,.ref A1.aC,by rw [eb],m1.b,CN.c,CN.cells,rfl,_,rfl,A1.aC,_,_,_,rfl,rfl,m1.h.lst 1 rfl,Zm (M.adr row place).toNat h2 (show M.adr row place=_ by omega),?_⟩;exact k B1 A1 H1 s1 eb m1
def Mc.wrote (M:Mc) (row:Nat) (place n:Int):Mc:={ M.touched "write" (M.adr row place) with cells:=M.cells.set (M.adr row place).toNat n }
inductive spWrite (c:MCs) (vs:Jn) (H:Hp) (Q:VK) (_:XK):Prop
 | mk (B:Hp) (A:Ma) (M:Mc) (R:Jm) (row:Nat) (place n:Int) (_:vs=[.ref A.b,.int row,.int place,.int n]) (_:MAt c B A M R H) (_:M.tq.length<100000) (_:row<M.starts.length) (_:0<=M.adr row place) (_:(M.adr row place).toNat<M.cells.length) (_:∀ B' A' H',Same B B'->A'.b=A.b->MAt c B' A' (M.wrote row place n) R H'->Q .non H')
def ok_write {c:MCs} (d:zV K c.bn "write_cell" "Bench.write_cell" yp ["self","row","place","number"]) (CN:NCls K c.bn) (TO:OkM P w K mg base CX0 1 c.bn "touch" ["self","kind","address"] (spTouch c)):OkM P w K mg base CX0 2 c.bn "write_cell" ["self","row","place","number"] (spWrite c):=by
 obtain ⟨f,fd,m,F,bd⟩:=d;refine ⟨f,fd,m,bd,F.ok sc_Bench_write_cell (by rintro vs H Q E ⟨_,_,_,_,_,_,_,e,_⟩;rw [e];rfl) λcdv A outer s H vs Q E hr h=>?_⟩;obtain ⟨B,A,M,R,row,place,n,rfl,m,hl,h0,h1,h2,k⟩:=h;have nd:=sc_Bench_write_cell.nd;have hr1:=hr;refine ⟨_,(zc (zt (i:=4) nd rfl (Or.inl rfl) (zj zF (zm zE (zu (pv 0) rfl) (pv 1) (λ_ _=>rfl)) (pv 2)))
   (zc (zW (zY TO CN.c hr1 zq (pv 0) (zb zn (zb (pv 4) ze))))
   (zg (Za (pv 3) (Zb (zu (pv 0) rfl) (pv 4) yX))))),?_⟩
 dsimp only [yd,Cx.nox,Cx.wish];refine ⟨_,rfl,A.b,_,_,_,.ref A.aS,rfl,m.b,CN.c,CN.starts,rfl,_,rfl,A.aS,_,_,_,rfl,rfl,SqL.of (m.h.sm _ _ m.bb.starts),Zm row h0 rfl,_,rfl,_,_,rfl,rfl,?_⟩;refine ⟨_,rfl,A.b,_,_,rfl,m.b,rfl,_,rfl,B,A,M,R,"write",M.adr row place,rfl,m,hl,λB1 A1 H1 s1 eb m1=>?_⟩;refine ⟨_,rfl,_,rfl,A1.b,_,_,_,.ref A1.aC,by rw [eb],m1.b,CN.c,CN.cells,rfl,_,rfl,A1.aC,_,_,(M.adr row place).toNat,rfl,rfl,m1.h.get 1 rfl,?_,?_⟩
 ·show ixN (M.cells.map V.int).length (M.adr row place)=_
  unfold ixN;rw [if_pos h1,if_pos (by rw [Ji];omega)]
 ·have h:=m1.h.put (o':=.lst ((M.cells.set (M.adr row place).toNat n).map V.int)) 1 rfl
  rw [List.map_set] at h;refine k B1 A1 _ s1 eb ⟨⟨m1.bb.lens,m1.bb.starts,m1.bb.bx,m1.bb.msk,m1.bb.ml,m1.bb.dl,m1.bb.pl,m1.bb.tl,m1.bb.tt,m1.bb.ul,m1.bb.uu,m1.bb.rf⟩,?_⟩;show Hd B1 (objs c A1 (M.wrote row place n) R) _;unfold objs;rw [show ((M.wrote row place n).cells.map V.int)=(M.cells.map V.int).set (M.adr row place).toNat (.int n) from List.map_set ..];exact h
def at_bl {bs:List Bool} {j:Int} (i:Nat) (h:i<bs.length) (e:j=i):atI (bs.map V.bl) j=some (.bl (bs.getD i false)):=by
 subst e;refine zv ?_;rw [List.getElem?_map,List.getElem?_eq_getElem h,q1x,List.getElem?_eq_getElem h];rfl
def Mc.isAct (M:Mc) (k j:Nat):Bool:=(M.masks.getD k []).getD j false && !(zQ M.fq (.inl (j:Int))).isSome
def Mc.actTo (M:Mc) (k n:Nat):Jb:=((List.range n).filter (M.isAct k)).map λj:Nat=>(j:Int)
def Mc.act (M:Mc) (k:Nat):Jb:=M.actTo k M.wq.toNat
def Mc.actTo_succ (M:Mc) (k n:Nat):M.actTo k (n+1)=M.actTo k n++if M.isAct k n then [(n:Int)] else []:=by
 unfold Mc.actTo;rw [List.range_succ,List.filter_append,Jk];congr 1;by_cases z:M.isAct k n=true
 ·rw [List.filter_cons_of_pos z,if_pos z];rfl
 ·rw [List.filter_cons_of_neg z,if_neg z];rfl
def Mc.actTo_len (M:Mc) (k n:Nat):(M.actTo k n).length<=n:=by
 unfold Mc.actTo;rw [Ji];have:=List.length_filter_le (M.isAct k) (List.range n);rw [List.length_range] at this;exact this
def Mc.act_mem {M:Mc} {k:Nat} {j:Int} (h:j∈M.act k):0<=j/\j.toNat<M.wq.toNat/\M.isAct k j.toNat=true:=by
 obtain ⟨i,hi,rfl⟩:=List.mem_map.mp h;obtain ⟨a,b⟩:=List.mem_filter.mp hi;have:=List.mem_range.mp a;exact ⟨by omega,by omega,b⟩
inductive spAct (c:MCs) (vs:Jn) (H:Hp) (Q:VK) (_:XK):Prop
 | mk (B:Hp) (A:Ma) (M:Mc) (R:Jm) (k:Nat) (_:vs=[.ref A.b,.int k]) (_:MAt c B A M R H) (_:k<M.masks.length) (_:0<=M.wq) (_:M.wq.toNat<=(M.masks.getD k []).length) (_:M.wq.toNat<=1000) (_:∀ B' H' l,Same B B'->MAt c B' A M R H'->B' l=some (.lst ((M.act k).map V.int))->Q (.ref l) H')
def ok_act {c:MCs} (d:zV K c.bn "active_under" "Bench.active_under" yf ["self","mask"]) (hrg:mg "range"=none) (CN:NCls K c.bn):OkM P w K mg base CX0 1 c.bn "active_under" ["self","mask"] (spAct c):=by
 obtain ⟨f,fd,m,F,bd⟩:=d;refine ⟨f,fd,m,bd,F.ok sc_Bench_active_under (by rintro vs H Q E ⟨_,_,_,_,_,e,_⟩;rw [e];rfl) λcdv A outer s H vs Q E hr h=>?_⟩;obtain ⟨B,A,M,R,k,rfl,m,hk,w0,w1,w2,q⟩:=h;have nd:=sc_Bench_active_under.nd;have hu:=Nat.lt_of_le_of_lt (Nat.add_le_add_left (show 1<=64 by decide) _) hr.units;obtain ⟨x,ex,hx⟩:=m.mask hk;have SL:(3000:Nat)<sizeLine:=by decide
 refine ⟨_,(zc (zt (i:=2) nd rfl (Or.inr rfl) (zm zE (zu (pv 0) rfl) (pv 1) (λ_ _=>rfl)))
   (zg (zo (zap ["lane","truths","self"] [none,some 2,some 0] rfl rfl rfl (yk rfl hrg (zb (zu (pv 0) rfl) ze)) (λs3 H3 fp=>⟨zH (i:=0) (Jp ["lane","truths","self"]) rfl (Or.inl rfl),(PW.pt (XT (yW (zm (za0 (K:=K) rfl) (pv 1) (pv 0) (λ_ _=>rfl))) (YA (pt_cmp (pc_dnotin hu (pv 0) (Zr (K:=K) rfl (pv 2) rfl)) rfl)))),(pv 0)⟩))))),?_⟩
 dsimp only [yd,Cx.nox,Cx.wish];refine ⟨_,rfl,A.b,_,_,_,.ref A.aM,rfl,m.b,CN.c,CN.masks,rfl,_,rfl,A.aM,_,_,.ref x,rfl,rfl,SqL.of (m.h.sm _ _ m.bb.msk),zv (by rw [List.getElem?_map,ex];rfl),?_⟩;refine ⟨_,rfl,A.b,_,_,_,.int M.wq,rfl,m.b,CN.c,CN.wq,rfl,_,rfl,(by show -(2 ^ 62)<=M.wq;omega),(by show M.wq<2 ^ 62;omega),_,rfl,λD nD=>?_⟩;have h0:Hd H [(D,.lst ((M.actTo k 0).map V.int))] (upd H D (.lst [])):=Hd.base.new nD;generalize upd H D (.lst [])=H1 at h0 ⊢;refine za7 (n:=M.wq.toNat) (λi σ J=>∃ u,σ=[u,rq x,rq A.b]/\Hd H [(D,.lst ((M.actTo k i).map V.int))] J) ⟨none,rfl,h0⟩ ?_ ?_
 ·clear h0
  rintro i σ J hi ⟨u,rfl,h⟩;have la:=M.actTo_len k i;rw [M.actTo_succ k i];have fin:M.isAct k i=false->∃ u,[some (V.int (0+(i:Int))),some (.ref x),some (.ref A.b)]=[u,rq x,rq A.b]/\Hd H [(D,.lst ((M.actTo k i++if M.isAct k i=true then [(i:Int)] else []).map V.int))] J:=λe=>⟨_,rfl,by rw [e,if_neg (by decide),q3y];exact h⟩;refine ⟨_,rfl,_,rfl,x,_,_,_,rfl,rfl,SqL.of (h.sm _ _ hx),at_bl i (by omega) (by omega),_,rfl,?_⟩;refine xE (λz1=>?_) (λz1=>ym (fin (by unfold Mc.isAct;rw [Bool.eq_false_iff.mpr z1,Bool.false_and])));refine ⟨_,rfl,_,rfl,A.b,_,_,_,.ref A.aF,rfl,h.sm _ _ m.b,CN.c,CN.fq,rfl,A.aF,_,rfl,DGet.k (k:=.inl (0+(i:Int))) (h.sm _ _ (m.h.get 7 rfl)),_,rfl,?_⟩;rw [Int.zero_add] at *;refine xE (λz2=>?_) (λz2=>fin (by unfold Mc.isAct;rw [z1,Bool.eq_false_iff.mpr z2];rfl));refine ⟨_,rfl,_,h.get 0 rfl,(by rw [Ji];omega),_,rfl,?_⟩;have e:M.isAct k i=true:=by unfold Mc.isAct;rw [z1,z2];rfl
  rw [e,if_pos rfl,Jk];exact h.put 0 rfl
 ·rintro σ J ⟨u,rfl,h⟩
  exact q _ J D (zi (Same.refl _) (m.h.free (h.nw _ (List.mem_singleton.mpr rfl)))) (m.adopt h) zf
def Mc.nq (M:Mc) (p:Nat) (j:Int):Int:=M.nums.getD ((p:Int)*M.group*M.lq+j).toNat 0
structure MOk (M:Mc):Prop where
 l1:1<=M.lq
 l64:M.lq<=64
 g:M.group=1∨M.group=2∨M.group=4
 nl:M.nums.length=8*M.lq
 ml:M.masks.length=16
 mm:∀ m∈M.masks,m.length=4*M.lq
 w0:0<=M.wq
 w1:M.wq<=M.group*M.lq
inductive spNums (c:MCs) (K:Fg) (vs:Jn) (H:Hp) (Q:VK) (_:XK):Prop
 | mk (B:Hp) (A:Ma) (M:Mc) (R:Jm) (p:Nat) (aa:Ad) (js:Jb) (_:vs=[.ref A.b,.int p,.ref aa]) (_:MAt c B A M R H) (_:MOk M) (_:((p:Int)+1)*M.group<=8) (_:B aa=some (.lst (js.map V.int))) (_:(∀ j∈js,0<=j/\j<M.group*M.lq)) (_:js.length<=1000) (_:∀ B' H' l,Same B B'->MAt c B' A M R H'->B' l=some (.lst ((js.map (M.nq p)).map V.int))->Q (.ref l) H')
def seat_in {g L p j:Int} (hg:g=1∨g=2∨g=4) (h1:1<=L) (hp:0<=p) (h8:(p+1)*g<=8) (j0:0<=j) (j1:j<g*L):0<=p*g*L+j/\p*g*L+j<8*L:=by
 have e:(p+1)*g*L<=8*L:=Int.mul_le_mul_of_nonneg_right h8 (by omega);have e2:(p+1)*g*L=p*g*L+g*L:=by rw [Int.add_mul,Int.add_mul,Int.one_mul]
 have e3:0<=p*g*L:=Int.mul_nonneg (Int.mul_nonneg hp (by omega)) (by omega);omega
def ok_nums {c:MCs} (d:zV K c.bn "numbers_in" "Bench.numbers_in" yr ["self","seat","active"]) (CC:MCls K c) (NA:OkM P w K mg base CX0 2 c.bx "number_at" ["self","group","seat","lane"] (spNum c.bx)):OkM P w K mg base CX0 3 c.bn "numbers_in" ["self","seat","active"] (spNums c K):=by
 obtain ⟨f,fd,m,F,bd⟩:=d;refine ⟨f,fd,m,bd,F.ok sc_Bench_numbers_in (by rintro vs H Q E ⟨_,_,_,_,_,_,_,e,_⟩;rw [e];rfl) λcdv A outer s H vs Q E hr h=>?_⟩;obtain ⟨B,A,M,R,p,aa,js,rfl,m,ok,h8,ea,hj,hl,q⟩:=h;have nd:=sc_Bench_numbers_in.nd;have hr2:=hr;have CN:=CC.n;have SL:(3000:Nat)<sizeLine:=by decide
 have l1:=ok.l1;have l64:=ok.l64;have hg:=ok.g;refine ⟨_,(zg (zo (yF ["lane","seat","self"] [none,some 1,some 0] rfl rfl rfl (ZR (pv 2)) (λs3 H3 fp=>⟨zH (i:=0) (Jp ["lane","seat","self"]) rfl (Or.inl rfl),(zY NA CC.b.c hr2 zq (Zr (K:=K) rfl (pv 2) rfl) (zb (Zr (K:=K) rfl (pv 2) rfl) (zb (pv 1) (zb (pv 0) ze))))⟩)))),?_⟩;dsimp only [yd,Cx.nox,Cx.wish];refine ⟨_,rfl,aa,rfl,⟨_,SqL.of (m.h.sm _ _ ea)⟩,_,rfl,λD nD=>?_⟩;have h0:Hd H [(D,.lst (((js.take 0).map (M.nq p)).map V.int))] (upd H D (.lst [])):=Hd.base.new nD;generalize upd H D (.lst [])=H1 at h0 ⊢;refine Ym (K:=K) (a:=aa) (D:=D) (xs:=js.map V.int) (λi σ J=>∃ u,σ=[u,iq p,rq A.b]/\Hd H [(D,.lst (((js.take i).map (M.nq p)).map V.int))] J) ⟨none,rfl,h0⟩ (λi σ J _ ⟨_,_,h⟩=>SqL.of (h.sm _ _ (m.h.sm _ _ ea))) ?_ ?_
 ·clear h0
  rintro i y σ J hy ⟨u,rfl,h⟩;obtain ⟨hlt,rfl⟩:=ZF hy;have mj:=L2.getD_mem hlt;have e9:js[i]?=some (js.getD i 0):=by rw [q1x,List.getElem?_eq_getElem hlt];rfl
  generalize js.getD i 0=j at mj e9;obtain ⟨j0,j1⟩:=hj j mj;obtain ⟨s0,s1⟩:=seat_in hg (show (1:Int)<=M.lq by omega) (show (0:Int)<=p by omega) h8 j0 j1;refine ⟨_,rfl,A.b,_,_,_,.ref A.bx,rfl,h.sm _ _ m.b,CN.c,CN.boxes,rfl,A.bx,_,_,rfl,h.sm _ _ (m.h.sm _ _ m.bb.bx),rfl,_,rfl,A.b,_,_,_,.int M.group,rfl,h.sm _ _ m.b,CN.c,CN.group,rfl,_,rfl,_,rfl,A.bx,A.dbx,A.aN,M.lq,M.group,p,j,M.nums,rfl,h.sm _ _ (m.h.sm _ _ m.bb.bx),h.sm _ _ (m.h.get 2 rfl),by omega,by omega,by omega,by omega,s0,by rw [ok.nl];omega,?_⟩;refine ⟨_,h.get 0 rfl,(by rw [Ji,Ji,List.length_take];omega),_,rfl,?_⟩;have h3:=h.put (o':=.lst (((js.take (i+1)).map (M.nq p)).map V.int)) 0 rfl
  have e:(((js.take (i+1)).map (M.nq p)).map V.int)=(((js.take i).map (M.nq p)).map V.int)++[V.int (M.nq p j)]:=by
   rw [List.take_add_one,e9,Jk,Jk];rfl
  rw [e] at h3 ⊢;exact h3
 ·rintro σ J ⟨u,rfl,h⟩
  rw [Ji,List.take_length] at h;exact q _ J D (zi (Same.refl _) (m.h.free (h.nw _ (List.mem_singleton.mpr rfl)))) (m.adopt h) zf
section
variable {c:MCs} {B:Hp} {A:Ma} {M:Mc} {R:Jm} {H H':Hp}
def mskO_len (m:MAt c B A M R H):(xT A M).length=A.ms.length:=by
 unfold xT;rw [Ji,List.length_zip,m.bb.ml];omega
theorem MAt.putMask (m:MAt c B A M R H) {k:Nat} {x:Ad} (ex:A.ms[k]?=some x) (hk:k<M.masks.length) (b:List Bool):MAt c B A { M with masks:=M.masks.set k b } R (upd H x (.lst (b.map V.bl))):=by
 have lm:=mskO_len m;have ml:=m.bb.ml;have lk:k<A.ms.length:=(List.getElem?_eq_some_iff.mp ex).1;have e0:(A.ms.zip M.masks)[k]?=some (x,M.masks[k]):=by rw [List.getElem?_zip_eq_some];exact ⟨ex,by rw [List.getElem?_eq_getElem hk]⟩
 have e:(objs c A M R)[9+k]?=some (x,.lst ((M.masks[k]).map V.bl)):=by
  unfold objs;rw [show 9+k=k+1+1+1+1+1+1+1+1+1 by omega];simp only [List.getElem?_cons_succ];rw [q4x (by omega)];unfold xT;rw [List.getElem?_map,e0];rfl
 have h:=m.h.put (o':=.lst (b.map V.bl)) _ e;refine ⟨⟨m.bb.lens,m.bb.starts,m.bb.bx,m.bb.msk,by show A.ms.length=(M.masks.set k b).length;rw [List.length_set,ml],m.bb.dl,m.bb.pl,m.bb.tl,m.bb.tt,m.bb.ul,m.bb.uu,m.bb.rf⟩,?_⟩
 have es:(objs c A M R).set (9+k) (x,.lst (b.map V.bl))=objs c A { M with masks:=M.masks.set k b } R:=by
  unfold objs;rw [show 9+k=k+1+1+1+1+1+1+1+1+1 by omega];simp only [List.set_cons_succ];rw [List.set_append_left _ _ (by omega)]
  have:(xT A M).set k (x,.lst (b.map V.bl))=xT A { M with masks:=M.masks.set k b }:=by
   unfold xT;show ((A.ms.zip M.masks).map _).set k _=(A.ms.zip (M.masks.set k b)).map _
   have ez:A.ms.zip (M.masks.set k b)=(A.ms.zip M.masks).set k (x,b):=by
    apply List.ext_getElem?;intro j;rw [List.getElem?_set]
    split
    ·rename_i e
     subst e;rw [if_pos (by rw [List.length_zip];omega),List.getElem?_zip_eq_some];exact ⟨ex,by rw [q3z hk]⟩
    ·rename_i ne
     cases hz:(A.ms.zip M.masks)[j]? with
     | none =>
      rw [List.getElem?_eq_none_iff] at hz ⊢;rw [List.length_zip] at hz ⊢;rw [List.length_set];exact hz
     | some q =>
      rw [List.getElem?_zip_eq_some] at hz ⊢;exact ⟨hz.1,by rw [List.getElem?_set_ne ne];exact hz.2⟩
   rw [ez,List.map_set]
  rw [this];rfl
 rw [es] at h;exact h
def MAt.mask' (m:MAt c B A M R H) {k:Nat} {x:Ad} (ex:A.ms[k]?=some x) (hk:k<M.masks.length):H x=some (.lst ((M.masks.getD k []).map V.bl)):=by
 obtain ⟨y,ey,hy⟩:=m.mask hk;rw [ex] at ey;cases ey;exact hy
def MAt.took (m:MAt c B A M R H) (k:∀ b o,b≠A.fd->H b=some o->H' b=some o) (e:H' A.fd=some (Zz c.fe A.dfd A.aD (fAt M.dust (M.dq+1)))):MAt c B A { M with dq:=M.dq+1 } R H' :=
 ⟨⟨m.bb.lens,m.bb.starts,m.bb.bx,m.bb.msk,m.bb.ml,m.bb.dl,m.bb.pl,m.bb.tl,m.bb.tt,m.bb.ul,m.bb.uu,m.bb.rf⟩,m.h.chg 4 rfl k e⟩
end
def clr (m:List Bool) (n:Nat):List Bool:=(List.range n).foldl (λm j=>m.set j false) m
def sel (m:List Bool) (js:Jb):List Bool:=js.foldl (λm j=>m.set j.toNat true) m
def dst (d:Jb) (q:Nat) (m:List Bool) (lo k:Nat):List Bool:=(List.range k).foldl (λm t=>m.set (lo+t) (decide (y9 d (q+t) % 2=1))) m
theorem yU (m:List Bool):∀ n,(clr m n).length=m.length
 | 0=>rfl
 | n+1=>by unfold clr;rw [List.range_succ,List.foldl_append];show (List.set _ _ _).length=_;rw [List.length_set];exact yU m n
theorem xW:∀ (js:Jb) (m:List Bool),(sel m js).length=m.length
 | [],_=>rfl
 | j::js,m=>by show (sel (m.set j.toNat true) js).length=_;rw [xW js,List.length_set]
theorem Z0 (d:Jb) (q:Nat) (m:List Bool) (lo:Nat):∀ k,(dst d q m lo k).length=m.length
 | 0=>rfl
 | n+1=>by unfold dst;rw [List.range_succ,List.foldl_append];show (List.set _ _ _).length=_;rw [List.length_set];exact Z0 d q m lo n
def za8 (m:List Bool) (n:Nat):clr m (n+1)=(clr m n).set n false:=by unfold clr;rw [List.range_succ,List.foldl_append];rfl
def Y6 (d:Jb) (q:Nat) (m:List Bool) (lo n:Nat):dst d q m lo (n+1)=(dst d q m lo n).set (lo+n) (decide (y9 d (q+n) % 2=1)):=by unfold dst;rw [List.range_succ,List.foldl_append];rfl
def sel_snoc (m:List Bool) (js:Jb) (j:Int):sel m (js++[j])=(sel m js).set j.toNat true:=by unfold sel;rw [List.foldl_append];rfl
def Mc.room (M:Mc):Nat:=(M.group*M.lq).toNat
def Mc.maskOf (M:Mc) (k:Nat) (js:Jb):List Bool:=dst M.dust M.dq (sel (clr (M.masks.getD k []) M.wq.toNat) js) M.wq.toNat (M.room-M.wq.toNat)
def Mc.laidMask (M:Mc) (k:Nat) (js:Jb):Mc:={ M with masks:=M.masks.set k (M.maskOf k js),dq:=M.dq+(M.room-M.wq.toNat) }
inductive spMask (c:MCs) (K:Fg) (vs:Jn) (H:Hp) (Q:VK) (_:XK):Prop
 | mk (B:Hp) (A:Ma) (M:Mc) (R:Jm) (k:Nat) (aa:Ad) (js:Jb) (_:vs=[.ref A.b,.int k,.ref aa]) (_:MAt c B A M R H) (_:MOk M) (_:k<16) (_:B aa=some (.lst (js.map V.int))) (_:(∀ j∈js,0<=j/\j<M.group*M.lq)) (_:∀ H',MAt c B A (M.laidMask k js) R H'->Q .non H')
def ok_mask {c:MCs} (d:zV K c.bn "lay_mask" "Bench.lay_mask" yP ["self","mask","chosen"]) (hrg:mg "range"=none) (CC:MCls K c) (TK:OkM P w K mg base CX0 1 c.fe "taken" ["self"] (spTaken c.fe)):OkM P w K mg base CX0 2 c.bn "lay_mask" ["self","mask","chosen"] (spMask c K):=by
 obtain ⟨f,fd,m,F,bd⟩:=d;refine ⟨f,fd,m,bd,F.ok sc_Bench_lay_mask (by rintro vs H Q E ⟨_,_,_,_,_,_,_,e,_⟩;rw [e];rfl) λcdv A outer s H vs Q E hr h=>?_⟩;obtain ⟨B,A,M,R,k,aa,js,rfl,m,ok,hk,ea,hj,q⟩:=h;have nd:=sc_Bench_lay_mask.nd;have hr1:=hr;have CN:=CC.n;have ml:=ok.ml;have hk':k<M.masks.length:=by omega
 have l1:=ok.l1;have l64:=ok.l64;have hg:=ok.g;have w0:=ok.w0;have w1:=ok.w1;have rb:M.group*M.lq<=4*M.lq/\1<=M.group*M.lq:=by rcases hg with e | e | e <;> rw [e] <;> omega
 have lm:(M.masks.getD k []).length=4*M.lq:=by
  rw [q1x,List.getElem?_eq_getElem hk'];exact ok.mm _ (List.getElem_mem hk')
 obtain ⟨x,ex,hx⟩:=m.mask hk';refine ⟨_,(zc (zt (i:=3) nd rfl (Or.inl rfl) (zm zE (zu (pv 0) rfl) (pv 1) (λ_ _=>rfl)))
   (zc (xR PassesOwn.never rfl (yk rfl hrg (zb (zu (pv 0) rfl) ze)) (zH (i:=4) nd rfl (Or.inl rfl)) (zg (Za xO (Zb (pv 3) (pv 4) yX))))
   (zc (xR PassesOwn.never rfl (ZR (pv 2)) (zH (i:=4) nd rfl (Or.inl rfl)) (zg (Za xO (Zb (pv 3) (pv 4) yX))))
   (zg (xR PassesOwn.never rfl (Ye rfl hrg (zb (zu (pv 0) rfl) (zb (zj zP (zu (pv 0) rfl) (zu (pv 0) rfl)) ze))) (zH (i:=4) nd rfl (Or.inl rfl)) (zg (Za (yD ye (zj yS (pe_okM0 TK CC.f.c hr1 zq (zu (pv 0) rfl)) zd) zd (zy _)) (Zb (pv 3) (pv 4) yX)))))))),?_⟩
 dsimp only [yd,Cx.nox,Cx.wish];refine ⟨_,rfl,A.b,_,_,_,.ref A.aM,rfl,m.b,CN.c,CN.masks,rfl,_,rfl,A.aM,_,_,.ref x,rfl,rfl,SqL.of (m.h.sm _ _ m.bb.msk),zv (by rw [List.getElem?_map,ex];rfl),?_⟩
 have set_one:∀ {n:Nat} {bs:List Bool} {i:Int},i=(n:Int)->n<bs.length->ixN (bs.map V.bl).length i=some n:=λ{n bs i} e h=>by
  subst e;unfold ixN;rw [if_pos (by omega),if_pos (by rw [Ji];omega)];congr 1
 have st:∀ (b:List Bool),({ M with masks:=M.masks.set k b }:Mc).masks.getD k []=b:=λb=>by
  show (M.masks.set k b).getD k []=b;rw [q1x,q3z hk'];rfl
 have ss:∀ (b b':List Bool),({ ({ M with masks:=M.masks.set k b }:Mc) with masks:=(M.masks.set k b).set k b' }:Mc)={ M with masks:=M.masks.set k b' }:=λb b'=>by rw [List.set_set]
 refine ⟨_,rfl,A.b,_,_,_,.int M.wq,rfl,m.b,CN.c,CN.wq,rfl,_,rfl,(by show -(2 ^ 62)<=M.wq;omega),(by show M.wq<2 ^ 62;omega),?_⟩
 have m0:MAt c B A { M with masks:=M.masks.set k (clr (M.masks.getD k []) 0) } R H:=by
  have e:M.masks.set k (clr (M.masks.getD k []) 0)=M.masks:=by
   show M.masks.set k (M.masks.getD k [])=M.masks;rw [q1x,List.getElem?_eq_getElem hk'];exact List.set_getElem_self hk'
  rw [e];exact m
 show tFor_S _ _ _ _ _ _;let Pv1:Nat->St->Hp->Prop:=(λi σ J=>∃ u,σ=[rq A.b,iq k,rq aa,rq x,u]/\MAt c B A { M with masks:=M.masks.set k (clr (M.masks.getD k []) i) } R J);refine xU (n:=M.wq.toNat) Pv1 ⟨none,rfl,m0⟩ ?_ ?_
 ·rintro i σ J hi ⟨u,rfl,m1⟩
  have hx1:=m1.mask' ex (by show k<(M.masks.set k _).length;rw [List.length_set];exact hk');rw [st] at hx1;refine ⟨_,rfl,_,rfl,x,_,_,i,rfl,rfl,hx1,set_one (by omega) (by rw [yU,lm];omega),_,rfl,?_⟩;have m2:=m1.putMask ex (by show k<(M.masks.set k _).length;rw [List.length_set];exact hk') (clr (M.masks.getD k []) (i+1));rw [ss] at m2;have e:((clr (M.masks.getD k []) (i+1)).map V.bl)=((clr (M.masks.getD k []) i).map V.bl).set i (.bl false):=by rw [za8,List.map_set]
  rw [e] at m2;exact m2
 clear m0 hx;rintro σ J ⟨u,rfl,m1⟩;refine ⟨_,rfl,aa,rfl,⟨_,SqL.of (m1.h.sm _ _ ea)⟩,?_⟩;let Pv2:Nat->St->Hp->Prop:=(λi σ J=>∃ u,σ=[rq A.b,iq k,rq aa,rq x,u]/\MAt c B A { M with masks:=M.masks.set k (sel (clr (M.masks.getD k []) M.wq.toNat) (js.take i)) } R J);refine za2 (K:=K) (a:=aa) (xs:=js.map V.int) Pv2 ⟨u,rfl,m1⟩ (λi σ J _ ⟨_,_,m⟩=>SqL.of (m.h.sm _ _ ea)) ?_ ?_
 ·rintro i y σ J hy ⟨u,rfl,m1⟩
  obtain ⟨hlt,rfl⟩:=ZF hy;have mj:=L2.getD_mem hlt;have e9:js[i]?=some (js.getD i 0):=by rw [q1x,List.getElem?_eq_getElem hlt];rfl
  generalize js.getD i 0=j at mj e9;obtain ⟨j0,j1⟩:=hj j mj;have hx1:=m1.mask' ex (by show k<(M.masks.set k _).length;rw [List.length_set];exact hk');rw [st] at hx1;refine ⟨_,rfl,_,rfl,x,_,_,j.toNat,rfl,rfl,hx1,set_one (by omega) (by rw [xW,yU,lm];omega),_,rfl,?_⟩;have m2:=m1.putMask ex (by show k<(M.masks.set k _).length;rw [List.length_set];exact hk') (sel (clr (M.masks.getD k []) M.wq.toNat) (js.take (i+1)));rw [ss] at m2
  have e:((sel (clr (M.masks.getD k []) M.wq.toNat) (js.take (i+1))).map V.bl)=((sel (clr (M.masks.getD k []) M.wq.toNat) (js.take i)).map V.bl).set j.toNat (.bl true):=by
   rw [List.take_add_one,e9];show ((sel _ (js.take i++[j])).map V.bl)=_;rw [sel_snoc,List.map_set]
  rw [e] at m2;exact m2
 rintro σ J1 ⟨u,rfl,m1⟩;rw [Ji,List.take_length] at m1;generalize hb:sel (clr (M.masks.getD k []) M.wq.toNat) js=b1 at m1;have lb1:b1.length=4*M.lq:=by rw [← hb,xW,yU,lm]
 obtain ⟨wn,ew⟩:∃ n:Nat,M.wq=n:=⟨M.wq.toNat,by omega⟩;obtain ⟨rn,er⟩:∃ n:Nat,M.group*M.lq=n:=⟨(M.group*M.lq).toNat,by omega⟩;refine ⟨_,rfl,A.b,_,_,_,.int M.wq,rfl,m1.b,CN.c,CN.wq,rfl,_,rfl,A.b,_,_,_,.int M.group,rfl,m1.b,CN.c,CN.group,rfl,_,rfl,A.b,_,_,_,.int M.lq,rfl,m1.b,CN.c,CN.lq,rfl,_,_,rfl,rfl,.inl ⟨by omega,by omega⟩,_,_,rfl,?_,?_⟩
 ·exact ⟨by omega,by omega,by show -(2 ^ 62)<=M.group*M.lq;omega,by show M.group*M.lq<2 ^ 62;omega⟩
 have en:(M.group*M.lq-M.wq).toNat=M.room-M.wq.toNat:=by unfold Mc.room;omega
 show tFor_S _ _ _ _ _ _;let Pv3:Nat->St->Hp->Prop:=(λi σ J=>∃ u,σ=[rq A.b,iq k,rq aa,rq x,u]/\MAt c B A { M with masks:=M.masks.set k (dst M.dust M.dq b1 M.wq.toNat i),dq:=M.dq+i } R J);refine xU (lo:=M.wq) (n:=(M.group*M.lq-M.wq).toNat) Pv3 ⟨u,rfl,m1⟩ ?_ ?_
 ·rintro i σ J hi ⟨u,rfl,m2⟩
  refine ⟨_,rfl,A.b,_,_,_,.ref A.fd,rfl,m2.b,CN.c,CN.dust,rfl,A.fd,_,_,rfl,m2.h.get 4 rfl,rfl,A.fd,A.dfd,A.aD,M.dust,M.dq+i,rfl,m2.h.get 4 rfl,m2.h.sm _ _ m2.bb.dl,λJ3 k3 e3=>?_⟩;have m3:=m2.took k3 e3;refine ⟨_,_,rfl,rfl,(by show (0:Int)<2;decide),rfl,_,rfl,_,rfl,?_⟩;have hx1:=m3.mask' ex (by show k<(M.masks.set k _).length;rw [List.length_set];exact hk');have e0:(M.masks.set k (dst M.dust M.dq b1 M.wq.toNat i)).getD k []=dst M.dust M.dq b1 M.wq.toNat i:=by rw [q1x,q3z hk'];rfl
  have hx1:J3 x=some (.lst ((dst M.dust M.dq b1 M.wq.toNat i).map V.bl)):=by rw [← e0];exact hx1
  refine ⟨x,_,_,M.wq.toNat+i,rfl,rfl,hx1,set_one (by omega) (by rw [Z0,lb1];omega),_,rfl,?_⟩;have m4:=m3.putMask ex (by show k<(M.masks.set k _).length;rw [List.length_set];exact hk') (dst M.dust M.dq b1 M.wq.toNat (i+1))
  have e:((dst M.dust M.dq b1 M.wq.toNat (i+1)).map V.bl)=((dst M.dust M.dq b1 M.wq.toNat i).map V.bl).set (M.wq.toNat+i) (.bl (decide (V.int (y9 M.dust (M.dq+i) % 2)=V.int 1))):=by
   rw [Y6,List.map_set];congr 2;by_cases z:y9 M.dust (M.dq+i) % 2=1
   ·rw [z];rfl
   ·rw [decide_eq_false z,decide_eq_false (λq=>z (V.int.inj q))]
  rw [e] at m4;have e2:({ ({ ({ M with masks:=M.masks.set k (dst M.dust M.dq b1 M.wq.toNat i),dq:=M.dq+i }:Mc) with dq:=M.dq+i+1 }:Mc) with masks:=(M.masks.set k (dst M.dust M.dq b1 M.wq.toNat i)).set k (dst M.dust M.dq b1 M.wq.toNat (i+1)) }:Mc)={ M with masks:=M.masks.set k (dst M.dust M.dq b1 M.wq.toNat (i+1)),dq:=M.dq+(i+1) }:=by rw [List.set_set];rfl
  have m4:MAt c B A { M with masks:=M.masks.set k (dst M.dust M.dq b1 M.wq.toNat (i+1)),dq:=M.dq+(i+1) } R _:=e2 ▸ m4;exact m4
 ·rintro σ J2 ⟨u,rfl,m2⟩
  refine q J2 ?_;rw [en] at m2;unfold Mc.laidMask Mc.maskOf;rw [hb];exact m2
def Mc.layOne (told:Jl) (p:Nat) (M:Mc) (t:Nat):Mc:=match zQ told (.inl (t:Int)) with
 | some (.int n)=>{ M with nums:=M.nums.set ((p:Int)*M.group*M.lq+t).toNat n }
 | _=>{ M with nums:=M.nums.set ((p:Int)*M.group*M.lq+t).toNat (y9 M.dust M.dq),dq:=M.dq+1 }
def Mc.layTo (told:Jl) (p:Nat) (M:Mc) (n:Nat):Mc:=(List.range n).foldl (λM t=>M.layOne told p t) M
def Mc.laidSeat (M:Mc) (told:Jl) (p:Nat):Mc:=M.layTo told p M.room
def Mc.layTo_succ (told:Jl) (p:Nat) (M:Mc) (n:Nat):M.layTo told p (n+1)=(M.layTo told p n).layOne told p n:=by unfold Mc.layTo;rw [List.range_succ,List.foldl_append];rfl
structure SeatSame (M N:Mc):Prop where
 g:N.group=M.group
 l:N.lq=M.lq
 n:N.nums.length=M.nums.length
 d:N.dust=M.dust
def Mc.layOne_same (told:Jl) (p:Nat) (M:Mc) (t:Nat):SeatSame M (M.layOne told p t):=by
 unfold Mc.layOne
 split
 ·exact ⟨rfl,rfl,List.length_set ..,rfl⟩
 ·exact ⟨rfl,rfl,List.length_set ..,rfl⟩
theorem Mc.layTo_same (told:Jl) (p:Nat) (M:Mc):∀ n,SeatSame M (M.layTo told p n)
 | 0=>⟨rfl,rfl,rfl,rfl⟩
 | n+1=>by
  have a:=Mc.layTo_same told p M n;have b:=Mc.layOne_same told p (M.layTo told p n) n;rw [M.layTo_succ];exact ⟨b.g.trans a.g,b.l.trans a.l,b.n.trans a.n,b.d.trans a.d⟩
section
variable {c:MCs} {B:Hp} {A:Ma} {M:Mc} {R:Jm} {H H':Hp}
def MAt.putNums (m:MAt c B A M R H) (ns:Jb):MAt c B A { M with nums:=ns } R (upd H A.aN (.lst (ns.map V.int))) :=
 ⟨⟨m.bb.lens,m.bb.starts,m.bb.bx,m.bb.msk,m.bb.ml,m.bb.dl,m.bb.pl,m.bb.tl,m.bb.tt,m.bb.ul,m.bb.uu,m.bb.rf⟩,m.h.put (o':=.lst (ns.map V.int)) 2 rfl⟩
end
def yn (js:Jb) (vs:List (Option Int)):Jl:=putAll [] ((js.map Sum.inl).zip (vs.map oV))
theorem YL:∀ (ps:Jl) (kvs:Jl) (P:V->Prop),(∀ p∈ps,P p.2)->(∀ k v,zQ kvs k=some v->P v)->∀ k v,zQ (putAll kvs ps) k=some v->P v
 | [],_,_,_,h,k,v,e=>h k v e
 | p::ps,kvs,P,hp,h,k,v,e=>by
  refine YL ps (yh kvs p.1 p.2) P (λq hq=>hp q (q1y _ hq)) (λk' v' e'=>?_) k v e;rw [xA] at e'
  split at e'
  ·cases e';exact hp p q1z
  ·exact h k' v' e'
theorem told_val {js:Jb} {vs:List (Option Int)} {k:Key} {v:V} (e:zQ (yn js vs) k=some v):v=.non∨∃ n,v=.int n:=by
 refine YL _ [] (λv=>v=.non∨∃ n,v=.int n) (λp hp=>?_) (λk v e=>by cases e) k v e;obtain ⟨o,_,eo⟩:=List.mem_map.mp (List.of_mem_zip hp).2
 cases o with
 | none=>exact .inl eo.symm
 | some n=>exact .inr ⟨n,eo.symm⟩
inductive spSeat (c:MCs) (K:Fg) (vs:Jn) (H:Hp) (Q:VK) (_:XK):Prop
 | mk (B:Hp) (A:Ma) (M:Mc) (R:Jm) (p:Nat) (aa an:Ad) (js:Jb) (ns:List (Option Int)) (_:vs=[.ref A.b,.int p,.ref aa,.ref an]) (_:MAt c B A M R H) (_:MOk M) (_:((p:Int)+1)*M.group<=8) (_:B aa=some (.lst (js.map V.int))) (_:B an=some (.lst (ns.map oV))) (_:js.length=ns.length) (_:∀ B' H',Same B B'->MAt c B' A (M.laidSeat (yn js ns) p) R H'->Q .non H')
theorem ok_seat {c:MCs} (d:zV K c.bn "lay_seat" "Bench.lay_seat" yO ["self","seat","active","numbers"]) (hrg:mg "range"=none) (hdict:mg "dict"=none) (hzip:mg "zip"=none) (CC:MCls K c) (TK:OkM P w K mg base CX0 1 c.fe "taken" ["self"] (spTaken c.fe)) (LA:OkM P w K mg base CX0 2 c.bx "lay" ["self","group","seat","lane","number"] (spLay c.bx)):OkM P w K mg base CX0 3 c.bn "lay_seat" ["self","seat","active","numbers"] (spSeat c K):=by
 obtain ⟨f,fd,m,F,bd⟩:=d;refine ⟨f,fd,m,bd,F.ok sc_Bench_lay_seat (by rintro vs H Q E ⟨_,_,_,_,_,_,_,_,_,e,_⟩;rw [e];rfl) λcdv A outer s H vs Q E hr h=>?_⟩;obtain ⟨B,A,M,R,p,aa,an,js,ns,rfl,m,ok,h8,ea,en,le,q⟩:=h;have nd:=sc_Bench_lay_seat.nd;have hr2:=hr;have hr1:=hr.mono (show 1<=2 by decide);have hu:=Nat.lt_of_le_of_lt (Nat.add_le_add_left (show 1<=64 by decide) _) hr.units;have CN:=CC.n;have l1:=ok.l1;have l64:=ok.l64;have hg:=ok.g;have rb:M.group*M.lq<=4*M.lq/\1<=M.group*M.lq:=by rcases hg with e | e | e <;> rw [e] <;> omega
 refine ⟨_,(zc (zt (i:=4) nd rfl (Or.inl rfl) (zbk rfl (by rfl) hdict (by rfl) hzip (zb (pv 2) (zb (pv 3) ze))))
   (zg (xR PassesOwn.never rfl (yk rfl hrg (zb (zj zP (zu (pv 0) rfl) (zu (pv 0) rfl)) ze)) (zH (i:=5) nd rfl (Or.inl rfl)) (zc (zt (i:=6) nd rfl (Or.inl rfl) (pe_dget1 hu (pv 4) (pv 5) ⟨rfl,rfl,rfl,rfl⟩))
   (zc (yc (zO (zD Yg (pv 6) yR (zy _)) (zg (zt (i:=6) nd rfl (Or.inl rfl) (pe_okM0 TK CC.f.c hr1 zq (zu (pv 0) rfl)))) zw))
   (zg (zW (zY LA CC.b.c hr2 zq (zu (pv 0) rfl) (zb (zu (pv 0) rfl) (zb (pv 1) (zb (pv 5) (zb (pv 6) ze)))))))))))),?_⟩
 dsimp only [yd,Cx.nox,Cx.wish];have ek:(js.map (Sum.inl:Int->Key)).map kV=js.map V.int:=by rw [List.map_map];rfl
 refine ⟨_,rfl,_,rfl,aa,an,js.map Sum.inl,ns.map oV,rfl,(by rw [ek];exact SqL.of (m.h.sm _ _ ea)),SqL.of (m.h.sm _ _ en),(by rw [Ji,Ji,le]),λdt ndt=>?_⟩;show Yt 4 (.ref dt) _ (upd H dt (.dK (yn js ns))) _;generalize et:yn js ns=told at q;have tv:∀ k v,zQ told k=some v->v=.non∨∃ n,v=.int n:=λk v e=>by rw [← et] at e;exact told_val e
 have sB:Same B (upd B dt (.dK told)):=zi (Same.refl _) (m.h.free ndt);have m1:=m.grow (o:=.dK told) ndt;have ed:upd B dt (.dK told) dt=some (.dK told):=zf;generalize upd B dt (.dK told)=B1 at sB m1 ed;generalize upd H dt (.dK told)=H1 at m1;refine ⟨_,rfl,A.b,_,_,_,.int M.group,rfl,m1.b,CN.c,CN.group,rfl,_,rfl,A.b,_,_,_,.int M.lq,rfl,m1.b,CN.c,CN.lq,rfl,_,_,rfl,rfl,.inl ⟨by omega,by omega⟩,_,rfl,(by show -(2 ^ 62)<=M.group*M.lq;omega),(by show M.group*M.lq<2 ^ 62;omega),?_⟩;show tFor_S _ _ _ _ _ _;refine xU (n:=M.room) (λi σ J=>∃ u5 u6,σ=[rq A.b,iq p,rq aa,rq an,rq dt,u5,u6]/\MAt c B1 A (M.layTo told p i) R J) ⟨none,none,rfl,m1⟩ ?_ ?_
 ·rintro i σ J hi ⟨u5,u6,rfl,m2⟩
  have ss:=M.layTo_same told p i;have edJ:=m2.h.sm _ _ ed;have hi':(i:Int)<M.group*M.lq:=by unfold Mc.room at hi;omega
  obtain ⟨s0,s1⟩:=seat_in hg (show (1:Int)<=M.lq by omega) (show (0:Int)<=p by omega) h8 (show (0:Int)<=i by omega) hi';refine ⟨_,rfl,dt,rfl,.inl ⟨told,.inl edJ⟩,_,rfl,_,DGet.k (k:=.inl (0+(i:Int))) edJ,?_⟩;rw [Int.zero_add];rw [M.layTo_succ];generalize hM:M.layTo told p i=N at m2 ss ⊢;refine ⟨λσ' H'=>∃ (n:Int) (N':Mc),σ'=[rq A.b,iq p,rq aa,rq an,rq dt,iq i,iq n]/\MAt c B1 A N' R H'/\SeatSame M N'/\N.layOne told p i={ N' with nums:=N'.nums.set ((p:Int)*M.group*M.lq+i).toNat n },?_,?_⟩
  ·cases ev:zQ told (.inl (i:Int)) with
   | none =>
    refine ⟨_,rfl,rfl,_,rfl,xE (λz=>?_) (λz=>absurd (show decide (V.non=V.non)=true by decide) z)⟩;refine ⟨_,rfl,A.b,_,_,_,.ref A.fd,rfl,m2.b,CN.c,CN.dust,rfl,A.fd,_,_,rfl,m2.h.get 4 rfl,rfl,A.fd,A.dfd,A.aD,N.dust,N.dq,rfl,m2.h.get 4 rfl,m2.h.sm _ _ m2.bb.dl,λJ3 k3 e3=>?_⟩;refine ⟨_,_,rfl,m2.took k3 e3,⟨ss.g,ss.l,ss.n,ss.d⟩,?_⟩;unfold Mc.layOne;rw [ev,ss.g,ss.l]
   | some v =>
    rcases tv _ _ ev with rfl | ⟨n,rfl⟩
    ·refine ⟨_,rfl,rfl,_,rfl,xE (λz=>?_) (λz=>absurd (show decide (V.non=V.non)=true by decide) z)⟩
     refine ⟨_,rfl,A.b,_,_,_,.ref A.fd,rfl,m2.b,CN.c,CN.dust,rfl,A.fd,_,_,rfl,m2.h.get 4 rfl,rfl,A.fd,A.dfd,A.aD,N.dust,N.dq,rfl,m2.h.get 4 rfl,m2.h.sm _ _ m2.bb.dl,λJ3 k3 e3=>?_⟩;refine ⟨_,_,rfl,m2.took k3 e3,⟨ss.g,ss.l,ss.n,ss.d⟩,?_⟩;unfold Mc.layOne;rw [ev,ss.g,ss.l]
    ·refine ⟨_,rfl,rfl,_,rfl,xE (λz=>absurd z (λy=>by cases of_decide_eq_true y)) (λz=>?_)⟩
     refine ⟨n,N,rfl,m2,ss,?_⟩;unfold Mc.layOne;rw [ev,ss.g,ss.l]
  rintro σ' H' ⟨n,N',rfl,m3,ss',e⟩;rw [e];have eg:=ss'.g;have el:=ss'.l;refine ⟨_,rfl,A.b,_,_,_,.ref A.bx,rfl,m3.b,CN.c,CN.boxes,rfl,A.bx,_,_,rfl,m3.h.sm _ _ m3.bb.bx,rfl,_,rfl,A.b,_,_,_,.int N'.group,rfl,m3.b,CN.c,CN.group,rfl,_,rfl,_,rfl,_,rfl,A.bx,A.dbx,A.aN,N'.lq,N'.group,p,(i:Int),n,N'.nums,rfl,m3.h.sm _ _ m3.bb.bx,m3.h.get 2 rfl,by rw [el];omega,by rw [el];omega,by rw [eg];omega,by rw [eg];omega,?_,?_,?_⟩
  ·rw [eg,el];exact s0
  ·rw [eg,el,ss'.n,ok.nl];omega
  ·refine ⟨_,_,rfl,?_⟩
   have:=m3.putNums (N'.nums.set ((p:Int)*N'.group*N'.lq+i).toNat n);rw [← eg,← el];exact this
 ·rintro σ J ⟨u5,u6,rfl,m2⟩
  exact q B1 J sB m2
section
variable {c:MCs} {B:Hp} {A:Ma} {M:Mc} {R:Jm} {H H':Hp}
def MAt.s_pc (m:MAt c B A M R H) (v:Int):MAt c B A { M with pc:=v } R (upd H A.b (.ins c.bn A.db (zL "at" (.int v) (xb A M)))) :=
 ⟨⟨m.bb.lens,m.bb.starts,m.bb.bx,m.bb.msk,m.bb.ml,m.bb.dl,m.bb.pl,m.bb.tl,m.bb.tt,m.bb.ul,m.bb.uu,m.bb.rf⟩,m.h.put (o':=.ins c.bn A.db (zL "at" (.int v) (xb A M))) 0 rfl⟩
def MAt.s_opened (m:MAt c B A M R H) (v:Int):MAt c B A { M with oq:=v } R (upd H A.b (.ins c.bn A.db (zL "opened" (.int v) (xb A M)))) :=
 ⟨⟨m.bb.lens,m.bb.starts,m.bb.bx,m.bb.msk,m.bb.ml,m.bb.dl,m.bb.pl,m.bb.tl,m.bb.tt,m.bb.ul,m.bb.uu,m.bb.rf⟩,m.h.put (o':=.ins c.bn A.db (zL "opened" (.int v) (xb A M))) 0 rfl⟩
def MAt.s_many (m:MAt c B A M R H) (v:Int):MAt c B A { M with mn_:=v } R (upd H A.b (.ins c.bn A.db (zL "many" (.int v) (xb A M)))) :=
 ⟨⟨m.bb.lens,m.bb.starts,m.bb.bx,m.bb.msk,m.bb.ml,m.bb.dl,m.bb.pl,m.bb.tl,m.bb.tt,m.bb.ul,m.bb.uu,m.bb.rf⟩,m.h.put (o':=.ins c.bn A.db (zL "many" (.int v) (xb A M))) 0 rfl⟩
def MAt.s_group (m:MAt c B A M R H) (v:Int):MAt c B A { M with group:=v } R (upd H A.b (.ins c.bn A.db (zL "group" (.int v) (xb A M)))) :=
 ⟨⟨m.bb.lens,m.bb.starts,m.bb.bx,m.bb.msk,m.bb.ml,m.bb.dl,m.bb.pl,m.bb.tl,m.bb.tt,m.bb.ul,m.bb.uu,m.bb.rf⟩,m.h.put (o':=.ins c.bn A.db (zL "group" (.int v) (xb A M))) 0 rfl⟩
def MAt.s_base (m:MAt c B A M R H) (v:Int):MAt c B A { M with base:=v } R (upd H A.b (.ins c.bn A.db (zL "base" (.int v) (xb A M)))) :=
 ⟨⟨m.bb.lens,m.bb.starts,m.bb.bx,m.bb.msk,m.bb.ml,m.bb.dl,m.bb.pl,m.bb.tl,m.bb.tt,m.bb.ul,m.bb.uu,m.bb.rf⟩,m.h.put (o':=.ins c.bn A.db (zL "base" (.int v) (xb A M))) 0 rfl⟩
def MAt.s_begun (m:MAt c B A M R H) (v:Int):MAt c B A { M with bq:=v } R (upd H A.b (.ins c.bn A.db (zL "begun" (.int v) (xb A M)))) :=
 ⟨⟨m.bb.lens,m.bb.starts,m.bb.bx,m.bb.msk,m.bb.ml,m.bb.dl,m.bb.pl,m.bb.tl,m.bb.tt,m.bb.ul,m.bb.uu,m.bb.rf⟩,m.h.put (o':=.ins c.bn A.db (zL "begun" (.int v) (xb A M))) 0 rfl⟩
def MAt.s_width (m:MAt c B A M R H) (v:Int):MAt c B A { M with wq:=v } R (upd H A.b (.ins c.bn A.db (zL "width" (.int v) (xb A M)))) :=
 ⟨⟨m.bb.lens,m.bb.starts,m.bb.bx,m.bb.msk,m.bb.ml,m.bb.dl,m.bb.pl,m.bb.tl,m.bb.tt,m.bb.ul,m.bb.uu,m.bb.rf⟩,m.h.put (o':=.ins c.bn A.db (zL "width" (.int v) (xb A M))) 0 rfl⟩
def MAt.s_cut (m:MAt c B A M R H) (v:Option Int):MAt c B A { M with cut:=v } R (upd H A.b (.ins c.bn A.db (zL "cut" (oV v) (xb A M)))) :=
 ⟨⟨m.bb.lens,m.bb.starts,m.bb.bx,m.bb.msk,m.bb.ml,m.bb.dl,m.bb.pl,m.bb.tl,m.bb.tt,m.bb.ul,m.bb.uu,m.bb.rf⟩,m.h.put (o':=.ins c.bn A.db (zL "cut" (oV v) (xb A M))) 0 rfl⟩
def MAt.s_carried (m:MAt c B A M R H) (v:Option Int):MAt c B A { M with cq:=v } R (upd H A.b (.ins c.bn A.db (zL "carried" (oV v) (xb A M)))) :=
 ⟨⟨m.bb.lens,m.bb.starts,m.bb.bx,m.bb.msk,m.bb.ml,m.bb.dl,m.bb.pl,m.bb.tl,m.bb.tt,m.bb.ul,m.bb.uu,m.bb.rf⟩,m.h.put (o':=.ins c.bn A.db (zL "carried" (oV v) (xb A M))) 0 rfl⟩
def MAt.s_faults (m:MAt c B A M R H) {n:Ad} (nn:H n=none):MAt c B { A with aF:=n } { M with fq:=[] } R (upd (upd H n (.dK [])) A.b (.ins c.bn A.db (zL "faults" (.ref n) (xb A M)))):=by
 have h:=(m.h.new (o:=.dK []) nn).put (o':=.ins c.bn A.db (zL "faults" (.ref n) (xb A M))) 1 rfl;refine ⟨⟨m.bb.lens,m.bb.starts,m.bb.bx,m.bb.msk,m.bb.ml,m.bb.dl,m.bb.pl,m.bb.tl,m.bb.tt,m.bb.ul,m.bb.uu,m.bb.rf⟩,?_⟩;have h2:=h.sub (L':=(n,.dK [])::(A.b,.ins c.bn A.db (zL "faults" (.ref n) (xb A M)))::(A.aC,.lst (M.cells.map V.int))::(A.aN,.lst (M.nums.map V.int))::(A.aSl,.dK M.slots)::(A.fd,Zz c.fe A.dfd A.aD (fAt M.dust M.dq))::(A.fp,Zz c.fe A.dfp A.aP (fAt M.picks M.pq))::(A.aT,.lst (A.ts.map V.ref))::(A.aU,.lst (A.us.map V.ref))::(xT A M++R)) (.cons₂ _ (.cons₂ _ (.cons₂ _ (.cons₂ _ (.cons₂ _ (.cons₂ _ (.cons₂ _ (.cons₂ _ (.cons _ (List.Sublist.refl _))))))))));refine h2.perm ?_;exact (List.perm_middle (a:=(n,HO.dK [])) (l₁:=[_,_,_,_,_,_,_]) (l₂:=_::_)).symm
end
structure MOk0 (M:Mc):Prop where
 l1:1<=M.lq
 l64:M.lq<=64
 nl:M.nums.length=8*M.lq
 ml:M.masks.length=16
 mm:∀ m∈M.masks,m.length=4*M.lq
def MOk.zero {M:Mc} (ok:MOk M):MOk0 M:=⟨ok.l1,ok.l64,ok.nl,ok.ml,ok.mm⟩
def MOk0.strip {M:Mc} (ok:MOk0 M) (hg:M.group=1∨M.group=2∨M.group=4) {w b:Int} (h0:0<=w) (h1:w<=M.group*M.lq):MOk { M with base:=b,wq:=w,bq:=w,fq:=[],cut:=none }:=⟨ok.l1,ok.l64,hg,ok.nl,ok.ml,ok.mm,h0,h1⟩
def Mc.wide (M:Mc) (b:Int):Int:=if M.group*M.lq<M.mn_-b then M.group*M.lq else M.mn_-b
def Mc.strip (M:Mc) (b:Int):Mc:=({ M with base:=b,wq:=M.wide b,bq:=M.wide b,fq:=[],cut:=none }:Mc).laidMask 0 (xQ (M.wide b).toNat)
inductive spStrip (c:MCs) (vs:Jn) (H:Hp) (Q:VK) (_:XK):Prop
 | mk (B:Hp) (A:Ma) (M:Mc) (R:Jm) (b:Int) (_:vs=[.ref A.b,.int b]) (_:MAt c B A M R H) (_:MOk0 M) (_:(M.group=1∨M.group=2∨M.group=4)) (_:b<=M.mn_) (_:∀ B' A' H',Same B B'->A'.b=A.b->MAt c B' A' (M.strip b) R H'->Q .non H')
def ok_strip {c:MCs} (d:zV K c.bn "begin_strip" "Bench.begin_strip" yi ["self","base"]) (hrg:mg "range"=none) (hlist:mg "list"=none) (hmin:mg "min"=none) (CC:MCls K c) (LM:OkM P w K mg base CX0 2 c.bn "lay_mask" ["self","mask","chosen"] (spMask c K)):OkM P w K mg base CX0 3 c.bn "begin_strip" ["self","base"] (spStrip c):=by
 obtain ⟨f,fd,m,F,bd⟩:=d;refine ⟨f,fd,m,bd,F.ok sc_Bench_begin_strip (by rintro vs H Q E ⟨_,_,_,_,_,e,_⟩;rw [e];rfl) λcdv A outer s H vs Q E hr h=>?_⟩;obtain ⟨B,A,M,R,b,rfl,m,ok,hg,hb,q⟩:=h;have nd:=sc_Bench_begin_strip.nd;have hr2:=hr;have CN:=CC.n;have l1:=ok.l1;have l64:=ok.l64;have rb:M.group*M.lq<=4*M.lq/\1<=M.group*M.lq:=by rcases hg with e | e | e <;> rw [e] <;> omega
 have w01:0<=M.wide b/\M.wide b<=M.group*M.lq:=by unfold Mc.wide;split <;> omega
 refine ⟨_,(zc (zJ (pv 0) (pv 1) rfl)
   (zc (zJ (pv 0) (zC (Zu rfl) (by rfl) hmin PyProof.Rows.boot_min (zb (zj YS (zu (pv 0) rfl) (pv 1)) (zb (zj zP (zu (pv 0) rfl) (zu (pv 0) rfl)) ze))) rfl)
   (zc (zJ (pv 0) (zu (pv 0) rfl) rfl)
   (zc (zJ (pv 0) YQ rfl)
   (zc (zJ (pv 0) yR rfl)
   (zg (zW (zY LM CC.n.c hr2 zq (pv 0) (zb zd (zb (yl (Xo rfl) (by rfl) hlist PyProof.Rows.boot_list (zb (yl zbb (by rfl) hrg PyProof.Rows.boot_range (zb (zu (pv 0) rfl) ze)) ze)) ze)))))))))),?_⟩
 dsimp only [yd,Cx.nox,Cx.wish];refine ⟨_,rfl,_,rfl,A.b,_,_,_,rfl,m.b,CN.c,CN.base,(by show 23<1000;decide),?_⟩;have m:=m.s_base b;refine ⟨_,rfl,A.b,_,_,_,.int M.mn_,rfl,m.b,CN.c,CN.mn_,rfl,_,rfl,_,_,rfl,rfl,_,rfl,A.b,_,_,_,.int M.group,rfl,m.b,CN.c,CN.group,rfl,_,rfl,A.b,_,_,_,.int M.lq,rfl,m.b,CN.c,CN.lq,rfl,_,_,rfl,rfl,.inl ⟨by omega,by omega⟩,_,_,rfl,_,rfl,A.b,_,_,_,rfl,m.b,CN.c,CN.wq,(by show 23<1000;decide),?_⟩;have m:=m.s_width (M.wide b);refine ⟨_,rfl,A.b,_,_,_,.int (M.wide b),rfl,m.b,CN.c,CN.wq,rfl,_,rfl,A.b,_,_,_,rfl,m.b,CN.c,CN.bq,(by show 23<1000;decide),?_⟩;have m:=m.s_begun (M.wide b);refine λn nn=>?_;have mf:=m.s_faults nn;refine ⟨_,rfl,A.b,_,_,_,rfl,(by rw [zk (zp m.b nn)];exact m.b),CN.c,CN.fq,(by show 23<1000;decide),?_⟩;have m:=mf;refine ⟨_,rfl,A.b,_,_,_,rfl,m.b,CN.c,CN.cut,(by show 23<1000;decide),?_⟩;have m:=m.s_cut none;obtain ⟨wn,ew⟩:∃ wn:Nat,M.wide b=wn:=⟨(M.wide b).toNat,by omega⟩;have ok2:MOk { M with base:=b,wq:=M.wide b,bq:=M.wide b,fq:=[],cut:=none }:=ok.strip hg w01.1 w01.2;refine ⟨_,rfl,A.b,_,_,rfl,m.b,rfl,_,rfl,A.b,_,_,_,.int (M.wide b),rfl,m.b,CN.c,CN.wq,rfl,_,rfl,λrg nrg=>?_⟩;have m1:=m.grow (o:=.rng 0 (M.wide b)) nrg;have s1:Same B (upd B rg (.rng 0 (M.wide b))):=zi (Same.refl _) (m.h.free nrg);have e1:upd B rg (.rng 0 (M.wide b)) rg=some (.rng 0 (M.wide b)):=zf;generalize upd B rg (.rng 0 (M.wide b))=B1 at m1 s1 e1;refine ⟨rg,wn,rfl,(by rw [← ew];exact m1.h.sm _ _ e1),by omega,λl nl=>?_⟩;have m2:=m1.grow (o:=.lst ((xQ wn).map V.int)) nl;have s2:Same B1 (upd B1 l (.lst ((xQ wn).map V.int))):=zi (Same.refl _) (m1.h.free nl);have e2:upd B1 l (.lst ((xQ wn).map V.int)) l=some (.lst ((xQ wn).map V.int)):=zf;generalize upd B1 l (.lst ((xQ wn).map V.int))=B2 at m2 s2 e2;refine ⟨B2,{ A with aF:=n },{ M with base:=b,wq:=M.wide b,bq:=M.wide b,fq:=[],cut:=none },R,0,l,xQ wn,rfl,m2,ok2,by decide,e2,(λj hj=>?_),λH9 m9=>?_⟩
 ·obtain ⟨i,hi,rfl⟩:=List.mem_map.mp hj
  have:=List.mem_range.mp hi;show 0<=(i:Int)/\(i:Int)<M.group*M.lq;omega
 ·refine q B2 { A with aF:=n } H9 (s1.trans s2) rfl ?_
  unfold Mc.strip;rw [ew,q0z];rw [ew] at m9;exact m9
def Mc.round (M:Mc) (mn_ group:Int):Mc:=({ M with oq:=M.pc,mn_:=mn_,group:=group,cq:=none }:Mc).strip 0
inductive spRound (c:MCs) (vs:Jn) (H:Hp) (Q:VK) (_:XK):Prop
 | mk (B:Hp) (A:Ma) (M:Mc) (R:Jm) (mn_ group:Int) (_:vs=[.ref A.b,.int mn_,.int group]) (_:MAt c B A M R H) (_:MOk0 M) (_:(group=1∨group=2∨group=4)) (_:0<=mn_) (_:∀ B' A' H',Same B B'->A'.b=A.b->MAt c B' A' (M.round mn_ group) R H'->Q .non H')
def ok_round {c:MCs} (d:zV K c.bn "open_round" "Bench.open_round" yq ["self","many","group"]) (CC:MCls K c) (BS:OkM P w K mg base CX0 3 c.bn "begin_strip" ["self","base"] (spStrip c)):OkM P w K mg base CX0 4 c.bn "open_round" ["self","many","group"] (spRound c):=by
 obtain ⟨f,fd,m,F,bd⟩:=d;refine ⟨f,fd,m,bd,F.ok sc_Bench_open_round (by rintro vs H Q E ⟨_,_,_,_,_,_,e,_⟩;rw [e];rfl) λcdv A outer s H vs Q E hr h=>?_⟩;obtain ⟨B,A,M,R,mn_,group,rfl,m,ok,hg,hm,q⟩:=h;have nd:=sc_Bench_open_round.nd;have hr3:=hr;have CN:=CC.n;refine ⟨_,(zc (zJ (pv 0) (zu (pv 0) rfl) rfl)
   (zc (zJ (pv 0) (pv 1) rfl)
   (zc (zJ (pv 0) (pv 2) rfl)
   (zc (zJ (pv 0) yR rfl)
   (zg (zW (zY BS CC.n.c hr3 zq (pv 0) (zb zd ze)))))))),?_⟩
 dsimp only [yd,Cx.nox,Cx.wish];refine ⟨_,rfl,A.b,_,_,_,.int M.pc,rfl,m.b,CN.c,CN.pc,rfl,_,rfl,A.b,_,_,_,rfl,m.b,CN.c,CN.oq,(by show 23<1000;decide),?_⟩;have m:=m.s_opened M.pc;refine ⟨_,rfl,_,rfl,A.b,_,_,_,rfl,m.b,CN.c,CN.mn_,(by show 23<1000;decide),?_⟩;have m:=m.s_many mn_;refine ⟨_,rfl,_,rfl,A.b,_,_,_,rfl,m.b,CN.c,CN.group,(by show 23<1000;decide),?_⟩;have m:=m.s_group group;refine ⟨_,rfl,A.b,_,_,_,rfl,m.b,CN.c,CN.cq,(by show 23<1000;decide),?_⟩;have m:=m.s_carried none;exact ⟨_,rfl,A.b,_,_,rfl,m.b,rfl,B,A,{ M with oq:=M.pc,mn_:=mn_,group:=group,cq:=none },R,0,rfl,m,⟨ok.l1,ok.l64,ok.nl,ok.ml,ok.mm⟩,hg,hm,λB' A' H' s eb m'=>q B' A' H' s eb m'⟩
end K37
namespace L2
open PySem
def ix_tupK {X:Cx} {K:Fg} (e:X.K=K):IxR X (rIxT K):=by subst e;exact zB
end L2
namespace K37
open PySem L2
variable {P:Program} {w:World} {K:Fg} {mg:J9} {base:Heap}
def zS (K:Fg) (mg:J9) (aS:Ad) (sg nm:Str):Prop:=∃ f,PySem.W.nsIn K aS sg=some (some (.ref f))/\mg nm=some (.ref f)
structure TabA where
 s:Ad
 e:Ad
 w:Ad
structure Tabs (w:World) (K:Fg) (mg:J9) (t:TabA):Prop where
 Ts:Zf w K t.s
 Te:Zf w K t.e
 Tw:Zf w K t.w
 ls:(t.s == sysModules)=false
 le:(t.e == sysModules)=false
 hs:mg "SEAT_STEPS"=some (.ref t.s)
 he:mg "EFFECTS"=some (.ref t.e)
 hw:mg "WAYS"=some (.ref t.w)
 s_number:zS K mg t.s "number" "numbers_written"
 s_here:zS K mg t.s "here" "numbers_of_here"
 s_load:zS K mg t.s "load" "numbers_loaded"
 s_spread:zS K mg t.s "spread" "numbers_spread"
 s_shift:zS K mg t.s "shift" "numbers_shifted"
 s_gather:zS K mg t.s "gather" "numbers_gathered"
 s_op:zS K mg t.s "op" "numbers_joined"
 s_pick:zS K mg t.s "pick" "numbers_picked"
 s_copy:zS K mg t.s "copy" "numbers_copied"
 s_bring:zS K mg t.s "bring" "numbers_brought"
 e_reach:zS K mg t.e "reach" "play_reach"
 es_reach:PySem.W.nsIn K t.s "reach"=some none
 e_trim:zS K mg t.e "trim" "play_trim"
 es_trim:PySem.W.nsIn K t.s "trim"=some none
 e_stop:zS K mg t.e "stop" "play_stop"
 es_stop:PySem.W.nsIn K t.s "stop"=some none
 e_choose:zS K mg t.e "choose" "play_choose"
 es_choose:PySem.W.nsIn K t.s "choose"=some none
 e_other:zS K mg t.e "other" "play_other"
 es_other:PySem.W.nsIn K t.s "other"=some none
 e_save:zS K mg t.e "save" "play_save"
 es_save:PySem.W.nsIn K t.s "save"=some none
 e_store:zS K mg t.e "store" "play_store"
 es_store:PySem.W.nsIn K t.s "store"=some none
 e_put:zS K mg t.e "put" "play_put"
 es_put:PySem.W.nsIn K t.s "put"=some none
 e_fold:zS K mg t.e "fold" "play_fold"
 es_fold:PySem.W.nsIn K t.s "fold"=some none
 e_running:zS K mg t.e "running" "play_running"
 es_running:PySem.W.nsIn K t.s "running"=some none
 e_any:zS K mg t.e "any" "play_any"
 es_any:PySem.W.nsIn K t.s "any"=some none
 w_begin:zS K mg t.w "begin" "play_begin"
 ws_begin:PySem.W.nsIn K t.s "begin"=some none
 we_begin:PySem.W.nsIn K t.e "begin"=some none
 w_next:zS K mg t.w "next" "play_next"
 ws_next:PySem.W.nsIn K t.s "next"=some none
 we_next:PySem.W.nsIn K t.e "next"=some none
 w_turns:zS K mg t.w "turns" "play_turns"
 ws_turns:PySem.W.nsIn K t.s "turns"=some none
 we_turns:PySem.W.nsIn K t.e "turns"=some none
 w_quiet:zS K mg t.w "quiet" "play_quiet"
 ws_quiet:PySem.W.nsIn K t.s "quiet"=some none
 we_quiet:PySem.W.nsIn K t.e "quiet"=some none
 w_till:zS K mg t.w "till" "play_till"
 ws_till:PySem.W.nsIn K t.s "till"=some none
 we_till:PySem.W.nsIn K t.e "till"=some none
abbrev FnM:=Jn->Mc->Jb->Option (Mc×List (Option Int))
structure FnMOk (f:FnM):Prop where
 ok:∀ {tv M js M' ns},f tv M js=some (M',ns)->MOk M->MOk M'
 g:∀ {tv M js M' ns},f tv M js=some (M',ns)->M'.group=M.group
 n:∀ {tv M js M' ns},f tv M js=some (M',ns)->ns.length=js.length
inductive spFn (c:MCs) (f:FnM) (vs:Jn) (H:Hp) (Q:VK) (_:XK):Prop
 | mk (B:Hp) (A:Ma) (M:Mc) (R:Jm) (st aa:Ad) (tv:Jn) (js:Jb) (M':Mc) (ns:List (Option Int)) (_:vs=[.ref A.b,.ref st,.ref aa]) (_:MAt c B A M R H) (_:B st=some (.tup tv)) (_:B aa=some (.lst (js.map V.int))) (_:f tv M js=some (M',ns)) (_:MOk M) (_:(∀ j∈js,0<=j/\j<M.group*M.lq)) (_:js.length<=1000) (_:∀ B' A' H' l,Same B B'->A'.b=A.b->MAt c B' A' M' R H'->B' l=some (.lst (ns.map oV))->Q (.ref l) H')
def seatM (f:FnM) (tv:Jn) (M:Mc):Option Mc:=match (tv[1]?:Jo),tv.getLast? with
 | some (V.int p),some (V.int k)=>if 0<=p/\(p+1)*M.group<=8/\0<=k/\k<16 then (f tv M (M.act k.toNat)).map λr=>r.1.laidSeat (yn (M.act k.toNat) r.2) p.toNat else none
 | _,_=>none
inductive spPSS (c:MCs) (S:Str->FnM->Prop) (vs:Jn) (H:Hp) (Q:VK) (_:XK):Prop
 | mk (word:Str) (f:FnM) (B:Hp) (A:Ma) (M:Mc) (R:Jm) (st:Ad) (tv:Jn) (M':Mc) (_:S word f) (_:vs=[.ref A.b,.ref st]) (_:MAt c B A M R H) (_:B st=some (.tup tv)) (_:tv[0]?=some (.str word)) (_:seatM f tv M=some M') (_:MOk M) (_:∀ B' A' H',Same B B'->A'.b=A.b->MAt c B' A' M' R H'->Q .non H')
def Yj {M:Mc} (ok:MOk M) {k:Nat} (hk:k<16):M.wq.toNat<=(M.masks.getD k []).length/\M.wq.toNat<=1000:=by
 have ml:=ok.ml;have hk':k<M.masks.length:=by omega
 have l1:=ok.l1;have l64:=ok.l64;have w0:=ok.w0;have w1:=ok.w1
 have lm:(M.masks.getD k []).length=4*M.lq:=by
  rw [q1x,List.getElem?_eq_getElem hk'];exact ok.mm _ (List.getElem_mem hk')
 have rb:M.group*M.lq<=4*M.lq:=by rcases ok.g with e | e | e <;> rw [e] <;> omega
 rw [lm];omega
def act_in {M:Mc} (ok:MOk M) (k:Nat):(∀ j∈M.act k,0<=j/\j<M.group*M.lq)/\(M.act k).length<=1000:=by
 have w0:=ok.w0;have w1:=ok.w1;refine ⟨λj hj=>?_,?_⟩
 ·obtain ⟨a,b,_⟩:=Mc.act_mem hj
  omega
 ·have:=M.actTo_len k M.wq.toNat
  have rb:M.group*M.lq<=4*M.lq:=by rcases ok.g with e | e | e <;> rw [e] <;> omega
  have:=ok.l64;unfold Mc.act;omega
def atI_lst {tv:Jn} {v:V} (h:tv.getLast?=some v):atI tv (-1)=some v:=by
 obtain ⟨l,rfl⟩:∃ l,tv=l++[v]:=by
  rw [List.getLast?_eq_some_iff] at h;exact h
 exact atI_last _ _
def Yo (P:Program) (w:World) (K:Fg) (mg:J9) (base:Heap) (c:MCs) (t:TabA) (S:Str->FnM->Prop) (rm:Nat):Prop:=∀ word f,S word f->∃ (nm:Str) (ps:Jf),zS K mg t.s word nm/\Ok P w K mg base CX0 rm nm ps (spFn c f)/\FnMOk f
def ok_pss {c:MCs} {t:TabA} {S:Str->FnM->Prop} {rm:Nat} (d:zr K mg "play_seat_step" yK ["bench","step"]) (CC:MCls K c) (TT:Tabs w K mg t) (hrm:rm<=6) (AU:OkM P w K mg base CX0 1 c.bn "active_under" ["self","mask"] (spAct c)) (LS:OkM P w K mg base CX0 3 c.bn "lay_seat" ["self","seat","active","numbers"] (spSeat c K))
  (SW:Yo P w K mg base c t S rm):Ok P w K mg base CX0 7 "play_seat_step" ["bench","step"] (spPSS c S):=by
 obtain ⟨g,fd,m,F,b⟩:=d;refine ⟨g,fd,m,F.kp,b,F.ok sc_play_seat_step (by rintro vs H Q E ⟨_,_,_,_,_,_,_,_,_,_,e,_⟩;rw [e];rfl) λcdv A outer s H vs Q E hr h=>?_⟩;obtain ⟨word,f,B,A,M,R,st,tv,M',hS,rfl,m,es,e0,eM,ok,q⟩:=h;obtain ⟨nm,ps,sg,FN,fo⟩:=SW word f hS;have nd:=sc_play_seat_step.nd;have hr3:=hr.mono (show 3<=6 by decide);have hr1:=hr.mono (show 1<=6 by decide);have hrF:Room rm _:=hr.mono hrm;have CN:=CC.n;unfold seatM at eM
 split at eM
 case h_2=>cases eM
 rename_i p k e1 el
 split at eM
 case isFalse=>cases eM
 rename_i hc;obtain ⟨p0,p8,k0,k16⟩:=hc;obtain ⟨⟨M1,ns⟩,ef,rfl⟩:=Option.map_eq_some_iff.mp eM;obtain ⟨pn,rfl⟩:∃ n:Nat,p=n:=⟨p.toNat,by omega⟩;obtain ⟨kn,rfl⟩:∃ n:Nat,k=n:=⟨k.toNat,by omega⟩;rw [q0z] at ef;have kn16:kn<16:=by omega
 obtain ⟨mr1,mr2⟩:=Yj ok kn16;obtain ⟨ai,al⟩:=act_in ok kn;have ml:=ok.ml;refine ⟨_,(zc (zt (i:=2) nd rfl (Or.inl rfl) (zY AU CC.n.c hr1 zq (pv 0) (zb (zm zB (pv 1) (pe_un un_neg zd) (λ_ _=>rfl)) ze)))
   (zg (zW (zY LS CC.n.c hr3 zq (pv 0) (zb (zm zB (pv 1) zd (λ_ _=>rfl)) (zb (pv 2) (zb (YR (CX:=CX0) (k:=rm) (zm ix_top (ZU TT.hs) (zm zB (pv 1) zd (λ_ _=>rfl)) (λ_ _=>rfl)) hrF zq (zb (pv 0) (zb (pv 1) (zb (pv 2) ze)))) ze))))))),?_⟩
 dsimp only [yd,Cx.nox,Cx.wish];refine ⟨_,rfl,A.b,_,_,rfl,m.b,rfl,_,rfl,_,rfl,st,_,_,_,rfl,rfl,SqT.of (m.h.sm _ _ es),atI_lst el,B,A,M,R,kn,rfl,m,by omega,ok.w0,mr1,mr2,λB1 H1 l s1 m1 ea=>?_⟩;obtain ⟨fn,efn,mfn⟩:=sg;obtain ⟨f2,fd2,mf2,kp,bb,FO⟩:=FN;cases mfn.symm.trans mf2;refine ⟨_,rfl,A.b,_,_,rfl,m1.b,rfl,_,rfl,st,_,_,_,rfl,rfl,SqT.of (m1.h.sm _ _ (s1 _ _ es)),zv e1,_,rfl,_,rfl,st,_,_,_,rfl,rfl,SqT.of (m1.h.sm _ _ (s1 _ _ es)),zv (j:=0) e0,t.s,word,.ref fn,.ref fn,rfl,rfl,TT.Ts,efn,rfl,?_⟩;refine ⟨fn,fd2,ps,spFn c f,rfl,FO,kp,bb,_,rfl,_,rfl,_,rfl,B1,A,M,R,st,l,tv,M.act kn,M1,ns,rfl,m1,s1 _ _ es,ea,ef,ok,ai,al,λB2 A2 H2 l2 s2 eb m2 en=>?_⟩;refine ⟨B2,A2,M1,R,pn,l,l2,M.act kn,ns,by rw [eb];rfl,m2,fo.ok ef ok,by rw [fo.g ef];exact p8,s2 _ _ ea,en,(fo.n ef).symm,λB3 H3 s3 m3=>?_⟩;rw [q0z,q0z] at q;exact q B3 A2 H3 ((s1.trans s2).trans s3) eb m3
def Mc.reads (M:Mc) (row:Nat) (js:Jb):Mc:={ M with tq:=M.tq++js.map λj=>(M.pc,("read":Str),M.adr row (M.base+j)) }
def Mc.valAt (M:Mc) (row:Nat) (j:Int):Int:=M.cells.getD (M.adr row (M.base+j)).toNat 0
def Mc.reads_snoc (M:Mc) (row:Nat) (js:Jb) (j:Int):M.reads row (js++[j])=(M.reads row js).touched "read" (M.adr row (M.base+j)):=by
 unfold Mc.reads Mc.touched;rw [Jk,← List.append_assoc];rfl
def rowIn (M:Mc) (row:Nat) (js:Jb):Prop:=row<M.starts.length/\∀ j∈js,0<=M.adr row (M.base+j)/\(M.adr row (M.base+j)).toNat<M.cells.length
open Classical in
noncomputable def ZX:FnM:=λtv M js=>match (tv[2]?:Jo) with
 | some (V.int r)=>if 0<=r/\rowIn M r.toNat js/\M.tq.length+js.length<100000 then some (M.reads r.toNat js,js.map λj=>some (M.valAt r.toNat j)) else none
 | _=>none
def ZW {tv:Jn} {M M':Mc} {js:Jb} {ns:List (Option Int)} (h:ZX tv M js=some (M',ns)):∃ r:Nat,tv[2]?=some (.int r)/\rowIn M r js/\M.tq.length+js.length<100000/\M'=M.reads r js/\ns=js.map λj=>some (M.valAt r j):=by
 unfold ZX at h
 split at h
 ·rename_i r e
  split at h
  ·rename_i hc
   obtain ⟨r0,h1,h2⟩:=hc;cases h;exact ⟨r.toNat,by rw [e];congr 2;omega,h1,h2,rfl,rfl⟩
  ·cases h
 ·cases h
def loadM_ok:FnMOk ZX where
 ok:=λh ok=>by
  obtain ⟨r,_,_,_,rfl,_⟩:=ZW h;exact ⟨ok.l1,ok.l64,ok.g,ok.nl,ok.ml,ok.mm,ok.w0,ok.w1⟩
 g:=λh=>by
  obtain ⟨r,_,_,_,rfl,_⟩:=ZW h;rfl
 n:=λh=>by
  obtain ⟨r,_,_,_,_,rfl⟩:=ZW h;rw [Ji]
def ok_loaded {c:MCs} (d:zr K mg "numbers_loaded" yM ["bench","step","active"]) (CC:MCls K c) (RC:OkM P w K mg base CX0 2 c.bn "read_cell" ["self","row","place"] (spRead c)):Ok P w K mg base CX0 3 "numbers_loaded" ["bench","step","active"] (spFn c ZX):=by
 obtain ⟨g,fd,m,F,b⟩:=d;refine ⟨g,fd,m,F.kp,b,F.ok sc_numbers_loaded (by rintro vs H Q E ⟨_,_,_,_,_,_,_,_,_,_,e,_⟩;rw [e];rfl) λcdv A outer s H vs Q E hr h=>?_⟩;obtain ⟨B,A,M,R,st,aa,tv,js,M',ns,rfl,m,es,ea,ef,ok,hj,hl,q⟩:=h;obtain ⟨r,e2,⟨hr0,hin⟩,ht,rfl,rfl⟩:=ZW ef;have nd:=sc_numbers_loaded.nd;have hr2:=hr;have CN:=CC.n;have SL:(3000:Nat)<sizeLine:=by decide
 refine ⟨_,(zg (zo (yF ["lane","bench","step"] [none,some 0,some 1] rfl rfl rfl (ZR (pv 2)) (λs3 H3 fp=>⟨zH (i:=0) (Jp ["lane","bench","step"]) rfl (Or.inl rfl),(zY RC CC.n.c hr2 zq (pv 1) (zb (zm (ix_tupK (K:=K) rfl) (pv 2) zd (λ_ _=>rfl)) (zb (zj zF (Zr (K:=K) rfl (pv 1) rfl) (pv 0)) ze)))⟩)))),?_⟩;dsimp only [yd,Cx.nox,Cx.wish];refine ⟨_,rfl,aa,rfl,⟨_,SqL.of (m.h.sm _ _ ea)⟩,_,rfl,λD nD=>?_⟩
 have m0:MAt c B A (M.reads r (js.take 0)) ((D,.lst (((js.take 0).map λj=>some (M.valAt r j)).map oV))::R) (upd H D (.lst [])):=by
  have e:M.reads r (js.take 0)=M:=by unfold Mc.reads;rw [List.take_zero];show { M with tq:=M.tq++[] }=M;rw [q3y]
  rw [e];exact m.newR nD
 generalize upd H D (.lst [])=H1 at m0 ⊢;let Pv1:Nat->St->Hp->Prop:=(λi σ J=>∃ (u:Jo) (B1:Hp) (A1:Ma),σ=[u,rq A.b,rq st]/\Same B B1/\A1.b=A.b/\MAt c B1 A1 (M.reads r (js.take i)) ((D,.lst (((js.take i).map λj=>some (M.valAt r j)).map oV))::R) J);refine Ym (K:=K) (a:=aa) (D:=D) (xs:=js.map V.int) Pv1 ⟨none,B,A,rfl,Same.refl _,rfl,m0⟩ (λi σ J _ ⟨_,B1,A1,_,s1,_,m1⟩=>SqL.of (m1.h.sm _ _ (s1 _ _ ea))) ?_ ?_
 ·clear m0
  rintro i y σ J hy ⟨u,B1,A1,rfl,s1,eb,m1⟩;obtain ⟨hlt,rfl⟩:=ZF hy;have mj:=L2.getD_mem hlt;have e9:js[i]?=some (js.getD i 0):=by rw [q1x,List.getElem?_eq_getElem hlt];rfl
  generalize js.getD i 0=j at mj e9;obtain ⟨j0,j1⟩:=hin j mj;refine ⟨_,rfl,A1.b,_,_,by rw [eb],m1.b,rfl,_,rfl,st,_,_,_,rfl,rfl,SqT.of (m1.h.sm _ _ (s1 _ _ es)),zv (j:=2) e2,_,rfl,A1.b,_,_,_,.int M.base,by rw [eb],m1.b,CN.c,CN.base,rfl,_,rfl,_,_,rfl,rfl,B1,A1,M.reads r (js.take i),_,r,M.base+j,by rw [eb];rfl,m1,?_,hr0,j0,j1,λB2 A2 H2 s2 eb2 m2=>?_⟩
  ·show (M.tq++_).length<_
   rw [Jj,Ji,List.length_take];omega
  refine ⟨_,m2.getR,(by rw [Ji,Ji,List.length_take];omega),_,B2,A2,rfl,s1.trans s2,eb2.trans eb,?_⟩;have m3:=m2.putR (o':=.lst (((js.take (i+1)).map λj=>some (M.valAt r j)).map oV));have et:js.take (i+1)=js.take i++[j]:=by rw [List.take_add_one,e9];rfl
  rw [et,M.reads_snoc];rw [et,Jk,Jk] at m3;rw [Jk,Jk];exact m3
 ·rintro σ J ⟨u,B1,A1,rfl,s1,eb,m1⟩
  rw [Ji,List.take_length] at m1;have nb:B1 D=none:=m1.h.nw (D,_) (List.mem_of_getElem? atR);exact q _ A1 J D (s1.trans (zi (Same.refl _) nb)) eb m1.settle zf
abbrev EfM:=Jn->Mc->Option Mc
inductive spEf (c:MCs) (f:EfM) (vs:Jn) (H:Hp) (Q:VK) (_:XK):Prop
 | mk (B:Hp) (A:Ma) (M:Mc) (R:Jm) (st:Ad) (tv:Jn) (M':Mc) (_:vs=[.ref A.b,.ref st]) (_:MAt c B A M R H) (_:B st=some (.tup tv)) (_:f tv M=some M') (_:MOk M) (_:∀ B' A' H',Same B B'->A'.b=A.b->MAt c B' A' M' R H'->Q .non H')
inductive spPE (c:MCs) (S:Str->EfM->Prop) (vs:Jn) (H:Hp) (Q:VK) (_:XK):Prop
 | mk (word:Str) (f:EfM) (B:Hp) (A:Ma) (M:Mc) (R:Jm) (st:Ad) (tv:Jn) (M':Mc) (_:S word f) (_:vs=[.ref A.b,.ref st]) (_:MAt c B A M R H) (_:B st=some (.tup tv)) (_:tv[0]?=some (.str word)) (_:f tv M=some M') (_:MOk M) (_:∀ B' A' H',Same B B'->A'.b=A.b->MAt c B' A' M' R H'->Q .non H')
def Xf (P:Program) (w:World) (K:Fg) (mg:J9) (base:Heap) (c:MCs) (t:TabA) (S:Str->EfM->Prop) (rm:Nat):Prop:=∀ word f,S word f->PySem.W.nsIn K t.s word=some none/\∃ (nm:Str) (ps:Jf),zS K mg t.e word nm/\Ok P w K mg base CX0 rm nm ps (spEf c f)
def ok_pe {c:MCs} {t:TabA} {S:Str->EfM->Prop} {rm:Nat} (hrm:rm<=7) (d:zr K mg "play_effect" xc ["bench","step"]) (TT:Tabs w K mg t) (EW:Xf P w K mg base c t S rm):Ok P w K mg base CX0 8 "play_effect" ["bench","step"] (spPE c S):=by
 obtain ⟨g,fd,m,F,b⟩:=d;refine ⟨g,fd,m,F.kp,b,F.ok YG (by rintro vs H Q E ⟨_,_,_,_,_,_,_,_,_,_,e,_⟩;rw [e];rfl) λcdv A outer s H vs Q E hr h=>?_⟩;obtain ⟨word,f,B,A,M,R,st,tv,M',hS,rfl,m,es,e0,eM,ok,q⟩:=h;obtain ⟨_,nm,ps,sg,FN⟩:=EW word f hS;have hr4:=hr.mono (show 4<=7 by decide);have hrF:Room rm _:=hr.mono hrm;obtain ⟨fn,efn,mfn⟩:=sg;obtain ⟨f2,fd2,mf2,kp,bb,FO⟩:=FN;cases mfn.symm.trans mf2;refine ⟨_,(zg (zW (YR (CX:=CX0) (k:=rm) (zm ix_top (ZU TT.he) (zm zB (pv 1) zd (λ_ _=>rfl)) (λ_ _=>rfl)) hrF zq (zb (pv 0) (zb (pv 1) ze))))),?_⟩;dsimp only [yd,Cx.nox,Cx.wish];exact ⟨_,rfl,st,_,_,_,rfl,rfl,SqT.of (m.h.sm _ _ es),zv (j:=0) e0,t.e,word,.ref fn,.ref fn,rfl,rfl,TT.Te,efn,rfl,fn,fd2,ps,spEf c f,rfl,FO,kp,bb,_,rfl,_,rfl,B,A,M,R,st,tv,M',rfl,m,es,eM,ok,q⟩
inductive spIn (aD:Ad) (K:Fg) (vs:Jn) (H:Hp) (Q:VK) (_:XK):Prop
 | mk (word:Str) (r:Je) (_:vs=[.str word]) (_:PySem.W.nsIn K aD word=some r) (_:Q (.bl r.isSome) H)
def ok_lsw {t:TabA} (d:zr K mg "lays_seat" xJ ["word"]) (TT:Tabs w K mg t):Ok P w K mg base CX0 1 "lays_seat" ["word"] (spIn t.s K):=by
 obtain ⟨g,fd,m,F,b⟩:=d;refine ⟨g,fd,m,F.kp,b,F.ok XN (by rintro vs H Q E ⟨_,_,e,_⟩;rw [e];rfl) λcdv A outer s H vs Q E hr h=>?_⟩;obtain ⟨word,r,rfl,e,q⟩:=h;refine ⟨_,(zg (zo (yD Xt (pv 0) (ZU TT.hs) rfl))),?_⟩;dsimp only [yd,Cx.nox,Cx.wish];exact ⟨_,rfl,word,t.s,r,rfl,rfl,TT.Ts,TT.ls,e,q⟩
def ok_hew {t:TabA} (d:zr K mg "has_effect" xq ["word"]) (TT:Tabs w K mg t):Ok P w K mg base CX0 1 "has_effect" ["word"] (spIn t.e K):=by
 obtain ⟨g,fd,m,F,b⟩:=d;refine ⟨g,fd,m,F.kp,b,F.ok Xk (by rintro vs H Q E ⟨_,_,e,_⟩;rw [e];rfl) λcdv A outer s H vs Q E hr h=>?_⟩;obtain ⟨word,r,rfl,e,q⟩:=h;refine ⟨_,(zg (zo (yD Xt (pv 0) (ZU TT.he) rfl))),?_⟩;dsimp only [yd,Cx.nox,Cx.wish];exact ⟨_,rfl,word,t.e,r,rfl,rfl,TT.Te,TT.le,e,q⟩
def Mc.puts (M:Mc) (row:Nat) (ps:List (Int×Int)):Mc:=ps.foldl (λM p=>M.wrote row p.1 p.2) M
def Mc.puts_snoc (M:Mc) (row:Nat) (ps:List (Int×Int)) (p:Int×Int):M.puts row (ps++[p])=(M.puts row ps).wrote row p.1 p.2:=by
 unfold Mc.puts;rw [List.foldl_append];rfl
theorem Mc.puts_is (M:Mc) (row:Nat) (ps:List (Int×Int)):M.puts row ps={ M with cells:=(M.puts row ps).cells,tq:=M.tq++ps.map λp=>(M.pc,("write":Str),M.adr row p.1) }/\(M.puts row ps).cells.length=M.cells.length:=by
 induction ps generalizing M with
 | nil=>exact ⟨by show M={ M with tq:=M.tq++[] };rw [q3y],rfl⟩
 | cons p ps ih =>
  obtain ⟨a,b⟩:=ih (M.wrote row p.1 p.2);have e:M.puts row (p::ps)=(M.wrote row p.1 p.2).puts row ps:=rfl;rw [e];refine ⟨?_,b.trans (by show (M.cells.set _ _).length=_;rw [List.length_set])⟩;rw [a];show ({ M with cells:=_,tq:=(M.tq++[_])++ps.map _ }:Mc)={ M with cells:=_,tq:=_ };rw [List.append_assoc];rfl
open Classical in
noncomputable def Zj:EfM:=λtv M=>match (tv[1]?:Jo),(tv[2]?:Jo),(tv[3]?:Jo) with
 | some (V.int r),some (V.int p),some (V.int k)=>if 0<=r/\0<=p/\(p+1)*M.group<=8/\0<=k/\k<16/\rowIn M r.toNat (M.act k.toNat)/\M.tq.length+(M.act k.toNat).length<100000 then some (M.puts r.toNat ((M.act k.toNat).map λj=>(M.base+j,M.nq p.toNat j))) else none
 | _,_,_=>none
def storeM_is {tv:Jn} {M M':Mc} (h:Zj tv M=some M'):∃ r p k:Nat,tv[1]?=some (.int r)/\tv[2]?=some (.int p)/\tv[3]?=some (.int k)/\((p:Int)+1)*M.group<=8/\k<16/\rowIn M r (M.act k)/\M.tq.length+(M.act k).length<100000/\M'=M.puts r ((M.act k).map λj=>(M.base+j,M.nq p j)):=by
 unfold Zj at h
 split at h
 ·rename_i r p k e1 e2 e3
  split at h
  ·rename_i hc
   obtain ⟨r0,p0,p8,k0,k1,hin,ht⟩:=hc;cases h;refine ⟨r.toNat,p.toNat,k.toNat,?_,?_,?_,?_,by omega,hin,ht,rfl⟩
   ·rw [e1];congr 2;omega
   ·rw [e2];congr 2;omega
   ·rw [e3];congr 2;omega
   ·rw [Int.toNat_of_nonneg p0];exact p8
  ·cases h
 ·cases h
def xk {α:Type} {f:α->V} {l:List α} {i:Nat} {x:V} (h:(l.map f)[i]?=some x):∃ a,l[i]?=some a/\x=f a:=by
 rw [List.getElem?_map] at h;obtain ⟨a,e,z⟩:=Option.map_eq_some_iff.mp h;exact ⟨a,e,z.symm⟩
def ok_store {c:MCs} (d:zr K mg "play_store" xm ["bench","step"]) (hzip:mg "zip"=none) (CC:MCls K c) (AU:OkM P w K mg base CX0 1 c.bn "active_under" ["self","mask"] (spAct c)) (NI:OkM P w K mg base CX0 3 c.bn "numbers_in" ["self","seat","active"] (spNums c K))
  (WC:OkM P w K mg base CX0 2 c.bn "write_cell" ["self","row","place","number"] (spWrite c)):Ok P w K mg base CX0 4 "play_store" ["bench","step"] (spEf c Zj):=by
 obtain ⟨g,fd,m,F,b⟩:=d;refine ⟨g,fd,m,F.kp,b,F.ok sc_play_store (by rintro vs H Q E ⟨_,_,_,_,_,_,_,e,_⟩;rw [e];rfl) λcdv A outer s H vs Q E hr h=>?_⟩;obtain ⟨B,A,M,R,st,tv,M',rfl,m,es,ef,ok,q⟩:=h;have nd:=sc_play_store.nd;have hr3:=hr;have hr2:=hr.mono (show 2<=3 by decide);have hr1:=hr.mono (show 1<=3 by decide);have CN:=CC.n;have ml:=ok.ml;obtain ⟨r,p,k,e1,e2,e3,p8,k16,⟨hr0,hin⟩,ht,rfl⟩:=storeM_is ef;obtain ⟨mr1,mr2⟩:=Yj ok k16;obtain ⟨ai,al⟩:=act_in ok k;refine ⟨_,(zc (zt (i:=2) nd rfl (Or.inl rfl) (zY AU CC.n.c hr1 zq (pv 0) (zb (zm zB (pv 1) zd (λ_ _=>rfl)) ze)))
   (zg (xR PassesOwn.never rfl (pi_zip rfl hzip (zb (pv 2) (zb (zY NI CC.n.c hr3 zq (pv 0) (zb (zm zB (pv 1) zd (λ_ _=>rfl)) (zb (pv 2) ze))) ze))) (pg_tup rfl (yE (zH (i:=3) nd rfl (Or.inl rfl)) (yE (zH (i:=4) nd rfl (Or.inl rfl)) ZT))) (zg (zW (zY WC CC.n.c hr2 zq (pv 0) (zb (zm zB (pv 1) zd (λ_ _=>rfl)) (zb (zj zF (zu (pv 0) rfl) (pv 3)) (zb (pv 4) ze))))))))),?_⟩
 dsimp only [yd,Cx.nox,Cx.wish];refine ⟨_,rfl,A.b,_,_,rfl,m.b,rfl,_,rfl,st,_,_,_,rfl,rfl,SqT.of (m.h.sm _ _ es),zv (j:=3) e3,B,A,M,R,k,rfl,m,by omega,ok.w0,mr1,mr2,λB1 H1 l s1 m1 ea=>?_⟩;refine ⟨_,rfl,_,rfl,A.b,_,_,rfl,m1.b,rfl,_,rfl,st,_,_,_,rfl,rfl,SqT.of (m1.h.sm _ _ (s1 _ _ es)),zv (j:=2) e2,_,rfl,B1,A,M,R,p,l,M.act k,rfl,m1,ok,p8,ea,ai,al,λB2 H2 l2 s2 m2 en=>?_⟩;refine ⟨l,l2,rfl,⟨_,SqL.of (m2.h.sm _ _ (s2 _ _ ea))⟩,⟨_,SqL.of (m2.h.sm _ _ en)⟩,?_⟩;generalize M.act k=js at *;let pr:Int->Int×Int:=λj=>(M.base+j,M.nq p j);let Pv1:Nat->St->Hp->Prop:=(λi σ J=>∃ u3 u4 B3 A3,σ=[rq A.b,rq st,rq l,u3,u4]/\Same B2 B3/\A3.b=A.b/\MAt c B3 A3 (M.puts r ((js.take i).map pr)) R J);refine for_zip (xs:=js.map V.int) (ys:=(js.map (M.nq p)).map V.int) Pv1 ⟨none,none,B2,A,rfl,Same.refl _,rfl,m2⟩ (λi σ J _ ⟨_,_,B3,A3,_,s3,_,m3⟩=>⟨SqL.of (m3.h.sm _ _ (s3 _ _ (s2 _ _ ea))),SqL.of (m3.h.sm _ _ (s3 _ _ en))⟩) (by rw [Ji,Ji,Ji]) ?_ ?_
 ·rintro i x y σ J T hx hy ⟨u3,u4,B3,A3,rfl,s3,eb,m3⟩ nT
  obtain ⟨j,e9,rfl⟩:=xk hx;obtain ⟨z,e10,rfl⟩:=xk hy;rw [List.getElem?_map,e9] at e10;cases e10;have mj:j∈js:=List.mem_of_getElem? e9;obtain ⟨j0,j1⟩:=hin j mj;have m4:=m3.grow (o:=.tup [.int j,.int (M.nq p j)]) nT;have s4:Same B3 (upd B3 T (.tup [.int j,.int (M.nq p j)])):=zi (Same.refl _) (m3.h.free nT);have e4:upd B3 T (.tup [.int j,.int (M.nq p j)]) T=some (.tup [.int j,.int (M.nq p j)]):=zf;generalize upd J T (.tup [.int j,.int (M.nq p j)])=J4 at m4 ⊢;generalize upd B3 T (.tup [.int j,.int (M.nq p j)])=B4 at m4 s4 e4;obtain ⟨pi1,pi2⟩:=M.puts_is r ((js.take i).map pr);have hb:(M.puts r ((js.take i).map pr)).base=M.base:=by rw [pi1]
  have hs:(M.puts r ((js.take i).map pr)).starts=M.starts:=by rw [pi1]
  have hT:(M.puts r ((js.take i).map pr)).tq.length<100000:=by
   rw [pi1];show (M.tq++_).length<_;rw [Jj,Ji,Ji,List.length_take];have:i<js.length:=(List.getElem?_eq_some_iff.mp e9).1;omega
  refine ⟨T,_,rfl,SqT.of (m4.h.sm _ _ e4),rfl,_,_,rfl,_,_,rfl,rfl,?_⟩;refine ⟨_,rfl,A3.b,_,_,by rw [eb],m4.b,rfl,_,rfl,st,_,_,_,rfl,rfl,SqT.of (m4.h.sm _ _ (s4 _ _ (s3 _ _ (s2 _ _ (s1 _ _ es))))),zv (j:=1) e1,_,rfl,A3.b,_,_,_,.int M.base,by rw [eb],m4.b,CN.c,CN.base,(by show some (V.int _)=_;rw [hb]),_,rfl,_,_,rfl,rfl,_,rfl,B4,A3,_,R,r,M.base+j,M.nq p j,by rw [eb];rfl,m4,hT,?_,?_,?_,λB5 A5 H5 s5 eb5 m5=>?_⟩
  ·rw [hs];exact hr0
  ·unfold Mc.adr;rw [hs];exact j0
  ·unfold Mc.adr;rw [hs,pi2];exact j1
  ·refine ⟨_,_,B5,A5,rfl,(s3.trans s4).trans s5,eb5.trans eb,?_⟩
   have et:(js.take (i+1)).map pr=(js.take i).map pr++[pr j]:=by rw [List.take_add_one,e9,Jk];rfl
   rw [et,M.puts_snoc];exact m5
 ·rintro σ J ⟨u3,u4,B3,A3,rfl,s3,eb,m3⟩
  rw [Ji,List.take_length] at m3;exact q B3 A3 J ((s1.trans s2).trans s3) eb m3
abbrev WyM:=Jn->Mc->Mc->Int->Prop
inductive spWy (c:MCs) (f:WyM) (vs:Jn) (H:Hp) (Q:VK) (_:XK):Prop
 | mk (B:Hp) (A:Ma) (M:Mc) (R:Jm) (st:Ad) (tv:Jn) (M':Mc) (n:Int) (_:vs=[.ref A.b,.ref st]) (_:MAt c B A M R H) (_:B st=some (.tup tv)) (_:f tv M M' n) (_:∀ B' A' H',Same B B'->A'.b=A.b->MAt c B' A' M' R H'->Q (.int n) H')
def Xe:WyM:=λtv M M' n=>∃ mn_ group:Int,tv[1]?=some (.int mn_)/\tv[2]?=some (.int group)/\MOk0 M/\(group=1∨group=2∨group=4)/\0<=mn_/\M'=M.round mn_ group/\n=M.pc+1
def nextW:WyM:=λtv M M' n=>MOk0 M/\(M.group=1∨M.group=2∨M.group=4)/\(if M.base+M.bq<M.mn_ then M'=M.strip (M.base+M.bq)/\n=M.oq+1 else M'=M/\n=M.pc+1)
def ok_begin {c:MCs} (d:zr K mg "play_begin" xo ["bench","step"]) (CC:MCls K c) (OR:OkM P w K mg base CX0 4 c.bn "open_round" ["self","many","group"] (spRound c)):Ok P w K mg base CX0 5 "play_begin" ["bench","step"] (spWy c Xe):=by
 obtain ⟨g,fd,m,F,b⟩:=d;refine ⟨g,fd,m,F.kp,b,F.ok Xj (by rintro vs H Q E ⟨_,_,_,_,_,_,_,_,e,_⟩;rw [e];rfl) λcdv A outer s H vs Q E hr h=>?_⟩;obtain ⟨B,A,M,R,st,tv,M',n,rfl,m,es,⟨mn_,group,e1,e2,ok,hg,hm,rfl,rfl⟩,q⟩:=h;have hr4:=hr;have CN:=CC.n;refine ⟨_,(zc (zW (zY OR CC.n.c hr4 zq (pv 0) (zb (zm zB (pv 1) zd (λ_ _=>rfl)) (zb (zm zB (pv 1) zd (λ_ _=>rfl)) ze))))
   (zg (zo (zj zF (zu (pv 0) rfl) zd)))),?_⟩
 dsimp only [yd,Cx.nox,Cx.wish];refine ⟨_,rfl,A.b,_,_,rfl,m.b,rfl,_,rfl,st,_,_,_,rfl,rfl,SqT.of (m.h.sm _ _ es),zv (j:=1) e1,_,rfl,st,_,_,_,rfl,rfl,SqT.of (m.h.sm _ _ es),zv (j:=2) e2,B,A,M,R,mn_,group,rfl,m,ok,hg,hm,λB1 A1 H1 s1 eb m1=>?_⟩;exact ⟨_,rfl,A1.b,_,_,_,.int M.pc,by rw [eb],m1.b,CN.c,CN.pc,rfl,_,_,rfl,rfl,q B1 A1 H1 s1 eb m1⟩
def ok_next {c:MCs} (d:zr K mg "play_next" xI ["bench","step"]) (CC:MCls K c) (BS:OkM P w K mg base CX0 3 c.bn "begin_strip" ["self","base"] (spStrip c)):Ok P w K mg base CX0 5 "play_next" ["bench","step"] (spWy c nextW):=by
 obtain ⟨g,fd,m,F,b⟩:=d;refine ⟨g,fd,m,F.kp,b,F.ok sc_play_next (by rintro vs H Q E ⟨_,_,_,_,_,_,_,_,e,_⟩;rw [e];rfl) λcdv A outer s H vs Q E hr h=>?_⟩;obtain ⟨B,A,M,R,st,tv,M',n,rfl,m,es,⟨ok,hg,hx⟩,q⟩:=h;have nd:=sc_play_next.nd;have hr3:=hr.mono (show 3<=4 by decide);have CN:=CC.n;refine ⟨_,(zc (zt (i:=2) nd rfl (Or.inl rfl) (zj zF (zu (pv 0) rfl) (zu (pv 0) rfl)))
   (zc (zO (zD Yq (pv 2) (zu (pv 0) rfl) (zy _)) (zc (zW (zY BS CC.n.c hr3 zq (pv 0) (zb (pv 2) ze)))
   (zg (zo (zj zF (zu (pv 0) rfl) zd)))) zw)
   (zg (zo (zj zF (zu (pv 0) rfl) zd))))),?_⟩
 dsimp only [yd,Cx.nox,Cx.wish];refine ⟨_,rfl,A.b,_,_,_,.int M.base,rfl,m.b,CN.c,CN.base,rfl,_,rfl,A.b,_,_,_,.int M.bq,rfl,m.b,CN.c,CN.bq,rfl,_,_,rfl,rfl,?_⟩;refine ⟨_,rfl,_,rfl,A.b,_,_,_,.int M.mn_,rfl,m.b,CN.c,CN.mn_,rfl,_,_,rfl,rfl,_,rfl,?_⟩;refine xE (λz=>?_) (λz=>?_)
 ·have z:=of_decide_eq_true z
  rw [if_pos z] at hx;obtain ⟨rfl,rfl⟩:=hx;refine ⟨_,rfl,A.b,_,_,rfl,m.b,rfl,_,rfl,B,A,M,R,M.base+M.bq,rfl,m,ok,hg,by omega,λB1 A1 H1 s1 eb m1=>?_⟩;exact ⟨_,rfl,A1.b,_,_,_,.int M.oq,by rw [eb],m1.b,CN.c,CN.oq,rfl,_,_,rfl,rfl,q B1 A1 H1 s1 eb m1⟩
 ·rw [if_neg (λy=>z (decide_eq_true y))] at hx
  obtain ⟨rfl,rfl⟩:=hx;exact ⟨_,rfl,A.b,_,_,_,.int M'.pc,rfl,m.b,CN.c,CN.pc,rfl,_,_,rfl,rfl,q B A H (Same.refl _) rfl m⟩
structure Lex where
 S:Str->FnM->Prop
 E:Str->EfM->Prop
 W:Str->WyM->Prop
inductive Step (L:Lex) (tv:Jn) (M:Mc):Mc->Prop
 | seat {word f M'}:L.S word f->tv[0]?=some (.str word)->seatM f tv M=some M'->MOk M->Step L tv M { M' with pc:=M'.pc+1 }
 | eff {word f M'}:L.E word f->tv[0]?=some (.str word)->f tv M=some M'->MOk M->Step L tv M { M' with pc:=M'.pc+1 }
 | way {word f M' n}:L.W word f->tv[0]?=some (.str word)->f tv M M' n->Step L tv M { M' with pc:=n }
def zbc (P:Program) (w:World) (K:Fg) (mg:J9) (base:Heap) (c:MCs) (t:TabA) (S:Str->WyM->Prop) (rm:Nat):Prop:=∀ word f,S word f->PySem.W.nsIn K t.s word=some none/\PySem.W.nsIn K t.e word=some none/\∃ (nm:Str) (ps:Jf),zS K mg t.w word nm/\Ok P w K mg base CX0 rm nm ps (spWy c f)
inductive spPB (c:MCs) (L:Lex) (vs:Jn) (H:Hp) (Q:VK) (_:XK):Prop
 | mk (B:Hp) (A:Ma) (M:Mc) (R:Jm) (st:Ad) (tv:Jn) (M':Mc) (_:vs=[.ref A.b,.ref st]) (_:MAt c B A M R H) (_:B st=some (.tup tv)) (_:Step L tv M M') (_:∀ B' A' H' M1,Same B B'->A'.b=A.b->MAt c B' A' M1 R H'->M'={ M1 with pc:=M'.pc }->Q (.int M'.pc) H')
theorem ok_pb {c:MCs} {t:TabA} {L:Lex} {rm rs re:Nat} (d:zr K mg "place_behind" yZ ["bench","step"]) (CC:MCls K c) (TT:Tabs w K mg t) (hrm:rm<=8) (SW:Yo P w K mg base c t L.S rs) (EW:Xf P w K mg base c t L.E re) (WW:zbc P w K mg base c t L.W rm)
  (LSW:Ok P w K mg base CX0 1 "lays_seat" ["word"] (spIn t.s K)) (HEW:Ok P w K mg base CX0 1 "has_effect" ["word"] (spIn t.e K)) (PSS:Ok P w K mg base CX0 7 "play_seat_step" ["bench","step"] (spPSS c L.S)) (PE:Ok P w K mg base CX0 8 "play_effect" ["bench","step"] (spPE c L.E)) :
  Ok P w K mg base CX0 9 "place_behind" ["bench","step"] (spPB c L):=by
 obtain ⟨g,fd,m,F,b⟩:=d;refine ⟨g,fd,m,F.kp,b,F.ok Yv (by rintro vs H Q E ⟨_,_,_,_,_,_,_,e,_⟩;rw [e];rfl) λcdv A outer s H vs Q E hr h=>?_⟩;obtain ⟨B,A,M,R,st,tv,M',rfl,m,es,hS,q⟩:=h;have hr5:=hr;have hr4:=hr.mono (show 7<=8 by decide);have hr1:=hr.mono (show 1<=8 by decide);have hrF:Room rm _:=hr.mono hrm;have CN:=CC.n;refine ⟨_,(zc (zO (yW (zK LSW hr1 (by rfl) zq (zb (zm zB (pv 1) zd (λ_ _=>rfl)) ze))) (zc (zW (zK PSS hr4 (by rfl) zq (zb (pv 0) (zb (pv 1) ze))))
   (zg (zo (zj zF (zu (pv 0) rfl) zd)))) zw)
   (zc (zO (yW (zK HEW hr1 (by rfl) zq (zb (zm zB (pv 1) zd (λ_ _=>rfl)) ze))) (zc (zW (zK PE hr5 (by rfl) zq (zb (pv 0) (zb (pv 1) ze))))
   (zg (zo (zj zF (zu (pv 0) rfl) zd)))) zw)
   (zg (zo (YR (CX:=CX0) (k:=rm) (zm ix_top (ZU TT.hw) (zm zB (pv 1) zd (λ_ _=>rfl)) (λ_ _=>rfl)) hrF zq (zb (pv 0) (zb (pv 1) ze))))))),?_⟩
 dsimp only [yd,Cx.nox,Cx.wish];have sqt:SqT K H st tv:=SqT.of (m.h.sm _ _ es)
 cases hS with
 | seat hs e0 eM ok =>
  rename_i word f M1;obtain ⟨nm,ps,⟨fn,efn,mfn⟩,FN,fo⟩:=SW word f hs;refine ⟨_,rfl,st,_,_,_,rfl,rfl,sqt,zv (j:=0) e0,word,_,rfl,efn,_,rfl,?_⟩;refine xa ?_;refine ⟨_,rfl,_,rfl,word,f,B,A,M,R,st,tv,M1,hs,rfl,m,es,e0,eM,ok,λB1 A1 H1 s1 eb m1=>?_⟩;exact ⟨_,rfl,A1.b,_,_,_,.int M1.pc,by rw [eb],m1.b,CN.c,CN.pc,rfl,_,_,rfl,rfl,q B1 A1 H1 M1 s1 eb m1 rfl⟩
 | eff hs e0 eM ok =>
  rename_i word f M1;obtain ⟨n1,nm,ps,⟨fn,efn,mfn⟩,FN⟩:=EW word f hs;refine ⟨_,rfl,st,_,_,_,rfl,rfl,sqt,zv (j:=0) e0,word,_,rfl,n1,_,rfl,?_⟩;refine ym ?_;refine ⟨_,rfl,st,_,_,_,rfl,rfl,sqt,zv (j:=0) e0,word,_,rfl,efn,_,rfl,?_⟩;refine xa ?_;refine ⟨_,rfl,_,rfl,word,f,B,A,M,R,st,tv,M1,hs,rfl,m,es,e0,eM,ok,λB1 A1 H1 s1 eb m1=>?_⟩;exact ⟨_,rfl,A1.b,_,_,_,.int M1.pc,by rw [eb],m1.b,CN.c,CN.pc,rfl,_,_,rfl,rfl,q B1 A1 H1 M1 s1 eb m1 rfl⟩
 | way hs e0 eM =>
  rename_i word f M1 n;obtain ⟨n1,n2,nm,ps,⟨fn,efn,mfn⟩,FN⟩:=WW word f hs;obtain ⟨f2,fd2,mf2,kp,bb,FO⟩:=FN;cases mfn.symm.trans mf2;refine ⟨_,rfl,st,_,_,_,rfl,rfl,sqt,zv (j:=0) e0,word,_,rfl,n1,_,rfl,?_⟩;refine ym ?_;refine ⟨_,rfl,st,_,_,_,rfl,rfl,sqt,zv (j:=0) e0,word,_,rfl,n2,_,rfl,?_⟩;refine ym ?_;exact ⟨_,rfl,st,_,_,_,rfl,rfl,sqt,zv (j:=0) e0,t.w,word,.ref fn,.ref fn,rfl,rfl,TT.Tw,efn,rfl,fn,fd2,ps,spWy c f,rfl,FO,kp,bb,_,rfl,_,rfl,B,A,M,R,st,tv,M1,n,rfl,m,es,eM,λB1 A1 H1 s1 eb m1=>q B1 A1 H1 M1 s1 eb m1 rfl⟩
def yI {F:List (Str×V)} {n:Nat} (h:F.length+n<1000):F.length<1000:=by omega
theorem yH {F:List (Str×V)} {n:Nat} (f:Str) (v:V) (h:F.length+(n+1)<1000):∃ g,zL f v F=g/\g.length+n<1000:=by
 have l:∀ F:List (Str×V),(zL f v F).length<=F.length+1:=by
  intro F
  induction F with
  | nil=>exact Nat.le_refl _
  | cons p F ih =>
   obtain ⟨g,x⟩:=p;show (if g=f then (g,v)::F else (g,x)::zL f v F).length<=_
   split
   ·exact Nat.le_succ _
   ·exact Nat.succ_le_succ ih
 exact ⟨_,rfl,by have:=l F;omega⟩
theorem Y4 {α:Type}:∀ (L:List α) (i:Nat) (p:α),L[i]?=some p->(p::L.eraseIdx i).Perm L
 | a::L,0,p,e=>by cases e;exact .refl _
 | a::L,i+1,p,e=>(List.Perm.swap a p _).trans (.cons a (Y4 L i p e))
def zU {B H:Hp} {L:Jm} {p:Ad×HO} (h:Hd B L H) (i:Nat) (e:L[i]?=some p):Hd B (p::L.eraseIdx i) H:=h.perm (Y4 L i p e).symm
theorem zal {f:Str} {v:V}:∀ {F:List (Str×V)},f ∉ F.map Prod.fst->zL f v F=F++[(f,v)]
 | [],_=>rfl
 | (g,x)::F,h=>by
  show (if g=f then (g,v)::F else (g,x)::zL f v F)=_;rw [if_neg λe=>h (by rw [← e];exact q1z),zal λm=>h (q1y _ m)];rfl
theorem foldF:∀ (ps acc:List (Str×V)),((acc++ps).map Prod.fst).Nodup->ps.foldl (λF p=>zL p.1 p.2 F) acc=acc++ps
 | [],acc,_=>(q3y _).symm
 | p::ps,acc,h=>by
  have e:acc++p::ps=(acc++[p])++ps:=by rw [List.append_assoc];rfl
  have n:p.1 ∉ acc.map Prod.fst:=λm=>by
   rw [Jk,List.map_cons] at h;exact (List.nodup_append.mp h).2.2 _ m _ q1z rfl
  show ps.foldl _ (zL p.1 p.2 acc)=_;rw [zal n,foldF ps (acc++[p]) (by rw [← e];exact h),e]
def foldF0 (ps:List (Str×V)) (h:(ps.map Prod.fst).Nodup):ps.foldl (λF p=>zL p.1 p.2 F) []=ps:=(foldF ps [] h).trans (List.nil_append _)
inductive spStart (K:Fg) (vs:Jn) (H:Hp) (Q:VK) (_:XK):Prop
 | mk (p:Ad) (ns:Jb) (r:Int) (_:vs=[.ref p,.int r]) (_:SqL K H p (ns.map V.int)) (_:0<=r) (_:∀ H',Same H H'->Q (.int (ns.take r.toNat).sum) H')
def ok_start (d:zr K mg "start_of" xY ["lengths","row"]) (hsum:mg "sum"=none):Ok P w K mg base CX0 1 "start_of" ["lengths","row"] (spStart K):=by
 obtain ⟨g,fd,m,F,b⟩:=d;refine ⟨g,fd,m,F.kp,b,F.ok zai (by rintro vs H Q E ⟨_,_,_,e,_⟩;rw [e];rfl) λcdv A outer s H vs Q E hr h=>?_⟩;obtain ⟨p,ns,r,rfl,hS,h0,k⟩:=h;refine ⟨_,(zg (zo (zC (call_sum rfl) (by rfl) hsum PyProof.Rows.boot_sum (zb (pe_slice sl_list (pv 0) po_none (po_some (pv 1))) ze)))),?_⟩;dsimp only [yd,Cx.nox,Cx.wish];refine ⟨_,rfl,_,rfl,r,rfl,p,_,rfl,hS,λl hl=>?_⟩;rw [cutV_take h0];exact ⟨l,_,rfl,SqL.of zf,k _ (zi (Same.refl H) hl)⟩
def xS (lens:Jb):Jb:=(List.range lens.length).map λr=>(lens.take r).sum
def Mc.fresh (lens cells:Jb) (L:Nat) (dust picks:Jb):Mc where
 lens:=lens
 starts:=xS lens
 cells:=cells
 lq:=L
 nums:=List.replicate (8*L) 0
 masks:=List.replicate 16 (List.replicate (4*L) false)
 slots:=[]
 dust:=dust
 dq:=0
 picks:=picks
 pq:=0
 tq:=[]
 pc:=0
 oq:=0
 mn_:=0
 group:=1
 base:=0
 bq:=0
 wq:=0
 fq:=[]
 cut:=none
 cq:=none
 raised:=false
 turns:=[]
 rq_:=none
theorem msk_fresh (ms:Jg) (r:List Bool):((ms.zip (List.replicate ms.length r)).map λp=>(p.1,HO.lst (p.2.map V.bl)))=ms.map λa=>(a,HO.lst (r.map V.bl)):=by
 induction ms with
 | nil=>rfl
 | cons a ms ih =>
  rw [q3x,List.replicate_succ,List.zip_cons_cons,List.map_cons,List.map_cons,ih]
inductive spInitN (c:MCs) (K:Fg) (vs:Jn) (H:Hp) (Q:VK) (_:XK):Prop
 | mk (B:Hp) (x dx l1 l2 l3 l4:Ad) (lens cells dust picks:Jb) (L:Nat) (_:vs=[.ref x,.ref l1,.ref l2,.int L,.ref l3,.ref l4]) (_:Hd B [(x,.ins c.bn dx [])] H) (_:SqL K B l1 (lens.map V.int)) (_:SqL K B l2 (cells.map V.int)) (_:SqL K B l3 (dust.map V.int)) (_:SqL K B l4 (picks.map V.int)) (_:1<=L) (_:L<=64) (_:lens.length<=1000) (_:∀ B' A' H',Same B B'->A'.b=x->MAt c B' A' (Mc.fresh lens cells L dust picks) [] H'->Q .non H')
theorem ok_initN {c:MCs} {t1 t2:Tok} (d:ZH K c.bn "Bench.__init__" xv ["self","lengths","cells","lanes","dust","picks"]) (CC:MCls K c) (hlist:mg "list"=none) (hlen:mg "len"=none) (hrg:mg "range"=none) (hMT:mg "MOST_TOGETHER"=some (.int 4 t1)) (hMM:mg "MANY_MASKS"=some (.int 16 t2))
  (hCb:mg "Boxes"=some (.ref c.bx)) (hCf:mg "Feed"=some (.ref c.fe)) (SO:Ok P w K mg base CX0 1 "start_of" ["lengths","row"] (spStart K)) (IB:OkI P w K mg base CX0 1 c.bx ["self","lanes"] (spInitB c.bx)) (IF:OkI P w K mg base CX0 1 c.fe ["self","numbers"] (spInitF K c.fe)) :
  OkI P w K mg base CX0 3 c.bn ["self","lengths","cells","lanes","dust","picks"] (spInitN c K):=by
 obtain ⟨f,fd,m,F,bd⟩:=d;refine ⟨f,fd,m,bd,F.ok sc_Bench_init (by rintro vs H Q E ⟨_,_,_,_,_,_,_,_,_,_,_,_,e,_⟩;rw [e];rfl) λcdv A outer s H vs Q E hr h=>?_⟩;obtain ⟨B,x,dx,l1,l2,l3,l4,lens,cells,dust,picks,L,rfl,h,q1,q2,q3,q4,L1,L64,hl,q⟩:=h;have nd:=sc_Bench_init.nd;have hr2:=hr;have hr1:=hr.mono (show 1<=2 by decide);have CN:=CC.n;refine ⟨_,(zc (zJ (pv 0) (yl ya (by rfl) hlist PyProof.Rows.boot_list (zb (pv 1) ze)) rfl)
   (zc (zJ (pv 0) (yF ["row","lengths"] [none,some 1] rfl rfl rfl (yk rfl hrg (zb (zC zN (by rfl) hlen PySem.boot_len (zb (pv 1) ze)) ze)) (λs3 H3 fp=>⟨zH (i:=0) (Jp ["row","lengths"]) rfl (Or.inl rfl),(zK SO hr1 (by rfl) zq (zb (pv 1) (zb (pv 0) ze)))⟩)) rfl)
   (zc (zJ (pv 0) (yl ya (by rfl) hlist PyProof.Rows.boot_list (zb (pv 2) ze)) rfl)
   (zc (zJ (pv 0) (pv 3) rfl)
   (zc (zJ (pv 0) (XX IB hCb hr2 (by rfl) zq (zb (pv 3) ze)) rfl)
   (zc (zJ (pv 0) (yF ["mask","lanes"] [none,some 3] rfl rfl rfl (yk rfl hrg (zb (XY hMM) ze)) (λs3 H3 fp=>⟨zH (i:=0) (Jp ["mask","lanes"]) rfl (Or.inl rfl),(zj ZE (yu (zb xO ze)) (zj zP (XY hMT) (pv 1)))⟩)) rfl)
   (zc (zJ (pv 0) YQ rfl)
   (zc (zJ (pv 0) (XX IF hCf hr2 (by rfl) zq (zb (pv 4) ze)) rfl)
   (zc (zJ (pv 0) (XX IF hCf hr2 (by rfl) zq (zb (pv 5) ze)) rfl)
   (zc (zJ (pv 0) (yu ze) rfl)
   (zc (zJ (pv 0) zd rfl)
   (zc (zJ (pv 0) zd rfl)
   (zc (zJ (pv 0) zd rfl)
   (zc (zJ (pv 0) zd rfl)
   (zc (zJ (pv 0) zd rfl)
   (zc (zJ (pv 0) zd rfl)
   (zc (zJ (pv 0) zd rfl)
   (zc (zJ (pv 0) YQ rfl)
   (zc (zJ (pv 0) yR rfl)
   (zc (zJ (pv 0) yR rfl)
   (zc (zJ (pv 0) xO rfl)
   (zc (zJ (pv 0) (yu ze) rfl)
   (zg (zJ (pv 0) yR rfl)))))))))))))))))))))))),?_⟩
 dsimp only [yd,Cx.nox,Cx.wish];have SL:(3000:Nat)<sizeLine:=by decide
 have q1:SqL K B l1 (lens.map V.int):=q1;obtain ⟨F0,e0F,nF⟩:∃ F0:List (Str×V),[]=F0/\F0.length+30<1000:=⟨[],rfl,by decide⟩;rw [e0F] at h;refine ⟨_,rfl,l1,_,rfl,.inl (h.sql q1),λaL nL=>?_⟩;replace h:=h.fnew (o:=.lst (lens.map V.int)) nL;generalize upd H aL _=H at h ⊢;refine ⟨_,rfl,x,_,_,_,rfl,h.get 0 rfl,CN.c,CN.lengths,yI nF,?_⟩;obtain ⟨F1,f1,nF⟩:=yH "lengths" (.ref aL) nF;replace h:=h.fput (o':=.ins c.bn dx (zL "lengths" (.ref aL) F0));rw [f1] at h ⊢;generalize upd H x _=H at h ⊢;refine ⟨_,rfl,l1,_,rfl,.inl (h.sql q1),_,rfl,(by rw [Ji];omega),(by rw [Ji];omega),_,rfl,λD nD=>?_⟩;rw [Ji];have q1':SqL K H l1 (lens.map V.int):=h.sql q1;have h0:Hd H [(D,.lst ((((List.range 0).map λr=>(lens.take r).sum)).map V.int))] (upd H D (.lst [])):=Hd.base.new nD;generalize upd H D (.lst [])=H3 at h0 ⊢;refine yJ (n:=lens.length) (λi σ J=>∃ u,σ=[u,rq l1]/\Hd H [(D,.lst ((((List.range i).map λr=>(lens.take r).sum)).map V.int))] J) ⟨none,rfl,h0⟩ ?_ ?_
 ·clear h0
  rintro i σ J hi ⟨u,rfl,h⟩;refine ⟨_,rfl,_,rfl,l1,lens,0+(i:Int),rfl,h.sql q1',by omega,λJ1 s1=>?_⟩;have h:=h.same s1;refine ⟨_,h.get 0 rfl,(by rw [Ji,Ji,List.length_range];omega),_,rfl,?_⟩;have h:=h.put (o':=.lst ((((List.range (i+1)).map λr=>(lens.take r).sum)).map V.int)) 0 rfl
  have e:((List.range (i+1)).map λr=>(lens.take r).sum).map V.int=((List.range i).map λr=>(lens.take r).sum).map V.int++[V.int (lens.take (0+(i:Int)).toNat).sum]:=by
   rw [List.range_succ,Jk,Jk,show (0+(i:Int)).toNat=i by omega];rfl
  rw [e] at h ⊢;exact h
 rintro σ H ⟨u,rfl,hD⟩;replace h:=h.join hD;clear hD h0 nD q1';refine ⟨_,rfl,x,_,_,_,rfl,h.get 0 rfl,CN.c,CN.starts,yI nF,?_⟩;obtain ⟨F2,f2,nF⟩:=yH "starts" (.ref D) nF;replace h:=h.fput (o':=.ins c.bn dx (zL "starts" (.ref D) F1));rw [f2] at h ⊢;generalize upd H x _=H at h ⊢;refine ⟨_,rfl,l2,_,rfl,.inl (h.sql q2),λaC nC=>?_⟩;replace h:=h.fnew (o:=.lst (cells.map V.int)) nC;generalize upd H aC _=H at h ⊢;refine ⟨_,rfl,x,_,_,_,rfl,h.get 0 rfl,CN.c,CN.cells,yI nF,?_⟩;obtain ⟨F3,f3,nF⟩:=yH "cells" (.ref aC) nF;replace h:=h.fput (o':=.ins c.bn dx (zL "cells" (.ref aC) F2));rw [f3] at h ⊢;generalize upd H x _=H at h ⊢;refine ⟨_,rfl,_,rfl,x,_,_,_,rfl,h.get 0 rfl,CN.c,CN.lq,yI nF,?_⟩;obtain ⟨F4,f4,nF⟩:=yH "lanes" (.int L) nF;replace h:=h.fput (o':=.ins c.bn dx (zL "lanes" (.int L) F3));rw [f4] at h ⊢;generalize upd H x _=H at h ⊢;refine ⟨_,rfl,λbx dbx nbx ndbx nebx=>?_⟩;refine ⟨bx,dbx,L,rfl,zf,by omega,by omega,λH1 aN k nN ebx eN=>⟨rfl,?_⟩⟩;have h:=(h.made nbx ndbx nebx k nN ebx eN).sub (.cons₂ _ (.cons₂ _ (.cons _ (List.Sublist.refl _))));have e8:(8*(L:Int)).toNat=8*L:=by omega
 rw [e8] at h;clear k nN ebx eN;generalize H1=H at h ⊢;replace h:=zU h 2 rfl;refine ⟨_,rfl,x,_,_,_,rfl,h.get 0 rfl,CN.c,CN.boxes,yI nF,?_⟩;obtain ⟨F5,f5,nF⟩:=yH "boxes" (.ref bx) nF;replace h:=h.fput (o':=.ins c.bn dx (zL "boxes" (.ref bx) F4));rw [f5] at h ⊢;generalize upd H x _=H at h ⊢;have e4:(4*(L:Int)).toNat=4*L:=by omega
 refine ⟨_,rfl,(by decide),(by decide),_,rfl,λaM nM=>?_⟩;have h0:Hd H ((aM,.lst (([]:Jg).map V.ref))::([]:Jg).map λa=>(a,HO.lst ((List.replicate (4*L) false).map V.bl))) (upd H aM (.lst [])):=Hd.base.new nM;generalize upd H aM (.lst [])=H3 at h0 ⊢;refine yJ (n:=16) (λi σ J=>∃ u ms,ms.length=i/\σ=[u,iq L]/\Hd H ((aM,.lst (ms.map V.ref))::ms.map λa=>(a,HO.lst ((List.replicate (4*L) false).map V.bl))) J) ⟨none,[],rfl,rfl,h0⟩ ?_ ?_
 ·clear h0
  rintro i σ J hi ⟨u,ms,lm,rfl,h⟩;refine ⟨(by show 1<=sizeLine;decide),λt nt=>⟨_,rfl,_,_,rfl,rfl,.inl ⟨by decide,by decide⟩,t,_,_,rfl,rfl,zf,by omega,by omega,?_,λl nl=>?_⟩⟩
  ·show 1*(4*(L:Int)).toNat<=sizeLine
   omega
  have h:=((h.waste (o:=.lst [.bl false]) nt).fnew (o:=.lst (List.replicate (4*(L:Int)).toNat [V.bl false]).flatten) nl);generalize upd _ l _=J2 at h ⊢;refine ⟨_,h.get 0 rfl,(by rw [Ji];omega),_,ms++[l],(by rw [Jj,lm];rfl),rfl,?_⟩;have h:=h.fput (o':=.lst ((ms++[l]).map V.ref))
  have e:(List.replicate (4*(L:Int)).toNat [V.bl false]).flatten=(List.replicate (4*L) false).map V.bl:=by
   rw [e4];generalize 4*L=n
   induction n with
   | zero=>rfl
   | succ n ih=>rw [List.replicate_succ,List.flatten_cons,ih,List.replicate_succ];rfl
  rw [e] at h;rw [Jk] at h ⊢;rw [Jk];exact h.perm (List.Perm.cons _ (List.perm_append_comm (l₁:=[_])))
 rintro σ H ⟨u,ms,lm,rfl,hD⟩;have hM:=hD.tl;replace h:=h.join hD;clear hD h0 nM;generalize hMS:(ms.map λa=>(a,HO.lst ((List.replicate (4*L) false).map V.bl)))=MS at h;refine ⟨_,rfl,x,_,_,_,rfl,h.get 0 rfl,CN.c,CN.masks,yI nF,?_⟩;obtain ⟨F6,f6,nF⟩:=yH "masks" (.ref aM) nF;replace h:=h.fput (o':=.ins c.bn dx (zL "masks" (.ref aM) F5));rw [f6] at h ⊢;generalize upd H x _=H at h ⊢;refine λaSl nSl=>?_;replace h:=h.fnew (o:=.dK []) nSl;generalize upd H aSl _=H at h ⊢;refine ⟨_,rfl,x,_,_,_,rfl,h.get 0 rfl,CN.c,CN.slots,yI nF,?_⟩;obtain ⟨F7,f7,nF⟩:=yH "slots" (.ref aSl) nF;replace h:=h.fput (o':=.ins c.bn dx (zL "slots" (.ref aSl) F6));rw [f7] at h ⊢;generalize upd H x _=H at h ⊢;refine ⟨_,rfl,λfd dfd n1 n2 n3=>?_⟩;refine ⟨fd,dfd,l3,dust,rfl,zf,zG (h.sql q3) (((zi (Same.refl _) n2)).trans (zi (Same.refl _) (by rw [zk (Ne.symm n3)];exact n1))),λH1 aD k n4 e1 e2=>⟨rfl,?_⟩⟩;have h:=(h.made n1 n2 n3 k n4 e1 e2).sub (.cons₂ _ (.cons₂ _ (.cons _ (List.Sublist.refl _))));clear k n4 e1 e2;generalize H1=H at h ⊢;replace h:=zU h 2 rfl;refine ⟨_,rfl,x,_,_,_,rfl,h.get 0 rfl,CN.c,CN.dust,yI nF,?_⟩;obtain ⟨F8,f8,nF⟩:=yH "dust" (.ref fd) nF;replace h:=h.fput (o':=.ins c.bn dx (zL "dust" (.ref fd) F7));rw [f8] at h ⊢;generalize upd H x _=H at h ⊢;refine ⟨_,rfl,λfp dfp n1 n2 n3=>?_⟩;refine ⟨fp,dfp,l4,picks,rfl,zf,zG (h.sql q4) (((zi (Same.refl _) n2)).trans (zi (Same.refl _) (by rw [zk (Ne.symm n3)];exact n1))),λH1 aP k n4 e1 e2=>⟨rfl,?_⟩⟩;have h:=(h.made n1 n2 n3 k n4 e1 e2).sub (.cons₂ _ (.cons₂ _ (.cons _ (List.Sublist.refl _))));clear k n4 e1 e2;generalize H1=H at h ⊢;replace h:=zU h 2 rfl;refine ⟨_,rfl,x,_,_,_,rfl,h.get 0 rfl,CN.c,CN.picks,yI nF,?_⟩;obtain ⟨F9,f9,nF⟩:=yH "picks" (.ref fp) nF;replace h:=h.fput (o':=.ins c.bn dx (zL "picks" (.ref fp) F8));rw [f9] at h ⊢;generalize upd H x _=H at h ⊢;refine ⟨(by show 0<=sizeLine;exact Nat.zero_le _),λaT nT=>?_⟩;replace h:=h.fnew (o:=.lst []) nT;generalize upd H aT _=H at h ⊢;refine ⟨_,rfl,x,_,_,_,rfl,h.get 0 rfl,CN.c,CN.tq,yI nF,?_⟩;obtain ⟨F10,f10,nF⟩:=yH "touches" (.ref aT) nF;replace h:=h.fput (o':=.ins c.bn dx (zL "touches" (.ref aT) F9));rw [f10] at h ⊢;generalize upd H x _=H at h ⊢;refine ⟨_,rfl,x,_,_,_,rfl,h.get 0 rfl,CN.c,CN.pc,yI nF,?_⟩;obtain ⟨F11,f11,nF⟩:=yH "at" (.int 0) nF;replace h:=h.fput (o':=.ins c.bn dx (zL "at" (.int 0) F10));rw [f11] at h ⊢;generalize upd H x _=H at h ⊢;refine ⟨_,rfl,x,_,_,_,rfl,h.get 0 rfl,CN.c,CN.oq,yI nF,?_⟩;obtain ⟨F12,f12,nF⟩:=yH "opened" (.int 0) nF;replace h:=h.fput (o':=.ins c.bn dx (zL "opened" (.int 0) F11));rw [f12] at h ⊢;generalize upd H x _=H at h ⊢;refine ⟨_,rfl,x,_,_,_,rfl,h.get 0 rfl,CN.c,CN.mn_,yI nF,?_⟩;obtain ⟨F13,f13,nF⟩:=yH "many" (.int 0) nF;replace h:=h.fput (o':=.ins c.bn dx (zL "many" (.int 0) F12));rw [f13] at h ⊢;generalize upd H x _=H at h ⊢;refine ⟨_,rfl,x,_,_,_,rfl,h.get 0 rfl,CN.c,CN.group,yI nF,?_⟩;obtain ⟨F14,f14,nF⟩:=yH "group" (.int 1) nF;replace h:=h.fput (o':=.ins c.bn dx (zL "group" (.int 1) F13));rw [f14] at h ⊢;generalize upd H x _=H at h ⊢;refine ⟨_,rfl,x,_,_,_,rfl,h.get 0 rfl,CN.c,CN.base,yI nF,?_⟩;obtain ⟨F15,f15,nF⟩:=yH "base" (.int 0) nF;replace h:=h.fput (o':=.ins c.bn dx (zL "base" (.int 0) F14));rw [f15] at h ⊢;generalize upd H x _=H at h ⊢;refine ⟨_,rfl,x,_,_,_,rfl,h.get 0 rfl,CN.c,CN.bq,yI nF,?_⟩;obtain ⟨F16,f16,nF⟩:=yH "begun" (.int 0) nF;replace h:=h.fput (o':=.ins c.bn dx (zL "begun" (.int 0) F15));rw [f16] at h ⊢;generalize upd H x _=H at h ⊢;refine ⟨_,rfl,x,_,_,_,rfl,h.get 0 rfl,CN.c,CN.wq,yI nF,?_⟩;obtain ⟨F17,f17,nF⟩:=yH "width" (.int 0) nF;replace h:=h.fput (o':=.ins c.bn dx (zL "width" (.int 0) F16));rw [f17] at h ⊢;generalize upd H x _=H at h ⊢;refine λaF nF'=>?_;replace h:=h.fnew (o:=.dK []) nF';generalize upd H aF _=H at h ⊢;refine ⟨_,rfl,x,_,_,_,rfl,h.get 0 rfl,CN.c,CN.fq,yI nF,?_⟩;obtain ⟨F18,f18,nF⟩:=yH "faults" (.ref aF) nF;replace h:=h.fput (o':=.ins c.bn dx (zL "faults" (.ref aF) F17));rw [f18] at h ⊢;generalize upd H x _=H at h ⊢;refine ⟨_,rfl,x,_,_,_,rfl,h.get 0 rfl,CN.c,CN.cut,yI nF,?_⟩;obtain ⟨F19,f19,nF⟩:=yH "cut" (.non) nF;replace h:=h.fput (o':=.ins c.bn dx (zL "cut" (.non) F18));rw [f19] at h ⊢;generalize upd H x _=H at h ⊢;refine ⟨_,rfl,x,_,_,_,rfl,h.get 0 rfl,CN.c,CN.cq,yI nF,?_⟩;obtain ⟨F20,f20,nF⟩:=yH "carried" (.non) nF;replace h:=h.fput (o':=.ins c.bn dx (zL "carried" (.non) F19));rw [f20] at h ⊢;generalize upd H x _=H at h ⊢;refine ⟨_,rfl,x,_,_,_,rfl,h.get 0 rfl,CN.c,CN.raised,yI nF,?_⟩;obtain ⟨F21,f21,nF⟩:=yH "raised" (.bl false) nF;replace h:=h.fput (o':=.ins c.bn dx (zL "raised" (.bl false) F20));rw [f21] at h ⊢;generalize upd H x _=H at h ⊢;refine ⟨(by show 0<=sizeLine;exact Nat.zero_le _),λaU nU=>?_⟩;replace h:=h.fnew (o:=.lst []) nU;generalize upd H aU _=H at h ⊢;refine ⟨_,rfl,x,_,_,_,rfl,h.get 0 rfl,CN.c,CN.turns,yI nF,?_⟩;obtain ⟨F22,f22,nF⟩:=yH "turns" (.ref aU) nF;replace h:=h.fput (o':=.ins c.bn dx (zL "turns" (.ref aU) F21));rw [f22] at h ⊢;generalize upd H x _=H at h ⊢;refine ⟨_,rfl,x,_,_,_,rfl,h.get 0 rfl,CN.c,CN.rq_,yI nF,?_⟩;obtain ⟨F23,f23,nF⟩:=yH "refusal" (.non) nF;replace h:=h.fput (o':=.ins c.bn dx (zL "refusal" (.non) F22));rw [f23] at h ⊢;generalize upd H x _=H at h ⊢;replace h:=zU h 1 rfl;replace h:=zU h 2 rfl;replace h:=zU h 3 rfl;replace h:=zU h 5 rfl;replace h:=zU h 7 rfl;replace h:=zU h 8 rfl;replace h:=zU h 9 rfl;replace h:=zU h 11 rfl;replace h:=zU h 8 rfl;replace h:=zU h 9 rfl;replace h:=zU h 10 rfl;replace h:=zU h 11 rfl;replace h:=zU h 14 rfl;replace h:=zU h 14 rfl;replace h:=zU h 14 rfl
 have ef:F23=xb ⟨x,dx,aL,D,aC,bx,dbx,aN,aM,aSl,fd,dfd,aD,fp,dfp,aP,aT,aF,aU,ms,[],[],.non⟩ (Mc.fresh lens cells L dust picks):=by
  rw [← f23,← f22,← f21,← f20,← f19,← f18,← f17,← f16,← f15,← f14,← f13,← f12,← f11,← f10,← f9,← f8,← f7,← f6,← f5,← f4,← f3,← f2,← f1,← e0F];have z:=foldF0 (xb ⟨x,dx,aL,D,aC,bx,dbx,aN,aM,aSl,fd,dfd,aD,fp,dfp,aP,aT,aF,aU,ms,[],[],.non⟩ (Mc.fresh lens cells L dust picks)) (show (["lengths","starts","cells","lanes","boxes","masks","slots","dust","picks","touches","at","opened","many","group","base","begun","width","faults","cut","carried","raised","turns","refusal"]:Jf).Nodup by decide +kernel);unfold xb at z ⊢;dsimp only [List.foldl] at z;exact z
 rw [ef] at h;obtain ⟨B',sB,eB,h⟩:=Hd.settles (S:=[_,_,_,_,_,_]) h;refine q B' ⟨x,dx,aL,D,aC,bx,dbx,aN,aM,aSl,fd,dfd,aD,fp,dfp,aP,aT,aF,aU,ms,[],[],.non⟩ H sB rfl ⟨⟨eB _ (.head _),eB _ (.tail _ (.head _)),eB _ (.tail _ (.tail _ (.tail _ (.head _)))),eB _ (.tail _ (.tail _ (.head _))),?_,eB _ (.tail _ (.tail _ (.tail _ (.tail _ (.head _))))),eB _ (.tail _ (.tail _ (.tail _ (.tail _ (.tail _ (.head _)))))),rfl,(λi t p a=>nomatch a),rfl,(λi t p a=>nomatch a),rfl⟩,?_⟩
 ·show ms.length=(List.replicate 16 _).length
  rw [lm,List.length_replicate]
 ·unfold objs
  have e0:∀ ns:Jb,fAt ns 0=0:=λns=>by unfold fAt;rw [Nat.zero_mod];split <;> rfl
  have em:xT ⟨x,dx,aL,D,aC,bx,dbx,aN,aM,aSl,fd,dfd,aD,fp,dfp,aP,aT,aF,aU,ms,[],[],.non⟩ (Mc.fresh lens cells L dust picks)=MS:=by
   rw [← hMS];show (ms.zip (List.replicate 16 _)).map _=_;rw [← lm];exact msk_fresh ms _
  rw [em,q3y];show Hd B' (_::_::_::_::(fd,Zz c.fe dfd aD (fAt dust 0))::(fp,Zz c.fe dfp aP (fAt picks 0))::_::_::_::MS) H;rw [e0,e0];exact h
inductive Run (L:Lex) (code:List (Jn)):Nat->Mc->Mc->Prop
 | done {M}:(code.length:Int)<=M.pc∨M.rq_.isSome=true->Run L code 0 M M
 | step {n M M1 Mf tv}:0<=M.pc->M.rq_=none->code[M.pc.toNat]?=some tv->Step L tv M M1->Run L code n M1 Mf->Run L code (n+1) M Mf
structure CodeAt (B:Hp) (cs:Jg) (code:List (Jn)):Prop where
 n:cs.length=code.length
 t:∀ (i:Nat) a tv,cs[i]?=some a->code[i]?=some tv->B a=some (.tup tv)
inductive spRan (c:MCs) (K:Fg) (Lx:Lex) (vs:Jn) (H:Hp) (Q:VK) (_:XK):Prop
 | mk (a l1 l2 l3 l4:Ad) (cs:Jg) (code:List (Jn)) (lens cells dust picks:Jb) (L n:Nat) (Mf:Mc) (_:vs=[.ref a,.ref l1,.ref l2,.int L,.ref l3,.ref l4]) (_:SqL K H a (cs.map V.ref)) (_:CodeAt H cs code) (_:SqL K H l1 (lens.map V.int)) (_:SqL K H l2 (cells.map V.int)) (_:SqL K H l3 (dust.map V.int)) (_:SqL K H l4 (picks.map V.int)) (_:1<=L) (_:L<=64) (_:lens.length<=1000) (_:code.length<=1000) (_:Run Lx code n (Mc.fresh lens cells L dust picks) Mf) (_:∀ B' A' H' t,Same H B'->MAt c B' A' Mf [] H'->B' t=some (.tup [.ref A'.aC,A'.rf,.ref A'.aT])->Q (.ref t) H')
theorem ok_ran {c:MCs} {Lx:Lex} (d:zr K mg "ran" s_ran ["code","lengths","cells","lanes","dust","picks"]) (CC:MCls K c) (hlen:mg "len"=none) (hCn:mg "Bench"=some (.ref c.bn)) (IN:OkI P w K mg base CX0 3 c.bn ["self","lengths","cells","lanes","dust","picks"] (spInitN c K)) (PB:Ok P w K mg base CX0 9 "place_behind" ["bench","step"] (spPB c Lx)) :
  Ok P w K mg base CX0 10 "ran" ["code","lengths","cells","lanes","dust","picks"] (spRan c K Lx):=by
 obtain ⟨g,fd,m,F,b⟩:=d;refine ⟨g,fd,m,F.kp,b,F.ok sc_ran (by rintro vs H Q E ⟨_,_,_,_,_,_,_,_,_,_,_,_,_,_,e,_⟩;rw [e];rfl) λcdv A outer s H vs Q E hr h=>?_⟩;obtain ⟨a,l1,l2,l3,l4,cs,code,lens,cells,dust,picks,L,n,Mf,rfl,qa,CA,q1,q2,q3,q4,L1,L64,hl,hcl,run,q⟩:=h;have nd:=sc_ran.nd;have hr6:=hr;have hr4:=hr.mono (show 4<=9 by decide);have CN:=CC.n;refine ⟨_,(zc (zt (i:=6) nd rfl (Or.inl rfl) (XX IN hCn hr4 (by rfl) zq (zb (pv 1) (zb (pv 2) (zb (pv 3) (zb (pv 4) (zb (pv 5) ze)))))))
   (zc (ps_while PassesOwn.never (XT (zD Yq (zu (pv 6) rfl) (zC zN (by rfl) hlen PySem.boot_len (zb (pv 0) ze)) (zy _)) (YA (zD Yg (zu (pv 6) rfl) yR (zy _)))).pt (zg (zJ (pv 6) (zK PB hr6 (by rfl) zq (zb (pv 6) (zb (zm zE (pv 0) (zu (pv 6) rfl) (λ_ _=>rfl)) ze))) rfl)))
   (zg (zo (yt (zb (zu (pv 6) rfl) (zb (zu (pv 6) rfl) (zb (zu (pv 6) rfl) ze)))))))),?_⟩
 dsimp only [yd,Cx.nox,Cx.wish];refine ⟨_,rfl,_,rfl,_,rfl,_,rfl,_,rfl,λx dx nx ndx ne=>?_⟩;have s0:Same H (upd H dx (.own x)):=zi (Same.refl _) ndx;have h0:Hd (upd H dx (.own x)) [(x,.ins c.bn dx [])] (upd (upd H dx (.own x)) x (.ins c.bn dx [])):=Hd.base.new (by rw [zk (Ne.symm ne)];exact nx);refine ⟨upd H dx (.own x),x,dx,l1,l2,l3,l4,lens,cells,dust,picks,L,rfl,h0,zG q1 s0,zG q2 s0,zG q3 s0,zG q4 s0,L1,L64,hl,λB1 A1 H1 s1 eb m1=>⟨rfl,?_⟩⟩;have sH:Same H B1:=s0.trans s1;have SQ:∀ {B2:Hp} {A2:Ma} {M:Mc} {H2:Hp},Same H B2->MAt c B2 A2 M [] H2->SqL K H2 a (cs.map V.ref):=λs2 m2=>zG (zG qa s2) m2.h.sm;refine ⟨λk σ J=>∃ B2 A2 M,σ=[rq a,rq l1,rq l2,iq L,rq l3,rq l4,rq x]/\Same H B2/\A2.b=x/\MAt c B2 A2 M [] J/\Run Lx code k M Mf,⟨n,B1,A1,_,rfl,sH,eb,m1,run⟩,?_⟩;rintro k σ J ⟨B2,A2,M,rfl,s2,eb2,m2,run⟩;have lcs:(cs.map V.ref).length=code.length:=by rw [Ji];exact CA.n
 have rfn:M.rq_=none->A2.rf=.non:=λz=>by have:=m2.bb.rf;rw [z] at this;exact this
 have rfs:M.rq_.isSome=true->∃ t,A2.rf=.ref t:=λz=>by
  have:=m2.bb.rf
  cases e:M.rq_ with
  | none=>rw [e] at z;cases z
  | some r=>rw [e] at this;obtain ⟨t,y,_⟩:=this;exact ⟨t,y⟩
 refine ⟨_,rfl,A2.b,_,_,_,.int M.pc,by rw [eb2],m2.b,CN.c,CN.pc,rfl,_,rfl,a,_,rfl,.inl (SQ s2 m2),_,_,rfl,rfl,_,rfl,?_⟩;rw [lcs];have fin:Run Lx code 0 M Mf->Mf=M:=λz=>by cases z;rfl
 cases run with
 | done hd =>
  have ret:∀ J',J'=J->tRet (tTup (tCons (tFld K (tVar 6) "cells") (tCons (tFld K (tVar 6) "refusal") (tCons (tFld K (tVar 6) "touches") tNil)))) ⟨λ_ H'=>Q V.non H',Q,λ_ _=>False,λ_ _=>False⟩ [rq a,rq l1,rq l2,iq L,rq l3,rq l4,rq x] J':=by
   rintro J' rfl;refine ⟨_,rfl,A2.b,_,_,_,.ref A2.aC,by rw [eb2],m2.b,CN.c,CN.cells,rfl,_,rfl,A2.b,_,_,_,A2.rf,by rw [eb2],m2.b,CN.c,CN.rq_,rfl,_,rfl,A2.b,_,_,_,.ref A2.aT,by rw [eb2],m2.b,CN.c,CN.tq,rfl,(by show 3<=sizeLine;decide),λt nt=>?_⟩;exact q _ A2 _ t (s2.trans (zi (Same.refl _) (m2.h.free nt))) (m2.grow nt) zf
  by_cases z:Mf.pc<(code.length:Int)
  ·rcases hd with y | y
   ·omega
   obtain ⟨t,et⟩:=rfs y;rw [decide_eq_true z];refine xa ⟨_,rfl,A2.b,_,_,_,A2.rf,by rw [eb2],m2.b,CN.c,CN.rq_,rfl,rfl,_,rfl,?_⟩;rw [et];exact ym (ret _ rfl)
  ·rw [decide_eq_false z]
   exact ym (ym (ret _ rfl))
 | step p0 hn ec st run =>
  rename_i k M1 tv;have hlt:M.pc.toNat<code.length:=(List.getElem?_eq_some_iff.mp ec).1;have z:M.pc<(code.length:Int):=by omega
  rw [decide_eq_true z];refine xa ⟨_,rfl,A2.b,_,_,_,A2.rf,by rw [eb2],m2.b,CN.c,CN.rq_,rfl,rfl,_,rfl,?_⟩;rw [rfn hn];refine xa ⟨λσ' J'=>∃ B2 A2,σ'=[rq a,rq l1,rq l2,iq L,rq l3,rq l4,rq x]/\Same H B2/\A2.b=x/\MAt c B2 A2 M1 [] J',λσ' J' ⟨B3,A3,e3,s3,eb3,m3⟩=>⟨k,by omega,B3,A3,M1,e3,s3,eb3,m3,run⟩,?_⟩;obtain ⟨st',es'⟩:∃ y,cs[M.pc.toNat]?=some y:=⟨cs[M.pc.toNat]'(by rw [CA.n];exact hlt),List.getElem?_eq_getElem _⟩;have eT:=CA.t _ _ _ es' ec;refine ⟨_,rfl,_,rfl,_,rfl,A2.b,_,_,_,.int M.pc,by rw [eb2],m2.b,CN.c,CN.pc,rfl,a,_,_,.ref st',rfl,rfl,SQ s2 m2,?_,B2,A2,M,[],st',tv,M1,by rw [eb2];rfl,m2,s2 _ _ eT,st,λB3 A3 J3 M2 s3 eb3 m3 em=>?_⟩
  ·rw [show M.pc=((M.pc.toNat:Nat):Int) by omega]
   exact zv (by rw [List.getElem?_map,es'];rfl)
  refine ⟨_,rfl,A3.b,_,_,_,by rw [eb3,eb2],m3.b,CN.c,CN.pc,(by show 23<1000;decide),?_⟩;have m4:=m3.s_pc M1.pc;rw [← em] at m4;exact ⟨B3,A3,rfl,s2.trans s3,eb3.trans eb2,m4⟩
inductive spCA (K:Fg) (vs:Jn) (H:Hp) (Q:VK) (_:XK):Prop
 | mk (a:Ad) (ns:Jb) (k:Int) (_:vs=[.ref a,.int k]) (_:SqL K H a (ns.map V.int)) (_:0<=k) (_:Q (.int (ns.getD k.toNat 0)) H)
def zbn (d:zr K mg "_law_cell_at" xK ["_law_script","_law_k"]) (hlen:mg "len"=none):Ok P w K mg base CX0 1 "_law_cell_at" ["_law_script","_law_k"] (spCA K):=by
 obtain ⟨g,fd,m,F,b⟩:=d;refine ⟨g,fd,m,F.kp,b,F.ok XO (by rintro vs H Q E ⟨_,_,_,e,_⟩;rw [e];rfl) λcdv A outer s H vs Q E hr h=>?_⟩;obtain ⟨a,ns,i,rfl,hS,h0,k⟩:=h;refine ⟨_,(zc (zO (zD Yq (pv 1) (zC zN (by rfl) hlen PySem.boot_len (zb (pv 0) ze)) (zy _)) (zg (zo (zm zE (pv 0) (pv 1) (λ_ _=>rfl)))) zw)
   (zg (zo zd))),?_⟩
 refine ⟨_,rfl,_,rfl,a,_,rfl,.inl hS,_,_,rfl,rfl,_,rfl,?_⟩;rw [Ji];refine xE (λz=>?_) (λz=>?_)
 ·have z:i<(ns.length:Int):=by simpa using z
  exact ⟨_,rfl,_,rfl,a,_,_,_,rfl,rfl,hS,Zm i.toNat (by omega) (by omega),k⟩
 ·have z:¬ i<(ns.length:Int):=by simpa using z
  have e:ns.getD i.toNat 0=0:=by rw [q1x,List.getElem?_eq_none (by omega)];rfl
  rw [e] at k;exact k
inductive spSome (K:Fg) (vs:Jn) (H:Hp) (Q:VK) (_:XK):Prop
 | mk (a:Ad) (ns:Jb) (k sa m:Int) (_:vs=[.ref a,.int k,.int sa,.int m]) (_:SqL K H a (ns.map V.int)) (_:0<=k) (_:k<=100000) (_:0<=sa) (_:sa<=100000) (_:0<m) (_:∀ r,0<=r->r<m->Q (.int r) H)
def ok_some (d:zr K mg "_law_some" ZM ["_law_script","_law_k","_law_salt","_law_many"]) (CA:Ok P w K mg base CX0 1 "_law_cell_at" ["_law_script","_law_k"] (spCA K)):Ok P w K mg base CX0 2 "_law_some" ["_law_script","_law_k","_law_salt","_law_many"] (spSome K):=by
 obtain ⟨g,fd,m,F,b⟩:=d;refine ⟨g,fd,m,F.kp,b,F.ok sc_l_some (by rintro vs H Q E ⟨_,_,_,_,_,e,_⟩;rw [e];rfl) λcdv A outer s H vs Q E hr h=>?_⟩;obtain ⟨a,ns,i,sa,mm,rfl,hS,h0,h1,h2,h3,h4,k⟩:=h;have nd:=sc_l_some.nd;have hr1:=hr;refine ⟨_,(zc (zt (i:=4) nd rfl (Or.inl rfl) (zj zF (zj yS (zK CA hr1 (by rfl) zq (zb (pv 0) (zb (pv 1) ze))) zd) zd))
   (zc (zt (i:=5) nd rfl (Or.inl rfl) (zj yS (zj zP (pv 4) (zj zF (zj zF zd (zj zP (zj zP zd (pv 1)) (pv 1))) (zj zP (zj zP zd (pv 2)) (pv 2)))) zd))
   (zg (zo (zj yS (zj X1 (zj yS (zj zP (pv 5) (pv 5)) zd) zd) (pv 3)))))),?_⟩
 refine ⟨_,rfl,_,rfl,a,ns,i,rfl,hS,h0,_,_,rfl,rfl,(by show (0:Int)<1000003;decide),_,_,rfl,rfl,?_⟩;have c0:=Int.emod_nonneg (ns.getD i.toNat 0) (show (1000003:Int)≠0 by decide);have c1:=Int.emod_lt_of_pos (ns.getD i.toNat 0) (show (0:Int)<1000003 by decide);refine ⟨_,rfl,_,rfl,_,_,rfl,rfl,.inl ⟨by decide,by decide⟩,_,rfl,_,_,rfl,rfl,.inl ⟨by omega,by omega⟩,_,_,rfl,rfl,_,rfl,_,_,rfl,rfl,.inl ⟨by decide,by decide⟩,_,rfl,_,_,rfl,rfl,.inl ⟨by omega,by omega⟩,_,_,rfl,rfl,_,_,rfl,rfl,.inl ⟨by omega,by omega⟩,_,_,rfl,rfl,(by show (0:Int)<2147483647;decide),?_⟩;generalize (ns.getD i.toNat 0 % 1000003+1)*(48271+1000*i*i+69621*sa*sa)=y;refine ⟨_,rfl,_,rfl,_,_,rfl,rfl,.inl ⟨by omega,by omega⟩,_,_,rfl,rfl,(by show (0:Int)<2147483629;decide),_,_,rfl,rfl,⟨by decide,by decide⟩,_,rfl,_,_,rfl,rfl,h4,?_⟩;exact k _ (Int.emod_nonneg _ (by omega)) (Int.emod_lt_of_pos _ h4)
inductive spNumber (K:Fg) (vs:Jn) (H:Hp) (Q:VK) (_:XK):Prop
 | mk (a:Ad) (ns:Jb) (k:Int) (_:vs=[.ref a,.int k]) (_:SqL K H a (ns.map V.int)) (_:0<=k) (_:k<=100000) (_:∀ r,Q (.int r) H)
def ok_number (d:zr K mg "_law_number" x6 ["_law_script","_law_k"]) (CA:Ok P w K mg base CX0 1 "_law_cell_at" ["_law_script","_law_k"] (spCA K)) (SM:Ok P w K mg base CX0 2 "_law_some" ["_law_script","_law_k","_law_salt","_law_many"] (spSome K)) :
  Ok P w K mg base CX0 3 "_law_number" ["_law_script","_law_k"] (spNumber K):=by
 obtain ⟨g,fd,m,F,b⟩:=d;refine ⟨g,fd,m,F.kp,b,F.ok sc_l_number (by rintro vs H Q E ⟨_,_,_,e,_⟩;rw [e];rfl) λcdv A outer s H vs Q E hr h=>?_⟩;obtain ⟨a,ns,i,rfl,hS,h0,h1,k⟩:=h;have nd:=sc_l_number.nd;have hr2:=hr;have hr1:Room 1 _:=hr.mono (by decide);refine ⟨_,(zc (zt (i:=2) nd rfl (Or.inl rfl) (zj yS (zK CA hr1 (by rfl) zq (zb (pv 0) (zb (pv 1) ze))) zd))
   (zc (zO (zD ye (zK SM hr2 (by rfl) zq (zb (pv 0) (zb (pv 1) (zb zd (zb zd ze))))) zd (zy _)) (zg (zo (zj YS (zj yS (zj zF (pv 2) (zj zP zd (pv 1))) zd) zd))) zw)
   (zc (zt (i:=3) nd rfl (Or.inl rfl) (zj zF (zj zP (pv 2) zd) (zj zP (zj zP (pv 1) (pv 1)) zd)))
   (zg (zo (zj YS (zj yS (pv 3) zd) zd)))))),?_⟩
 refine ⟨_,rfl,_,rfl,a,ns,i,rfl,hS,h0,_,_,rfl,rfl,(by show (0:Int)<18446744073709551616;decide),?_⟩;refine ⟨_,rfl,_,rfl,a,ns,i,9,2,rfl,hS,h0,h1,by decide,by decide,by decide,λr r0 r1=>⟨rfl,_,rfl,?_⟩⟩;refine xE (λz=>?_) (λz=>?_)
 ·exact ⟨_,rfl,_,rfl,_,_,rfl,rfl,.inl ⟨by decide,by decide⟩,_,_,rfl,rfl,_,_,rfl,rfl,(by show (0:Int)<41;decide),_,_,rfl,rfl,k _⟩
 ·have c0:=Int.emod_nonneg (ns.getD i.toNat 0) (show (18446744073709551616:Int)≠0 by decide)
  have c1:=Int.emod_lt_of_pos (ns.getD i.toNat 0) (show (0:Int)<18446744073709551616 by decide);exact ⟨_,rfl,_,_,rfl,rfl,.inr ⟨by decide,by decide⟩,_,rfl,_,rfl,_,_,rfl,rfl,.inl ⟨by omega,by omega⟩,_,_,rfl,rfl,.inr ⟨by decide,by decide⟩,_,_,rfl,rfl,_,rfl,_,_,rfl,rfl,(by show (0:Int)<18446744073709551616;decide),_,_,rfl,rfl,k _⟩
inductive spLanes (vs:Jn) (H:Hp) (Q:VK) (_:XK):Prop
 | mk (c:Int) (_:vs=[.int c]) (_:∀ r,1<=r->r<=64->Q (.int r) H)
def ok_lanes (d:zr K mg "_law_lanes" Zo ["_law_cell"]):Ok P w K mg base CX0 1 "_law_lanes" ["_law_cell"] spLanes:=by
 obtain ⟨g,fd,m,F,b⟩:=d;refine ⟨g,fd,m,F.kp,b,F.ok zbi (by rintro vs H Q E ⟨_,e,_⟩;rw [e];rfl) λcdv A outer s H vs Q E hr h=>?_⟩;obtain ⟨c,rfl,k⟩:=h;refine ⟨_,(zc (zO (zD ye (zj yS (pv 0) zd) zd (zy _)) (zg (zo (zj zF zd (zj yS (zj X1 (pv 0) zd) zd)))) zw)
   (zg (zo (zj zF zd (zj yS (zj X1 (pv 0) zd) zd))))),?_⟩
 refine ⟨_,rfl,_,_,rfl,rfl,(by show (0:Int)<8;decide),rfl,_,rfl,?_⟩;refine xE (λz=>?_) (λz=>?_)
 ·exact ⟨_,rfl,_,_,rfl,rfl,⟨by decide,by decide⟩,_,_,rfl,rfl,(by show (0:Int)<64;decide),_,_,rfl,rfl,k _ (by omega) (by omega)⟩
 ·exact ⟨_,rfl,_,_,rfl,rfl,⟨by decide,by decide⟩,_,_,rfl,rfl,(by show (0:Int)<9;decide),_,_,rfl,rfl,k _ (by omega) (by omega)⟩
inductive spGroup (K:Fg) (vs:Jn) (H:Hp) (Q:VK) (_:XK):Prop
 | mk (a:Ad) (ns:Jb) (k sa:Int) (_:vs=[.ref a,.int k,.int sa]) (_:SqL K H a (ns.map V.int)) (_:0<=k) (_:k<=100000) (_:0<=sa) (_:sa<=100000) (_:∀ r H',Same H H'->(r=1∨r=2∨r=4)->Q (.int r) H')
def ok_group (d:zr K mg "_law_group" Zp ["_law_script","_law_k","_law_salt"]) (SM:Ok P w K mg base CX0 2 "_law_some" ["_law_script","_law_k","_law_salt","_law_many"] (spSome K)):Ok P w K mg base CX0 3 "_law_group" ["_law_script","_law_k","_law_salt"] (spGroup K):=by
 obtain ⟨g,fd,m,F,b⟩:=d;refine ⟨g,fd,m,F.kp,b,F.ok zbj (by rintro vs H Q E ⟨_,_,_,_,e,_⟩;rw [e];rfl) λcdv A outer s H vs Q E hr h=>?_⟩;obtain ⟨a,ns,i,sa,rfl,hS,h0,h1,h2,h3,k⟩:=h;have hr2:=hr;refine ⟨_,(zg (zo (zm zE (yu (zb zd (zb zd (zb zd ze)))) (zK SM hr2 (by rfl) zq (zb (pv 0) (zb (pv 1) (zb (pv 2) (zb zd ze))))) (λ_ _=>rfl)))),?_⟩;refine ⟨(by show 3<=sizeLine;decide),λl nl=>?_⟩;have s1:Same H (upd H l (.lst [.int 1,.int 2,.int 4])):=zi (Same.refl H) nl;refine ⟨_,rfl,_,rfl,_,rfl,a,ns,i,sa,3,rfl,zG hS s1,h0,h1,h2,h3,by decide,λr r0 r1=>?_⟩;refine ⟨l,([1,2,4]:Jb).map V.int,r,_,rfl,rfl,SqL.of zf,Zm r.toNat (by show _<3;omega) (by omega),k _ _ s1 ?_⟩;have:r=0∨r=1∨r=2:=by omega
 rcases this with rfl | rfl | rfl
 ·exact .inl rfl
 ·exact .inr (.inl rfl)
 ·exact .inr (.inr rfl)
inductive spDust (K:Fg) (vs:Jn) (H:Hp) (Q:VK) (_:XK):Prop
 | mk (a:Ad) (ns:Jb) (k sa:Int) (_:vs=[.ref a,.int k,.int sa]) (_:SqL K H a (ns.map V.int)) (_:0<=k) (_:k<=1000) (_:0<=sa) (_:sa<=1000) (_:∀ H' l ds,ds.length<=5->Hd H [(l,.lst (List.map V.int ds))] H'->Q (.ref l) H')
def ok_dust (d:zr K mg "_law_dust" ZO ["_law_script","_law_k","_law_salt"]) (hrg:mg "range"=none) (SM:Ok P w K mg base CX0 2 "_law_some" ["_law_script","_law_k","_law_salt","_law_many"] (spSome K)) (NB:Ok P w K mg base CX0 3 "_law_number" ["_law_script","_law_k"] (spNumber K)):Ok P w K mg base CX0 4 "_law_dust" ["_law_script","_law_k","_law_salt"] (spDust K):=by
 obtain ⟨g,fd,m,F,b⟩:=d;refine ⟨g,fd,m,F.kp,b,F.ok sc_l_dust (by rintro vs H Q E ⟨_,_,_,_,e,_⟩;rw [e];rfl) λcdv A outer s H vs Q E hr h=>?_⟩;obtain ⟨a,ns,i,sa,rfl,hS,h0,h1,h2,h3,k⟩:=h;have nd:=sc_l_dust.nd;have hr3:=hr;have hr2:Room 2 _:=hr.mono (by decide);have SL:(3000:Nat)<sizeLine:=by decide
 refine ⟨_,(zg (zo (yF ["_law_j","_law_script","_law_k"] [none,some 0,some 1] rfl rfl rfl (yk rfl hrg (zb (zK SM hr2 (by rfl) zq (zb (pv 0) (zb (pv 1) (zb (pv 2) (zb zd ze))))) ze)) (λs3 H3 fp=>⟨zH (i:=0) (Jp ["_law_j","_law_script","_law_k"]) rfl (Or.inl rfl),(zK NB hr3 (by rfl) zq (zb (pv 1) (zb (zj zF (pv 2) (zj zP zd (pv 0))) ze)))⟩)))),?_⟩;refine ⟨_,rfl,_,rfl,_,rfl,a,ns,i,sa,6,rfl,hS,h0,by omega,h2,by omega,by decide,λr r0 r1=>⟨_,rfl,(by omega),(by omega),_,rfl,λD nD=>?_⟩⟩;have hd:Hd H [(D,.lst (([]:Jb).map V.int))] (upd H D (.lst [])):=Hd.base.new nD;generalize upd H D (.lst [])=H1 at hd ⊢;refine yJ (n:=r.toNat) (λj σ J=>∃ u ds,ds.length=j/\σ=[u,rq a,iq i]/\Hd H [(D,.lst (List.map V.int ds))] J) ⟨none,[],rfl,rfl,hd⟩ ?_ ?_
 ·clear hd
  rintro j σ J hj ⟨u,ds,ld,rfl,h⟩;refine ⟨_,rfl,_,rfl,_,rfl,_,_,rfl,rfl,.inl ⟨by decide,by decide⟩,_,_,rfl,rfl,a,ns,_,rfl,h.sql hS,(by show 0<=i+5*(0+(j:Int));omega),(by show i+5*(0+(j:Int))<=100000;omega),λv=>?_⟩;refine ⟨_,h.get 0 rfl,(by rw [Ji];omega),_,ds++[v],(by rw [Jj,ld];rfl),rfl,?_⟩;rw [Jk];exact h.put 0 rfl
 ·rintro σ J ⟨u,ds,ld,rfl,h⟩
  exact k J D ds (by omega) h
structure AlK (K:Fg) (mg:J9):Prop where
 isi:mg "isinstance"=none
 int:mg "int"=none
 bool:mg "bool"=none
 str:mg "str"=none
 lst:mg "list"=none
 tup:mg "tuple"=none
 ii:PySem.W.kitOne K (.type "int") (.type "int")=some true
 ib:PySem.W.kitOne K (.type "int") (.type "bool")=some false
 is:PySem.W.kitOne K (.type "int") (.type "str")=some false
 il:PySem.W.kitOne K (.type "int") (.type "list")=some false
 it:PySem.W.kitOne K (.type "int") (.type "tuple")=some false
 ss:PySem.W.kitOne K (.type "str") (.type "str")=some true
 ls:PySem.W.kitOne K (.type "list") (.type "str")=some false
 ll:PySem.W.kitOne K (.type "list") (.type "list")=some true
 lt:PySem.W.kitOne K (.type "list") (.type "tuple")=some false
 ts:PySem.W.kitOne K (.type "tuple") (.type "str")=some false
 tl:PySem.W.kitOne K (.type "tuple") (.type "list")=some false
 tt:PySem.W.kitOne K (.type "tuple") (.type "tuple")=some true
inductive Lk (H:Hp):Nat->V->V->Prop
 | non {n}:Lk H n .non .non
 | int {n} (i:Int):Lk H n (.int i) (.int i)
 | str {n} (z:Str):Lk H n (.str z) (.str z)
 | lst {n a b xs ys}:H a=some (.lst xs)->H b=some (.lst ys)->ys.length=xs.length->(∀ (i:Nat) x y,xs[i]?=some x->ys[i]?=some y->Lk H n x y)->Lk H (n+1) (.ref a) (.ref b)
 | tup {n a b xs ys}:H a=some (.tup xs)->H b=some (.tup ys)->ys.length=xs.length->(∀ (i:Nat) x y,xs[i]?=some x->ys[i]?=some y->Lk H n x y)->Lk H (n+1) (.ref a) (.ref b)
theorem Lk.same {H H':Hp} {n:Nat} {x y:V} (h:Lk H n x y) (s:Same H H'):Lk H' n x y:=by
 induction h with
 | non=>exact .non
 | int i=>exact .int i
 | str z=>exact .str z
 | lst a b e _ ih=>exact .lst (s _ _ a) (s _ _ b) e ih
 | tup a b e _ ih=>exact .tup (s _ _ a) (s _ _ b) e ih
inductive spAlike (n:Nat) (vs:Jn) (H:Hp) (Q:VK) (_:XK):Prop
 | mk (u v:_) (_:vs=[u,v]) (_:Lk H n u v) (_:∀ H',Same H H'->Q (.bl true) H')
def spNil:Sp:=λ_ _ _ _=>False
def xG {H:Hp} {x:V} {t:Vl} (h:TyOf K H x t):TyX K H x t:=.inl h
def rel_ty {n:String}:RelV (.ty n) (.type n)/\∀ u,RelV (.ty n) u->u=.type n:=⟨rfl,λ_ z=>z⟩
def ok_alike0 (d:zr K mg "_law_alike" xy ["_law_found","_law_due"]):Ok P w K mg base CX0 1 "_law_alike" ["_law_found","_law_due"] spNil:=by
 obtain ⟨g,fd,m,F,b⟩:=d;exact ⟨g,fd,m,F.kp,b,F.ok sc_l_alike (λvs H Q E h=>nomatch h) λcdv A outer s H vs Q E hr h=>nomatch h⟩
theorem YU {n:Nat} {sp:Sp} (hsp:∀ n',n=n'+1->sp=spAlike n') (d:zr K mg "_law_alike" xy ["_law_found","_law_due"]) (AK:AlK K mg) (hlen:mg "len"=none) (hzip:mg "zip"=none) (AL:Ok P w K mg base CX0 (n+1) "_law_alike" ["_law_found","_law_due"] sp):Ok P w K mg base CX0 (n+2) "_law_alike" ["_law_found","_law_due"] (spAlike n):=by
 obtain ⟨g,fd,m,F,b⟩:=d;refine ⟨g,fd,m,F.kp,b,F.ok sc_l_alike (by rintro vs H Q E ⟨_,_,e,_⟩;rw [e];rfl) λcdv A outer s H vs Q E hr h=>?_⟩;obtain ⟨u,v,rfl,hL,q⟩:=h;have nd:=sc_l_alike.nd;have hrA:=hr;have hisi:=AK.isi;refine ⟨_,(zc (zO (zD Yg (pv 1) yR (zy _)) (zg (zo (yD Yg (pv 0) yR (zy _)))) zw)
   (zc (zO (yW (zC yg (by rfl) AK.isi PyProof.Rows.boot_isinstance (zb (pv 1) (zb (xC AK.str PyProof.Rows.boot_str) ze)))) (zg (zo (Yf (zC yg (by rfl) AK.isi PyProof.Rows.boot_isinstance (zb (pv 0) (zb (xC AK.str PyProof.Rows.boot_str) ze))) (XW (yD ye (pv 0) (pv 1) (zy _)))))) zw)
   (zc (zO (Yc (yW (zC zaa (by rfl) hisi PyProof.Rows.boot_isinstance (zb (pv 1) (zb (yt (zb (xC AK.lst PyProof.Rows.boot_list) (zb (xC AK.tup PyProof.Rows.boot_tuple) ze))) ze))))) (zg (zo (Yf (zC yg (by rfl) AK.isi PyProof.Rows.boot_isinstance (zb (pv 0) (zb (xC AK.int PyProof.Rows.boot_int) ze))) (Yf (pe_not (zC yg (by rfl) AK.isi PyProof.Rows.boot_isinstance (zb (pv 0) (zb (xC AK.bool PyProof.Rows.boot_bool) ze)))) (XW (yD ye (pv 0) (pv 1) (zy _))))))) zw)
   (zc (zO (XT (yW (zC yg (by rfl) AK.isi PyProof.Rows.boot_isinstance (zb (pv 1) (zb (xC AK.lst PyProof.Rows.boot_list) ze)))) (YA (Yc (yW (zC yg (by rfl) AK.isi PyProof.Rows.boot_isinstance (zb (pv 0) (zb (xC AK.lst PyProof.Rows.boot_list) ze))))))).pt (zg (zo xO)) zw)
   (zc (zO (XT (yW (zC yg (by rfl) AK.isi PyProof.Rows.boot_isinstance (zb (pv 1) (zb (xC AK.tup PyProof.Rows.boot_tuple) ze)))) (YA (Yc (yW (zC yg (by rfl) AK.isi PyProof.Rows.boot_isinstance (zb (pv 0) (zb (xC AK.tup PyProof.Rows.boot_tuple) ze))))))).pt (zg (zo xO)) zw)
   (zc (zO (zD op_ne (zC zN (by rfl) hlen PySem.boot_len (zb (pv 0) ze)) (zC zN (by rfl) hlen PySem.boot_len (zb (pv 1) ze)) (zy _)) (zg (zo xO)) zw)
   (zc (xR PassesOwn.never rfl (pi_zb rfl hzip (zb (pv 0) (zb (pv 1) ze))) (pg_tup rfl (yE (zH (i:=2) nd rfl (Or.inl rfl)) (yE (zH (i:=3) nd rfl (Or.inl rfl)) ZT))) (zg (zO (Yc (yW (zK AL hrA (by rfl) zq (zb (pv 2) (zb (pv 3) ze))))) (zg (zo xO)) zw)))
   (zg (zo xO))))))))),?_⟩
 have kL:PySem.W.kitAny K (.type "list") [.type "list",.type "tuple"]=some true:=by unfold PySem.W.kitAny;rw [AK.ll]
 have kT:PySem.W.kitAny K (.type "tuple") [.type "list",.type "tuple"]=some true:=by unfold PySem.W.kitAny;rw [AK.tl];unfold PySem.W.kitAny;rw [AK.tt]
 have kI:PySem.W.kitAny K (.type "int") [.type "list",.type "tuple"]=some false:=by unfold PySem.W.kitAny;rw [AK.il];unfold PySem.W.kitAny;rw [AK.it];rfl
 cases hL with
 | non =>
  refine ⟨_,rfl,rfl,_,rfl,?_⟩;refine xa ⟨_,rfl,rfl,q H (Same.refl _)⟩
 | str z =>
  refine ⟨_,rfl,rfl,_,rfl,ym ?_⟩;refine ⟨_,rfl,.str z,.ty "str",.type "str",.type "str",true,rfl,rel_ty.1,rel_ty.2,xG (.str z),AK.ss,_,rfl,xa ?_⟩;refine ⟨_,rfl,.str z,.ty "str",.type "str",.type "str",true,rfl,rel_ty.1,rel_ty.2,xG (.str z),AK.ss,_,rfl,xa ?_⟩;refine ⟨_,rfl,_,rfl,rfl,?_⟩;rw [decide_eq_true rfl];exact q H (Same.refl _)
 | int i =>
  refine ⟨_,rfl,rfl,_,rfl,ym ?_⟩;refine ⟨_,rfl,.int i,.ty "str",.type "str",.type "int",false,rfl,rel_ty.1,rel_ty.2,xG (.int i),AK.is,_,rfl,ym ?_⟩;refine ⟨_,rfl,(by show 2<=sizeLine;decide),λtp ntp=>⟨.int i,tp,_,.type "int",false,rfl,zf,rfl,.int i,kI,_,rfl,?_⟩⟩;have s1:Same H (upd H tp (.tup [.ty "list",.ty "tuple"])):=zi (Same.refl _) ntp;refine xa ?_;refine ⟨_,rfl,.int i,.ty "int",.type "int",.type "int",true,rfl,rel_ty.1,rel_ty.2,xG (.int i),AK.ii,_,rfl,xa ?_⟩;refine ⟨_,rfl,.int i,.ty "bool",.type "bool",.type "int",false,rfl,rel_ty.1,rel_ty.2,xG (.int i),AK.ib,_,rfl,_,rfl,xa ?_⟩;refine ⟨_,rfl,_,rfl,rfl,?_⟩;rw [decide_eq_true rfl];exact q _ s1
 | @lst n a b xs ys ea eb el hx =>
  have hsp:=hsp n rfl;subst hsp;refine ⟨_,rfl,rfl,_,rfl,ym ?_⟩;refine ⟨_,rfl,.ref b,.ty "str",.type "str",.type "list",false,rfl,rel_ty.1,rel_ty.2,xG (.lst eb),AK.ls,_,rfl,ym ?_⟩;refine ⟨_,rfl,(by show 2<=sizeLine;decide),λtp ntp=>⟨.ref b,tp,_,.type "list",true,rfl,zf,rfl,?_,kL,_,rfl,ym ?_⟩⟩
  ·exact .lst (zi (Same.refl _) ntp _ _ eb)
  have s1:Same H (upd H tp (.tup [.ty "list",.ty "tuple"])):=zi (Same.refl _) ntp;generalize upd H tp (.tup [.ty "list",.ty "tuple"])=H1 at s1 ⊢;have ea1:=s1 _ _ ea;have eb1:=s1 _ _ eb;refine ⟨_,rfl,.ref b,.ty "list",.type "list",.type "list",true,rfl,rel_ty.1,rel_ty.2,xG (.lst eb1),AK.ll,_,rfl,xa ⟨_,rfl,.ref a,.ty "list",.type "list",.type "list",true,rfl,rel_ty.1,rel_ty.2,xG (.lst ea1),AK.ll,_,rfl,ym ?_⟩⟩;refine ⟨_,rfl,.ref b,.ty "tuple",.type "tuple",.type "list",false,rfl,rel_ty.1,rel_ty.2,xG (.lst eb1),AK.lt,_,rfl,ym (ym ?_)⟩;refine ⟨_,rfl,a,_,rfl,.inl (SqL.of ea1),_,rfl,b,_,rfl,.inl (SqL.of eb1),rfl,_,rfl,?_⟩;rw [el,decide_eq_true rfl];refine ym ?_;refine ⟨_,rfl,_,rfl,a,b,rfl,.inl ⟨⟨_,SqL.of ea1⟩,⟨_,SqL.of eb1⟩,?_⟩⟩;refine for_zip (xs:=xs) (ys:=ys) (λi σ J=>∃ u2 u3,σ=[rq a,rq b,u2,u3]/\Same H1 J) ⟨none,none,rfl,Same.refl _⟩ (λi σ J _ ⟨_,_,_,s2⟩=>⟨SqL.of (s2 _ _ ea1),SqL.of (s2 _ _ eb1)⟩) el ?_ ?_
  ·rintro i x y σ J T hx1 hy1 ⟨u2,u3,rfl,s2⟩ nT
   have s3:Same J (upd J T (.tup [x,y])):=zi (Same.refl _) nT;refine ⟨T,_,rfl,SqT.of zf,rfl,_,_,rfl,_,_,rfl,rfl,?_⟩;refine ⟨_,rfl,_,rfl,x,y,rfl,(hx i x y hx1 hy1).same ((s1.trans s2).trans s3),λJ2 s4=>⟨_,rfl,ym ?_⟩⟩;exact ⟨_,_,rfl,(s2.trans s3).trans s4⟩
  ·rintro σ J ⟨u2,u3,rfl,s2⟩
   exact q J (s1.trans s2)
 | @tup n a b xs ys ea eb el hx =>
  have hsp:=hsp n rfl;subst hsp;refine ⟨_,rfl,rfl,_,rfl,ym ?_⟩;refine ⟨_,rfl,.ref b,.ty "str",.type "str",.type "tuple",false,rfl,rel_ty.1,rel_ty.2,xG (.tup eb),AK.ts,_,rfl,ym ?_⟩;refine ⟨_,rfl,(by show 2<=sizeLine;decide),λtp ntp=>⟨.ref b,tp,_,.type "tuple",true,rfl,zf,rfl,?_,kT,_,rfl,ym ?_⟩⟩
  ·exact .tup (zi (Same.refl _) ntp _ _ eb)
  have s1:Same H (upd H tp (.tup [.ty "list",.ty "tuple"])):=zi (Same.refl _) ntp;generalize upd H tp (.tup [.ty "list",.ty "tuple"])=H1 at s1 ⊢;have ea1:=s1 _ _ ea;have eb1:=s1 _ _ eb;refine ⟨_,rfl,.ref b,.ty "list",.type "list",.type "tuple",false,rfl,rel_ty.1,rel_ty.2,xG (.tup eb1),AK.tl,_,rfl,ym (ym ?_)⟩;refine ⟨_,rfl,.ref b,.ty "tuple",.type "tuple",.type "tuple",true,rfl,rel_ty.1,rel_ty.2,xG (.tup eb1),AK.tt,_,rfl,xa ⟨_,rfl,.ref a,.ty "tuple",.type "tuple",.type "tuple",true,rfl,rel_ty.1,rel_ty.2,xG (.tup ea1),AK.tt,_,rfl,ym ?_⟩⟩;refine ⟨_,rfl,a,_,rfl,.inr (SqT.of ea1),_,rfl,b,_,rfl,.inr (SqT.of eb1),rfl,_,rfl,?_⟩;rw [el,decide_eq_true rfl];refine ym ?_;refine ⟨_,rfl,_,rfl,a,b,rfl,.inr ⟨⟨_,SqT.of ea1⟩,⟨_,SqT.of eb1⟩,?_⟩⟩;refine for_zt (xs:=xs) (ys:=ys) (λi σ J=>∃ u2 u3,σ=[rq a,rq b,u2,u3]/\Same H1 J) ⟨none,none,rfl,Same.refl _⟩ (λi σ J _ ⟨_,_,_,s2⟩=>⟨SqT.of (s2 _ _ ea1),SqT.of (s2 _ _ eb1)⟩) el ?_ ?_
  ·rintro i x y σ J T hx1 hy1 ⟨u2,u3,rfl,s2⟩ nT
   have s3:Same J (upd J T (.tup [x,y])):=zi (Same.refl _) nT;refine ⟨T,_,rfl,SqT.of zf,rfl,_,_,rfl,_,_,rfl,rfl,?_⟩;refine ⟨_,rfl,_,rfl,x,y,rfl,(hx i x y hx1 hy1).same ((s1.trans s2).trans s3),λJ2 s4=>⟨_,rfl,ym ?_⟩⟩;exact ⟨_,_,rfl,(s2.trans s3).trans s4⟩
  ·rintro σ J ⟨u2,u3,rfl,s2⟩
   exact q J (s1.trans s2)
theorem zar (d:zr K mg "_law_alike" xy ["_law_found","_law_due"]) (AK:AlK K mg) (hlen:mg "len"=none) (hzip:mg "zip"=none):∀ n:Nat,Ok P w K mg base CX0 (n+2) "_law_alike" ["_law_found","_law_due"] (spAlike n)
 | 0=>YU (λn' e=>by cases e) d AK hlen hzip (ok_alike0 d)
 | n+1=>YU (λn' e=>by cases e;rfl) d AK hlen hzip (zar d AK hlen hzip n)
theorem XM (js:Jb) (m:List Bool) (j:Nat) (hj:j<m.length) (h:(j:Int)∈js∨m.getD j false=true):(sel m js).getD j false=true:=by
 induction js generalizing m with
 | nil =>
  rcases h with h | h
  ·cases h
  ·exact h
 | cons i js ih =>
  show (sel (m.set i.toNat true) js).getD j false=true;refine ih _ (by rw [List.length_set];exact hj) ?_;by_cases e:i.toNat=j
  ·right
   rw [q1x,e,q3z hj];rfl
  ·rcases h with h | h
   ·rcases List.mem_cons.mp h with h | h
    ·exact absurd (by rw [← h];rfl) e
    ·exact .inl h
   ·right
    rw [q1x,List.getElem?_set_ne e,← q1x];exact h
theorem X6 (d:Jb) (q:Nat) (m:List Bool) (lo k j:Nat) (h:j<lo):(dst d q m lo k).getD j false=m.getD j false:=by
 induction k with
 | zero=>rfl
 | succ k ih=>rw [Y6,q1x,List.getElem?_set_ne (by omega),← q1x];exact ih
def zay {n j:Nat} (h:j<n):(j:Int)∈xQ n:=List.mem_map.mpr ⟨j,List.mem_range.mpr h,rfl⟩
def actTo_all (M:Mc) (k n:Nat) (h:∀ j,j<n->M.isAct k j=true):M.actTo k n=xQ n:=by
 unfold Mc.actTo xQ;rw [List.filter_eq_self.mpr λj hj=>h j (List.mem_range.mp hj)];rfl
def strip_act {M:Mc} (ok:MOk0 M) (hg:M.group=1∨M.group=2∨M.group=4) {b:Int} (hb:b<=M.mn_):(M.strip b).act 0=xQ (M.wide b).toNat/\MOk (M.strip b):=by
 have l1:=ok.l1;have rb:M.group*M.lq<=4*M.lq/\1<=M.group*M.lq:=by rcases hg with e | e | e <;> rw [e] <;> omega
 have w01:0<=M.wide b/\M.wide b<=M.group*M.lq:=by unfold Mc.wide;split <;> omega
 have ml:0<M.masks.length:=by rw [ok.ml];decide
 have lm:(M.masks.getD 0 []).length=4*M.lq:=by
  rw [q1x,List.getElem?_eq_getElem ml];exact ok.mm _ (List.getElem_mem ml)
 refine ⟨?_,?_⟩
 ·refine actTo_all _ _ _ λj hj=>?_
  have hj:j<(M.wide b).toNat:=hj;unfold Mc.isAct
  have e1:((M.strip b).masks.getD 0 []).getD j false=true:=by
   show ((M.masks.set 0 _).getD 0 []).getD j false=true;rw [q1x (l:=M.masks.set 0 _),q3z ml];show (dst _ _ (sel (clr (M.masks.getD 0 []) (M.wide b).toNat) (xQ (M.wide b).toNat)) (M.wide b).toNat _).getD j false=true;rw [X6 _ _ _ _ _ _ hj];exact XM _ _ _ (by rw [yU,lm];omega) (.inl (zay hj))
  rw [e1];rfl
 ·refine ⟨ok.l1,ok.l64,hg,ok.nl,?_,λm hm=>?_,w01.1,w01.2⟩
  ·show (M.masks.set 0 _).length=16
   rw [List.length_set];exact ok.ml
  ·rcases List.mem_or_eq_of_mem_set hm with hm | rfl
   ·exact ok.mm m hm
   ·show (dst _ _ (sel (clr (M.masks.getD 0 []) _) _) _ _).length=_
    rw [Z0,xW,yU,lm];rfl
def layOne_is (told:Jl) (p:Nat) (M:Mc) (t:Nat):M.layOne told p t={ M with nums:=(M.layOne told p t).nums,dq:=(M.layOne told p t).dq }:=by
 unfold Mc.layOne;split <;> rfl
theorem layTo_is (told:Jl) (p:Nat) (M:Mc) (n:Nat):M.layTo told p n={ M with nums:=(M.layTo told p n).nums,dq:=(M.layTo told p n).dq }:=by
 induction n with
 | zero=>rfl
 | succ n ih =>
  rw [M.layTo_succ];have e:=layOne_is told p (M.layTo told p n) n;rw [e];rw [ih]
inductive Steps (L:Lex) (code:List (Jn)):Nat->Mc->Mc->Prop
 | refl {M}:Steps L code 0 M M
 | cons {n M M1 Mf tv}:0<=M.pc->M.rq_=none->code[M.pc.toNat]?=some tv->Step L tv M M1->Steps L code n M1 Mf->Steps L code (n+1) M Mf
theorem Steps.trans {L:Lex} {code:List (Jn)} {n k:Nat} {M M1 M2:Mc} (h:Steps L code n M M1) (h2:Steps L code k M1 M2):Steps L code (n+k) M M2:=by
 induction h with
 | refl=>rw [Nat.zero_add];exact h2
 | cons a b c d _ ih=>rw [Nat.add_right_comm];exact .cons a b c d (ih h2)
theorem Steps.run {L:Lex} {code:List (Jn)} {n:Nat} {M M1:Mc} (h:Steps L code n M M1) (e:(code.length:Int)<=M1.pc∨M1.rq_.isSome=true):Run L code n M M1:=by
 induction h with
 | refl=>exact .done e
 | cons a b c d _ ih=>exact .step a b c d (ih e)
theorem rep_one (v:V):∀ (js:Jb),(List.replicate js.length [v]).flatten=js.map λ_=>v
 | []=>rfl
 | j::js=>by rw [q3x,List.replicate_succ,List.flatten_cons,rep_one v js];rfl
def numM:FnM:=λtv M js=>match (tv[2]?:Jo) with
 | some (V.int n)=>some (M,js.map λ_=>some n)
 | _=>none
def hereM:FnM:=λ_ M js=>some (M,js.map λj=>some (M.base+j))
def Y8:FnM:=λtv M js=>match (tv[2]?:Jo) with
 | some (V.int p)=>if 0<=p/\(p+1)*M.group<=8 then some (M,js.map λj=>some (M.nq p.toNat j)) else none
 | _=>none
def numM_ok:FnMOk numM where
 ok:=λh o=>by unfold numM at h;split at h <;> cases h;exact o
 g:=λh=>by unfold numM at h;split at h <;> cases h;rfl
 n:=λh=>by unfold numM at h;split at h <;> cases h;rw [Ji]
def hereM_ok:FnMOk hereM where
 ok:=λh o=>by cases h;exact o
 g:=λh=>by cases h;rfl
 n:=λh=>by cases h;rw [Ji]
def Z2 {tv:Jn} {M M':Mc} {js:Jb} {ns:List (Option Int)} (h:Y8 tv M js=some (M',ns)):∃ p:Nat,tv[2]?=some (.int p)/\((p:Int)+1)*M.group<=8/\M'=M/\ns=js.map λj=>some (M.nq p j):=by
 unfold Y8 at h
 split at h
 ·rename_i p e
  split at h
  ·rename_i hc
   cases h;exact ⟨p.toNat,by rw [e];congr 2;omega,by rw [Int.toNat_of_nonneg hc.1];exact hc.2,rfl,rfl⟩
  ·cases h
 ·cases h
def copyM_ok:FnMOk Y8 where
 ok:=λh o=>by obtain ⟨_,_,_,rfl,_⟩:=Z2 h;exact o
 g:=λh=>by obtain ⟨_,_,_,rfl,_⟩:=Z2 h;rfl
 n:=λh=>by obtain ⟨_,_,_,_,rfl⟩:=Z2 h;rw [Ji]
def zbl {c:MCs} (d:zr K mg "numbers_written" yy ["bench","step","active"]) (hlen:mg "len"=none):Ok P w K mg base CX0 1 "numbers_written" ["bench","step","active"] (spFn c numM):=by
 obtain ⟨g,fd,m,F,b⟩:=d;refine ⟨g,fd,m,F.kp,b,F.ok ZB (by rintro vs H Q E ⟨_,_,_,_,_,_,_,_,_,_,e,_⟩;rw [e];rfl) λcdv A outer s H vs Q E hr h=>?_⟩;obtain ⟨B,A,M,R,st,aa,tv,js,M',ns,rfl,m,es,ea,ef,ok,hj,hl,q⟩:=h;have SL:(3000:Nat)<sizeLine:=by decide
 unfold numM at ef
 split at ef
 case h_2=>cases ef
 rename_i n e2;cases ef;refine ⟨_,(zg (zo (zj ZE (yu (zb (zm zB (pv 1) zd (λ_ _=>rfl)) ze)) (zC zN (by rfl) hlen PySem.boot_len (zb (pv 2) ze))))),?_⟩;dsimp only [yd,Cx.nox,Cx.wish];refine ⟨_,rfl,st,_,_,_,rfl,rfl,SqT.of (m.h.sm _ _ es),zv (j:=2) e2,(by show 1<=sizeLine;omega),λt nt=>?_⟩;have m1:=m.grow (o:=.lst [.int n]) nt;have s1:Same B (upd B t (.lst [.int n])):=zi (Same.refl _) (m.h.free nt);have et:upd B t (.lst [.int n]) t=some (.lst [.int n]):=zf;generalize upd B t (.lst [.int n])=B1 at m1 s1 et;refine ⟨_,rfl,aa,_,rfl,.inl (SqL.of (m1.h.sm _ _ (s1 _ _ ea))),t,_,_,rfl,rfl,m1.h.sm _ _ et,by rw [Ji];omega,by rw [Ji];omega,(by rw [Ji,q0z];show 1*js.length<=_;omega),λl nl=>?_⟩;rw [Ji,q0z,rep_one];have m2:=m1.grow (o:=.lst (js.map λ_=>V.int n)) nl;have s2:Same B1 (upd B1 l (.lst (js.map λ_=>V.int n))):=zi (Same.refl _) (m1.h.free nl);refine q _ A _ l (s1.trans s2) rfl m2 ?_;rw [zf,List.map_map];rfl
def ok_here {c:MCs} (d:zr K mg "numbers_of_here" yz ["bench","step","active"]) (CC:MCls K c):Ok P w K mg base CX0 1 "numbers_of_here" ["bench","step","active"] (spFn c hereM):=by
 obtain ⟨g,fd,m,F,b⟩:=d;refine ⟨g,fd,m,F.kp,b,F.ok sc_numbers_of_here (by rintro vs H Q E ⟨_,_,_,_,_,_,_,_,_,_,e,_⟩;rw [e];rfl) λcdv A outer s H vs Q E hr h=>?_⟩;obtain ⟨B,A,M,R,st,aa,tv,js,M',ns,rfl,m,es,ea,ef,ok,hj,hl,q⟩:=h;cases ef;have nd:=sc_numbers_of_here.nd;have CN:=CC.n;have SL:(3000:Nat)<sizeLine:=by decide
 refine ⟨_,(zg (zo (yF ["lane","bench"] [none,some 0] rfl rfl rfl (ZR (pv 2)) (λs3 H3 fp=>⟨zH (i:=0) (Jp ["lane","bench"]) rfl (Or.inl rfl),(zj zF (Zr (K:=K) rfl (pv 1) rfl) (pv 0))⟩)))),?_⟩;dsimp only [yd,Cx.nox,Cx.wish];refine ⟨_,rfl,aa,rfl,⟨_,SqL.of (m.h.sm _ _ ea)⟩,_,rfl,λD nD=>?_⟩;have h0:Hd H [(D,.lst (((js.take 0).map λj=>some (M.base+j)).map oV))] (upd H D (.lst [])):=Hd.base.new nD;generalize upd H D (.lst [])=H1 at h0 ⊢;refine Ym (K:=K) (a:=aa) (D:=D) (xs:=js.map V.int) (λi σ J=>∃ u,σ=[u,rq A.b]/\Hd H [(D,.lst (((js.take i).map λj=>some (M.base+j)).map oV))] J) ⟨none,rfl,h0⟩ (λi σ J _ ⟨_,_,h⟩=>SqL.of (h.sm _ _ (m.h.sm _ _ ea))) ?_ ?_
 ·clear h0
  rintro i y σ J hy ⟨u,rfl,h⟩;obtain ⟨j,e9,rfl⟩:=xk hy;have hlt:i<js.length:=(List.getElem?_eq_some_iff.mp e9).1;refine ⟨_,rfl,A.b,_,_,_,.int M.base,rfl,h.sm _ _ m.b,CN.c,CN.base,rfl,_,rfl,_,_,rfl,rfl,_,h.get 0 rfl,(by rw [Ji,Ji,List.length_take];omega),_,rfl,?_⟩;have h3:=h.put (o':=.lst (((js.take (i+1)).map λj=>some (M.base+j)).map oV)) 0 rfl
  have e:((js.take (i+1)).map λj=>some (M.base+j)).map oV=((js.take i).map λj=>some (M.base+j)).map oV++[V.int (M.base+j)]:=by
   rw [List.take_add_one,e9,Jk,Jk];rfl
  rw [e] at h3 ⊢;exact h3
 ·rintro σ J ⟨u,rfl,h⟩
  rw [Ji,List.take_length] at h;exact q _ A J D (zi (Same.refl _) (m.h.free (h.nw _ (List.mem_singleton.mpr rfl)))) rfl (m.adopt h) zf
def zbm {c:MCs} (d:zr K mg "numbers_copied" yN ["bench","step","active"]) (CC:MCls K c) (NI:OkM P w K mg base CX0 3 c.bn "numbers_in" ["self","seat","active"] (spNums c K)):Ok P w K mg base CX0 4 "numbers_copied" ["bench","step","active"] (spFn c Y8):=by
 obtain ⟨g,fd,m,F,b⟩:=d;refine ⟨g,fd,m,F.kp,b,F.ok ZK (by rintro vs H Q E ⟨_,_,_,_,_,_,_,_,_,_,e,_⟩;rw [e];rfl) λcdv A outer s H vs Q E hr h=>?_⟩;obtain ⟨B,A,M,R,st,aa,tv,js,M',ns,rfl,m,es,ea,ef,ok,hj,hl,q⟩:=h;obtain ⟨p,e2,p8,rfl,rfl⟩:=Z2 ef;have hr3:=hr;refine ⟨_,(zg (zo (zY NI CC.n.c hr3 zq (pv 0) (zb (zm zB (pv 1) zd (λ_ _=>rfl)) (zb (pv 2) ze))))),?_⟩;dsimp only [yd,Cx.nox,Cx.wish];refine ⟨_,rfl,A.b,_,_,rfl,m.b,rfl,_,rfl,st,_,_,_,rfl,rfl,SqT.of (m.h.sm _ _ es),zv (j:=2) e2,_,rfl,B,A,M',R,p,aa,js,rfl,m,ok,p8,ea,hj,hl,λB1 H1 l s1 m1 el=>?_⟩;refine q B1 A H1 l s1 rfl m1 ?_;rw [el,List.map_map,List.map_map];rfl
def Mc.shOne (M:Mc) (r:Nat) (place other:Int):Mc×Int:=if 0<=place/\place<M.lens.getD r 0 then (M.touched "read" (M.adr r place),M.cells.getD (M.adr r place).toNat 0) else (M,other)
def YK (M:Mc) (r:Nat):Prop:=r<M.starts.length/\r<M.lens.length/\0<=M.starts.getD r 0/\M.starts.getD r 0+M.lens.getD r 0<=M.cells.length
def Mc.chosen (M:Mc) (p k:Nat) (nought:Bool):Jb:=(M.act k).filter λj=>decide (decide (M.nq p j=0)=nought)
def yV (nought:Bool):EfM:=λtv M=>match (tv[1]?:Jo),(tv[2]?:Jo),(tv[3]?:Jo) with
 | some (V.int m),some (V.int p),some (V.int k)=>if 0<=m/\m<16/\0<=p/\(p+1)*M.group<=8/\0<=k/\k<16 then some (M.laidMask m.toNat (M.chosen p.toNat k.toNat nought)) else none
 | _,_,_=>none
def zb1 {nought:Bool} {tv:Jn} {M M':Mc} (h:yV nought tv M=some M'):∃ m p k:Nat,tv[1]?=some (.int m)/\tv[2]?=some (.int p)/\tv[3]?=some (.int k)/\m<16/\((p:Int)+1)*M.group<=8/\k<16/\M'=M.laidMask m (M.chosen p k nought):=by
 unfold yV at h
 split at h
 ·rename_i m p k e1 e2 e3
  split at h
  ·rename_i hc
   obtain ⟨m0,m1,p0,p8,k0,k1⟩:=hc;cases h;refine ⟨m.toNat,p.toNat,k.toNat,?_,?_,?_,by omega,?_,by omega,rfl⟩
   ·rw [e1];congr 2;omega
   ·rw [e2];congr 2;omega
   ·rw [e3];congr 2;omega
   ·rw [Int.toNat_of_nonneg p0];exact p8
  ·cases h
 ·cases h
inductive spLC (c:MCs) (vs:Jn) (H:Hp) (Q:VK) (_:XK):Prop
 | mk (nought:Bool) (B:Hp) (A:Ma) (M:Mc) (R:Jm) (st:Ad) (tv:Jn) (M':Mc) (_:vs=[.ref A.b,.ref st,.bl nought]) (_:MAt c B A M R H) (_:B st=some (.tup tv)) (_:yV nought tv M=some M') (_:MOk M) (_:∀ B' A' H',Same B B'->A'.b=A.b->MAt c B' A' M' R H'->Q .non H')
def ok_chosen {c:MCs} (d:zr K mg "lay_chosen" xp ["bench","step","nought"]) (hzip:mg "zip"=none) (CC:MCls K c) (AU:OkM P w K mg base CX0 1 c.bn "active_under" ["self","mask"] (spAct c)) (NI:OkM P w K mg base CX0 3 c.bn "numbers_in" ["self","seat","active"] (spNums c K)) (LM:OkM P w K mg base CX0 2 c.bn "lay_mask" ["self","mask","chosen"] (spMask c K)):Ok P w K mg base CX0 4 "lay_chosen" ["bench","step","nought"] (spLC c):=by
 obtain ⟨g,fd,m,F,b⟩:=d;refine ⟨g,fd,m,F.kp,b,F.ok sc_lay_chosen (by rintro vs H Q E ⟨_,_,_,_,_,_,_,_,e,_⟩;rw [e];rfl) λcdv A outer s H vs Q E hr h=>?_⟩;obtain ⟨nought,B,A,M,R,st,tv,M',rfl,m,es,ef,ok,q⟩:=h;have nd:=sc_lay_chosen.nd;have hr3:=hr;have hr2:=hr.mono (show 2<=3 by decide);have hr1:=hr.mono (show 1<=3 by decide);have CN:=CC.n;have ml:=ok.ml;have SL:(3000:Nat)<sizeLine:=by decide
 obtain ⟨mk,p,k,e1,e2,e3,mk16,p8,k16,rfl⟩:=zb1 ef;obtain ⟨mr1,mr2⟩:=Yj ok k16;obtain ⟨ai,al⟩:=act_in ok k;refine ⟨_,(zc (zt (i:=3) nd rfl (Or.inl rfl) (zY AU CC.n.c hr1 zq (pv 0) (zb (zm zB (pv 1) zd (λ_ _=>rfl)) ze)))
   (zc (zt (i:=4) nd rfl (Or.inl rfl) (zY NI CC.n.c hr3 zq (pv 0) (zb (zm zB (pv 1) zd (λ_ _=>rfl)) (zb (pv 3) ze))))
   (zg (zW (zY LM CC.n.c hr2 zq (pv 0) (zb (zm zB (pv 1) zd (λ_ _=>rfl)) (zb (zap ["lane","number","nought"] [none,none,some 2] rfl rfl rfl (pi_zip rfl hzip (zb (pv 3) (zb (pv 4) ze))) (λs3 H3 fp=>⟨XV (K:=K) (n:=2) rfl rfl (yE (zH (i:=0) (Jp ["lane","number","nought"]) rfl (Or.inl rfl)) (yE (zH (i:=1) (Jp ["lane","number","nought"]) rfl (Or.inl rfl)) ZT)),(zD ye (yD ye (pv 1) zd (zy _)) (pv 2) (zy _)),(pv 0)⟩)) ze))))))),?_⟩
 refine ⟨_,rfl,A.b,_,_,rfl,m.b,rfl,_,rfl,st,_,_,_,rfl,rfl,SqT.of (m.h.sm _ _ es),zv (j:=3) e3,B,A,M,R,k,rfl,m,by omega,ok.w0,mr1,mr2,λB1 H1 l s1 m1 ea=>?_⟩;refine ⟨_,rfl,A.b,_,_,rfl,m1.b,rfl,_,rfl,st,_,_,_,rfl,rfl,SqT.of (m1.h.sm _ _ (s1 _ _ es)),zv (j:=2) e2,_,rfl,B1,A,M,R,p,l,M.act k,rfl,m1,ok,p8,ea,ai,al,λB2 H2 l2 s2 m2 en=>?_⟩;refine ⟨_,rfl,A.b,_,_,rfl,m2.b,rfl,_,rfl,st,_,_,_,rfl,rfl,SqT.of (m2.h.sm _ _ (s2 _ _ (s1 _ _ es))),zv (j:=1) e1,_,rfl,_,rfl,l,l2,rfl,⟨_,SqL.of (m2.h.sm _ _ (s2 _ _ ea))⟩,⟨_,SqL.of (m2.h.sm _ _ en)⟩,_,rfl,λD nD=>?_⟩;unfold Mc.chosen at q;generalize M.act k=js at *;let f:Int->Bool:=λj=>decide (decide (M.nq p j=0)=nought);have h0:Hd H2 [(D,.lst (((js.take 0).filter f).map V.int))] (upd H2 D (.lst [])):=Hd.base.new nD;generalize upd H2 D (.lst [])=H3 at h0 ⊢;refine compF_zip (K:=K) (xs:=js.map V.int) (ys:=(js.map (M.nq p)).map V.int) (λi σ J=>∃ u0 u1,σ=[u0,u1,some (.bl nought)]/\Hd H2 [(D,.lst (((js.take i).filter f).map V.int))] J) ⟨none,none,rfl,h0⟩ (λi σ J _ ⟨_,_,_,h⟩=>⟨SqL.of (h.sm _ _ (m2.h.sm _ _ (s2 _ _ ea))),SqL.of (h.sm _ _ (m2.h.sm _ _ en))⟩) (by rw [Ji,Ji,Ji]) ?_ ?_
 ·clear h0
  rintro i x y σ J T hx hy ⟨u0,u1,rfl,h⟩ nT;obtain ⟨j,e9,rfl⟩:=xk hx;obtain ⟨z,e10,rfl⟩:=xk hy;rw [List.getElem?_map,e9] at e10;cases e10;have hlt:i<js.length:=(List.getElem?_eq_some_iff.mp e9).1;have h:=h.waste (o:=.tup [.int j,.int (M.nq p j)]) nT;refine ⟨T,_,rfl,SqT.of zf,rfl,_,_,rfl,_,_,rfl,rfl,?_⟩;generalize upd J T (.tup [.int j,.int (M.nq p j)])=J1 at h ⊢
  have et:(js.take (i+1)).filter f=(js.take i).filter f++if f j=true then [j] else []:=by
   rw [List.take_add_one,e9,List.filter_append];congr 1;show List.filter f [j]=_;by_cases z:f j=true
   ·rw [List.filter_cons_of_pos z,if_pos z];rfl
   ·rw [List.filter_cons_of_neg z,if_neg z];rfl
  have lf:=List.length_filter_le f (js.take i);rw [List.length_take] at lf;rw [et];refine ⟨_,rfl,rfl,_,rfl,rfl,_,rfl,?_⟩
  have ef:decide (V.bl (decide (V.int (M.nq p j)=V.int 0))=V.bl nought)=f j:=by
   show _=decide (decide (M.nq p j=0)=nought);rw [X8,dec_bl];by_cases z:M.nq p j=0 <;> cases nought <;> simp [z]
  rw [ef];refine xE (λz=>?_) (λz=>?_)
  ·rw [if_pos z]
   refine ⟨_,rfl,_,h.get 0 rfl,(by rw [Ji];omega),_,_,rfl,?_⟩;rw [Jk];exact h.put 0 rfl
  ·rw [if_neg z,q3y]
   exact ⟨_,_,rfl,h⟩
 ·rintro σ J ⟨u0,u1,rfl,h⟩
  rw [Ji,List.take_length] at h;have m3:=m2.adopt h;have s3:Same B2 (upd B2 D (.lst ((js.filter f).map V.int))):=zi (Same.refl _) (m2.h.free nD);refine ⟨_,A,M,R,mk,D,js.filter f,rfl,m3,ok,mk16,zf,(λj hj=>ai j (List.mem_filter.mp hj).1),λH9 m9=>?_⟩;exact q _ A H9 ((s1.trans s2).trans s3) rfl m9
def ok_choose {c:MCs} (d:zr K mg "play_choose" xf ["bench","step"]) (LC:Ok P w K mg base CX0 4 "lay_chosen" ["bench","step","nought"] (spLC c)):Ok P w K mg base CX0 5 "play_choose" ["bench","step"] (spEf c (yV false)):=by
 obtain ⟨g,fd,m,F,b⟩:=d;refine ⟨g,fd,m,F.kp,b,F.ok YH (by rintro vs H Q E ⟨_,_,_,_,_,_,_,e,_⟩;rw [e];rfl) λcdv A outer s H vs Q E hr h=>?_⟩;obtain ⟨B,A,M,R,st,tv,M',rfl,m,es,ef,ok,q⟩:=h;have hr4:=hr;refine ⟨_,(zg (zW (zK LC hr4 (by rfl) zq (zb (pv 0) (zb (pv 1) (zb xO ze)))))),?_⟩;exact ⟨_,rfl,_,rfl,false,B,A,M,R,st,tv,M',rfl,m,es,ef,ok,q⟩
def ok_other {c:MCs} (d:zr K mg "play_other" xn ["bench","step"]) (LC:Ok P w K mg base CX0 4 "lay_chosen" ["bench","step","nought"] (spLC c)):Ok P w K mg base CX0 5 "play_other" ["bench","step"] (spEf c (yV true)):=by
 obtain ⟨g,fd,m,F,b⟩:=d;refine ⟨g,fd,m,F.kp,b,F.ok Xi (by rintro vs H Q E ⟨_,_,_,_,_,_,_,e,_⟩;rw [e];rfl) λcdv A outer s H vs Q E hr h=>?_⟩;obtain ⟨B,A,M,R,st,tv,M',rfl,m,es,ef,ok,q⟩:=h;have hr4:=hr;refine ⟨_,(zg (zW (zK LC hr4 (by rfl) zq (zb (pv 0) (zb (pv 1) (zb xO ze)))))),?_⟩;exact ⟨_,rfl,_,rfl,true,B,A,M,R,st,tv,M',rfl,m,es,ef,ok,q⟩
abbrev Tch:=Int×Str×Int
abbrev DT:=Jb×List Tch
def wid (mn_ side b:Int):Nat:=(min mn_ (b+side)-b).toNat
structure InS (S LN:Jb) (L pl:Nat) (mn_ group b:Int) (k:Nat) (s:DT) (M:Mc):Prop where
 ok:MOk M
 wle:M.wq<=(wid mn_ (group*L) b:Nat)
 bq:M.bq=(wid mn_ (group*L) b:Nat)
 base:M.base=b
 pc:M.pc=((pl+k:Nat):Int)
 oq:M.oq=(pl:Nat)
 mn_:M.mn_=mn_
 group:M.group=group
 lq:M.lq=L
 rf:M.rq_=none
 starts:M.starts=S
 lens:M.lens=LN
 cells:M.cells=s.1
 tq:M.tq=s.2
structure StripAt (S LN:Jb) (L pl:Nat) (mn_ group b:Int) (s:DT) (M:Mc):Prop where
 i:InS S LN L pl mn_ group b 1 s M
 act:M.act 0=xQ (wid mn_ (group*L) b)
 flt:M.fq=[]
 cut:M.cut=none
structure RestAt (S LN:Jb) (L:Nat) (pc:Nat) (s:DT) (M:Mc):Prop where
 ok:MOk0 M
 lq:M.lq=L
 rf:M.rq_=none
 starts:M.starts=S
 lens:M.lens=LN
 pc:M.pc=pc
 cells:M.cells=s.1
 tq:M.tq=s.2
theorem layTo_off (told:Jl) (p:Nat) (M:Mc) (n i:Nat) (h:∀ t:Nat,t<n->((p:Int)*M.group*M.lq+t).toNat≠i):(M.layTo told p n).nums.getD i 0=M.nums.getD i 0:=by
 induction n with
 | zero=>rfl
 | succ n ih =>
  have s:=M.layTo_same told p n;have hn:=h n (by omega);rw [M.layTo_succ]
  have e2:((M.layTo told p n).layOne told p n).nums.getD i 0=(M.layTo told p n).nums.getD i 0:=by
   unfold Mc.layOne
   split
   ·show (List.set _ _ _).getD _ 0=_
    rw [q1x,List.getElem?_set_ne (by rw [s.g,s.l];exact hn),← q1x]
   ·show (List.set _ _ _).getD _ 0=_
    rw [q1x,List.getElem?_set_ne (by rw [s.g,s.l];exact hn),← q1x]
  rw [e2];exact ih λt ht=>h t (by omega)
section
variable {Lx:Lex} {S LN:Jb} {L pl k:Nat} {mn_ group b:Int} {s:DT} {M:Mc}
def InS.one {code:List (Jn)} {tv:Jn} {M':Mc} (h:InS S LN L pl mn_ group b k s M) (c:code[pl+k]?=some tv) (st:Step Lx tv M M'):Steps Lx code 1 M M' :=
 .cons (by rw [h.pc];exact Int.natCast_nonneg _) h.rf (by rw [h.pc,q0z];exact c) st .refl
def InS.mem (h:InS S LN L pl mn_ group b k s M) {m:Nat} {j:Int} (hj:j∈M.act m):0<=j/\j<group*L/\b+j<mn_:=by
 have a:=Mc.act_mem hj;have w:=h.wle;have w0:=h.ok.w0;unfold wid at w;omega
theorem sel_out (js:Jb) (m:List Bool) (j:Nat) (h:∀ i∈js,i.toNat≠j):(sel m js).getD j false=m.getD j false:=by
 induction js generalizing m with
 | nil=>rfl
 | cons i js ih =>
  show (sel (m.set i.toNat true) js).getD j false=_;rw [ih _ λi hi=>h i (q1y _ hi),q1x,List.getElem?_set_ne (h i q1z),← q1x]
theorem clr_lt (m:List Bool) (n j:Nat) (h:j<n):(clr m n).getD j false=false:=by
 induction n with
 | zero=>omega
 | succ n ih =>
  rw [za8,q1x];by_cases e:n=j
  ·subst e
   by_cases hl:n<(clr m n).length
   ·rw [q3z hl];rfl
   ·rw [List.getElem?_eq_none (by rw [List.length_set];omega)];rfl
  ·rw [List.getElem?_set_ne e,← q1x];exact ih (by omega)
def laid_act {M:Mc} (ok:MOk M) {m k:Nat} (m16:m<16) (q:Int->Bool):(M.laidMask m ((M.act k).filter q)).act m=(M.act k).filter q/\MOk (M.laidMask m ((M.act k).filter q)):=by
 have w0:=ok.w0;have w1:=ok.w1;have l1:=ok.l1;have rb:M.group*M.lq<=4*M.lq:=by rcases ok.g with e | e | e <;> rw [e] <;> omega
 have ml:m<M.masks.length:=by rw [ok.ml];exact m16
 have lm:(M.masks.getD m []).length=4*M.lq:=by
  rw [q1x,List.getElem?_eq_getElem ml];exact ok.mm _ (List.getElem_mem ml)
 refine ⟨?_,⟨ok.l1,ok.l64,ok.g,ok.nl,?_,λx hx=>?_,ok.w0,ok.w1⟩⟩
 ·have hm:(M.laidMask m ((M.act k).filter q)).masks.getD m []=M.maskOf m ((M.act k).filter q):=by
   show (M.masks.set m _).getD m []=_;rw [q1x,q3z ml];rfl
  have hW:(M.laidMask m ((M.act k).filter q)).wq=M.wq:=rfl;have hF:(M.laidMask m ((M.act k).filter q)).fq=M.fq:=rfl
  have key:∀ j:Nat,j<M.wq.toNat->(M.laidMask m ((M.act k).filter q)).isAct m j=(M.isAct k j && q (j:Int)):=λj hj=>by
   unfold Mc.isAct;rw [hm,hF]
   have e1:(M.maskOf m ((M.act k).filter q)).getD j false=(sel (clr (M.masks.getD m []) M.wq.toNat) ((M.act k).filter q)).getD j false:=by
    unfold Mc.maskOf;exact X6 _ _ _ _ _ _ hj
   rw [e1];by_cases hin:(j:Int)∈(M.act k).filter q
   ·have hp:=List.mem_filter.mp hin
    have ha:=(Mc.act_mem hp.1).2.2;rw [q0z] at ha;rw [XM _ _ _ (by rw [yU,lm];omega) (.inl hin),hp.2];unfold Mc.isAct at ha;rw [Bool.and_eq_true] at ha;rw [ha.1,ha.2];rfl
   ·rw [sel_out _ _ _ λi hi z=>hin (by
     have:=(Mc.act_mem (List.mem_filter.mp hi).1).1;have e:(j:Int)=i:=by omega
     rw [e];exact hi),clr_lt _ _ _ hj]
    rw [Bool.false_and];by_cases ha:M.isAct k j=true
    ·by_cases hq:q (j:Int)=true
     ·exact absurd (List.mem_filter.mpr ⟨List.mem_map.mpr ⟨j,List.mem_filter.mpr ⟨List.mem_range.mpr hj,ha⟩,rfl⟩,hq⟩) hin
     ·rw [Bool.not_eq_true] at hq;rw [hq,Bool.and_false]
    ·rw [Bool.not_eq_true] at ha
     unfold Mc.isAct at ha;rw [ha,Bool.false_and]
  generalize hN:M.laidMask m ((M.act k).filter q)=N at key hW ⊢;unfold Mc.act Mc.actTo;rw [hW,List.filter_map,List.filter_filter];congr 1;refine List.filter_congr λj hj=>?_;rw [key j (List.mem_range.mp hj),Bool.and_comm];rfl
 ·show (M.masks.set m _).length=16
  rw [List.length_set];exact ok.ml
 ·rcases List.mem_or_eq_of_mem_set hx with hx | rfl
  ·exact ok.mm x hx
  ·show (dst _ _ (sel (clr (M.masks.getD m []) _) _) _ _).length=_
   rw [Z0,xW,yU,lm];rfl
end
def zac {M:Mc} {b:Int} (hb:b<=M.mn_) (hg:0<=M.group*M.lq):M.wide b=(wid M.mn_ (M.group*M.lq) b:Nat):=by
 unfold Mc.wide wid
 split <;> omega
def zbe {S LN:Jb} {L pl:Nat} {mn_ group b:Int} {s:DT} {M:Mc} (ok:MOk0 M) (hg:group=1∨group=2∨group=4) (e1:M.group=group) (e2:M.mn_=mn_) (e3:M.lq=L) (e4:M.oq=pl) (hb:b<=mn_) (rf:M.rq_=none) (st:M.starts=S) (ln:M.lens=LN) (ce:M.cells=s.1) (to:M.tq=s.2) :
  StripAt S LN L pl mn_ group b s { M.strip b with pc:=pl+1 }:=by
 subst e1 e2 e3;obtain ⟨a,o⟩:=strip_act ok hg hb;have l1:=ok.l1;have gp:0<=M.group*M.lq:=by rcases hg with e | e | e <;> rw [e] <;> omega
 have ww:=zac hb gp;refine ⟨⟨⟨o.l1,o.l64,o.g,o.nl,o.ml,o.mm,o.w0,o.w1⟩,by show M.wide b<=_;rw [ww];exact Int.le_refl _,ww,rfl,by show (pl:Int)+1=_;omega,e4,rfl,rfl,rfl,rf,st,ln,ce,to⟩,?_,rfl,rfl⟩;show (M.strip b).act 0=_;rw [a,ww,q0z]
def MAt.putFault {c:MCs} {B:Hp} {A:Ma} {M:Mc} {R:Jm} {H:Hp} (m:MAt c B A M R H) (f:Jl):MAt c B A { M with fq:=f } R (upd H A.aF (.dK f)) :=
 ⟨⟨m.bb.lens,m.bb.starts,m.bb.bx,m.bb.msk,m.bb.ml,m.bb.dl,m.bb.pl,m.bb.tl,m.bb.tt,m.bb.ul,m.bb.uu,m.bb.rf⟩,m.h.put (o':=.dK f) 7 rfl⟩
def Mc.sad (M:Mc) (slot lane:Int):Int:=M.cells.length+slot*4*M.lq+lane
def Mc.slotN (M:Mc) (a:Int):Int:=match zQ M.slots (.inl a) with
 | some (.int n)=>n
 | _=>0
def SlotsOk (M:Mc):Prop:=∀ k v,zQ M.slots k=some v->∃ n,v=.int n
def Mc.wroteSlot (M:Mc) (slot lane n:Int):Mc:={ M.touched "write" (M.sad slot lane) with slots:=yh M.slots (.inl (M.sad slot lane)) (.int n) }
def Mc.gaOne (M:Mc) (r:Nat) (place lane:Int):Mc×Option Int:=if 0<=place/\place<M.lens.getD r 0 then (M.touched "read" (M.adr r place),some (M.cells.getD (M.adr r place).toNat 0)) else ({ M with fq:=yh M.fq (.inl lane) (.str "outside") },none)
def Mc.gaOne_is (M:Mc) (r:Nat) (place lane:Int):(M.gaOne r place lane).1={ M with tq:=(M.gaOne r place lane).1.tq,fq:=(M.gaOne r place lane).1.fq }/\(M.gaOne r place lane).1.tq.length<=M.tq.length+1/\(M.gaOne r place lane).1.fq.length<=M.fq.length+1:=by
 unfold Mc.gaOne
 split
 ·exact ⟨rfl,by show (M.tq++[_]).length<=_;rw [Jj];exact Nat.le_refl _,Nat.le_succ _⟩
 ·exact ⟨rfl,Nat.le_succ _,xi _ _ _⟩
def Mc.gaAll (r:Nat):List (Int×Int)->Mc->Mc×List (Option Int)
 | [],M=>(M,[])
 | p::ps,M=>let x:=M.gaOne r p.1 p.2;let y:=Mc.gaAll r ps x.1;(y.1,x.2::y.2)
theorem Mc.gaAll_snoc (r:Nat) (p:Int×Int):∀ (ps:List (Int×Int)) (M:Mc),Mc.gaAll r (ps++[p]) M=(((Mc.gaAll r ps M).1.gaOne r p.1 p.2).1,(Mc.gaAll r ps M).2++[((Mc.gaAll r ps M).1.gaOne r p.1 p.2).2])
 | [],M=>rfl
 | q::ps,M=>by
  show ((Mc.gaAll r (ps++[p]) _).1,_::(Mc.gaAll r (ps++[p]) _).2)=_;rw [Mc.gaAll_snoc r p ps];rfl
theorem Mc.gaAll_is (r:Nat):∀ (ps:List (Int×Int)) (M:Mc),(Mc.gaAll r ps M).1={ M with tq:=(Mc.gaAll r ps M).1.tq,fq:=(Mc.gaAll r ps M).1.fq }/\(Mc.gaAll r ps M).1.tq.length<=M.tq.length+ps.length/\(Mc.gaAll r ps M).1.fq.length<=M.fq.length+ps.length/\(Mc.gaAll r ps M).2.length=ps.length
 | [],M=>⟨rfl,Nat.le_refl _,Nat.le_refl _,rfl⟩
 | p::ps,M=>by
  obtain ⟨a1,a2,a3⟩:=M.gaOne_is r p.1 p.2;obtain ⟨b1,b2,b3,b4⟩:=Mc.gaAll_is r ps (M.gaOne r p.1 p.2).1;refine ⟨?_,?_,?_,?_⟩
  ·show (Mc.gaAll r ps (M.gaOne r p.1 p.2).1).1={ M with tq:=(Mc.gaAll r ps (M.gaOne r p.1 p.2).1).1.tq,fq:=(Mc.gaAll r ps (M.gaOne r p.1 p.2).1).1.fq }
   rw [b1];rw [a1]
  ·show (Mc.gaAll r ps (M.gaOne r p.1 p.2).1).1.tq.length<=_
   rw [q3x];omega
  ·show (Mc.gaAll r ps (M.gaOne r p.1 p.2).1).1.fq.length<=_
   rw [q3x];omega
  ·show (_::(Mc.gaAll r ps _).2).length=_
   rw [q3x,b4];rfl
open Classical in
noncomputable def xx:FnM:=λtv M js=>match (tv[2]?:Jo),(tv[3]?:Jo) with
 | some (V.int p),some (V.int r)=>if 0<=p/\(p+1)*M.group<=8/\0<=r/\YK M r.toNat/\M.tq.length<90000/\M.fq.length<90000 then some (Mc.gaAll r.toNat (js.map λj=>(M.nq p.toNat j,j)) M) else none
 | _,_=>none
def Zd {tv:Jn} {M M':Mc} {js:Jb} {ns:List (Option Int)} (h:xx tv M js=some (M',ns)):∃ (p r:Nat),tv[2]?=some (.int p)/\tv[3]?=some (.int r)/\((p:Int)+1)*M.group<=8/\YK M r/\M.tq.length<90000/\M.fq.length<90000/\M'=(Mc.gaAll r (js.map λj=>(M.nq p j,j)) M).1/\ns=(Mc.gaAll r (js.map λj=>(M.nq p j,j)) M).2:=by
 unfold xx at h
 split at h
 ·rename_i p r e1 e2
  split at h
  ·rename_i hc
   obtain ⟨p0,p8,r0,ra,ht,hf⟩:=hc;have h:=Option.some.inj h;refine ⟨p.toNat,r.toNat,by rw [e1];congr 2;omega,by rw [e2];congr 2;omega,by rw [Int.toNat_of_nonneg p0];exact p8,ra,ht,hf,by rw [h],by rw [h]⟩
  ·cases h
 ·cases h
def zbu:FnMOk xx where
 ok:=λ{tv M js M' ns} h ok=>by
  obtain ⟨p,r,_,_,_,_,_,_,rfl,_⟩:=Zd h;rw [(Mc.gaAll_is r (js.map λj=>(M.nq p j,j)) M).1];exact ⟨ok.l1,ok.l64,ok.g,ok.nl,ok.ml,ok.mm,ok.w0,ok.w1⟩
 g:=λ{tv M js M' ns} h=>by
  obtain ⟨p,r,_,_,_,_,_,_,rfl,_⟩:=Zd h;rw [(Mc.gaAll_is r (js.map λj=>(M.nq p j,j)) M).1]
 n:=λ{tv M js M' ns} h=>by
  obtain ⟨p,r,_,_,_,_,_,_,_,rfl⟩:=Zd h;rw [(Mc.gaAll_is r (js.map λj=>(M.nq p j,j)) M).2.2.2,Ji]
inductive spGa (c:MCs) (vs:Jn) (H:Hp) (Q:VK) (_:XK):Prop
 | mk (B:Hp) (A:Ma) (M:Mc) (R:Jm) (r:Nat) (place lane:Int) (_:vs=[.ref A.b,.int r,.int place,.int lane]) (_:MAt c B A M R H) (_:YK M r) (_:M.tq.length<100000) (_:M.fq.length<100000) (_:∀ B' A' H',Same B B'->A'.b=A.b->MAt c B' A' (M.gaOne r place lane).1 R H'->Q (oV (M.gaOne r place lane).2) H')
def ok_gaOne {c:MCs} (d:zr K mg "number_gathered" yA ["bench","row","place","lane"]) (CC:MCls K c) (RC:OkM P w K mg base CX0 2 c.bn "read_cell" ["self","row","place"] (spRead c)):Ok P w K mg base CX0 3 "number_gathered" ["bench","row","place","lane"] (spGa c):=by
 obtain ⟨g,fd,m,F,b⟩:=d;refine ⟨g,fd,m,F.kp,b,F.ok ZC (by rintro vs H Q E ⟨_,_,_,_,_,_,_,e,_⟩;rw [e];rfl) λcdv A outer s H vs Q E hr h=>?_⟩;obtain ⟨B,A,M,R,r,place,lane,rfl,m,⟨ra1,ra2,ra3,ra4⟩,ht,hf,q⟩:=h;have hu:=Nat.lt_of_le_of_lt (Nat.add_le_add_left (show 1<=64 by decide) _) hr.units;have hr2:=hr;have CN:=CC.n;have SL:(200000:Nat)<sizeLine:=by decide
 refine ⟨_,(zc (zO (zam op_le Yq zd (pv 2) (zm zE (zu (pv 0) rfl) (pv 1) (λ_ _=>rfl))) (zg (zo (zY RC CC.n.c hr2 zq (pv 0) (zb (pv 1) (zb (pv 2) ze))))) zw)
   (zc (Zq hu (zu (pv 0) rfl) (pv 3) zn rfl)
   (zg (zo yR)))),?_⟩
 dsimp only [yd,Cx.nox,Cx.wish];refine ⟨_,rfl,_,_,rfl,rfl,_,rfl,?_⟩;by_cases z0:0<=place
 ·rw [decide_eq_true z0]
  refine xa ⟨_,rfl,A.b,_,_,_,.ref A.aL,rfl,m.b,CN.c,CN.lengths,rfl,_,rfl,A.aL,_,_,_,rfl,rfl,SqL.of (m.h.sm _ _ m.bb.lens),Zm r ra2 rfl,_,_,rfl,rfl,_,rfl,?_⟩;by_cases z1:place<M.lens.getD r 0
  ·rw [decide_eq_true z1]
   have e:M.gaOne r place lane=(M.touched "read" (M.adr r place),some (M.cells.getD (M.adr r place).toNat 0)):=if_pos ⟨z0,z1⟩;rw [e] at q;refine xa ⟨_,rfl,A.b,_,_,rfl,m.b,rfl,_,rfl,_,rfl,B,A,M,R,r,place,rfl,m,ht,ra1,?_,?_,λB1 A1 H1 s1 eb m1=>q B1 A1 H1 s1 eb m1⟩
   ·unfold Mc.adr;omega
   ·unfold Mc.adr;omega
  ·rw [decide_eq_false z1]
   have e:M.gaOne r place lane=({ M with fq:=yh M.fq (.inl lane) (.str "outside") },none):=if_neg λy=>z1 y.2;rw [e] at q;exact ym ⟨_,rfl,A.b,_,_,_,.ref A.aF,rfl,m.b,CN.c,CN.fq,rfl,_,rfl,A.aF,_,rfl,DPut.k (k:=.inl lane) (m.h.get 7 rfl) (by omega),q B A _ (Same.refl _) rfl (m.putFault _)⟩
 ·rw [decide_eq_false z0]
  have e:M.gaOne r place lane=({ M with fq:=yh M.fq (.inl lane) (.str "outside") },none):=if_neg λy=>z0 y.1;rw [e] at q;exact ym ⟨_,rfl,ym ⟨_,rfl,A.b,_,_,_,.ref A.aF,rfl,m.b,CN.c,CN.fq,rfl,_,rfl,A.aF,_,rfl,DPut.k (k:=.inl lane) (m.h.get 7 rfl) (by omega),q B A _ (Same.refl _) rfl (m.putFault _)⟩⟩
def ok_gather {c:MCs} (d:zr K mg "numbers_gathered" yo ["bench","step","active"]) (hzip:mg "zip"=none) (CC:MCls K c) (NI:OkM P w K mg base CX0 3 c.bn "numbers_in" ["self","seat","active"] (spNums c K)) (NG:Ok P w K mg base CX0 3 "number_gathered" ["bench","row","place","lane"] (spGa c)):Ok P w K mg base CX0 4 "numbers_gathered" ["bench","step","active"] (spFn c xx):=by
 obtain ⟨g,fd,m,F,b⟩:=d;refine ⟨g,fd,m,F.kp,b,F.ok sc_numbers_gathered (by rintro vs H Q E ⟨_,_,_,_,_,_,_,_,_,_,e,_⟩;rw [e];rfl) λcdv A outer s H vs Q E hr h=>?_⟩;obtain ⟨B,A,M,R,st,aa,tv,js,M',ns,rfl,m,es,ea,ef,ok,hj,hl,q⟩:=h;obtain ⟨p,r,e2,e3,p8,ra,ht,hf,rfl,rfl⟩:=Zd ef;have nd:=sc_numbers_gathered.nd;have hr3:=hr;have CN:=CC.n;have SL:(3000:Nat)<sizeLine:=by decide
 let pr:Int->Int×Int:=λj=>(M.nq p j,j);refine ⟨_,(zc (zt (i:=3) nd rfl (Or.inl rfl) (zY NI CC.n.c hr3 zq (pv 0) (zb (zm zB (pv 1) zd (λ_ _=>rfl)) (zb (pv 2) ze))))
   (zg (zo (yF ["place","lane","bench","step"] [none,none,some 0,some 1] rfl rfl rfl (pi_zip rfl hzip (zb (pv 3) (zb (pv 2) ze))) (λs3 H3 fp=>⟨XV (K:=K) (n:=2) rfl rfl (yE (zH (i:=0) (Jp ["place","lane","bench","step"]) rfl (Or.inl rfl)) (yE (zH (i:=1) (Jp ["place","lane","bench","step"]) rfl (Or.inl rfl)) ZT)),(zK NG hr3 (by rfl) zq (zb (pv 2) (zb (zm (ix_tupK (K:=K) rfl) (pv 3) zd (λ_ _=>rfl)) (zb (pv 0) (zb (pv 1) ze)))))⟩))))),?_⟩
 dsimp only [yd,Cx.nox,Cx.wish];refine ⟨_,rfl,A.b,_,_,rfl,m.b,rfl,_,rfl,st,_,_,_,rfl,rfl,SqT.of (m.h.sm _ _ es),zv (j:=2) e2,_,rfl,B,A,M,R,p,aa,js,rfl,m,ok,p8,ea,hj,hl,λB1 H1 l s1 m1 el=>?_⟩;have ea1:=s1 _ _ ea;refine ⟨_,rfl,_,rfl,l,aa,rfl,⟨_,SqL.of (m1.h.sm _ _ el)⟩,⟨_,SqL.of (m1.h.sm _ _ ea1)⟩,_,rfl,λD nD=>?_⟩;have m0:MAt c B1 A (Mc.gaAll r ((js.take 0).map pr) M).1 ((D,.lst ((Mc.gaAll r ((js.take 0).map pr) M).2.map oV))::R) (upd H1 D (.lst [])):=m1.newR nD;generalize upd H1 D (.lst [])=H2 at m0 ⊢;refine comp_zip (K:=K) (xs:=(js.map (M.nq p)).map V.int) (ys:=js.map V.int) (λi σ J=>∃ (u0 u1:Jo) (B2:Hp) (A2:Ma),σ=[u0,u1,rq A.b,rq st]/\Same B1 B2/\A2.b=A.b/\MAt c B2 A2 (Mc.gaAll r ((js.take i).map pr) M).1 ((D,.lst ((Mc.gaAll r ((js.take i).map pr) M).2.map oV))::R) J) ⟨none,none,B1,A,rfl,Same.refl _,rfl,m0⟩ (λi σ J _ ⟨_,_,B2,A2,_,s2,_,m2⟩=>⟨SqL.of (m2.h.sm _ _ (s2 _ _ el)),SqL.of (m2.h.sm _ _ (s2 _ _ ea1))⟩) (by rw [Ji,Ji,Ji]) ?_ ?_
 ·clear m0
  rintro i x y σ J T hx hy ⟨u0,u1,B2,A2,rfl,s2,eb,m2⟩ nT;obtain ⟨j,e9,rfl⟩:=xk hy;obtain ⟨z,e10,rfl⟩:=xk hx;rw [List.getElem?_map,e9] at e10;cases e10;have hlt:i<js.length:=(List.getElem?_eq_some_iff.mp e9).1;have m3:=m2.grow (o:=.tup [.int (M.nq p j),.int j]) nT;have s3:Same B2 (upd B2 T (.tup [.int (M.nq p j),.int j])):=zi (Same.refl _) (m2.h.free nT);have e4:upd B2 T (.tup [.int (M.nq p j),.int j]) T=some (.tup [.int (M.nq p j),.int j]):=zf;generalize upd J T (.tup [.int (M.nq p j),.int j])=J3 at m3 ⊢;generalize upd B2 T (.tup [.int (M.nq p j),.int j])=B3 at m3 s3 e4;obtain ⟨i1,i2,i3,i4⟩:=Mc.gaAll_is r ((js.take i).map pr) M;have et:(js.take (i+1)).map pr=(js.take i).map pr++[pr j]:=by rw [List.take_add_one,e9,Jk];rfl
  rw [et,Mc.gaAll_snoc];rw [Ji,List.length_take] at i2 i3 i4;have sq:SqT K J3 st tv:=SqT.of (m3.h.sm _ _ (s3 _ _ (s2 _ _ (s1 _ _ es))));have raI:YK (Mc.gaAll r ((js.take i).map pr) M).1 r:=by rw [i1];exact ra
  generalize Mc.gaAll r ((js.take i).map pr) M=X at *;obtain ⟨MX,nX⟩:=X;have i2:MX.tq.length<=M.tq.length+min i js.length:=i2;have i3:MX.fq.length<=M.fq.length+min i js.length:=i3;have i4:nX.length=min i js.length:=i4;refine ⟨T,_,rfl,SqT.of (m3.h.sm _ _ e4),rfl,_,_,rfl,_,_,rfl,rfl,?_⟩;refine ⟨_,rfl,_,rfl,st,_,_,_,rfl,rfl,sq,zv (j:=3) e3,_,rfl,_,rfl,B3,A2,MX,_,r,M.nq p j,j,by rw [eb];rfl,m3,raI,by omega,by omega,λB4 A4 H4 s4 eb4 m4=>?_⟩;refine ⟨_,m4.getR,(by rw [Ji];omega),_,_,B4,A4,rfl,(s2.trans s3).trans s4,eb4.trans eb,?_⟩;rw [Jk];exact m4.putR
 ·rintro σ J ⟨u0,u1,B2,A2,rfl,s2,eb,m2⟩
  rw [Ji,Ji,List.take_length] at m2;have nb:B2 D=none:=m2.h.nw (D,_) (List.mem_of_getElem? atR);exact q _ A2 J D ((s1.trans s2).trans (zi (Same.refl _) nb)) eb m2.settle zf
section
variable {Lx:Lex} {S LN:Jb} {L pl k:Nat} {mn_ group b:Int} {s:DT} {M:Mc}
end
def y4 (f:Jl):Jb:=f.filterMap λp=>match p.1 with
 | .inl j=>some j
 | .inr _=>none
def y8 (f:Jl):Prop:=∀ p∈f,∃ j,p.1=.inl j
def Zc:Jb->Int
 | []=>0
 | [x]=>x
 | x::xs=>min x (Zc xs)
theorem YB:∀ (xs:Jb),∀ v∈xs,Zc xs<=v
 | [],v,h=>by cases h
 | [x],v,h=>by cases List.mem_singleton.mp h;exact Int.le_refl _
 | x::y::xs,v,h=>by
  have ih:=YB (y::xs);show min x (Zc (y::xs))<=v;rcases List.mem_cons.mp h with rfl | h
  ·omega
  ·have:=ih v h;omega
theorem YX:∀ (xs:Jb),xs≠[]->Zc xs∈xs
 | [],h=>absurd rfl h
 | [x],_=>List.mem_singleton.mpr rfl
 | x::y::xs,_=>by
  have ih:=YX (y::xs) (by simp);show min x (Zc (y::xs))∈_;by_cases c:x<=Zc (y::xs)
  ·rw [Int.min_eq_left c];exact q1z
  ·rw [Int.min_eq_right (by omega)];exact q1y _ ih
def YC {xs:Jb} {m:Int} (h1:m∈xs) (h2:∀ v∈xs,m<=v):m=Zc xs:=by
 have a:=YB xs m h1;have b:=h2 _ (YX xs (λz=>by rw [z] at h1;cases h1));omega
def Mc.faulted (M:Mc):Jb:=(y4 M.fq).filter λj=>decide (j<M.wq)
def Mc.trimmed (M:Mc):Mc:=if M.faulted=[] then M else { M with cut:=some (Zc M.faulted),wq:=Zc M.faulted }
open Classical in
noncomputable def YF:EfM:=λ_ M=>if y8 M.fq/\M.fq.length<100000 then some M.trimmed else none
def keysI_at {f:Jl} (h:y8 f):∀ i p,f[i]?=some p->∃ j,p.1=.inl j/\y4 (f.take (i+1))=y4 (f.take i)++[j]:=λi p e=>by
 obtain ⟨j,hj⟩:=h p (List.mem_of_getElem? e);refine ⟨j,hj,?_⟩;unfold y4;rw [List.take_add_one,e,List.filterMap_append];congr 1;obtain ⟨k,v⟩:=p;have hj:k=.inl j:=hj;subst hj;rfl
def keysI_len (f:Jl):(y4 f).length<=f.length:=List.length_filterMap_le _ _
def ok_trim {c:MCs} (d:zr K mg "play_trim" xH ["bench","step"]) (hlen:mg "len"=none) (hmin:mg "min"=none) (CC:MCls K c):Ok P w K mg base CX0 1 "play_trim" ["bench","step"] (spEf c YF):=by
 obtain ⟨g,fd,m,F,b⟩:=d;refine ⟨g,fd,m,F.kp,b,F.ok sc_play_trim (by rintro vs H Q E ⟨_,_,_,_,_,_,_,e,_⟩;rw [e];rfl) λcdv A outer s H vs Q E hr h=>?_⟩;obtain ⟨B,A,M,R,st,tv,M',rfl,m,es,ef,ok,q⟩:=h;have nd:=sc_play_trim.nd;have CN:=CC.n;have SL:(200000:Nat)<sizeLine:=by decide
 unfold YF at ef
 split at ef
 case isFalse=>cases ef
 rename_i hc;cases ef;obtain ⟨ik,fl⟩:=hc;refine ⟨_,(zc (ps_compD (i:=2) ["lane","bench"] [none,some 0] rfl rfl rfl (zu (pv 0) rfl) (λs3 H3 fp=>⟨zH (i:=0) (Jp ["lane","bench"]) rfl (Or.inl rfl),(zD Yq (pv 0) (Zr (K:=K) rfl (pv 1) rfl) (zy _)),(pv 0)⟩) nd rfl (Or.inl rfl))
   (zg (zO (zD op_gt (zC zN (by rfl) hlen PySem.boot_len (zb (pv 2) ze)) zd (zy _)) (zc (zJ (pv 0) (zC (XD rfl) (by rfl) hmin PyProof.Rows.boot_min (zb (pv 2) ze)) rfl)
   (zg (zJ (pv 0) (zu (pv 0) rfl) rfl))) zw))),?_⟩
 dsimp only [yd,Cx.nox,Cx.wish];have eF:H A.aF=some (.dK M.fq):=m.h.get 7 rfl;have nbF:A.b≠A.aF:=λz=>by have:=m.b;rw [z,eF] at this;cases this
 have eb0:but H [A.aF] A.b=some (.ins c.bn A.db (xb A M)):=Ze m.b (λz=>nbF (List.mem_singleton.mp z));refine ⟨_,rfl,A.b,_,_,_,.ref A.aF,rfl,m.b,CN.c,CN.fq,rfl,A.aF,M.fq,rfl,eF,_,rfl,λD nD neD=>?_⟩;have nDH:H D=none:=but_free nD neD;have nbD:A.b≠D:=λz=>by have:=m.b;rw [z,nDH] at this;cases this
 let ks:Nat->Jb:=λi=>(y4 (M.fq.take i)).filter λj=>decide (j<M.wq);have kl:∀ i,(ks i).length<=M.fq.length:=λi=>Nat.le_trans (List.length_filter_le _ _) (Nat.le_trans (keysI_len _) (by rw [List.length_take];omega));refine zby (kvs:=M.fq) (λi σ J=>∃ u,σ=[u,rq A.b]/\J=upd (but H [A.aF]) D (.lst ((ks i).map V.int))) ⟨none,rfl,rfl⟩ ?_ ?_
 ·rintro i p σ J hp ⟨u,rfl,rfl⟩
  obtain ⟨j,hj,ek⟩:=keysI_at ik i p hp
  have eks:ks (i+1)=ks i++if j<M.wq then [j] else []:=by
   show List.filter _ (y4 (M.fq.take (i+1)))=List.filter _ (y4 (M.fq.take i))++_;rw [ek,List.filter_append];congr 1;by_cases z:j<M.wq
   ·rw [List.filter_cons_of_pos (by simpa using z),if_pos z];rfl
   ·rw [List.filter_cons_of_neg (by simpa using z),if_neg z];rfl
  have ekV:kV p.1=.int j:=by rw [hj];rfl
  rw [ekV];have eb1:upd (but H [A.aF]) D (.lst ((ks i).map V.int)) A.b=some (.ins c.bn A.db (xb A M)):=by rw [zk nbD];exact eb0
  refine ⟨_,rfl,_,rfl,A.b,_,_,_,.int M.wq,rfl,eb1,CN.c,CN.wq,rfl,_,_,rfl,rfl,_,rfl,?_⟩;rw [eks];refine xE (λz=>?_) (λz=>?_)
  ·have z:j<M.wq:=by simpa using z
   rw [if_pos z];refine ⟨_,rfl,_,zf,(by rw [Ji];have:=kl i;omega),_,rfl,?_⟩;rw [upd_upd,Jk];rfl
  ·have z:¬ j<M.wq:=by simpa using z
   rw [if_neg z,q3y];exact ⟨_,rfl,rfl⟩
 rintro σ J ⟨u,rfl,rfl⟩ nd';have ek:ks M.fq.length=M.faulted:=by show List.filter _ (y4 (M.fq.take _))=_;rw [List.take_length];rfl
 rw [ek]
 have eH:upd (upd (but H [A.aF]) D (.lst (M.faulted.map V.int))) A.aF (.dK M.fq)=upd H D (.lst (M.faulted.map V.int)):=by
  funext x;by_cases z:x=A.aF
  ·subst z;rw [zf,zk (Ne.symm neD)];exact eF.symm
  ·rw [zk z]
   by_cases y:x=D
   ·subst y;rw [zf,zf]
   ·rw [zk y,zk y]
    unfold but;rw [if_neg (λq=>z (List.mem_singleton.mp q))]
 rw [eH];have m1:=m.grow (o:=.lst (M.faulted.map V.int)) nDH;have s1:Same B (upd B D (.lst (M.faulted.map V.int))):=zi (Same.refl _) (m.h.free nDH);have eD:upd B D (.lst (M.faulted.map V.int)) D=_:=zf;generalize upd B D (.lst (M.faulted.map V.int))=B1 at m1 s1 eD;generalize upd H D (.lst (M.faulted.map V.int))=H1 at m1 ⊢;have qD:SqL K H1 D (M.faulted.map V.int):=SqL.of (m1.h.sm _ _ eD);refine ⟨_,rfl,D,_,rfl,.inl qD,_,_,rfl,rfl,_,rfl,?_⟩;rw [Ji];unfold Mc.trimmed at q;refine xE (λz=>?_) (λz=>?_)
 ·have z:(0:Int)<(M.faulted.length:Int):=by simpa using z
  have ne:M.faulted≠[]:=λy=>by rw [y] at z;exact absurd z (by decide)
  rw [if_neg ne] at q;refine ⟨_,rfl,D,M.faulted,rfl,qD,by omega,λmn h1 h2=>?_⟩;cases YC h1 h2;refine ⟨_,rfl,A.b,_,_,_,rfl,m1.b,CN.c,CN.cut,(by show 23<1000;decide),?_⟩;have m2:=m1.s_cut (some (Zc M.faulted));refine ⟨_,rfl,A.b,_,_,_,.int (Zc M.faulted),rfl,m2.b,CN.c,CN.cut,rfl,_,rfl,A.b,_,_,_,rfl,m2.b,CN.c,CN.wq,(by show 23<1000;decide),?_⟩;exact q B1 A _ s1 rfl (m2.s_width (Zc M.faulted))
 ·have z:¬ (0:Int)<(M.faulted.length:Int):=by simpa using z
  have ne:M.faulted=[]:=List.length_eq_zero_iff.mp (by omega);rw [if_pos ne] at q;exact q B1 A _ s1 rfl m1
section
variable {Lx:Lex} {S LN:Jb} {L pl k:Nat} {mn_ group b:Int} {s:DT} {M:Mc}
end
def Plain (tv:Jn):Prop:=∃ ds,(∀ K H,DVs K H tv ds)/\PyData.canLayAll0 ds=true/\PyData.depthAll ds<=1
theorem YN {K:Fg} {H:Hp}:∀ {cs:Jg} {code:List (Jn)},CodeAt H cs code->(∀ tv∈code,Plain tv)->∃ dsc,DVs K H (cs.map V.ref) dsc/\PyData.canLayAll0 dsc=true/\PyData.depthAll dsc<=2
 | [],_,_,_=>⟨[],.nil,rfl,X7⟩
 | a::cs,[],h,_=>by have:=h.n;cases this
 | a::cs,tv::code,h,hp=>by
  obtain ⟨ds,d1,d2,d3⟩:=hp tv q1z;obtain ⟨dsc,e1,e2,e3⟩:=YN (K:=K) (H:=H) (cs:=cs) (code:=code) ⟨by have:=h.n;simpa using this,λi b t x y=>h.t (i+1) b t (by simpa using x) (by simpa using y)⟩ λt ht=>hp t (q1y _ ht);refine ⟨.tuple ds::dsc,.cons (.tup (SqT.of (h.t 0 a tv rfl rfl)) (d1 K H)) e1,?_,xj (dep_tup d3) e3⟩;show (PyData.canLayAll0 ds && PyData.canLayAll0 dsc)=true;rw [d2,e2];rfl
def lay_str {z:Str} {xs:List PyData} (h:PyData.canLay0 (.str z)=true) (h2:PyData.canLayAll0 xs=true):PyData.canLayAll0 (.str z::xs)=true:=by
 show (PyData.canLay0 (.str z) && PyData.canLayAll0 xs)=true;rw [h,h2];rfl
def dep_int {n:Int}:(PyData.int n).depth<=1:=by simp [PyData.depth]
def dep_str {z:Str}:(PyData.str z).depth<=1:=by simp [PyData.depth]
inductive spLRan (c:MCs) (K:Fg) (Lx:Lex) (vs:Jn) (H:Hp) (Q:VK) (_:XK):Prop
 | mk (a l1 l2 l3 l4:Ad) (cs:Jg) (code:List (Jn)) (lens cells dust picks:Jb) (L n:Nat) (Mf:Mc) (_:vs=[.ref a,.ref l1,.ref l2,.int L,.ref l3,.ref l4]) (_:SqL K H a (cs.map V.ref)) (_:CodeAt H cs code) (_:(∀ tv∈code,Plain tv)) (_:SqL K H l1 (lens.map V.int)) (_:SqL K H l2 (cells.map V.int)) (_:SqL K H l3 (dust.map V.int)) (_:SqL K H l4 (picks.map V.int)) (_:1<=L) (_:L<=64) (_:lens.length<=1000) (_:code.length<=1000) (_:Run Lx code n (Mc.fresh lens cells L dust picks) Mf) (_:∀ B' A' H' t,Same H B'->MAt c B' A' Mf [] H'->B' t=some (.tup [.ref A'.aC,A'.rf,.ref A'.aT])->Q (.ref t) H')
def ok_lran {c:MCs} {Lx:Lex} (d:zr K mg "_law_ran" Yz ["_law_code","_law_lengths","_law_cells","_law_lanes_here","_law_dust_here","_law_picks"]) (hlist:mg "list"=none) (RN:Ok P w K mg base CX0 10 "ran" ["code","lengths","cells","lanes","dust","picks"] (spRan c K Lx)) :
  Ok P w K mg base CX0 11 "_law_ran" ["_law_code","_law_lengths","_law_cells","_law_lanes_here","_law_dust_here","_law_picks"] (spLRan c K Lx):=by
 obtain ⟨g,fd,m,F,b⟩:=d;refine ⟨g,fd,m,F.kp,b,F.ok sc_l_ran (by rintro vs H Q E ⟨_,_,_,_,_,_,_,_,_,_,_,_,_,_,e,_⟩;rw [e];rfl) λcdv A outer s H vs Q E hr h=>?_⟩;obtain ⟨a,l1,l2,l3,l4,cs,code,lens,cells,dust,picks,L,n,Mf,rfl,qa,CA,hpl,q1,q2,q3,q4,L1,L64,hl,hcl,run,q⟩:=h;have nd:=sc_l_ran.nd;have hr7:=hr;have hu:=hr.units;have SL:(200000:Nat)<sizeLine:=by decide
 refine ⟨_,(zc (zt (i:=6) nd rfl (Or.inl rfl) (yu (zb (yl ya (by rfl) hlist PyProof.Rows.boot_list (zb (pv 0) ze)) (zb (yl ya (by rfl) hlist PyProof.Rows.boot_list (zb (pv 1) ze)) (zb (yl ya (by rfl) hlist PyProof.Rows.boot_list (zb (pv 2) ze)) (zb (yl ya (by rfl) hlist PyProof.Rows.boot_list (zb (pv 4) ze)) (zb (yl ya (by rfl) hlist PyProof.Rows.boot_list (zb (pv 5) ze)) ze)))))))
   (zc (zt (i:=7) nd rfl (Or.inl rfl) (zK RN hr7 (by rfl) zq (zb (zm zE (pv 6) zd (λ_ _=>rfl)) (zb (zm zE (pv 6) zd (λ_ _=>rfl)) (zb (zm zE (pv 6) zd (λ_ _=>rfl)) (zb (pv 3) (zb (zm zE (pv 6) zd (λ_ _=>rfl)) (zb (zm zE (pv 6) zd (λ_ _=>rfl)) ze))))))))
   (zc (zO (zD (op_neD hu) (pv 6) (yu (zb (pv 0) (zb (pv 1) (zb (pv 2) (zb (pv 4) (zb (pv 5) ze)))))) (zy _)) (zg (zo yR)) zw)
   (zg (zo (pv 7)))))),?_⟩
 dsimp only [yd,Cx.nox,Cx.wish];refine ⟨_,rfl,a,_,rfl,.inl qa,λx1 n11=>?_⟩;have s11:Same H (upd H x1 (.lst (cs.map V.ref))):=zi (Same.refl _) n11;have e11:upd H x1 (.lst (cs.map V.ref)) x1=some (.lst (cs.map V.ref)):=zf;generalize upd H x1 (.lst (cs.map V.ref))=G1 at s11 e11 ⊢;refine ⟨_,rfl,l1,_,rfl,.inl (zG q1 s11),λx2 n12=>?_⟩;have s12:Same G1 (upd G1 x2 (.lst (lens.map V.int))):=zi (Same.refl _) n12;have e12:upd G1 x2 (.lst (lens.map V.int)) x2=some (.lst (lens.map V.int)):=zf;generalize upd G1 x2 (.lst (lens.map V.int))=G2 at s12 e12 ⊢;have t2:Same H G2:=s11.trans s12;refine ⟨_,rfl,l2,_,rfl,.inl (zG q2 t2),λx3 n13=>?_⟩;have s13:Same G2 (upd G2 x3 (.lst (cells.map V.int))):=zi (Same.refl _) n13;have e13:upd G2 x3 (.lst (cells.map V.int)) x3=some (.lst (cells.map V.int)):=zf;generalize upd G2 x3 (.lst (cells.map V.int))=G3 at s13 e13 ⊢;have t3:Same H G3:=t2.trans s13;refine ⟨_,rfl,l3,_,rfl,.inl (zG q3 t3),λx4 n14=>?_⟩;have s14:Same G3 (upd G3 x4 (.lst (dust.map V.int))):=zi (Same.refl _) n14;have e14:upd G3 x4 (.lst (dust.map V.int)) x4=some (.lst (dust.map V.int)):=zf;generalize upd G3 x4 (.lst (dust.map V.int))=G4 at s14 e14 ⊢;have t4:Same H G4:=t3.trans s14;refine ⟨_,rfl,l4,_,rfl,.inl (zG q4 t4),λx5 n15=>?_⟩;have s15:Same G4 (upd G4 x5 (.lst (picks.map V.int))):=zi (Same.refl _) n15;have e15:upd G4 x5 (.lst (picks.map V.int)) x5=some (.lst (picks.map V.int)):=zf;generalize upd G4 x5 (.lst (picks.map V.int))=G5 at s15 e15 ⊢;have t5:Same H G5:=t4.trans s15;refine ⟨(by show 5<=sizeLine;omega),λhh n16=>?_⟩;have s16:Same G5 (upd G5 hh (.lst [.ref x1,.ref x2,.ref x3,.ref x4,.ref x5])):=zi (Same.refl _) n16;have e16:upd G5 hh (.lst [.ref x1,.ref x2,.ref x3,.ref x4,.ref x5]) hh=some (.lst [.ref x1,.ref x2,.ref x3,.ref x4,.ref x5]):=zf;generalize upd G5 hh (.lst [.ref x1,.ref x2,.ref x3,.ref x4,.ref x5])=G6 at s16 e16 ⊢;have t6:Same H G6:=t5.trans s16;have qh:SqL K G6 hh [.ref x1,.ref x2,.ref x3,.ref x4,.ref x5]:=SqL.of e16;have z5:=s16;have z4:=s15.trans z5;have z3:=s14.trans z4;have z2:=s13.trans z3;have z1:=s12.trans z2;have CG:CodeAt G6 cs code:=⟨CA.n,λi b tv x y=>t6 _ _ (CA.t i b tv x y)⟩;refine ⟨_,rfl,hh,_,_,.ref x1,rfl,rfl,qh,rfl,_,rfl,hh,_,_,.ref x2,rfl,rfl,qh,rfl,_,rfl,hh,_,_,.ref x3,rfl,rfl,qh,rfl,_,rfl,_,rfl,hh,_,_,.ref x4,rfl,rfl,qh,rfl,_,rfl,hh,_,_,.ref x5,rfl,rfl,qh,rfl,?_⟩;refine ⟨x1,x2,x3,x4,x5,cs,code,lens,cells,dust,picks,L,n,Mf,rfl,SqL.of (z1 _ _ e11),CG,SqL.of (z2 _ _ e12),SqL.of (z3 _ _ e13),SqL.of (z4 _ _ e14),SqL.of (z5 _ _ e15),L1,L64,hl,hcl,run,λB9 A9 H9 t s9 m9 et=>?_⟩;refine ⟨_,rfl,_,rfl,_,rfl,_,rfl,_,rfl,_,rfl,(by show 5<=sizeLine;omega),λll n17=>?_⟩;have m10:=m9.grow (o:=.lst [.ref a,.ref l1,.ref l2,.ref l3,.ref l4]) n17;have s10:Same B9 (upd B9 ll (.lst [.ref a,.ref l1,.ref l2,.ref l3,.ref l4])):=zi (Same.refl _) (m9.h.free n17);have e17:upd H9 ll (.lst [.ref a,.ref l1,.ref l2,.ref l3,.ref l4]) ll=some (.lst [.ref a,.ref l1,.ref l2,.ref l3,.ref l4]):=zf;generalize upd B9 ll (.lst [.ref a,.ref l1,.ref l2,.ref l3,.ref l4])=B10 at m10 s10;generalize upd H9 ll (.lst [.ref a,.ref l1,.ref l2,.ref l3,.ref l4])=H10 at m10 e17 ⊢;have y6:Same G6 H10:=(s9.trans s10).trans m10.h.sm;have y0:Same H H10:=t6.trans y6;obtain ⟨dsc,c1,c2,c3⟩:=YN (K:=K) (H:=H10) (cs:=cs) (code:=code) ⟨CG.n,λi b tv x y=>y6 _ _ (CG.t i b tv x y)⟩ hpl
 have lay:(PyData.list [.list dsc,dI lens,dI cells,dI dust,dI picks]).canLay0=true:=by
  show (PyData.canLayAll0 dsc && (PyData.canLay0 (dI lens) && (PyData.canLay0 (dI cells) && (PyData.canLay0 (dI dust) && (PyData.canLay0 (dI picks) && true)))))=true;rw [c2,ZY,ZY,ZY,ZY];rfl
 refine ⟨.list [.list dsc,dI lens,dI cells,dI dust,dI picks],.list [.list dsc,dI lens,dI cells,dI dust,dI picks],?_,?_,lay,lay,?_,?_⟩
 ·exact .lst (SqL.of (y6 _ _ e16)) (.cons (.lst (SqL.of (y6 _ _ (z1 _ _ e11))) c1) (.cons (xP (SqL.of (y6 _ _ (z2 _ _ e12)))) (.cons (xP (SqL.of (y6 _ _ (z3 _ _ e13)))) (.cons (xP (SqL.of (y6 _ _ (z4 _ _ e14)))) (.cons (xP (SqL.of (y6 _ _ (z5 _ _ e15)))) .nil)))))
 ·exact .lst (SqL.of e17) (.cons (.lst (zG qa y0) c1) (.cons (xP (zG q1 y0)) (.cons (xP (zG q2 y0)) (.cons (xP (zG q3 y0)) (.cons (xP (zG q4 y0)) .nil)))))
 ·exact Nat.le_trans (Y7 (n:=3) (xj (Y7 c3) (xj (Nat.le_trans Z1 (by decide)) (xj (Nat.le_trans Z1 (by decide)) (xj (Nat.le_trans Z1 (by decide)) (xj (Nat.le_trans Z1 (by decide)) X7)))))) (by decide)
 ·refine ⟨_,rfl,?_⟩
  rw [SeqAt.eqv_refl _ lay];refine ym ⟨_,rfl,?_⟩;exact q B10 A9 H10 t ((t6.trans s9).trans s10) m10 (s10 _ _ et)
structure TAt (B:Hp) (ts:Jg) (T:List Tch):Prop where
 n:ts.length=T.length
 t:∀ (i:Nat) a p,ts[i]?=some a->T[i]?=some p->B a=some (.tup [.int p.1,.str p.2.1,.int p.2.2])
def size_iff {mn_ side:Int} (h1:1<=mn_) (h2:1<=side):∃ N:Nat,Builtin.Range.rangeSize 0 mn_ side=N/\∀ i:Nat,i<N↔(i:Int)*side<mn_:=by
 have e:Builtin.Range.rangeSize 0 mn_ side=(mn_-0-1) / side+1:=by
  unfold Builtin.Range.rangeSize;rw [if_pos (show side > 0 by omega),if_pos (by omega)]
 have nn:0<=(mn_-0-1) / side:=Int.ediv_nonneg (by omega) (by omega);refine ⟨((mn_-0-1) / side+1).toNat,by rw [e];omega,λi=>?_⟩;have k:=Int.le_ediv_iff_mul_le (a:=(i:Int)) (b:=mn_-0-1) (show 0<side by omega);constructor
 ·intro z
  have:=k.mp (by omega);omega
 ·intro z
  have:=k.mpr (by omega);omega
def starts_at {ns:Jb} {r:Nat} (h:r<ns.length):(xS ns).getD r 0=(ns.take r).sum:=by
 unfold xS;rw [q1x,List.getElem?_map,List.getElem?_range h];rfl
theorem zX {z:Str} {ns:Jb} (h:PyData.canLay0 (.str z)=true):Plain (.str z::ns.map V.int):=by
 refine ⟨.str z::ns.map PyData.int,λK H=>.cons (.str _) ?_,lay_str h Zl,xj dep_str ?_⟩
 ·induction ns with
  | nil=>exact .nil
  | cons n ns ih=>exact .cons (.int _) ih
 ·induction ns with
  | nil=>exact X7
  | cons n ns ih=>exact xj dep_int ih
def Z4 {B:Hp} {cs os:Jg} {code one:List (Jn)} (h:CodeAt B cs code) (h2:CodeAt B os one):CodeAt B (cs++os) (code++one):=by
 refine ⟨by rw [Jj,Jj,h.n,h2.n],λt b tv hx hy=>?_⟩;by_cases z:t<cs.length
 ·rw [q4x z] at hx
  rw [q4x (by rw [← h.n];exact z)] at hy;exact h.t t b tv hx hy
 ·rw [List.getElem?_append_right (by omega)] at hx
  rw [List.getElem?_append_right (by rw [← h.n];omega),← h.n] at hy;exact h2.t _ b tv hx hy
theorem zag (g:Int->V) {j:Int}:∀ (js:Jb) (kvs:Jl),(j∈js∨zQ kvs (.inl j)=some (g j))->zQ (putAll kvs (js.map λj=>((.inl j:Key),g j))) (.inl j)=some (g j)
 | [],kvs,h=>by
  rcases h with h | h
  ·cases h
  ·exact h
 | i::js,kvs,h=>by
  show zQ (putAll (yh kvs (.inl i) (g i)) _) _=_;refine zag g js _ ?_;by_cases e:j=i
  ·right;rw [xA,e,if_pos rfl]
  ·rcases h with h | h
   ·rcases List.mem_cons.mp h with h | h
    ·exact absurd h e
    ·exact .inl h
   ·right
    rw [xA,if_neg (λz=>e (Sum.inl.inj z))];exact h
def told_memO (g:Int->Option Int) {js:Jb} {j:Int} (h:j∈js):zQ (yn js (js.map g)) (.inl j)=some (oV (g j)):=by
 have e:(js.map Sum.inl).zip ((js.map g).map oV)=js.map λj=>((.inl j:Key),oV (g j)):=by
  rw [List.map_map,List.zip_map'];rfl
 unfold yn;rw [e];exact zag (λj=>oV (g j)) js [] (.inl h)
structure Kp (M N:Mc):Prop where
 w:N.wq=M.wq
 cut:N.cut=M.cut
 masks:N.masks=M.masks
 slots:N.slots=M.slots
 cq:N.cq=M.cq
 raised:N.raised=M.raised
 turns:N.turns=M.turns
 pq:N.pq=M.pq
 picks:N.picks=M.picks
def Kp.trans {M N O:Mc} (a:Kp M N) (b:Kp N O):Kp M O:=⟨b.w.trans a.w,b.cut.trans a.cut,b.masks.trans a.masks,b.slots.trans a.slots,b.cq.trans a.cq,b.raised.trans a.raised,b.turns.trans a.turns,b.pq.trans a.pq,b.picks.trans a.picks⟩
section
variable {Lx:Lex} {S LN:Jb} {L pl k:Nat} {mn_ group b:Int} {s:DT} {M:Mc}
end
theorem Zs (f:Jl) (j:Int):j∈y4 f↔(zQ f (.inl j)).isSome=true:=by
 induction f with
 | nil=>exact ⟨(λh=>by cases h),(λh=>by cases h)⟩
 | cons p f ih =>
  obtain ⟨k,v⟩:=p;by_cases e:k=.inl j
  ·rw [yw (p:=(k,v)) e]
   subst e;exact ⟨λ_=>rfl,λ_=>q1z⟩
  ·rw [yx (p:=(k,v)) e,← ih]
   cases k with
   | inl i =>
    show j∈i::y4 f↔_;refine ⟨λh=>?_,λh=>q1y _ h⟩;rcases List.mem_cons.mp h with h | h
    ·exact absurd (by rw [h]) e
    ·exact h
   | inr _=>exact Iff.rfl
def za1 {f:Jl} (h:y8 f) (j:Int) (v:V):y8 (yh f (.inl j) v):=by
 unfold yh
 split
 ·intro p hp
  obtain ⟨q,hq,rfl⟩:=List.mem_map.mp hp;obtain ⟨i,hi⟩:=h q hq;refine ⟨i,?_⟩
  split
  ·exact hi
  ·exact hi
 ·intro p hp
  rcases List.mem_append.mp hp with hp | hp
  ·exact h p hp
  ·cases List.mem_singleton.mp hp;exact ⟨j,rfl⟩
def Mc.picked (M:Mc) (p p' k:Nat) (j:Int):Int:=if (M.masks.getD k []).getD j.toNat false=true then M.nq p j else M.nq p' j
def YO:FnM:=λtv M js=>match (tv[2]?:Jo),(tv[3]?:Jo),(tv[4]?:Jo) with
 | some (V.int p),some (V.int p'),some (V.int k)=>if 0<=p/\(p+1)*M.group<=8/\0<=p'/\(p'+1)*M.group<=8/\0<=k/\k<16 then some (M,js.map λj=>some (M.picked p.toNat p'.toNat k.toNat j)) else none
 | _,_,_=>none
def ZQ {tv:Jn} {M M':Mc} {js:Jb} {ns:List (Option Int)} (h:YO tv M js=some (M',ns)):∃ p p' k:Nat,tv[2]?=some (.int p)/\tv[3]?=some (.int p')/\tv[4]?=some (.int k)/\((p:Int)+1)*M.group<=8/\((p':Int)+1)*M.group<=8/\k<16/\M'=M/\ns=js.map λj=>some (M.picked p p' k j):=by
 unfold YO at h
 split at h
 ·rename_i p p' k e1 e2 e3
  split at h
  ·rename_i hc
   obtain ⟨p0,p8,q0,q8,k0,k1⟩:=hc;cases h;refine ⟨p.toNat,p'.toNat,k.toNat,?_,?_,?_,?_,?_,by omega,rfl,rfl⟩
   ·rw [e1];congr 2;omega
   ·rw [e2];congr 2;omega
   ·rw [e3];congr 2;omega
   ·rw [Int.toNat_of_nonneg p0];exact p8
   ·rw [Int.toNat_of_nonneg q0];exact q8
  ·cases h
 ·cases h
def pickM_ok:FnMOk YO where
 ok:=λh ok=>by obtain ⟨_,_,_,_,_,_,_,_,_,rfl,_⟩:=ZQ h;exact ok
 g:=λh=>by obtain ⟨_,_,_,_,_,_,_,_,_,rfl,_⟩:=ZQ h;rfl
 n:=λh=>by obtain ⟨_,_,_,_,_,_,_,_,_,_,rfl⟩:=ZQ h;rw [Ji]
def ok_picked {c:MCs} (d:zr K mg "numbers_picked" yL ["bench","step","active"]) (hzip:mg "zip"=none) (CC:MCls K c) (NI:OkM P w K mg base CX0 3 c.bn "numbers_in" ["self","seat","active"] (spNums c K)):Ok P w K mg base CX0 4 "numbers_picked" ["bench","step","active"] (spFn c YO):=by
 obtain ⟨g,fd,m,F,b⟩:=d;refine ⟨g,fd,m,F.kp,b,F.ok sc_numbers_picked (by rintro vs H Q E ⟨_,_,_,_,_,_,_,_,_,_,e,_⟩;rw [e];rfl) λcdv A outer s H vs Q E hr h=>?_⟩;obtain ⟨B,A,M,R,st,aa,tv,js,M',ns,rfl,m,es,ea,ef,ok,hj,hl,q⟩:=h;obtain ⟨p,p',k,e2,e3,e4,p8,p8',k16,hM,rfl⟩:=ZQ ef;rw [hM] at q;clear hM ef;have nd:=sc_numbers_picked.nd;have hr3:=hr;have CN:=CC.n;have ml:=ok.ml;have l1:=ok.l1;have SL:(3000:Nat)<sizeLine:=by decide
 refine ⟨_,(zc (zt (i:=3) nd rfl (Or.inl rfl) (zY NI CC.n.c hr3 zq (pv 0) (zb (zm zB (pv 1) zd (λ_ _=>rfl)) (zb (pv 2) ze))))
   (zc (zt (i:=4) nd rfl (Or.inl rfl) (zY NI CC.n.c hr3 zq (pv 0) (zb (zm zB (pv 1) zd (λ_ _=>rfl)) (zb (pv 2) ze))))
   (zc (zt (i:=5) nd rfl (Or.inr rfl) (zm zE (zu (pv 0) rfl) (zm zB (pv 1) zd (λ_ _=>rfl)) (λ_ _=>rfl)))
   (zg (zo (yF ["left","right","lane","truths"] [none,none,none,some 5] rfl rfl rfl (pi_zip3 rfl hzip (zb (pv 3) (zb (pv 4) (zb (pv 2) ze)))) (λs3 H3 fp=>⟨XV (K:=K) (n:=3) rfl rfl (yE (zH (i:=0) (Jp ["left","right","lane","truths"]) rfl (Or.inl rfl)) (yE (zH (i:=1) (Jp ["left","right","lane","truths"]) rfl (Or.inl rfl)) (yE (zH (i:=2) (Jp ["left","right","lane","truths"]) rfl (Or.inl rfl)) ZT))),(pe_ifExp (yW (zm (za0 (K:=K) rfl) (pv 3) (pv 2) (λ_ _=>rfl))) (pv 0) (pv 1))⟩))))))),?_⟩
 refine ⟨_,rfl,A.b,_,_,rfl,m.b,rfl,_,rfl,st,_,_,_,rfl,rfl,SqT.of (m.h.sm _ _ es),zv (j:=2) e2,_,rfl,B,A,M,R,p,aa,js,rfl,m,ok,p8,ea,hj,hl,λB1 H1 x1 s1 m1 ex1=>?_⟩;refine ⟨_,rfl,A.b,_,_,rfl,m1.b,rfl,_,rfl,st,_,_,_,rfl,rfl,SqT.of (m1.h.sm _ _ (s1 _ _ es)),zv (j:=3) e3,_,rfl,B1,A,M,R,p',aa,js,rfl,m1,ok,p8',s1 _ _ ea,hj,hl,λB2 H2 x2 s2 m2 ex2=>?_⟩;obtain ⟨mk,emk,hmk⟩:=m2.mask (k:=k) (by omega);have s12:=s1.trans s2;refine ⟨_,rfl,A.b,_,_,_,.ref A.aM,rfl,m2.b,CN.c,CN.masks,rfl,_,rfl,st,_,_,_,rfl,rfl,SqT.of (m2.h.sm _ _ (s12 _ _ es)),zv (j:=4) e4,A.aM,_,_,.ref mk,rfl,rfl,SqL.of (m2.h.sm _ _ m2.bb.msk),zv (j:=k) (by rw [List.getElem?_map,emk];rfl),?_⟩;refine ⟨_,rfl,_,rfl,_,rfl,x1,x2,aa,rfl,⟨_,SqL.of (m2.h.sm _ _ (s2 _ _ ex1))⟩,⟨_,SqL.of (m2.h.sm _ _ ex2)⟩,⟨_,SqL.of (m2.h.sm _ _ (s12 _ _ ea))⟩,_,rfl,λD nD=>?_⟩;let f:Int->Int:=λj=>M.picked p p' k j;have h0:Hd H2 [(D,.lst (((js.take 0).map f).map V.int))] (upd H2 D (.lst [])):=Hd.base.new nD;generalize upd H2 D (.lst [])=H3 at h0 ⊢
 have mkl:(M.masks.getD k []).length=4*M.lq:=by
  have kl:k<M.masks.length:=by omega
  rw [q1x,List.getElem?_eq_getElem kl];exact ok.mm _ (List.getElem_mem kl)
 have gl:M.group*M.lq<=4*M.lq:=by rcases ok.g with e | e | e <;> rw [e] <;> omega
 refine comp_zip3 (K:=K) (xs:=(js.map (M.nq p)).map V.int) (ys:=(js.map (M.nq p')).map V.int) (zs:=js.map V.int) (λi σ J=>∃ u0 u1 u2,σ=[u0,u1,u2,rq mk]/\Hd H2 [(D,.lst (((js.take i).map f).map V.int))] J) ⟨none,none,none,rfl,h0⟩ (λi σ J _ ⟨_,_,_,_,h⟩=>⟨SqL.of (h.sm _ _ (m2.h.sm _ _ (s2 _ _ ex1))),SqL.of (h.sm _ _ (m2.h.sm _ _ ex2)),SqL.of (h.sm _ _ (m2.h.sm _ _ (s12 _ _ ea)))⟩) (by rw [Ji,Ji,Ji,Ji]) (by rw [Ji,Ji,Ji]) ?_ ?_
 ·clear h0
  rintro i x y z σ J T hx hy hz ⟨u0,u1,u2,rfl,h⟩ nT;obtain ⟨j,e9,rfl⟩:=xk hz;have hlt:i<js.length:=(List.getElem?_eq_some_iff.mp e9).1;obtain ⟨a1,e10,rfl⟩:=xk hx;obtain ⟨a2,e11,rfl⟩:=xk hy;rw [List.getElem?_map,e9] at e10 e11;cases e10;cases e11;have hjj:=hj j (List.mem_of_getElem? e9);have h:=h.waste (o:=.tup [.int (M.nq p j),.int (M.nq p' j),.int j]) nT;refine ⟨T,_,rfl,SqT.of zf,rfl,_,_,rfl,_,_,rfl,_,_,rfl,rfl,?_⟩;generalize upd J T (.tup [.int (M.nq p j),.int (M.nq p' j),.int j])=J1 at h ⊢;have et:(js.take (i+1)).map f=(js.take i).map f++[f j]:=by rw [List.take_add_one,e9,Jk];rfl
  rw [et];refine ⟨_,rfl,_,rfl,mk,_,_,_,rfl,rfl,SqL.of (h.sm _ _ hmk),at_bl j.toNat (by omega) (by omega),_,rfl,?_⟩;refine xE (λz=>?_) (λz=>?_)
  ·have ef:f j=M.nq p j:=if_pos z
   rw [ef];refine ⟨_,rfl,_,h.get 0 rfl,(by rw [Ji,Ji,List.length_take];omega),_,_,_,rfl,?_⟩;rw [Jk];exact h.put 0 rfl
  ·have ef:f j=M.nq p' j:=if_neg z
   rw [ef];refine ⟨_,rfl,_,h.get 0 rfl,(by rw [Ji,Ji,List.length_take];omega),_,_,_,rfl,?_⟩;rw [Jk];exact h.put 0 rfl
 ·rintro σ J ⟨u0,u1,u2,rfl,h⟩
  rw [Ji,Ji,List.take_length] at h;have m3:=m2.adopt h;refine q _ A J D (s12.trans (zi (Same.refl _) (m2.h.free nD))) rfl m3 ?_;rw [zf,List.map_map,List.map_map];rfl
inductive W7 where | num | here | load | copy | pick | gather | choose | other | store | trim
structure S7 where
 w:W7
 a:Nat
 b:Int
 d:Int
 e:Nat
 m:Nat
def S7.tv (s:S7):Jn:=match s.w with
 | .num=>[.str "number",.int s.a,.int s.b,.int s.m]
 | .here=>[.str "here",.int s.a,.int s.m]
 | .load=>[.str "load",.int s.a,.int s.b,.int s.m]
 | .copy=>[.str "copy",.int s.a,.int s.b,.int s.m]
 | .pick=>[.str "pick",.int s.a,.int s.b,.int s.d,.int s.e,.int s.m]
 | .gather=>[.str "gather",.int s.a,.int s.b,.int s.d,.int s.m]
 | .choose=>[.str "choose",.int s.a,.int s.b,.int s.m]
 | .other=>[.str "other",.int s.a,.int s.b,.int s.m]
 | .store=>[.str "store",.int s.a,.int s.b,.int s.m]
 | .trim=>[.str "trim"]
structure Wr where
 flat:Jb
 cells:Jb
 masks:List (List Bool)
 fq:Jb
 wq:Nat
 spent:Nat
structure Wc where
 dust:Jb
 long:Nat
 lq:Nat
 side:Nat
def Wr.truth (W:Wr) (m t:Nat):Bool:=(W.masks.getD m []).getD t false
def Wr.actv (W:Wr) (m t:Nat):Bool:=decide (t<W.wq) && (W.truth m t && !W.fq.contains (t:Int))
def Wr.nat (c:Wc) (W:Wr) (p:Int) (t:Nat):Int:=W.flat.getD (p*c.side+t).toNat 0
def Wr.lane (c:Wc) (s:S7) (base:Int) (W:Wr) (t:Nat):Option Int:=match s.w with
 | .num=>some s.b
 | .here=>some (base+t)
 | .load=>some (W.cells.getD (s.b*c.long+(base+t)).toNat 0)
 | .gather=>if 0<=W.nat c s.b t/\W.nat c s.b t<c.long then some (W.cells.getD (s.d*c.long+W.nat c s.b t).toNat 0) else none
 | .pick=>some (if W.truth s.e t=true then W.nat c s.b t else W.nat c s.d t)
 | _=>some (W.nat c s.b t)
def Wr.setM (W:Wr) (m t:Nat) (v:Bool):List (List Bool):=W.masks.set m ((W.masks.getD m []).set t v)
def Wr.lay (c:Wc) (s:S7) (base:Int) (W:Wr) (t:Nat):Wr:=match (if W.actv s.m t then W.lane c s base t else none) with
 | some n=>{ W with flat:=W.flat.set ((s.a:Int)*c.side+t).toNat n }
 | none=>{ W with flat:=W.flat.set ((s.a:Int)*c.side+t).toNat (y9 c.dust W.spent),spent:=W.spent+1,fq:=if W.actv s.m t then W.fq++[(t:Int)] else W.fq }
def Wr.msk (c:Wc) (s:S7) (nought:Bool) (W:Wr) (t:Nat):Wr:=if t<W.wq then { W with masks:=W.setM s.a t (W.actv s.m t && decide (decide (W.nat c s.b t=0)=nought)) } else { W with masks:=W.setM s.a t (decide (y9 c.dust W.spent % 2=1)),spent:=W.spent+1 }
def Wr.out (c:Wc) (s:S7) (base:Int) (W:Wr) (t:Nat):Wr:={ W with cells:=W.cells.set ((s.a:Int)*c.long+(base+t)).toNat (W.nat c s.b t) }
def Wr.step (c:Wc) (s:S7) (base:Int) (W:Wr) (t:Nat):Wr:=match s.w with
 | .choose=>W.msk c s false t
 | .other=>W.msk c s true t
 | .store=>if W.actv s.m t then W.out c s base t else W
 | .trim=>W
 | _=>W.lay c s base t
def ZV (w:Nat) (fs:Jb):Nat:=(Zc ((w:Int)::fs)).toNat
def Wr.pre (s:S7) (W:Wr):Wr:=match s.w with
 | .trim=>{ W with wq:=ZV W.wq W.fq }
 | _=>W
def Wr.play (c:Wc) (s:S7) (base:Int) (W:Wr) (n:Nat):Wr:=(List.range n).foldl (λW t=>W.step c s base t) (W.pre s)
def Wr.play_succ (c:Wc) (s:S7) (base:Int) (W:Wr) (n:Nat):W.play c s base (n+1)=(W.play c s base n).step c s base n:=by unfold Wr.play;rw [List.range_succ,List.foldl_append];rfl
structure Sim (c:Wc) (W:Wr) (M:Mc):Prop where
 nums:M.nums=W.flat
 dq:M.dq=W.spent
 dust:M.dust=c.dust
 mq:∀ k,k<16->∀ t,t<c.side->(M.masks.getD k []).getD t false=W.truth k t
 ik:y8 M.fq
 kn:∀ j∈y4 M.fq,0<=j
 flt:∀ t:Nat,(zQ M.fq (.inl (t:Int))).isSome=W.fq.contains (t:Int)
 wd:M.wq=(W.wq:Nat)
structure WOk (c:Wc) (W:Wr):Prop where
 fl:W.flat.length=8*c.lq
 ml:W.masks.length=16
 mm:∀ k,k<16->c.side<=(W.masks.getD k []).length
 fp:∀ j∈W.fq,0<=j
def Sim.act {c:Wc} {W:Wr} {M:Mc} (h:Sim c W M) {m t:Nat} (m16:m<16) (ht:t<c.side):W.actv m t=(decide (t<W.wq) && M.isAct m t):=by
 unfold Wr.actv Mc.isAct;rw [h.mq m m16 t ht,h.flt t]
theorem told_notO (g:Int->Option Int) {js:Jb} {j:Int} (h:j ∉ js):zQ (yn js (js.map g)) (.inl j)=none:=by
 have e:(js.map Sum.inl).zip ((js.map g).map oV)=js.map λj=>((.inl j:Key),oV (g j)):=by
  rw [List.map_map,List.zip_map'];rfl
 have k:∀ (js:Jb) (kvs:Jl),j ∉ js->zQ kvs (.inl j)=none->zQ (putAll kvs (js.map λj=>((.inl j:Key),oV (g j)))) (.inl j)=none:=by
  intro js
  induction js with
  | nil=>intro kvs _ h;exact h
  | cons i js ih =>
   intro kvs hn h;show zQ (putAll (yh kvs (.inl i) (oV (g i))) _) _=_;refine ih _ (λz=>hn (q1y _ z)) ?_;rw [xA,if_neg (λz=>hn (by rw [Sum.inl.inj z];exact q1z))];exact h
 unfold yn;rw [e];exact k js [] h rfl
def mem_act {M:Mc} {m t:Nat} (w0:0<=M.wq):((t:Int)∈M.act m)↔((decide (t<M.wq.toNat) && M.isAct m t)=true):=by
 unfold Mc.act Mc.actTo;rw [List.mem_map,Bool.and_eq_true,decide_eq_true_eq];constructor
 ·rintro ⟨j,hj,e⟩
  have:j=t:=by omega
  subst this;have:=List.mem_filter.mp hj;exact ⟨List.mem_range.mp this.1,this.2⟩
 ·rintro ⟨a,b⟩
  exact ⟨t,List.mem_filter.mpr ⟨List.mem_range.mpr a,b⟩,rfl⟩
theorem filt_lt (q:Nat->Bool) {n m:Nat} (h:n<=m):(List.range m).filter (λt=>decide (t<n) && q t)=(List.range n).filter q:=by
 obtain ⟨d,rfl⟩:=Nat.le.dest h;clear h
 induction d with
 | zero=>exact List.filter_congr λt ht=>by rw [decide_eq_true (show t<n from List.mem_range.mp ht)];rfl
 | succ d ih=>rw [← Nat.add_assoc,List.range_succ,List.filter_append,ih,List.filter_cons_of_neg (by rw [decide_eq_false (by omega)];exact Bool.noConfusion)];exact q3y _
structure In7 (c:Wc) (S LN:Jb) (L pl:Nat) (mn_ group b:Int) (k N:Nat) (W:Wr) (M:Mc):Prop where
 i:∃ T,InS S LN L pl mn_ group b k (W.cells,T) M
 s:Sim c W M
 o:WOk c W
 tl:M.tq.length<=N
 fn:M.fq.length<=N
 wl:W.wq<=wid mn_ (group*L) b
structure C8 (c:Wc) (L:Nat) (group:Int):Prop where
 l:c.lq=L
 s:(c.side:Int)=group*L
section
variable {c:Wc} {Lx:Lex} {S LN:Jb} {L pl k N:Nat} {mn_ group b:Int} {W:Wr} {M:Mc}
def In7.side (h:In7 c S LN L pl mn_ group b k N W M) (hc:C8 c L group):M.room=c.side/\W.wq<=c.side/\1<=c.side/\M.wq.toNat=W.wq:=by
 obtain ⟨T,i⟩:=h.i;have a:=i.ok.w1;have w:=h.s.wd;have hg:=i.group;have hl:=i.lq;have l1:=i.ok.l1;have g:=i.ok.g;rw [hg,hl] at a;have e:=hc.s;refine ⟨?_,by omega,?_,by omega⟩
 ·unfold Mc.room;rw [hg,hl];omega
 ·rw [hg] at g
  have:1<=group*(L:Int):=by rcases g with e | e | e <;> rw [e] <;> omega
  omega
def In7.acts (h:In7 c S LN L pl mn_ group b k N W M) (hc:C8 c L group) {m:Nat} (m16:m<16):M.act m=((List.range c.side).filter (W.actv m)).map λt:Nat=>(t:Int):=by
 obtain ⟨_,a,_,e⟩:=h.side hc;unfold Mc.act Mc.actTo;rw [e];congr 1;rw [← filt_lt (M.isAct m) a];exact List.filter_congr λt ht=>(h.s.act m16 (List.mem_range.mp ht)).symm
def Wr.nat_num (hc:C8 c L group) (hg:M.group=group) (hl:M.lq=L) (e:M.nums=W.flat) (p t:Nat):M.nq p (t:Int)=W.nat c p t:=by
 unfold Mc.nq Wr.nat;rw [hg,hl,e,Int.mul_assoc,← hc.s]
end
def Xn (F:Jb) (n t:Nat):(F++[(n:Int)]).contains (t:Int)=(F.contains (t:Int) || decide (t=n)):=by
 rw [List.contains_append,List.contains_cons];show (_ || (_ || false))=_;rw [Bool.or_false];congr 1;rw [Bool.eq_iff_iff,beq_iff_eq,decide_eq_true_eq];omega
section
variable {c:Wc} {Lx:Lex} {S LN:Jb} {L pl k N:Nat} {mn_ group b:Int} {W:Wr} {M:Mc}
theorem In7.seat {s:S7} {f:FnM} {word:Str} (h:In7 c S LN L pl mn_ group b k N W M) (hc:C8 c L group) (hS:Lx.S word f) (h0:s.tv[0]?=some (.str word)) (h1:s.tv[1]?=some (.int s.a)) (hl:s.tv.getLast?=some (.int s.m)) (p8:((s.a:Int)+1)*group<=8) (m16:s.m<16)
  (step:∀ (W:Wr) t,W.step c s b t=W.lay c s b t) (pre:W.pre s=W)
  (stab:∀ (fl:Jb) (n sp:Nat) (F:Jb),n<c.side->(∀ i,(∀ t:Nat,t<n->((s.a:Int)*c.side+t).toNat≠i)->fl.getD i 0=W.flat.getD i 0)->({ W with flat:=fl,spent:=sp,fq:=F }:Wr).lane c s b n=W.lane c s b n)
  (ef:∃ T' F',f s.tv M (M.act s.m)=some ({ M with tq:=T',fq:=F' },(M.act s.m).map λj=>W.lane c s b j.toNat)/\y8 F'/\(∀ j∈y4 F',0<=j)/\F'.length<=N+wid mn_ (group*L) b/\T'.length<=N+wid mn_ (group*L) b/\∀ t:Nat,(zQ F' (.inl (t:Int))).isSome=((zQ M.fq (.inl (t:Int))).isSome || ((M.act s.m).contains (t:Int) && (W.lane c s b t).isNone))) :
  ∃ M',Step Lx s.tv M M'/\In7 c S LN L pl mn_ group b (k+1) (N+wid mn_ (group*L) b) (W.play c s b c.side) M':=by
 obtain ⟨rm,wds,sd1,wd⟩:=h.side hc;have ha:=h.acts hc m16;obtain ⟨T,i⟩:=h.i;have l1:=i.ok.l1;have hG:=i.group;have hL:=i.lq;have g1:1<=group:=by rw [← hG];have:=i.ok.g;omega
 obtain ⟨T',F',ef,ik,kn,fl,tl,fF⟩:=ef;generalize hg:(λj:Int=>W.lane c s b j.toNat)=g at ef;generalize hN0:({ M with tq:=T',fq:=F' }:Mc)=N0 at ef
 have ese:seatM f s.tv M=some (N0.laidSeat (yn (M.act s.m) ((M.act s.m).map g)) s.a):=by
  unfold seatM;rw [h1,hl];show (if _ then _ else _)=_;rw [if_pos ⟨by omega,by rw [hG];exact p8,by omega,by omega⟩,q0z,q0z,ef];rfl
 have st:=Step.seat hS h0 ese i.ok;unfold Mc.laidSeat at st;have gN0:N0.group=group:=by rw [← hN0];exact hG
 have lN0:N0.lq=L:=by rw [← hN0];exact hL
 have nN0:N0.nums=W.flat:=by rw [← hN0];exact h.s.nums
 have dN0:N0.dust=c.dust:=by rw [← hN0];exact h.s.dust
 have qN0:N0.dq=W.spent:=by rw [← hN0];exact h.s.dq
 have rN0:N0.room=c.side:=by rw [← hN0];exact rm
 rw [rN0] at st;have adr:∀ t:Nat,((s.a:Int)*group*L+t)=(s.a:Int)*c.side+t:=λt=>by rw [Int.mul_assoc,hc.s]
 have mem:∀ n:Nat,n<c.side->(((n:Int)∈M.act s.m)↔(W.actv s.m n=true)):=λn hn=>by
  rw [ha,List.mem_map];constructor
  ·rintro ⟨j,hj,e⟩
   have:j=n:=by omega
   subst this;exact (List.mem_filter.mp hj).2
  ·exact λz=>⟨n,List.mem_filter.mpr ⟨List.mem_range.mpr hn,z⟩,rfl⟩
 have key:∀ n,n<=c.side->(N0.layTo (yn (M.act s.m) ((M.act s.m).map g)) s.a n).nums=(W.play c s b n).flat/\(N0.layTo (yn (M.act s.m) ((M.act s.m).map g)) s.a n).dq=(W.play c s b n).spent/\W.play c s b n={ W with flat:=(W.play c s b n).flat,spent:=(W.play c s b n).spent,fq:=(W.play c s b n).fq }/\(∀ t:Nat,(W.play c s b n).fq.contains (t:Int)=(W.fq.contains (t:Int) || (decide (t<n) && (W.actv s.m t && (W.lane c s b t).isNone))))/\∀ j∈(W.play c s b n).fq,0<=j:=by
  intro n
  induction n with
  | zero =>
   intro _;have e:W.play c s b 0=W:=pre;rw [e];exact ⟨nN0,qN0,rfl,λt=>by rw [decide_eq_false (Nat.not_lt_zero t),Bool.false_and,Bool.or_false],h.o.fp⟩
  | succ n ih =>
   intro hn;obtain ⟨i1,i2,i3,i4,i5⟩:=ih (by omega);have same:=N0.layTo_same (yn (M.act s.m) ((M.act s.m).map g)) s.a n
   have off:∀ i,(∀ t:Nat,t<n->((s.a:Int)*c.side+t).toNat≠i)->(W.play c s b n).flat.getD i 0=W.flat.getD i 0:=λi hi=>by
    rw [← i1,← nN0];exact layTo_off _ _ _ _ _ λt ht=>by rw [gN0,lN0,adr];exact hi t ht
   have la:=stab _ n (W.play c s b n).spent (W.play c s b n).fq (by omega) off;rw [← i3] at la
   have av:(W.play c s b n).actv s.m n=W.actv s.m n:=by
    unfold Wr.actv;rw [i4,decide_eq_false (Nat.lt_irrefl n),Bool.false_and,Bool.or_false];have w1:(W.play c s b n).wq=W.wq:=by rw [i3]
    have w2:(W.play c s b n).truth s.m n=W.truth s.m n:=by rw [i3];rfl
    rw [w1,w2]
   have oth:∀ t:Nat,t≠n->decide (t<n+1)=decide (t<n):=λt z=>by
    by_cases y:t<n
    ·rw [decide_eq_true y,decide_eq_true (by omega)]
    ·rw [decide_eq_false y,decide_eq_false (by omega)]
   rw [N0.layTo_succ,Wr.play_succ,step];unfold Wr.lay;rw [av,la]
   have tn1:W.actv s.m n=true->zQ (yn (M.act s.m) ((M.act s.m).map g)) (.inl (n:Int))=some (oV (W.lane c s b n)):=λz=>by
    have:=told_memO g ((mem n (by omega)).mpr z);rw [this,← hg];rfl
   have tn2:W.actv s.m n=false->zQ (yn (M.act s.m) ((M.act s.m).map g)) (.inl (n:Int))=none:=λz=>told_notO g λy=>by rw [(mem n (by omega)).mp y] at z;cases z
   generalize (N0.layTo (yn (M.act s.m) ((M.act s.m).map g)) s.a n)=X at *;generalize W.play c s b n=Y at *
   cases hx:W.actv s.m n with
   | true =>
    rw [if_pos rfl];unfold Mc.layOne;rw [tn1 hx,same.g,same.l,gN0,lN0,adr]
    cases hv:W.lane c s b n with
    | some v =>
     refine ⟨by show X.nums.set _ _=_;rw [i1],i2,by rw [i3],λt=>?_,i5⟩;show Y.fq.contains (t:Int)=_;rw [i4];by_cases z:t=n
     ·subst z;rw [hv];show (_ || (_ && (_ && false)))=(_ || (_ && (_ && false)));rw [Bool.and_false,Bool.and_false,Bool.and_false]
     ·rw [oth t z]
    | none =>
     refine ⟨by show X.nums.set _ _=_;rw [i1,same.d,dN0,i2],by show X.dq+1=_;rw [i2],by rw [i3],λt=>?_,λj hj=>?_⟩
     ·show (Y.fq++[(n:Int)]).contains (t:Int)=_
      rw [Xn,i4];by_cases z:t=n
      ·subst z
       rw [decide_eq_true rfl,hx,hv,decide_eq_true (show t<t+1 by omega),Bool.or_true];show true=(_ || true);rw [Bool.or_true]
      ·rw [oth t z,decide_eq_false z,Bool.or_false]
     ·rcases List.mem_append.mp hj with hj | hj
      ·exact i5 j hj
      ·cases List.mem_singleton.mp hj;omega
   | false =>
    rw [if_neg Bool.noConfusion];unfold Mc.layOne;rw [tn2 hx,same.g,same.l,gN0,lN0,adr];refine ⟨by show X.nums.set _ _=_;rw [i1,same.d,dN0,i2],by show X.dq+1=_;rw [i2],by rw [i3],λt=>?_,i5⟩;show Y.fq.contains (t:Int)=_;rw [i4];by_cases z:t=n
    ·subst z;rw [hx,Bool.false_and,Bool.and_false,Bool.and_false]
    ·rw [oth t z]
 obtain ⟨k1,k2,k3,k4,k5⟩:=key _ (Nat.le_refl _);have eN:=layTo_is (yn (M.act s.m) ((M.act s.m).map g)) s.a N0 c.side;have nl:=(N0.layTo_same (yn (M.act s.m) ((M.act s.m).map g)) s.a c.side).n;generalize N0.layTo (yn (M.act s.m) ((M.act s.m).map g)) s.a c.side=X at *;generalize W.play c s b c.side=Y at *
 have eM:({ X with pc:=X.pc+1 }:Mc)={ M with nums:=Y.flat,dq:=Y.spent,tq:=T',fq:=F',pc:=((pl+(k+1):Nat):Int) }:=by
  have e2:X.pc+1=((pl+(k+1):Nat):Int):=by rw [eN,← hN0];show M.pc+1=_;rw [i.pc];omega
  rw [e2,eN,← hN0,k1,k2]
 rw [eM] at st;have wY:Y.wq=W.wq:=by rw [k3]
 have mY:Y.masks=W.masks:=by rw [k3]
 have cY:Y.cells=W.cells:=by rw [k3]
 refine ⟨_,st,⟨⟨T',⟨i.ok.l1,i.ok.l64,i.ok.g,?_,i.ok.ml,i.ok.mm,i.ok.w0,i.ok.w1⟩,i.wle,i.bq,i.base,rfl,i.oq,i.mn_,hG,hL,i.rf,i.starts,i.lens,?_,rfl⟩,⟨rfl,rfl,h.s.dust,λq hq t ht=>?_,ik,kn,λt=>?_,?_⟩,⟨?_,?_,?_,k5⟩,tl,fl,by rw [wY];exact h.wl⟩⟩
 ·show Y.flat.length=_
  rw [← k1,nl,nN0,← h.s.nums];exact i.ok.nl
 ·show M.cells=Y.cells
  rw [cY];exact i.cells
 ·show (M.masks.getD q []).getD t false=_
  unfold Wr.truth;rw [mY];exact h.s.mq q hq t ht
 ·rw [fF,k4,h.s.flt]
  congr 1;by_cases ht:t<c.side
  ·rw [decide_eq_true ht,Bool.true_and]
   congr 1;rw [Bool.eq_iff_iff,List.contains_iff_mem];exact mem t ht
  ·rw [decide_eq_false ht,Bool.false_and]
   have:(M.act s.m).contains (t:Int)=false:=by
    rw [Bool.eq_false_iff];intro z;rw [List.contains_iff_mem,ha,List.mem_map] at z;obtain ⟨j,hj,e⟩:=z;have:=List.mem_range.mp (List.mem_filter.mp hj).1;omega
   rw [this,Bool.false_and]
 ·show M.wq=_
  rw [wY];exact h.s.wd
 ·rw [← k1,nl,nN0];exact h.o.fl
 ·rw [mY];exact h.o.ml
 ·rw [mY];exact h.o.mm
end
def apart {a b x t n:Int} (t0:0<=t) (tn:t<n) (nx:n<x):a*x+t≠b*x+n:=by
 intro z;rcases Int.lt_trichotomy a b with h | h | h
 ·have e:(a+1)*x<=b*x:=Int.mul_le_mul_of_nonneg_right (by omega) (by omega)
  rw [Int.add_mul] at e;omega
 ·subst h;omega
 ·have e:(b+1)*x<=a*x:=Int.mul_le_mul_of_nonneg_right (by omega) (by omega)
  rw [Int.add_mul] at e;omega
structure Rows8 (c:Wc) (S LN:Jb) (rows:Nat) (mn_:Int) (W:Wr):Prop where
 n:S.length=rows
 s:∀ r,r<rows->S.getD r 0=(r:Int)*c.long
 ln:∀ r,r<rows->LN.getD r 0=c.long
 nl:LN.length=rows
 cl:W.cells.length=rows*c.long
 m:mn_<=c.long
def Rows8.at {c:Wc} {S LN:Jb} {rows:Nat} {mn_:Int} {W:Wr} (h:Rows8 c S LN rows mn_ W) {r:Nat} {e:Int} (hr:r<rows) (e0:0<=e) (e1:e<c.long):0<=(r:Int)*c.long+e/\((r:Int)*c.long+e).toNat<W.cells.length:=by
 have a:((r:Int)+1)*c.long<=(rows:Int)*c.long:=Int.mul_le_mul_of_nonneg_right (by omega) (by omega);have p:0<=(r:Int)*c.long:=Int.mul_nonneg (by omega) (by omega);have cl:(W.cells.length:Int)=(rows:Int)*c.long:=by rw [h.cl];exact Int.natCast_mul _ _
 rw [Int.add_mul] at a;omega
theorem any_at (f:Int->Bool) {x:Int}:∀ l:Jb,(l.any ((λp:Int×Int=>decide (p.2=x) && f p.2) ∘ λj=>(j,j)))=(l.contains x && f x):=λl=>by
 induction l with
 | nil=>rfl
 | cons y l ih =>
  rw [List.any_cons,ih,List.contains_cons];show ((decide (y=x) && f y) || _)=_;by_cases e:y=x
  ·subst e
   rw [decide_eq_true rfl,beq_self_eq_true,Bool.true_and,Bool.true_or,Bool.true_and];cases f y <;> simp
  ·rw [decide_eq_false e,Bool.false_and,Bool.false_or,beq_false_of_ne (λz=>e z.symm),Bool.false_or]
theorem ga_all (r:Nat):∀ (ps:List (Int×Int)) (M:Mc),(∀ p∈ps,0<=p.2)->y8 M.fq->(∀ j∈y4 M.fq,0<=j) ->
  (Mc.gaAll r ps M).1={ M with tq:=(Mc.gaAll r ps M).1.tq,fq:=(Mc.gaAll r ps M).1.fq }/\(Mc.gaAll r ps M).1.fq.length<=M.fq.length+ps.length/\(Mc.gaAll r ps M).1.tq.length<=M.tq.length+ps.length/\y8 (Mc.gaAll r ps M).1.fq/\(∀ j∈y4 (Mc.gaAll r ps M).1.fq,0<=j) /\
  (Mc.gaAll r ps M).2=ps.map (λp=>if 0<=p.1/\p.1<M.lens.getD r 0 then some (M.cells.getD (M.adr r p.1).toNat 0) else none) /\
  ∀ j:Int,(zQ (Mc.gaAll r ps M).1.fq (.inl j)).isSome=((zQ M.fq (.inl j)).isSome || ps.any λp=>decide (p.2=j) && !decide (0<=p.1/\p.1<M.lens.getD r 0))
 | [],M,_,ik,kn=>⟨rfl,Nat.le_refl _,Nat.le_refl _,ik,kn,rfl,λj=>by show _=(_ || false);rw [Bool.or_false];rfl⟩
 | p::ps,M,hp,ik,kn=>by
  obtain ⟨o1,o2,o3⟩:=M.gaOne_is r p.1 p.2
  have fo:y8 (M.gaOne r p.1 p.2).1.fq/\∀ j:Int,(zQ (M.gaOne r p.1 p.2).1.fq (.inl j)).isSome=((zQ M.fq (.inl j)).isSome || (decide (p.2=j) && !decide (0<=p.1/\p.1<M.lens.getD r 0))):=by
   unfold Mc.gaOne;by_cases z:0<=p.1/\p.1<M.lens.getD r 0
   ·rw [if_pos z,decide_eq_true z]
    exact ⟨ik,λj=>by show _=(_ || (_ && false));rw [Bool.and_false,Bool.or_false];rfl⟩
   ·rw [if_neg z,decide_eq_false z]
    refine ⟨za1 ik _ _,λj=>?_⟩;show (zQ (yh M.fq (.inl p.2) (.str "outside")) (.inl j)).isSome=(_ || (_ && true));rw [xA,Bool.and_true];by_cases e:j=p.2
    ·subst e;rw [if_pos rfl,decide_eq_true rfl,Bool.or_true];rfl
    ·rw [if_neg (λy=>e (Sum.inl.inj y)),decide_eq_false (λy=>e y.symm),Bool.or_false]
  have vo:(M.gaOne r p.1 p.2).2=if 0<=p.1/\p.1<M.lens.getD r 0 then some (M.cells.getD (M.adr r p.1).toNat 0) else none:=by
   unfold Mc.gaOne;split <;> rfl
  have kn':∀ j∈y4 (M.gaOne r p.1 p.2).1.fq,0<=j:=λj hj=>by
   have a:=(Zs _ j).mp hj;rw [fo.2,Bool.or_eq_true,Bool.and_eq_true,decide_eq_true_eq] at a;rcases a with a | ⟨rfl,_⟩
   ·exact kn j ((Zs _ j).mpr a)
   ·exact hp p q1z
  obtain ⟨i1,i2,i3,i4,i5,i6,i7⟩:=ga_all r ps (M.gaOne r p.1 p.2).1 (λq hq=>hp q (q1y _ hq)) fo.1 kn';have e:Mc.gaAll r (p::ps) M=((Mc.gaAll r ps (M.gaOne r p.1 p.2).1).1,(M.gaOne r p.1 p.2).2::(Mc.gaAll r ps (M.gaOne r p.1 p.2).1).2):=rfl;rw [e];have q1:(M.gaOne r p.1 p.2).1.lens=M.lens/\(M.gaOne r p.1 p.2).1.cells=M.cells/\(M.gaOne r p.1 p.2).1.starts=M.starts:=by rw [o1];exact ⟨rfl,rfl,rfl⟩
  refine ⟨by show (Mc.gaAll r ps (M.gaOne r p.1 p.2).1).1=_;rw [i1,o1],by show (Mc.gaAll r ps (M.gaOne r p.1 p.2).1).1.fq.length<=_;rw [q3x];omega,by show (Mc.gaAll r ps (M.gaOne r p.1 p.2).1).1.tq.length<=_;rw [q3x];omega,i4,i5,?_,λj=>?_⟩
  ·show (M.gaOne r p.1 p.2).2::(Mc.gaAll r ps (M.gaOne r p.1 p.2).1).2=_
   rw [i6,vo,List.map_cons];unfold Mc.adr;rw [q1.1,q1.2.1,q1.2.2]
  ·show (zQ (Mc.gaAll r ps (M.gaOne r p.1 p.2).1).1.fq (.inl j)).isSome=_
   rw [i7,fo.2,q1.1,List.any_cons,Bool.or_assoc]
section
variable {c:Wc} {Lx:Lex} {S LN:Jb} {L pl k N rows:Nat} {mn_ group b:Int} {W:Wr} {M:Mc}
def In7.room (h:In7 c S LN L pl mn_ group b k N W M) (m:Nat):(M.act m).length<=wid mn_ (group*L) b:=by
 have a:=M.actTo_len m M.wq.toNat;have w:=h.s.wd;have:=h.wl;unfold Mc.act;omega
def In7.plain {s:S7} {f:FnM} (h:In7 c S LN L pl mn_ group b k N W M) {T':List Tch} (e:f s.tv M (M.act s.m)=some ({ M with tq:=T' },(M.act s.m).map λj=>W.lane c s b j.toNat)) (tl:T'.length<=N+wid mn_ (group*L) b) (nn:∀ t,(W.lane c s b t).isNone=false) :
  ∃ T' F',f s.tv M (M.act s.m)=some ({ M with tq:=T',fq:=F' },(M.act s.m).map λj=>W.lane c s b j.toNat)/\y8 F'/\(∀ j∈y4 F',0<=j)/\F'.length<=N+wid mn_ (group*L) b/\T'.length<=N+wid mn_ (group*L) b/\∀ t:Nat,(zQ F' (.inl (t:Int))).isSome=((zQ M.fq (.inl (t:Int))).isSome || ((M.act s.m).contains (t:Int) && (W.lane c s b t).isNone)) :=
 ⟨T',M.fq,e,h.s.ik,h.s.kn,Nat.le_trans h.fn (Nat.le_add_right _ _),tl,λt=>by rw [nn,Bool.and_false,Bool.or_false]⟩
def In7.num {a m e:Nat} {v d:Int} (h:In7 c S LN L pl mn_ group b k N W M) (hc:C8 c L group) (hS:Lx.S "number" numM) (p8:((a:Int)+1)*group<=8) (m16:m<16) :
  ∃ M',Step Lx (S7.tv ⟨.num,a,v,d,e,m⟩) M M'/\In7 c S LN L pl mn_ group b (k+1) (N+wid mn_ (group*L) b) (W.play c ⟨.num,a,v,d,e,m⟩ b c.side) M' :=
 h.seat (s:=⟨.num,a,v,d,e,m⟩) hc hS rfl rfl rfl p8 m16 (λ_ _=>rfl) rfl (λ_ _ _ _ _ _=>rfl) (h.plain (s:=⟨.num,a,v,d,e,m⟩) (T':=M.tq) rfl (Nat.le_trans h.tl (Nat.le_add_right _ _)) λ_=>rfl)
def In7.here {a m e:Nat} {v d:Int} (h:In7 c S LN L pl mn_ group b k N W M) (hc:C8 c L group) (hS:Lx.S "here" hereM) (p8:((a:Int)+1)*group<=8) (m16:m<16) :
  ∃ M',Step Lx (S7.tv ⟨.here,a,v,d,e,m⟩) M M'/\In7 c S LN L pl mn_ group b (k+1) (N+wid mn_ (group*L) b) (W.play c ⟨.here,a,v,d,e,m⟩ b c.side) M':=by
 refine h.seat (s:=⟨.here,a,v,d,e,m⟩) hc hS rfl rfl rfl p8 m16 (λ_ _=>rfl) rfl (λ_ _ _ _ _ _=>rfl) (h.plain (s:=⟨.here,a,v,d,e,m⟩) (T':=M.tq) ?_ (Nat.le_trans h.tl (Nat.le_add_right _ _)) λ_=>rfl);obtain ⟨T,i⟩:=h.i;show some (M,(M.act m).map λj=>some (M.base+j))=some (M,(M.act m).map λj=>some (b+(j.toNat:Nat)));congr 2;refine List.map_congr_left λj hj=>?_;have j0:=(Mc.act_mem hj).1;rw [i.base,Int.toNat_of_nonneg j0]
def Yy {c:Wc} {W:Wr} {a q n:Nat} {fl:Jb} (hn:n<c.side) (off:∀ i,(∀ t:Nat,t<n->((a:Int)*c.side+t).toNat≠i)->fl.getD i 0=W.flat.getD i 0):fl.getD ((q:Int)*c.side+n).toNat 0=W.flat.getD ((q:Int)*c.side+n).toNat 0:=by
 refine off _ λt ht z=>?_;have p1:0<=(a:Int)*c.side:=Int.mul_nonneg (by omega) (by omega);have p2:0<=(q:Int)*c.side:=Int.mul_nonneg (by omega) (by omega);exact apart (a:=a) (b:=q) (x:=c.side) (t:=t) (n:=n) (by omega) (by omega) (by omega) (by omega)
def In7.nat (h:In7 c S LN L pl mn_ group b k N W M) (hc:C8 c L group) (p:Nat) {j:Int} {m:Nat} (hj:j∈M.act m):M.nq p j=W.nat c p j.toNat:=by
 obtain ⟨T,i⟩:=h.i;have j0:=(Mc.act_mem hj).1;obtain ⟨t,rfl⟩:∃ t:Nat,j=t:=⟨j.toNat,by omega⟩;rw [Wr.nat_num hc i.group i.lq h.s.nums];rfl
def In7.copy {a m q e:Nat} {d:Int} (h:In7 c S LN L pl mn_ group b k N W M) (hc:C8 c L group) (hS:Lx.S "copy" Y8) (p8:((a:Int)+1)*group<=8) (q8:((q:Int)+1)*group<=8) (m16:m<16) :
  ∃ M',Step Lx (S7.tv ⟨.copy,a,q,d,e,m⟩) M M'/\In7 c S LN L pl mn_ group b (k+1) (N+wid mn_ (group*L) b) (W.play c ⟨.copy,a,q,d,e,m⟩ b c.side) M':=by
 refine h.seat (s:=⟨.copy,a,q,d,e,m⟩) hc hS rfl rfl rfl p8 m16 (λ_ _=>rfl) rfl (λfl n sp F hn off=>?_) (h.plain (s:=⟨.copy,a,q,d,e,m⟩) (T':=M.tq) ?_ (Nat.le_trans h.tl (Nat.le_add_right _ _)) λ_=>rfl)
 ·exact congrArg some (Yy hn off)
 ·obtain ⟨T,i⟩:=h.i
  show (if _ then some (M,(M.act m).map λj=>some (M.nq (q:Int).toNat j)) else none)=some (M,(M.act m).map λj=>some (W.nat c q j.toNat));rw [if_pos ⟨by show (0:Int)<=(q:Int);omega,by rw [i.group];exact q8⟩];congr 2;refine List.map_congr_left λj hj=>?_;rw [q0z,h.nat hc q hj]
def In7.pick {a m q r e:Nat} (h:In7 c S LN L pl mn_ group b k N W M) (hc:C8 c L group) (hS:Lx.S "pick" YO) (p8:((a:Int)+1)*group<=8) (q8:((q:Int)+1)*group<=8) (r8:((r:Int)+1)*group<=8) (e16:e<16) (m16:m<16) :
  ∃ M',Step Lx (S7.tv ⟨.pick,a,q,r,e,m⟩) M M'/\In7 c S LN L pl mn_ group b (k+1) (N+wid mn_ (group*L) b) (W.play c ⟨.pick,a,q,r,e,m⟩ b c.side) M':=by
 obtain ⟨_,wds,_,wd⟩:=h.side hc;refine h.seat (s:=⟨.pick,a,q,r,e,m⟩) hc hS rfl rfl rfl p8 m16 (λ_ _=>rfl) rfl (λfl n sp F hn off=>?_) (h.plain (s:=⟨.pick,a,q,r,e,m⟩) (T':=M.tq) ?_ (Nat.le_trans h.tl (Nat.le_add_right _ _)) λ_=>rfl)
 ·show some (if W.truth e n=true then fl.getD _ 0 else fl.getD _ 0)=some (if W.truth e n=true then W.flat.getD _ 0 else W.flat.getD _ 0)
  rw [Yy (q:=q) hn off,Yy (q:=r) hn off]
 ·obtain ⟨T,i⟩:=h.i
  show (if _ then some (M,(M.act m).map λj=>some (M.picked (q:Int).toNat (r:Int).toNat (e:Int).toNat j)) else none)=some (M,(M.act m).map λj=>some (if W.truth e j.toNat=true then W.nat c q j.toNat else W.nat c r j.toNat));rw [if_pos ⟨by show (0:Int)<=(q:Int);omega,by rw [i.group];exact q8,by show (0:Int)<=(r:Int);omega,by rw [i.group];exact r8,by show (0:Int)<=(e:Int);omega,by show (e:Int)<16;omega⟩];congr 2;refine List.map_congr_left λj hj=>?_;rw [q0z,q0z,q0z];unfold Mc.picked;have:=(Mc.act_mem hj).2.1;rw [h.nat hc q hj,h.nat hc r hj,h.s.mq e e16 j.toNat (by omega)]
def In7.load {a m r e:Nat} {d:Int} (h:In7 c S LN L pl mn_ group b k N W M) (hc:C8 c L group) (R:Rows8 c S LN rows mn_ W) (b0:0<=b) (hN:N+wid mn_ (group*L) b<90000) (hS:Lx.S "load" ZX) (p8:((a:Int)+1)*group<=8) (hr:r<rows) (m16:m<16) :
  ∃ M',Step Lx (S7.tv ⟨.load,a,r,d,e,m⟩) M M'/\In7 c S LN L pl mn_ group b (k+1) (N+wid mn_ (group*L) b) (W.play c ⟨.load,a,r,d,e,m⟩ b c.side) M':=by
 have tl:=h.tl;have rm:=h.room m;obtain ⟨T,i⟩:=h.i;have Rm:=R.m;refine h.seat (s:=⟨.load,a,r,d,e,m⟩) hc hS rfl rfl rfl p8 m16 (λ_ _=>rfl) rfl (λ_ _ _ _ _ _=>rfl) (h.plain (s:=⟨.load,a,r,d,e,m⟩) (T':=(M.reads r (M.act m)).tq) ?_ ?_ λ_=>rfl)
 ·have ad:∀ j∈M.act m,M.adr r (M.base+j)=(r:Int)*c.long+(b+(j.toNat:Nat)):=λj hj=>by
   have j0:=(Mc.act_mem hj).1;unfold Mc.adr;rw [i.starts,i.base,R.s r hr];omega
  show ZX [.str "load",.int a,.int r,.int m] M (M.act m)=some (M.reads r (M.act m),(M.act m).map λj=>some (W.cells.getD ((r:Int)*c.long+(b+(j.toNat:Nat))).toNat 0));unfold ZX;refine (if_pos ?_).trans ?_
  ·rw [q0z]
   refine ⟨by omega,⟨by rw [i.starts,R.n];exact hr,λj hj=>?_⟩,by omega⟩;have a1:=i.mem hj;rw [ad j hj,i.cells];exact R.at hr (by omega) (by omega)
  ·rw [q0z]
   congr 2;refine List.map_congr_left λj hj=>?_;unfold Mc.valAt;rw [ad j hj,i.cells]
 ·show (M.tq++_).length<=_
  rw [Jj,Ji];omega
theorem In7.gather {a m q r e:Nat} (h:In7 c S LN L pl mn_ group b k N W M) (hc:C8 c L group) (R:Rows8 c S LN rows mn_ W) (hN:N+wid mn_ (group*L) b<90000) (hS:Lx.S "gather" xx) (p8:((a:Int)+1)*group<=8) (q8:((q:Int)+1)*group<=8) (hr:r<rows) (m16:m<16) :
  ∃ M',Step Lx (S7.tv ⟨.gather,a,q,r,e,m⟩) M M'/\In7 c S LN L pl mn_ group b (k+1) (N+wid mn_ (group*L) b) (W.play c ⟨.gather,a,q,r,e,m⟩ b c.side) M':=by
 have tl:=h.tl;have fn:=h.fn;have rm:=h.room m;obtain ⟨T,i⟩:=h.i;refine h.seat (s:=⟨.gather,a,q,r,e,m⟩) hc hS rfl rfl rfl p8 m16 (λ_ _=>rfl) rfl (λfl n sp F hn off=>?_) ?_
 ·show (if 0<=fl.getD _ 0/\fl.getD _ 0<_ then some (W.cells.getD ((r:Int)*c.long+fl.getD _ 0).toNat 0) else none)=(if 0<=W.flat.getD _ 0/\W.flat.getD _ 0<_ then some (W.cells.getD ((r:Int)*c.long+W.flat.getD _ 0).toNat 0) else none)
  rw [Yy (q:=q) hn off]
 ·obtain ⟨g1,g2,g3,g4,g5,g6,g7⟩:=ga_all r ((M.act m).map λj=>(M.nq q j,j)) M (λp hp=>by obtain ⟨j,hj,rfl⟩:=List.mem_map.mp hp;exact (Mc.act_mem hj).1) h.s.ik h.s.kn
  rw [Ji] at g2 g3;refine ⟨(Mc.gaAll r ((M.act m).map λj=>(M.nq q j,j)) M).1.tq,(Mc.gaAll r ((M.act m).map λj=>(M.nq q j,j)) M).1.fq,?_,g4,g5,by omega,by omega,λt=>?_⟩
  ·show xx [.str "gather",.int a,.int q,.int r,.int m] M (M.act m)=_
   unfold xx;refine (if_pos ?_).trans ?_
   ·refine ⟨by omega,by rw [i.group];exact q8,by omega,?_,by omega,by omega⟩
    rw [q0z];have e1:((r:Int)+1)*c.long<=(rows:Int)*c.long:=Int.mul_le_mul_of_nonneg_right (by omega) (by omega);have e2:(W.cells.length:Int)=(rows:Int)*c.long:=by rw [R.cl];exact Int.natCast_mul _ _
    rw [Int.add_mul] at e1;refine ⟨by rw [i.starts,R.n];exact hr,by rw [i.lens,R.nl];exact hr,?_,?_⟩
    ·rw [i.starts,R.s r hr];exact Int.mul_nonneg (by omega) (by omega)
    ·rw [i.starts,R.s r hr,i.lens,R.ln r hr,i.cells]
     show _<=(W.cells.length:Int);omega
   ·rw [q0z,q0z]
    refine congrArg some (Prod.ext g1 ?_);show (Mc.gaAll r ((M.act m).map λj=>(M.nq q j,j)) M).2=_;rw [g6,List.map_map];refine List.map_congr_left λj hj=>?_;show (if 0<=M.nq q j/\M.nq q j<M.lens.getD r 0 then some (M.cells.getD (M.adr r (M.nq q j)).toNat 0) else none)=(if 0<=W.nat c q j.toNat/\W.nat c q j.toNat<c.long then some (W.cells.getD ((r:Int)*c.long+W.nat c q j.toNat).toNat 0) else none);unfold Mc.adr;rw [h.nat hc q hj,i.lens,R.ln r hr,i.starts,R.s r hr,i.cells]
  ·rw [g7]
   congr 1;rw [List.any_map];refine Eq.trans ?_ ((any_at (x:=(t:Int)) (λj:Int=>!decide (0<=M.nq q j/\M.nq q j<M.lens.getD r 0)) (M.act m)).trans ?_)
   ·rfl
   show ((M.act m).contains (t:Int) && _)=((M.act m).contains (t:Int) && _)
   cases hm:(M.act m).contains (t:Int) with
   | false=>rfl
   | true =>
    have hm:=List.contains_iff_mem.mp hm;rw [h.nat hc q hm,i.lens,R.ln r hr];show (true && !decide (0<=W.nat c q t/\W.nat c q t<c.long))=(true && (if 0<=W.nat c q t/\W.nat c q t<c.long then some _ else none:Option Int).isNone);by_cases z:0<=W.nat c q t/\W.nat c q t<c.long
    ·rw [if_pos z,decide_eq_true z];rfl
    ·rw [if_neg z,decide_eq_false z];rfl
end
theorem dst_in (d:Jb) (q:Nat) (m:List Bool) (lo:Nat):∀ (k j:Nat),lo<=j->j<lo+k->j<m.length->(dst d q m lo k).getD j false=decide (y9 d (q+(j-lo)) % 2=1)
 | 0,j,h1,h2,_=>by omega
 | k+1,j,h1,h2,h3=>by
  rw [Y6,q1x];by_cases e:lo+k=j
  ·rw [e,q3z (by rw [Z0];exact h3),show j-lo=k by omega];rfl
  ·rw [List.getElem?_set_ne e,← q1x]
   exact dst_in d q m lo k j h1 (by omega) h3
def setD (l:List Bool) (t:Nat) (v:Bool) (h:t<l.length) (j:Nat):(l.set t v).getD j false=if j=t then v else l.getD j false:=by
 rw [q1x];by_cases e:j=t
 ·rw [e,q3z h,if_pos rfl];rfl
 ·rw [List.getElem?_set_ne (λz=>e z.symm),if_neg e,← q1x]
def Zw (l:List (List Bool)) (t:Nat) (v:List Bool) (h:t<l.length) (j:Nat):(l.set t v).getD j []=if j=t then v else l.getD j []:=by
 rw [q1x];by_cases e:j=t
 ·rw [e,q3z h,if_pos rfl];rfl
 ·rw [List.getElem?_set_ne (λz=>e z.symm),if_neg e,← q1x]
def wm (nought:Bool):W7:=if nought then .other else .choose
section
variable {c:Wc} {Lx:Lex} {S LN:Jb} {L pl k N rows:Nat} {mn_ group b:Int} {W:Wr} {M:Mc}
theorem mask_play {a m e:Nat} {p d base:Int} {no:Bool} (o:WOk c W) (a16:a<16) (n:Nat) (hn:n<=c.side):∃ X:List Bool,W.play c ⟨wm no,a,p,d,e,m⟩ base n={ W with masks:=W.masks.set a X,spent:=W.spent+(n-W.wq) }/\X.length=(W.masks.getD a []).length /\
  ∀ t,X.getD t false=if t<n then (if t<W.wq then (W.actv m t && decide (decide (W.nat c p t=0)=no)) else decide (y9 c.dust (W.spent+(t-W.wq)) % 2=1)) else (W.masks.getD a []).getD t false:=by
 have ml:a<W.masks.length:=by rw [o.ml];exact a16
 have mm:=o.mm a a16;have sx:∀ (Y:Wr) t,Y.step c ⟨wm no,a,p,d,e,m⟩ base t=Y.msk c ⟨wm no,a,p,d,e,m⟩ no t:=λY t=>by cases no <;> rfl
 induction n with
 | zero =>
  refine ⟨W.masks.getD a [],?_,rfl,λt=>by rw [if_neg (by omega)]⟩;have e0:W.play c ⟨wm no,a,p,d,e,m⟩ base 0=W:=by cases no <;> rfl
  rw [e0];show W={ W with masks:=W.masks.set a _,spent:=W.spent+(0-W.wq) };rw [q1x,List.getElem?_eq_getElem ml,Nat.zero_sub,Nat.add_zero];show W={ W with masks:=W.masks.set a W.masks[a] };rw [List.set_getElem_self]
 | succ n ih =>
  obtain ⟨X,eq,lX,hX⟩:=ih (by omega);rw [Wr.play_succ,eq,sx]
  have tr:∀ k,({ W with masks:=W.masks.set a X,spent:=W.spent+(n-W.wq) }:Wr).truth k n=W.truth k n:=λk=>by
   show ((W.masks.set a X).getD k []).getD n false=_;rw [Zw _ _ _ ml];by_cases z:k=a
   ·rw [if_pos z,hX,if_neg (by omega),z];rfl
   ·rw [if_neg z];rfl
  have av:({ W with masks:=W.masks.set a X,spent:=W.spent+(n-W.wq) }:Wr).actv m n=W.actv m n:=by
   unfold Wr.actv;rw [tr]
  have gX:(W.masks.set a X).getD a []=X:=by rw [Zw _ _ _ ml,if_pos rfl]
  unfold Wr.msk;by_cases hw:n<W.wq
  ·refine ⟨X.set n (W.actv m n && decide (decide (W.nat c p n=0)=no)),?_,by rw [List.length_set,lX],λt=>?_⟩
   ·show (if n<W.wq then _ else _)=_
    rw [if_pos hw,av];show ({ W with masks:=(W.masks.set a X).set a (((W.masks.set a X).getD a []).set n _),spent:=_ }:Wr)=_;rw [gX,List.set_set,show n+1-W.wq=0 by omega,show n-W.wq=0 by omega];rfl
   ·rw [setD _ _ _ (by omega),hX]
    by_cases z:t=n
    ·subst z;rw [if_pos rfl,if_pos (show t<t+1 by omega),if_pos hw]
    ·rw [if_neg z]
     by_cases y:t<n
     ·rw [if_pos y,if_pos (show t<n+1 by omega)]
     ·rw [if_neg y,if_neg (show ¬ t<n+1 by omega)]
  ·refine ⟨X.set n (decide (y9 c.dust (W.spent+(n-W.wq)) % 2=1)),?_,by rw [List.length_set,lX],λt=>?_⟩
   ·show (if n<W.wq then _ else _)=_
    rw [if_neg hw];show ({ W with masks:=(W.masks.set a X).set a (((W.masks.set a X).getD a []).set n _),spent:=_ }:Wr)=_;rw [gX,List.set_set,show n+1-W.wq=n-W.wq+1 by omega];rfl
   ·rw [setD _ _ _ (by omega),hX]
    by_cases z:t=n
    ·subst z;rw [if_pos rfl,if_pos (show t<t+1 by omega),if_neg hw]
    ·rw [if_neg z]
     by_cases y:t<n
     ·rw [if_pos y,if_pos (show t<n+1 by omega)]
     ·rw [if_neg y,if_neg (show ¬ t<n+1 by omega)]
theorem In7.mask {a m p e:Nat} {d:Int} {no:Bool} (h:In7 c S LN L pl mn_ group b k N W M) (hc:C8 c L group) {word:Str} (hw:word=if no then "other" else "choose") (hS:Lx.E word (yV no)) (p8:((p:Int)+1)*group<=8) (a16:a<16) (m16:m<16) :
  ∃ M',Step Lx (S7.tv ⟨wm no,a,p,d,e,m⟩) M M'/\In7 c S LN L pl mn_ group b (k+1) (N+wid mn_ (group*L) b) (W.play c ⟨wm no,a,p,d,e,m⟩ b c.side) M':=by
 obtain ⟨rm,wds,sd1,wd⟩:=h.side hc;obtain ⟨T,i⟩:=h.i
 have s4:(c.side:Int)<=4*L:=by
  rw [hc.s,← i.group];have:=i.ok.l1;have:=i.lq;rcases i.ok.g with e | e | e <;> rw [e] <;> omega
 have etv:S7.tv ⟨wm no,a,p,d,e,m⟩=[.str word,.int a,.int p,.int m]:=by rw [hw];cases no <;> rfl
 have ec:yV no [.str word,.int a,.int p,.int m] M=some (M.laidMask a (M.chosen p m no)):=by
  unfold yV;show (if _ then _ else _)=_;rw [if_pos ⟨by omega,by omega,by omega,by rw [i.group];exact p8,by omega,by omega⟩];rfl
 obtain ⟨_,o⟩:=laid_act (k:=m) i.ok a16 λj=>decide (decide (M.nq p j=0)=no);have st:=Step.eff (word:=word) hS rfl ec i.ok;obtain ⟨X,eX,lX,hX⟩:=mask_play (a:=a) (m:=m) (p:=p) (d:=d) (e:=e) (base:=b) (no:=no) h.o a16 c.side (Nat.le_refl _);rw [eX,etv];have ml:a<M.masks.length:=by rw [i.ok.ml];exact a16
 have wml:a<W.masks.length:=by rw [h.o.ml];exact a16
 have lm:(M.masks.getD a []).length=4*M.lq:=by
  rw [q1x,List.getElem?_eq_getElem ml];exact i.ok.mm _ (List.getElem_mem ml)
 have hL:=i.lq
 have at_m:∀ t,t<c.side->(M.maskOf a (M.chosen p m no)).getD t false=X.getD t false:=λt ht=>by
  rw [hX,if_pos ht];unfold Mc.maskOf;rw [wd,rm];by_cases z:t<W.wq
  ·rw [if_pos z,X6 _ _ _ _ _ _ z]
   have hm:((t:Int)∈M.chosen p m no)↔((W.actv m t && decide (decide (W.nat c p t=0)=no))=true):=by
    unfold Mc.chosen;rw [List.mem_filter,mem_act i.ok.w0,wd,← h.s.act m16 ht,Wr.nat_num hc i.group hL h.s.nums,Bool.and_eq_true]
   by_cases y:(t:Int)∈M.chosen p m no
   ·rw [XM _ _ _ (by rw [yU,lm];omega) (.inl y),hm.mp y]
   ·rw [sel_out _ _ _ λi hi z=>y (by
     have i0:=(Mc.act_mem (List.mem_filter.mp hi).1).1;have e:(t:Int)=i:=by omega
     rw [e];exact hi),clr_lt _ _ _ z]
    cases q:(W.actv m t && decide (decide (W.nat c p t=0)=no)) with
    | false=>rfl
    | true=>exact absurd (hm.mpr q) y
  ·rw [if_neg z,dst_in _ _ _ _ _ _ (by omega) (by omega) (by rw [xW,yU,lm];omega),h.s.dust,h.s.dq]
 refine ⟨_,st,⟨⟨T,⟨o.l1,o.l64,o.g,o.nl,o.ml,o.mm,o.w0,o.w1⟩,i.wle,i.bq,i.base,?_,i.oq,i.mn_,i.group,hL,i.rf,i.starts,i.lens,i.cells,i.tq⟩,⟨h.s.nums,?_,h.s.dust,λq hq t ht=>?_,h.s.ik,h.s.kn,h.s.flt,h.s.wd⟩,⟨h.o.fl,?_,λq hq=>?_,h.o.fp⟩,Nat.le_trans h.tl (Nat.le_add_right _ _),Nat.le_trans h.fn (Nat.le_add_right _ _),h.wl⟩⟩
 ·show M.pc+1=_
  rw [i.pc];omega
 ·show M.dq+(M.room-M.wq.toNat)=_
  rw [h.s.dq,rm,wd]
 ·show ((M.masks.set a (M.maskOf a (M.chosen p m no))).getD q []).getD t false=((W.masks.set a X).getD q []).getD t false
  rw [Zw _ _ _ ml,Zw _ _ _ wml];by_cases z:q=a
  ·rw [if_pos z,if_pos z];exact at_m t ht
  ·rw [if_neg z,if_neg z];exact h.s.mq q hq t ht
 ·show (W.masks.set a X).length=16
  rw [List.length_set];exact h.o.ml
 ·show c.side<=((W.masks.set a X).getD q []).length
  rw [Zw _ _ _ wml];by_cases z:q=a
  ·rw [if_pos z,lX];exact h.o.mm a a16
  ·rw [if_neg z];exact h.o.mm q hq
def Wr.outs (c:Wc) (s:S7) (base:Int) (W:Wr) (l:List Nat):Wr:=l.foldl (λW t=>W.out c s base t) W
theorem XZ (s:S7) (base:Int):∀ (l:List Nat) (W:Wr),W.outs c s base l={ W with cells:=(W.outs c s base l).cells }/\(W.outs c s base l).cells.length=W.cells.length
 | [],W=>⟨rfl,rfl⟩
 | t::l,W=>by
  obtain ⟨h1,h2⟩:=XZ s base l (W.out c s base t);have e:W.outs c s base (t::l)=(W.out c s base t).outs c s base l:=rfl;rw [e];refine ⟨?_,by rw [h2];exact List.length_set ..⟩;rw [h1];rfl
theorem zao {a m e:Nat} {p d base:Int}:∀ n,W.play c ⟨.store,a,p,d,e,m⟩ base n=W.outs c ⟨.store,a,p,d,e,m⟩ base ((List.range n).filter (W.actv m))
 | 0=>rfl
 | n+1=>by
  rw [Wr.play_succ,zao n,List.range_succ,List.filter_append];have eq:=(XZ (c:=c) ⟨.store,a,p,d,e,m⟩ base ((List.range n).filter (W.actv m)) W).1;have sx:∀ (Y:Wr) t,Y.step c ⟨.store,a,p,d,e,m⟩ base t=if Y.actv m t then Y.out c ⟨.store,a,p,d,e,m⟩ base t else Y:=λ_ _=>rfl;have av:(W.outs c ⟨.store,a,p,d,e,m⟩ base ((List.range n).filter (W.actv m))).actv m n=W.actv m n:=by rw [eq];rfl
  rw [sx,av];unfold Wr.outs;rw [List.foldl_append]
  cases q:W.actv m n with
  | true=>rw [if_pos rfl,List.filter_cons_of_pos q];rfl
  | false=>rw [if_neg Bool.noConfusion,List.filter_cons_of_neg (by rw [q];exact Bool.noConfusion)];rfl
theorem zak {a m e:Nat} {p d base:Int} (hs:S.getD a 0=(a:Int)*c.long):∀ (l:List Nat) (W:Wr) (M:Mc),M.cells=W.cells->M.starts=S ->
  (M.puts a (l.map λt:Nat=>(base+t,W.nat c p t))).cells=(W.outs c ⟨.store,a,p,d,e,m⟩ base l).cells
 | [],W,M,h2,_=>h2
 | t::l,W,M,h2,h4=>by
  refine zak hs l (W.out c ⟨.store,a,p,d,e,m⟩ base t) (M.wrote a (base+t) (W.nat c p t)) ?_ h4;show M.cells.set (M.starts.getD a 0+(base+t)).toNat _=W.cells.set _ _;rw [h2,h4,hs]
def In7.store {a m p e:Nat} {d:Int} (h:In7 c S LN L pl mn_ group b k N W M) (hc:C8 c L group) (R:Rows8 c S LN rows mn_ W) (b0:0<=b) (hN:N+wid mn_ (group*L) b<90000) (hS:Lx.E "store" Zj) (p8:((p:Int)+1)*group<=8) (hr:a<rows) (m16:m<16) :
  ∃ M',Step Lx (S7.tv ⟨.store,a,p,d,e,m⟩) M M'/\In7 c S LN L pl mn_ group b (k+1) (N+wid mn_ (group*L) b) (W.play c ⟨.store,a,p,d,e,m⟩ b c.side) M':=by
 have tl:=h.tl;have rm:=h.room m;have ha:=h.acts hc m16;obtain ⟨T,i⟩:=h.i;have hL:=i.lq;have ok:=i.ok;have Rm:=R.m
 have el:((M.act m).map λj=>(b+j,M.nq p j))=(((List.range c.side).filter (W.actv m)).map λt:Nat=>(b+(t:Int),W.nat c p t)):=by
  rw [ha,List.map_map];refine List.map_congr_left λt ht=>?_;show (b+(t:Int),M.nq p t)=_;rw [Wr.nat_num hc i.group hL h.s.nums]
 have eq:Zj [.str "store",.int a,.int p,.int m] M=some (M.puts a (((List.range c.side).filter (W.actv m)).map λt:Nat=>(b+(t:Int),W.nat c p t))):=by
  rw [← el];unfold Zj;refine (if_pos ?_).trans ?_
  rotate_left
  ·rw [q0z,q0z,i.base];rfl
  ·show _/\_/\_/\_/\_/\rowIn M (Int.toNat a) (M.act (Int.toNat m))/\_+(M.act (Int.toNat m)).length<_
   rw [q0z,q0z,i.group];refine ⟨by omega,by omega,p8,by omega,by omega,⟨by rw [i.starts,R.n];exact hr,λj hj=>?_⟩,by omega⟩;have a1:=i.mem hj;unfold Mc.adr;rw [i.starts,i.cells,i.base,R.s a hr];exact R.at hr (by omega) (by omega)
 have st:=Step.eff (word:="store") hS rfl eq ok;rw [zao];have rc:=zak (c:=c) (m:=m) (p:=p) (d:=d) (e:=e) (base:=b) (R.s a hr) ((List.range c.side).filter (W.actv m)) W M i.cells i.starts;obtain ⟨o1,o4⟩:=XZ (c:=c) ⟨.store,a,p,d,e,m⟩ b ((List.range c.side).filter (W.actv m)) W;obtain ⟨s1,s2⟩:=M.puts_is a (((List.range c.side).filter (W.actv m)).map λt:Nat=>(b+(t:Int),W.nat c p t))
 have tn:(M.puts a (((List.range c.side).filter (W.actv m)).map λt:Nat=>(b+(t:Int),W.nat c p t))).tq.length<=N+wid mn_ (group*L) b:=by
  rw [s1];show (M.tq++_).length<=_;rw [Jj,Ji,← el,Ji];omega
 generalize M.puts a (((List.range c.side).filter (W.actv m)).map λt:Nat=>(b+(t:Int),W.nat c p t))=X at *;generalize W.outs c ⟨.store,a,p,d,e,m⟩ b ((List.range c.side).filter (W.actv m))=Y at *;have q1:X.nums=Y.flat:=by rw [s1,o1];exact h.s.nums
 have q2:X.dq=Y.spent:=by rw [s1,o1];exact h.s.dq
 have q3:X.dust=c.dust:=by rw [s1];exact h.s.dust
 have q4:X.fq=M.fq:=by rw [s1]
 have q5:X.masks=M.masks:=by rw [s1]
 have q6:Y.fq=W.fq/\Y.masks=W.masks/\Y.flat=W.flat/\Y.wq=W.wq:=by rw [o1];exact ⟨rfl,rfl,rfl,rfl⟩
 refine ⟨_,st,⟨⟨X.tq,⟨?_,?_,?_,?_,?_,?_,?_,?_,?_,?_,?_,?_,rc,rfl⟩⟩,⟨q1,q2,q3,λq hq t ht=>?_,?_,?_,λt=>?_,?_⟩,⟨?_,?_,λq hq=>?_,?_⟩,tn,?_,?_⟩⟩
 ·have:MOk X:=by rw [s1];exact ⟨ok.l1,ok.l64,ok.g,ok.nl,ok.ml,ok.mm,ok.w0,ok.w1⟩
  exact ⟨this.l1,this.l64,this.g,this.nl,this.ml,this.mm,this.w0,this.w1⟩
 ·show X.wq<=_;rw [s1];exact i.wle
 ·show X.bq=_;rw [s1];exact i.bq
 ·show X.base=_;rw [s1];exact i.base
 ·show X.pc+1=_;rw [s1];show M.pc+1=_;rw [i.pc];omega
 ·show X.oq=_;rw [s1];exact i.oq
 ·show X.mn_=_;rw [s1];exact i.mn_
 ·show X.group=_;rw [s1];exact i.group
 ·show X.lq=_;rw [s1];exact hL
 ·show X.rq_=_;rw [s1];exact i.rf
 ·show X.starts=_;rw [s1];exact i.starts
 ·show X.lens=_;rw [s1];exact i.lens
 ·show (X.masks.getD q []).getD t false=_
  unfold Wr.truth;rw [q5,q6.2.1];exact h.s.mq q hq t ht
 ·show y8 X.fq;rw [q4];exact h.s.ik
 ·show ∀ j∈y4 X.fq,0<=j;rw [q4];exact h.s.kn
 ·show (zQ X.fq _).isSome=_
  rw [q4,q6.1];exact h.s.flt t
 ·show X.wq=_;rw [q6.2.2.2,s1];exact h.s.wd
 ·rw [q6.2.2.1];exact h.o.fl
 ·rw [q6.2.1];exact h.o.ml
 ·rw [q6.2.1];exact h.o.mm q hq
 ·rw [q6.1];exact h.o.fp
 ·show X.fq.length<=_;rw [q4];exact Nat.le_trans h.fn (Nat.le_add_right _ _)
 ·rw [q6.2.2.2];exact h.wl
theorem In7.trim {a m e:Nat} {p d:Int} (h:In7 c S LN L pl mn_ group b k N W M) (hN:N<90000) (hS:Lx.E "trim" YF) :
  ∃ M',Step Lx (S7.tv ⟨.trim,a,p,d,e,m⟩) M M'/\In7 c S LN L pl mn_ group b (k+1) (N+wid mn_ (group*L) b) (W.play c ⟨.trim,a,p,d,e,m⟩ b c.side) M':=by
 have fn:=h.fn;obtain ⟨T,i⟩:=h.i;have wd:=h.s.wd
 have eq:YF [.str "trim"] M=some M.trimmed:=by
  unfold YF;exact if_pos ⟨h.s.ik,by omega⟩
 have st:=Step.eff (word:="trim") hS rfl eq i.ok
 have kf:∀ j:Int,j∈W.fq↔j∈y4 M.fq:=λj=>by
  constructor
  ·intro hj
   have j0:=h.o.fp j hj;obtain ⟨t,rfl⟩:∃ t:Nat,j=t:=⟨j.toNat,by omega⟩;rw [Zs,h.s.flt,List.contains_iff_mem];exact hj
  ·intro hj
   have j0:=h.s.kn j hj;obtain ⟨t,rfl⟩:∃ t:Nat,j=t:=⟨j.toNat,by omega⟩;rw [Zs,h.s.flt,List.contains_iff_mem] at hj;exact hj
 have ep:W.play c ⟨.trim,a,p,d,e,m⟩ b c.side={ W with wq:=ZV W.wq W.fq }:=by
  generalize c.side=n
  induction n with
  | zero=>rfl
  | succ n ih=>rw [Wr.play_succ,ih];rfl
 rw [ep]
 have key:M.trimmed.wq=(ZV W.wq W.fq:Nat)/\0<=M.trimmed.wq/\M.trimmed.wq<=M.wq:=by
  unfold Mc.trimmed ZV;by_cases z:M.faulted=[]
  ·rw [if_pos z]
   have:(W.wq:Int)=Zc ((W.wq:Int)::W.fq):=YC q1z λv hv=>by
    rcases List.mem_cons.mp hv with rfl | hv
    ·exact Int.le_refl _
    ·have hk:=(kf v).mp hv
     by_cases y:v<W.wq
     ·have:v∈M.faulted:=List.mem_filter.mpr ⟨hk,decide_eq_true (by omega)⟩
      rw [z] at this;cases this
     ·omega
   rw [← this,wd,q0z];exact ⟨rfl,by omega,Int.le_refl _⟩
  ·rw [if_neg z]
   have hm:=YX M.faulted z;have hm1:=List.mem_filter.mp hm;have hlt:=of_decide_eq_true hm1.2;have h0:=h.s.kn _ hm1.1
   have:Zc M.faulted=Zc ((W.wq:Int)::W.fq):=YC (q1y _ ((kf _).mpr hm1.1)) λv hv=>by
    rcases List.mem_cons.mp hv with rfl | hv
    ·omega
    ·by_cases y:v<M.wq
     ·exact YB _ v (List.mem_filter.mpr ⟨(kf v).mp hv,decide_eq_true y⟩)
     ·omega
   show Zc M.faulted=_/\0<=Zc M.faulted/\Zc M.faulted<=M.wq;rw [← this,Int.toNat_of_nonneg h0];exact ⟨rfl,h0,by omega⟩
 have wle:ZV W.wq W.fq<=W.wq:=by omega
 have rest:M.trimmed={ M with cut:=M.trimmed.cut,wq:=M.trimmed.wq }:=by
  unfold Mc.trimmed
  split <;> rfl
 generalize M.trimmed=X at *;have ok:=i.ok;have w1:=ok.w1;have w2:X.wq<=M.group*M.lq:=by omega
 have w3:X.wq<=(wid mn_ (group*L) b:Nat):=by have:=i.wle;omega
 have e3:({ X with pc:=X.pc+1 }:Mc)={ M with cut:=X.cut,wq:=X.wq,pc:=((pl+(k+1):Nat):Int) }:=by
  have e2:X.pc+1=((pl+(k+1):Nat):Int):=by rw [rest];show M.pc+1=_;rw [i.pc];omega
  rw [e2,rest]
 rw [e3] at st;refine ⟨_,st,⟨⟨T,⟨ok.l1,ok.l64,ok.g,ok.nl,ok.ml,ok.mm,key.2.1,w2⟩,w3,i.bq,i.base,rfl,i.oq,i.mn_,i.group,i.lq,i.rf,i.starts,i.lens,i.cells,i.tq⟩,⟨h.s.nums,h.s.dq,h.s.dust,h.s.mq,h.s.ik,h.s.kn,h.s.flt,key.1⟩,⟨h.o.fl,h.o.ml,h.o.mm,h.o.fp⟩,Nat.le_trans h.tl (Nat.le_add_right _ _),Nat.le_trans h.fn (Nat.le_add_right _ _),Nat.le_trans wle h.wl⟩⟩
end
def S7.Ok (group:Int) (rows:Nat) (s:S7):Prop:=match s.w with
 | .num=>((s.a:Int)+1)*group<=8/\s.m<16
 | .here=>((s.a:Int)+1)*group<=8/\s.m<16
 | .load=>(((s.a:Int)+1)*group<=8/\s.m<16)/\∃ r:Nat,s.b=r/\r<rows
 | .copy=>(((s.a:Int)+1)*group<=8/\s.m<16)/\∃ q:Nat,s.b=q/\((q:Int)+1)*group<=8
 | .pick=>(((s.a:Int)+1)*group<=8/\s.m<16)/\s.e<16/\∃ q r:Nat,s.b=q/\((q:Int)+1)*group<=8/\s.d=r/\((r:Int)+1)*group<=8
 | .gather=>(((s.a:Int)+1)*group<=8/\s.m<16)/\∃ q r:Nat,s.b=q/\((q:Int)+1)*group<=8/\s.d=r/\r<rows
 | .choose=>(s.a<16/\s.m<16)/\∃ q:Nat,s.b=q/\((q:Int)+1)*group<=8
 | .other=>(s.a<16/\s.m<16)/\∃ q:Nat,s.b=q/\((q:Int)+1)*group<=8
 | .store=>(s.a<rows/\s.m<16)/\∃ q:Nat,s.b=q/\((q:Int)+1)*group<=8
 | .trim=>True
structure Lx7 (Lx:Lex):Prop where
 num:Lx.S "number" numM
 here:Lx.S "here" hereM
 load:Lx.S "load" ZX
 copy:Lx.S "copy" Y8
 pick:Lx.S "pick" YO
 gather:Lx.S "gather" xx
 choose:Lx.E "choose" (yV false)
 other:Lx.E "other" (yV true)
 store:Lx.E "store" Zj
 trim:Lx.E "trim" YF
theorem step_len (c:Wc) (s:S7) (base:Int) (W:Wr) (t:Nat):(W.step c s base t).cells.length=W.cells.length:=by
 obtain ⟨w,a,b,d,e,m⟩:=s;have hm:∀ s no,(W.msk c s no t).cells.length=W.cells.length:=λs no=>by unfold Wr.msk;split <;> rfl
 have hl:∀ s,(W.lay c s base t).cells.length=W.cells.length:=λs=>by unfold Wr.lay;split <;> rfl
 cases w with
 | choose=>exact hm _ _
 | other=>exact hm _ _
 | trim=>rfl
 | store =>
  show (if W.actv m t then W.out c ⟨.store,a,b,d,e,m⟩ base t else W).cells.length=_
  split
  ·exact List.length_set ..
  ·rfl
 | num=>exact hl _
 | here=>exact hl _
 | load=>exact hl _
 | copy=>exact hl _
 | pick=>exact hl _
 | gather=>exact hl _
theorem ZP (c:Wc) (s:S7) (base:Int) (W:Wr):∀ n,(W.play c s base n).cells.length=W.cells.length
 | 0=>by
  show (W.pre s).cells.length=_;unfold Wr.pre
  split <;> rfl
 | n+1=>by rw [Wr.play_succ,step_len];exact ZP c s base W n
section
variable {c:Wc} {Lx:Lex} {S LN:Jb} {L pl k N rows:Nat} {mn_ group b:Int} {W:Wr} {M:Mc}
def Rows8.len {X:Wr} (R:Rows8 c S LN rows mn_ W) (e:X.cells.length=W.cells.length):Rows8 c S LN rows mn_ X:=⟨R.n,R.s,R.ln,R.nl,e.trans R.cl,R.m⟩
theorem In7.go {s:S7} (h:In7 c S LN L pl mn_ group b k N W M) (hc:C8 c L group) (lx:Lx7 Lx) (R:Rows8 c S LN rows mn_ W) (b0:0<=b) (hN:N+wid mn_ (group*L) b<90000) (ok:s.Ok group rows) :
  ∃ M',Step Lx s.tv M M'/\In7 c S LN L pl mn_ group b (k+1) (N+wid mn_ (group*L) b) (W.play c s b c.side) M':=by
 obtain ⟨w,a,v,d,e,m⟩:=s
 cases w with
 | num=>exact h.num hc lx.num ok.1 ok.2
 | here=>exact h.here hc lx.here ok.1 ok.2
 | load=>obtain ⟨p,r,rfl,hr⟩:=ok;exact h.load hc R b0 hN lx.load p.1 hr p.2
 | copy=>obtain ⟨p,q,rfl,q8⟩:=ok;exact h.copy hc lx.copy p.1 q8 p.2
 | pick=>obtain ⟨p,e16,q,r,rfl,q8,rfl,r8⟩:=ok;exact h.pick hc lx.pick p.1 q8 r8 e16 p.2
 | gather=>obtain ⟨p,q,r,rfl,q8,rfl,hr⟩:=ok;exact h.gather hc R hN lx.gather p.1 q8 hr p.2
 | choose=>obtain ⟨p,q,rfl,q8⟩:=ok;exact h.mask (no:=false) hc rfl lx.choose q8 p.1 p.2
 | other=>obtain ⟨p,q,rfl,q8⟩:=ok;exact h.mask (no:=true) hc rfl lx.other q8 p.1 p.2
 | store=>obtain ⟨p,q,rfl,q8⟩:=ok;exact h.store hc R b0 hN lx.store q8 p.1 p.2
 | trim=>exact h.trim (by omega) lx.trim
def Wr.run (c:Wc) (base:Int) (W:Wr):List S7->Wr
 | []=>W
 | s::l=>(W.play c s base c.side).run c base l
theorem Wr.run_len (c:Wc) (base:Int):∀ (l:List S7) (W:Wr),(W.run c base l).cells.length=W.cells.length
 | [],_=>rfl
 | s::l,W=>(Wr.run_len c base l _).trans (ZP ..)
theorem Wr.run_snoc (c:Wc) (base:Int) (s:S7):∀ (l:List S7) (W:Wr),W.run c base (l++[s])=(W.run c base l).play c s base c.side
 | [],W=>rfl
 | x::l,W=>Wr.run_snoc c base s l _
def In7.mono {N':Nat} (h:In7 c S LN L pl mn_ group b k N W M) (e:N<=N'):In7 c S LN L pl mn_ group b k N' W M:=⟨h.i,h.s,h.o,Nat.le_trans h.tl e,Nat.le_trans h.fn e,h.wl⟩
def In7.one {code:List (Jn)} {tv:Jn} {M':Mc} (h:In7 c S LN L pl mn_ group b k N W M) (e:code[pl+k]?=some tv) (st:Step Lx tv M M'):Steps Lx code 1 M M':=by
 obtain ⟨T,i⟩:=h.i;exact i.one e st
theorem In7.steps {code:List (Jn)} (hc:C8 c L group) (lx:Lx7 Lx) (b0:0<=b):∀ (l:List S7) (k N:Nat) (W:Wr) (M:Mc),In7 c S LN L pl mn_ group b k N W M->Rows8 c S LN rows mn_ W->N+l.length*wid mn_ (group*L) b<90000->(∀ s∈l,s.Ok group rows)->(∀ i s,l[i]?=some s->code[pl+k+i]?=some s.tv) ->
  ∃ n M',Steps Lx code n M M'/\In7 c S LN L pl mn_ group b (k+l.length) (N+l.length*wid mn_ (group*L) b) (W.run c b l) M'
 | [],k,N,W,M,h,_,_,_,_=>⟨0,M,.refl,by rw [List.length_nil,Nat.zero_mul];exact h⟩
 | s::l,k,N,W,M,h,R,hN,ok,cd=>by
  rw [q3x,Nat.add_mul,Nat.one_mul] at hN;obtain ⟨M1,st,h1⟩:=h.go hc lx R b0 (by omega) (ok s q1z)
  obtain ⟨n,M2,st2,h2⟩:=In7.steps hc lx b0 l (k+1) _ _ _ h1 (R.len (ZP ..)) (by omega) (λs hs=>ok s (q1y _ hs)) (λi s e=>by
   have:=cd (i+1) s e;rw [show pl+(k+1)+i=pl+k+(i+1) by omega];exact this)
  refine ⟨1+n,M2,(h.one (cd 0 s rfl) st).trans st2,?_⟩;rw [q3x,Nat.add_mul,Nat.one_mul,show k+(l.length+1)=k+1+l.length by omega,show N+(l.length*wid mn_ (group*L) b+wid mn_ (group*L) b)=N+wid mn_ (group*L) b+l.length*wid mn_ (group*L) b by omega];exact h2
def Wr.oq (c:Wc) (wd:Nat) (W:Wr):Wr:={ W with wq:=wd,masks:=W.masks.set 0 (List.replicate wd true++(List.range (c.side-wd)).map λt=>decide (y9 c.dust (W.spent+t) % 2=1)),spent:=W.spent+(c.side-wd),fq:=[] }
structure Bt7 (c:Wc) (N:Nat) (W:Wr) (M:Mc):Prop where
 nums:M.nums=W.flat
 dq:M.dq=W.spent
 dust:M.dust=c.dust
 mq:∀ k,k<16->∀ t,t<c.side->(M.masks.getD k []).getD t false=W.truth k t
 o:WOk c W
 tl:M.tq.length<=N
def In7.bt (h:In7 c S LN L pl mn_ group b k N W M):Bt7 c N W M:=⟨h.s.nums,h.s.dq,h.s.dust,h.s.mq,h.o,h.tl⟩
def strip7 (h:Bt7 c N W M) (ok:MOk0 M) (hc:C8 c L group) (hg:group=1∨group=2∨group=4) (e1:M.group=group) (e2:M.mn_=mn_) (e3:M.lq=L) (e4:M.oq=pl) (hb:b<mn_) (rf:M.rq_=none) (st:M.starts=S) (ln:M.lens=LN) (ce:M.cells=W.cells) :
  In7 c S LN L pl mn_ group b 1 N (W.oq c (wid mn_ (group*L) b)) { M.strip b with pc:=pl+1 }:=by
 have sa:=zbe (s:=(W.cells,M.tq)) (S:=S) (LN:=LN) (L:=L) (pl:=pl) (mn_:=mn_) (group:=group) (b:=b) ok hg e1 e2 e3 e4 (by omega) rf st ln ce rfl;have l1:=ok.l1;have gp:1<=group*(L:Int)/\group*(L:Int)<=4*L:=by rcases hg with e | e | e <;> rw [e] <;> omega
 have cs:=hc.s;have wb:M.wide b=(wid mn_ (group*L) b:Nat):=by rw [zac (by rw [e2];omega) (by rw [e1,e3];omega),e1,e2,e3]
 have ww:wid mn_ (group*L) b<=c.side:=by unfold wid;omega
 have rm:M.room=c.side:=by unfold Mc.room;rw [e1,e3];omega
 have ml:0<M.masks.length:=by rw [ok.ml];decide
 have wml:0<W.masks.length:=by rw [h.o.ml];decide
 have lm:(M.masks.getD 0 []).length=4*M.lq:=by
  rw [q1x,List.getElem?_eq_getElem ml];exact ok.mm _ (List.getElem_mem ml)
 have at0:∀ t,t<c.side->(dst M.dust M.dq (sel (clr (M.masks.getD 0 []) (M.wide b).toNat) (xQ (M.wide b).toNat)) (M.wide b).toNat (M.room-(M.wide b).toNat)).getD t false=(List.replicate (wid mn_ (group*L) b) true++(List.range (c.side-wid mn_ (group*L) b)).map λt=>decide (y9 c.dust (W.spent+t) % 2=1)).getD t false:=λt ht=>by
  rw [wb,q0z,rm];rw [q1x (l:=_++_)];by_cases z:t<wid mn_ (group*L) b
  ·rw [X6 _ _ _ _ _ _ z,XM _ _ _ (by rw [yU,lm];omega) (.inl (zay z)),q4x (by rw [List.length_replicate];exact z),List.getElem?_replicate,if_pos z];rfl
  ·rw [dst_in _ _ _ _ _ _ (by omega) (by omega) (by rw [xW,yU,lm];omega),List.getElem?_append_right (by rw [List.length_replicate];omega),List.length_replicate,List.getElem?_map,List.getElem?_range (by omega),h.dust,h.dq];rfl
 refine ⟨⟨_,sa.i⟩,⟨h.nums,?_,h.dust,λq hq t ht=>?_,(λp hp=>by cases hp),(λj hj=>by cases hj),λt=>rfl,wb⟩,⟨h.o.fl,?_,λq hq=>?_,(λj hj=>by cases hj)⟩,h.tl,Nat.zero_le _,Nat.le_refl _⟩
 ·show M.dq+(M.room-(M.wide b).toNat)=_
  rw [rm,wb,h.dq,q0z];rfl
 ·show ((M.masks.set 0 _).getD q []).getD t false=((W.masks.set 0 _).getD q []).getD t false
  rw [Zw _ _ _ ml,Zw _ _ _ wml];by_cases z:q=0
  ·rw [if_pos z,if_pos z];exact at0 t ht
  ·rw [if_neg z,if_neg z];exact h.mq q hq t ht
 ·show (W.masks.set 0 _).length=16
  rw [List.length_set];exact h.o.ml
 ·show c.side<=((W.masks.set 0 _).getD q []).length
  rw [Zw _ _ _ wml];by_cases z:q=0
  ·rw [if_pos z,Jj,List.length_replicate,Ji,List.length_range];omega
  ·rw [if_neg z];exact h.o.mm q hq
def upW (c:Wc) (mn_:Int) (l:List S7) (W:Wr) (i:Nat):Wr:=(List.range i).foldl (λW (i:Nat)=>(W.oq c (wid mn_ c.side (i*c.side))).run c (i*c.side) l) W
def Zi (c:Wc) (mn_:Int) (l:List S7) (W:Wr) (i:Nat):upW c mn_ l W (i+1)=((upW c mn_ l W i).oq c (wid mn_ c.side (i*c.side))).run c (i*c.side) l:=by unfold upW;rw [List.range_succ,List.foldl_append];rfl
theorem Yx (c:Wc) (mn_:Int) (l:List S7) (W:Wr):∀ i,(upW c mn_ l W i).cells.length=W.cells.length
 | 0=>rfl
 | i+1=>by rw [Zi,Wr.run_len];exact Yx c mn_ l W i
theorem round7 (hB:Lx.W "begin" Xe) (hX:Lx.W "next" nextW) (lx:Lx7 Lx) {code:List (Jn)} {l:List S7} {NS:Nat} (h:RestAt S LN L 0 (W.cells,[]) M) (h8:Bt7 c 0 W M) (hc:C8 c L group) (R:Rows8 c S LN rows mn_ W) (hg:group=1∨group=2∨group=4) (h1:1<=mn_) (h14:mn_<=14) (l60:l.length<=60) (ok:∀ s∈l,s.Ok group rows)
  (c0:code[0]?=some [.str "begin",.int mn_,.int group]) (cd:∀ i s,l[i]?=some s->code[1+i]?=some s.tv) (c3:code[l.length+1]?=some [.str "next"]) (hN:∀ i:Nat,i<NS↔(i:Int)*c.side<mn_) :
  ∃ k M',Steps Lx code k M M'/\∃ T,RestAt S LN L (l.length+2) ((upW c mn_ l W NS).cells,T) M':=by
 have l1:=h.ok.l1;have hL:=h.lq;have cs:=hc.s;have sd:1<=group*(L:Int):=by rcases hg with e | e | e <;> rw [e] <;> omega
 have N1:0<NS:=(hN 0).mpr (by omega)
 have low:∀ i:Nat,(i:Int)<=i*c.side:=λi=>by
  have:(i:Int)*1<=i*c.side:=Int.mul_le_mul_of_nonneg_left (by omega) (by omega);omega
 have sc:∀ i:Nat,((i+1:Nat):Int)*c.side=i*c.side+c.side:=λi=>by rw [Int.natCast_add,Int.add_mul];show _+1*(c.side:Int)=_;rw [Int.one_mul]
 have w14:∀ i:Nat,wid mn_ c.side (i*c.side)<=14:=λi=>by have:=low i;unfold wid;omega
 have i14:∀ i:Nat,i<NS->i<14:=λi hi=>by have:=(hN i).mp hi;have:=low i;omega
 have lw:∀ i:Nat,l.length*wid mn_ c.side (i*c.side)<=840:=λi=>Nat.le_trans (Nat.mul_le_mul l60 (w14 i)) (by decide)
 have go:∀ (i:Nat) (X:Wr) (M:Mc),i<NS->X.cells.length=W.cells.length->In7 c S LN L 0 mn_ group (i*c.side) 1 (i*840) (X.oq c (wid mn_ c.side (i*c.side))) M->∃ k M',Steps Lx code k M M'/\In7 c S LN L 0 mn_ group (i*c.side) (1+l.length) ((i+1)*840) ((X.oq c (wid mn_ c.side (i*c.side))).run c (i*c.side) l) M':=λi X M hi e h=>by
  have a:=i14 i hi;have b:=lw i;obtain ⟨k,M',st,h'⟩:=In7.steps (code:=code) hc lx (by have:=low i;omega) l 1 _ _ _ h (R.len e) (by rw [← cs];omega) ok (λj s e=>by rw [Nat.zero_add];exact cd j s e);rw [← cs] at h';exact ⟨k,M',st,h'.mono (by omega)⟩
 have at_i:∀ i:Nat,i<NS->∃ k M',Steps Lx code k M M'/\In7 c S LN L 0 mn_ group (i*c.side) 1 (i*840) ((upW c mn_ l W i).oq c (wid mn_ c.side (i*c.side))) M':=by
  intro i
  induction i with
  | zero =>
   intro _;have st:Step Lx [.str "begin",.int mn_,.int group] M { M.round mn_ group with pc:=M.pc+1 }:=Step.way (L:=Lx) (word:="begin") hB rfl ⟨mn_,group,rfl,rfl,h.ok,hg,by omega,rfl,rfl⟩;have sa:In7 c S LN L 0 mn_ group 0 1 0 (W.oq c (wid mn_ (group*L) 0)) { ({ M with oq:=M.pc,mn_:=mn_,group:=group,cq:=none }:Mc).strip 0 with pc:=((0:Nat):Int)+1 }:=strip7 (M:={ M with oq:=M.pc,mn_:=mn_,group:=group,cq:=none }) ⟨h8.nums,h8.dq,h8.dust,h8.mq,h8.o,h8.tl⟩ ⟨h.ok.l1,h.ok.l64,h.ok.nl,h.ok.ml,h.ok.mm⟩ hc hg rfl rfl h.lq h.pc (by omega) h.rf h.starts h.lens h.cells;refine ⟨1,_,.cons (by rw [h.pc];exact Int.natCast_nonneg _) h.rf (by rw [h.pc,q0z];exact c0) st .refl,?_⟩;have e:((0:Nat):Int)*(c.side:Int)=0:=by omega
   rw [e,cs,Nat.zero_mul];unfold Mc.round;rw [h.pc] at sa ⊢;exact sa
  | succ i ih =>
   intro hi;obtain ⟨k,M1,st,sa⟩:=ih (by omega);have hi1:=(hN (i+1)).mp hi;rw [sc] at hi1;have hl:=low i;have hw:wid mn_ c.side (i*c.side)=c.side:=by unfold wid;omega
   obtain ⟨k2,M2,st2,e2⟩:=go i _ M1 (by omega) (Yx ..) sa;obtain ⟨T2,i2⟩:=e2.i;have bb:M2.base+M2.bq=((i+1:Nat):Int)*c.side:=by rw [sc,i2.base,i2.bq,← cs,hw]
   have st3:Step Lx [.str "next"] M2 { M2.strip (((i+1:Nat):Int)*c.side) with pc:=((0:Nat):Int)+1 }:=Step.way (L:=Lx) (word:="next") hX rfl (by
    refine ⟨i2.ok.zero,by rw [i2.group];exact hg,?_⟩;rw [bb,if_pos (by rw [i2.mn_,sc];exact hi1),i2.oq];exact ⟨rfl,rfl⟩)
   refine ⟨k+k2+1,_,(st.trans st2).trans (e2.one (by rw [Nat.zero_add,Nat.add_comm];exact c3) st3),?_⟩;rw [Zi];have:=strip7 (b:=((i+1:Nat):Int)*c.side) e2.bt i2.ok.zero hc hg i2.group i2.mn_ i2.lq i2.oq (by rw [sc];exact hi1) i2.rf i2.starts i2.lens i2.cells;rw [← cs] at this;exact this
 obtain ⟨k,M1,st,sa⟩:=at_i (NS-1) (by omega);have hi0:=(hN (NS-1)).mp (by omega);have hi1:¬ ((NS-1+1:Nat):Int)*c.side<mn_:=λz=>by have:=(hN (NS-1+1)).mpr z;omega
 rw [sc] at hi1;have hw:(wid mn_ c.side ((NS-1:Nat)*c.side):Int)=mn_-(NS-1:Nat)*c.side:=by unfold wid;omega
 obtain ⟨k2,M2,st2,e2⟩:=go (NS-1) _ M1 (by omega) (Yx ..) sa;obtain ⟨T2,i2⟩:=e2.i
 have st3:Step Lx [.str "next"] M2 { M2 with pc:=((l.length+2:Nat):Int) }:=by
  refine Step.way (L:=Lx) (word:="next") hX rfl ?_;refine ⟨i2.ok.zero,by rw [i2.group];exact hg,?_⟩;rw [if_neg (by rw [i2.base,i2.bq,i2.mn_,← cs,hw];omega),i2.pc];exact ⟨rfl,by omega⟩
 have eN:NS=NS-1+1:=by omega
 refine ⟨k+k2+1,_,(st.trans st2).trans (e2.one (by rw [Nat.zero_add,Nat.add_comm];exact c3) st3),?_⟩;rw [eN,Zi];exact ⟨T2,⟨i2.ok.l1,i2.ok.l64,i2.ok.nl,i2.ok.ml,i2.ok.mm⟩,i2.lq,i2.rf,i2.starts,i2.lens,rfl,i2.cells,i2.tq⟩
end
structure Wa where
 w:Ad
 aF:Ad
 aC:Ad
 aD:Ad
 aM:Ad
 aX:Ad
 ms:Jg
def wkv (c:Wc) (A:Wa) (n wd:Nat):Jl:=[(.inr "flat",.ref A.aF),(.inr "cells",.ref A.aC),(.inr "long",.int c.long),(.inr "dust",.ref A.aD),(.inr "spent",.int n),(.inr "masks",.ref A.aM),(.inr "width",.int wd),(.inr "faults",.ref A.aX)]
def wmO (ms:Jg) (xs:List (List Bool)):Jm:=(ms.zip xs).map λp=>(p.1,.lst (p.2.map V.bl))
def Xp (c:Wc) (A:Wa) (W:Wr):Jm:=(A.w,.dK (wkv c A W.spent W.wq))::(A.aF,.lst (W.flat.map V.int))::(A.aC,.lst (W.cells.map V.int))::(A.aX,.lst (W.fq.map V.int))::(A.aM,.lst (A.ms.map V.ref))::wmO A.ms W.masks
structure WAt (c:Wc) (B:Hp) (A:Wa) (W:Wr) (H:Hp):Prop where
 h:Hd B (Xp c A W) H
 dl:B A.aD=some (.lst (c.dust.map V.int))
 ml:A.ms.length=W.masks.length
section
variable {c:Wc} {B:Hp} {A:Wa} {W:Wr} {H:Hp}
def WAt.mask (m:WAt c B A W H) {k:Nat} (hk:k<W.masks.length):∃ x,A.ms[k]?=some x/\(Xp c A W)[5+k]?=some (x,.lst ((W.masks.getD k []).map V.bl)):=by
 have ml:=m.ml;have lk:k<A.ms.length:=by omega
 refine ⟨A.ms[k],List.getElem?_eq_getElem lk,?_⟩;unfold Xp;rw [show 5+k=k+1+1+1+1+1 by omega];simp only [List.getElem?_cons_succ];unfold wmO;rw [List.getElem?_map];have e0:(A.ms.zip W.masks)[k]?=some (A.ms[k],W.masks[k]):=by rw [List.getElem?_zip_eq_some];exact ⟨List.getElem?_eq_getElem lk,List.getElem?_eq_getElem hk⟩
 rw [e0,q1x,List.getElem?_eq_getElem hk];rfl
theorem wmO_set {ms:Jg} {xs:List (List Bool)} {k:Nat} {x:Ad} (ex:ms[k]?=some x) (hk:k<xs.length) (b:List Bool):(wmO ms xs).set k (x,.lst (b.map V.bl))=wmO ms (xs.set k b):=by
 unfold wmO;have lk:k<ms.length:=(List.getElem?_eq_some_iff.mp ex).1
 have ez:ms.zip (xs.set k b)=(ms.zip xs).set k (x,b):=by
  apply List.ext_getElem?;intro j;rw [List.getElem?_set]
  split
  ·rename_i e
   subst e;rw [if_pos (by rw [List.length_zip];omega),List.getElem?_zip_eq_some];exact ⟨ex,by rw [q3z hk]⟩
  ·rename_i ne
   cases hz:(ms.zip xs)[j]? with
   | none =>
    rw [List.getElem?_eq_none_iff] at hz ⊢;rw [List.length_zip] at hz ⊢;rw [List.length_set];exact hz
   | some q =>
    rw [List.getElem?_zip_eq_some] at hz ⊢;exact ⟨hz.1,by rw [List.getElem?_set_ne ne];exact hz.2⟩
 rw [ez,List.map_set]
def WAt.putMask (m:WAt c B A W H) {k:Nat} {x:Ad} (ex:A.ms[k]?=some x) (hk:k<W.masks.length) (b:List Bool):WAt c B A { W with masks:=W.masks.set k b } (upd H x (.lst (b.map V.bl))):=by
 obtain ⟨x',ex',e⟩:=m.mask hk;rw [ex] at ex';cases ex';have h:=m.h.put (o':=.lst (b.map V.bl)) _ e;refine ⟨?_,m.dl,by show A.ms.length=(W.masks.set k b).length;rw [List.length_set];exact m.ml⟩
 have es:(Xp c A W).set (5+k) (x,.lst (b.map V.bl))=Xp c A { W with masks:=W.masks.set k b }:=by
  unfold Xp;rw [show 5+k=k+1+1+1+1+1 by omega];simp only [List.set_cons_succ];rw [wmO_set ex hk]
 rw [es] at h;exact h
def WAt.flat (m:WAt c B A W H) (f:Jb):WAt c B A { W with flat:=f } (upd H A.aF (.lst (f.map V.int))):=⟨m.h.put (o':=.lst (f.map V.int)) 1 rfl,m.dl,m.ml⟩
def WAt.cells (m:WAt c B A W H) (f:Jb):WAt c B A { W with cells:=f } (upd H A.aC (.lst (f.map V.int))):=⟨m.h.put (o':=.lst (f.map V.int)) 2 rfl,m.dl,m.ml⟩
def WAt.fq (m:WAt c B A W H) (f:Jb):WAt c B A { W with fq:=f } (upd H A.aX (.lst (f.map V.int))):=⟨m.h.put (o':=.lst (f.map V.int)) 3 rfl,m.dl,m.ml⟩
def WAt.spent (m:WAt c B A W H) (n:Nat):WAt c B A { W with spent:=n } (upd H A.w (.dK (wkv c A n W.wq))):=⟨m.h.put (o':=.dK (wkv c A n W.wq)) 0 rfl,m.dl,m.ml⟩
def WAt.wq (m:WAt c B A W H) (n:Nat):WAt c B A { W with wq:=n } (upd H A.w (.dK (wkv c A W.spent n))):=⟨m.h.put (o':=.dK (wkv c A W.spent n)) 0 rfl,m.dl,m.ml⟩
def WAt.grow (m:WAt c B A W H) {t:Ad} {o:HO} (n:H t=none):WAt c (upd B t o) A W (upd H t o):=⟨m.h.grow n,(zi (Same.refl _) (m.h.free n)) _ _ m.dl,m.ml⟩
def WAt.waste (m:WAt c B A W H) {t:Ad} {o:HO} (n:H t=none):WAt c B A W (upd H t o):=⟨m.h.waste n,m.dl,m.ml⟩
end
def sz (n:Nat) (h:n<=1000:=by decide):n<=sizeLine:=Nat.le_trans h (by decide)
def ne_kinds {H:Hp} {a b:Ad} {xs:Jn} {kvs:Jl} (ea:H a=some (.lst xs)) (eb:H b=some (.dK kvs)):a≠b:=λz=>by rw [z,eb] at ea;cases ea
inductive spTak (vs:Jn) (H:Hp) (Q:VK) (_:XK):Prop
 | mk (w aD:Ad) (kvs:Jl) (n:Nat) (ds:Jb) (_:vs=[.ref w]) (_:H w=some (.dK kvs)) (_:kvs.length<1000) (_:zQ kvs (.inr "spent")=some (.int n)) (_:zQ kvs (.inr "dust")=some (.ref aD)) (_:H aD=some (.lst (ds.map V.int))) (_:ds.length<=1000) (_:Q (.int (y9 ds n)) (upd H w (.dK (yh kvs (.inr "spent") (.int ((n+1:Nat):Int))))))
def ok_tak (d:zr K mg "_law_taken" Zn ["_law_world"]) (hlen:mg "len"=none):Ok P w K mg base CX0 1 "_law_taken" ["_law_world"] spTak:=by
 obtain ⟨g,fd,m,F,b⟩:=d;refine ⟨g,fd,m,F.kp,b,F.ok sc_l_taken (by rintro vs H Q E ⟨_,_,_,_,_,e,_⟩;rw [e];rfl) λcdv A outer s H vs Q E hr h=>?_⟩;obtain ⟨w,aD,kvs,n,ds,rfl,ew,lk,es,ed,ea,ld,q⟩:=h;have nd:=sc_l_taken.nd;have hu:=Nat.lt_of_le_of_lt (Nat.add_le_add_left (show 1<=64 by decide) _) hr.units;have SL:(200000:Nat)<sizeLine:=by decide
 refine ⟨_,(zc (Zq hu (pv 0) zn (zj zF (zM hu (pv 0) zn (λ_ _=>rfl)) zd) rfl)
   (zc (zO (zD ye (zC zN (by rfl) hlen PySem.boot_len (zb (zM hu (pv 0) zn (λ_ _=>rfl)) ze)) zd (zy _)) (zg (zo zd)) zw)
   (zg (zo (zm zE (zM hu (pv 0) zn (λ_ _=>rfl)) (zj yS (zj YS (zM hu (pv 0) zn (λ_ _=>rfl)) zd) (zC zN (by rfl) hlen PySem.boot_len (zb (zM hu (pv 0) zn (λ_ _=>rfl)) ze))) (λ_ _=>rfl)))))),?_⟩
 dsimp only [yd,Cx.nox,Cx.wish];have es':DGet H w (.str "spent") (some (.int (n:Int))):=es ▸ DGet.k (k:=.inr "spent") ew;refine ⟨_,rfl,w,_,rfl,es',_,_,rfl,rfl,_,rfl,w,_,rfl,DPut.k (k:=.inr "spent") ew (by omega),?_⟩;have ne:aD≠w:=ne_kinds ea ew;have e2:((n:Int)+1)=((n+1:Nat):Int):=by omega
 rw [e2];have ew1:upd H w (.dK (yh kvs (.inr "spent") (.int ((n+1:Nat):Int)))) w=some (.dK (yh kvs (.inr "spent") (.int ((n+1:Nat):Int)))):=zf;have ea1:upd H w (.dK (yh kvs (.inr "spent") (.int ((n+1:Nat):Int)))) aD=some (.lst (ds.map V.int)):=by rw [zk ne];exact ea
 have ed1:zQ (yh kvs (.inr "spent") (.int ((n+1:Nat):Int))) (.inr "dust")=some (.ref aD):=by rw [xA,if_neg (by decide)];exact ed
 have es1:zQ (yh kvs (.inr "spent") (.int ((n+1:Nat):Int))) (.inr "spent")=some (.int ((n+1:Nat):Int)):=by rw [xA,if_pos rfl]
 generalize upd H w (.dK (yh kvs (.inr "spent") (.int ((n+1:Nat):Int))))=J at ew1 ea1 q ⊢;have gd:DGet J w (.str "dust") (some (.ref aD)):=ed1 ▸ DGet.k (k:=.inr "dust") ew1;have gs:DGet J w (.str "spent") (some (.int ((n+1:Nat):Int))):=es1 ▸ DGet.k (k:=.inr "spent") ew1;refine ⟨_,rfl,w,_,rfl,gd,aD,_,rfl,.inl (SqL.of ea1),?_⟩;rw [Ji];refine ⟨rfl,_,rfl,xE (λz=>?_) (λz=>?_)⟩
 ·have z:(ds.length:Int)=0:=by simpa using z
  have:ds=[]:=List.eq_nil_of_length_eq_zero (by omega);subst this;exact q
 ·have z:ds.length≠0:=λy=>z (by rw [y];rfl)
  have nn:n % ds.length<ds.length:=Nat.mod_lt _ (by omega)
  have em:(((n+1:Nat):Int)-1) % (ds.length:Int)=((n % ds.length:Nat):Int):=by
   rw [show ((n+1:Nat):Int)-1=(n:Int) by omega];exact (Int.natCast_emod _ _).symm
  refine ⟨_,rfl,w,_,rfl,gd,_,rfl,w,_,rfl,gs,_,_,rfl,rfl,_,rfl,w,_,rfl,gd,aD,_,rfl,.inl (SqL.of ea1),_,_,rfl,rfl,(by rw [Ji];show (0:Int)<_;omega),aD,_,_,.int (y9 ds n),rfl,rfl,SqL.of ea1,?_,q⟩;rw [Ji,em];refine zv ?_;rw [List.getElem?_map,List.getElem?_eq_getElem nn];unfold y9;rw [q1x,List.getElem?_eq_getElem nn];rfl
def iT {b:Bool} {A B:Prop} (hb:b=true) (h:A):if b=true then A else B:=by rw [hb];exact xa h
def iF {b:Bool} {A B:Prop} (hb:b=false) (h:B):if b=true then A else B:=by rw [hb];exact ym h
section
variable {c:Wc} {B:Hp} {A:Wa} {W:Wr} {H:Hp}
def WAt.gF (m:WAt c B A W H):DGet H A.w (.str "flat") (some (.ref A.aF)):=DGet.k (k:=.inr "flat") (m.h.get 0 rfl)
def WAt.gC (m:WAt c B A W H):DGet H A.w (.str "cells") (some (.ref A.aC)):=DGet.k (k:=.inr "cells") (m.h.get 0 rfl)
def WAt.gL (m:WAt c B A W H):DGet H A.w (.str "long") (some (.int c.long)):=DGet.k (k:=.inr "long") (m.h.get 0 rfl)
def WAt.gM (m:WAt c B A W H):DGet H A.w (.str "masks") (some (.ref A.aM)):=DGet.k (k:=.inr "masks") (m.h.get 0 rfl)
def WAt.gW (m:WAt c B A W H):DGet H A.w (.str "width") (some (.int W.wq)):=DGet.k (k:=.inr "width") (m.h.get 0 rfl)
def WAt.gX (m:WAt c B A W H):DGet H A.w (.str "faults") (some (.ref A.aX)):=DGet.k (k:=.inr "faults") (m.h.get 0 rfl)
end
def Z7 {xs:Jb} {i:Int} (h0:0<=i) (h1:i.toNat<xs.length):atI (xs.map V.int) i=some (.int (xs.getD i.toNat 0)):=by
 obtain ⟨n,rfl⟩:∃ n:Nat,i=n:=⟨i.toNat,by omega⟩;rw [q0z] at h1 ⊢;refine zv ?_;rw [List.getElem?_map,q1x,List.getElem?_eq_getElem h1];rfl
def X4 {xs:Jn} {i:Int} (h0:0<=i) (h1:i.toNat<xs.length):ixN xs.length i=some i.toNat:=by
 unfold ixN;rw [if_pos h0,if_pos (by omega)]
structure Cb (c:Wc):Prop where
 s:c.side<=256
 l:c.long<=1000
 n:c.lq<=64
 d:c.dust.length<=1000
def yY (c:Wc) (p:Int) (t:Nat):Prop:=0<=p*c.side+t/\(p*c.side+t).toNat<8*c.lq
def InN (c:Wc) (s:S7) (base:Int) (t ce:Nat):Prop:=match s.w with
 | .num=>True
 | .here=>True
 | .load=>0<=s.b*c.long+(base+t)/\(s.b*c.long+(base+t)).toNat<ce
 | .copy=>yY c s.b t
 | .gather=>yY c s.b t/\∀ x:Int,0<=x->x<c.long->0<=s.d*c.long+x/\(s.d*c.long+x).toNat<ce
 | .pick=>s.e<16/\yY c s.b t/\yY c s.d t
 | _=>False
inductive spNo7 (vs:Jn) (H:Hp) (Q:VK) (_:XK):Prop
 | mk (c:Wc) (B:Hp) (A:Wa) (W:Wr) (s:S7) (bs:Int) (t:Nat) (st:Ad) (_:vs=[.ref A.w,.ref st,.int c.side,.int t,.int (bs+t)]) (_:WAt c B A W H) (_:B st=some (.tup s.tv)) (_:InN c s bs t W.cells.length) (_:Cb c) (_:WOk c W) (_:t<c.side) (_:Q (oV (W.lane c s bs t)) H)
theorem ok_no7 (d:zr K mg "_law_number_of" xg ["_law_world","_law_step_here","_law_side","_law_lane","_law_element"]):Ok P w K mg base CX0 1 "_law_number_of" ["_law_world","_law_step_here","_law_side","_law_lane","_law_element"] spNo7:=by
 obtain ⟨g,fd,m,F,b⟩:=d;refine ⟨g,fd,m,F.kp,b,F.ok sc_l_number_of (by rintro vs H Q E ⟨_,_,_,_,_,_,_,_,e,_⟩;rw [e];rfl) λcdv A outer s H vs Q E hr h=>?_⟩;obtain ⟨c,B,A,W,⟨w7,a,v,d,e,m⟩,bs,t,st,rfl,wa,est,il,cb,ok,ht,q⟩:=h;have nd:=sc_l_number_of.nd;have hu:=Nat.lt_of_le_of_lt (Nat.add_le_add_left (show 1<=64 by decide) _) hr.units;have hT:SqT K H st _:=SqT.of (wa.h.sm _ _ est);have c1:=cb.s;have c2:=cb.l;have mul:∀ x:Int,CMul x (c.side:Int):=λx=>.inr ⟨by omega,by omega⟩;have mulL:∀ x:Int,CMul x (c.long:Int):=λx=>.inr ⟨by omega,by omega⟩;have sF:∀ {p:Int},yY c p t->atI (W.flat.map V.int) (p*c.side+t)=some (.int (W.nat c p t)):=λh=>Z7 h.1 (by rw [ok.fl];exact h.2);refine ⟨_,(zc (zt (i:=5) nd rfl (Or.inl rfl) (zM hu (pv 0) zn (λ_ _=>rfl)))
   (zc (zO (zD ye (zm zB (pv 1) zd (λ_ _=>rfl)) zn (zy _)) (zg (zo (zm zB (pv 1) zd (λ_ _=>rfl)))) zw)
   (zc (zO (zD ye (zm zB (pv 1) zd (λ_ _=>rfl)) zn (zy _)) (zg (zo (pv 4))) zw)
   (zc (zO (zD ye (zm zB (pv 1) zd (λ_ _=>rfl)) zn (zy _)) (zg (zo (zm zE (zM hu (pv 0) zn (λ_ _=>rfl)) (zj zF (zj zP (zm zB (pv 1) zd (λ_ _=>rfl)) (zM hu (pv 0) zn (λ_ _=>rfl))) (pv 4)) (λ_ _=>rfl)))) zw)
   (zc (zO (zD ye (zm zB (pv 1) zd (λ_ _=>rfl)) zn (zy _)) (zc (zt (i:=6) nd rfl (Or.inl rfl) (zm zE (pv 5) (zj zF (zj zP (zm zB (pv 1) zd (λ_ _=>rfl)) (pv 2)) (pv 3)) (λ_ _=>rfl)))
   (zc (zO (Yc (zam op_le Yq zd (pv 6) (zM hu (pv 0) zn (λ_ _=>rfl)))) (zg (zo yR)) zw)
   (zg (zo (zm zE (zM hu (pv 0) zn (λ_ _=>rfl)) (zj zF (zj zP (zm zB (pv 1) zd (λ_ _=>rfl)) (zM hu (pv 0) zn (λ_ _=>rfl))) (pv 6)) (λ_ _=>rfl)))))) zw)
   (zc (zO (pw_or (zD ye (zm zB (pv 1) zd (λ_ _=>rfl)) zn (zy _)) (pw_or1 (yW (zm zE (zm zE (zM hu (pv 0) zn (λ_ _=>rfl)) (zm zB (pv 1) zd (λ_ _=>rfl)) (λ_ _=>rfl)) (pv 3) (λ_ _=>rfl))))).pt (zg (zo (zm zE (pv 5) (zj zF (zj zP (zm zB (pv 1) zd (λ_ _=>rfl)) (pv 2)) (pv 3)) (λ_ _=>rfl)))) zw)
   (zg (zo (zm zE (pv 5) (zj zF (zj zP (zm zB (pv 1) zd (λ_ _=>rfl)) (pv 2)) (pv 3)) (λ_ _=>rfl)))))))))),?_⟩
 dsimp only [yd,Cx.nox,Cx.wish];refine ⟨_,rfl,A.w,_,rfl,wa.gF,?_⟩
 cases w7 with
 | num=>exact ⟨_,rfl,st,_,_,_,rfl,rfl,hT,rfl,rfl,_,rfl,iT rfl ⟨_,rfl,st,_,_,_,rfl,rfl,hT,rfl,q⟩⟩
 | here=>exact ⟨_,rfl,st,_,_,_,rfl,rfl,hT,rfl,rfl,_,rfl,iF rfl ⟨_,rfl,st,_,_,_,rfl,rfl,hT,rfl,rfl,_,rfl,iT rfl ⟨_,rfl,q⟩⟩⟩
 | load=>exact ⟨_,rfl,st,_,_,_,rfl,rfl,hT,rfl,rfl,_,rfl,iF rfl ⟨_,rfl,st,_,_,_,rfl,rfl,hT,rfl,rfl,_,rfl,iF rfl ⟨_,rfl,st,_,_,_,rfl,rfl,hT,rfl,rfl,_,rfl,iT rfl ⟨_,rfl,A.w,_,rfl,wa.gC,_,rfl,st,_,_,_,rfl,rfl,hT,rfl,_,rfl,A.w,_,rfl,wa.gL,_,_,rfl,rfl,mulL _,_,rfl,_,_,rfl,rfl,A.aC,_,_,_,rfl,rfl,SqL.of (wa.h.get 2 rfl),Z7 il.1 il.2,q⟩⟩⟩⟩
 | gather =>
  refine ⟨_,rfl,st,_,_,_,rfl,rfl,hT,rfl,rfl,_,rfl,iF rfl ⟨_,rfl,st,_,_,_,rfl,rfl,hT,rfl,rfl,_,rfl,iF rfl ⟨_,rfl,st,_,_,_,rfl,rfl,hT,rfl,rfl,_,rfl,iF rfl ⟨_,rfl,st,_,_,_,rfl,rfl,hT,rfl,rfl,_,rfl,iT rfl ?_⟩⟩⟩⟩;refine ⟨_,rfl,_,rfl,st,_,_,_,rfl,rfl,hT,rfl,_,rfl,_,_,rfl,rfl,mul _,_,rfl,_,_,rfl,rfl,A.aF,_,_,_,rfl,rfl,SqL.of (wa.h.get 1 rfl),sF il.1,?_⟩;have q:Q (oV (if 0<=W.nat c v t/\W.nat c v t<c.long then some (W.cells.getD (d*c.long+W.nat c v t).toNat 0) else none)) H:=q;have il2:=il.2;generalize W.nat c v t=x at q ⊢;refine ⟨_,rfl,_,_,rfl,rfl,_,rfl,?_⟩;by_cases z0:(0:Int)<=x
  ·rw [decide_eq_true z0]
   refine xa ⟨_,rfl,A.w,_,rfl,wa.gL,_,_,rfl,rfl,_,rfl,?_⟩;by_cases z1:x<c.long
   ·rw [decide_eq_true z1]
    rw [if_pos ⟨z0,z1⟩] at q;have i2:=il2 x z0 z1;exact ym ⟨_,rfl,A.w,_,rfl,wa.gC,_,rfl,st,_,_,_,rfl,rfl,hT,rfl,_,rfl,A.w,_,rfl,wa.gL,_,_,rfl,rfl,mulL _,_,rfl,_,_,rfl,rfl,A.aC,_,_,_,rfl,rfl,SqL.of (wa.h.get 2 rfl),Z7 i2.1 i2.2,q⟩
   ·rw [decide_eq_false z1]
    rw [if_neg (λy=>z1 y.2)] at q;exact xa q
  ·rw [decide_eq_false z0]
   rw [if_neg (λy=>z0 y.1)] at q;exact ym ⟨_,rfl,xa q⟩
 | copy =>
  exact ⟨_,rfl,st,_,_,_,rfl,rfl,hT,rfl,rfl,_,rfl,iF rfl ⟨_,rfl,st,_,_,_,rfl,rfl,hT,rfl,rfl,_,rfl,iF rfl ⟨_,rfl,st,_,_,_,rfl,rfl,hT,rfl,rfl,_,rfl,iF rfl ⟨_,rfl,st,_,_,_,rfl,rfl,hT,rfl,rfl,_,rfl,iF rfl ⟨_,rfl,st,_,_,_,rfl,rfl,hT,rfl,rfl,_,rfl,iT rfl (xa ⟨_,rfl,_,rfl,st,_,_,_,rfl,rfl,hT,rfl,_,rfl,_,_,rfl,rfl,mul _,_,rfl,_,_,rfl,rfl,A.aF,_,_,_,rfl,rfl,SqL.of (wa.h.get 1 rfl),sF il,q⟩)⟩⟩⟩⟩⟩
 | pick =>
  obtain ⟨e16,ib,id⟩:=il;have e16:e<16:=e16;obtain ⟨mx,emx,omx⟩:=wa.mask (k:=e) (by rw [ok.ml];exact e16);have ml:=ok.mm e e16;have q:Q (oV (some (if W.truth e t=true then W.nat c v t else W.nat c d t))) H:=q;refine ⟨_,rfl,st,_,_,_,rfl,rfl,hT,rfl,rfl,_,rfl,iF rfl ⟨_,rfl,st,_,_,_,rfl,rfl,hT,rfl,rfl,_,rfl,iF rfl ⟨_,rfl,st,_,_,_,rfl,rfl,hT,rfl,rfl,_,rfl,iF rfl ⟨_,rfl,st,_,_,_,rfl,rfl,hT,rfl,rfl,_,rfl,iF rfl ⟨_,rfl,st,_,_,_,rfl,rfl,hT,rfl,rfl,_,rfl,iF rfl ?_⟩⟩⟩⟩⟩;refine ⟨_,rfl,A.w,_,rfl,wa.gM,_,rfl,st,_,_,_,rfl,rfl,hT,rfl,A.aM,_,_,.ref mx,rfl,rfl,SqL.of (wa.h.get 4 rfl),zv (by rw [List.getElem?_map,emx];rfl),_,rfl,mx,_,_,.bl (W.truth e t),rfl,rfl,SqL.of (wa.h.get _ omx),?_,_,rfl,?_⟩
  ·refine zv ?_
   unfold Wr.truth;rw [List.getElem?_map,q1x (l:=W.masks.getD e []),List.getElem?_eq_getElem (by omega)];rfl
  cases hb:W.truth e t with
  | true =>
   rw [hb,if_pos rfl] at q;exact xa ⟨_,rfl,_,rfl,st,_,_,_,rfl,rfl,hT,rfl,_,rfl,_,_,rfl,rfl,mul _,_,rfl,_,_,rfl,rfl,A.aF,_,_,_,rfl,rfl,SqL.of (wa.h.get 1 rfl),sF ib,q⟩
  | false =>
   rw [hb,if_neg Bool.noConfusion] at q;exact ym ⟨_,rfl,_,rfl,st,_,_,_,rfl,rfl,hT,rfl,_,rfl,_,_,rfl,rfl,mul _,_,rfl,_,_,rfl,rfl,A.aF,_,_,_,rfl,rfl,SqL.of (wa.h.get 1 rfl),sF id,q⟩
 | choose=>exact il.elim
 | other=>exact il.elim
 | store=>exact il.elim
 | trim=>exact il.elim
def dec_two (n:Int):decide (V.int (n % 2)=V.int 1)=decide (n % 2=1):=by
 by_cases z:n % 2=1
 ·rw [z];rfl
 ·rw [decide_eq_false z,decide_eq_false (λy=>z (V.int.inj y))]
inductive spMk7 (vs:Jn) (H:Hp) (Q:VK) (_:XK):Prop
 | mk (c:Wc) (B:Hp) (A:Wa) (W:Wr) (no:Bool) (a e m:Nat) (v d:Int) (t:Nat) (st:Ad) (_:vs=[.ref A.w,.ref st,.int c.side,.int t,.bl (W.actv m t)]) (_:WAt c B A W H) (_:B st=some (.tup (S7.tv ⟨wm no,a,v,d,e,m⟩))) (_:yY c v t) (_:a<16) (_:Cb c) (_:WOk c W) (_:t<c.side) (_:∀ H',WAt c B A (W.msk c ⟨wm no,a,v,d,e,m⟩ no t) H'->Q .non H')
theorem ok_mk7 (d:zr K mg "_law_masked" x8 ["_law_world","_law_step_here","_law_side","_law_lane","_law_active"]) (TK:Ok P w K mg base CX0 1 "_law_taken" ["_law_world"] spTak):Ok P w K mg base CX0 2 "_law_masked" ["_law_world","_law_step_here","_law_side","_law_lane","_law_active"] spMk7:=by
 obtain ⟨g,fd,m,F,b⟩:=d;refine ⟨g,fd,m,F.kp,b,F.ok sc_l_masked (by rintro vs H Q E ⟨_,_,_,_,_,_,_,_,_,_,_,_,e,_⟩;rw [e];rfl) λcdv A outer s H vs Q E hr h=>?_⟩;obtain ⟨c,B,A,W,no,a,e,m,v,d,t,st,rfl,wa,est,ib,a16,cb,ok,ht,q⟩:=h;have nd:=sc_l_masked.nd;have hr1:Room 1 _:=hr;have hu:=Nat.lt_of_le_of_lt (Nat.add_le_add_left (show 1<=64 by decide) _) hr.units;have c1:=cb.s;have mul:∀ x:Int,CMul x (c.side:Int):=λx=>.inr ⟨by omega,by omega⟩;obtain ⟨word,etv,ew⟩:∃ word:Str,S7.tv ⟨wm no,a,v,d,e,m⟩=[.str word,.int a,.int v,.int m]/\decide (V.str word=V.str "other")=no:=by cases no <;> exact ⟨_,rfl,rfl⟩
 rw [etv] at est;have hT:SqT K H st [.str word,.int a,.int v,.int m]:=SqT.of (wa.h.sm _ _ est);have aml:a<W.masks.length:=by rw [ok.ml];exact a16
 obtain ⟨ma,ema,oma⟩:=wa.mask (k:=a) aml;have alen:=ok.mm a a16;refine ⟨_,(zc (yc (zt (i:=5) nd rfl (Or.inl rfl) (yD ye (zm zE (zM hu (pv 0) zn (λ_ _=>rfl)) (zj zF (zj zP (zm zB (pv 1) zd (λ_ _=>rfl)) (pv 2)) (pv 3)) (λ_ _=>rfl)) zd (zy _))))
   (zc (yc (zt (i:=6) nd rfl (Or.inl rfl) (Yf (pv 4) (XW (yD ye (pv 5) (yD ye (zm zB (pv 1) zd (λ_ _=>rfl)) zn (zy _)) (zy _))))))
   (zc (yc (zO (zD op_ge (pv 3) (zM hu (pv 0) zn (λ_ _=>rfl)) (zy _)) (zg (zt (i:=6) nd rfl (Or.inl rfl) (yD ye (zj yS (zK TK hr1 (by rfl) zq (zb (pv 0) ze)) zd) zd (zy _)))) zw))
   (zg (Za (pv 6) (Zb (zm zE (zM hu (pv 0) zn (λ_ _=>rfl)) (zm zB (pv 1) zd (λ_ _=>rfl)) (λ_ _=>rfl)) (pv 3) yX)))))),?_⟩
 dsimp only [yd,Cx.nox,Cx.wish];refine ⟨λσ J=>σ=[some (.ref A.w),some (.ref st),some (.int c.side),some (.int t),some (.bl (W.actv m t)),some (.bl (decide (W.nat c v t=0))),none]/\J=H,?_,?_⟩
 ·refine ⟨_,rfl,A.w,_,rfl,wa.gF,_,rfl,st,_,_,_,rfl,rfl,hT,rfl,_,rfl,_,_,rfl,rfl,mul _,_,rfl,_,_,rfl,rfl,A.aF,_,_,_,rfl,rfl,SqL.of (wa.h.get 1 rfl),Z7 ib.1 (by rw [ok.fl];exact ib.2),rfl,?_⟩
  have e0:decide (V.int (W.flat.getD (v*c.side+(t:Int)).toNat 0)=V.int 0)=decide (W.nat c v t=0):=by
   unfold Wr.nat;by_cases z:W.flat.getD (v*c.side+(t:Int)).toNat 0=0
   ·rw [z];rfl
   ·rw [decide_eq_false z,decide_eq_false (λy=>z (V.int.inj y))]
  rw [e0];exact ⟨rfl,rfl⟩
 rintro σ J ⟨rfl,rfl⟩;refine ⟨λσ J'=>σ=[some (.ref A.w),some (.ref st),some (.int c.side),some (.int t),some (.bl (W.actv m t)),some (.bl (decide (W.nat c v t=0))),some (.bl (W.actv m t && decide (decide (W.nat c v t=0)=no)))]/\J'=J,?_,?_⟩
 ·refine ⟨_,rfl,_,rfl,?_⟩
  show if W.actv m t=true then _ else _
  cases hA:W.actv m t with
  | false=>exact ym ⟨rfl,rfl⟩
  | true =>
   refine xa ⟨_,rfl,_,rfl,st,_,_,_,rfl,rfl,hT,rfl,rfl,rfl,?_⟩;rw [ew]
   have e1:decide (V.bl (decide (W.nat c v t=0))=V.bl no)=decide (decide (W.nat c v t=0)=no):=by
    by_cases z:decide (W.nat c v t=0)=no
    ·rw [z];rw [decide_eq_true rfl,decide_eq_true rfl]
    ·rw [decide_eq_false z,decide_eq_false (λy=>z (V.bl.inj y))]
   rw [e1];exact ⟨rfl,rfl⟩
 rintro σ J' ⟨rfl,rfl⟩;have sx:W.msk c ⟨wm no,a,v,d,e,m⟩ no t=if t<W.wq then { W with masks:=W.setM a t (W.actv m t && decide (decide (W.nat c v t=0)=no)) } else { W with masks:=W.setM a t (decide (y9 c.dust W.spent % 2=1)),spent:=W.spent+1 }:=rfl;refine ⟨λσ J3=>∃ (tr:Bool) (Y:Wr),σ=[some (.ref A.w),some (.ref st),some (.int c.side),some (.int t),some (.bl (W.actv m t)),some (.bl (decide (W.nat c v t=0))),some (.bl tr)]/\WAt c B A Y J3/\Y.masks=W.masks/\W.msk c ⟨wm no,a,v,d,e,m⟩ no t={ Y with masks:=W.setM a t tr },?_,?_⟩
 ·refine ⟨_,rfl,_,rfl,A.w,_,rfl,wa.gW,_,_,rfl,rfl,_,rfl,?_⟩
  by_cases hw:t<W.wq
  ·rw [decide_eq_false (show ¬ (W.wq:Int)<=(t:Int) by omega)]
   rw [if_pos hw] at sx;exact ym ⟨_,W,rfl,wa,rfl,sx⟩
  ·rw [decide_eq_true (show (W.wq:Int)<=(t:Int) by omega)]
   rw [if_neg hw] at sx;refine xa ⟨_,rfl,A.w,A.aD,_,W.spent,c.dust,rfl,wa.h.get 0 rfl,(show (8:Nat)<1000 by decide),rfl,rfl,wa.h.sm _ _ wa.dl,cb.d,_,_,rfl,rfl,(by show (0:Int)<2;decide),rfl,?_⟩;refine ⟨_,{ W with spent:=W.spent+1 },rfl,wa.spent (W.spent+1),rfl,?_⟩;rw [sx,dec_two]
 rintro σ J3 ⟨tr,Y,rfl,wY,eY,sY⟩
 have gm:J3 ma=some (.lst ((W.masks.getD a []).map V.bl)):=by
  obtain ⟨m2,em2,om2⟩:=wY.mask (k:=a) (by rw [eY];exact aml);rw [ema] at em2;cases em2;rw [← eY];exact wY.h.get _ om2
 refine ⟨_,rfl,_,rfl,A.w,_,rfl,wY.gM,_,rfl,st,_,_,_,rfl,rfl,SqT.of (wY.h.sm _ _ est),rfl,A.aM,_,_,.ref ma,rfl,rfl,SqL.of (wY.h.get 4 rfl),zv (by rw [List.getElem?_map,ema];rfl),_,rfl,ma,_,_,_,rfl,rfl,gm,X4 (i:=(t:Int)) (by omega) (by rw [Ji];omega),?_⟩;have w3:=wY.putMask ema (by rw [eY];exact aml) ((W.masks.getD a []).set t tr);rw [List.map_set] at w3;refine q _ ?_;rw [sY];unfold Wr.setM;rw [eY] at w3;exact w3
inductive spLa7 (vs:Jn) (H:Hp) (Q:VK) (_:XK):Prop
 | mk (c:Wc) (B:Hp) (A:Wa) (W:Wr) (s:S7) (bs:Int) (t:Nat) (st:Ad) (_:vs=[.ref A.w,.ref st,.int c.side,.int t,.bl (W.actv s.m t),.int (bs+t)]) (_:WAt c B A W H) (_:B st=some (.tup s.tv)) (_:s.tv[1]?=some (.int s.a)) (_:yY c s.a t) (_:(W.actv s.m t=true->InN c s bs t W.cells.length)) (_:Cb c) (_:WOk c W) (_:t<c.side) (_:W.fq.length<100000) (_:∀ H',WAt c B A (W.lay c s bs t) H'->Q .non H')
theorem ok_la7 (d:zr K mg "_law_laid" ZN ["_law_world","_law_step_here","_law_side","_law_lane","_law_active","_law_element"]) (TK:Ok P w K mg base CX0 1 "_law_taken" ["_law_world"] spTak) (NO:Ok P w K mg base CX0 1 "_law_number_of" ["_law_world","_law_step_here","_law_side","_law_lane","_law_element"] spNo7):Ok P w K mg base CX0 2 "_law_laid" ["_law_world","_law_step_here","_law_side","_law_lane","_law_active","_law_element"] spLa7:=by
 obtain ⟨g,fd,m,F,b⟩:=d;refine ⟨g,fd,m,F.kp,b,F.ok sc_l_laid (by rintro vs H Q E ⟨_,_,_,_,_,_,_,_,e,_⟩;rw [e];rfl) λcdv A outer s H vs Q E hr h=>?_⟩;obtain ⟨c,B,A,W,s,bs,t,st,rfl,wa,est,tv1,ia,il,cb,ok,ht,fl,q⟩:=h;have nd:=sc_l_laid.nd;have hr1:Room 1 _:=hr;have hu:=Nat.lt_of_le_of_lt (Nat.add_le_add_left (show 1<=64 by decide) _) hr.units;have SL:(200000:Nat)<sizeLine:=by decide
 have c1:=cb.s;have mul:∀ x:Int,CMul x (c.side:Int):=λx=>.inr ⟨by omega,by omega⟩;have t1:atI s.tv ((1:Nat):Int)=some (.int s.a):=zv tv1;refine ⟨_,(zc (zt (i:=6) nd rfl (Or.inl rfl) yR)
   (zc (yc (zO (yW (pv 4)) (zc (zt (i:=6) nd rfl (Or.inl rfl) (zK NO hr1 (by rfl) zq (zb (pv 0) (zb (pv 1) (zb (pv 2) (zb (pv 3) (zb (pv 5) ze)))))))
   (zg (zO (zD Yg (pv 6) yR (zy _)) (zg (zW (pe_bm PySem.F.plainAttrs_list PySem.F.slot_list_append PySem.F.type_list_append xz (zM hu (pv 0) zn (λ_ _=>rfl)) (zb (pv 3) ze)))) zw))) zw))
   (zc (yc (zO (zD Yg (pv 6) yR (zy _)) (zg (zt (i:=6) nd rfl (Or.inl rfl) (zK TK hr1 (by rfl) zq (zb (pv 0) ze)))) zw))
   (zg (Za (pv 6) (Zb (zM hu (pv 0) zn (λ_ _=>rfl)) (zj zF (zj zP (zm zB (pv 1) zd (λ_ _=>rfl)) (pv 2)) (pv 3)) yX)))))),?_⟩
 dsimp only [yd,Cx.nox,Cx.wish];refine ⟨λσ J=>∃ (o:Option Int) (Y:Wr),σ=[some (.ref A.w),some (.ref st),some (.int c.side),some (.int t),some (.bl (W.actv s.m t)),some (.int (bs+t)),some (oV o)]/\WAt c B A Y J/\Y.flat=W.flat/\W.lay c s bs t=(match o with | some n=>{ Y with flat:=W.flat.set ((s.a:Int)*c.side+t).toNat n } | none=>{ Y with flat:=W.flat.set ((s.a:Int)*c.side+t).toNat (y9 c.dust Y.spent),spent:=Y.spent+1 }),?_,?_⟩
 ·refine ⟨_,rfl,_,rfl,?_⟩
  show if W.actv s.m t=true then _ else _
  cases hA:W.actv s.m t with
  | false =>
   refine ym ⟨none,W,rfl,wa,rfl,?_⟩;unfold Wr.lay;rw [hA];rfl
  | true =>
   refine xa ⟨_,rfl,_,rfl,_,rfl,_,rfl,_,rfl,c,B,A,W,s,bs,t,st,rfl,wa,est,il hA,cb,ok,ht,?_⟩
   have ly:W.lay c s bs t=(match W.lane c s bs t with | some n=>{ W with flat:=W.flat.set ((s.a:Int)*c.side+t).toNat n } | none=>{ W with flat:=W.flat.set ((s.a:Int)*c.side+t).toNat (y9 c.dust W.spent),spent:=W.spent+1,fq:=W.fq++[(t:Int)] }):=by
    unfold Wr.lay;rw [hA];rfl
   refine ⟨_,rfl,rfl,_,rfl,?_⟩
   cases hv:W.lane c s bs t with
   | some n =>
    rw [hv] at ly;exact iF rfl ⟨some n,W,rfl,wa,rfl,ly⟩
   | none =>
    rw [hv] at ly;refine iT rfl ⟨_,rfl,A.w,_,rfl,wa.gX,.inl ⟨rfl,_,wa.h.lst 3 rfl⟩,_,rfl,A.aX,_,_,rfl,rfl,wa.h.get 3 rfl,(by rw [Ji];omega),?_⟩;have w3:=wa.fq (W.fq++[(t:Int)]);rw [Jk] at w3;exact ⟨none,_,rfl,w3,rfl,ly⟩
 rintro σ J ⟨o,Y,rfl,wY,eF,ly⟩;refine ⟨λσ J=>∃ (n:Int) (Y:Wr),σ=[some (.ref A.w),some (.ref st),some (.int c.side),some (.int t),some (.bl (W.actv s.m t)),some (.int (bs+t)),some (.int n)]/\WAt c B A Y J/\Y.flat=W.flat/\W.lay c s bs t={ Y with flat:=W.flat.set ((s.a:Int)*c.side+t).toNat n },?_,?_⟩
 ·refine ⟨_,rfl,rfl,_,rfl,?_⟩
  cases o with
  | some n=>exact iF rfl ⟨n,Y,rfl,wY,eF,ly⟩
  | none =>
   refine iT rfl ⟨_,rfl,A.w,A.aD,_,Y.spent,c.dust,rfl,wY.h.get 0 rfl,(show (8:Nat)<1000 by decide),rfl,rfl,wY.h.sm _ _ wY.dl,cb.d,?_⟩;exact ⟨y9 c.dust Y.spent,{ Y with spent:=Y.spent+1 },rfl,wY.spent (Y.spent+1),eF,ly⟩
 rintro σ J ⟨n,Y,rfl,wY,eF,ly⟩;refine ⟨_,rfl,_,rfl,A.w,_,rfl,wY.gF,_,rfl,st,_,_,_,rfl,rfl,SqT.of (wY.h.sm _ _ est),t1,_,rfl,_,_,rfl,rfl,mul _,_,rfl,_,_,rfl,rfl,A.aF,_,_,_,rfl,rfl,wY.h.get 1 rfl,X4 ia.1 (by rw [Ji,eF,ok.fl];exact ia.2),?_⟩;have w3:=wY.flat (W.flat.set ((s.a:Int)*c.side+t).toNat n);rw [List.map_set,← eF] at w3;refine q _ ?_;rw [ly,← eF];exact w3
theorem inV_int (i:Int):∀ xs:Jb,inV (.int i) (xs.map V.int)=xs.contains i
 | []=>rfl
 | x::xs=>by
  show (x == i || inV (.int i) (xs.map V.int))=_;rw [inV_int i xs,List.contains_cons];congr 1;rw [Bool.eq_iff_iff,beq_iff_eq,beq_iff_eq];exact eq_comm
theorem step_ok {c:Wc} {W:Wr} (s:S7) (bs:Int) (t:Nat) (o:WOk c W):WOk c (W.step c s bs t)/\(W.step c s bs t).fq.length<=W.fq.length+1/\(W.step c s bs t).wq=W.wq:=by
 obtain ⟨w,a,b,d,e,m⟩:=s
 have hm:∀ v,WOk c { W with masks:=W.setM a t v }:=λv=>by
  refine ⟨o.fl,by show (W.masks.set _ _).length=_;rw [List.length_set];exact o.ml,λk hk=>?_,o.fp⟩;show c.side<=((W.masks.set a _).getD k []).length;by_cases ha:a<W.masks.length
  ·rw [Zw _ _ _ ha]
   by_cases z:k=a
   ·rw [if_pos z,List.length_set,← z];exact o.mm k hk
   ·rw [if_neg z];exact o.mm k hk
  ·rw [List.set_eq_of_length_le (by omega)];exact o.mm k hk
 have msk:∀ w no,WOk c (W.msk c ⟨w,a,b,d,e,m⟩ no t)/\(W.msk c ⟨w,a,b,d,e,m⟩ no t).fq.length<=W.fq.length+1/\(W.msk c ⟨w,a,b,d,e,m⟩ no t).wq=W.wq:=λw no=>by
  unfold Wr.msk
  split
  ·exact ⟨hm _,Nat.le_succ _,rfl⟩
  ·have q:=hm (decide (y9 c.dust W.spent % 2=1))
   exact ⟨⟨q.fl,q.ml,q.mm,q.fp⟩,Nat.le_succ _,rfl⟩
 have lay:∀ w,WOk c (W.lay c ⟨w,a,b,d,e,m⟩ bs t)/\(W.lay c ⟨w,a,b,d,e,m⟩ bs t).fq.length<=W.fq.length+1/\(W.lay c ⟨w,a,b,d,e,m⟩ bs t).wq=W.wq:=λw=>by
  have hf:∀ v,(W.flat.set ((a:Int)*c.side+t).toNat v).length=8*c.lq:=λv=>by rw [List.length_set];exact o.fl
  unfold Wr.lay
  split
  ·exact ⟨⟨hf _,o.ml,o.mm,o.fp⟩,Nat.le_succ _,rfl⟩
  ·refine ⟨⟨hf _,o.ml,o.mm,λj hj=>?_⟩,?_,rfl⟩
   ·have hj:j∈(if W.actv m t then W.fq++[(t:Int)] else W.fq):=hj
    split at hj
    ·rcases List.mem_append.mp hj with hj | hj
     ·exact o.fp j hj
     ·cases List.mem_singleton.mp hj;omega
    ·exact o.fp j hj
   ·show (if W.actv m t then W.fq++[(t:Int)] else W.fq).length<=_
    split
    ·rw [Jj];exact Nat.le_refl _
    ·exact Nat.le_succ _
 cases w with
 | choose=>exact msk _ _
 | other=>exact msk _ _
 | trim=>exact ⟨o,Nat.le_succ _,rfl⟩
 | store =>
  show WOk c (if W.actv m t then W.out c ⟨.store,a,b,d,e,m⟩ bs t else W)/\(if W.actv m t then W.out c ⟨.store,a,b,d,e,m⟩ bs t else W).fq.length<=_/\(if W.actv m t then W.out c ⟨.store,a,b,d,e,m⟩ bs t else W).wq=_
  split
  ·exact ⟨⟨o.fl,o.ml,o.mm,o.fp⟩,Nat.le_succ _,rfl⟩
  ·exact ⟨o,Nat.le_succ _,rfl⟩
 | num=>exact lay _
 | here=>exact lay _
 | load=>exact lay _
 | copy=>exact lay _
 | pick=>exact lay _
 | gather=>exact lay _
def pre_ok {c:Wc} {W:Wr} (s:S7) (o:WOk c W):WOk c (W.pre s)/\(W.pre s).fq=W.fq/\(W.pre s).wq<=W.wq/\(W.pre s).cells=W.cells:=by
 unfold Wr.pre
 split
 ·refine ⟨⟨o.fl,o.ml,o.mm,o.fp⟩,rfl,?_,rfl⟩
  show ZV W.wq W.fq<=W.wq;have:=YB ((W.wq:Int)::W.fq) W.wq q1z;unfold ZV;omega
 ·exact ⟨o,rfl,Nat.le_refl _,rfl⟩
theorem XU {c:Wc} {W:Wr} (s:S7) (bs:Int) (o:WOk c W):∀ n,WOk c (W.play c s bs n)/\(W.play c s bs n).fq.length<=W.fq.length+n/\(W.play c s bs n).wq<=W.wq
 | 0=>by
  obtain ⟨a,b,d,_⟩:=pre_ok s o;exact ⟨a,by show (W.pre s).fq.length<=_;rw [b];exact Nat.le_refl _,d⟩
 | n+1=>by
  obtain ⟨a,b,d⟩:=XU s bs o n;rw [Wr.play_succ];obtain ⟨x,y,z⟩:=step_ok s bs n a;exact ⟨x,by omega,by omega⟩
structure Bd7 (c:Wc) (s:S7) (bs:Int) (wd ce:Nat):Prop where
 m:s.w≠.trim->s.m<16
 k:match s.w with
  | .choose=>s.a<16/\∀ t:Nat,t<c.side->yY c s.b t
  | .other=>s.a<16/\∀ t:Nat,t<c.side->yY c s.b t
  | .store=>(∀ t:Nat,t<c.side->yY c s.b t)/\∀ t:Nat,t<wd->0<=(s.a:Int)*c.long+(bs+t)/\((s.a:Int)*c.long+(bs+t)).toNat<ce
  | .trim=>True
  | _=>(∀ t:Nat,t<c.side->yY c s.a t)/\∀ t:Nat,t<wd->InN c s bs t ce
inductive spPl7 (vs:Jn) (H:Hp) (Q:VK) (_:XK):Prop
 | mk (c:Wc) (B:Hp) (A:Wa) (W:Wr) (s:S7) (bs:Int) (wd:Nat) (st:Ad) (_:vs=[.ref A.w,.ref st,.int c.side,.int bs]) (_:WAt c B A W H) (_:B st=some (.tup s.tv)) (_:WOk c W) (_:Bd7 c s bs wd W.cells.length) (_:W.wq<=wd) (_:Cb c) (_:W.fq.length+c.side<100000) (_:∀ B' H',Same B B'->WAt c B' A (W.play c s bs c.side) H'->Q .non H')
theorem ok_pl7 (d:zr K mg "_law_played" xZ ["_law_world","_law_step_here","_law_side","_law_base"]) (hrg:mg "range"=none) (hmin:mg "min"=none) (MK:Ok P w K mg base CX0 2 "_law_masked" ["_law_world","_law_step_here","_law_side","_law_lane","_law_active"] spMk7) (LA:Ok P w K mg base CX0 2 "_law_laid" ["_law_world","_law_step_here","_law_side","_law_lane","_law_active","_law_element"] spLa7) :
  Ok P w K mg base CX0 3 "_law_played" ["_law_world","_law_step_here","_law_side","_law_base"] spPl7:=by
 obtain ⟨g,fd,m,F,b⟩:=d;refine ⟨g,fd,m,F.kp,b,F.ok sc_l_played (by rintro vs H Q E ⟨_,_,_,_,_,_,_,_,e,_⟩;rw [e];rfl) λcdv A outer s H vs Q E hr h=>?_⟩;obtain ⟨c,B,A,W,s,bs,wd,st,rfl,wa,est,ok,bd,wle,cb,fl,q⟩:=h;have nd:=sc_l_played.nd;have hr2:Room 2 _:=hr;have hu:=Nat.lt_of_le_of_lt (Nat.add_le_add_left (show 1<=64 by decide) _) hr.units;have SL:(200000:Nat)<sizeLine:=by decide
 have c1:=cb.s;have c2:=cb.l;have hT:SqT K H st s.tv:=SqT.of (wa.h.sm _ _ est);refine ⟨_,(zc (yc (zO (zD ye (zm zB (pv 1) zd (λ_ _=>rfl)) zn (zy _)) (zc (Zq hu (pv 0) zn (zC (XD rfl) (by rfl) hmin PyProof.Rows.boot_min (zb (zj YT (yu (zb (zM hu (pv 0) zn (λ_ _=>rfl)) ze)) (zM hu (pv 0) zn (λ_ _=>rfl))) ze)) rfl)
   (zg (zt (i:=1) nd rfl (Or.inl rfl) (yt (zb zn (zb zd ze)))))) zw))
   (zg (xR PassesOwn.never rfl (yk rfl hrg (zb (pv 2) ze)) (zH (i:=4) nd rfl (Or.inl rfl)) (zc (yc (zt (i:=5) nd rfl (Or.inl rfl) (Yf (yD Yq (pv 4) (zM hu (pv 0) zn (λ_ _=>rfl)) (zy _)) (Yf (zm zE (zm zE (zM hu (pv 0) zn (λ_ _=>rfl)) (zm zB (pv 1) (pe_un un_neg zd) (λ_ _=>rfl)) (λ_ _=>rfl)) (pv 4) (λ_ _=>rfl)) (XW (yD X0 (pv 4) (zM hu (pv 0) zn (λ_ _=>rfl)) rfl))))))
   (zg (zO (pw_or (zD ye (zm zB (pv 1) zd (λ_ _=>rfl)) zn (zy _)) (pw_or1 (zD ye (zm zB (pv 1) zd (λ_ _=>rfl)) zn (zy _)))).pt (zg (zW (zK MK hr2 (by rfl) zq (zb (pv 0) (zb (pv 1) (zb (pv 2) (zb (pv 4) (zb (pv 5) ze)))))))) (zg (zO (zD ye (zm zB (pv 1) zd (λ_ _=>rfl)) zn (zy _)) (zg (zO (yW (pv 5)) (zc (zt (i:=6) nd rfl (Or.inl rfl) (zj zF (zj zF (zj zP (zm zB (pv 1) zd (λ_ _=>rfl)) (zM hu (pv 0) zn (λ_ _=>rfl))) (pv 3)) (pv 4)))
   (zg (Za (zm zE (zM hu (pv 0) zn (λ_ _=>rfl)) (zj zF (zj zP (zm zB (pv 1) zd (λ_ _=>rfl)) (pv 2)) (pv 4)) (λ_ _=>rfl)) (Zb (zM hu (pv 0) zn (λ_ _=>rfl)) (pv 6) yX)))) zw)) (zg (zO (zD op_ne (zm zB (pv 1) zd (λ_ _=>rfl)) zn (zy _)) (zg (zW (zK LA hr2 (by rfl) zq (zb (pv 0) (zb (pv 1) (zb (pv 2) (zb (pv 4) (zb (pv 5) (zb (zj zF (pv 3) (pv 4)) ze))))))))) zw)))))))))),?_⟩
 dsimp only [yd,Cx.nox,Cx.wish];refine ⟨λσ J=>∃ (B':Hp) (st':Ad) (tv:Jn) (word:Str) (mk:Nat),σ=[rq A.w,rq st',iq c.side,iq bs,none,none,none]/\Same B B'/\WAt c B' A (W.pre s) J/\B' st'=some (.tup tv)/\tv[0]?=some (.str word)/\atI tv (-1)=some (.int (mk:Nat))/\mk<16/\(s.w≠.trim->tv=s.tv/\mk=s.m)/\(s.w=.trim->word="none"),?_,?_⟩
 ·by_cases ht:s.w=.trim
  ·have etv:s.tv=[.str "trim"]:=by unfold S7.tv;rw [ht]
   have epr:W.pre s={ W with wq:=ZV W.wq W.fq }:=by unfold Wr.pre;rw [ht]
   rw [etv] at hT;refine ⟨_,rfl,st,_,_,_,rfl,rfl,hT,rfl,rfl,_,rfl,iT rfl ?_⟩;refine ⟨_,rfl,A.w,_,rfl,wa.gW,(sz 1),λt1 nt1=>?_⟩;have w1:=wa.waste (o:=.lst [.int W.wq]) nt1;have e1:upd H t1 (.lst [.int W.wq]) t1=_:=zf;generalize upd H t1 (.lst [.int W.wq])=G1 at w1 e1 ⊢;refine ⟨_,rfl,A.w,_,rfl,w1.gX,t1,A.aX,_,_,rfl,rfl,e1,w1.h.get 3 rfl,(by rw [Ji];show 1+_<=_;omega),λt2 nt2=>?_⟩;have elst:[V.int W.wq]++W.fq.map V.int=((W.wq:Int)::W.fq).map V.int:=rfl;rw [elst];have w2:=w1.waste (o:=.lst (((W.wq:Int)::W.fq).map V.int)) nt2;have e2:upd G1 t2 (.lst (((W.wq:Int)::W.fq).map V.int)) t2=_:=zf;generalize upd G1 t2 (.lst (((W.wq:Int)::W.fq).map V.int))=G2 at w2 e2 ⊢;refine ⟨t2,_,rfl,SqL.of e2,(by rw [q3x];omega),λmv hm1 hm2=>?_⟩
   have emv:mv=(ZV W.wq W.fq:Nat):=by
    have:=YC hm1 hm2
    have m0:0<=mv:=by
     rcases List.mem_cons.mp hm1 with rfl | hm
     ·omega
     ·exact ok.fp mv hm
    unfold ZV;rw [← this,Int.toNat_of_nonneg m0]
   subst emv;refine ⟨_,rfl,A.w,_,rfl,DPut.k (k:=.inr "width") (w2.h.get 0 rfl) (show (8:Nat)<sizeLine by omega),?_⟩;have w3:=w2.wq (ZV W.wq W.fq);have e5:yh (wkv c A W.spent W.wq) (.inr "width") (.int (ZV W.wq W.fq:Nat))=wkv c A W.spent (ZV W.wq W.fq):=rfl;rw [e5];generalize upd G2 A.w (.dK (wkv c A W.spent (ZV W.wq W.fq)))=G3 at w3 ⊢;refine ⟨(sz 2),λt3 nt3=>?_⟩;refine ⟨_,t3,[.str "none",.int 0],"none",0,rfl,zi (Same.refl _) (w3.h.free nt3),by rw [epr];exact w3.grow nt3,zf,rfl,rfl,by decide,λz=>absurd ht z,λ_=>rfl⟩
  ·obtain ⟨word,e0,el,ew⟩:∃ word:Str,s.tv[0]?=some (.str word)/\atI s.tv (-1)=some (.int (s.m:Nat))/\decide (V.str word=V.str "trim")=false:=by
    obtain ⟨w7,a,v,d,e,m⟩:=s;cases w7
    all_goals first | exact absurd rfl ht | exact ⟨_,rfl,rfl,rfl⟩
   have epr:W.pre s=W:=by
    unfold Wr.pre
    split
    ·rename_i z;exact absurd z ht
    ·rfl
   refine ⟨_,rfl,st,_,_,_,rfl,rfl,hT,zv e0,rfl,_,rfl,iF ew ?_⟩;exact ⟨B,st,s.tv,word,s.m,rfl,Same.refl _,by rw [epr];exact wa,est,e0,el,bd.m ht,λ_=>⟨rfl,rfl⟩,λz=>absurd z ht⟩
 obtain ⟨okp,fp,wp,cp⟩:=pre_ok s ok;rintro σ J0 ⟨B1,st1,tv,word,mk,rfl,sB1,wa0,est1,tv0,tvl,mk16,hnt,htr⟩;refine ⟨_,rfl,_,rfl,by omega,by omega,?_⟩;let Pv:Nat->St->Hp->Prop:=λi σ J=>∃ u4 u5 u6,σ=[rq A.w,rq st1,iq c.side,iq bs,u4,u5,u6]/\WAt c B1 A (W.play c s bs i) J;refine xU (n:=(c.side:Int).toNat) Pv ⟨none,none,none,rfl,wa0⟩ ?_ ?_
 rotate_left
 ·rintro σ J ⟨u4,u5,u6,rfl,wa1⟩
  rw [q0z] at wa1;exact q B1 J sB1 wa1
 clear q wa wa0 hT;rintro i σ J hi ⟨u4,u5,u6,rfl,wa⟩;rw [q0z] at hi;obtain ⟨ok1,fl1,wl1⟩:=XU s bs ok i;have cl1:=ZP c s bs W i;have nxt:=Wr.play_succ c s bs W i;have nx:∀ (J':Hp) (u5 u6:Jo),WAt c B1 A ((W.play c s bs i).step c s bs i) J'->Pv (i+1) [rq A.w,rq st1,iq c.side,iq bs,iq (0+(i:Int)),u5,u6] J':=λJ' u5 u6 w1=>⟨_,_,_,rfl,by rw [nxt];exact w1⟩;rw [Int.zero_add] at nx ⊢;generalize W.play c s bs i=X at *;replace bd:Bd7 c s bs wd X.cells.length:=by rw [cl1];exact bd
 have xw:X.wq<=wd:=by omega
 have hT:SqT K J st1 tv:=SqT.of (wa.h.sm _ _ est1);have e0:atI tv ((0:Nat):Int)=some (.str word):=zv tv0;obtain ⟨mx,emx,omx⟩:=wa.mask (k:=mk) (by rw [ok1.ml];exact mk16);have mlen:=ok1.mm mk mk16;refine ⟨λσ J'=>σ=[some (.ref A.w),some (.ref st1),some (.int c.side),some (.int bs),some (.int (i:Int)),some (.bl (X.actv mk i)),u6]/\J'=J,?_,?_⟩
 ·refine ⟨_,rfl,_,rfl,A.w,_,rfl,wa.gW,_,_,rfl,rfl,?_⟩
  unfold Wr.actv;by_cases hw:i<X.wq
  ·have e1:decide ((i:Int)<(X.wq:Int))=true:=decide_eq_true (by omega)
   rw [e1,decide_eq_true hw,Bool.true_and];refine ⟨_,rfl,xa ?_⟩;refine ⟨_,rfl,A.w,_,rfl,wa.gM,_,rfl,_,rfl,st1,_,_,_,rfl,rfl,hT,tvl,A.aM,_,_,.ref mx,rfl,rfl,SqL.of (wa.h.get 4 rfl),zv (by rw [List.getElem?_map,emx];rfl),_,rfl,mx,_,_,.bl (X.truth mk i),rfl,rfl,SqL.of (wa.h.get _ omx),?_,?_⟩
   ·refine zv ?_
    unfold Wr.truth;rw [List.getElem?_map,q1x (l:=X.masks.getD mk []),List.getElem?_eq_getElem (by omega)];rfl
   cases ht:X.truth mk i with
   | false=>exact ⟨_,rfl,ym ⟨rfl,rfl⟩⟩
   | true =>
    rw [Bool.true_and];refine ⟨_,rfl,xa ?_⟩;refine ⟨_,rfl,_,rfl,A.w,_,rfl,wa.gX,A.aX,_,rfl,.inl (SqL.of (wa.h.get 3 rfl)),rfl,?_,?_⟩
    ·rw [List.all_eq_true];intro y hy;obtain ⟨z,_,rfl⟩:=List.mem_map.mp hy;rfl
    ·refine ⟨?_,rfl⟩
     show [some (V.ref A.w),_,_,_,_,some (.bl (!inV (.int (i:Int)) (X.fq.map V.int))),_]=_;rw [inV_int]
  ·have e1:decide ((i:Int)<(X.wq:Int))=false:=decide_eq_false (by omega)
   rw [e1,decide_eq_false hw,Bool.false_and];exact ⟨_,rfl,ym ⟨rfl,rfl⟩⟩
 rintro σ J' ⟨rfl,rfl⟩;have mul:∀ x:Int,CMul x (c.side:Int):=λx=>.inr ⟨by omega,by omega⟩;have mulL:∀ x:Int,CMul x (c.long:Int):=λx=>.inr ⟨by omega,by omega⟩
 have av:X.actv mk i=true->i<X.wq:=λh=>by
  unfold Wr.actv at h;rw [Bool.and_eq_true,decide_eq_true_eq] at h;exact h.1
 by_cases ht:s.w=.trim
 ·have ew:=htr ht
  subst ew;have sx:X.step c s bs i=X:=by unfold Wr.step;rw [ht]
  refine ⟨_,rfl,st1,_,_,_,rfl,rfl,hT,e0,rfl,_,rfl,iF rfl ⟨_,rfl,st1,_,_,_,rfl,rfl,hT,e0,rfl,_,rfl,iF rfl ⟨_,rfl,st1,_,_,_,rfl,rfl,hT,e0,rfl,_,rfl,iF rfl ⟨_,rfl,st1,_,_,_,rfl,rfl,hT,e0,rfl,_,rfl,iF rfl ?_⟩⟩⟩⟩;exact nx _ _ _ (by rw [sx];exact wa)
 obtain ⟨etv,emk⟩:=hnt ht;subst etv emk;have bk:=bd.k;by_cases hseat:s.w=.num∨s.w=.here∨s.w=.load∨s.w=.copy∨s.w=.pick∨s.w=.gather
 ·have hh:(X.step c s bs i=X.lay c s bs i/\s.tv[1]?=some (.int s.a))/\((∀ t:Nat,t<c.side->yY c s.a t)/\∀ t:Nat,t<wd->InN c s bs t X.cells.length)/\decide (V.str word=V.str "choose")=false/\decide (V.str word=V.str "other")=false/\decide (V.str word=V.str "store")=false/\decide (V.str word=V.str "none")=false:=by
   obtain ⟨w7,a,v,d,e,m⟩:=s;rcases hseat with h | h | h | h | h | h
   all_goals
    have h:w7=_:=h;subst h;cases tv0;exact ⟨⟨rfl,rfl⟩,bk,rfl,rfl,rfl,rfl⟩
  obtain ⟨⟨sx,t1⟩,⟨si,il⟩,n1,n2,n3,n4⟩:=hh;refine ⟨_,rfl,st1,_,_,_,rfl,rfl,hT,e0,rfl,_,rfl,iF n1 ⟨_,rfl,st1,_,_,_,rfl,rfl,hT,e0,rfl,_,rfl,iF n2 ⟨_,rfl,st1,_,_,_,rfl,rfl,hT,e0,rfl,_,rfl,iF n3 ⟨_,rfl,st1,_,_,_,rfl,rfl,hT,e0,rfl,_,rfl,iT (by rw [n4];rfl) ?_⟩⟩⟩⟩;refine ⟨_,rfl,_,rfl,_,rfl,_,rfl,_,rfl,_,rfl,_,rfl,_,_,rfl,rfl,c,B1,A,X,s,bs,i,st1,rfl,wa,est1,t1,si i hi,λh=>il i (by have:=av h;omega),cb,ok1,hi,by omega,λJ2 w2=>?_⟩;exact nx _ _ _ (by rw [sx];exact w2)
 obtain ⟨w7,a,v,d,e,m⟩:=s
 have maskGo:∀ no:Bool,w7=wm no->(a<16/\∀ t:Nat,t<c.side->yY c v t)->spMk7 [.ref A.w,.ref st1,.int c.side,.int (i:Int),.bl (X.actv m i)] J' (λ_ H'=>Pv (i+1) [some (.ref A.w),some (.ref st1),some (.int c.side),some (.int bs),some (.int (i:Int)),some (.bl (X.actv m i)),u6] H') E0:=λno hw hb=>by
  subst hw;refine ⟨c,B1,A,X,no,a,e,m,v,d,i,st1,rfl,wa,est1,hb.2 i hi,hb.1,cb,ok1,hi,λJ2 w2=>?_⟩;refine nx _ _ _ ?_;have sx:X.step c ⟨wm no,a,v,d,e,m⟩ bs i=X.msk c ⟨wm no,a,v,d,e,m⟩ no i:=by cases no <;> rfl
  rw [sx];exact w2
 cases w7 with
 | num=>exact absurd (.inl rfl) hseat
 | here=>exact absurd (.inr (.inl rfl)) hseat
 | load=>exact absurd (.inr (.inr (.inl rfl))) hseat
 | copy=>exact absurd (.inr (.inr (.inr (.inl rfl)))) hseat
 | pick=>exact absurd (.inr (.inr (.inr (.inr (.inl rfl))))) hseat
 | gather=>exact absurd (.inr (.inr (.inr (.inr (.inr rfl))))) hseat
 | trim=>exact absurd rfl ht
 | choose =>
  cases tv0;exact ⟨_,rfl,st1,_,_,_,rfl,rfl,hT,e0,rfl,_,rfl,iT rfl (xa ⟨_,rfl,_,rfl,_,rfl,_,rfl,_,rfl,maskGo false rfl bk⟩)⟩
 | other =>
  cases tv0;exact ⟨_,rfl,st1,_,_,_,rfl,rfl,hT,e0,rfl,_,rfl,iF rfl ⟨_,rfl,st1,_,_,_,rfl,rfl,hT,e0,rfl,_,rfl,iT rfl ⟨_,rfl,_,rfl,_,rfl,_,rfl,_,rfl,maskGo true rfl bk⟩⟩⟩
 | store =>
  cases tv0;have sx:X.step c ⟨.store,a,v,d,e,m⟩ bs i=if X.actv m i then X.out c ⟨.store,a,v,d,e,m⟩ bs i else X:=rfl;refine ⟨_,rfl,st1,_,_,_,rfl,rfl,hT,e0,rfl,_,rfl,iF rfl ⟨_,rfl,st1,_,_,_,rfl,rfl,hT,e0,rfl,_,rfl,iF rfl ⟨_,rfl,st1,_,_,_,rfl,rfl,hT,e0,rfl,_,rfl,iT rfl ?_⟩⟩⟩;refine ⟨_,rfl,_,rfl,?_⟩;show if X.actv m i=true then _ else _
  cases hA:X.actv m i with
  | false =>
   rw [hA,if_neg Bool.noConfusion] at sx;exact ym (nx _ _ _ (by rw [sx];exact wa))
  | true =>
   rw [hA,if_pos rfl] at sx;have s1:=bk.1 i hi;have s2:=bk.2 i (by have:=av hA;omega);refine xa ⟨_,rfl,st1,_,_,_,rfl,rfl,hT,rfl,_,rfl,A.w,_,rfl,wa.gL,_,_,rfl,rfl,mulL _,_,rfl,_,_,rfl,rfl,_,rfl,_,_,rfl,rfl,?_⟩;rw [Int.add_assoc];refine ⟨_,rfl,A.w,_,rfl,wa.gF,_,rfl,st1,_,_,_,rfl,rfl,hT,rfl,_,rfl,_,_,rfl,rfl,mul _,_,rfl,_,_,rfl,rfl,A.aF,_,_,_,rfl,rfl,SqL.of (wa.h.get 1 rfl),Z7 s1.1 (by rw [ok1.fl];exact s1.2),_,rfl,A.w,_,rfl,wa.gC,_,rfl,A.aC,_,_,_,rfl,rfl,wa.h.get 2 rfl,X4 s2.1 (by rw [Ji];exact s2.2),?_⟩;have w3:=wa.cells (X.cells.set ((a:Int)*c.long+(bs+i)).toNat (X.flat.getD (v*c.side+i).toNat 0));rw [List.map_set] at w3;exact nx _ _ _ (by rw [sx];exact w3)
theorem Z3 {B:Hp} {t:Ad} {tv:Jn} (e:B t=some (.tup tv)):CodeAt B [t] [tv]:=⟨rfl,λi b v hx hy=>by
 match i,hx,hy with
 | 0,hx,hy=>cases hx;cases hy;exact e
 | i+1,hx,hy=>cases hx⟩
def CodeAt.same {B B':Hp} {cs:Jg} {code:List (Jn)} (h:CodeAt B cs code) (s:Same B B'):CodeAt B' cs code:=⟨h.n,λi a tv x y=>s _ _ (h.t i a tv x y)⟩
def Z6 {ms:List Nat} {i:Int} (h0:0<=i) (h1:i.toNat<ms.length):atI (ms.map λn:Nat=>V.int n) i=some (.int (ms[i.toNat]:Nat)):=by
 obtain ⟨n,rfl⟩:∃ n:Nat,i=n:=⟨i.toNat,by omega⟩;refine zv ?_;rw [List.getElem?_map,List.getElem?_eq_getElem (by simpa using h1)];rfl
def seat_ok {g p n:Int} (h0:0<=p) (h1:p<n) (g0:0<=g) (h:n*g<=8):((p.toNat:Int)+1)*g<=8:=by
 have:(p+1)*g<=n*g:=Int.mul_le_mul_of_nonneg_right (by omega) g0;rw [Int.toNat_of_nonneg h0];omega
inductive spSt7 (K:Fg) (vs:Jn) (H:Hp) (Q:VK) (_:XK):Prop
 | mk (a am:Ad) (ns:Jb) (ms:List Nat) (k group:Int) (rows:Nat) (_:vs=[.ref a,.int k,.int rows,.ref am]) (_:SqL K H a (ns.map V.int)) (_:0<=k) (_:k<=100000) (_:H am=some (.lst (ms.map λn:Nat=>V.int n))) (_:ms.length=4) (_:(∀ x∈ms,x<16)) (_:1<=rows) (_:0<=group) (_:(rows:Int)*group<=8) (_:∀ (s:S7) H' t,s.Ok group rows->Same H H'->H' t=some (.tup s.tv)->Q (.ref t) H')
def ok_st7 (d:zr K mg "_law_step" ZL ["_law_script","_law_k","_law_seats","_law_masks"]) (SM:Ok P w K mg base CX0 2 "_law_some" ["_law_script","_law_k","_law_salt","_law_many"] (spSome K)) (NB:Ok P w K mg base CX0 3 "_law_number" ["_law_script","_law_k"] (spNumber K)) :
  Ok P w K mg base CX0 4 "_law_step" ["_law_script","_law_k","_law_seats","_law_masks"] (spSt7 K):=by
 obtain ⟨g,fd,m,F,b⟩:=d;refine ⟨g,fd,m,F.kp,b,F.ok sc_l_step (by rintro vs H Q E ⟨_,_,_,_,_,_,_,e,_⟩;rw [e];rfl) λcdv A outer s H vs Q E hr h=>?_⟩;obtain ⟨a,am,ns,ms,k,group,rows,rfl,hS,k0,k1,em,lm,hm,r1,g0,sg,q⟩:=h;have nd:=sc_l_step.nd;have hr2:Room 2 _:=hr.mono (by decide);have hr3:Room 3 _:=hr.mono (by decide);refine ⟨_,(zc (zt (i:=4) nd rfl (Or.inl rfl) (zK SM hr2 (by rfl) zq (zb (pv 0) (zb (pv 1) (zb zd (zb zd ze))))))
   (zc (zt (i:=5) nd rfl (Or.inl rfl) (zK SM hr2 (by rfl) zq (zb (pv 0) (zb (pv 1) (zb zd (zb (pv 2) ze))))))
   (zc (zt (i:=6) nd rfl (Or.inl rfl) (zK SM hr2 (by rfl) zq (zb (pv 0) (zb (pv 1) (zb zd (zb (pv 2) ze))))))
   (zc (zt (i:=7) nd rfl (Or.inl rfl) (zK SM hr2 (by rfl) zq (zb (pv 0) (zb (pv 1) (zb zd (zb (pv 2) ze))))))
   (zc (zt (i:=8) nd rfl (Or.inl rfl) (zm zE (pv 3) (zK SM hr2 (by rfl) zq (zb (pv 0) (zb (pv 1) (zb zd (zb zd ze))))) (λ_ _=>rfl)))
   (zc (zO (zD ye (pv 4) zd (zy _)) (zg (zo (yt (zb zn (zb (pv 5) (zb (zK NB hr3 (by rfl) zq (zb (pv 0) (zb (pv 1) ze))) (zb (pv 8) ze))))))) zw)
   (zc (zO (zD ye (pv 4) zd (zy _)) (zg (zo (yt (zb zn (zb (pv 5) (zb (pv 8) ze)))))) zw)
   (zc (zO (zD ye (pv 4) zd (zy _)) (zg (zo (yt (zb zn (zb (pv 5) (zb (pv 6) (zb (pv 8) ze))))))) zw)
   (zc (zO (zD ye (pv 4) zd (zy _)) (zg (zo (yt (zb zn (zb (pv 5) (zb (pv 6) (zb (pv 8) ze))))))) zw)
   (zc (zO (zD Yq (pv 4) zd (zy _)) (zg (zo (yt (zb zn (zb (pv 5) (zb (pv 6) (zb (pv 7) (zb (zm zE (pv 3) (zK SM hr2 (by rfl) zq (zb (pv 0) (zb (pv 1) (zb zd (zb zd ze))))) (λ_ _=>rfl)) (zb (pv 8) ze))))))))) zw)
   (zc (zO (zD ye (pv 4) zd (zy _)) (zg (zo (yt (zb zn (zb (pv 5) (zb (pv 6) (zb (pv 7) (zb (pv 8) ze)))))))) zw)
   (zc (zO (zD ye (pv 4) zd (zy _)) (zg (zo (zm zE (yu (zb (yt (zb zn ze)) (zb (yt (zb zn (zb (pv 5) (zb (pv 8) ze)))) ze))) (zK SM hr2 (by rfl) zq (zb (pv 0) (zb (pv 1) (zb zd (zb zd ze))))) (λ_ _=>rfl)))) zw)
   (zc (zO (zD ye (pv 4) zd (zy _)) (zg (zo (yt (zb zn (zb (zm zE (pv 3) (zj zF zd (zK SM hr2 (by rfl) zq (zb (pv 0) (zb (pv 1) (zb zd (zb zd ze)))))) (λ_ _=>rfl)) (zb (pv 5) (zb (pv 8) ze))))))) zw)
   (zg (zo (yt (zb zn (zb (zm zE (pv 3) (zj zF zd (zK SM hr2 (by rfl) zq (zb (pv 0) (zb (pv 1) (zb zd (zb zd ze)))))) (λ_ _=>rfl)) (zb (pv 5) (zb (pv 8) ze)))))))))))))))))))),?_⟩
 dsimp only [yd,Cx.nox,Cx.wish]
 have seat:∀ sa,(0:Int)<=sa->sa<=100->∀ R:VK,(∀ n:Nat,n<rows->((n:Int)+1)*group<=8->R (.int n) H)->spSome K [.ref a,.int k,.int sa,.int rows] H R E0:=λsa s0 s1 R kk=>by
  refine ⟨a,ns,k,sa,rows,rfl,hS,k0,k1,s0,by omega,by omega,λp p0 p1=>?_⟩;have p8:=seat_ok p0 p1 g0 sg;obtain ⟨p,rfl⟩:∃ n:Nat,p=n:=⟨p.toNat,by omega⟩;rw [q0z] at p8;exact kk p (by omega) p8
 refine ⟨_,rfl,_,rfl,a,ns,k,1,12,rfl,hS,k0,k1,by decide,by decide,by decide,λwd w0 w1=>?_⟩;refine ⟨_,rfl,_,rfl,_,rfl,seat 2 (by decide) (by decide) _ λp pr p8=>?_⟩;refine ⟨_,rfl,_,rfl,_,rfl,seat 3 (by decide) (by decide) _ λqn qr q8=>?_⟩;refine ⟨_,rfl,_,rfl,_,rfl,seat 4 (by decide) (by decide) _ λr rr r8=>?_⟩;refine ⟨_,rfl,_,rfl,_,rfl,a,ns,k,5,4,rfl,hS,k0,k1,by decide,by decide,by decide,λi i0 i1=>?_⟩;have im:i.toNat<ms.length:=by omega
 refine ⟨am,_,_,_,rfl,rfl,SqL.of em,Z6 i0 im,?_⟩;have m16:=hm _ (List.getElem_mem im);generalize ms[i.toNat]=m at m16 ⊢;have fin:∀ s:S7,s.Ok group rows->∀ t,H t=none->Q (.ref t) (upd H t (.tup s.tv)):=λs hs t nt=>q s _ t hs (zi (Same.refl _) nt) zf;refine ⟨_,rfl,rfl,_,rfl,xE (λz=>?_) (λ_=>?_)⟩
 ·exact ⟨_,rfl,_,rfl,_,rfl,a,ns,k,rfl,hS,k0,k1,λv=>⟨_,rfl,(sz 4),λt nt=>fin ⟨.num,p,v,0,0,m⟩ ⟨p8,m16⟩ t nt⟩⟩
 refine ⟨_,rfl,rfl,_,rfl,xE (λz=>?_) (λ_=>?_)⟩
 ·exact ⟨_,rfl,_,rfl,(sz 3),λt nt=>fin ⟨.here,p,0,0,0,m⟩ ⟨p8,m16⟩ t nt⟩
 refine ⟨_,rfl,rfl,_,rfl,xE (λz=>?_) (λ_=>?_)⟩
 ·exact ⟨_,rfl,_,rfl,_,rfl,(sz 4),λt nt=>fin ⟨.load,p,qn,0,0,m⟩ ⟨⟨p8,m16⟩,qn,rfl,qr⟩ t nt⟩
 refine ⟨_,rfl,rfl,_,rfl,xE (λz=>?_) (λ_=>?_)⟩
 ·exact ⟨_,rfl,_,rfl,_,rfl,(sz 4),λt nt=>fin ⟨.copy,p,qn,0,0,m⟩ ⟨⟨p8,m16⟩,qn,rfl,q8⟩ t nt⟩
 refine ⟨_,rfl,_,_,rfl,rfl,_,rfl,xE (λz=>?_) (λ_=>?_)⟩
 ·refine ⟨_,rfl,_,rfl,_,rfl,_,rfl,_,rfl,_,rfl,a,ns,k,6,4,rfl,hS,k0,k1,by decide,by decide,by decide,λj j0 j1=>?_⟩
  have jm:j.toNat<ms.length:=by omega
  exact ⟨am,_,_,_,rfl,rfl,SqL.of em,Z6 j0 jm,_,rfl,(sz 6),λt nt=>fin ⟨.pick,p,qn,r,ms[j.toNat],m⟩ ⟨⟨p8,m16⟩,hm _ (List.getElem_mem jm),qn,r,rfl,q8,rfl,r8⟩ t nt⟩
 refine ⟨_,rfl,rfl,_,rfl,xE (λz=>?_) (λ_=>?_)⟩
 ·exact ⟨_,rfl,_,rfl,_,rfl,_,rfl,(sz 5),λt nt=>fin ⟨.gather,p,qn,r,0,m⟩ ⟨⟨p8,m16⟩,qn,r,rfl,q8,rfl,rr⟩ t nt⟩
 refine ⟨_,rfl,rfl,_,rfl,xE (λz=>?_) (λ_=>?_)⟩
 ·refine ⟨(sz 1),λt1 nt1=>?_⟩
  have d1:Same H (upd H t1 (.tup (S7.tv ⟨.trim,p,0,0,0,m⟩))):=zi (Same.refl _) nt1;have e1:upd H t1 (.tup (S7.tv ⟨.trim,p,0,0,0,m⟩)) t1=_:=zf;show tCons _ _ _ (upd H t1 (.tup (S7.tv ⟨.trim,p,0,0,0,m⟩))) _;generalize upd H t1 (.tup (S7.tv ⟨.trim,p,0,0,0,m⟩))=G1 at d1 e1 ⊢;refine ⟨_,rfl,_,rfl,(sz 3),λt2 nt2=>?_⟩;have nt2:G1 t2=none:=nt2;have d2:Same G1 (upd G1 t2 (.tup (S7.tv ⟨.here,p,0,0,0,m⟩))):=zi (Same.refl _) nt2;have e2:upd G1 t2 (.tup (S7.tv ⟨.here,p,0,0,0,m⟩)) t2=_:=zf;refine ⟨(sz 2),λl nl=>?_⟩;have nl:upd G1 t2 (.tup (S7.tv ⟨.here,p,0,0,0,m⟩)) l=none:=nl;have d3:Same (upd G1 t2 (.tup (S7.tv ⟨.here,p,0,0,0,m⟩))) (upd (upd G1 t2 (.tup (S7.tv ⟨.here,p,0,0,0,m⟩))) l (.lst [.ref t1,.ref t2])):=zi (Same.refl _) nl;have e3:upd (upd G1 t2 (.tup (S7.tv ⟨.here,p,0,0,0,m⟩))) l (.lst [.ref t1,.ref t2]) l=some (.lst [.ref t1,.ref t2]):=zf;have d13:=(d1.trans d2).trans d3;refine ⟨_,rfl,_,rfl,a,ns,k,8,2,rfl,zG hS d13,k0,k1,by decide,by decide,by decide,λj j0 j1=>?_⟩;rcases (show j=0∨j=1 by omega) with rfl | rfl
  ·exact ⟨l,_,_,_,rfl,rfl,SqL.of e3,rfl,q ⟨.trim,p,0,0,0,m⟩ _ t1 trivial d13 ((d2.trans d3) _ _ e1)⟩
  ·exact ⟨l,_,_,_,rfl,rfl,SqL.of e3,rfl,q ⟨.here,p,0,0,0,m⟩ _ t2 ⟨p8,m16⟩ d13 (d3 _ _ e2)⟩
 have msk:∀ R:VK,(∀ n:Nat,n<16->R (.int n) H)->spSome K [.ref a,.int k,.int 7,.int 3] H (λx H1=>rI0 (λi j=>V.int (i+j)) (.int 1) x H1 λy H2=>rIxL K (.ref am) y H2 R) E0:=λR kk=>by
  refine ⟨a,ns,k,7,3,rfl,hS,k0,k1,by decide,by decide,by decide,λj j0 j1=>?_⟩;have jm:(1+j).toNat<ms.length:=by omega
  exact ⟨_,_,rfl,rfl,am,_,_,_,rfl,rfl,SqL.of em,Z6 (by omega) jm,kk _ (hm _ (List.getElem_mem jm))⟩
 refine ⟨_,rfl,rfl,_,rfl,xE (λz=>?_) (λ_=>?_)⟩
 ·exact ⟨_,rfl,_,rfl,_,rfl,msk _ λn n16=>⟨_,rfl,_,rfl,(sz 4),λt nt=>fin ⟨.other,n,p,0,0,m⟩ ⟨⟨n16,m16⟩,p,rfl,p8⟩ t nt⟩⟩
 ·exact ⟨_,rfl,_,rfl,_,rfl,msk _ λn n16=>⟨_,rfl,_,rfl,(sz 4),λt nt=>fin ⟨.choose,n,p,0,0,m⟩ ⟨⟨n16,m16⟩,p,rfl,p8⟩ t nt⟩⟩
def pe_disp5 {X:Cx} {pos:Pos} {k1 k2 k3 k4 k5 v1 v2 v3 v4 v5:Expr} {t1 t2 t3 t4 t5 u1 u2 u3 u4 u5:TE} (a1:PE X k1 t1) (b1:PE X v1 u1) (a2:PE X k2 t2) (b2:PE X v2 u2) (a3:PE X k3 t3) (b3:PE X v3 u3) (a4:PE X k4 t4) (b4:PE X v4 u4) (a5:PE X k5 t5) (b5:PE X v5 u5) :
  PE X (.Dict [some k1,some k2,some k3,some k4,some k5] [v1,v2,v3,v4,v5] pos) (tDisp [(t1,u1),(t2,u2),(t3,u3),(t4,u4),(t5,u5)]):=pe_disp (Zk a1 b1 (Zk a2 b2 (Zk a3 b3 (Zk a4 b4 (Zk a5 b5 pps_nil))))) rfl rfl (by simp) (show (5:Nat)<=15 by decide)
def pw_disp5 {X:Cx} {i:Nat} {x:Str} {pos pos' pd:Pos} {k1 k2 k3 k4 k5 v1 v2 v3 v4 v5:Expr} {t1 t2 t3 t4 t5 u1 u2 u3 u4 u5:TE} (hN:X.N.Nodup) (hi:X.N[i]?=some x) (hx:Loc X.env.scope x) (a1:PE X k1 t1) (b1:PE X v1 u1) (a2:PE X k2 t2) (b2:PE X v2 u2) (a3:PE X k3 t3) (b3:PE X v3 u3) (a4:PE X k4 t4) (b4:PE X v4 u4) (a5:PE X k5 t5) (b5:PE X v5 u5) (hf:X.fn x=true∨X.env.scope.names.lookup x=some .local:=by first | exact .inl rfl | exact .inr rfl | assumption) :
  PW1 X (.Assign [.Name x pos'] (.Dict [some k1,some k2,some k3,some k4,some k5] [v1,v2,v3,v4,v5] pd) pos) (tAsg (tDisp [(t1,u1),(t2,u2),(t3,u3),(t4,u4),(t5,u5)]) (Yt i)):=⟨zt hN hi hx (pe_disp5 a1 b1 a2 b2 a3 b3 a4 b4 a5 b5) rfl hf⟩
def pw_mid {X:Cx} {st:Stmt} {t:TS} (h:PW1 X st t):PW1 X st (tMid t):=⟨yc h.h⟩
theorem rep1 {α:Type} (x:α):∀ k,(List.replicate k [x]).flatten=List.replicate k x
 | 0=>rfl
 | k+1=>by rw [List.replicate_succ,List.flatten_cons,rep1 x k];rfl
def d5 (lg:Nat) (aF aC du:Ad):Jl:=[(.inr "flat",.ref aF),(.inr "cells",.ref aC),(.inr "long",.int lg),(.inr "dust",.ref du),(.inr "spent",.int ((0:Nat):Int))]
def d6 (lg:Nat) (aF aC du aM:Ad):Jl:=[(.inr "flat",.ref aF),(.inr "cells",.ref aC),(.inr "long",.int lg),(.inr "dust",.ref du),(.inr "spent",.int ((0:Nat):Int)),(.inr "masks",.ref aM)]
def p6 (lg:Nat) (aF aC du aM:Ad):yh (d5 lg aF aC du) (.inr "masks") (.ref aM)=d6 lg aF aC du aM:=rfl
def m5 (lg:Nat) (aF aC du:Ad):Yi [] (d5 lg aF aC du)=d5 lg aF aC du:=rfl
def wm_snoc {ms:Jg} {x:Ad} {r:List Bool} {n:Nat} (h:ms.length=n):wmO (ms++[x]) (List.replicate (n+1) r)=wmO ms (List.replicate n r)++[(x,.lst (r.map V.bl))]:=by
 unfold wmO;rw [List.replicate_succ',List.zip_append (by rw [List.length_replicate];exact h),Jk];rfl
theorem Bd7.of {c:Wc} {s:S7} {L rows wd:Nat} {group bs:Int} (ok:s.Ok group rows) (hc:C8 c L group) (b0:0<=bs) (bw:bs+wd<=c.long) (l1:1<=c.lq) (ww:wd<=c.side):Bd7 c s bs wd (rows*c.long):=by
 obtain ⟨w,a,v,d,e,m⟩:=s;have hl:=hc.l;have hs:=hc.s
 have seat:∀ (p:Nat),((p:Int)+1)*group<=8->∀ t:Nat,t<c.side->yY c (p:Int) t:=λp h t ht=>by
  have e:((p:Int)+1)*c.side<=8*c.lq:=by
   rw [hs,← Int.mul_assoc,hl];exact Int.mul_le_mul_of_nonneg_right h (by omega)
  have p0:0<=(p:Int)*c.side:=Int.mul_nonneg (by omega) (by omega);rw [Int.add_mul] at e;exact ⟨by omega,by omega⟩
 have row:∀ r:Nat,r<rows->∀ x:Int,0<=x->x<c.long->0<=(r:Int)*c.long+x/\((r:Int)*c.long+x).toNat<rows*c.long:=λr hr x x0 x1=>by
  have e:((r:Int)+1)*c.long<=(rows:Int)*c.long:=Int.mul_le_mul_of_nonneg_right (by omega) (by omega);have p0:0<=(r:Int)*c.long:=Int.mul_nonneg (by omega) (by omega);have cl:((rows*c.long:Nat):Int)=(rows:Int)*c.long:=Int.natCast_mul _ _;rw [Int.add_mul] at e;omega
 have ws:∀ t:Nat,t<wd->0<=bs+(t:Int)/\bs+(t:Int)<c.long:=λt ht=>by omega
 cases w with
 | num=>exact ⟨λ_=>ok.2,seat a ok.1,λ_ _=>trivial⟩
 | here=>exact ⟨λ_=>ok.2,seat a ok.1,λ_ _=>trivial⟩
 | load=>obtain ⟨p,r,rfl,hr⟩:=ok;exact ⟨λ_=>p.2,seat a p.1,λt ht=>row r hr _ (ws t ht).1 (ws t ht).2⟩
 | copy=>obtain ⟨p,q,rfl,q8⟩:=ok;exact ⟨λ_=>p.2,seat a p.1,λt ht=>seat q q8 t (by omega)⟩
 | pick=>obtain ⟨p,e16,q,r,rfl,q8,rfl,r8⟩:=ok;exact ⟨λ_=>p.2,seat a p.1,λt ht=>⟨e16,seat q q8 t (by omega),seat r r8 t (by omega)⟩⟩
 | gather=>obtain ⟨p,q,r,rfl,q8,rfl,hr⟩:=ok;exact ⟨λ_=>p.2,seat a p.1,λt ht=>⟨seat q q8 t (by omega),row r hr⟩⟩
 | choose=>obtain ⟨p,q,rfl,q8⟩:=ok;exact ⟨λ_=>p.2,p.1,seat q q8⟩
 | other=>obtain ⟨p,q,rfl,q8⟩:=ok;exact ⟨λ_=>p.2,p.1,seat q q8⟩
 | store=>obtain ⟨p,q,rfl,q8⟩:=ok;exact ⟨λ_=>p.2,seat q q8,λt ht=>row a p.1 _ (ws t ht).1 (ws t ht).2⟩
 | trim=>exact ⟨λz=>absurd rfl z,trivial⟩
def W0 (c:Wc) (cells:Jb):Wr where
 flat:=List.replicate (8*c.lq) 0
 cells:=cells
 masks:=List.replicate 16 (List.replicate (4*c.lq) false)
 fq:=[]
 wq:=0
 spent:=0
def w0_ok {c:Wc} {cells:Jb} (s4:c.side<=4*c.lq):WOk c (W0 c cells):=⟨List.length_replicate,List.length_replicate,λk hk=>by
 show c.side<=((List.replicate 16 (List.replicate (4*c.lq) false)).getD k []).length;rw [q1x,List.getElem?_replicate,if_pos hk];show c.side<=(List.replicate _ _).length;rw [List.length_replicate];exact s4,(λj hj=>by cases hj)⟩
def fresh7 {c:Wc} {cells lens:Jb} (s4:c.side<=4*c.lq):Bt7 c 0 (W0 c cells) (Mc.fresh lens cells c.lq c.dust []):=⟨rfl,rfl,rfl,λk hk t ht=>rfl,w0_ok s4,Nat.le_refl _⟩
theorem rows7 {c:Wc} {cells:Jb} {rows:Nat} {mn_:Int} (cl:cells.length=rows*c.long) (hm:mn_<=c.long):Rows8 c (xS (List.replicate rows (c.long:Int))) (List.replicate rows (c.long:Int)) rows mn_ (W0 c cells):=by
 refine ⟨?_,λr hr=>?_,λr hr=>?_,List.length_replicate,cl,hm⟩
 ·unfold xS;rw [Ji,List.length_range,List.length_replicate]
 ·rw [starts_at (by rw [List.length_replicate];exact hr),List.take_replicate,Nat.min_eq_left (by omega)]
  clear hr
  induction r with
  | zero=>rw [List.replicate_zero];show (0:Int)=_;omega
  | succ r ih=>rw [List.replicate_succ,List.sum_cons,ih,Int.natCast_add,Int.add_mul];omega
 ·rw [q1x,List.getElem?_replicate,if_pos hr];rfl
def wk6 (c:Wc) (A:Wa) (n:Nat):Jl:=[(.inr "flat",.ref A.aF),(.inr "cells",.ref A.aC),(.inr "long",.int c.long),(.inr "dust",.ref A.aD),(.inr "spent",.int n),(.inr "masks",.ref A.aM)]
def wo2 (A:Wa) (W:Wr):Jm:=[(A.aF,.lst (W.flat.map V.int)),(A.aC,.lst (W.cells.map V.int))]
def wo6 (c:Wc) (A:Wa) (W:Wr) (ft:Jl):Jm:=(A.w,.dK (wk6 c A W.spent++ft))::(wo2 A W++(A.aM,.lst (A.ms.map V.ref))::wmO A.ms W.masks)
def Ft (ft:Jl):Prop:=ft=[]∨∃ (n:Nat) (x:Ad),ft=[(.inr "width",.int n),(.inr "faults",.ref x)]
inductive WBt (c:Wc) (B:Hp) (A:Wa) (W:Wr) (H:Hp):Prop
 | mk (ft:Jl) (hft:Ft ft) (h:Hd B (wo6 c A W ft) H) (dl:B A.aD=some (.lst (c.dust.map V.int))) (ml:A.ms.length=W.masks.length)
def WAt.bt {c:Wc} {B:Hp} {A:Wa} {W:Wr} {H:Hp} (m:WAt c B A W H):WBt c B A W H:=by
 refine ⟨[(.inr "width",.int W.wq),(.inr "faults",.ref A.aX)],.inr ⟨_,_,rfl⟩,?_,m.dl,m.ml⟩;have h:Hd B (((A.w,.dK (wkv c A W.spent W.wq))::(A.aF,.lst (W.flat.map V.int))::[(A.aC,.lst (W.cells.map V.int))])++(A.aX,.lst (W.fq.map V.int))::((A.aM,.lst (A.ms.map V.ref))::wmO A.ms W.masks)) H:=m.h;have h':Hd B (((A.w,.dK (wkv c A W.spent W.wq))::(A.aF,.lst (W.flat.map V.int))::[(A.aC,.lst (W.cells.map V.int))])++((A.aM,.lst (A.ms.map V.ref))::wmO A.ms W.masks)) H:=h.sub (List.Sublist.append (List.Sublist.refl _) (List.sublist_cons_self _ _));exact h'
def Y0 {c:Wc} {A:Wa} {n m:Nat} {ft:Jl} (hft:Ft ft):zQ (wk6 c A n++ft) (.inr "spent")=some (.int n)/\zQ (wk6 c A n++ft) (.inr "dust")=some (.ref A.aD)/\zQ (wk6 c A n++ft) (.inr "masks")=some (.ref A.aM)/\zQ (wk6 c A n++ft) (.inr "cells")=some (.ref A.aC)/\(wk6 c A n++ft).length<1000/\yh (wk6 c A n++ft) (.inr "spent") (.int (m:Int))=wk6 c A m++ft/\∃ ft2,yh (wk6 c A n++ft) (.inr "width") (.int (m:Int))=wk6 c A n++ft2/\(wk6 c A n++ft2).length<1000/\∀ fx:Ad,yh (wk6 c A n++ft2) (.inr "faults") (.ref fx)=wk6 c A n++[(.inr "width",.int (m:Int)),(.inr "faults",.ref fx)]:=by
 rcases hft with rfl | ⟨n,x,rfl⟩
 ·exact ⟨rfl,rfl,rfl,rfl,show (6:Nat)<1000 by decide,rfl,_,rfl,show (7:Nat)<1000 by decide,λ_=>rfl⟩
 ·exact ⟨rfl,rfl,rfl,rfl,show (8:Nat)<1000 by decide,rfl,_,rfl,show (8:Nat)<1000 by decide,λ_=>rfl⟩
def WBt.oq {c:Wc} {B:Hp} {A:Wa} {W:Wr} {J:Hp} {kv kv1 kv2:Jl} {m0 z fx:Ad} {mr:Jg} {x0 nm:List Bool} {xr:List (List Bool)} {sp wd:Nat} (ems:A.ms=m0::mr) (exm:W.masks=x0::xr)
  (e2:kv2=wk6 c A sp++[(.inr "width",.int (wd:Int)),(.inr "faults",.ref fx)])
  (h:Hd B ((z,.lst (nm.map V.bl))::(A.w,.dK kv)::(wo2 A W++(A.aM,.lst (A.ms.map V.ref))::wmO A.ms W.masks)) J) (nf:upd (upd J A.aM (.lst ((.ref z)::mr.map V.ref))) A.w (.dK kv1) fx=none) (dl:B A.aD=some (.lst (c.dust.map V.int))) (ml:A.ms.length=W.masks.length) :
  WAt c B { A with ms:=z::mr,aX:=fx } { W with masks:=W.masks.set 0 nm,spent:=sp,fq:=[],wq:=wd } (upd (upd (upd (upd J A.aM (.lst ((.ref z)::mr.map V.ref))) A.w (.dK kv1)) fx (.lst [])) A.w (.dK kv2)):=by
 subst e2;rw [ems,exm] at h;have h1:Hd B ((z,.lst (nm.map V.bl))::(A.w,.dK kv)::(wo2 A W++(A.aM,.lst (.ref z::mr.map V.ref))::(m0,.lst (x0.map V.bl))::wmO mr xr)) (upd J A.aM (.lst (.ref z::mr.map V.ref))):=h.put (o':=.lst (.ref z::mr.map V.ref)) 4 rfl;have h1':=h1.put (o':=.dK kv1) 1 rfl;have h2:=h1'.new (o:=.lst []) nf;have h3:=h2.put (o':=.dK (wkv c { A with ms:=z::mr,aX:=fx } sp wd)) 2 rfl;have h4:Hd B ((fx,.lst [])::(z,.lst (nm.map V.bl))::(A.w,.dK (wkv c { A with ms:=z::mr,aX:=fx } sp wd))::(wo2 A W++(A.aM,.lst (.ref z::mr.map V.ref))::(m0,.lst (x0.map V.bl))::wmO mr xr)) _:=h3;have h5:Hd B ((fx,.lst [])::(z,.lst (nm.map V.bl))::(A.w,.dK (wkv c { A with ms:=z::mr,aX:=fx } sp wd))::(wo2 A W++(A.aM,.lst (.ref z::mr.map V.ref))::wmO mr xr)) _:=h4.sub (List.Sublist.cons₂ _ (List.Sublist.cons₂ _ (List.Sublist.cons₂ _ (List.Sublist.append (List.Sublist.refl _) (List.Sublist.cons₂ _ (List.sublist_cons_self _ _))))));refine ⟨?_,dl,?_⟩
 ·rw [exm]
  refine h5.perm ?_
  have p1:∀ {α:Type} (f z w a b m:α) (r:List α),(f::z::w::a::b::m::r).Perm (w::a::b::f::m::z::r):=λf z w a b m r=>by
   have q1:(f::z::w::a::b::m::r).Perm (f::w::a::b::m::z::r):=List.Perm.cons _ (List.perm_middle (l₁:=[w,a,b,m])).symm;exact q1.trans (List.perm_middle (l₁:=[w,a,b])).symm
  exact p1 _ _ _ _ _ _ _
 ·show (z::mr).length=(W.masks.set 0 nm).length
  rw [List.length_set,← ml,ems];rfl
theorem run_ok {c:Wc} (bs:Int):∀ (l:List S7) (W:Wr),WOk c W->WOk c (W.run c bs l)/\(W.run c bs l).fq.length<=W.fq.length+l.length*c.side/\(W.run c bs l).wq<=W.wq
 | [],W,o=>⟨o,Nat.le_add_right _ _,Nat.le_refl _⟩
 | s::l,W,o=>by
  obtain ⟨a,b,d⟩:=XU s bs o c.side;obtain ⟨h1,h2,h3⟩:=run_ok bs l _ a;rw [q3x,Nat.add_mul,Nat.one_mul];exact ⟨h1,by show (Wr.run c bs _ l).fq.length<=_;omega,by show (Wr.run c bs _ l).wq<=_;omega⟩
def Xs {c:Wc} {W:Wr} {wd:Nat} (o:WOk c W) (h:wd<=c.side):WOk c (W.oq c wd):=by
 have wml:0<W.masks.length:=by rw [o.ml];decide
 refine ⟨o.fl,by show (W.masks.set 0 _).length=16;rw [List.length_set];exact o.ml,λq hq=>?_,(λj hj=>by cases hj)⟩;show c.side<=((W.masks.set 0 _).getD q []).length;rw [Zw _ _ _ wml];by_cases z:q=0
 ·rw [if_pos z,Jj,List.length_replicate,Ji,List.length_range];omega
 ·rw [if_neg z];exact o.mm q hq
theorem upW_ok {c:Wc} {mn_:Int} {l:List S7} {W:Wr} (o:WOk c W):∀ i:Nat,WOk c (upW c mn_ l W i)
 | 0=>o
 | i+1=>by
  rw [Zi];exact (run_ok (c:=c) (i*c.side) l _ (Xs (upW_ok o i) (by unfold wid;omega))).1
def comp_sts {group:Int} {rows:Nat} {H:Hp} {x:Ad} {lo:Int} {n:Nat} {te:TE} {σY:St} {cap:List (Jo)} {Q:VK} (nx:H x=none) (hn:n<=1000) (eσ:∃ u,σY=u::cap)
  (step:∀ i J,i<n->Same H J->∀ R:VK,(∀ (s:S7) J' t,s.Ok group rows->Same J J'->J' t=some (.tup s.tv)->R (.ref t) J')->te (some (.int (lo+i))::cap) J R)
  (q:∀ (B J:Hp) (cs:Jg) (l:List S7),Same H B->Hd B [(x,.lst (List.map V.ref cs))] J->CodeAt B cs (l.map S7.tv)->(∀ s∈l,s.Ok group rows)->l.length=n->Q (.ref x) J):CompW (Itr lo n) (Yt 0) te σY (upd H x (.lst [])) x Q:=by
 have SL:(200000:Nat)<sizeLine:=by decide
 obtain ⟨u,rfl⟩:=eσ;have h0:Hd H [(x,.lst (([]:Jg).map V.ref))] (upd H x (.lst [])):=Hd.base.new nx;generalize upd H x (.lst [])=H1 at h0 ⊢;refine yJ (lo:=lo) (n:=n) (λi σ J=>∃ u B ts l,σ=u::cap/\Same H B/\Hd B [(x,.lst (List.map V.ref ts))] J/\CodeAt B ts (l.map S7.tv)/\(∀ s∈l,s.Ok group rows)/\l.length=i) ⟨u,H,[],[],rfl,Same.refl _,h0,⟨rfl,λi a tv e=>by cases e⟩,(λ_ h=>nomatch h),rfl⟩ ?_ ?_
 ·rintro i σ J hi ⟨u,B,ts,l,rfl,sB,h,ca,ok,ll⟩
  refine step i J hi (sB.trans h.sm) _ λs J3 t os s3 et=>?_;obtain ⟨B2,sB2,h3,up⟩:=h.over s3
  have net:t ∉ [((x,HO.lst (List.map V.ref ts)):Ad×HO)].map Prod.fst:=λm=>by
   have e:=List.mem_singleton.mp m;have:=h3.get 0 rfl;rw [show t=x from e,this] at et;cases et
  refine ⟨_,h3.get 0 rfl,(by rw [Ji,ca.n,Ji];omega),_,B2,ts++[t],l++[s],rfl,sB.trans sB2,?_,?_,?_,?_⟩
  ·rw [Jk];exact h3.put 0 rfl
  ·rw [Jk]
   exact Z4 (ca.same sB2) (Z3 (up _ _ et net))
  ·intro y hy
   rcases List.mem_append.mp hy with hy | hy
   ·exact ok y hy
   ·cases List.mem_singleton.mp hy;exact os
  ·rw [Jj,ll];rfl
 ·rintro σ J ⟨u,B,ts,l,rfl,sB,h,ca,ok,ll⟩
  exact q B J ts l sB h ca ok ll
theorem S7.plain (s:S7):Plain s.tv:=by
 obtain ⟨w,a,v,d,e,m⟩:=s
 cases w with
 | num=>exact zX (ns:=[(a:Int),v,(m:Int)]) (by decide +kernel)
 | here=>exact zX (ns:=[(a:Int),(m:Int)]) (by decide +kernel)
 | load=>exact zX (ns:=[(a:Int),v,(m:Int)]) (by decide +kernel)
 | copy=>exact zX (ns:=[(a:Int),v,(m:Int)]) (by decide +kernel)
 | pick=>exact zX (ns:=[(a:Int),v,d,(e:Int),(m:Int)]) (by decide +kernel)
 | gather=>exact zX (ns:=[(a:Int),v,d,(m:Int)]) (by decide +kernel)
 | choose=>exact zX (ns:=[(a:Int),v,(m:Int)]) (by decide +kernel)
 | other=>exact zX (ns:=[(a:Int),v,(m:Int)]) (by decide +kernel)
 | store=>exact zX (ns:=[(a:Int),v,(m:Int)]) (by decide +kernel)
 | trim=>exact zX (ns:=[]) (by decide +kernel)
inductive spLaw (K:Fg) (vs:Jn) (H:Hp) (Q:VK) (_:XK):Prop
 | mk (a:Ad) (ns:Jb) (_:vs=[.ref a]) (_:SqL K H a (ns.map V.int)) (_:ns.length<=63) (_:∀ H',Q (.bl true) H')
theorem ok_law {c:MCs} {f:Ad} {fd:FuncData} {Lx:Lex} (F:Fun K "law" "law" YJ f fd) (AK:AlK K mg) (hlen:mg "len"=none) (hrg:mg "range"=none) (hlist:mg "list"=none) (hmin:mg "min"=none) (hmax:mg "max"=none)
  (CA:Ok P w K mg base CX0 1 "_law_cell_at" ["_law_script","_law_k"] (spCA K)) (SM:Ok P w K mg base CX0 2 "_law_some" ["_law_script","_law_k","_law_salt","_law_many"] (spSome K)) (LA:Ok P w K mg base CX0 1 "_law_lanes" ["_law_cell"] spLanes) (GR:Ok P w K mg base CX0 3 "_law_group" ["_law_script","_law_k","_law_salt"] (spGroup K))
  (NB:Ok P w K mg base CX0 3 "_law_number" ["_law_script","_law_k"] (spNumber K)) (DU:Ok P w K mg base CX0 4 "_law_dust" ["_law_script","_law_k","_law_salt"] (spDust K)) (TK:Ok P w K mg base CX0 1 "_law_taken" ["_law_world"] spTak)
  (ST:Ok P w K mg base CX0 4 "_law_step" ["_law_script","_law_k","_law_seats","_law_masks"] (spSt7 K)) (PL:Ok P w K mg base CX0 3 "_law_played" ["_law_world","_law_step_here","_law_side","_law_base"] spPl7)
  (AL:Ok P w K mg base CX0 5 "_law_alike" ["_law_found","_law_due"] (spAlike 3)) (RN:Ok P w K mg base CX0 11 "_law_ran" ["_law_code","_law_lengths","_law_cells","_law_lanes_here","_law_dust_here","_law_picks"] (spLRan c K Lx))
  (xB:Lx.W "begin" Xe) (xN:Lx.W "next" nextW) (lx:Lx7 Lx) :
  FnOk P w K mg base CX0 12 f fd ["_law_script"] (spLaw K):=by
 refine F.okB sc_law (by rintro vs H Q E ⟨_,_,e,_⟩;rw [e];rfl) λcdv A outer s H vs Q E hr h=>?_;obtain ⟨a,ns,rfl,hS,hn,k⟩:=h;have nd:=sc_law.nd;have hr1:Room 1 _:=hr.mono (by decide);have hr2:Room 2 _:=hr.mono (by decide);have hr3:Room 3 _:=hr.mono (by decide);have hr4:Room 4 _:=hr.mono (by decide);have hr5:Room 5 _:=hr.mono (by decide);have hr11:Room 11 _:=hr;have hu:=Nat.lt_of_le_of_lt (Nat.add_le_add_left (show 1<=64 by decide) _) hr.units;have SL:(200000:Nat)<sizeLine:=by decide
 refine ⟨_,(zZ (PW1.mk (zt (i:=1) nd rfl (Or.inl rfl) (zj zF zd (zK SM hr2 (by rfl) zq (zb (pv 0) (zb zd (zb zd (zb zd ze))))))))
   (zZ (PW1.mk (yc (zt (i:=2) nd rfl (Or.inl rfl) (zj zF (pv 1) (zK SM hr2 (by rfl) zq (zb (pv 0) (zb zd (zb zd (zb zd ze)))))))))
   (zZ (PW1.mk (zt (i:=3) nd rfl (Or.inr rfl) (zK LA hr1 (by rfl) zq (zb (zK CA hr1 (by rfl) zq (zb (pv 0) (zb zd ze))) ze))))
   (zZ (PW1.mk (zt (i:=4) nd rfl (Or.inl rfl) (zK GR hr3 (by rfl) zq (zb (pv 0) (zb zd (zb zd ze))))))
   (zZ (PW1.mk (yc (zt (i:=5) nd rfl (Or.inl rfl) (zj zP (pv 4) (pv 3)))))
   (zZ (PW1.mk (yc (zt (i:=6) nd rfl (Or.inr rfl) (zj zaq zd (pv 4)))))
   (zZ (PW1.mk (yc (zt (i:=7) nd rfl (Or.inr rfl) (zj YT (yu (zb zd ze)) (yF ["_law_k","_law_script"] [none,some 0] rfl rfl rfl (yk rfl hrg (zb zd ze)) (λs3 H3 fp=>⟨zH (i:=0) (Jp ["_law_k","_law_script"]) rfl (Or.inl rfl),(zj zF zd (zK SM hr2 (by rfl) zq (zb (pv 1) (zb zd (zb (pv 0) (zb zd ze))))))⟩))))))
   (zZ (PW1.mk (yc (zan (i:=9) ["_law_k","_law_script"] [none,some 0] rfl rfl rfl (yk rfl hrg (zb (zj zP (pv 6) (pv 2)) ze)) (λs3 H3 fp=>⟨zH (i:=0) (Jp ["_law_k","_law_script"]) rfl (Or.inl rfl),(zj zP (zK NB hr3 (by rfl) zq (zb (pv 1) (zb (zj zF zd (pv 0)) ze))) (zK SM hr2 (by rfl) zq (zb (pv 1) (zb (zj zF zd (pv 0)) (zb zd (zb zd ze))))))⟩) nd rfl (Or.inl rfl))))
   (zZ (PW1.mk (yc (zt (i:=10) nd rfl (Or.inl rfl) (zj zF zd (zC (Zu rfl) (by rfl) hmin PyProof.Rows.boot_min (zb zd (zb (zC (call_max2 rfl) (by rfl) hmax PyProof.Rows.boot_max (zb zd (zb (zj zaq zd (pv 5)) ze))) ze)))))))
   (zZ (PW1.mk (yc (zan (i:=11) ["_law_k","_law_script","_law_seats","_law_masks"] [none,some 0,some 6,some 7] rfl rfl rfl (Ye rfl hrg (zb zd (zb (zC (Zu rfl) (by rfl) hmin PyProof.Rows.boot_min (zb (zC zN (by rfl) hlen PySem.boot_len (zb (pv 0) ze)) (zb (pv 10) ze))) ze))) (λs3 H3 fp=>⟨zH (i:=0) (Jp ["_law_k","_law_script","_law_seats","_law_masks"]) rfl (Or.inl rfl),(zK ST hr4 (by rfl) zq (zb (pv 1) (zb (pv 0) (zb (pv 2) (zb (pv 3) ze)))))⟩) nd rfl (Or.inl rfl))))
   (zZ (PW1.mk (yc (zt (i:=12) nd rfl (Or.inl rfl) (zK SM hr2 (by rfl) zq (zb (pv 0) (zb zd (zb zd (zb (pv 6) ze))))))))
   (zZ (PW1.mk (yc (xR PassesOwn.never rfl (yk rfl hrg (zb (pv 6) ze)) (zH (i:=13) nd rfl (Or.inl rfl)) (zg (zW (pe_bm PySem.F.plainAttrs_list PySem.F.slot_list_append PySem.F.type_list_append xz (pv 11) (zb (yt (zb zn (zb (zj yS (zj zF (pv 13) (pv 12)) (pv 6)) (zb (pv 13) (zb (zm zE (pv 7) (zK SM hr2 (by rfl) zq (zb (pv 0) (zb (zj zF zd (pv 13)) (zb zd (zb zd ze))))) (λ_ _=>rfl)) ze))))) ze)))))))
   (zZ (PW1.mk (yc (zt (i:=14) nd rfl (Or.inl rfl) (zK DU hr4 (by rfl) zq (zb (pv 0) (zb zd (zb zd ze)))))))
   (zZ (pw_mid (pw_disp5 (i:=15) nd rfl (Or.inr rfl) zn (zj ZE (yu (zb zd ze)) (zj zP zd (pv 3))) zn (yl ya (by rfl) hlist PyProof.Rows.boot_list (zb (pv 9) ze)) zn (pv 2) zn (pv 14) zn zd))
   (zZ (PW1.mk (yc (Zq hu (pv 15) zn (yF ["_law_k","_law_lanes_here"] [none,some 3] rfl rfl rfl (yk rfl hrg (zb zd ze)) (λs3 H3 fp=>⟨zH (i:=0) (Jp ["_law_k","_law_lanes_here"]) rfl (Or.inl rfl),(zj ZE (yu (zb xO ze)) (zj zP zd (pv 1)))⟩)) rfl)))
   (zZ (PW1.mk (yc (xR PassesOwn.never rfl (pi_range3 rfl hrg (zb zd (zb (pv 1) (zb (pv 5) ze)))) (zH (i:=16) nd rfl (Or.inl rfl)) (zc (yc (zt (i:=17) nd rfl (Or.inl rfl) (zC (Zu rfl) (by rfl) hmin PyProof.Rows.boot_min (zb (zj YS (pv 1) (pv 16)) (zb (pv 5) ze)))))
   (zc (Za (zj YT (zj ZE (yu (zb xO ze)) (pv 17)) (yF ["_law_k","_law_world"] [none,some 15] rfl rfl rfl (Ye rfl hrg (zb (pv 17) (zb (pv 5) ze))) (λs3 H3 fp=>⟨zH (i:=0) (Jp ["_law_k","_law_world"]) rfl (Or.inl rfl),(yD ye (zj yS (zK TK hr1 (by rfl) zq (zb (pv 1) ze)) zd) zd (zy _))⟩))) (Zb (zM hu (pv 15) zn (λ_ _=>rfl)) zd yX))
   (zc (Zq hu (pv 15) zn (pv 17) rfl)
   (zc (yc (Zq hu (pv 15) zn (yu ze) rfl))
   (zg (xR PassesOwn.never rfl (ZR (pv 11)) (zH (i:=18) nd rfl (Or.inl rfl)) (zg (zW (zK PL hr3 (by rfl) zq (zb (pv 15) (zb (pv 18) (zb (pv 5) (zb (pv 16) ze))))))))))))))))
   (zZ (PW1.mk (zt (i:=19) nd rfl (Or.inl rfl) (zj YT (zj YT (yu (zb (yt (zb zn (zb (pv 1) (zb (pv 4) ze)))) ze)) (pv 11)) (yu (zb (yt (zb zn ze)) ze)))))
   (zZ (PW1.mk (zt (i:=20) nd rfl (Or.inl rfl) (zK RN hr11 (by rfl) zq (zb (pv 19) (zb (zj ZE (yu (zb (pv 2) ze)) (pv 6)) (zb (pv 9) (zb (pv 3) (zb (pv 14) (zb (yu ze) ze)))))))))
   (zZ (PW1.mk (zO (pw_or (Yc (yW (zC yg (by rfl) AK.isi PyProof.Rows.boot_isinstance (zb (pv 20) (zb (xC AK.tup PyProof.Rows.boot_tuple) ze))))) (pw_or1 (zD op_ne (zC zN (by rfl) hlen PySem.boot_len (zb (pv 20) ze)) zd (zy _)))).pt (zg (zo xO)) zw))
   (pb_one (PW1.mk (zo (zK AL hr5 (by rfl) zq (zb (yt (zb (zm zB (pv 20) zd (λ_ _=>rfl)) (zb (zm zB (pv 20) zd (λ_ _=>rfl)) ze))) (zb (yt (zb (zM hu (pv 15) zn (λ_ _=>rfl)) (zb yR ze))) ze))))))))))))))))))))))))),?_⟩
 dsimp only [yd,Cx.nox,Cx.wish];refine ⟨_,rfl,a,ns,0,1,14,rfl,hS,by decide,by decide,by decide,by decide,by decide,λr1 r10 r11=>⟨_,_,rfl,rfl,?_⟩⟩;obtain ⟨mn,er⟩:∃ n:Nat,1+r1=n:=⟨(1+r1).toNat,by omega⟩;rw [er];have mn14:1<=mn/\mn<=14:=by omega
 refine ⟨λσ J=>∃ lg:Nat,σ=[rq a,iq mn,iq lg,none,none,none,none,none,none,none,none,none,none,none,none,none,none,none,none,none,none]/\J=H/\mn<=lg/\lg<=17,?_,?_⟩
 ·refine ⟨_,rfl,_,rfl,a,ns,0,2,3,rfl,hS,by decide,by decide,by decide,by decide,by decide,λr3 r30 r31=>⟨_,_,rfl,rfl,?_⟩⟩
  exact ⟨((mn:Int)+r3).toNat,by rw [Int.toNat_of_nonneg (by omega)];rfl,rfl,by omega,by omega⟩
 rintro _ H0 ⟨lg,rfl,rfl,mnl,lg17⟩;clear er r10 r11;refine ⟨_,rfl,a,ns,1,rfl,hS,by decide,_,rfl,λL1 l1 l64=>?_⟩;obtain ⟨L,rfl⟩:∃ n:Nat,L1=n:=⟨L1.toNat,by omega⟩;refine ⟨_,rfl,a,ns,1,1,rfl,hS,by decide,by decide,by decide,by decide,λgg H1 sH hg=>?_⟩;replace hS:=zG hS sH;clear sH;have g1:1<=gg/\gg<=4:=by omega
 obtain ⟨side,es⟩:∃ n:Nat,gg*(L:Int)=n:=⟨(gg*(L:Int)).toNat,by have:0<=gg*(L:Int):=Int.mul_nonneg (by omega) (by omega);omega⟩;have sd:1<=side/\side<=256/\(side:Int)<=4*L:=by rw [← es];rcases hg with e | e | e <;> rw [e] at es ⊢ <;> omega
 refine ⟨λσ J=>σ=[rq a,iq mn,iq lg,iq L,iq gg,iq side,none,none,none,none,none,none,none,none,none,none,none,none,none,none,none]/\J=H1,?_,?_⟩
 ·refine ⟨_,rfl,_,rfl,_,_,rfl,rfl,.inl ⟨by omega,by omega⟩,?_⟩
  rw [es];exact ⟨rfl,rfl⟩
 rintro _ H1 ⟨rfl,rfl⟩
 obtain ⟨rows,e8,m81,m82⟩:∃ rows:Nat,(8:Int).fdiv gg=rows/\1<=rows/\rows<=8/\(rows:Int)*gg<=8:=by
  rcases hg with rfl | rfl | rfl
  ·exact ⟨8,by decide,by decide,by decide,by decide⟩
  ·exact ⟨4,by decide,by decide,by decide,by decide⟩
  ·exact ⟨2,by decide,by decide,by decide,by decide⟩
 refine ⟨λσ J=>σ=[rq a,iq mn,iq lg,iq L,iq gg,iq side,iq rows,none,none,none,none,none,none,none,none,none,none,none,none,none,none]/\J=H1,?_,?_⟩
 ·refine ⟨_,rfl,_,_,rfl,rfl,⟨by omega,by omega,by omega⟩,?_⟩
  rw [e8];exact ⟨rfl,rfl⟩
 rintro _ H1 ⟨rfl,rfl⟩;clear e8;refine ⟨λσ J=>∃ (am:Ad) (ms:List Nat),σ=[rq a,iq mn,iq lg,iq L,iq gg,iq side,iq rows,rq am,none,none,none,none,none,none,none,none,none,none,none,none,none]/\Same H1 J/\J am=some (.lst (ms.map λn:Nat=>V.int n))/\ms.length=4/\∀ x∈ms,x<16,?_,?_⟩
 ·refine ⟨(sz 1),λt1 nt1=>?_⟩
  have d1:Same H1 (upd H1 t1 (.lst [.int 0])):=zi (Same.refl _) nt1;have e1:upd H1 t1 (.lst [.int 0]) t1=_:=zf;generalize upd H1 t1 (.lst [.int 0])=G1 at d1 e1 ⊢;refine ⟨_,rfl,by decide,by decide,_,rfl,λal nal=>?_⟩;have h0:Hd G1 [(al,.lst (([]:List Nat).map λn:Nat=>V.int n))] (upd G1 al (.lst [])):=Hd.base.new nal;generalize upd G1 al (.lst [])=G2 at h0 ⊢;refine yJ (n:=3) (λi σ J=>∃ u sl,σ=[u,rq a]/\Hd G1 [(al,.lst (sl.map λn:Nat=>V.int n))] J/\sl.length=i/\∀ x∈sl,x<16) ⟨none,[],rfl,h0,rfl,λ_ h=>nomatch h⟩ ?_ ?_
  ·rintro i σ J hi ⟨u,sl,rfl,h,ll,hl⟩
   refine ⟨_,rfl,_,rfl,a,ns,2,0+(i:Int),15,rfl,h.sql (zG hS d1),by decide,by decide,by omega,by omega,by decide,λr r0 r1=>⟨_,_,rfl,rfl,?_⟩⟩;refine ⟨_,h.get 0 rfl,(by rw [Ji];omega),_,sl++[(1+r).toNat],rfl,?_,by rw [Jj,ll];rfl,λx hx=>?_⟩
   ·rw [Jk]
    have e:([(1+r).toNat].map λn:Nat=>V.int n)=[.int (1+r)]:=by show [V.int ((1+r).toNat:Int)]=_;rw [Int.toNat_of_nonneg (by omega)]
    rw [e];exact h.put 0 rfl
   ·rcases List.mem_append.mp hx with hx | hx
    ·exact hl x hx
    ·cases List.mem_singleton.mp hx;omega
  ·rintro σ J ⟨u,sl,rfl,h,ll,hl⟩
   refine ⟨t1,al,_,_,rfl,rfl,h.sm _ _ e1,h.get 0 rfl,(by rw [Ji];show 1+_<=_;omega),λz nz=>?_⟩;refine ⟨z,0::sl,rfl,(d1.trans h.sm).trans (zi (Same.refl _) nz),zf,by rw [q3x,ll],λx hx=>?_⟩;rcases List.mem_cons.mp hx with rfl | hx
   ·decide
   ·exact hl x hx
 rintro _ H2 ⟨am,ms,rfl,sA,em,lm,hm⟩;replace hS:=zG hS sA;clear sA;refine ⟨λσ J=>∃ (ce:Ad) (cells:Jb),σ=[rq a,iq mn,iq lg,iq L,iq gg,iq side,iq rows,rq am,none,rq ce,none,none,none,none,none,none,none,none,none,none,none]/\Same H2 J/\J ce=some (.lst (cells.map V.int))/\cells.length=rows*lg,?_,?_⟩
 ·have rl:(rows:Int)*(lg:Int)=((rows*lg:Nat):Int):=(Int.natCast_mul _ _).symm
  have rl2:rows*lg<=8*17:=Nat.mul_le_mul m82.1 lg17;refine ⟨_,rfl,_,rfl,_,_,rfl,rfl,.inl ⟨by omega,by omega⟩,_,rfl,(by omega),(by omega),_,rfl,λce nce=>?_⟩;rw [rl,q0z];have h0:Hd H2 [(ce,.lst (([]:Jb).map V.int))] (upd H2 ce (.lst [])):=Hd.base.new nce;generalize upd H2 ce (.lst [])=G at h0 ⊢;refine yJ (n:=rows*lg) (λi σ J=>∃ u ls,σ=[u,rq a]/\Hd H2 [(ce,.lst (ls.map V.int))] J/\ls.length=i) ⟨none,[],rfl,h0,rfl⟩ ?_ ?_
  ·rintro i σ J hi ⟨u,ls,rfl,h,ll⟩
   refine ⟨_,rfl,_,rfl,_,_,rfl,rfl,a,ns,8+(0+(i:Int)),rfl,h.sql hS,by omega,by omega,λv=>⟨_,rfl,_,rfl,_,_,rfl,rfl,a,ns,8+(0+(i:Int)),12,2,rfl,h.sql hS,by omega,by omega,by decide,by decide,by decide,λz z0 z1=>⟨_,_,rfl,rfl,.inr ⟨by omega,by omega⟩,?_⟩⟩⟩;refine ⟨_,h.get 0 rfl,(by rw [Ji];omega),_,ls++[v*z],rfl,?_,by rw [Jj,ll];rfl⟩;rw [Jk];exact h.put 0 rfl
  ·rintro σ J ⟨u,ls,rfl,h,ll⟩
   exact ⟨ce,ls,rfl,h.sm,h.get 0 rfl,ll⟩
 rintro _ H3 ⟨ce,cells,rfl,sA,ece,clen⟩;replace hS:=zG hS sA;replace em:=sA _ _ em;clear sA;refine ⟨λσ J=>∃ la:Int,σ=[rq a,iq mn,iq lg,iq L,iq gg,iq side,iq rows,rq am,none,rq ce,iq la,none,none,none,none,none,none,none,none,none,none]/\J=H3/\0<=la/\la<=48,?_,?_⟩
 ·refine ⟨_,rfl,_,_,rfl,rfl,⟨by omega,by omega,by omega⟩,_,_,rfl,_,_,rfl,_,_,rfl,rfl,?_⟩
  refine ⟨_,rfl,rfl,?_,?_⟩ <;> generalize (2400:Int).fdiv side=z <;> split <;> split <;> omega
 rintro _ H3 ⟨la,rfl,rfl,la0,la1⟩;refine ⟨λσ J=>∃ (sx:Ad) (B:Hp) (cs:Jg) (l:List S7),σ=[rq a,iq mn,iq lg,iq L,iq gg,iq side,iq rows,rq am,none,rq ce,iq la,rq sx,none,none,none,none,none,none,none,none,none]/\Same H3 B/\Hd B [(sx,.lst (cs.map V.ref))] J/\CodeAt B cs (l.map S7.tv)/\(∀ s∈l,s.Ok gg rows)/\l.length<=40,?_,?_⟩
 ·refine ⟨_,rfl,a,_,rfl,.inl hS,?_⟩
  rw [Ji];refine ⟨_,rfl,_,_,rfl,?_⟩;obtain ⟨hi,ehi,hi0,hi1⟩:∃ hi:Int,(if la<(ns.length:Int) then la else (ns.length:Int))=hi/\0<=hi/\hi<=48:=⟨_,rfl,by split <;> omega,by split <;> omega⟩;rw [ehi];clear ehi;refine ⟨8,hi,rfl,⟨by decide,by decide,by omega,by omega⟩,_,rfl,λx nx=>?_⟩;refine comp_sts (group:=gg) (rows:=rows) (cap:=[rq a,iq rows,rq am]) nx (by omega) ⟨_,rfl⟩ (λi J hi sJ R kk=>?_) (λB J cs l sB h ca ok ll=>⟨x,B,cs,l,rfl,sB,h,ca,ok,by omega⟩);exact ⟨_,rfl,_,rfl,_,rfl,_,rfl,a,am,ns,ms,8+(i:Int),gg,rows,rfl,zG hS sJ,by omega,by omega,sJ _ _ em,lm,hm,m81,by omega,m82.2,kk⟩
 rintro _ J1 ⟨sx,B1,cs,l,rfl,sB1,hX,ca,ok,ll⟩;refine ⟨λσ J=>∃ tn:Nat,σ=[rq a,iq mn,iq lg,iq L,iq gg,iq side,iq rows,rq am,none,rq ce,iq la,rq sx,iq tn,none,none,none,none,none,none,none,none]/\J=J1,?_,?_⟩
 ·refine ⟨_,rfl,_,rfl,a,ns,3,1,rows,rfl,zG hS (sB1.trans hX.sm),by decide,by decide,by decide,by decide,by omega,λr r0 r1=>?_⟩
  exact ⟨r.toNat,by rw [Int.toNat_of_nonneg r0];rfl,rfl⟩
 rintro _ J1 ⟨tn,rfl,rfl⟩;refine ⟨λσ J=>∃ (u13:Jo) (B:Hp) (cs:Jg) (l:List S7),σ=[rq a,iq mn,iq lg,iq L,iq gg,iq side,iq rows,rq am,none,rq ce,iq la,rq sx,iq tn,u13,none,none,none,none,none,none,none]/\Same H3 B/\Hd B [(sx,.lst (cs.map V.ref))] J/\CodeAt B cs (l.map S7.tv)/\(∀ s∈l,s.Ok gg rows)/\l.length<=60,?_,?_⟩
 ·refine ⟨_,rfl,_,rfl,by omega,by omega,?_⟩
  refine xU (n:=(rows:Int).toNat) (λi σ J=>∃ (u13:Jo) (B:Hp) (cs:Jg) (l:List S7),σ=[rq a,iq mn,iq lg,iq L,iq gg,iq side,iq rows,rq am,none,rq ce,iq la,rq sx,iq tn,u13,none,none,none,none,none,none,none]/\Same H3 B/\Hd B [(sx,.lst (cs.map V.ref))] J/\CodeAt B cs (l.map S7.tv)/\(∀ s∈l,s.Ok gg rows)/\l.length<=40+i) ⟨none,B1,cs,l,rfl,sB1,hX,ca,ok,ll⟩ ?_ (λσ J ⟨u,B,cs,l,e,s,h,c,o,n⟩=>⟨u,B,cs,l,e,s,h,c,o,by omega⟩);rintro i σ J hi ⟨u,B,cs,l,rfl,sB,h,ca,ok,ll⟩;rw [q0z] at hi;rw [Int.zero_add];have sJ:=sB.trans h.sm;refine ⟨_,rfl,.inl ⟨rfl,_,h.lst 0 rfl⟩,_,rfl,_,rfl,_,_,rfl,rfl,_,rfl,_,_,rfl,rfl,(by show (0:Int)<(rows:Int);omega),_,rfl,_,rfl,_,rfl,_,rfl,_,_,rfl,rfl,a,ns,4+(i:Int),2,4,rfl,zG hS sJ,by omega,by omega,by decide,by decide,by decide,λj j0 j1=>?_⟩;have jm:j.toNat<ms.length:=by omega
  refine ⟨am,_,_,_,rfl,rfl,SqL.of (sJ _ _ em),Z6 j0 jm,?_⟩;have m16:=hm _ (List.getElem_mem jm);generalize ms[j.toNat]=m at m16 ⊢;have er:((i:Int)+(tn:Int)) % (rows:Int)=(((i+tn) % rows:Nat):Int):=by rw [← Int.natCast_add];exact (Int.natCast_emod _ _).symm
  rw [er];have rlt:(i+tn) % rows<rows:=Nat.mod_lt _ (by omega);generalize (i+tn) % rows=r at rlt ⊢;have p8:=seat_ok (g:=gg) (p:=(i:Int)) (n:=(rows:Int)) (by omega) (by omega) (by omega) m82.2;rw [q0z] at p8;refine ⟨(sz 4),λt nt=>?_⟩;have h2:=h.grow (o:=.tup (S7.tv ⟨.store,r,i,0,0,m⟩)) nt;have s2:Same B (upd B t (.tup (S7.tv ⟨.store,r,i,0,0,m⟩))):=zi (Same.refl _) (h.free nt);have e2:upd B t (.tup (S7.tv ⟨.store,r,i,0,0,m⟩)) t=some (.tup (S7.tv ⟨.store,r,i,0,0,m⟩)):=zf;refine ⟨sx,_,_,rfl,rfl,h2.get 0 rfl,(by rw [Ji,ca.n,Ji];omega),_,_,cs++[t],l++[⟨.store,r,i,0,0,m⟩],rfl,sB.trans s2,?_,?_,λy hy=>?_,by rw [Jj];show _+1<=_;omega⟩
  ·rw [Jk];exact h2.put 0 rfl
  ·rw [Jk];exact Z4 (ca.same s2) (Z3 e2)
  ·rcases List.mem_append.mp hy with hy | hy
   ·exact ok y hy
   ·cases List.mem_singleton.mp hy;exact ⟨⟨rlt,m16⟩,i,rfl,p8⟩
 clear hX ca ok ll sB1;rintro _ J2 ⟨u13,B1,cs,l,rfl,sB1,hX,ca,lok,lln⟩;have s32:=sB1.trans hX.sm;have esx:=hX.get 0 rfl;replace ca:=ca.same hX.sm;replace hS:=zG hS s32;replace ece:=s32 _ _ ece;clear hX sB1 s32 em hm lm;refine ⟨λσ J=>∃ (du:Ad) (ds:Jb),σ=[rq a,iq mn,iq lg,iq L,iq gg,iq side,iq rows,rq am,none,rq ce,iq la,rq sx,iq tn,u13,rq du,none,none,none,none,none,none]/\Same J2 J/\J du=some (.lst (ds.map V.int))/\ds.length<=5,?_,?_⟩
 ·exact ⟨_,rfl,a,ns,3,5,rfl,hS,by decide,by decide,by decide,by decide,λJ du ds ld h=>⟨du,ds,rfl,h.sm,h.get 0 rfl,ld⟩⟩
 rintro _ H4 ⟨du,ds,rfl,sA,edu,ld⟩;replace ece:=sA _ _ ece;replace esx:=sA _ _ esx;replace ca:=ca.same sA;clear sA hS;obtain ⟨c8,hc8⟩:∃ c8:Wc,c8=⟨ds,lg,L,side⟩:=⟨_,rfl⟩;refine ⟨λσ J=>∃ (wd aF aC:Ad),σ=[rq a,iq mn,iq lg,iq L,iq gg,iq side,iq rows,rq am,none,rq ce,iq la,rq sx,iq tn,u13,rq du,rq wd,none,none,none,none,none]/\Hd H4 [(wd,.dK (d5 lg aF aC du)),(aF,.lst ((List.replicate (8*L) (0:Int)).map V.int)),(aC,.lst (cells.map V.int))] J,?_,?_⟩
 ·intro wd nwd
  have h1:Hd H4 [(wd,.dK [])] (upd H4 wd (.dK [])):=Hd.base.new nwd;generalize upd H4 wd (.dK [])=G1 at h1 ⊢;refine ⟨(sz 1),λt1 nt1=>?_⟩;have h2:=h1.new (o:=.lst [.int 0]) nt1;generalize upd G1 t1 (.lst [.int 0])=G2 at h2 ⊢;refine ⟨_,rfl,_,_,rfl,rfl,.inl ⟨by decide,by decide⟩,t1,_,_,rfl,rfl,h2.get 0 rfl,by omega,by omega,(by show 1*(8*(L:Int)).toNat<=_;omega),λaF naF=>?_⟩
  have eF:(List.replicate (8*(L:Int)).toNat [V.int 0]).flatten=(List.replicate (8*L) (0:Int)).map V.int:=by
   rw [rep1,List.map_replicate,show (8*(L:Int)).toNat=8*L by omega]
  rw [eF];have h3:=(h2.tl).new (o:=.lst ((List.replicate (8*L) (0:Int)).map V.int)) naF;generalize upd G2 aF (.lst ((List.replicate (8*L) (0:Int)).map V.int))=G3 at h3 ⊢;refine ⟨_,rfl,ce,_,rfl,.inl (SqL.of (h3.sm _ _ ece)),λaC naC=>?_⟩;have h4:=h3.new (o:=.lst (cells.map V.int)) naC;generalize upd G3 aC (.lst (cells.map V.int))=G4 at h4 ⊢;refine ⟨_,rfl,_,rfl,h4.get 2 rfl,(d5 lg aF aC du),rfl,(show (5:Nat)<=15 by decide),?_⟩;refine ⟨wd,aF,aC,rfl,?_⟩;rw [m5];have h5:=h4.put (o':=.dK (d5 lg aF aC du)) 2 rfl;refine h5.perm ?_;show ([(aC,HO.lst (cells.map V.int)),(aF,HO.lst ((List.replicate (8*L) (0:Int)).map V.int)),(wd,HO.dK _)]:Jm).Perm _;exact (List.Perm.swap _ _ _).trans ((List.Perm.cons _ (List.Perm.swap _ _ _)).trans ((List.Perm.swap _ _ _)))
 rintro _ J1 ⟨wd,aF,aC,rfl,hW⟩
 have fal:(List.replicate (4*(L:Int)).toNat [V.bl false]).flatten=(List.replicate (4*L) false).map V.bl:=by
  rw [rep1,List.map_replicate,show (4*(L:Int)).toNat=4*L by omega]
 refine ⟨λσ J=>∃ A:Wa,σ=[rq a,iq mn,iq lg,iq L,iq gg,iq side,iq rows,rq am,none,rq ce,iq la,rq sx,iq tn,u13,rq du,rq A.w,none,none,none,none,none]/\A.aD=du/\WBt c8 H4 A (W0 c8 cells) J,?_,?_⟩
 ·refine ⟨_,rfl,by decide,by decide,_,rfl,λaM naM=>?_⟩
  have h0:Hd H4 _ (upd J1 aM (.lst [])):=hW.new (o:=.lst (([]:Jg).map V.ref)) naM;generalize upd J1 aM (.lst [])=G at h0 ⊢;refine yJ (n:=16) (λi σ J=>∃ u ms,σ=[u,iq L]/\ms.length=i/\Hd H4 ((aM,.lst (ms.map V.ref))::(wd,.dK (d5 lg aF aC du))::(aF,.lst ((List.replicate (8*L) (0:Int)).map V.int))::(aC,.lst (cells.map V.int))::wmO ms (List.replicate i (List.replicate (4*L) false))) J) ⟨none,[],rfl,rfl,h0⟩ ?_ ?_
  ·rintro i σ J hi ⟨u,ms,rfl,lm,h⟩
   refine ⟨(sz 1),λt1 nt1=>?_⟩;have h1:=h.waste (o:=.lst [.bl false]) nt1;have et1:upd J t1 (.lst [.bl false]) t1=some (.lst [.bl false]):=zf;generalize upd J t1 (.lst [.bl false])=G1 at h1 et1 ⊢;refine ⟨_,rfl,_,_,rfl,rfl,.inl ⟨by decide,by decide⟩,t1,_,_,rfl,rfl,et1,by omega,by omega,(by show 1*(4*(L:Int)).toNat<=_;omega),λx nx=>?_⟩;rw [fal];have h2:=h1.new (o:=.lst ((List.replicate (4*L) false).map V.bl)) nx;refine ⟨_,h2.get 1 rfl,(by rw [Ji];omega),_,ms++[x],rfl,(by rw [Jj,lm];rfl),?_⟩;have h3:=h2.put (o':=.lst (ms.map V.ref++[.ref x])) 1 rfl;rw [wm_snoc lm,Jk];refine h3.perm ?_;show ((x,HO.lst ((List.replicate (4*L) false).map V.bl))::(aM,HO.lst (ms.map V.ref++[.ref x]))::(wd,_)::(aF,_)::(aC,_)::wmO ms (List.replicate i (List.replicate (4*L) false))).Perm ((aM,HO.lst (ms.map V.ref++[.ref x]))::(wd,_)::(aF,_)::(aC,_)::(wmO ms (List.replicate i (List.replicate (4*L) false))++[(x,HO.lst ((List.replicate (4*L) false).map V.bl))]));have p1:∀ {α:Type} (x m w f c:α) (r:List α),(x::m::w::f::c::r).Perm (m::w::f::c::(r++[x])):=λx m w f c r=>(List.perm_append_comm (l₁:=[x]) (l₂:=m::w::f::c::r));exact p1 _ _ _ _ _ _
  ·rintro σ J ⟨u,ms,rfl,lm,h⟩
   refine ⟨_,rfl,wd,_,rfl,DPut.k (k:=.inr "masks") (h.get 1 rfl) (by show (5:Nat)<_;omega),⟨wd,aF,aC,du,aM,0,ms⟩,rfl,rfl,[],.inl rfl,?_,by rw [hc8];exact edu,by show ms.length=(List.replicate 16 _).length;rw [List.length_replicate,lm]⟩;rw [p6];subst hc8;have h2:=h.put (o':=.dK (wk6 ⟨ds,lg,L,side⟩ ⟨wd,aF,aC,du,aM,0,ms⟩ 0++[])) 1 rfl;refine h2.perm ?_;have p1:∀ {α:Type} (m w f c:α) (r:List α),(m::w::f::c::r).Perm (w::f::c::m::r):=λm w f c r=>(List.perm_middle (l₁:=[w,f,c])).symm;exact p1 _ _ _ _ _
 clear hW;have hc:C8 c8 L gg:=by rw [hc8];exact ⟨rfl,es.symm⟩
 have cL:c8.lq=L:=hc.l;have cS:c8.side=side:=by rw [hc8]
 have cG:c8.long=lg:=by rw [hc8]
 have cD:c8.dust=ds:=by rw [hc8]
 have cb:Cb c8:=by rw [hc8];exact ⟨sd.2.1,by show lg<=1000;omega,by show L<=64;omega,by show ds.length<=1000;omega⟩
 have s4:(c8.side:Int)<=4*c8.lq:=by rw [cS,cL];exact sd.2.2
 have w0k:=w0_ok (c:=c8) (cells:=cells) (by omega);have cl8:cells.length=rows*c8.long:=by rw [cG];exact clen
 clear hc8;obtain ⟨NS,eN,hN⟩:=size_iff (mn_:=(mn:Int)) (side:=(side:Int)) (by omega) (by omega)
 have n14:∀ i:Nat,i<NS->i<14:=λi h=>by
  have a:=(hN i).mp h;have:(i:Int)*1<=i*side:=Int.mul_le_mul_of_nonneg_left (by omega) (by omega);omega
 rintro _ J5 ⟨A,rfl,eAd,hB⟩;refine ⟨λσ J=>∃ (u16 u17 u18:Jo) (B:Hp) (A2:Wa),σ=[rq a,iq mn,iq lg,iq L,iq gg,iq side,iq rows,rq am,none,rq ce,iq la,rq sx,iq tn,u13,rq du,rq A2.w,u16,u17,u18,none,none]/\Same H4 B/\WBt c8 B A2 (upW c8 mn l (W0 c8 cells) NS) J,?_,?_⟩
 ·refine ⟨_,rfl,_,rfl,0,mn,side,NS,rfl,⟨by decide,by decide,by omega,by omega,by omega,by omega⟩,eN,?_⟩
  refine for_step (n:=NS) (λi σ J=>∃ (u16 u17 u18:Jo) (B:Hp) (A2:Wa),σ=[rq a,iq mn,iq lg,iq L,iq gg,iq side,iq rows,rq am,none,rq ce,iq la,rq sx,iq tn,u13,rq du,rq A2.w,u16,u17,u18,none,none]/\Same H4 B/\WBt c8 B A2 (upW c8 mn l (W0 c8 cells) i) J) ⟨none,none,none,H4,A,rfl,Same.refl _,hB⟩ ?_ (λσ J h=>h);clear hB;rintro i σ J hi ⟨u16,u17,u18,B,A2,rfl,sB,hB⟩;have ok1:=upW_ok (c:=c8) (mn_:=(mn:Int)) (l:=l) (W:=W0 c8 cells) w0k i;have cl1:(upW c8 mn l (W0 c8 cells) i).cells.length=rows*c8.long:=(Yx ..).trans cl8;have up:=Zi c8 (mn:Int) l (W0 c8 cells) i;rw [cS] at up;generalize upW c8 mn l (W0 c8 cells) i=X at *;have hi':=(hN i).mp hi;have b0:0<=(i:Int)*side:=Int.mul_nonneg (by omega) (by omega);rw [Int.zero_add];obtain ⟨wdt,ewd⟩:∃ n:Nat,wid (mn:Int) side (i*side)=n:=⟨_,rfl⟩
  have ww:wdt<=side/\(i:Int)*side+wdt<=mn/\(wdt:Int)=(if (side:Int)<(mn:Int)-i*side then (side:Int) else (mn:Int)-i*side):=by
   unfold wid at ewd;refine ⟨by omega,by omega,?_⟩
   split <;> omega
  rw [ewd] at up;refine ⟨λσ J'=>σ=[rq a,iq mn,iq lg,iq L,iq gg,iq side,iq rows,rq am,none,rq ce,iq la,rq sx,iq tn,u13,rq du,rq A2.w,iq ((i:Int)*side),iq wdt,u18,none,none]/\J'=J,?_,?_⟩
  ·refine ⟨_,rfl,_,rfl,_,_,rfl,rfl,_,rfl,_,_,rfl,?_⟩
   rw [← ww.2.2];exact ⟨rfl,rfl⟩
  rintro _ J' ⟨rfl,rfl⟩;obtain ⟨ft,hft,h,dl,ml⟩:=hB;refine ⟨(sz 1),λt1 nt1=>?_⟩;replace h:=h.waste (o:=.lst [.bl true]) nt1;have et1:upd J' t1 (.lst [.bl true]) t1=some (.lst [.bl true]):=zf;generalize upd J' t1 (.lst [.bl true])=G1 at h et1 ⊢;refine ⟨_,rfl,t1,_,_,rfl,rfl,et1,by omega,by omega,(by show 1*(wdt:Int).toNat<=_;omega),λp1 np1=>?_⟩
  have tru:(List.replicate (wdt:Int).toNat [V.bl true]).flatten=(List.replicate wdt true).map V.bl:=by
   rw [rep1,List.map_replicate,q0z]
  rw [tru];have sB1:Same B (upd B p1 (.lst ((List.replicate wdt true).map V.bl))):=zi (Same.refl _) (h.free np1);have ep1:upd B p1 (.lst ((List.replicate wdt true).map V.bl)) p1=_:=zf;replace h:=h.grow (o:=.lst ((List.replicate wdt true).map V.bl)) np1;generalize upd B p1 (.lst ((List.replicate wdt true).map V.bl))=B1 at sB1 ep1 h;generalize upd G1 p1 (.lst ((List.replicate wdt true).map V.bl))=G2 at h ⊢;replace dl:=sB1 _ _ dl;refine ⟨_,rfl,_,rfl,wdt,side,rfl,⟨by omega,by omega,by omega,by omega⟩,_,rfl,λx nx=>?_⟩;have h0:Hd B1 _ (upd G2 x (.lst [])):=h.new (o:=.lst (((List.range 0).map λt=>decide (y9 c8.dust (X.spent+t) % 2=1)).map V.bl)) nx;generalize upd G2 x (.lst [])=G3 at h0 ⊢;clear h;refine yJ (lo:=(wdt:Int)) (n:=((side:Int)-wdt).toNat) (λj σ J=>∃ u,σ=[u,rq A2.w]/\Hd B1 ((x,.lst (((List.range j).map λt=>decide (y9 c8.dust (X.spent+t) % 2=1)).map V.bl))::(A2.w,.dK (wk6 c8 A2 (X.spent+j)++ft))::(wo2 A2 X++(A2.aM,.lst (A2.ms.map V.ref))::wmO A2.ms X.masks)) J) ⟨none,rfl,h0⟩ ?_ ?_
  ·clear h0
   rintro j σ J hj ⟨u,rfl,h⟩;obtain ⟨k1,k2,_,_,k6,k7,_⟩:=Y0 (c:=c8) (A:=A2) (n:=X.spent+j) (m:=X.spent+j+1) hft;refine ⟨_,rfl,A2.w,A2.aD,_,X.spent+j,c8.dust,rfl,h.get 1 rfl,k6,k1,k2,h.sm _ _ dl,cb.d,_,_,rfl,rfl,(by show (0:Int)<2;decide),rfl,?_⟩;rw [k7];have h2:=h.put (o':=.dK (wk6 c8 A2 (X.spent+j+1)++ft)) 1 rfl;refine ⟨_,h2.get 0 rfl,(by rw [Ji,Ji,List.length_range];omega),_,rfl,?_⟩;have h3:=h2.put (o':=.lst (((List.range (j+1)).map λt=>decide (y9 c8.dust (X.spent+t) % 2=1)).map V.bl)) 0 rfl
   have e:((List.range (j+1)).map λt=>decide (y9 c8.dust (X.spent+t) % 2=1)).map V.bl=((List.range j).map λt=>decide (y9 c8.dust (X.spent+t) % 2=1)).map V.bl++[.bl (decide (V.int (y9 c8.dust (X.spent+j) % 2)=V.int 1))]:=by
    rw [List.range_succ,Jk,Jk,dec_two];rfl
   rw [e] at h3;rw [e];exact h3
  clear h0;rintro σ J4 ⟨u,rfl,h⟩;have esd:((side:Int)-wdt).toNat=c8.side-wdt:=by rw [cS];omega
  rw [esd] at h;refine ⟨p1,x,_,_,rfl,rfl,h.sm _ _ ep1,h.get 0 rfl,(by rw [Ji,Ji,Ji,List.length_range,List.length_replicate];omega),λz nz=>?_⟩;rw [← List.map_append];replace h:=h.tl.new (o:=.lst ((List.replicate wdt true++(List.range (c8.side-wdt)).map λt=>decide (y9 c8.dust (X.spent+t) % 2=1)).map V.bl)) nz;generalize upd J4 z (.lst ((List.replicate wdt true++(List.range (c8.side-wdt)).map λt=>decide (y9 c8.dust (X.spent+t) % 2=1)).map V.bl))=J6 at h ⊢;obtain ⟨_,_,k3,_,k6,_,ft2,k8,k9,k10⟩:=Y0 (c:=c8) (A:=A2) (n:=X.spent+(c8.side-wdt)) (m:=wdt) hft;have l16:=ok1.ml
  obtain ⟨m0,mr,ems⟩:∃ m0 mr,A2.ms=m0::mr:=by
   cases e:A2.ms with
   | nil=>rw [e,l16] at ml;cases ml
   | cons m0 mr=>exact ⟨m0,mr,rfl⟩
  obtain ⟨x0,xr,exm⟩:∃ x0 xr,X.masks=x0::xr:=by
   cases e:X.masks with
   | nil=>rw [e] at l16;cases l16
   | cons m0 mr=>exact ⟨m0,mr,rfl⟩
  have gm:DGet J6 A2.w (.str "masks") (some (.ref A2.aM)):=k3 ▸ DGet.k (k:=.inr "masks") (h.get 1 rfl);refine ⟨_,rfl,A2.w,_,rfl,gm,A2.aM,_,_,0,rfl,rfl,h.get 4 rfl,(X4 (i:=0) (Int.le_refl 0) (by rw [ems,Ji];show 0<mr.length+1;omega)),?_⟩;have eset:(A2.ms.map V.ref).set 0 (.ref z)=.ref z::mr.map V.ref:=by rw [ems];rfl
  rw [eset];have hw1:upd J6 A2.aM (.lst (.ref z::mr.map V.ref)) A2.w=some (.dK (wk6 c8 A2 (X.spent+(c8.side-wdt))++ft)):=(h.put (o':=.lst (.ref z::mr.map V.ref)) 4 rfl).get 1 rfl;refine ⟨_,rfl,_,rfl,A2.w,_,rfl,DPut.k (k:=.inr "width") hw1 (by omega),?_⟩;rw [k8];refine ⟨λσ J=>∃ A3:Wa,σ=[rq a,iq mn,iq lg,iq L,iq gg,iq side,iq rows,rq am,none,rq ce,iq la,rq sx,iq tn,u13,rq du,rq A3.w,iq ((i:Int)*side),iq wdt,u18,none,none]/\WAt c8 B1 A3 (X.oq c8 wdt) J,?_,?_⟩
  ·refine ⟨(sz 0),λfx nfx=>?_⟩
   have hw2:upd (upd (upd J6 A2.aM (.lst (.ref z::mr.map V.ref))) A2.w (.dK (wk6 c8 A2 (X.spent+(c8.side-wdt))++ft2))) fx (.lst []) A2.w=some (.dK (wk6 c8 A2 (X.spent+(c8.side-wdt))++ft2)):=by
    have h1:=(h.put (o':=.lst (.ref z::mr.map V.ref)) 4 rfl).put (o':=.dK (wk6 c8 A2 (X.spent+(c8.side-wdt))++ft2)) 1 rfl;exact (h1.new (o:=.lst []) nfx).get 2 rfl
   exact ⟨_,rfl,A2.w,_,rfl,DPut.k (k:=.inr "faults") hw2 (by omega),{ A2 with ms:=z::mr,aX:=fx },rfl,WBt.oq ems exm (k10 fx) h nfx dl ml⟩
  clear h gm k3 k6 eset hw1 k8 k9 k10;rintro σ J7 ⟨A3,rfl,wa⟩;have ok2:=Xs (c:=c8) (wd:=wdt) ok1 (by rw [cS];exact ww.1);have wd2:(X.oq c8 wdt).wq=wdt:=rfl;have fl2:(X.oq c8 wdt).fq.length=0:=rfl;have cl2:(X.oq c8 wdt).cells.length=rows*c8.long:=cl1;generalize X.oq c8 wdt=Y at *;have sJ:∀ {B' J'},Same B1 B'->Same B' J'->Same H4 J':=λa b=>((sB.trans sB1).trans a).trans b;have lenc:cs.length=l.length:=by have:=ca.n;rw [Ji] at this;exact this
  refine ⟨_,rfl,sx,rfl,⟨_,SqL.of ((sJ (Same.refl _) wa.h.sm) _ _ esx)⟩,?_⟩;refine za2 (K:=K) (a:=sx) (xs:=cs.map V.ref) (λj σ J=>∃ (u18:Jo) (B3:Hp),σ=[rq a,iq mn,iq lg,iq L,iq gg,iq side,iq rows,rq am,none,rq ce,iq la,rq sx,iq tn,u13,rq du,rq A3.w,iq ((i:Int)*side),iq wdt,u18,none,none]/\Same B1 B3/\WAt c8 B3 A3 (Y.run c8 ((i:Int)*side) (l.take j)) J) ⟨u18,B1,rfl,Same.refl _,wa⟩ (λj σ J _ ⟨_,B3,_,s13,wa⟩=>SqL.of ((sJ s13 wa.h.sm) _ _ esx)) ?_ ?_
  ·clear wa
   rintro j y σ J hy ⟨u,B3,rfl,s13,wa⟩;obtain ⟨st,est,rfl⟩:=xk hy;have hj:j<l.length:=by rw [← lenc];exact (List.getElem?_eq_some_iff.mp est).1
   obtain ⟨sp,esp⟩:∃ s,l[j]?=some s:=⟨_,List.getElem?_eq_getElem hj⟩;have etk:l.take (j+1)=l.take j++[sp]:=by rw [List.take_add_one,esp];rfl
   have ltk:(l.take j).length=j:=by rw [List.length_take];omega
   obtain ⟨o3,f3,w3⟩:=run_ok (c:=c8) ((i:Int)*side) (l.take j) Y ok2;rw [ltk] at f3;have js:j*c8.side<=60*256:=Nat.mul_le_mul (by omega) cb.s;have c3:=cb.s
   have eB:B3 st=some (.tup sp.tv):=by
    have:=ca.t j st sp.tv est (by rw [List.getElem?_map,esp];rfl);exact s13 _ _ (sB1 _ _ (sB _ _ this))
   refine ⟨_,rfl,_,rfl,_,rfl,_,rfl,c8,B3,A3,Y.run c8 ((i:Int)*side) (l.take j),sp,(i:Int)*side,wdt,st,(by rw [cS];rfl),wa,eB,o3,?_,by omega,cb,by omega,λB4 J8 s34 w4=>?_⟩
   ·rw [Wr.run_len,cl2]
    exact Bd7.of (lok sp (List.mem_of_getElem? esp)) hc b0 (by rw [cG];omega) (by rw [cL];omega) (by rw [cS];exact ww.1)
   ·refine ⟨_,B4,rfl,s13.trans s34,?_⟩
    rw [etk,Wr.run_snoc];exact w4
  ·rintro σ J ⟨u,B3,rfl,s13,wa⟩
   rw [Ji,lenc,List.take_length] at wa;refine ⟨_,_,_,B3,A3,rfl,(sB.trans sB1).trans s13,?_⟩;rw [up];exact wa.bt
 clear hB;rintro _ J6 ⟨u16,u17,u18,B,A2,rfl,sB,⟨ft,hft,h,dl,ml⟩⟩;obtain ⟨_,_,_,k4,_⟩:=Y0 (c:=c8) (A:=A2) (n:=(upW c8 mn l (W0 c8 cells) NS).spent) (m:=0) hft;have ew:=h.get 0 rfl;have eC:=h.get 2 rfl;have s6:Same H4 J6:=sB.trans h.sm;clear h dl ml sB;replace esx:=s6 _ _ esx;replace ca:=ca.same s6;have lenc:cs.length=l.length:=by have:=ca.n;rw [Ji] at this;exact this
 refine ⟨_,rfl,_,rfl,(sz 3),λt1 nt1=>?_⟩;have d1:Same J6 (upd J6 t1 (.tup [.str "begin",.int mn,.int gg])):=zi (Same.refl _) nt1;have e1:upd J6 t1 (.tup [.str "begin",.int mn,.int gg]) t1=_:=zf;generalize upd J6 t1 (.tup [.str "begin",.int mn,.int gg])=K1 at d1 e1 ⊢;refine ⟨(sz 1),λl1' nl1=>?_⟩;have d2:Same K1 (upd K1 l1' (.lst [.ref t1])):=zi (Same.refl _) nl1;have e2:upd K1 l1' (.lst [.ref t1]) l1'=_:=zf;generalize upd K1 l1' (.lst [.ref t1])=K2 at d2 e2 ⊢;refine ⟨_,rfl,l1',sx,_,_,rfl,rfl,e2,(d1.trans d2) _ _ esx,(by rw [Ji];show 1+_<=_;omega),λp1 np1=>?_⟩;have d3:Same K2 (upd K2 p1 (.lst ([.ref t1]++cs.map V.ref))):=zi (Same.refl _) np1;have e3:upd K2 p1 (.lst ([.ref t1]++cs.map V.ref)) p1=_:=zf;generalize upd K2 p1 (.lst ([.ref t1]++cs.map V.ref))=K3 at d3 e3 ⊢;refine ⟨(sz 1),λt2 nt2=>?_⟩;have d4:Same K3 (upd K3 t2 (.tup [.str "next"])):=zi (Same.refl _) nt2;have e4:upd K3 t2 (.tup [.str "next"]) t2=_:=zf;generalize upd K3 t2 (.tup [.str "next"])=K4 at d4 e4 ⊢;refine ⟨(sz 1),λl2 nl2=>?_⟩;have d5':Same K4 (upd K4 l2 (.lst [.ref t2])):=zi (Same.refl _) nl2;have e5:upd K4 l2 (.lst [.ref t2]) l2=_:=zf;generalize upd K4 l2 (.lst [.ref t2])=K5 at d5' e5 ⊢;refine ⟨p1,l2,_,_,rfl,rfl,(d4.trans d5') _ _ e3,e5,(by rw [Jj,Ji];show 1+_+1<=_;omega),λcd ncd=>?_⟩;have ecs:([V.ref t1]++cs.map V.ref)++[.ref t2]=([t1]++(cs++[t2])).map V.ref:=by rw [Jk,Jk,List.append_assoc];rfl
 rw [ecs];have d6':Same K5 (upd K5 cd (.lst (([t1]++(cs++[t2])).map V.ref))):=zi (Same.refl _) ncd;have e6:upd K5 cd (.lst (([t1]++(cs++[t2])).map V.ref)) cd=_:=zf;generalize upd K5 cd (.lst (([t1]++(cs++[t2])).map V.ref))=K6 at d6' e6 ⊢;have d16:Same K1 K6:=(((d2.trans d3).trans d4).trans d5').trans d6';have CO:CodeAt K6 ([t1]++(cs++[t2])) ([[.str "begin",.int mn,.int gg]]++(l.map S7.tv++[[V.str "next"]])):=Z4 (Z3 (d16 _ _ e1)) (Z4 ((ca.same d1).same d16) (Z3 ((d5'.trans d6') _ _ e4)));have d06:=d1.trans d16;clear d2 d3 d4 d5' d6' d16 d1 e1 e2 e3 e4 e5 ecs;refine ⟨_,rfl,_,rfl,(sz 1),λq1 nq1=>?_⟩;have d7':Same K6 (upd K6 q1 (.lst [.int lg])):=zi (Same.refl _) nq1;have e7:upd K6 q1 (.lst [.int lg]) q1=_:=zf;generalize upd K6 q1 (.lst [.int lg])=K7 at d7' e7 ⊢;refine ⟨_,rfl,q1,_,_,rfl,rfl,e7,by omega,by omega,(by show 1*(rows:Int).toNat<=_;omega),λle nle=>?_⟩;have eL:(List.replicate (rows:Int).toNat [V.int lg]).flatten=(List.replicate rows (lg:Int)).map V.int:=by rw [rep1,List.map_replicate,q0z]
 rw [eL];have d8':Same K7 (upd K7 le (.lst ((List.replicate rows (lg:Int)).map V.int))):=zi (Same.refl _) nle;have e8:upd K7 le (.lst ((List.replicate rows (lg:Int)).map V.int)) le=_:=zf;generalize upd K7 le (.lst ((List.replicate rows (lg:Int)).map V.int))=K8 at d8' e8 ⊢;refine ⟨_,rfl,_,rfl,_,rfl,(sz 0),λpk npk=>?_⟩;have d9:Same K8 (upd K8 pk (.lst [])):=zi (Same.refl _) npk;have e9:upd K8 pk (.lst []) pk=some (.lst (([]:Jb).map V.int)):=zf;generalize upd K8 pk (.lst [])=K9 at d9 e9 ⊢;have d69:=(d7'.trans d8').trans d9;have d09:=d06.trans d69;have s49:Same H4 K9:=s6.trans d09;have lcode:([[V.str "begin",.int mn,.int gg]]++(l.map S7.tv++[[V.str "next"]])).length=l.length+2:=by rw [Jj,Jj,Ji];show 1+(l.length+1)=_;omega
 obtain ⟨kk,M,st,T9,rs⟩:=round7 (c:=c8) (Lx:=Lx) (L:=L) (S:=xS (List.replicate rows (c8.long:Int))) (LN:=List.replicate rows (c8.long:Int)) (rows:=rows) (mn_:=(mn:Int)) (group:=gg) (W:=W0 c8 cells) (M:=Mc.fresh (List.replicate rows (c8.long:Int)) cells c8.lq c8.dust []) (code:=[[V.str "begin",.int mn,.int gg]]++(l.map S7.tv++[[V.str "next"]])) (l:=l) (NS:=NS) xB xN lx
  ⟨⟨by show 1<=c8.lq;rw [cL];omega,by show c8.lq<=64;rw [cL];omega,List.length_replicate,List.length_replicate,λm hm=>by rw [List.eq_of_mem_replicate hm];exact List.length_replicate⟩,cL,rfl,rfl,rfl,rfl,rfl,rfl⟩
  (fresh7 (by omega)) hc (rows7 cl8 (by rw [cG];omega)) hg (by omega) (by omega) lln lok rfl (λj s e=>by
   rw [Nat.add_comm];show (l.map S7.tv++[[V.str "next"]])[j]?=_
   rw [q4x (by rw [Ji];exact (List.getElem?_eq_some_iff.mp e).1),List.getElem?_map,e];rfl) (by
   show (l.map S7.tv++[[V.str "next"]])[l.length]?=_;rw [List.getElem?_append_right (by rw [Ji];exact Nat.le_refl _),Ji,Nat.sub_self];rfl) (λj=>by rw [cS];exact hN j)
 rw [cG,cL,cD] at st
 have plain:∀ tv∈[[V.str "begin",.int mn,.int gg]]++(l.map S7.tv++[[V.str "next"]]),Plain tv:=λtv htv=>by
  rcases List.mem_append.mp htv with htv | htv
  ·cases List.mem_singleton.mp htv;exact zX (ns:=[(mn:Int),gg]) (by decide +kernel)
  ·rcases List.mem_append.mp htv with htv | htv
   ·obtain ⟨s,_,rfl⟩:=List.mem_map.mp htv;exact s.plain
   ·cases List.mem_singleton.mp htv;exact zX (ns:=[]) (by decide +kernel)
 refine ⟨cd,le,ce,du,pk,_,_,List.replicate rows (lg:Int),cells,ds,[],L,kk,M,rfl,SqL.of (d69 _ _ e6),CO.same d69,plain,SqL.of (d9 _ _ e8),SqL.of (s49 _ _ ece),SqL.of (s49 _ _ edu),SqL.of e9,by omega,by omega,(by rw [List.length_replicate];omega),(by rw [lcode];omega),st.run (.inl (by rw [rs.pc,lcode];exact Int.le_refl _)),λB9 A9 H9 t s9 m9 et=>?_⟩;have sG:=(d09.trans s9).trans m9.h.sm;have rfz:A9.rf=.non:=by have:=m9.bb.rf;rw [rs.rf] at this;exact this
 rw [rfz] at et;have et':=m9.h.sm _ _ et;have eAC:H9 A9.aC=some (.lst ((upW c8 mn l (W0 c8 cells) NS).cells.map V.int)):=by have:=m9.h.get (i:=1) (a:=A9.aC) rfl;rw [this,rs.cells]
 have hT9:SqT K H9 t [.ref A9.aC,.non,.ref A9.aT]:=SqT.of et';refine ⟨_,rfl,_,_,.type "tuple",.type "tuple",true,rfl,rel_ty.1,rel_ty.2,xG (.tup et'),AK.tt,_,rfl,ym ?_⟩;refine ⟨_,rfl,t,_,rfl,.inr hT9,rfl,_,rfl,iF rfl ?_⟩;refine ⟨_,rfl,t,_,_,_,rfl,rfl,hT9,rfl,_,rfl,t,_,_,_,rfl,rfl,hT9,rfl,(sz 2),λt1 nt1=>?_⟩;have f1:Same H9 (upd H9 t1 (.tup [.ref A9.aC,.non])):=zi (Same.refl _) nt1;have g1':upd H9 t1 (.tup [.ref A9.aC,.non]) t1=_:=zf;generalize upd H9 t1 (.tup [.ref A9.aC,.non])=G1 at f1 g1' ⊢;have gC:DGet G1 A2.w (.str "cells") (some (.ref A2.aC)):=k4 ▸ DGet.k (k:=.inr "cells") (f1 _ _ (sG _ _ ew));refine ⟨_,rfl,A2.w,_,rfl,gC,(sz 2),λt2 nt2=>?_⟩;have f2:Same G1 (upd G1 t2 (.tup [.ref A2.aC,.non])):=zi (Same.refl _) nt2;have g2':upd G1 t2 (.tup [.ref A2.aC,.non]) t2=_:=zf;generalize upd G1 t2 (.tup [.ref A2.aC,.non])=G2 at f2 g2' ⊢;have f12:=f1.trans f2;refine ⟨_,_,rfl,.tup (f2 _ _ g1') g2' rfl λi x y hx hy=>?_,λH11 s11=>k _⟩
 match i,hx,hy with
 | 0,hx,hy =>
  cases hx;cases hy;refine .lst (f12 _ _ eAC) (f12 _ _ (sG _ _ eC)) rfl λi x y hx hy=>?_;obtain ⟨n,_,rfl⟩:=xk hx;rw [hx] at hy;cases hy;exact .int _
 | 1,hx,hy=>cases hx;cases hy;exact .non
 | n+2,hx,hy=>cases hx
def Lx:Lex:=⟨λw f=>(w="number"/\f=numM)∨(w="here"/\f=hereM)∨(w="load"/\f=ZX)∨(w="copy"/\f=Y8)∨(w="pick"/\f=YO)∨(w="gather"/\f=xx),λw f=>(w="choose"/\f=yV false)∨(w="other"/\f=yV true)∨(w="store"/\f=Zj)∨(w="trim"/\f=YF),λw f=>(w="begin"/\f=Xe)∨(w="next"/\f=nextW)⟩
def lx_begin:Lx.W "begin" Xe:=.inl ⟨rfl,rfl⟩
def lx_next:Lx.W "next" nextW:=.inr ⟨rfl,rfl⟩
def lx_7:Lx7 Lx:=⟨.inl ⟨rfl,rfl⟩,.inr (.inl ⟨rfl,rfl⟩),.inr (.inr (.inl ⟨rfl,rfl⟩)),.inr (.inr (.inr (.inl ⟨rfl,rfl⟩))),.inr (.inr (.inr (.inr (.inl ⟨rfl,rfl⟩)))),.inr (.inr (.inr (.inr (.inr ⟨rfl,rfl⟩)))),.inl ⟨rfl,rfl⟩,.inr (.inl ⟨rfl,rfl⟩),.inr (.inr (.inl ⟨rfl,rfl⟩)),.inr (.inr (.inr ⟨rfl,rfl⟩))⟩
theorem uc {n:Nat}:∀ {us:Jd},us.length=n+1->∃ a r,us=a::r/\r.length=n
 | a::r,h=>⟨a,r,rfl,Nat.succ.inj h⟩
def us1 {p:Jd->Prop} (h:∀ a0,p [a0]):∀ us:Jd,us.length=1->p us:=by
 intro us e;obtain ⟨a0,u0,rfl,e0⟩:=uc e;cases List.eq_nil_of_length_eq_zero e0;exact h _
def us2 {p:Jd->Prop} (h:∀ a0 a1,p [a0,a1]):∀ us:Jd,us.length=2->p us:=by
 intro us e;obtain ⟨a0,u0,rfl,e0⟩:=uc e;obtain ⟨a1,u1,rfl,e1⟩:=uc e0;cases List.eq_nil_of_length_eq_zero e1;exact h _ _
def us3 {p:Jd->Prop} (h:∀ a0 a1 a2,p [a0,a1,a2]):∀ us:Jd,us.length=3->p us:=by
 intro us e;obtain ⟨a0,u0,rfl,e0⟩:=uc e;obtain ⟨a1,u1,rfl,e1⟩:=uc e0;obtain ⟨a2,u2,rfl,e2⟩:=uc e1;cases List.eq_nil_of_length_eq_zero e2;exact h _ _ _
def us4 {p:Jd->Prop} (h:∀ a0 a1 a2 a3,p [a0,a1,a2,a3]):∀ us:Jd,us.length=4->p us:=by
 intro us e;obtain ⟨a0,u0,rfl,e0⟩:=uc e;obtain ⟨a1,u1,rfl,e1⟩:=uc e0;obtain ⟨a2,u2,rfl,e2⟩:=uc e1;obtain ⟨a3,u3,rfl,e3⟩:=uc e2;cases List.eq_nil_of_length_eq_zero e3;exact h _ _ _ _
def us5 {p:Jd->Prop} (h:∀ a0 a1 a2 a3 a4,p [a0,a1,a2,a3,a4]):∀ us:Jd,us.length=5->p us:=by
 intro us e;obtain ⟨a0,u0,rfl,e0⟩:=uc e;obtain ⟨a1,u1,rfl,e1⟩:=uc e0;obtain ⟨a2,u2,rfl,e2⟩:=uc e1;obtain ⟨a3,u3,rfl,e3⟩:=uc e2;obtain ⟨a4,u4,rfl,e4⟩:=uc e3;cases List.eq_nil_of_length_eq_zero e4;exact h _ _ _ _ _
def us6 {p:Jd->Prop} (h:∀ a0 a1 a2 a3 a4 a5,p [a0,a1,a2,a3,a4,a5]):∀ us:Jd,us.length=6->p us:=by
 intro us e;obtain ⟨a0,u0,rfl,e0⟩:=uc e;obtain ⟨a1,u1,rfl,e1⟩:=uc e0;obtain ⟨a2,u2,rfl,e2⟩:=uc e1;obtain ⟨a3,u3,rfl,e3⟩:=uc e2;obtain ⟨a4,u4,rfl,e4⟩:=uc e3;obtain ⟨a5,u5,rfl,e5⟩:=uc e4;cases List.eq_nil_of_length_eq_zero e5;exact h _ _ _ _ _ _
def all_mk {l:PySem.W.OpenLaw} {w:World} {K:Fg} {h:Heap} {mg:J9} {fa f_start_of f_play_trim f_lay_chosen f_play_choose f_play_other f_play_store f_has_effect f_play_effect f_numbers_written f_numbers_of_here f_numbers_loaded f_number_gathered f_numbers_gathered f_numbers_picked f_numbers_copied f_lays_seat f_play_seat_step f_play_begin f_play_next f_place_behind f_ran f_l_cell_at f_l_some f_l_number f_l_alike f_l_lanes f_l_group f_l_dust f_l_ran f_l_step f_l_taken f_l_number_of f_l_masked f_l_laid f_l_played f_law C_Boxes C_Feed C_Bench:Ad} {TS TE TW f_numbers_spread f_numbers_shifted f_numbers_joined f_numbers_brought f_play_reach f_play_stop f_play_save f_play_put f_play_fold f_play_running f_play_any f_play_turns f_play_quiet f_play_till:Ad} {tB tM tN:Tok} {esS esE esW:Array DictEntry} {nS nE nW:Nat} (X:K.In h) (G:h.Ns mainGlobals mg) (hfa:mg "law"=some (.ref fa))
  (h_start_of:DH K "start_of" xY f_start_of)
  (h_play_trim:DH K "play_trim" xH f_play_trim)
  (h_lay_chosen:DH K "lay_chosen" xp f_lay_chosen)
  (h_play_choose:DH K "play_choose" xf f_play_choose)
  (h_play_other:DH K "play_other" xn f_play_other)
  (h_play_store:DH K "play_store" xm f_play_store)
  (h_has_effect:DH K "has_effect" xq f_has_effect)
  (h_play_effect:DH K "play_effect" xc f_play_effect)
  (h_numbers_written:DH K "numbers_written" yy f_numbers_written)
  (h_numbers_of_here:DH K "numbers_of_here" yz f_numbers_of_here)
  (h_numbers_loaded:DH K "numbers_loaded" yM f_numbers_loaded)
  (h_number_gathered:DH K "number_gathered" yA f_number_gathered)
  (h_numbers_gathered:DH K "numbers_gathered" yo f_numbers_gathered)
  (h_numbers_picked:DH K "numbers_picked" yL f_numbers_picked)
  (h_numbers_copied:DH K "numbers_copied" yN f_numbers_copied)
  (h_lays_seat:DH K "lays_seat" xJ f_lays_seat)
  (h_play_seat_step:DH K "play_seat_step" yK f_play_seat_step)
  (h_play_begin:DH K "play_begin" xo f_play_begin)
  (h_play_next:DH K "play_next" xI f_play_next)
  (h_place_behind:DH K "place_behind" yZ f_place_behind)
  (h_ran:DH K "ran" s_ran f_ran)
  (h_l_cell_at:DH K "_law_cell_at" xK f_l_cell_at)
  (h_l_some:DH K "_law_some" ZM f_l_some)
  (h_l_number:DH K "_law_number" x6 f_l_number)
  (h_l_alike:DH K "_law_alike" xy f_l_alike)
  (h_l_lanes:DH K "_law_lanes" Zo f_l_lanes)
  (h_l_group:DH K "_law_group" Zp f_l_group)
  (h_l_dust:DH K "_law_dust" ZO f_l_dust)
  (h_l_ran:DH K "_law_ran" Yz f_l_ran)
  (h_l_step:DH K "_law_step" ZL f_l_step)
  (h_l_taken:DH K "_law_taken" Zn f_l_taken)
  (h_l_number_of:DH K "_law_number_of" xg f_l_number_of)
  (h_l_masked:DH K "_law_masked" x8 f_l_masked)
  (h_l_laid:DH K "_law_laid" ZN f_l_laid)
  (h_l_played:DH K "_law_played" xZ f_l_played)
  (h_law:DH K "law" YJ f_law)
  (a_C_Boxes:PySem.W.nsIn K mainGlobals "Boxes"=some (some (.ref C_Boxes))) (h_C_Boxes:CH K C_Boxes)
  (fn_C_Boxes:FN K C_Boxes ["lanes","numbers"])
  (mk_C_Boxes:PySem.W.makesIn K C_Boxes=true) (kC_C_Boxes:PySem.W.keepIn K (.ref C_Boxes)=true)
  (h_Boxes_init:MH K C_Boxes "__init__" "Boxes.__init__" xu)
  (h_Boxes_spot_of:MH K C_Boxes "spot_of" "Boxes.spot_of" yT)
  (h_Boxes_lay:MH K C_Boxes "lay" "Boxes.lay" xM)
  (h_Boxes_number_at:MH K C_Boxes "number_at" "Boxes.number_at" yB)
  (a_C_Feed:PySem.W.nsIn K mainGlobals "Feed"=some (some (.ref C_Feed))) (h_C_Feed:CH K C_Feed)
  (fn_C_Feed:FN K C_Feed ["numbers","at"])
  (mk_C_Feed:PySem.W.makesIn K C_Feed=true) (kC_C_Feed:PySem.W.keepIn K (.ref C_Feed)=true)
  (h_Feed_init:MH K C_Feed "__init__" "Feed.__init__" xL)
  (h_Feed_taken:MH K C_Feed "taken" "Feed.taken" xt)
  (a_C_Bench:PySem.W.nsIn K mainGlobals "Bench"=some (some (.ref C_Bench))) (h_C_Bench:CH K C_Bench)
  (fn_C_Bench:FN K C_Bench ["lengths","starts","cells","lanes","boxes","masks","slots","dust","picks","touches","at","opened","many","group","base","begun","width","faults","cut","carried","raised","turns","refusal"])
  (mk_C_Bench:PySem.W.makesIn K C_Bench=true) (kC_C_Bench:PySem.W.keepIn K (.ref C_Bench)=true)
  (h_Bench_init:MH K C_Bench "__init__" "Bench.__init__" xv)
  (h_Bench_open_round:MH K C_Bench "open_round" "Bench.open_round" yq)
  (h_Bench_begin_strip:MH K C_Bench "begin_strip" "Bench.begin_strip" yi)
  (h_Bench_active_under:MH K C_Bench "active_under" "Bench.active_under" yf)
  (h_Bench_numbers_in:MH K C_Bench "numbers_in" "Bench.numbers_in" yr)
  (h_Bench_lay_seat:MH K C_Bench "lay_seat" "Bench.lay_seat" yO)
  (h_Bench_lay_mask:MH K C_Bench "lay_mask" "Bench.lay_mask" yP)
  (h_Bench_touch:MH K C_Bench "touch" "Bench.touch" xh)
  (h_Bench_read_cell:MH K C_Bench "read_cell" "Bench.read_cell" yC)
  (h_Bench_write_cell:MH K C_Bench "write_cell" "Bench.write_cell" yp)
  (tb1:TB K mainGlobals [("SEAT_STEPS",TS),("EFFECTS",TE),("WAYS",TW),("numbers_spread",f_numbers_spread),("numbers_shifted",f_numbers_shifted),("numbers_joined",f_numbers_joined),("numbers_brought",f_numbers_brought),("play_reach",f_play_reach),("play_stop",f_play_stop),("play_save",f_play_save),("play_put",f_play_put),("play_fold",f_play_fold),("play_running",f_play_running),("play_any",f_play_any),("play_turns",f_play_turns),("play_quiet",f_play_quiet),("play_till",f_play_till)])
  (lS:K.lookup TS=some ⟨.type "dict",none,.dict esS nS,#[]⟩)
  (kS:PySem.W.KeysLit w.params esS.toList)
  (lE:K.lookup TE=some ⟨.type "dict",none,.dict esE nE,#[]⟩)
  (kE:PySem.W.KeysLit w.params esE.toList)
  (lW:K.lookup TW=some ⟨.type "dict",none,.dict esW nW,#[]⟩)
  (kW:PySem.W.KeysLit w.params esW.toList)
  (tb2:TB K TS [("number",f_numbers_written),("here",f_numbers_of_here),("load",f_numbers_loaded),("spread",f_numbers_spread),("shift",f_numbers_shifted),("gather",f_numbers_gathered),("op",f_numbers_joined),("pick",f_numbers_picked),("copy",f_numbers_copied),("bring",f_numbers_brought)])
  (tb3:TB K TE [("reach",f_play_reach),("trim",f_play_trim),("stop",f_play_stop),("choose",f_play_choose),("other",f_play_other),("save",f_play_save),("store",f_play_store),("put",f_play_put),("fold",f_play_fold),("running",f_play_running),("any",f_play_any)])
  (tb4:TN K TS ["reach","trim","stop","choose","other","save","store","put","fold","running","any","begin","next","turns","quiet","till"])
  (tb5:TB K TW [("begin",f_play_begin),("next",f_play_next),("turns",f_play_turns),("quiet",f_play_quiet),("till",f_play_till)])
  (tb6:TN K TE ["begin","next","turns","quiet","till"])
  (loS:(TS == sysModules)=false)
  (loE:(TE == sysModules)=false)
  (k_int_int:PySem.W.kitOne K (.type "int") (.type "int")=some true)
  (k_int_bool:PySem.W.kitOne K (.type "int") (.type "bool")=some false)
  (k_int_str:PySem.W.kitOne K (.type "int") (.type "str")=some false)
  (k_int_list:PySem.W.kitOne K (.type "int") (.type "list")=some false)
  (k_int_tuple:PySem.W.kitOne K (.type "int") (.type "tuple")=some false)
  (k_str_str:PySem.W.kitOne K (.type "str") (.type "str")=some true)
  (k_list_str:PySem.W.kitOne K (.type "list") (.type "str")=some false)
  (k_list_list:PySem.W.kitOne K (.type "list") (.type "list")=some true)
  (k_list_tuple:PySem.W.kitOne K (.type "list") (.type "tuple")=some false)
  (k_tuple_str:PySem.W.kitOne K (.type "tuple") (.type "str")=some false)
  (k_tuple_list:PySem.W.kitOne K (.type "tuple") (.type "list")=some false)
  (k_tuple_tuple:PySem.W.kitOne K (.type "tuple") (.type "tuple")=some true)
  (tb7:TN K mainGlobals ["isinstance","int","bool","str","list","tuple","len","range","sum","min","max","zip","dict"])
  (aB:PySem.W.nsIn K mainGlobals "MANY_BOXES"=some (some (.int 8 tB)))
  (aM:PySem.W.nsIn K mainGlobals "MOST_TOGETHER"=some (some (.int 4 tM)))
  (aN:PySem.W.nsIn K mainGlobals "MANY_MASKS"=some (some (.int 16 tN)))
  : ∃ fd:FuncData,(∀ (s:Sh) (v:Vl),BindsTo s fd ⟨[v],[]⟩ [("_law_script",v)])/\∀ base:Heap,K.In base->base.Ns mainGlobals mg->FnOk l.prog w K mg base CX0 12 fa fd ["_law_script"] (spLaw K):=by
 obtain ⟨aS,aE,aW,a_numbers_spread,a_numbers_shifted,a_numbers_joined,a_numbers_brought,a_play_reach,a_play_stop,a_play_save,a_play_put,a_play_fold,a_play_running,a_play_any,a_play_turns,a_play_quiet,a_play_till,_⟩:=tb1;obtain ⟨tS_number,tS_here,tS_load,tS_spread,tS_shift,tS_gather,tS_op,tS_pick,tS_copy,tS_bring,_⟩:=tb2;obtain ⟨tE_reach,tE_trim,tE_stop,tE_choose,tE_other,tE_save,tE_store,tE_put,tE_fold,tE_running,tE_any,_⟩:=tb3;obtain ⟨tS_reach,tS_trim,tS_stop,tS_choose,tS_other,tS_save,tS_store,tS_put,tS_fold,tS_running,tS_any,tS_begin,tS_next,tS_turns,tS_quiet,tS_till,_⟩:=tb4;obtain ⟨tW_begin,tW_next,tW_turns,tW_quiet,tW_till,_⟩:=tb5;obtain ⟨tE_begin,tE_next,tE_turns,tE_quiet,tE_till,_⟩:=tb6;obtain ⟨z_isinstance,z_int,z_bool,z_str,z_list,z_tuple,z_len,z_range,z_sum,z_min,z_max,z_zip,z_dict,_⟩:=tb7;obtain ⟨a_law,oc_law,od_law,kV_law,dc_law,pm_law,an_law,cd_law,ct_law,sl_law,l_law,c_law,k_law⟩:=h_law;obtain ⟨n_C_Boxes_lanes,n_C_Boxes_numbers,_⟩:=fn_C_Boxes;obtain ⟨n_C_Feed_numbers,n_C_Feed_at,_⟩:=fn_C_Feed;obtain ⟨n_C_Bench_lengths,n_C_Bench_starts,n_C_Bench_cells,n_C_Bench_lanes,n_C_Bench_boxes,n_C_Bench_masks,n_C_Bench_slots,n_C_Bench_dust,n_C_Bench_picks,n_C_Bench_touches,n_C_Bench_at,n_C_Bench_opened,n_C_Bench_many,n_C_Bench_group,n_C_Bench_base,n_C_Bench_begun,n_C_Bench_width,n_C_Bench_faults,n_C_Bench_cut,n_C_Bench_carried,n_C_Bench_raised,n_C_Bench_turns,n_C_Bench_refusal,_⟩:=fn_C_Bench;have a_play_trim:=h_play_trim.1;have a_play_choose:=h_play_choose.1;have a_play_other:=h_play_other.1;have a_play_store:=h_play_store.1;have a_numbers_written:=h_numbers_written.1;have a_numbers_of_here:=h_numbers_of_here.1;have a_numbers_loaded:=h_numbers_loaded.1;have a_numbers_gathered:=h_numbers_gathered.1;have a_numbers_picked:=h_numbers_picked.1;have a_numbers_copied:=h_numbers_copied.1;have a_play_begin:=h_play_begin.1;have a_play_next:=h_play_next.1;have e:=hfa.symm.trans (PySem.W.mg_of X G a_law);cases e;have d_start_of:zr K mg "start_of" xY ["lengths","row"]:=h_start_of.d X G λ_ _ _ _ _ _=>us2 λ_ _=>rfl;have d_play_trim:zr K mg "play_trim" xH ["bench","step"]:=h_play_trim.d X G λ_ _ _ _ _ _=>us2 λ_ _=>rfl;have d_lay_chosen:zr K mg "lay_chosen" xp ["bench","step","nought"]:=h_lay_chosen.d X G λ_ _ _ _ _ _=>us3 λ_ _ _=>rfl;have d_play_choose:zr K mg "play_choose" xf ["bench","step"]:=h_play_choose.d X G λ_ _ _ _ _ _=>us2 λ_ _=>rfl;have d_play_other:zr K mg "play_other" xn ["bench","step"]:=h_play_other.d X G λ_ _ _ _ _ _=>us2 λ_ _=>rfl;have d_play_store:zr K mg "play_store" xm ["bench","step"]:=h_play_store.d X G λ_ _ _ _ _ _=>us2 λ_ _=>rfl;have d_has_effect:zr K mg "has_effect" xq ["word"]:=h_has_effect.d X G λ_ _ _ _ _ _=>us1 λ_=>rfl;have d_play_effect:zr K mg "play_effect" xc ["bench","step"]:=h_play_effect.d X G λ_ _ _ _ _ _=>us2 λ_ _=>rfl;have d_numbers_written:zr K mg "numbers_written" yy ["bench","step","active"]:=h_numbers_written.d X G λ_ _ _ _ _ _=>us3 λ_ _ _=>rfl;have d_numbers_of_here:zr K mg "numbers_of_here" yz ["bench","step","active"]:=h_numbers_of_here.d X G λ_ _ _ _ _ _=>us3 λ_ _ _=>rfl;have d_numbers_loaded:zr K mg "numbers_loaded" yM ["bench","step","active"]:=h_numbers_loaded.d X G λ_ _ _ _ _ _=>us3 λ_ _ _=>rfl;have d_number_gathered:zr K mg "number_gathered" yA ["bench","row","place","lane"]:=h_number_gathered.d X G λ_ _ _ _ _ _=>us4 λ_ _ _ _=>rfl;have d_numbers_gathered:zr K mg "numbers_gathered" yo ["bench","step","active"]:=h_numbers_gathered.d X G λ_ _ _ _ _ _=>us3 λ_ _ _=>rfl;have d_numbers_picked:zr K mg "numbers_picked" yL ["bench","step","active"]:=h_numbers_picked.d X G λ_ _ _ _ _ _=>us3 λ_ _ _=>rfl;have d_numbers_copied:zr K mg "numbers_copied" yN ["bench","step","active"]:=h_numbers_copied.d X G λ_ _ _ _ _ _=>us3 λ_ _ _=>rfl;have d_lays_seat:zr K mg "lays_seat" xJ ["word"]:=h_lays_seat.d X G λ_ _ _ _ _ _=>us1 λ_=>rfl;have d_play_seat_step:zr K mg "play_seat_step" yK ["bench","step"]:=h_play_seat_step.d X G λ_ _ _ _ _ _=>us2 λ_ _=>rfl;have d_play_begin:zr K mg "play_begin" xo ["bench","step"]:=h_play_begin.d X G λ_ _ _ _ _ _=>us2 λ_ _=>rfl;have d_play_next:zr K mg "play_next" xI ["bench","step"]:=h_play_next.d X G λ_ _ _ _ _ _=>us2 λ_ _=>rfl;have d_place_behind:zr K mg "place_behind" yZ ["bench","step"]:=h_place_behind.d X G λ_ _ _ _ _ _=>us2 λ_ _=>rfl;have d_ran:zr K mg "ran" s_ran ["code","lengths","cells","lanes","dust","picks"]:=h_ran.d X G λ_ _ _ _ _ _=>us6 λ_ _ _ _ _ _=>rfl;have d_l_cell_at:zr K mg "_law_cell_at" xK ["_law_script","_law_k"]:=h_l_cell_at.d X G λ_ _ _ _ _ _=>us2 λ_ _=>rfl;have d_l_some:zr K mg "_law_some" ZM ["_law_script","_law_k","_law_salt","_law_many"]:=h_l_some.d X G λ_ _ _ _ _ _=>us4 λ_ _ _ _=>rfl;have d_l_number:zr K mg "_law_number" x6 ["_law_script","_law_k"]:=h_l_number.d X G λ_ _ _ _ _ _=>us2 λ_ _=>rfl;have d_l_alike:zr K mg "_law_alike" xy ["_law_found","_law_due"]:=h_l_alike.d X G λ_ _ _ _ _ _=>us2 λ_ _=>rfl;have d_l_lanes:zr K mg "_law_lanes" Zo ["_law_cell"]:=h_l_lanes.d X G λ_ _ _ _ _ _=>us1 λ_=>rfl;have d_l_group:zr K mg "_law_group" Zp ["_law_script","_law_k","_law_salt"]:=h_l_group.d X G λ_ _ _ _ _ _=>us3 λ_ _ _=>rfl;have d_l_dust:zr K mg "_law_dust" ZO ["_law_script","_law_k","_law_salt"]:=h_l_dust.d X G λ_ _ _ _ _ _=>us3 λ_ _ _=>rfl;have d_l_ran:zr K mg "_law_ran" Yz ["_law_code","_law_lengths","_law_cells","_law_lanes_here","_law_dust_here","_law_picks"]:=h_l_ran.d X G λ_ _ _ _ _ _=>us6 λ_ _ _ _ _ _=>rfl;have d_l_step:zr K mg "_law_step" ZL ["_law_script","_law_k","_law_seats","_law_masks"]:=h_l_step.d X G λ_ _ _ _ _ _=>us4 λ_ _ _ _=>rfl;have d_l_taken:zr K mg "_law_taken" Zn ["_law_world"]:=h_l_taken.d X G λ_ _ _ _ _ _=>us1 λ_=>rfl;have d_l_number_of:zr K mg "_law_number_of" xg ["_law_world","_law_step_here","_law_side","_law_lane","_law_element"]:=h_l_number_of.d X G λ_ _ _ _ _ _=>us5 λ_ _ _ _ _=>rfl;have d_l_masked:zr K mg "_law_masked" x8 ["_law_world","_law_step_here","_law_side","_law_lane","_law_active"]:=h_l_masked.d X G λ_ _ _ _ _ _=>us5 λ_ _ _ _ _=>rfl;have d_l_laid:zr K mg "_law_laid" ZN ["_law_world","_law_step_here","_law_side","_law_lane","_law_active","_law_element"]:=h_l_laid.d X G λ_ _ _ _ _ _=>us6 λ_ _ _ _ _ _=>rfl;have d_l_played:zr K mg "_law_played" xZ ["_law_world","_law_step_here","_law_side","_law_base"]:=h_l_played.d X G λ_ _ _ _ _ _=>us4 λ_ _ _ _=>rfl;have d_Boxes_init:ZH K C_Boxes "Boxes.__init__" xu ["self","lanes"]:=h_Boxes_init.i mk_C_Boxes kC_C_Boxes λ_ _ _ _ _ _=>us2 λ_ _=>rfl;have d_Boxes_spot_of:zV K C_Boxes "spot_of" "Boxes.spot_of" yT ["self","group","seat","lane"]:=h_Boxes_spot_of.m λ_ _ _ _ _ _=>us4 λ_ _ _ _=>rfl;have d_Boxes_lay:zV K C_Boxes "lay" "Boxes.lay" xM ["self","group","seat","lane","number"]:=h_Boxes_lay.m λ_ _ _ _ _ _=>us5 λ_ _ _ _ _=>rfl;have d_Boxes_number_at:zV K C_Boxes "number_at" "Boxes.number_at" yB ["self","group","seat","lane"]:=h_Boxes_number_at.m λ_ _ _ _ _ _=>us4 λ_ _ _ _=>rfl;have d_Feed_init:ZH K C_Feed "Feed.__init__" xL ["self","numbers"]:=h_Feed_init.i mk_C_Feed kC_C_Feed λ_ _ _ _ _ _=>us2 λ_ _=>rfl;have d_Feed_taken:zV K C_Feed "taken" "Feed.taken" xt ["self"]:=h_Feed_taken.m λ_ _ _ _ _ _=>us1 λ_=>rfl;have d_Bench_init:ZH K C_Bench "Bench.__init__" xv ["self","lengths","cells","lanes","dust","picks"]:=h_Bench_init.i mk_C_Bench kC_C_Bench λ_ _ _ _ _ _=>us6 λ_ _ _ _ _ _=>rfl;have d_Bench_open_round:zV K C_Bench "open_round" "Bench.open_round" yq ["self","many","group"]:=h_Bench_open_round.m λ_ _ _ _ _ _=>us3 λ_ _ _=>rfl;have d_Bench_begin_strip:zV K C_Bench "begin_strip" "Bench.begin_strip" yi ["self","base"]:=h_Bench_begin_strip.m λ_ _ _ _ _ _=>us2 λ_ _=>rfl;have d_Bench_active_under:zV K C_Bench "active_under" "Bench.active_under" yf ["self","mask"]:=h_Bench_active_under.m λ_ _ _ _ _ _=>us2 λ_ _=>rfl;have d_Bench_numbers_in:zV K C_Bench "numbers_in" "Bench.numbers_in" yr ["self","seat","active"]:=h_Bench_numbers_in.m λ_ _ _ _ _ _=>us3 λ_ _ _=>rfl;have d_Bench_lay_seat:zV K C_Bench "lay_seat" "Bench.lay_seat" yO ["self","seat","active","numbers"]:=h_Bench_lay_seat.m λ_ _ _ _ _ _=>us4 λ_ _ _ _=>rfl;have d_Bench_lay_mask:zV K C_Bench "lay_mask" "Bench.lay_mask" yP ["self","mask","chosen"]:=h_Bench_lay_mask.m λ_ _ _ _ _ _=>us3 λ_ _ _=>rfl;have d_Bench_touch:zV K C_Bench "touch" "Bench.touch" xh ["self","kind","address"]:=h_Bench_touch.m λ_ _ _ _ _ _=>us3 λ_ _ _=>rfl;have d_Bench_read_cell:zV K C_Bench "read_cell" "Bench.read_cell" yC ["self","row","place"]:=h_Bench_read_cell.m λ_ _ _ _ _ _=>us3 λ_ _ _=>rfl;have d_Bench_write_cell:zV K C_Bench "write_cell" "Bench.write_cell" yp ["self","row","place","number"]:=h_Bench_write_cell.m λ_ _ _ _ _ _=>us4 λ_ _ _ _=>rfl;have cl_Boxes:Cls K C_Boxes:=h_C_Boxes.c;have cl_Feed:Cls K C_Feed:=h_C_Feed.c;have cl_Bench:Cls K C_Bench:=h_C_Bench.c;have mm:=λ{x:Str} {v:Vl} (q:PySem.W.nsIn K mainGlobals x=some (some v))=>PySem.W.mg_of X G q;have mz:=λ{x:Str} (q:PySem.W.nsIn K mainGlobals x=some none)=>PySem.W.mg_none_of X G q;refine ⟨PySem.W.fnOf "law" "law" (yQ YJ) (yv YJ) (zh YJ) .none kV_law dc_law pm_law an_law cd_law ct_law,λs v=>.of_eq rfl,λbase kb nb=>?_⟩;let c:MCs:=⟨C_Boxes,C_Feed,C_Bench⟩;let t:TabA:=⟨TS,TE,TW⟩;have BC:BCls K C_Boxes:=⟨cl_Boxes,n_C_Boxes_lanes,n_C_Boxes_numbers⟩;have FC:FCls K C_Feed:=⟨cl_Feed,n_C_Feed_numbers,n_C_Feed_at⟩;have NC:NCls K C_Bench:=⟨cl_Bench,n_C_Bench_lengths,n_C_Bench_starts,n_C_Bench_cells,n_C_Bench_lanes,n_C_Bench_boxes,n_C_Bench_masks,n_C_Bench_slots,n_C_Bench_dust,n_C_Bench_picks,n_C_Bench_touches,n_C_Bench_at,n_C_Bench_opened,n_C_Bench_many,n_C_Bench_group,n_C_Bench_base,n_C_Bench_begun,n_C_Bench_width,n_C_Bench_faults,n_C_Bench_cut,n_C_Bench_carried,n_C_Bench_raised,n_C_Bench_turns,n_C_Bench_refusal⟩;have CC:MCls K c:=⟨BC,FC,NC⟩;have TT:Tabs w K mg t:=⟨⟨esS,nS,lS,kS⟩,⟨esE,nE,lE,kE⟩,⟨esW,nW,lW,kW⟩,loS,loE,mm aS,mm aE,mm aW,⟨_,tS_number,mm a_numbers_written⟩,⟨_,tS_here,mm a_numbers_of_here⟩,⟨_,tS_load,mm a_numbers_loaded⟩,⟨_,tS_spread,mm a_numbers_spread⟩,⟨_,tS_shift,mm a_numbers_shifted⟩,⟨_,tS_gather,mm a_numbers_gathered⟩,⟨_,tS_op,mm a_numbers_joined⟩,⟨_,tS_pick,mm a_numbers_picked⟩,⟨_,tS_copy,mm a_numbers_copied⟩,⟨_,tS_bring,mm a_numbers_brought⟩,⟨_,tE_reach,mm a_play_reach⟩,tS_reach,⟨_,tE_trim,mm a_play_trim⟩,tS_trim,⟨_,tE_stop,mm a_play_stop⟩,tS_stop,⟨_,tE_choose,mm a_play_choose⟩,tS_choose,⟨_,tE_other,mm a_play_other⟩,tS_other,⟨_,tE_save,mm a_play_save⟩,tS_save,⟨_,tE_store,mm a_play_store⟩,tS_store,⟨_,tE_put,mm a_play_put⟩,tS_put,⟨_,tE_fold,mm a_play_fold⟩,tS_fold,⟨_,tE_running,mm a_play_running⟩,tS_running,⟨_,tE_any,mm a_play_any⟩,tS_any,⟨_,tW_begin,mm a_play_begin⟩,tS_begin,tE_begin,⟨_,tW_next,mm a_play_next⟩,tS_next,tE_next,⟨_,tW_turns,mm a_play_turns⟩,tS_turns,tE_turns,⟨_,tW_quiet,mm a_play_quiet⟩,tS_quiet,tE_quiet,⟨_,tW_till,mm a_play_till⟩,tS_till,tE_till⟩;have SPo:=ok_spot (P:=l.prog) (w:=w) (mg:=mg) (base:=base) d_Boxes_spot_of BC;have LAy:=ok_lay d_Boxes_lay BC SPo;have NUm:=ok_num d_Boxes_number_at BC SPo;have TK:=ok_taken (P:=l.prog) (w:=w) (mg:=mg) (base:=base) d_Feed_taken FC (mz z_len);have IFe:=ok_initF (P:=l.prog) (w:=w) (mg:=mg) (base:=base) d_Feed_init FC (mz z_list);have IBo:=ok_initB (P:=l.prog) (w:=w) (mg:=mg) (base:=base) d_Boxes_init BC (mm aB);have TOu:=ok_touch (P:=l.prog) (w:=w) (mg:=mg) (base:=base) (c:=c) d_Bench_touch NC;have RCe:=ok_read (c:=c) d_Bench_read_cell NC TOu;have WCe:=ok_write (c:=c) d_Bench_write_cell NC TOu;have AU:=ok_act (P:=l.prog) (w:=w) (mg:=mg) (base:=base) (c:=c) d_Bench_active_under (mz z_range) NC;have NI:=ok_nums (c:=c) d_Bench_numbers_in CC NUm;have LMa:=ok_mask (c:=c) d_Bench_lay_mask (mz z_range) CC TK;have LSe:=ok_seat (c:=c) d_Bench_lay_seat (mz z_range) (mz z_dict) (mz z_zip) CC TK LAy;have BSt:=ok_strip (c:=c) d_Bench_begin_strip (mz z_range) (mz z_list) (mz z_min) CC LMa;have ORo:=ok_round (c:=c) d_Bench_open_round CC BSt;have SOf:=ok_start (P:=l.prog) (w:=w) (base:=base) d_start_of (mz z_sum);have INi:=ok_initN (c:=c) d_Bench_init CC (mz z_list) (mz z_len) (mz z_range) (mm aM) (mm aN) (mm a_C_Boxes) (mm a_C_Feed) SOf IBo IFe;have LSW:=ok_lsw (P:=l.prog) (base:=base) (t:=t) d_lays_seat TT;have HEW:=ok_hew (P:=l.prog) (base:=base) (t:=t) d_has_effect TT;have LO:=ok_loaded (c:=c) d_numbers_loaded CC RCe;have STo:=ok_store (c:=c) d_play_store (mz z_zip) CC AU NI WCe;have BEg:=ok_begin (c:=c) d_play_begin CC ORo;have NEx:=ok_next (c:=c) d_play_next CC BSt;have LCh:=ok_chosen (c:=c) d_lay_chosen (mz z_zip) CC AU NI LMa;have CHo:=ok_choose (c:=c) d_play_choose LCh;have OTh:=ok_other (c:=c) d_play_other LCh;have HE:=ok_here (P:=l.prog) (w:=w) (base:=base) (c:=c) d_numbers_of_here CC;have NW:=zbl (P:=l.prog) (w:=w) (base:=base) (c:=c) d_numbers_written (mz z_len);have CPy:=zbm (c:=c) d_numbers_copied CC NI;have GA1:=ok_gaOne (c:=c) d_number_gathered CC RCe;have GAt:=ok_gather (c:=c) d_numbers_gathered (mz z_zip) CC NI GA1;have PIc:=ok_picked (c:=c) d_numbers_picked (mz z_zip) CC NI;have TRi:=ok_trim (P:=l.prog) (w:=w) (base:=base) (c:=c) d_play_trim (mz z_len) (mz z_min) CC
 have SW:Yo l.prog w K mg base c t Lx.S 6:=λword f h=>by
  rcases h with ⟨rfl,rfl⟩ | ⟨rfl,rfl⟩ | ⟨rfl,rfl⟩ | ⟨rfl,rfl⟩ | ⟨rfl,rfl⟩ | ⟨rfl,rfl⟩
  ·exact ⟨_,_,TT.s_number,NW.mono (by decide),numM_ok⟩
  ·exact ⟨_,_,TT.s_here,HE.mono (by decide),hereM_ok⟩
  ·exact ⟨_,_,TT.s_load,LO.mono (by decide),loadM_ok⟩
  ·exact ⟨_,_,TT.s_copy,CPy.mono (by decide),copyM_ok⟩
  ·exact ⟨_,_,TT.s_pick,PIc.mono (by decide),pickM_ok⟩
  ·exact ⟨_,_,TT.s_gather,GAt.mono (by decide),zbu⟩
 have EW:Xf l.prog w K mg base c t Lx.E 7:=λword f h=>by
  rcases h with ⟨rfl,rfl⟩ | ⟨rfl,rfl⟩ | ⟨rfl,rfl⟩ | ⟨rfl,rfl⟩
  ·exact ⟨TT.es_choose,_,_,TT.e_choose,CHo.mono (by decide)⟩
  ·exact ⟨TT.es_other,_,_,TT.e_other,OTh.mono (by decide)⟩
  ·exact ⟨TT.es_store,_,_,TT.e_store,STo.mono (by decide)⟩
  ·exact ⟨TT.es_trim,_,_,TT.e_trim,TRi.mono (by decide)⟩
 have WW:zbc l.prog w K mg base c t Lx.W 8:=λword f h=>by
  rcases h with ⟨rfl,rfl⟩ | ⟨rfl,rfl⟩
  ·exact ⟨TT.ws_begin,TT.we_begin,_,_,TT.w_begin,BEg.mono (by decide)⟩
  ·exact ⟨TT.ws_next,TT.we_next,_,_,TT.w_next,NEx.mono (by decide)⟩
 have PSS:=ok_pss (c:=c) (t:=t) d_play_seat_step CC TT (by decide) AU LSe SW;have PEf:=ok_pe (c:=c) (t:=t) (by decide) d_play_effect TT EW;have PBe:=ok_pb (c:=c) (t:=t) d_place_behind CC TT (by decide) SW EW WW LSW HEW PSS PEf;have RN0:=ok_ran (c:=c) d_ran CC (mz z_len) (mm a_C_Bench) INi PBe;have RN:=ok_lran (c:=c) d_l_ran (mz z_list) RN0;have CA:=zbn (P:=l.prog) (w:=w) (base:=base) d_l_cell_at (mz z_len);have SM:=ok_some d_l_some CA;have NB:=ok_number d_l_number CA SM;have AKs:AlK K mg:=⟨mz z_isinstance,mz z_int,mz z_bool,mz z_str,mz z_list,mz z_tuple,k_int_int,k_int_bool,k_int_str,k_int_list,k_int_tuple,k_str_str,k_list_str,k_list_list,k_list_tuple,k_tuple_str,k_tuple_list,k_tuple_tuple⟩;have AL:=zar (P:=l.prog) (w:=w) (base:=base) d_l_alike AKs (mz z_len) (mz z_zip) 3;have TK7:=ok_tak (P:=l.prog) (w:=w) (base:=base) d_l_taken (mz z_len);have NO7:=ok_no7 (P:=l.prog) (w:=w) (base:=base) d_l_number_of;have MK7:=ok_mk7 d_l_masked TK7;have LA7:=ok_la7 d_l_laid TK7 NO7;have PL7:=ok_pl7 d_l_played (mz z_range) (mz z_min) MK7 LA7;have ST7:=ok_st7 d_l_step SM NB;exact ok_law (c:=c) (Lx:=Lx) (ZG (st:=YJ) l_law c_law k_law) AKs (mz z_len) (mz z_range) (mz z_list) (mz z_min) (mz z_max) CA SM (ok_lanes d_l_lanes) (ok_group d_l_group SM) NB (ok_dust d_l_dust (mz z_range) SM NB) TK7 ST7 PL7 AL RN lx_begin lx_next lx_7
def walk {l:PySem.W.OpenLaw} {q:Program} {loose:Jf} {XP:(J9)->Heap->Prop} {YP:World->Heap->Prop} {d:DefRec} {K:Params->Fg} (hn:l.most=some 63) (hdf:d.params.defaults=[])
  (hY:∀ (w:World) (h:Heap),YP w h->(K w.params).In h)
  (F:∀ (w:World) (mg:J9) (fa:Ad) (h:Heap),(K w.params).In h->h.Ns mainGlobals mg->mg d.name=some (.ref fa) ->
   ∃ fd:FuncData,(∀ (s:Sh) (u:Vl),BindsTo s fd ⟨[u],[]⟩ [("_law_script",u)])/\∀ base:Heap,(K w.params).In base->base.Ns mainGlobals mg->FnOk l.prog w (K w.params) mg base CX0 12 fa fd ["_law_script"] (spLaw (K w.params))) :
  PySem.W.WalkO q loose XP YP l.row.toRowW d [] (λf vs=>PySem.call f vs) :=
 L2.walk_of (n:=63) (k:=12) (x:="_law_script") (CX:=λ_=>CX0) (sp:=λw=>spLaw (K w.params)) hn (by decide) hdf ⟨rfl,by decide,by decide⟩ hY F (λ_ _ a ns hl _ hS=>⟨a,ns,rfl,hS,hl,λ_=>rfl⟩) λ_ _ _ _ _ z=>z
end K37
open PySem PySem.W PyProof.Rows
set_option maxRecDepth 100000 in
set_option maxHeartbeats 0 in
theorem PySem.Challenge.cw_rowbreadth_k37_masks_and_dust_holds : PySem.Challenge.rw_rowbreadth_k37_masks_and_dust.Holds := by
 refine K37hd ?_
 k_fill
 refine K37.walk (l:=PySem.Challenge.rw_rowbreadth_k37_masks_and_dust) rfl rfl (λw h Y=>Y) ?F
 case F =>
  intro w mg fa h KX G hmg
  refine' K37.all_mk KX G hmg ?kf_h_start_of ?kf_h_play_trim ?kf_h_lay_chosen ?kf_h_play_choose ?kf_h_play_other ?kf_h_play_store ?kf_h_has_effect ?kf_h_play_effect ?kf_h_numbers_written ?kf_h_numbers_of_here ?kf_h_numbers_loaded ?kf_h_number_gathered ?kf_h_numbers_gathered ?kf_h_numbers_picked ?kf_h_numbers_copied ?kf_h_lays_seat ?kf_h_play_seat_step ?kf_h_play_begin ?kf_h_play_next ?kf_h_place_behind ?kf_h_ran ?kf_h_l_cell_at ?kf_h_l_some ?kf_h_l_number ?kf_h_l_alike ?kf_h_l_lanes ?kf_h_l_group ?kf_h_l_dust ?kf_h_l_ran ?kf_h_l_step ?kf_h_l_taken ?kf_h_l_number_of ?kf_h_l_masked ?kf_h_l_laid ?kf_h_l_played ?kf_h_law ?kf_a_C_Boxes ?kf_h_C_Boxes ?kf_fn_C_Boxes ?kf_mk_C_Boxes ?kf_kC_C_Boxes ?kf_h_Boxes_init ?kf_h_Boxes_spot_of ?kf_h_Boxes_lay ?kf_h_Boxes_number_at ?kf_a_C_Feed ?kf_h_C_Feed ?kf_fn_C_Feed ?kf_mk_C_Feed ?kf_kC_C_Feed ?kf_h_Feed_init ?kf_h_Feed_taken ?kf_a_C_Bench ?kf_h_C_Bench ?kf_fn_C_Bench ?kf_mk_C_Bench ?kf_kC_C_Bench ?kf_h_Bench_init ?kf_h_Bench_open_round ?kf_h_Bench_begin_strip ?kf_h_Bench_active_under ?kf_h_Bench_numbers_in ?kf_h_Bench_lay_seat ?kf_h_Bench_lay_mask ?kf_h_Bench_touch ?kf_h_Bench_read_cell ?kf_h_Bench_write_cell ?kf_tb1 ?kf_lS ?kf_kS ?kf_lE ?kf_kE ?kf_lW ?kf_kW ?kf_tb2 ?kf_tb3 ?kf_tb4 ?kf_tb5 ?kf_tb6 ?kf_loS ?kf_loE ?kf_k_int_int ?kf_k_int_bool ?kf_k_int_str ?kf_k_int_list ?kf_k_int_tuple ?kf_k_str_str ?kf_k_list_str ?kf_k_list_list ?kf_k_list_tuple ?kf_k_tuple_str ?kf_k_tuple_list ?kf_k_tuple_tuple ?kf_tb7 ?kf_aB ?kf_aM ?kf_aN
  (case kf_h_start_of=>(refine' L2.DH.mk ?a ?b ?c ?d;(case a=>k_is);(case b=>k_is);(case c=>k_is);(case d=>k_is)))
  (case kf_h_play_trim=>(refine' L2.DH.mk ?a ?b ?c ?d;(case a=>k_is);(case b=>k_is);(case c=>k_is);(case d=>k_is)))
  (case kf_h_lay_chosen=>(refine' L2.DH.mk ?a ?b ?c ?d;(case a=>k_is);(case b=>k_is);(case c=>k_is);(case d=>k_is)))
  (case kf_h_play_choose=>(refine' L2.DH.mk ?a ?b ?c ?d;(case a=>k_is);(case b=>k_is);(case c=>k_is);(case d=>k_is)))
  (case kf_h_play_other=>(refine' L2.DH.mk ?a ?b ?c ?d;(case a=>k_is);(case b=>k_is);(case c=>k_is);(case d=>k_is)))
  (case kf_h_play_store=>(refine' L2.DH.mk ?a ?b ?c ?d;(case a=>k_is);(case b=>k_is);(case c=>k_is);(case d=>k_is)))
  (case kf_h_has_effect=>(refine' L2.DH.mk ?a ?b ?c ?d;(case a=>k_is);(case b=>k_is);(case c=>k_is);(case d=>k_is)))
  (case kf_h_play_effect=>(refine' L2.DH.mk ?a ?b ?c ?d;(case a=>k_is);(case b=>k_is);(case c=>k_is);(case d=>k_is)))
  (case kf_h_numbers_written=>(refine' L2.DH.mk ?a ?b ?c ?d;(case a=>k_is);(case b=>k_is);(case c=>k_is);(case d=>k_is)))
  (case kf_h_numbers_of_here=>(refine' L2.DH.mk ?a ?b ?c ?d;(case a=>k_is);(case b=>k_is);(case c=>k_is);(case d=>k_is)))
  (case kf_h_numbers_loaded=>(refine' L2.DH.mk ?a ?b ?c ?d;(case a=>k_is);(case b=>k_is);(case c=>k_is);(case d=>k_is)))
  (case kf_h_number_gathered=>(refine' L2.DH.mk ?a ?b ?c ?d;(case a=>k_is);(case b=>k_is);(case c=>k_is);(case d=>k_is)))
  (case kf_h_numbers_gathered=>(refine' L2.DH.mk ?a ?b ?c ?d;(case a=>k_is);(case b=>k_is);(case c=>k_is);(case d=>k_is)))
  (case kf_h_numbers_picked=>(refine' L2.DH.mk ?a ?b ?c ?d;(case a=>k_is);(case b=>k_is);(case c=>k_is);(case d=>k_is)))
  (case kf_h_numbers_copied=>(refine' L2.DH.mk ?a ?b ?c ?d;(case a=>k_is);(case b=>k_is);(case c=>k_is);(case d=>k_is)))
  (case kf_h_lays_seat=>(refine' L2.DH.mk ?a ?b ?c ?d;(case a=>k_is);(case b=>k_is);(case c=>k_is);(case d=>k_is)))
  (case kf_h_play_seat_step=>(refine' L2.DH.mk ?a ?b ?c ?d;(case a=>k_is);(case b=>k_is);(case c=>k_is);(case d=>k_is)))
  (case kf_h_play_begin=>(refine' L2.DH.mk ?a ?b ?c ?d;(case a=>k_is);(case b=>k_is);(case c=>k_is);(case d=>k_is)))
  (case kf_h_play_next=>(refine' L2.DH.mk ?a ?b ?c ?d;(case a=>k_is);(case b=>k_is);(case c=>k_is);(case d=>k_is)))
  (case kf_h_place_behind=>(refine' L2.DH.mk ?a ?b ?c ?d;(case a=>k_is);(case b=>k_is);(case c=>k_is);(case d=>k_is)))
  (case kf_h_ran=>(refine' L2.DH.mk ?a ?b ?c ?d;(case a=>k_is);(case b=>k_is);(case c=>k_is);(case d=>k_is)))
  (case kf_h_l_cell_at=>(refine' L2.DH.mk ?a ?b ?c ?d;(case a=>k_is);(case b=>k_is);(case c=>k_is);(case d=>k_is)))
  (case kf_h_l_some=>(refine' L2.DH.mk ?a ?b ?c ?d;(case a=>k_is);(case b=>k_is);(case c=>k_is);(case d=>k_is)))
  (case kf_h_l_number=>(refine' L2.DH.mk ?a ?b ?c ?d;(case a=>k_is);(case b=>k_is);(case c=>k_is);(case d=>k_is)))
  (case kf_h_l_alike=>(refine' L2.DH.mk ?a ?b ?c ?d;(case a=>k_is);(case b=>k_is);(case c=>k_is);(case d=>k_is)))
  (case kf_h_l_lanes=>(refine' L2.DH.mk ?a ?b ?c ?d;(case a=>k_is);(case b=>k_is);(case c=>k_is);(case d=>k_is)))
  (case kf_h_l_group=>(refine' L2.DH.mk ?a ?b ?c ?d;(case a=>k_is);(case b=>k_is);(case c=>k_is);(case d=>k_is)))
  (case kf_h_l_dust=>(refine' L2.DH.mk ?a ?b ?c ?d;(case a=>k_is);(case b=>k_is);(case c=>k_is);(case d=>k_is)))
  (case kf_h_l_ran=>(refine' L2.DH.mk ?a ?b ?c ?d;(case a=>k_is);(case b=>k_is);(case c=>k_is);(case d=>k_is)))
  (case kf_h_l_step=>(refine' L2.DH.mk ?a ?b ?c ?d;(case a=>k_is);(case b=>k_is);(case c=>k_is);(case d=>k_is)))
  (case kf_h_l_taken=>(refine' L2.DH.mk ?a ?b ?c ?d;(case a=>k_is);(case b=>k_is);(case c=>k_is);(case d=>k_is)))
  (case kf_h_l_number_of=>(refine' L2.DH.mk ?a ?b ?c ?d;(case a=>k_is);(case b=>k_is);(case c=>k_is);(case d=>k_is)))
  (case kf_h_l_masked=>(refine' L2.DH.mk ?a ?b ?c ?d;(case a=>k_is);(case b=>k_is);(case c=>k_is);(case d=>k_is)))
  (case kf_h_l_laid=>(refine' L2.DH.mk ?a ?b ?c ?d;(case a=>k_is);(case b=>k_is);(case c=>k_is);(case d=>k_is)))
  (case kf_h_l_played=>(refine' L2.DH.mk ?a ?b ?c ?d;(case a=>k_is);(case b=>k_is);(case c=>k_is);(case d=>k_is)))
  (case kf_h_law=>(refine' L2.DH.mk ?a ?b ?c ?d;(case a=>k_is);(case b=>k_is);(case c=>k_is);(case d=>k_is)))
  (case kf_a_C_Boxes=>k_is)
  (case kf_h_C_Boxes=>(refine ⟨?_,?_,?_,?_⟩ <;> k_is))
  (case kf_fn_C_Boxes=>(repeat' first | exact trivial | refine And.intro ?_ ?_ | k_is))
  (case kf_mk_C_Boxes=>k_is)
  (case kf_kC_C_Boxes=>k_is)
  (case kf_h_Boxes_init=>(refine' L2.MH.mk ?a ?b ?c ?d ?e;(case a=>k_is);(case b=>k_is);(case c=>k_is);(case d=>k_is);(case e=>k_is)))
  (case kf_h_Boxes_spot_of=>(refine' L2.MH.mk ?a ?b ?c ?d ?e;(case a=>k_is);(case b=>k_is);(case c=>k_is);(case d=>k_is);(case e=>k_is)))
  (case kf_h_Boxes_lay=>(refine' L2.MH.mk ?a ?b ?c ?d ?e;(case a=>k_is);(case b=>k_is);(case c=>k_is);(case d=>k_is);(case e=>k_is)))
  (case kf_h_Boxes_number_at=>(refine' L2.MH.mk ?a ?b ?c ?d ?e;(case a=>k_is);(case b=>k_is);(case c=>k_is);(case d=>k_is);(case e=>k_is)))
  (case kf_a_C_Feed=>k_is)
  (case kf_h_C_Feed=>(refine ⟨?_,?_,?_,?_⟩ <;> k_is))
  (case kf_fn_C_Feed=>(repeat' first | exact trivial | refine And.intro ?_ ?_ | k_is))
  (case kf_mk_C_Feed=>k_is)
  (case kf_kC_C_Feed=>k_is)
  (case kf_h_Feed_init=>(refine' L2.MH.mk ?a ?b ?c ?d ?e;(case a=>k_is);(case b=>k_is);(case c=>k_is);(case d=>k_is);(case e=>k_is)))
  (case kf_h_Feed_taken=>(refine' L2.MH.mk ?a ?b ?c ?d ?e;(case a=>k_is);(case b=>k_is);(case c=>k_is);(case d=>k_is);(case e=>k_is)))
  (case kf_a_C_Bench=>k_is)
  (case kf_h_C_Bench=>(refine ⟨?_,?_,?_,?_⟩ <;> k_is))
  (case kf_fn_C_Bench=>(repeat' first | exact trivial | refine And.intro ?_ ?_ | k_is))
  (case kf_mk_C_Bench=>k_is)
  (case kf_kC_C_Bench=>k_is)
  (case kf_h_Bench_init=>(refine' L2.MH.mk ?a ?b ?c ?d ?e;(case a=>k_is);(case b=>k_is);(case c=>k_is);(case d=>k_is);(case e=>k_is)))
  (case kf_h_Bench_open_round=>(refine' L2.MH.mk ?a ?b ?c ?d ?e;(case a=>k_is);(case b=>k_is);(case c=>k_is);(case d=>k_is);(case e=>k_is)))
  (case kf_h_Bench_begin_strip=>(refine' L2.MH.mk ?a ?b ?c ?d ?e;(case a=>k_is);(case b=>k_is);(case c=>k_is);(case d=>k_is);(case e=>k_is)))
  (case kf_h_Bench_active_under=>(refine' L2.MH.mk ?a ?b ?c ?d ?e;(case a=>k_is);(case b=>k_is);(case c=>k_is);(case d=>k_is);(case e=>k_is)))
  (case kf_h_Bench_numbers_in=>(refine' L2.MH.mk ?a ?b ?c ?d ?e;(case a=>k_is);(case b=>k_is);(case c=>k_is);(case d=>k_is);(case e=>k_is)))
  (case kf_h_Bench_lay_seat=>(refine' L2.MH.mk ?a ?b ?c ?d ?e;(case a=>k_is);(case b=>k_is);(case c=>k_is);(case d=>k_is);(case e=>k_is)))
  (case kf_h_Bench_lay_mask=>(refine' L2.MH.mk ?a ?b ?c ?d ?e;(case a=>k_is);(case b=>k_is);(case c=>k_is);(case d=>k_is);(case e=>k_is)))
  (case kf_h_Bench_touch=>(refine' L2.MH.mk ?a ?b ?c ?d ?e;(case a=>k_is);(case b=>k_is);(case c=>k_is);(case d=>k_is);(case e=>k_is)))
  (case kf_h_Bench_read_cell=>(refine' L2.MH.mk ?a ?b ?c ?d ?e;(case a=>k_is);(case b=>k_is);(case c=>k_is);(case d=>k_is);(case e=>k_is)))
  (case kf_h_Bench_write_cell=>(refine' L2.MH.mk ?a ?b ?c ?d ?e;(case a=>k_is);(case b=>k_is);(case c=>k_is);(case d=>k_is);(case e=>k_is)))
  (case kf_tb1=>(repeat' first | exact trivial | refine And.intro ?_ ?_ | k_is))
  (case kf_lS=>k_is)
  (case kf_kS=>k_keys)
  (case kf_lE=>k_is)
  (case kf_kE=>k_keys)
  (case kf_lW=>k_is)
  (case kf_kW=>k_keys)
  (case kf_tb2=>(repeat' first | exact trivial | refine And.intro ?_ ?_ | k_is))
  (case kf_tb3=>(repeat' first | exact trivial | refine And.intro ?_ ?_ | k_is))
  (case kf_tb4=>(repeat' first | exact trivial | refine And.intro ?_ ?_ | k_is))
  (case kf_tb5=>(repeat' first | exact trivial | refine And.intro ?_ ?_ | k_is))
  (case kf_tb6=>(repeat' first | exact trivial | refine And.intro ?_ ?_ | k_is))
  (case kf_loS=>rfl)
  (case kf_loE=>rfl)
  (case kf_k_int_int=>kit_is)
  (case kf_k_int_bool=>kit_is)
  (case kf_k_int_str=>kit_is)
  (case kf_k_int_list=>kit_is)
  (case kf_k_int_tuple=>kit_is)
  (case kf_k_str_str=>kit_is)
  (case kf_k_list_str=>kit_is)
  (case kf_k_list_list=>kit_is)
  (case kf_k_list_tuple=>kit_is)
  (case kf_k_tuple_str=>kit_is)
  (case kf_k_tuple_list=>kit_is)
  (case kf_k_tuple_tuple=>kit_is)
  (case kf_tb7=>(repeat' first | exact trivial | refine And.intro ?_ ?_ | k_is))
  (case kf_aB=>k_is)
  (case kf_aM=>k_is)
  (case kf_aN=>k_is)
