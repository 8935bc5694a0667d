import PyProof.Rows.All
import Wide.All
import Wide.FinOn
import OpenK.KLine
import KE.RegKIsAll
import KE.KDictOf
import KE.KItem
import KE.LcSums
import KE.KBits
import PyProof.EqAt
import PyProof.EqKinds
import PyProof.TupleCall
import KE.KIntText
import KE.KDictList
import PyProof.EnumIter
import PyProof.SliceStr2
import PyProof.StrCalls2
import PyProof.StrCalls6
import PyProof.StrHeap
import PyProof.StrLaws
import PyProof.StrLawsChain
import PyProof.StrLawsIdx
import PyProof.StrLawsIn
import PyProof.StrLawsJoin
import PyProof.StrLawsReplace
import PyProof.StrWalks
import PySem.Challenge.RW_rowbreadth_k22_rows_and_functions_read
set_option Elab.async false
set_option linter.all false
set_option maxRecDepth 100000
set_option maxHeartbeats 4000000
abbrev Fg:=PySem.W.Frag
abbrev Vl:=PySem.Value
abbrev Ad:=PySem.Addr
abbrev Sh:=PySem.Shared
abbrev J0:=PySem.Str->Option Vl
abbrev Ja:=Vl->Sh->Prop
abbrev Jc:=List Int
abbrev Jd:=List (Ad×PySem.Obj)
abbrev Je:=List Vl
abbrev Jf:=Option Vl
abbrev Jg:=List PySem.Str
abbrev Jh:=List Ad
abbrev Ji:=List PySem.Expr
theorem Jj {α:Type _} {β:Type _} {as:List α} {f:α->β}:(as.map f).length=as.length:=List.length_map ..
theorem Jk {α:Type _} {as bs:List α}:(as++bs).length=as.length+bs.length:=List.length_append ..
theorem Jl {α:Type _} {β:Type _} {f:α->β} {as bs:List α}:(as++bs).map f=as.map f++bs.map f:=List.map_append ..
namespace PySem.W.Fast
def tw11731985820243057788:=0
def tw16516197986723371059:=0
def tw9269522512810026808:=0
def tw12839644999164655126:=0
def tw14612629302818417695:=0
def tw9399766796947402306:=0
def tw7229345934775329250:=0
def tw5617991954442146089:=0
def tw2723978732202737889:=0
def tw17871166075214181125:=0
def tw10785921924677365165:=0
def tw13414920965447708115:=0
def tw11525542172714202973:=0
def tw7815760615675730403:=0
def tw16921493477005170779:=0
def tw14721641716844645756:=0
def tw11457619600895930935:=0
def tw1511139208165116416:=0
def tw12212702719461769567:=0
def tw4162652121619307666:=0
def tw14713493022362437896:=0
def tw5560704572695585754:=0
def tw10835235104794721823:=0
def tw3204252391443870056:=0
def tw13685271090661686799:=0
def tw3375837827794715146:=0
def tw13933718058764205171:=0
def tw8624219418310132480:=0
def tw8790292960376068867:=0
def tw6941018467201083692:=0
def tw13959643934094025819:=0
def tw15492002349655070554:=0
def tw15454182783475787177:=0
def tw2601336763130466316:=0
def tw15743831505815266848:=0
def tw16822208483651730420:=0
def tw10177857053648523199:=0
def tw10287152437433017569:=0
def tw15868970552790349085:=0
def tw14074335203205559128:=0
def tw12586712214791792364:=0
def tw7136375715823415060:=0
def tw3010992427725768236:=0
def tw15262815871490588096:=0
def tw1206547418924050757:=0
def tw15263974643602291405:=0
def tw11614251014492457015:=0
def tw9674390131583970604:=0
def tw17653164960920515234:=0
def tw8247537659830885344:=0
def tw10797583333214248708:=0
def tw17648110431950894230:=0
def tw5623510484496183479:=0
def tw12331158973906047542:=0
def tw13870496185410030849:=0
def tw5737686422387377175:=0
def tw10211472229220320804:=0
def tw10765454898613136495:=0
def tw8650258031408909722:=0
def tw10862281716658226447:=0
def tw18326632455092962813:=0
def tw2557671778811707615:=0
def tw2125204287467758327:=0
def tw5463749647135336506:=0
def tw7736138559745498099:=0
def tw566779989377299654:=0
def tw13029869376168770758:=0
def tw7682875902730187691:=0
def tw11257480866947344307:=0
def tw1482470831636862258:=0
def tw2070380822324893574:=0
def tw10875243322965188682:=0
def tw13605492987093149374:=0
def tw17580780578742200883:=0
def tw16191869556711891389:=0
def tw5859889805313446282:=0
def tw10069640107571009966:=0
def tw12708421058006642129:=0
def tw5996754251520307123:=0
def tw11533914882453795249:=0
def tw5198020425396474653:=0
def tw1659539138947532305:=0
def tw5684927798953752178:=0
def tw8567702718639026668:=0
def tw8747724129277187807:=0
def tw11827424003602831054:=0
def tw17375666874961960031:=0
def tw5764252122434145948:=0
def tw7028574532285394397:=0
def tw17139415088808783428:=0
def tw2647996120002862036:=0
def tw16107486662278756059:=0
def tw14162750234078118973:=0
def tw9738682663038930296:=0
def tw246800737687305801:=0
def tw693920860118864163:=0
def tw17167772869675319716:=0
def tw196746686624594739:=0
def tw9634937884983994696:=0
def tw7327107780584386809:=0
def tw1483258827132667728:=0
def tw587961769236806057:=0
def tw10795856890454281681:=0
def tw223009630535644445:=0
def tw6023987252879274010:=0
def tw14294924152364369227:=0
def tw16496419669918450756:=0
def tw343524787775777444:=0
def tw13505477147513685997:=0
def tw16454773171643276527:=0
def tw12672159883216559699:=0
def tw13777400229402089998:=0
def tw17182931624135868920:=0
def tw2776522096095927195:=0
def tw15482004098617557379:=0
def tw18236210687546219801:=0
def tw5834197294635025460:=0
def tw13255481257898864271:=0
def tw9280627625564899026:=0
def tw4662127642884257907:=0
def tw13155310896332184605:=0
def tw8400961507823543341:=0
def tw17033106624622014628:=0
def tw9890703098900690664:=0
def tw8316323083702891021:=0
def tw6659070440544688266:=0
def tw6127047975075612564:=0
def tw17345413999336931140:=0
def tw6388987812131489333:=0
def tw5565528534938150077:=0
def tw7581268723465490459:=0
def tw12309110779378470088:=0
def tw7761407500654156839:=0
def tw17673802210517130375:=0
def tw9736980596083469485:=0
def tw14139614859470435713:=0
def tw1808668980804004927:=0
def tw9098261009058745391:=0
def tw181447950553419635:=0
def tw16042318167153165102:=0
def tw13802808431001429860:=0
def tw9726008171449211370:=0
def tw17531723665036423895:=0
def tw2343041307424905299:=0
def tw15840018975410410357:=0
def tw10209967708242026097:=0
def tw17183819830364931455:=0
def tw6626239103895105907:=0
def tw1704625910019257872:=0
def tw10294897688851457747:=0
def tw11643608987828274473:=0
def tw7258657556871438281:=0
def tw17815493449153687099:=0
def tw3822733268298389384:=0
def tw14004128184794691020:=0
def tw16815714439298793766:=0
def tw1289058426028489829:=0
def tw9989438044918877718:=0
def tw8350260736443873286:=0
def tw15875628498659972304:=0
def tw7195173960047904059:=0
def tw14569095787327900482:=0
def tw1158533524930654746:=0
def tw4843827392113478008:=0
def tw14707707715154092102:=0
def tw16418453286970827028:=0
def tw17287740820598057643:=0
def tw5279425591547898361:=0
def tw583900579182128073:=0
def tw543142000746258295:=0
def tw8572456666213414169:=0
def tw5874188243709540551:=0
def tw6006423845861771068:=0
def tw8077423765814509737:=0
def tw10567512743525209549:=0
def tw4271845786957095386:=0
def tw18067673332857231341:=0
def tw13336792445760268200:=0
def tw9228617332715570791:=0
def tw7229497894016754575:=0
def tw2123043966275125859:=0
def tw17453066678146802603:=0
def tw13528286878741851334:=0
def tw1109215232940960952:=0
def tw3276229525737526396:=0
def tw6203849855282979702:=0
def tw1826646599499610605:=0
def tw9123929645009493608:=0
def tw10692360861404583235:=0
def tw9887914128117768396:=0
def tw6835529584484363569:=0
def tw10115652549656850199:=0
def tw12587735789273398252:=0
def tw5492908291402423357:=0
def tw7400554372484305626:=0
def tw2886386043300330632:=0
def tw12273891144317316721:=0
def tw13257668652947934959:=0
def tw16807822672268375232:=0
def tw15963954454575981409:=0
def tw12427409317496091068:=0
def tw8557839275720695203:=0
def tw1407625556340136510:=0
def tw9187800939101295053:=0
def tw11560338221931390061:=0
def tw9263167165563736438:=0
def tw17025878275976045554:=0
def tw10533272532691728663:=0
def tw8554774199907444893:=0
def tw13454188331618188719:=0
def tw15720961855897676140:=0
def tw17047932653690444859:=0
def tw4816331634816392828:=0
def tw1973826963753229322:=0
def tw18104947174258382707:=0
def tw7459006832170511239:=0
def tw1947536164036364215:=0
def tw16346756016389279676:=0
def tw7611090444510937461:=0
def tw6220688337782683146:=0
def tw6123740284661316690:=0
def tw8470306453527827878:=0
def tw15626848256404856584:=0
def tw11782329541553756043:=0
def tw17904597435490283612:=0
def tw6212432177432414370:=0
def tw15753742364897488535:=0
def tw15910232719864813398:=0
def tw291888384577344392:=0
def tw15776387991652902794:=0
def tw11272560818362457289:=0
def tw6997960505752619534:=0
def tw16808004643367555735:=0
def tw3098963181968480297:=0
def tw9935189581350750584:=0
def tw3060270571251537035:=0
def tw7735304015619830275:=0
def tw4453026800343782709:=0
def tw18290319674411834456:=0
def tw16981970466163519704:=0
def tw7952992354171312848:=0
def tw9587586614298886946:=0
def tw5028337349395302430:=0
def tw7914098272910854680:=0
def tw1677975963922832663:=0
def tw1688786750214774267:=0
end PySem.W.Fast
open PySem renaming wpAny_bind→q0x
open PySem renaming wpAny_pure→q0y
open Int renaming toNat_natCast→q0z
open List renaming getD_eq_getElem?_getD→q1x
open List renaming mem_cons_of_mem→q1y
open List renaming mem_cons_self→q1z
open Bool renaming false_ne_true→q2x
open List renaming mem_append_right→q2y
open Nat renaming lt_of_lt_of_le→q2z
open List renaming length_cons→q3x
open List renaming append_nil→q3y
open List renaming getElem?_append_left→q3z
section
open PySem PySem.W
def ckx {α : Type} (a : List α) (i : Nat) : List α := (a.drop i).take 64
def ckv (p : Addr × Obj) : Option Obj := some p.2
theorem ck2 {α β γ : Type} {f : α → γ} {g : β → γ} {a : List α} {b : List β} {i : Nat} (x : (ckx a i).map f = (ckx b i).map g) (y : (a.drop (i + 64)).map f = (b.drop (i + 64)).map g) : (a.drop i).map f = (b.drop i).map g := by
  have h1 : ((a.drop i).take 64 ++ (a.drop i).drop 64).map f = ((b.drop i).take 64 ++ (b.drop i).drop 64).map g := by
    rw [List.map_append, List.map_append, List.drop_drop, List.drop_drop, y]
    exact congrArg (· ++ _) x
  rw [List.take_append_drop, List.take_append_drop] at h1
  exact h1
theorem ck_of {K : Params → Frag} {a : List Addr} (e : ∀ P, a = (K P).map (·.1)) (w : World) (s : Shared) (x : (((((ckx a 0).map s.heap.get?, (ckx a 64).map s.heap.get?), ((ckx a 128).map s.heap.get?, (ckx a 192).map s.heap.get?)), (((ckx a 256).map s.heap.get?, (ckx a 320).map s.heap.get?), ((ckx a 384).map s.heap.get?, (ckx a 448).map s.heap.get?))), ((((ckx a 512).map s.heap.get?, (ckx a 576).map s.heap.get?), ((ckx a 640).map s.heap.get?, (ckx a 704).map s.heap.get?)), (((ckx a 768).map s.heap.get?, (ckx a 832).map s.heap.get?), ((ckx a 896).map s.heap.get?, ((a).drop 960).map s.heap.get?)))) = (((((ckx (K w.params) 0).map ckv, (ckx (K w.params) 64).map ckv), ((ckx (K w.params) 128).map ckv, (ckx (K w.params) 192).map ckv)), (((ckx (K w.params) 256).map ckv, (ckx (K w.params) 320).map ckv), ((ckx (K w.params) 384).map ckv, (ckx (K w.params) 448).map ckv))), ((((ckx (K w.params) 512).map ckv, (ckx (K w.params) 576).map ckv), ((ckx (K w.params) 640).map ckv, (ckx (K w.params) 704).map ckv)), (((ckx (K w.params) 768).map ckv, (ckx (K w.params) 832).map ckv), ((ckx (K w.params) 896).map ckv, (((K w.params)).drop 960).map ckv))))) : InK K w s.heap :=
  InK.of e w s (ck2 (congrArg (·.1.1.1.1) x) (ck2 (congrArg (·.1.1.1.2) x) (ck2 (congrArg (·.1.1.2.1) x) (ck2 (congrArg (·.1.1.2.2) x) (ck2 (congrArg (·.1.2.1.1) x) (ck2 (congrArg (·.1.2.1.2) x) (ck2 (congrArg (·.1.2.2.1) x) (ck2 (congrArg (·.1.2.2.2) x) (ck2 (congrArg (·.2.1.1.1) x) (ck2 (congrArg (·.2.1.1.2) x) (ck2 (congrArg (·.2.1.2.1) x) (ck2 (congrArg (·.2.1.2.2) x) (ck2 (congrArg (·.2.2.1.1) x) (ck2 (congrArg (·.2.2.1.2) x) (ck2 (congrArg (·.2.2.2.1) x) (congrArg (·.2.2.2.2) x))))))))))))))))
local macro_rules
  | `(tactic| refine $h:ident (q := $q) (loose := $l) (Xt := $x) (XP := $xp) (Yf := $_:ident ($_:ident $k $a $e)) (Ya := $_) (YP := $_) (N := $n) $hl $_ $_ $rest*) => `(tactic| refine $h (q := $q) (loose := $l) (Xt := $x) (XP := $xp) (Yf := fun s => (((((ckx $a 0).map s.heap.get?, (ckx $a 64).map s.heap.get?), ((ckx $a 128).map s.heap.get?, (ckx $a 192).map s.heap.get?)), (((ckx $a 256).map s.heap.get?, (ckx $a 320).map s.heap.get?), ((ckx $a 384).map s.heap.get?, (ckx $a 448).map s.heap.get?))), ((((ckx $a 512).map s.heap.get?, (ckx $a 576).map s.heap.get?), ((ckx $a 640).map s.heap.get?, (ckx $a 704).map s.heap.get?)), (((ckx $a 768).map s.heap.get?, (ckx $a 832).map s.heap.get?), ((ckx $a 896).map s.heap.get?, (($a).drop 960).map s.heap.get?))))) (Ya := fun w => (((((ckx ($k w.params) 0).map ckv, (ckx ($k w.params) 64).map ckv), ((ckx ($k w.params) 128).map ckv, (ckx ($k w.params) 192).map ckv)), (((ckx ($k w.params) 256).map ckv, (ckx ($k w.params) 320).map ckv), ((ckx ($k w.params) 384).map ckv, (ckx ($k w.params) 448).map ckv))), ((((ckx ($k w.params) 512).map ckv, (ckx ($k w.params) 576).map ckv), ((ckx ($k w.params) 640).map ckv, (ckx ($k w.params) 704).map ckv)), (((ckx ($k w.params) 768).map ckv, (ckx ($k w.params) 832).map ckv), ((ckx ($k w.params) 896).map ckv, ((($k w.params)).drop 960).map ckv))))) (YP := InK $k) (N := $n) $hl (ck_of $e) InK.keeps $rest*)
open PyProof.Rows
set_option maxRecDepth 100000 in
set_option maxHeartbeats 0 in
open_top K22hd for PySem.Challenge.rw_rowbreadth_k22_rows_and_functions_read
end
namespace L2
open PySem PySem.Spec PyProof.Rows
abbrev Key:=Sum Int Str
def zbl:Key->Vl->Bool
 | .inl k,v=>Value.isInt k v
 | .inr x,v=>Value.isStrOf x v
def keyH (w:World):Key->Int
 | .inl k=>hashInt k
 | .inr x=>hashStr w x
theorem yz:∀ {k:Key} {v:Vl},zbl k v=true->(∃ i t,k=Sum.inl i/\v=Value.int i t)∨(∃ x t,k=Sum.inr x/\v=Value.str x t)
 | .inl i,v,h=>by
  obtain ⟨t,e⟩:=Value.isInt_shape (k:=i) (v:=v) h;exact .inl ⟨i,t,rfl,e⟩
 | .inr x,v,h=>by
  obtain ⟨t,e⟩:=Value.isStrOf_shape (x:=x) (v:=v) h;exact .inr ⟨x,t,rfl,e⟩
def keyIs_int (i:Int) (t:Tok):zbl (.inl i) (.int i t)=true:=by simp [zbl,Value.isInt]
def keyIs_str (x:Str) (t:Tok):zbl (.inr x) (.str x t)=true:=by simp [zbl,Value.isStrOf]
def key_ll (a b:Int):decide ((Sum.inl a:Key)=Sum.inl b)=(a == b):=by
 by_cases e:a=b
 ·subst e;simp
 ·have h:¬ (Sum.inl a:Key)=Sum.inl b:=λq=>e (Sum.inl.inj q)
  rw [decide_eq_false h];exact (beq_eq_false_iff_ne.mpr e).symm
def key_rr (a b:Str):decide ((Sum.inr a:Key)=Sum.inr b)=decide (a=b):=by
 by_cases e:a=b
 ·subst e;simp
 ·have h:¬ (Sum.inr a:Key)=Sum.inr b:=λq=>e (Sum.inr.inj q)
  rw [decide_eq_false h,decide_eq_false e]
def key_lr (a:Int) (b:Str):decide ((Sum.inl a:Key)=Sum.inr b)=false:=decide_eq_false (λq=>nomatch q)
def key_rl (a:Str) (b:Int):decide ((Sum.inr a:Key)=Sum.inl b)=false:=decide_eq_false (λq=>nomatch q)
def yj (prog:Program) (w:World):PySem.KeyKind prog w Key where
 is:=zbl
 hash:=keyH w
 inj:=λv a b ha hb=>by
  rcases yz ha with ⟨i,t,rfl,rfl⟩ | ⟨x,t,rfl,rfl⟩
  ·rcases yz hb with ⟨j,u,rfl,e⟩ | ⟨y,u,rfl,e⟩
   ·injection e with e1 _;rw [e1]
   ·exact nomatch e
  ·rcases yz hb with ⟨j,u,rfl,e⟩ | ⟨y,u,rfl,e⟩
   ·exact nomatch e
   ·injection e with e1 _;rw [e1]
 byValue:=λk v h=>by
  rcases yz h with ⟨i,t,rfl,rfl⟩ | ⟨x,t,rfl,rfl⟩ <;> rfl
 pyHash:=λhv h=>by
  rcases yz hv with ⟨i,t,rfl,rfl⟩ | ⟨x,t,rfl,rfl⟩
  ·exact wpAny_pyHash_int h
  ·exact wpAny_pyHash_str h
 eqBool:=λhu hv h=>by
  rcases yz hu with ⟨i,t,rfl,rfl⟩ | ⟨x,t,rfl,rfl⟩
  ·rcases yz hv with ⟨j,u,rfl,rfl⟩ | ⟨y,u,rfl,rfl⟩
   ·rw [key_ll] at h;exact wpAny_eqBool_int h
   ·rw [key_lr] at h;exact SeqAt.EqAt.int_str i t y u _ _ _ _ h
  ·rcases yz hv with ⟨j,u,rfl,rfl⟩ | ⟨y,u,rfl,rfl⟩
   ·rw [key_rl] at h;exact SeqAt.EqAt.str_int x t j u _ _ _ _ h
   ·rw [key_rr] at h;exact wpAny_eqBool_str h
 «strs»:=λk x t v h=>by
  rcases yz h with ⟨i,u,rfl,e⟩ | ⟨y,u,rfl,e⟩
  ·exact nomatch e
  ·injection e with e1 _
   subst e1;cases v <;> rfl
def zdu (prog:Program) (w:World) (i:Int) (t:Tok):(yj prog w).is (.inl i) (.int i t)=true:=keyIs_int i t
def zdt (prog:Program) (w:World) (x:Str) (t:Tok):(yj prog w).is (.inr x) (.str x t)=true:=keyIs_str x t
inductive V where
 | non | bl (b:Bool) | int (i:Int) | str (x:Str) | byt (b:Array UInt8) | flt (b:UInt64) | ref (a:Ad) | ty (n:String)
 deriving DecidableEq
def RelV:V->Vl->Prop
 | .non,u=>u=Value.none
 | .bl b,u=>u=Value.bool b
 | .int i,u=>∃ t,u=Value.int i t
 | .str x,u=>∃ t,u=Value.str x t
 | .byt b,u=>∃ t,u=Value.bytes b t
 | .flt b,u=>∃ t,u=Value.float b t
 | .ref a,u=>u=Value.ref a
 | .ty n,u=>u=Value.type n
abbrev Vals:List V->Je->Prop:=Paired RelV
def Vals.length {xs:List V} {us:Je} (r:Vals xs us):xs.length=us.length:=Paired.length r
theorem Vals.get:∀ {xs:List V} {us:Je} {i:Nat} {x:V},Vals xs us->xs[i]?=some x->∃ u,us[i]?=some u/\RelV x u
 | _,_,_,_,.nil,e=>by simp at e
 | _,_,0,_,.cons r _,e=>by simp at e;subst e;exact ⟨_,rfl,r⟩
 | _,_,i+1,x,.cons _ t,e=>by
  obtain ⟨u,h1,h2⟩:=Vals.get (i:=i) (x:=x) t (by simpa using e);exact ⟨u,by simpa using h1,h2⟩
theorem Vals.append:∀ {xs ys:List V} {us ws:Je},Vals xs us->Vals ys ws->Vals (xs++ys) (us++ws)
 | _,_,_,_,.nil,s=>s
 | _,_,_,_,.cons r t,s=>.cons r (Vals.append t s)
theorem Vals.take:∀ {xs:List V} {us:Je} (n:Nat),Vals xs us->Vals (xs.take n) (us.take n)
 | _,_,0,_=>.nil
 | _,_,_+1,.nil=>.nil
 | _,_,n+1,.cons r t=>.cons r (Vals.take n t)
theorem Vals.drop:∀ {xs:List V} {us:Je} (n:Nat),Vals xs us->Vals (xs.drop n) (us.drop n)
 | _,_,0,r=>r
 | _,_,_+1,.nil=>.nil
 | _,_,n+1,.cons _ t=>Vals.drop n t
def RelO:Option V->Jf->Prop
 | some v,some u=>RelV v u
 | none,none=>True
 | _,_=>False
def KV {κ:Type}:List (κ×V)->List (κ×Vl)->Prop:=Paired λ(p:κ×V) (q:κ×Vl)=>p.1=q.1/\RelV p.2 q.2
def kV:Key->V
 | .inl i=>.int i
 | .inr x=>.str x
inductive HO where
  | lst (xs:List V)
  | tup (xs:List V)
  | dK (kvs:List (Key×V)) | dT (kvs:List (List Key×V))
  | set (S:Int->Bool) (n:Nat)
  | ins (C dx:Ad) (fs:List (Str×V))
  | own (x:Ad)
  | xd (fs:List (Str×V))
  | met (f x:Ad)
  | rng (lo hi:Int)
  | frz (o:Obj) (u:HO)
  | tbl (ps:Array Vl)
  | ext (φ:Heap->Prop)
abbrev Hp:=Ad->Option HO
theorem Jq (l:List PySem.Str) (h:decide l.Nodup=true:=by decide +kernel):l.Nodup:=of_decide_eq_true h
abbrev Jm:=List (Key×V)
abbrev Jn:=List (Ad×HO)
abbrev Jo:=List V
abbrev Jp:=Option V
def upd (H:Hp) (a:Ad) (o:HO):Hp:=λb=>if b=a then some o else H b
def zr {H:Hp} {a:Ad} {o:HO}:upd H a o a=some o:=by unfold upd;rw [if_pos rfl]
def zF {H:Hp} {a b:Ad} {o:HO} (h:b≠a):upd H a o b=H b:=by unfold upd;rw [if_neg h]
def ne_of {H:Hp} {a b:Ad} {o u:HO} (h:H a=some o) (h':H b=some u) (d:o≠u):a≠b:=by
 intro e;subst e;rw [h] at h';exact d (Option.some.inj h')
def zI {H:Hp} {a b:Ad} {o:HO} (h:H a=some o) (h':H b=none):a≠b:=by
 intro e;subst e;rw [h] at h';cases h'
section
variable (P:Program) (w:World)
def ObjOk (H:Hp) (h:Heap) (a:Ad):HO->Prop
 | .lst xs=>xs.length<=sizeLine/\∃ (its:Je) (n:Nat),Vals xs its/\h.get? a=some { cls:=.type "list",data:=.seq its.toArray n }
 | .tup xs=>xs.length<=sizeLine/\∃ its:Je,Vals xs its/\IsTup h a its.toArray
 | .dK kvs=>kvs.length<=sizeLine/\(a == sysModules)=false/\∃ vs,KV kvs vs/\h.DictOf (yj P w) a vs
 | .dT kvs=>kvs.length<=sizeLine/\(a == sysModules)=false/\∃ xs:List (List Key×Ad×Vl),
   Paired (λ(p:List Key×V) (q:List Key×Ad×Vl)=>p.1=q.1/\H q.2.1=some (.tup (p.1.map kV))/\RelV p.2 q.2.2) kvs xs /\
   ∃ o es ep,h.get? a=some o/\o.ExactDict/\o.data=.dict es ep/\es.toList=xs.map (entryOfKey (tupleKind (yj P w)))/\(xs.map (·.1)).Nodup
 | .set S n=>h.SetOf (intKind P w) a S n
 | .ins C dx fs=>H dx=some (.own a)/\fs.length<=1000/\dx≠a/\h.get? a=some (PySem.W.instObj C dx) /\
   ∃ mA,h.Ns1 dx mA/\(∀ f,RelO (fs.lookup f) (mA f))/\PySem.Within mA (fs.map (·.1))
 | .own _=>∃ o,h.get? a=some o
 | .xd fs=>∃ mA,h.Ns1 a mA/\∀ f,RelO (fs.lookup f) (mA f)
 | .rng lo hi=>∃ t u v,h.get? a=some { cls:=.type "range",data:=.fields #[.int lo t,.int hi u,.int 1 v] }
 | .frz o u=>h.get? a=some o/\ObjOk H h a u
 | .tbl ps=>h.get? a=some { cls:=.none,data:=.fields ps }
 | .met f x=>h.get? a=some (PySem.W.methodObj (.ref f) (.ref x))
 | .ext φ=>φ h/\(∃ o,h.get? a=some o)/\∀ h1 h2:Heap,φ h1->(∀ o,h1.get? a=some o->h2.get? a=some o)->φ h2
def HOk (H:Hp) (h:Heap):Prop:=∀ a o,H a=some o->ObjOk P w H h a o
end
section
variable {P:Program} {w:World} {H H':Hp} {h h':Heap} {a:Ad} {o:HO}
def ObjOk.lt (x:ObjOk P w H h a o):a<h.objs.size:=by
 cases o with
 | lst xs=>obtain ⟨_,_,_,_,e⟩:=x;exact Heap.lt_size e
 | tup xs=>obtain ⟨_,_,_,p⟩:=x;exact p.lt
 | dK kvs=>obtain ⟨_,_,_,_,o,_,_,e,_⟩:=x;exact Heap.lt_size e
 | dT kvs=>obtain ⟨_,_,_,_,o,_,_,e,_⟩:=x;exact Heap.lt_size e
 | set S n=>obtain ⟨o,_,_,_,e,_⟩:=x;exact Heap.lt_size e
 | ins C dx fs=>obtain ⟨_,_,_,e,_⟩:=x;exact Heap.lt_size e
 | own y=>obtain ⟨_,e⟩:=x;exact Heap.lt_size e
 | xd fs=>obtain ⟨_,⟨_,_,_,e,_⟩,_⟩:=x;exact Heap.lt_size e
 | rng lo hi=>obtain ⟨_,_,_,e⟩:=x;exact Heap.lt_size e
 | frz ob u=>obtain ⟨e,_⟩:=x;exact Heap.lt_size e
 | tbl ps=>exact Heap.lt_size (show h.get? a=some _ from x)
 | met f y=>exact Heap.lt_size (show h.get? a=some _ from x)
 | ext φ=>obtain ⟨_,⟨_,e⟩,_⟩:=x;exact Heap.lt_size e
theorem Paired.mapP {α β:Type} {F G:α->β->Prop}:∀ {l₁:List α} {l₂:List β},Paired F l₁ l₂->(∀ a b,F a b->G a b)->Paired G l₁ l₂
 | _,_,.nil,_=>.nil
 | _,_,.cons r t,f=>.cons (f _ _ r) (Paired.mapP t f)
def ObjOk.stay (x:ObjOk P w H h a o) (k:∀ b u,(b=a∨H b=some (.own a))->h.get? b=some u->h'.get? b=some u)
  (ho:∀ b,H b=some (.own a)->H' b=some (.own a)) (ht:∀ b xs,H b=some (.tup xs)->H' b=some (.tup xs)):ObjOk P w H' h' a o:=by
 induction o with
 | lst xs=>obtain ⟨z,its,n,r,e⟩:=x;exact ⟨z,its,n,r,k _ _ (.inl rfl) e⟩
 | tup xs=>obtain ⟨z,its,r,ob,e,c⟩:=x;exact ⟨z,its,r,ob,k _ _ (.inl rfl) e,c⟩
 | dK kvs=>obtain ⟨z,y,vs,r,ob,es,ep,e,c⟩:=x;exact ⟨z,y,vs,r,ob,es,ep,k _ _ (.inl rfl) e,c⟩
 | dT kvs =>
  obtain ⟨z,y,xs,r,ob,es,ep,e,c⟩:=x;exact ⟨z,y,xs,Paired.mapP r λp q z=>⟨z.1,ht _ _ z.2.1,z.2.2⟩,ob,es,ep,k _ _ (.inl rfl) e,c⟩
 | set S n=>obtain ⟨ob,es,ep,t,e,c⟩:=x;exact ⟨ob,es,ep,t,k _ _ (.inl rfl) e,c⟩
 | ins C dx fs =>
  obtain ⟨d,z,ne,e,mA,⟨od,es,ep,e2,c⟩,r⟩:=x;exact ⟨ho _ d,z,ne,k _ _ (.inl rfl) e,mA,⟨od,es,ep,k _ _ (.inr d) e2,c⟩,r⟩
 | own y=>obtain ⟨ob,e⟩:=x;exact ⟨ob,k _ _ (.inl rfl) e⟩
 | xd fs=>obtain ⟨mA,⟨od,es,ep,e,c⟩,r⟩:=x;exact ⟨mA,⟨od,es,ep,k _ _ (.inl rfl) e,c⟩,r⟩
 | rng lo hi=>obtain ⟨t,u,v,e⟩:=x;exact ⟨t,u,v,k _ _ (.inl rfl) e⟩
 | frz ob u ih=>obtain ⟨e,q⟩:=x;exact ⟨k _ _ (.inl rfl) e,ih q⟩
 | tbl ps =>
  have e:h.get? a=some { cls:=.none,data:=.fields ps }:=x;show h'.get? a=some { cls:=.none,data:=.fields ps };exact k a _ (.inl rfl) e
 | met f y =>
  have e:h.get? a=some (PySem.W.methodObj (.ref f) (.ref y)):=x;show h'.get? a=some (PySem.W.methodObj (.ref f) (.ref y));exact k a _ (.inl rfl) e
 | ext φ=>obtain ⟨p,⟨o,e⟩,st⟩:=x;exact ⟨st _ _ p λo q=>k _ _ (.inl rfl) q,⟨o,k _ _ (.inl rfl) e⟩,st⟩
def HOk.lt (x:HOk P w H h) (e:H a=some o):a<h.objs.size:=(x a o e).lt
def HOk.fresh (x:HOk P w H h) (e:h.objs.size<=a):H a=none:=by
 cases q:H a with
 | none=>rfl
 | some u=>exact absurd (q2z (x.lt q) e) (Nat.lt_irrefl _)
def HOk.kept (x:HOk P w H h) (k:∀ b u,h.get? b=some u->h'.get? b=some u):HOk P w H h':=λa o e =>
 (x a o e).stay (λb u _ q=>k b u q) (λ_ q=>q) λ_ _ q=>q
def HOk.laid (x:HOk P w H h) (k:∀ b u,h.get? b=some u->h'.get? b=some u) (hp:h.objs.size<=a) (new:ObjOk P w (upd H a o) h' a o):HOk P w (upd H a o) h':=λb u e=>by
 have hn:=x.fresh hp;by_cases hb:b=a
 ·subst hb;rw [zr] at e;cases e;exact new
 ·rw [zF hb] at e
  exact (x b u e).stay (λc v _ q=>k c v q) (λc q=>by rw [zF (zI q hn)];exact q) λc xs q=>by rw [zF (zI q hn)];exact q
end
def Rd (H:Hp) (a:Ad) (u:HO):Prop:=H a=some u∨∃ o,H a=some (.frz o u)
def Rd.ok {P:Program} {w:World} {H:Hp} {h:Heap} {a:Ad} {u:HO} (r:Rd H a u) (x:HOk P w H h):ObjOk P w H h a u:=by
 rcases r with r | ⟨o,r⟩
 ·exact x a u r
 ·obtain ⟨_,q⟩:=x a _ r
  exact q
def Mut:Option HO->Prop
 | some (.lst _)=>True
 | some (.dK _)=>True
 | some (.dT _)=>True
 | some (.set _ _)=>True
 | some (.ins _ _ _)=>True
 | some (.ext _)=>True
 | _=>False
section
variable {P:Program} {w:World} {H:Hp} {h h':Heap} {x e:Ad} {o':HO}
def HOk.write (ok:HOk P w H h) (mu:Mut (H x)) (he:e=x∨H e=some (.own x)) (k:∀ b u,b≠e->h.get? b=some u->h'.get? b=some u) (heo:∃ u,h'.get? e=some u)
  (new:ObjOk P w (upd H x o') h' x o'):HOk P w (upd H x o') h':=λb u q=>by
 have nown:∀ c y,H c=some (.own y)->c≠x:=λc y r z=>by subst z;rw [r] at mu;exact mu
 have ntup:∀ c xs,H c=some (.tup xs)->c≠x:=λc xs r z=>by subst z;rw [r] at mu;exact mu
 by_cases hb:b=x
 ·subst hb;rw [zr] at q;cases q;exact new
 ·rw [zF hb] at q
  by_cases hbe:b=e
  ·have q':H b=some (.own x):=by
    rcases he with z | z
    ·exact absurd (hbe.trans z) hb
    ·rw [hbe];exact z
   rw [q] at q';cases q';obtain ⟨v,hv⟩:=heo;exact ⟨v,by rw [hbe];exact hv⟩
  ·refine (ok b u q).stay (λc v hc r=>k c v ?_ r) (λc r=>by rw [zF (nown c b r)];exact r) λc xs r=>by rw [zF (ntup c xs r)];exact r
   rcases hc with rfl | hc
   ·exact hbe
   ·rintro rfl
    rcases he with z | z
    ·exact nown c b hc z
    ·rw [hc] at z;cases z;exact hb rfl
end
structure Un (fs ex:Jh) (H H':Hp) (h h':Heap):Prop where
 keep:∀ b o,h.get? b=some o->H b=none->b ∉ fs->b ∉ ex->h'.get? b=some o
 slot:∀ b o,h.get? b=some o->H b=none->b∈fs->b ∉ ex->∃ sl,h'.get? b=some { o with slots:=sl }
 free:∀ b o,h.get? b=some o->H b=none->b ∉ ex->H' b=none
 there:∀ b o,h.get? b=some o->b ∉ ex->∃ o',h'.get? b=some o'
 tups:∀ b xs,H b=some (.tup xs)->H' b=some (.tup xs)
 frzs:∀ b o u,H b=some (.frz o u)->H' b=some (.frz o u)
 tbls:∀ b ps,H b=some (.tbl ps)->∃ more,H' b=some (.tbl (ps++more))
section
variable {fs fs' ex ex':Jh} {H H1 H2:Hp} {h h1 h2 h':Heap} {a x e:Ad} {o:HO}
def Un.any (u:Un fs ex H H1 h h1) {b:Ad} {ob:Obj} (q:h.get? b=some ob) (n:H b=none) (hx:b ∉ ex):∃ sl,h1.get? b=some { ob with slots:=sl }:=by
 by_cases hb:b∈fs
 ·exact u.slot b ob q n hb hx
 ·exact ⟨ob.slots,u.keep b ob q n hb hx⟩
def Un.kept (k:∀ b u,h.get? b=some u->h'.get? b=some u):Un fs ex H H h h' :=
 ⟨λb ob q _ _ _=>k b ob q,λb ob q _ _ _=>⟨ob.slots,k b ob q⟩,λ_ _ _ n _=>n,λb ob q _=>⟨ob,k b ob q⟩,λ_ _ q=>q,λ_ _ _ q=>q,λ_ ps q=>⟨#[],by rw [q];simp⟩⟩
def Un.refl:Un fs ex H H h h:=Un.kept λ_ _ q=>q
def Un.laid (k:∀ b u,h.get? b=some u->h'.get? b=some u) (hp:h.objs.size<=a) (hn:H a=none):Un fs ex H (upd H a o) h h' where
 keep:=λb u q _ _ _=>k b u q
 slot:=λb u q _ _ _=>⟨u.slots,k b u q⟩
 free:=λb u q n _=>by rw [zF (Nat.ne_of_lt (q2z (Heap.lt_size q) hp))];exact n
 there:=λb u q _=>⟨u,k b u q⟩
 tups:=λb xs q=>by rw [zF (zI q hn)];exact q
 frzs:=λb u xs q=>by rw [zF (zI q hn)];exact q
 tbls:=λb ps q=>⟨#[],by rw [zF (zI q hn),q];simp⟩
def Un.write (mu:Mut (H x)) (he:e=x∨H e=some (.own x)) (k:∀ b u,b≠e->h.get? b=some u->h'.get? b=some u) (heo:∃ u,h'.get? e=some u):Un fs ex H (upd H x o) h h':=by
 have hx:∀ b,H b=none->b≠x:=λb n z=>by subst z;rw [n] at mu;exact mu
 have hb:∀ b,H b=none->b≠e:=λb n z=>by
  subst z;rcases he with r | r
  ·exact hx b n r
  ·rw [n] at r;cases r
 have hm:∀ b u,H b=some u->¬ Mut (some u)->b≠x:=λb u q nm z=>by subst z;rw [q] at mu;exact nm mu
 refine ⟨λb u q n _ _=>k b u (hb b n) q,λb u q n _ _=>⟨u.slots,k b u (hb b n) q⟩,λb u q n _=>by rw [zF (hx b n)];exact n,λb u q _=>?_,
  λb xs q=>by rw [zF (hm b _ q λz=>z)];exact q,λb u xs q=>by rw [zF (hm b _ q λz=>z)];exact q,λb ps q=>⟨#[],by rw [zF (hm b _ q λz=>z),q];simp⟩⟩
 by_cases hbe:b=e
 ·subst hbe;exact heo
 ·exact ⟨u,k b u hbe q⟩
end
def trk (h:Heap) (H:Hp):Jh:=(List.range h.objs.size).filter λa=>(H a).isSome
def hidT (h:Heap) (H:Hp):Heap:=PySem.W.hideAll h (trk h H)
def hidT_size (h:Heap) (H:Hp):(hidT h H).objs.size=h.objs.size:=PySem.W.hideAll_size _ _
def hidT_get {h:Heap} {H:Hp} {b:Ad} {o:Obj} (e:h.get? b=some o) (n:H b=none):(hidT h H).get? b=some o :=
 PySem.W.hideAll_get _ e λhm=>by
  have q:(H b).isSome=true:=(List.mem_filter.mp hm).2;rw [n] at q;simp at q
def of_hidT {h:Heap} {H:Hp} {b:Ad} {o:Obj} (e:(hidT h H).get? b=some o):h.get? b=some o/\H b=none:=by
 have e':h.get? b=some o:=PySem.W.of_hideAll (trk h H) e;refine ⟨e',?_⟩
 cases q:H b with
 | none=>rfl
 | some x =>
  have hm:b∈trk h H:=List.mem_filter.mpr ⟨List.mem_range.mpr (Heap.lt_size e'),by simp [q]⟩;have z:(hidT h H).get? b=none:=PySem.W.hideAll_none (trk h H) hm;rw [z] at e;cases e
def Xf (g h:Heap) (L:Ad):Jd:=(List.range h.objs.size).filterMap λa=>if a=L∨(g.get? a).isSome=true then none else (h.get? a).map λo=>(a,o)
def zdv {g h:Heap} {L a:Ad} {o:Obj} (h1:a≠L) (h2:g.get? a=none) (h3:h.get? a=some o):(a,o)∈Xf g h L :=
 List.mem_filterMap.mpr ⟨a,List.mem_range.mpr (Heap.lt_size h3),by simp [h1,h2,h3]⟩
def zaa {g h:Heap} {L:Ad} {p:Ad×Obj} (hp:p∈Xf g h L):p.1≠L/\g.get? p.1=none/\h.get? p.1=some p.2:=by
 obtain ⟨b,_,e⟩:=List.mem_filterMap.mp hp
 split at e
 ·cases e
 ·rename_i hn
  cases q:h.get? b with
  | none=>rw [q] at e;simp at e
  | some u =>
   rw [q] at e;simp only [Option.map_some,Option.some.injEq] at e;subst e;refine ⟨λz=>hn (.inl z),?_,q⟩;show g.get? b=none
   cases r:g.get? b with
   | none=>rfl
   | some v=>exact (hn (.inr (by simp [r]))).elim
def rest (g h:Heap) (L d:Ad):Jd:=(Xf g h L).filter λp=>decide (p.1≠d)
def zdr {g h:Heap} {L:Ad}:News g L h (Xf g h L):=λp hp=>let ⟨a,b,c⟩:=zaa hp;⟨c,a,b⟩
structure Mod (K:Fg) (mg:J0) (base:Heap):Prop where
 kin:K.In base
 glob:base.Ns mainGlobals mg
 blt:∃ mb,base.Ns builtinsNs mb/\∀ x:Str,x≠"__name__"->mb x=bootBuiltins x
 nolimit:base.NoLimit
structure Cx where
 prog:Program
 w:World
 K:Fg
 mg:J0
 base:Heap
 A:Around
 N:Jg
 s₀:Sh
 H₀:Hp
 env:Env
 outer:List Env
 stack:List Env
 ex:Jh
 fn:Str->Bool
 calm:Bool
 pn:Jd
 xe:Ja
def frs (l:List Env):Jh:=l.filterMap (·.frame)
abbrev Cx.fs (X:Cx):Jh:=frs X.outer
def Vis (sc:Scope) (x:Str):Prop:=sc.names.lookup x=some .local∨sc.names.lookup x=some .cell∨sc.names.lookup x=some .free
def Loc (sc:Scope) (x:Str):Prop:=sc.names.lookup x=some .local∨sc.names.lookup x=some .cell
def Look (env:Env) (h:Heap) (m:J0) (x:Str) (u:Vl):Prop :=
 (env.kindOf x=some .local/\m x=some u)∨((env.kindOf x=some .cell∨env.kindOf x=some .free)/\∃ c,env.cells.lookup x=some c/\h.IsCell c (some u))
structure Cx.Ok (X:Cx):Prop where
 mod:Mod X.K X.mg X.base
 kind:X.env.scope.kind=.function
 glob:X.env.globals=mainGlobals
 blt:X.env.builtins=builtinsNs
 above:X.s₀.heap.objs.size<=X.env.locals
 inj:∀ x y c,X.env.cells.lookup x=some c->X.env.cells.lookup y=some c->x=y
 has:∀ x,(X.env.kindOf x=some .cell∨X.env.kindOf x=some .free)->∃ c,X.env.cells.lookup x=some c
 cab:∀ x c,X.fn x=true->X.env.cells.lookup x=some c->X.s₀.heap.objs.size<=c
 hd:X.calm=true->X.A.handled=none
 frames:X.A.frames=some X.stack
 stk:X.stack=X.outer∨(X.stack=X.env::X.outer/\X.env.frame=some X.env.locals)
 exf:∀ b∈X.ex,b≠X.env.locals/\∀ x c,X.env.cells.lookup x=some c->c≠b
 bs:∀ b o,X.base.get? b=some o->X.s₀.heap.get? b=some o/\X.H₀ b=none
 bsz:X.base.objs.size<=X.s₀.heap.objs.size
 noex:∀ b o,X.base.get? b=some o->b ∉ X.ex
 exfs:∀ b∈X.ex,b ∉ X.fs
 funs:X.s₀.heap.FunFrames X.base X.outer
 frf:∀ b∈X.fs,X.H₀ b=none
structure Inv (X:Cx) (pins:Jd) (σ:List (Jp)) (H:Hp) (s:Sh):Prop where
 ok:X.Ok
 os:s.os=X.s₀.os
 bare:AllBare s.gens
 base:Un X.fs X.ex X.H₀ H X.s₀.heap s.heap
 loc:∃ m,s.heap.Ns X.env.locals m/\∀ (i:Nat) (x:Str) (v:V),X.N[i]?=some x->σ[i]?=some (some v)->Vis X.env.scope x->∃ u,RelV v u/\Look X.env s.heap m x u
 cell:∀ x c,X.env.cells.lookup x=some c->∃ v,s.heap.IsCell c v
 free:H X.env.locals=none
 freeC:∀ x c,X.env.cells.lookup x=some c->H c=none
 pin:∀ p∈X.pn++pins,s.heap.get? p.1=some p.2/\H p.1=none/\p.1≠X.env.locals/\p.1 ∉ X.fs/\∀ v,p.2.data≠.cell v
 hok:HOk X.prog X.w H s.heap
 len:σ.length=X.N.length
section
variable {X:Cx} {pins:Jd} {σ:List (Jp)} {H H':Hp} {s:Sh} {h':Heap}
def Cx.Ok.nofr (ok:X.Ok) {b:Ad} {o:Obj} (e:X.base.get? b=some o):b ∉ X.fs:=λhb=>by
 have:=(ok.funs.mem hb).1;rw [e] at this;cases this
def Inv.bs (I:Inv X pins σ H s):∀ b o,X.base.get? b=some o->s.heap.get? b=some o/\H b=none:=λb o e =>
 ⟨I.base.keep b o (I.ok.bs b o e).1 (I.ok.bs b o e).2 (I.ok.nofr e) (I.ok.noex b o e),I.base.free b o (I.ok.bs b o e).1 (I.ok.bs b o e).2 (I.ok.noex b o e)⟩
def Inv.bk (I:Inv X pins σ H s):∀ b o,X.base.get? b=some o->s.heap.get? b=some o:=λb o e=>(I.bs b o e).1
def Inv.mod (I:Inv X pins σ H s):Mod X.K X.mg X.base:=I.ok.mod
def Inv.kIn (I:Inv X pins σ H s):X.K.In s.heap:=I.ok.mod.kin.keeps I.bk
def Inv.lt (I:Inv X pins σ H s):X.env.locals<s.heap.objs.size:=let ⟨_,hn,_⟩:=I.loc;hn.lt
def Inv.sz (I:Inv X pins σ H s):X.s₀.heap.objs.size<=s.heap.objs.size:=Nat.le_trans I.ok.above (Nat.le_of_lt I.lt)
def Inv.nofs (I:Inv X pins σ H s) {a:Ad} (h:s.heap.objs.size<=a):a ∉ X.fs:=λhb=>by
 obtain ⟨_,o,ho,_⟩:=I.ok.funs.mem hb;exact absurd (q2z (Heap.lt_size ho) (Nat.le_trans I.sz h)) (Nat.lt_irrefl _)
def Inv.cne (I:Inv X pins σ H s):∀ x c,X.env.cells.lookup x=some c->c≠X.env.locals:=λx c e z=>by
 obtain ⟨v,o,ho,hd⟩:=I.cell x c e;obtain ⟨m,⟨o',es,ep,ho',hd',_⟩,_⟩:=I.loc;rw [z,ho'] at ho;cases ho;rw [hd'] at hd;cases hd
def Inv.funs (I:Inv X pins σ H s):s.heap.FunFrames X.base X.outer:=by
 have all:∀ (l:List Env),(∀ b∈frs l,b∈X.fs)->X.s₀.heap.FunFrames X.base l->s.heap.FunFrames X.base l:=by
  intro l
  induction l with
  | nil=>intro _ _;trivial
  | cons env r ih =>
   intro hs hl;obtain ⟨hk,⟨L,o,hf,hn,ho,hd⟩,hr⟩:=hl;have hL:L∈X.fs:=hs L (by unfold frs;rw [List.filterMap_cons,hf];exact q1z);obtain ⟨sl,e⟩:=I.base.slot L o ho (I.ok.frf L hL) hL λz=>I.ok.exfs L z hL;exact ⟨hk,⟨L,_,hf,hn,e,hd⟩,ih (λb hb=>hs b (by unfold frs;rw [List.filterMap_cons,hf];exact q1y _ hb)) hr⟩
 exact all X.outer (λ_ hb=>hb) I.ok.funs
def Inv.stack (I:Inv X pins σ H s):s.heap.FunFrames X.base X.stack:=by
 rcases I.ok.stk with e | ⟨e,hf⟩
 ·rw [e];exact I.funs
 ·rw [e]
  obtain ⟨m,hn,_⟩:=I.loc;refine .cons (by rw [I.ok.kind];decide) hf hn ?_ I.funs;exact Heap.get?_none_of_le (Nat.le_trans I.ok.bsz I.ok.above)
def Inv.stkSub (I:Inv X pins σ H s):∀ b∈frs X.stack,b∈X.env.locals::X.fs:=λb hb=>by
 rcases I.ok.stk with e | ⟨e,hf⟩
 ·rw [e] at hb;exact q1y _ hb
 ·rw [e] at hb
  unfold frs at hb;rw [List.filterMap_cons,hf] at hb;exact hb
def Inv.stkFree (I:Inv X pins σ H s):∀ b∈frs X.stack,H b=none:=λb hb=>by
 rcases List.mem_cons.mp (I.stkSub b hb) with e | hb
 ·rw [e];exact I.free
 ·obtain ⟨_,o,ho,_⟩:=I.ok.funs.mem hb
  exact I.base.free b o ho (I.ok.frf b hb) λz=>I.ok.exfs b z hb
def Inv.step {g':Array GenState} {t':Nat} {d':Drawn} {ch:Jh} (I:Inv X pins σ H s)
  (hch:∀ b∈ch,(b∈X.ex∨X.s₀.heap.objs.size<=b)/\b≠X.env.locals/\(∀ x c,X.env.cells.lookup x=some c->c≠b)/\∀ p∈X.pn++pins,p.1≠b)
  (keep:∀ b o,b≠X.env.locals->b ∉ X.fs->b ∉ ch->s.heap.get? b=some o->H b=none->h'.get? b=some o)
  (slot:∀ b o,b≠X.env.locals->b∈X.fs->b ∉ ch->s.heap.get? b=some o->H b=none->∃ sl,h'.get? b=some { o with slots:=sl }) (free:∀ b o,b ∉ ch->s.heap.get? b=some o->H b=none->H' b=none)
  (there:∀ b o,b ∉ ch->s.heap.get? b=some o->∃ o',h'.get? b=some o')
  (tups:∀ b xs,H b=some (.tup xs)->H' b=some (.tup xs)) (frzs:∀ b o u,H b=some (.frz o u)->H' b=some (.frz o u)) (tbls:∀ b ps,H b=some (.tbl ps)->∃ more,H' b=some (.tbl (ps++more)))
  (ns:∀ m,s.heap.Ns X.env.locals m->h'.Ns X.env.locals m) (hok:HOk X.prog X.w H' h') (hg:AllBare g') :
  Inv X pins σ H' { s with heap:=h',gens:=g',drawn:=d',toks:=t' }:=by
 have neL:∀ b o,X.s₀.heap.get? b=some o->b≠X.env.locals:=λb o e=>Nat.ne_of_lt (q2z (Heap.lt_size e) I.ok.above)
 have neC:∀ b o,X.s₀.heap.get? b=some o->b ∉ X.ex->b ∉ ch:=λb o e hx hb=>by
  rcases (hch b hb).1 with z | z
  ·exact hx z
  ·exact absurd (q2z (Heap.lt_size e) z) (Nat.lt_irrefl _)
 have cellK:∀ x c,X.env.cells.lookup x=some c->∀ v,s.heap.IsCell c v->h'.IsCell c v:=λx c e v ⟨o,ho,hd⟩=>by
  have nch:c ∉ ch:=λz=>(hch c z).2.2.1 x c e rfl;by_cases hc:c∈X.fs
  ·obtain ⟨sl,q⟩:=slot c o (I.cne x c e) hc nch ho (I.freeC x c e)
   exact ⟨_,q,hd⟩
  ·exact ⟨o,keep c o (I.cne x c e) hc nch ho (I.freeC x c e),hd⟩
 refine ⟨I.ok,I.os,hg,⟨λb o e n hb hx=>?_,λb o e n hb hx=>?_,λb o e n hx=>?_,λb o e hx=>?_,λb xs e=>tups b xs (I.base.tups b xs e),λb o xs e=>frzs b o xs (I.base.frzs b o xs e),λb ps e=>?_⟩,?_,λx c e=>?_,?_,λx c e=>?_,λp hp=>?_,hok,I.len⟩
 ·exact keep b o (neL b o e) hb (neC b o e hx) (I.base.keep b o e n hb hx) (I.base.free b o e n hx)
 ·obtain ⟨sl,e1⟩:=I.base.slot b o e n hb hx
  obtain ⟨sl',e2⟩:=slot b _ (neL b o e) hb (neC b o e hx) e1 (I.base.free b o e n hx);exact ⟨sl',e2⟩
 ·obtain ⟨o',e1⟩:=I.base.there b o e hx
  exact free b o' (neC b o e hx) e1 (I.base.free b o e n hx)
 ·obtain ⟨o',e1⟩:=I.base.there b o e hx
  exact there b o' (neC b o e hx) e1
 ·obtain ⟨m1,e1⟩:=I.base.tbls b ps e
  obtain ⟨m2,e2⟩:=tbls b _ e1;exact ⟨m1++m2,by rw [e2,Array.append_assoc]⟩
 ·obtain ⟨m,hn,hl⟩:=I.loc
  refine ⟨m,ns m hn,λi x v e1 e2 e3=>?_⟩;obtain ⟨u,r,l⟩:=hl i x v e1 e2 e3;refine ⟨u,r,?_⟩;rcases l with l | ⟨k,c,e,z⟩
  ·exact .inl l
  ·exact .inr ⟨k,c,e,cellK x c e _ z⟩
 ·obtain ⟨v,z⟩:=I.cell x c e
  exact ⟨v,cellK x c e v z⟩
 ·obtain ⟨m,⟨o,_,_,ho,_⟩,_⟩:=I.loc
  exact free _ o (λz=>(hch _ z).2.1 rfl) ho I.free
 ·obtain ⟨v,o,ho,hd⟩:=I.cell x c e
  exact free c o (λz=>(hch c z).2.2.1 x c e rfl) ho (I.freeC x c e)
 ·obtain ⟨e,n,ne,nf,d⟩:=I.pin p hp
  have nch:p.1 ∉ ch:=λz=>(hch p.1 z).2.2.2 p hp rfl;exact ⟨keep p.1 p.2 ne nf nch e n,free p.1 p.2 nch e n,ne,nf,d⟩
def Inv.un {t':Nat} (I:Inv X pins σ H s) (u:Un X.fs [] H H' s.heap h') (hok:HOk X.prog X.w H' h'):Inv X pins σ H' { s with heap:=h',toks:=t' }:=by
 obtain ⟨m,⟨o,es,ep,ho,r⟩,_⟩:=id I.loc;obtain ⟨sl,hL⟩:=u.any ho I.free (by simp)
 exact I.step (g':=s.gens) (d':=s.drawn) (ch:=[]) (λ_ z=>nomatch z) (λb o _ hb _ e n=>u.keep b o e n hb (by simp)) (λb o _ hb _ e n=>u.slot b o e n hb (by simp)) (λb o _ e n=>u.free b o e n (by simp)) (λb o _ e=>u.there b o e (by simp)) u.tups u.frzs u.tbls (λm' hm=>by
  obtain ⟨o',es',ep',ho',r'⟩:=hm;rw [ho] at ho';cases ho';exact ⟨_,es',ep',hL,r'⟩) hok I.bare
def Inv.call {g':Array GenState} {t':Nat} {d':Drawn} {ch:Jh} (I:Inv X pins σ H s) (u:Un (frs X.stack) ch H H' s.heap h') (hok:HOk X.prog X.w H' h') (hg:AllBare g')
  (hch:∀ b∈ch,(b∈X.ex∨X.s₀.heap.objs.size<=b)/\b≠X.env.locals/\(∀ x c,X.env.cells.lookup x=some c->c≠b)/\∀ p∈X.pn++pins,p.1≠b) :
  Inv X pins σ H' { s with heap:=h',gens:=g',drawn:=d',toks:=t' }:=by
 obtain ⟨m,⟨o,es,ep,ho,r⟩,_⟩:=id I.loc;obtain ⟨sl,hL⟩:=u.any ho I.free λz=>(hch _ z).2.1 rfl
 exact I.step (ch:=ch) hch (λb o hL hb hc e n=>u.keep b o e n (λz=>(List.mem_cons.mp (I.stkSub b z)).elim hL hb) hc) (λb o _ _ hc e n=>u.any e n hc) (λb o hc e n=>u.free b o e n hc) (λb o hc e=>u.there b o e hc) u.tups u.frzs u.tbls (λm' hm=>by
  obtain ⟨o',es',ep',ho',r'⟩:=hm;rw [ho] at ho';cases ho';exact ⟨_,es',ep',hL,r'⟩) hok hg
def Inv.turned {t':Nat} {it:Ad} (I:Inv X pins σ H s) (k:∀ b o,b≠it->s.heap.get? b=some o->h'.get? b=some o) (hn:H it=none) (hL:it≠X.env.locals)
  (h1:it∈X.ex∨X.s₀.heap.objs.size<=it) (h2:∀ x c,X.env.cells.lookup x=some c->c≠it) (h3:∀ p∈X.pn++pins,p.1≠it):Inv X pins σ H { s with heap:=h',toks:=t' }:=by
 have nit:∀ b u,H b=some u->b≠it:=λb u e z=>by rw [z,hn] at e;cases e
 refine I.step (g':=s.gens) (d':=s.drawn) (ch:=[it]) (λb hb=>?_) (λb o _ _ hc e _=>k b o (λz=>hc (by simp [z])) e) (λb o _ _ hc e _=>⟨o.slots,k b o (λz=>hc (by simp [z])) e⟩) (λ_ _ _ _ n=>n)
  (λb o hc e=>⟨o,k b o (λz=>hc (by simp [z])) e⟩) (λ_ _ e=>e) (λ_ _ _ e=>e) (λb ps e=>⟨#[],by rw [e];simp⟩) (λm hm=>?_) (λb u e=>?_) I.bare
 ·have e:b=it:=by simpa using hb
  subst e;exact ⟨h1,hL,h2,h3⟩
 ·obtain ⟨o,es,ep,ho,r⟩:=hm
  exact ⟨o,es,ep,k _ o (Ne.symm hL) ho,r⟩
 ·refine (I.hok b u e).stay (λc v hc q=>k c v ?_ q) (λ_ q=>q) λ_ _ q=>q
  rcases hc with z | z
  ·rw [z];exact nit b u e
  ·exact nit c _ z
def Inv.tok (I:Inv X pins σ H s) (t:Nat):Inv X pins σ H { s with toks:=t }:=I.un (h':=s.heap) (t':=t) Un.refl I.hok
def Inv.kept {t':Nat} (I:Inv X pins σ H s) (k:∀ b u,s.heap.get? b=some u->h'.get? b=some u):Inv X pins σ H { s with heap:=h',toks:=t' }:=I.un (Un.kept k) (I.hok.kept k)
def Inv.laid {a:Ad} {o:HO} {t':Nat} (I:Inv X pins σ H s) (k:∀ b u,s.heap.get? b=some u->h'.get? b=some u) (hp:s.heap.objs.size<=a) (new:ObjOk X.prog X.w (upd H a o) h' a o) :
  Inv X pins σ (upd H a o) { s with heap:=h',toks:=t' }:=I.un (Un.laid k hp (I.hok.fresh hp)) (I.hok.laid k hp new)
def Inv.write {x e:Ad} {o:HO} {t':Nat} (I:Inv X pins σ H s) (mu:Mut (H x)) (he:e=x∨H e=some (.own x)) (k:∀ b u,b≠e->s.heap.get? b=some u->h'.get? b=some u) (heo:∃ u,h'.get? e=some u)
  (new:ObjOk X.prog X.w (upd H x o) h' x o):Inv X pins σ (upd H x o) { s with heap:=h',toks:=t' }:=I.un (Un.write mu he k heo) (I.hok.write mu he k heo new)
def Inv.pins_of {pins':Jd} (I:Inv X pins σ H s) (h:∀ p∈pins',s.heap.get? p.1=some p.2/\H p.1=none/\p.1≠X.env.locals/\p.1 ∉ X.fs/\∀ v,p.2.data≠.cell v):Inv X pins' σ H s :=
 ⟨I.ok,I.os,I.bare,I.base,I.loc,I.cell,I.free,I.freeC,λp hp=>(List.mem_append.mp hp).elim (λz=>I.pin p (List.mem_append_left _ z)) (h p),I.hok,I.len⟩
def zdq {N:Jg} (hN:N.Nodup) {i j:Nat} {x:Str} (a:N[i]?=some x) (b:N[j]?=some x):i=j:=by
 obtain ⟨h1,e1⟩:=List.getElem?_eq_some_iff.mp a;obtain ⟨h2,e2⟩:=List.getElem?_eq_some_iff.mp b;exact (List.getElem_inj hN).mp (e1.trans e2.symm)
def za7 {M:Model} {A:Around} {E:Ja} {i:Nat} {x:Str} {v:V} {u:Vl} {Q:Unit->Sh->Prop} (I:Inv X pins σ H s) (hN:X.N.Nodup) (hi:X.N[i]?=some x) (hx:Loc X.env.scope x) (r:RelV v u)
  (h:∀ s',Inv X pins (σ.set i (some v)) H s'->(∃ a,Heap.SameBut a s.heap s'.heap/\(a=X.env.locals∨X.env.cells.lookup x=some a))->Q () s') (hf:X.fn x=true∨X.env.scope.names.lookup x=some .local:=by first | exact .inl rfl | exact .inr rfl | assumption):wpAny M A (storeName X.env x u) Q E s:=by
 obtain ⟨m,hn,hl⟩:=id I.loc;have hcls:(X.env.scope.kind == .class || (X.env.scope.kind == .module && X.env.locals != X.env.globals))=false:=by rw [I.ok.kind];rfl
 have hiσ:i<σ.length:=by rw [I.len];exact (List.getElem?_eq_some_iff.mp hi).1
 have cne:=I.cne
 have tracked:∀ {a:Ad} {h':Heap},(∃ o,s.heap.get? a=some o/\H a=none)->Heap.SameBut a s.heap h'->HOk X.prog X.w H h':=λ{a h'} ha hs b ob e=>by
  obtain ⟨_,_,hfree⟩:=ha;refine (I.hok b ob e).stay (λc w' hc q=>(hs.2 c ?_).trans q) (λ_ q=>q) λ_ _ q=>q;rintro rfl;rcases hc with rfl | hc
  ·rw [hfree] at e;cases e
  ·rw [hfree] at hc;cases hc
 rcases hx with hk | hk
 ·refine wpAny_storeName_local hk hn (λh' hn' hs=>?_) hcls
  obtain ⟨oL,_,_,hoL,_⟩:=id hn;refine h _ ⟨I.ok,I.os,I.bare,⟨λb o e n hb hx=>?_,λb o e n hb hx=>?_,I.base.free,λb o e hx=>?_,I.base.tups,I.base.frzs,I.base.tbls⟩,⟨_,hn',λj y v' e1 e2 e3=>?_⟩,λy c e=>?_,I.free,I.freeC,λp hp=>?_,tracked ⟨oL,hoL,I.free⟩ hs,by simpa using I.len⟩ ⟨_,hs,.inl rfl⟩
  ·exact (hs.2 b (Nat.ne_of_lt (q2z (Heap.lt_size e) I.ok.above))).trans (I.base.keep b o e n hb hx)
  ·obtain ⟨sl,e1⟩:=I.base.slot b o e n hb hx
   exact ⟨sl,(hs.2 b (Nat.ne_of_lt (q2z (Heap.lt_size e) I.ok.above))).trans e1⟩
  ·obtain ⟨o',e1⟩:=I.base.there b o e hx
   exact ⟨o',(hs.2 b (Nat.ne_of_lt (q2z (Heap.lt_size e) I.ok.above))).trans e1⟩
  ·by_cases hj:j=i
   ·subst hj
    rw [hi] at e1;cases e1;rw [List.getElem?_set_self hiσ] at e2;cases e2;exact ⟨u,r,.inl ⟨hk,by simp⟩⟩
   ·rw [List.getElem?_set_ne (Ne.symm hj)] at e2
    obtain ⟨u',r',q⟩:=hl j y v' e1 e2 e3;refine ⟨u',r',?_⟩;rcases q with ⟨k,e⟩ | ⟨k,c,e,z⟩
    ·refine .inl ⟨k,?_⟩
     have:y≠x:=λe=>hj (zdq hN e1 (e ▸ hi));simp [this,e]
    ·exact .inr ⟨k,c,e,z.sameBut hs (cne y c e)⟩
  ·obtain ⟨w',z⟩:=I.cell y c e
   exact ⟨w',z.sameBut hs (cne y c e)⟩
  ·obtain ⟨e,n,ne,nf,d⟩:=I.pin p hp
   exact ⟨(hs.2 p.1 ne).trans e,n,ne,nf,d⟩
 ·have hfn:X.fn x=true:=by
   rcases hf with z | z
   ·exact z
   ·rw [z] at hk;cases hk
  obtain ⟨c,hc⟩:=I.ok.has x (.inl hk);obtain ⟨w',z⟩:=I.cell x c hc;refine wpAny_storeName_cell I.ok.kind hk hc z (λh' hc' hs=>?_);obtain ⟨oc,hoc,hocd⟩:=id z;refine h { s with heap:=h' } ⟨I.ok,I.os,I.bare,⟨λb o e n hb hx=>?_,λb o e n hb hx=>?_,I.base.free,λb o e hx=>?_,I.base.tups,I.base.frzs,I.base.tbls⟩,⟨m,hn.sameBut hs (Ne.symm (cne x c hc)),λj y v' e1 e2 e3=>?_⟩,λy c' e=>?_,I.free,I.freeC,λp hp=>?_,tracked ⟨oc,hoc,I.freeC x c hc⟩ hs,by simpa using I.len⟩ ⟨c,hs,.inr hc⟩
  ·exact (hs.2 b (Nat.ne_of_lt (q2z (Heap.lt_size e) (I.ok.cab x c hfn hc)))).trans (I.base.keep b o e n hb hx)
  ·obtain ⟨sl,e1⟩:=I.base.slot b o e n hb hx
   exact ⟨sl,(hs.2 b (Nat.ne_of_lt (q2z (Heap.lt_size e) (I.ok.cab x c hfn hc)))).trans e1⟩
  ·obtain ⟨o',e1⟩:=I.base.there b o e hx
   exact ⟨o',(hs.2 b (Nat.ne_of_lt (q2z (Heap.lt_size e) (I.ok.cab x c hfn hc)))).trans e1⟩
  ·by_cases hj:j=i
   ·subst hj
    rw [hi] at e1;cases e1;rw [List.getElem?_set_self hiσ] at e2;cases e2;exact ⟨u,r,.inr ⟨.inl hk,c,hc,hc'⟩⟩
   ·rw [List.getElem?_set_ne (Ne.symm hj)] at e2
    obtain ⟨u',r',q⟩:=hl j y v' e1 e2 e3;refine ⟨u',r',?_⟩;rcases q with q | ⟨k,c',e,z'⟩
    ·exact .inl q
    ·refine .inr ⟨k,c',e,z'.sameBut hs ?_⟩
     rintro rfl;exact hj (zdq hN e1 (I.ok.inj _ _ _ e hc ▸ hi))
  ·by_cases hcc:c'=c
   ·subst hcc;exact ⟨_,hc'⟩
   ·obtain ⟨w2,z2⟩:=I.cell y c' e
    exact ⟨w2,z2.sameBut hs hcc⟩
  ·obtain ⟨e,n,ne,nf,d⟩:=I.pin p hp
   refine ⟨(hs.2 p.1 ?_).trans e,n,ne,nf,d⟩;intro q;rw [q,hoc] at e;have q':oc=p.2:=Option.some.inj e;exact d w' (by rw [← q'];exact hocd)
def YY {M:Model} {A:Around} {E:Ja} {i:Nat} {x:Str} {v:V} {u:Vl} {Q:Unit->Sh->Prop} (I:Inv X pins σ H s) (hN:X.N.Nodup) (hi:X.N[i]?=some x) (hx:Loc X.env.scope x) (r:RelV v u)
  (h:∀ s',Inv X pins (σ.set i (some v)) H s'->Q () s') (hf:X.fn x=true∨X.env.scope.names.lookup x=some .local:=by first | exact .inl rfl | exact .inr rfl | assumption):wpAny M A (storeName X.env x u) Q E s :=
 za7 I hN hi hx r (λs' I' _=>h s' I') hf
def Inv.call' {s':Sh} {ch:Jh} (I:Inv X pins σ H s) (ho:s'.os=s.os) (u:Un (frs X.stack) ch H H' s.heap s'.heap) (hok:HOk X.prog X.w H' s'.heap) (hg:AllBare s'.gens)
  (hch:∀ b∈ch,(b∈X.ex∨X.s₀.heap.objs.size<=b)/\b≠X.env.locals/\(∀ x c,X.env.cells.lookup x=some c->c≠b)/\∀ p∈X.pn++pins,p.1≠b):Inv X pins σ H' s':=by
 obtain ⟨h',g',d',t',o'⟩:=s';have e:o'=s.os:=ho;subst e;exact I.call (g':=g') (t':=t') (d':=d') u hok hg hch
end
abbrev XK:=Vl->Option Ad->Hp->Prop
abbrev St:=List (Jp)
abbrev VK:=V->Hp->Prop
abbrev TE:=St->Hp->VK->Prop
abbrev TT:=St->Hp->(Bool->Hp->Prop)->Prop
abbrev TA:=St->Hp->(Jo->Hp->Prop)->Prop
structure Ends where
 nx:St->Hp->Prop
 rt:VK
 bk:St->Hp->Prop:=λ_ _=>False
 ct:St->Hp->Prop:=λ_ _=>False
abbrev TS:=Ends->St->Hp->Prop
def EP (X:Cx) (pins:Jd) (σ:St) (Q:VK) (u:Vl) (s':Sh):Prop:=∃ v H',Inv X pins σ H' s'/\RelV v u/\Q v H'
def TP (X:Cx) (pins:Jd) (σ:St) (Q:Bool->Hp->Prop) (b:Bool) (s':Sh):Prop:=∃ H',Inv X pins σ H' s'/\Q b H'
def AP (X:Cx) (pins:Jd) (σ:St) (Q:Jo->Hp->Prop) (us:Je) (s':Sh):Prop:=∃ vs H',Inv X pins σ H' s'/\Vals vs us/\Q vs H'
def SP (X:Cx) (pins:Jd) (D:Ends) (f:Flow) (s':Sh):Prop :=
 match f with
 | .next=>∃ σ' H',Inv X pins σ' H' s'/\D.nx σ' H'
 | .brk=>∃ σ' H',Inv X pins σ' H' s'/\D.bk σ' H'
 | .cont=>∃ σ' H',Inv X pins σ' H' s'/\D.ct σ' H'
 | .ret u=>∃ v σ' H',Inv X pins σ' H' s'/\RelV v u/\D.rt v H'
def PE (X:Cx) (e:Expr) (t:TE):Prop :=
 ∀ (pins:Jd) (s:Sh) (σ:St) (H:Hp) (Q:VK),Inv X pins σ H s->t σ H Q->wpAny (model X.prog X.w) X.A (eval e X.env) (EP X pins σ Q) X.xe s
def PT (X:Cx) (e:Expr) (t:TT):Prop :=
 ∀ (pins:Jd) (s:Sh) (σ:St) (H:Hp) (Q:Bool->Hp->Prop),Inv X pins σ H s->t σ H Q->wpAny (model X.prog X.w) X.A (isTrue e X.env (eval e X.env)) (TP X pins σ Q) X.xe s
def PW (X:Cx) (e:Expr) (t:TT):Prop :=
 ∀ (whole:Sem Vl) (pins:Jd) (s:Sh) (σ:St) (H:Hp) (Q:Bool->Hp->Prop),Inv X pins σ H s->t σ H Q->wpAny (model X.prog X.w) X.A (isTrue e X.env whole) (TP X pins σ Q) X.xe s
def PW.pt {X:Cx} {e:Expr} {t:TT} (h:PW X e t):PT X e t:=h _
def PA (X:Cx) (es:Ji) (t:TA):Prop :=
 ∀ (pos:Pos) (pins:Jd) (s:Sh) (σ:St) (H:Hp) (Q:Jo->Hp->Prop),Inv X pins σ H s->t σ H Q->wpAny (model X.prog X.w) X.A (spliced (backTo pos (starEach es X.env))) (AP X pins σ Q) X.xe s
def PS (X:Cx) (st:Stmt) (t:TS):Prop :=
 ∀ (pins:Jd) (s:Sh) (σ:St) (H:Hp) (D:Ends),Inv X pins σ H s->t D σ H->wpAny (model X.prog X.w) X.A (exec st X.env) (SP X pins D) X.xe s
def PSs (X:Cx) (st:List Stmt) (t:TS):Prop :=
 ∀ (pins:Jd) (s:Sh) (σ:St) (H:Hp) (D:Ends),Inv X pins σ H s->t D σ H->wpAny (model X.prog X.w) X.A (execs st X.env) (SP X pins D) X.xe s
def thn {α:Type} {t:Sem α} {Q Q':α->Sh->Prop} {M:Model} {A:Around} {E:Ja} {s:Sh} (h:wpAny M A t Q E s) (hQ:∀ a s,Q a s->Q' a s):wpAny M A t Q' E s:=wpAny_mono h hQ λ_ _ x=>x
section
variable {X:Cx}
inductive tVar (i:Nat) (σ:St) (H:Hp) (Q:VK):Prop
 | mk (v:_) (_:σ[i]?=some (some v)) (_:Q v H)
def tC (v:V):TE:=λ_ H Q=>Q v H
def pe_var {i:Nat} {x:Str} {pos:Pos} (hN:X.N[i]?=some x) (hv:Vis X.env.scope x) (hd:(x == ("__debug__":Str))=false:=by decide) (hcd:(x == ("__classdict__":Str))=false:=by decide):PE X (.Name x pos) (tVar i):=by
 intro pins s σ H Q I h;obtain ⟨v,e,h⟩:=h;obtain ⟨m,hn,hl⟩:=I.loc;obtain ⟨u,r,l⟩:=hl i x v hN e hv;have fin:EP X pins σ Q u s:=⟨v,H,I,r,h⟩;rcases l with ⟨hk,hm⟩ | ⟨hk,c,hc,hcell⟩
 ·exact wpAny_Name (wpAny_loadName_local I.ok.kind hk hn hm fin) hd
 ·rcases hk with hk | hk
  ·exact wpAny_Name (wpAny_loadName_cell I.ok.kind hk hc hcell fin) hd
  ·exact wpAny_Name (wpAny_loadName_free I.ok.kind hk hc hcell fin hcd) hd
def zd {i j pos}:PE X (.Constant (.int i) j pos) (tC (.int i)):=λ_ _ _ H _ I h=>wpAny_Constant_int ⟨.int i,H,I.tok _,⟨_,rfl⟩,h⟩
def zW {b j pos}:PE X (.Constant (.bool b) j pos) (tC (.bl b)):=λ_ _ _ H _ I h=>Constant_bool ⟨.bl b,H,I,rfl,h⟩
def xi {j pos}:PE X (.Constant .none j pos) (tC .non):=λ_ _ _ H _ I h=>Constant_none ⟨.non,H,I,rfl,h⟩
def zk {x j pos}:PE X (.Constant (.str x) j pos) (tC (.str x)):=λ_ _ _ H _ I h=>Calls.Constant_str ⟨.str x,H,I.tok _,⟨_,rfl⟩,h⟩
def Gl (X:Cx) (x:Str):Prop:=X.env.kindOf x=some .globalImplicit
def YC {E:Ja} {pins:Jd} {s:Sh} {σ:St} {H:Hp} {x:Str} {u:Vl} {pos:Pos} {Q:Ja} (I:Inv X pins σ H s) (hg:Gl X x) (hm:X.mg x=some u) (h:Q u s)
  (hd:(x == ("__debug__":Str))=false:=by decide):wpAny (model X.prog X.w) X.A (eval (.Name x pos) X.env) Q E s :=
 Calls.Name_function_global I.ok.kind hg (Calls.loadGlobal_global (by rw [I.ok.glob];exact I.mod.glob.keeps I.bk) hm h) hd
def zag {E:Ja} {pins:Jd} {s:Sh} {σ:St} {H:Hp} {x:Str} {u:Vl} {pos:Pos} {Q:Ja} (I:Inv X pins σ H s) (hg:Gl X x) (hm:X.mg x=none) (hv:bootBuiltins x=some u) (h:Q u s)
  (hn:x≠"__name__":=by decide) (hd:(x == ("__debug__":Str))=false:=by decide):wpAny (model X.prog X.w) X.A (eval (.Name x pos) X.env) Q E s:=by
 obtain ⟨mb,h1,h2⟩:=I.mod.blt;exact Calls.Name_function_global I.ok.kind hg (Calls.loadGlobal_builtin (by rw [I.ok.glob];exact I.mod.glob.keeps I.bk) hm (by rw [I.ok.blt];exact h1.keeps I.bk) ((h2 x hn).trans hv) h) hd
def zck {x:Str} {v:V} {u:Vl} {pos:Pos} (hg:Gl X x) (hm:X.mg x=some u) (r:RelV v u) (hd:(x == ("__debug__":Str))=false:=by decide):PE X (.Name x pos) (tC v) :=
 λ_ _ _ H _ I h=>YC I hg hm ⟨v,H,I,r,h⟩ hd
def pe_bltn {x:Str} {v:V} {u:Vl} {pos:Pos} (hg:Gl X x) (hm:X.mg x=none) (hv:bootBuiltins x=some u) (r:RelV v u) (hn:x≠"__name__":=by decide) (hd:(x == ("__debug__":Str))=false:=by decide):PE X (.Name x pos) (tC v) :=
 λ_ _ _ H _ I h=>zag I hg hm hv ⟨v,H,I,r,h⟩ hn hd
variable {a b:Expr} {ta tb:TE} {pos:Pos}
def PC (X:Cx) (op:CmpOp) (a b:Expr) (t:TE):Prop :=
 ∀ (pins:Jd) (s:Sh) (σ:St) (H:Hp) (Q:VK),Inv X pins σ H s->t σ H Q ->
  wpAny (model X.prog X.w) X.A (eval a X.env) (λv s₁=>wpAny (model X.prog X.w) X.A (eval b X.env) (λu s₂=>wpAny (model X.prog X.w) X.A (compareOp op v u) (EP X pins σ Q) X.xe s₂) X.xe s₁) X.xe s
def nobehind (b:Expr) {op:CmpOp} (h:op≠.In) (h2:op≠.NotIn):behindInMarks op b=false:=by
 have e1:(op == CmpOp.In)=false:=by cases op <;> first | rfl | exact absurd rfl h
 have e2:(op == CmpOp.NotIn)=false:=by cases op <;> first | rfl | exact absurd rfl h2
 cases b <;> simp [behindInMarks,e1,e2]
inductive tB_S (Q:(Bool->Hp->Prop)) (x:V) (H1:Hp):Prop
 | mk (c:_) (_:x=.bl c) (_:Q c H1)
def tB (t:TE):TT:=λσ H Q=>t σ H λx H1=>tB_S Q x H1
def Z4 {op:CmpOp} {t:TE} (h:PC X op a b t) (h1:behindInMarks op b=false:=by first | exact nobehind _ (by decide) (by decide) | rfl):PT X (.Compare a [op] [b] pos) (tB t):=by
 intro pins s σ H Q I hw;refine wpAny_isTrue_Compare1 (thn (h pins s σ H _ I hw) λv s1 h1=>thn h1 λu s2 h2=>thn h2 λc s3 ⟨x,H1,I1,r1,q1⟩=>?_) h1;obtain ⟨d,rfl,q⟩:=q1;cases r1;exact wpAny_truthy_bool ⟨H1,I1,q⟩
def zG {e:Expr} {t:TE} (h:PE X e t) (he:∀ whole,isTrue e X.env whole=(do let v ← whole;standAt e.pos;holding [v] (truthy v)):=by intro _;rfl):PT X e (tB t):=by
 intro pins s σ H Q I hw;refine isTrue_plain (thn (h pins s σ H _ I hw) λv s1 ⟨x,H1,I1,r1,q1⟩=>?_) (he _);obtain ⟨d,rfl,q⟩:=q1;cases r1;exact wpAny_truthy_bool ⟨H1,I1,q⟩
variable {tA tB':TT} {rest:Ji}
def tAnd (t u:TT):TT:=λσ H Q=>t σ H λc H1=>if c=true then u σ H1 Q else Q false H1
def tOr (t u:TT):TT:=λσ H Q=>t σ H λc H1=>if c=true then Q true H1 else u σ H1 Q
def tNot (t:TT):TT:=λσ H Q=>t σ H λc H1=>Q (!c) H1
def yP (ha:PT X a tA):PW X (.BoolOp .And [a] pos) tA:=by
 intro wh pins s σ H Q I h;refine isTrue_and (thn (ha pins s σ H Q I h) λc s1 e=>?_)
 cases c with
 | true=>exact isTrue_and_nil e
 | false=>exact e
def zT (ha:PT X a tA):PW X (.BoolOp .Or [a] pos) tA:=by
 intro wh pins s σ H Q I h;refine isTrue_or (thn (ha pins s σ H Q I h) λc s1 e=>?_)
 cases c with
 | false=>exact isTrue_or_nil e
 | true=>exact e
def y6 (ha:PT X a tA) (hb:PW X (.BoolOp .And (b::rest) pos) tB'):PW X (.BoolOp .And (a::b::rest) pos) (tAnd tA tB'):=by
 intro wh pins s σ H Q I h;refine isTrue_and (thn (ha pins s σ H _ I h) λc s1 ⟨H1,I1,q1⟩=>?_)
 cases c with
 | true=>exact hb wh pins s1 σ H1 Q I1 q1
 | false=>exact ⟨H1,I1,q1⟩
def z8 (ha:PT X a tA) (hb:PW X (.BoolOp .Or (b::rest) pos) tB'):PW X (.BoolOp .Or (a::b::rest) pos) (tOr tA tB'):=by
 intro wh pins s σ H Q I h;refine isTrue_or (thn (ha pins s σ H _ I h) λc s1 ⟨H1,I1,q1⟩=>?_)
 cases c with
 | true=>exact ⟨H1,I1,q1⟩
 | false=>exact hb wh pins s1 σ H1 Q I1 q1
def zL (ha:PT X a tA):PT X (.UnaryOp .Not a pos) (tNot tA):=by
 intro pins s σ H Q I h;exact isTrue_not (ha pins s σ H (λc H1=>Q (!c) H1) I h)
inductive tAndV_S (tb:TE) (σ:St) (Q:VK) (x:V) (H1:Hp):Prop
 | mk (c:_) (_:x=.bl c) (_:if c=true then tb σ H1 Q else Q (.bl false) H1)
def tAndV (ta tb:TE):TE:=λσ H Q=>ta σ H λx H1=>tAndV_S tb σ Q x H1
inductive tOrV_S (tb:TE) (σ:St) (Q:VK) (x:V) (H1:Hp):Prop
 | mk (c:_) (_:x=.bl c) (_:if c=true then Q (.bl true) H1 else tb σ H1 Q)
def tOrV (ta tb:TE):TE:=λσ H Q=>ta σ H λx H1=>tOrV_S tb σ Q x H1
inductive tNotV_S (Q:VK) (x:V) (H1:Hp):Prop
 | mk (c:_) (_:x=.bl c) (_:Q (.bl (!c)) H1)
def tNotV (ta:TE):TE:=λσ H Q=>ta σ H λx H1=>tNotV_S Q x H1
def yt {op} {t:TE} (h:PE X a t):PE X (.BoolOp op [a] pos) t:=λpins s σ H Q I hw=>BoolOp_one (h pins s σ H Q I hw)
def yb (ha:PE X a ta) (hb:PE X (.BoolOp .And (b::rest) pos) tb):PE X (.BoolOp .And (a::b::rest) pos) (tAndV ta tb):=by
 intro pins s σ H Q I h;refine BoolOp_and (thn (ha pins s σ H _ I h) λv s1 ⟨x,H1,I1,r1,q1⟩=>?_);obtain ⟨c,rfl,q1⟩:=q1;cases r1;refine wpAny_truthy_bool ?_
 cases c with
 | true=>exact hb pins s1 σ H1 Q I1 q1
 | false=>exact ⟨.bl false,H1,I1,rfl,q1⟩
def pe_or (ha:PE X a ta) (hb:PE X (.BoolOp .Or (b::rest) pos) tb):PE X (.BoolOp .Or (a::b::rest) pos) (tOrV ta tb):=by
 intro pins s σ H Q I h;refine BoolOp_or (thn (ha pins s σ H _ I h) λv s1 ⟨x,H1,I1,r1,q1⟩=>?_);obtain ⟨c,rfl,q1⟩:=q1;cases r1;refine wpAny_truthy_bool ?_
 cases c with
 | false=>exact hb pins s1 σ H1 Q I1 q1
 | true=>exact ⟨.bl true,H1,I1,rfl,q1⟩
def pe_not (ha:PE X a ta):PE X (.UnaryOp .Not a pos) (tNotV ta):=by
 intro pins s σ H Q I h;refine UnaryOp_ (thn (ha pins s σ H _ I h) λv s1 ⟨x,H1,I1,r1,q1⟩=>?_);obtain ⟨c,rfl,q1⟩:=q1;cases r1;exact not_of (wpAny_truthy_bool ⟨.bl (!c),H1,I1,rfl,q1⟩)
end
def SqL (K:Fg) (H:Hp) (a:Ad) (xs:Jo):Prop :=
 Rd H a (.lst xs) ∨
  ∃ (o:Obj) (its:Array Vl) (n:Nat),K.lookup a=some o/\o.cls=.type "list"/\o.dict=none/\o.data=.seq its n/\its.size<=sizeLine/\Vals xs its.toList
def SqT (K:Fg) (H:Hp) (a:Ad) (xs:Jo):Prop :=
 Rd H a (.tup xs) ∨
  ∃ (o:Obj) (its:Array Vl) (n:Nat),K.lookup a=some o/\o.cls=.type "tuple"/\o.data=.seq its n/\its.size<=sizeLine/\Vals xs its.toList
def absV:Vl->Jp
 | .none=>some .non
 | .bool b=>some (.bl b)
 | .int i _=>some (.int i)
 | .str x _=>some (.str x)
 | .bytes b _=>some (.byt b)
 | .float b _=>some (.flt b)
 | .ref a=>some (.ref a)
 | .type n=>some (.ty n)
 | _=>none
def RelV.abs {x:V} {u:Vl} (r:RelV x u):absV u=some x:=by
 cases x with
 | non=>cases r;rfl
 | bl _=>cases r;rfl
 | int _=>obtain ⟨t,rfl⟩:=r;rfl
 | str _=>obtain ⟨t,rfl⟩:=r;rfl
 | byt _=>obtain ⟨t,rfl⟩:=r;rfl
 | flt _=>obtain ⟨t,rfl⟩:=r;rfl
 | ref _=>cases r;rfl
 | ty _=>cases r;rfl
def RelV.inj {x y:V} {u:Vl} (r:RelV x u) (q:RelV y u):x=y:=Option.some.inj (r.abs.symm.trans q.abs)
theorem Vals.inj:∀ {xs ys:Jo} {us:Je},Vals xs us->Vals ys us->xs=ys
 | _,_,_,.nil,.nil=>rfl
 | _,_,_,.cons r t,.cons r' t'=>by rw [r.inj r',Vals.inj t t']
section
variable {X:Cx} {pins:Jd} {σ:St} {H:Hp} {s:Sh} {a:Ad} {xs ys:Jo}
def SqL.of {K:Fg} (h:H a=some (.lst xs)):SqL K H a xs:=.inl (.inl h)
def SqT.of {K:Fg} (h:H a=some (.tup xs)):SqT K H a xs:=.inl (.inl h)
def Inv.list (I:Inv X pins σ H s) (h:SqL X.K H a xs):∃ its:Je,Vals xs its/\PlainL s.heap a its.toArray/\xs.length<=sizeLine:=by
 rcases h with h | ⟨o,its,n,hk,hc,hd,hs,hz,r⟩
 ·obtain ⟨z,its,n,r,e⟩:=h.ok I.hok
  exact ⟨its,r,⟨_,n,e,rfl,rfl,rfl⟩,z⟩
 ·refine ⟨its.toList,r,⟨o,n,I.kIn a o hk,hc,hd,by simpa using hs⟩,?_⟩
  have e:=r.length;simp only [Array.length_toList] at e;omega
def Inv.tuple (I:Inv X pins σ H s) (h:SqT X.K H a xs):∃ its:Je,Vals xs its/\IsTup s.heap a its.toArray/\xs.length<=sizeLine:=by
 rcases h with h | ⟨o,its,n,hk,hc,hs,hz,r⟩
 ·obtain ⟨z,its,r,p⟩:=h.ok I.hok
  exact ⟨its,r,p,z⟩
 ·refine ⟨its.toList,r,⟨o,I.kIn a o hk,hc,n,by simpa using hs⟩,?_⟩
  have e:=r.length;simp only [Array.length_toList] at e;omega
def Inv.list_inj (I:Inv X pins σ H s) (h:SqL X.K H a xs) (h':SqL X.K H a ys):xs=ys:=by
 obtain ⟨its,r,⟨o,n,e,_,_,d⟩,_⟩:=I.list h;obtain ⟨its',r',⟨o',n',e',_,_,d'⟩,_⟩:=I.list h';rw [e] at e';cases e';rw [d] at d';injection d' with d1 _
 have:its=its':=by simpa using congrArg Array.toList d1
 subst this;exact r.inj r'
end
abbrev Cx.wish (X:Cx) (E:Ja):Cx:={ X with xe:=E }
abbrev Cx.nox (X:Cx):Cx:=X.wish λ_ _=>False
def Cx.Ok.wish {X:Cx} (ok:X.Ok) (E:Ja):(X.wish E).Ok :=
 ⟨ok.mod,ok.kind,ok.glob,ok.blt,ok.above,ok.inj,ok.has,ok.cab,ok.hd,ok.frames,ok.stk,ok.exf,ok.bs,ok.bsz,ok.noex,ok.exfs,ok.funs,ok.frf⟩
def Cx.Ok.unwish {X:Cx} {E:Ja} (ok:(X.wish E).Ok):X.Ok :=
 ⟨ok.mod,ok.kind,ok.glob,ok.blt,ok.above,ok.inj,ok.has,ok.cab,ok.hd,ok.frames,ok.stk,ok.exf,ok.bs,ok.bsz,ok.noex,ok.exfs,ok.funs,ok.frf⟩
section
variable {X:Cx} {pins:Jd} {σ:St} {H:Hp} {s:Sh} {E:Ja}
def Inv.wish (I:Inv X pins σ H s) (E:Ja):Inv (X.wish E) pins σ H s:=⟨I.ok.wish E,I.os,I.bare,I.base,I.loc,I.cell,I.free,I.freeC,I.pin,I.hok,I.len⟩
def Inv.unwish (I:Inv (X.wish E) pins σ H s):Inv X pins σ H s:=⟨I.ok.unwish,I.os,I.bare,I.base,I.loc,I.cell,I.free,I.freeC,I.pin,I.hok,I.len⟩
def SP.unwish {D:Ends} {f:Flow} {s':Sh} (h:SP (X.wish E) pins D f s'):SP X pins D f s':=by
 cases f with
 | next=>obtain ⟨σ',H',I,q⟩:=h;exact ⟨σ',H',I.unwish,q⟩
 | brk=>obtain ⟨σ',H',I,q⟩:=h;exact ⟨σ',H',I.unwish,q⟩
 | cont=>obtain ⟨σ',H',I,q⟩:=h;exact ⟨σ',H',I.unwish,q⟩
 | ret u=>obtain ⟨v,σ',H',I,r,q⟩:=h;exact ⟨v,σ',H',I.unwish,r,q⟩
def PSs.nox {st:List Stmt} {t:TS} (h:PSs X.nox st t):PSs X st t:=λpins s σ H D I hw =>
 wpAny_mono (h pins s σ H D (I.wish _) hw) (λ_ _ q=>q.unwish) λ_ _ z=>False.elim z
end
section
variable {X:Cx} {st:Stmt} {rest:List Stmt} {t u:TS} {e:Expr} {te:TE} {pos:Pos}
def tNext:TS:=λD σ H=>D.nx σ H
def tSeq (t u:TS):TS:=λD σ H=>t { D with nx:=u D } σ H
def zh:PSs X [] tNext:=λ_ _ σ H _ I h=>wpAny_execs_nil ⟨σ,H,I,h⟩
def zb (h1:PS X st t) (h2:PSs X rest u):PSs X (st::rest) (tSeq t u):=by
 intro pins s σ H D I h;refine wpAny_execs_cons (thn (h1 pins s σ H { D with nx:=u D } I h) λf s1 q=>?_)
 cases f with
 | next =>
  obtain ⟨σ',H',I',q⟩:=q;exact h2 pins s1 σ' H' D I' q
 | ret v=>exact q
 | brk=>exact q
 | cont=>exact q
def ze (h1:PS X st t):PSs X [st] t:=by
 intro pins s σ H D I h;refine wpAny_execs_cons (thn (h1 pins s σ H D I h) λf s1 q=>?_)
 cases f with
 | next=>exact wpAny_execs_nil q
 | ret v=>exact q
 | brk=>exact q
 | cont=>exact q
def Inv.quiet {pins:Jd} {σ:St} {H:Hp} {s:Sh} (I:Inv X pins σ H s):interactive X.env=false:=by simp [interactive,I.ok.kind]
def tDrop (te:TE):TS:=λD σ H=>te σ H λ_ H1=>D.nx σ H1
def zY (he:PE X e te) (hs:swapsWith e none pos.line X.env=pure false:=by rfl):PS X (.Expr e pos) (tDrop te):=by
 intro pins s σ H D I h;exact wpAny_Expr_any (thn (he pins s σ H _ I h) λv s1 ⟨x,H1,I1,r1,q1⟩=>⟨σ,H1,I1,q1⟩) I.quiet hs
def tRet (te:TE):TS:=λD σ H=>te σ H D.rt
def zi (he:PE X e te):PS X (.Return (some e) pos) (tRet te):=by
 intro pins s σ H D I h;exact wpAny_Return_some (thn (he pins s σ H _ I h) λv s1 ⟨x,H1,I1,r1,q1⟩=>⟨x,σ,H1,I1,r1,q1⟩)
def tIfS (c:TT) (t u:TS):TS:=λD σ H=>c σ H λb H1=>if b=true then t D σ H1 else u D σ H1
def zC {c:Expr} {a b:List Stmt} {tc:TT} (hc:PT X c tc) (ha:PSs X a t) (hb:PSs X b u):PS X (.If c a b pos) (tIfS tc t u):=by
 intro pins s σ H D I h;refine wpAny_If (thn (hc pins s σ H _ I h) λd s1 ⟨H1,I1,q1⟩=>?_)
 cases d with
 | true=>exact ha pins s1 σ H1 D I1 q1
 | false=>exact hb pins s1 σ H1 D I1 q1
def tNever:TS:=λ_ _ _=>False
def zV {sts:List Stmt}:PSs X sts tNever:=λ_ _ _ _ _ _ h=>h.elim
end
abbrev TG:=V->St->Hp->(St->Hp->Prop)->Prop
abbrev TGs:=Jo->St->Hp->(St->Hp->Prop)->Prop
def PG (X:Cx) (target:Expr) (t:TG):Prop :=
 ∀ (pins:Jd) (s:Sh) (σ:St) (H:Hp) (v:V) (u:Vl) (Q:St->Hp->Prop),Inv X pins σ H s->RelV v u->t v σ H Q ->
  wpAny (model X.prog X.w) X.A (assign target X.env u) (λ_ s'=>∃ σ' H',Inv X pins σ' H' s'/\Q σ' H') X.xe s
def PGs (X:Cx) (ts:Ji) (t:TGs):Prop :=
 ∀ (pins:Jd) (s:Sh) (σ:St) (H:Hp) (vs:Jo) (us:Je) (Q:St->Hp->Prop),Inv X pins σ H s->Vals vs us->t vs σ H Q ->
  wpAny (model X.prog X.w) X.A (assignInOrder ((assignEach ts X.env).map (·.2)) us) (λ_ s'=>∃ σ' H',Inv X pins σ' H' s'/\Q σ' H') X.xe s
abbrev TIp:=V->V->Hp->VK->Prop
def PIp (X:Cx) (op:Operator) (t:TIp):Prop :=
 ∀ (pins:Jd) (s:Sh) (σ:St) (H:Hp) (x y:V) (v u:Vl) (Q:VK),Inv X pins σ H s->RelV x v->RelV y u->t x y H Q ->
  wpAny (model X.prog X.w) X.A (inplaceOp op v u) (EP X pins σ Q) X.xe s
section
variable {X:Cx} {pos:Pos}
def XB (i:Nat):TG:=λv σ H Q=>Q (σ.set i (some v)) H
def ya {i:Nat} {x:Str} (hN:X.N.Nodup) (hi:X.N[i]?=some x) (hx:Loc X.env.scope x) (hf:X.fn x=true∨X.env.scope.names.lookup x=some .local:=by first | exact .inl rfl | exact .inr rfl | assumption):PG X (.Name x pos) (XB i):=by
 intro pins s σ H v u Q I r h;exact wpAny_assign_Name (YY I hN hi hx r (λs' I'=>⟨_,H,I',h⟩) hf)
def gNil:TGs:=λvs σ H Q=>vs=[]/\Q σ H
inductive gCons (t:TG) (u:TGs) (vs:Jo) (σ:St) (H:Hp) (Q:(St->Hp->Prop)):Prop
 | mk (v r:_) (_:vs=v::r) (_:t v σ H λσ' H'=>u r σ' H' Q)
def pgs_nil:PGs X [] gNil:=by
 intro pins s σ H vs us Q I r h;obtain ⟨e,h⟩:=h;subst e;cases r;exact assignInOrder_nil ⟨σ,H,I,h⟩
def zdg {e:Expr} {es:Ji} {t:TG} {u:TGs} (h1:PG X e t) (h2:PGs X es u)
  (hs:(assignEach (e::es) X.env).map (·.2)=assign e X.env::(assignEach es X.env).map (·.2):=by rfl):PGs X (e::es) (gCons t u):=by
 intro pins s σ H vs us Q I r h;obtain ⟨v,vr,e1,h⟩:=h;subst e1
 cases r with
 | cons r rr =>
  rw [hs];refine assignInOrder_cons (thn (h1 pins s σ H _ _ _ I r h) λ_ s1 ⟨σ1,H1,I1,q1⟩=>?_);exact h2 pins s1 σ1 H1 _ _ Q I1 rr q1
inductive gTup (K:Fg) (n:Nat) (t:TGs) (v:V) (σ:St) (H:Hp) (Q:(St->Hp->Prop)):Prop
 | mk (a xs:_) (_:v=.ref a) (_:SqT K H a xs) (_:xs.length=n) (_:t xs σ H Q)
def pg_tup {es:Ji} {k:Nat} {t:TGs} {n:Nat} (hc:X.calm=true) (h:PGs X es t)
  (hn:(assignEach es X.env).length=n:=by rfl) (hst:(assignEach es X.env).findIdx? (·.1)=none:=by rfl):PG X (.Tuple es k pos) (gTup X.K n t):=by
 intro pins s σ H v u Q I r hw;obtain ⟨a,xs,e1,hq,hl,hw⟩:=hw;subst e1;cases r;obtain ⟨its,rv,ht,hz⟩:=I.tuple hq;refine assign_Tuple_tuple (I.ok.hd hc) ht (by simp [hn,← hl,rv.length]) hst λh' hx=>?_;have I1:Inv X pins σ H { s with heap:=h' }:=I.kept (t':=s.toks) λb o e=>hx b o (Nat.ne_of_lt (Heap.lt_size e)) e;exact h pins _ σ H xs _ Q I1 (by simpa using rv) hw
def tAsg (te:TE) (g:TG):TS:=λD σ H=>te σ H λx H1=>g x σ H1 D.nx
def zq {i:Nat} {x:Str} {e:Expr} {te:TE} {pos':Pos} (hN:X.N.Nodup) (hi:X.N[i]?=some x) (hx:Loc X.env.scope x) (he:PE X e te) (hs:swapsWith e (some (.Name x pos')) pos.line X.env=pure false:=by rfl) (hf:X.fn x=true∨X.env.scope.names.lookup x=some .local:=by first | exact .inl rfl | exact .inr rfl | assumption) :
  PS X (.Assign [.Name x pos'] e pos) (tAsg te (XB i)):=by
 intro pins s σ H D I h;refine wpAny_Assign_Name (thn (he pins s σ H _ I h) λv s1 ⟨y,H1,I1,r1,q1⟩=>?_) hs;exact YY I1 hN hi hx r1 (λs2 I2=>⟨_,H1,I2,q1⟩) hf
inductive tAug (i:Nat) (te:TE) (ti:TIp) (D:Ends) (σ:St) (H:Hp):Prop
 | mk (x:_) (_:σ[i]?=some (some x)) (_:te σ H λy H1=>ti x y H1 λz H2=>D.nx (σ.set i (some z)) H2)
def ps_aug {i:Nat} {x:Str} {e:Expr} {te:TE} {op:Operator} {ti:TIp} {pos':Pos} (hN:X.N.Nodup) (hi:X.N[i]?=some x) (hx:Loc X.env.scope x) (he:PE X e te) (ho:PIp X op ti) (hf:X.fn x=true∨X.env.scope.names.lookup x=some .local:=by first | exact .inl rfl | exact .inr rfl | assumption) :
  PS X (.AugAssign (.Name x pos') op e pos) (tAug i te ti):=by
 intro pins s σ H D I h;obtain ⟨v,e1,h⟩:=h;obtain ⟨m,hn,hl⟩:=I.loc;have vis:Vis X.env.scope x:=by rcases hx with k | k;exact .inl k;exact .inr (.inl k)
 obtain ⟨u,r,l⟩:=hl i x v hi e1 vis;refine wpAny_AugAssign_Name ?_
 have go:wpAny (model X.prog X.w) X.A (eval e X.env) (λw s₂=>wpAny (model X.prog X.w) X.A (inplaceOp op u w) (λr s₃=>wpAny (model X.prog X.w) X.A (storeName X.env x r) (λ_=>SP X pins D .next) X.xe s₃) X.xe s₂) X.xe s:=by
  refine thn (he pins s σ H _ I h) λw s1 ⟨y,H1,I1,r1,q1⟩=>?_;refine thn (ho pins s1 σ H1 v y u w _ I1 r r1 q1) λz s2 ⟨zv,H2,I2,r2,q2⟩=>?_;exact YY I2 hN hi hx r2 (λs3 I3=>⟨_,H2,I3,q2⟩) hf
 rcases l with ⟨hk,hm⟩ | ⟨hk,c,hc,hcell⟩
 ·exact wpAny_loadName_local I.ok.kind hk hn hm go
 ·rcases hk with hk | hk
  ·exact wpAny_loadName_cell I.ok.kind hk hc hcell go
  ·rcases hx with k | k
   ·have:X.env.scope.names.lookup x=some .free:=hk
    rw [k] at this;cases this
   ·have:X.env.scope.names.lookup x=some .free:=hk
    rw [k] at this;cases this
inductive ipI (f:Int->Int->Int) (x y:V) (H:Hp) (Q:VK):Prop
 | mk (i j:_) (_:x=.int i) (_:y=.int j) (_:Q (.int (f i j)) H)
def ip_add:PIp X .Add (ipI λi j=>i+j):=by
 intro pins s σ H x y v u Q I r1 r2 h;obtain ⟨i,j,e1,e2,q⟩:=h;subst e1;subst e2;obtain ⟨t,rfl⟩:=r1;obtain ⟨t',rfl⟩:=r2;exact iadd_int ⟨.int _,H,I.tok _,⟨_,rfl⟩,q⟩
inductive tWhile (c:TT) (tb:TS) (D:Ends) (σ:St) (H:Hp):Prop
 | mk (W:Nat->St->Hp->Prop) (_:(∃ m,W m σ H)) (_:∀ m σ H,W m σ H->c σ H λb H1=>if b=true then ∃ N:St->Hp->Prop,(∀ σ' H',N σ' H'->∃ m',m'<m/\W m' σ' H')/\tb { D with nx:=N,ct:=N,bk:=D.nx } σ H1 else D.nx σ H1)
def Z9 {c:Expr} {body:List Stmt} {tc:TT} {tb:TS} (hp:PassesOwn (model X.prog X.w) X.A X.env X.xe) (hc:PT X c tc) (hb:PSs X body tb):PS X (.While c body [] pos) (tWhile tc tb):=by
 intro pins s σ H D I h;obtain ⟨W,⟨m0,w0⟩,turn⟩:=h;refine wpAny_While (codeAny_whileLoop (λn s'=>∃ σ' H',Inv X pins σ' H' s'/\W n σ' H') ?_ m0 ⟨σ,H,I,w0⟩);rintro n s1 ⟨σ1,H1,I1,w1⟩;refine wpAny_passesOwn hp (thn (hc pins s1 σ1 H1 _ I1 (turn n σ1 H1 w1)) λb s2 ⟨H2,I2,q2⟩=>?_)
 cases b with
 | true =>
  obtain ⟨N,hN,q2⟩:=q2;rw [if_pos rfl];refine wpAny_passesOwn hp (thn (hb pins s2 σ1 H2 _ I2 q2) λf s3 q3=>?_)
  cases f with
  | next =>
   obtain ⟨σ3,H3,I3,n3⟩:=q3;obtain ⟨m',hm,w3⟩:=hN σ3 H3 n3;exact ⟨m',hm,σ3,H3,I3,w3⟩
  | cont =>
   obtain ⟨σ3,H3,I3,n3⟩:=q3;obtain ⟨m',hm,w3⟩:=hN σ3 H3 n3;exact ⟨m',hm,σ3,H3,I3,w3⟩
  | brk=>exact q3
  | ret v=>exact q3
 | false =>
  rw [if_neg q2x];exact wpAny_execs_nil ⟨σ1,H2,I2,q2⟩
end
structure It where
 go:Nat->Hp->Prop
 yld:Nat->Hp->V->Hp->Prop
 stop:Nat->Hp->Prop
def YX (X:Cx) (pins:Jd) (H:Hp) (b:Ad):Prop :=
 H b=none/\b≠X.env.locals/\b ∉ X.fs/\(b∈X.ex∨X.s₀.heap.objs.size<=b)/\(∀ x c,X.env.cells.lookup x=some c->c≠b)/\∀ p∈X.pn++pins,p.1≠b
def Inv.fpOk {X:Cx} {pins:Jd} {σ:St} {H H':Hp} {s:Sh} {b:Ad} (I:Inv X pins σ H s) (hb:s.heap.objs.size<=b) (hn:H' b=none):YX X pins H' b:=by
 refine ⟨hn,Nat.ne_of_gt (q2z I.lt hb),I.nofs hb,.inr (Nat.le_trans I.sz hb),λx c e z=>?_,λp hp z=>?_⟩
 ·obtain ⟨v,q⟩:=I.cell x c e
  exact absurd (q2z q.lt (by rw [z];exact hb)) (Nat.lt_irrefl _)
 ·exact absurd (q2z (Heap.lt_size (I.pin p hp).1) (by rw [z];exact hb)) (Nat.lt_irrefl _)
structure Turn (P:Program) (w:World) (K:Fg) (tg:Expr) (J:It) (fp:Jh) (it:Ad) (tn:Nat->Heap->Prop):Prop where
 mem:it∈fp
 obj:∀ i h,tn i h->∀ b∈fp,∃ o,h.get? b=some o/\∀ v,o.data≠.cell v
 keep:∀ i h h',tn i h->(∀ b∈fp,∀ o,h.get? b=some o->h'.get? b=some o)->tn i h'
 item:∀ (X:Cx),X.prog=P->X.w=w->X.K=K->X.calm=true->∀ (i:Nat) (pins:Jd) (s:Sh) (σ:St) (H:Hp) (E:Ja),Inv X pins σ H s->(∀ b∈fp,YX X pins H b)->tn i s.heap->J.go i H ->
  wpAny (model P w) X.A (pyNext (.ref it)) (λr s1=>∃ u,r=some u /\
   wpAny (model P w) X.A (letOwnedTupleGo tg (.ref it) u) (λ_ s2=>∃ x H',Inv X pins σ H' s2/\RelV x u/\J.yld i H x H'/\tn (i+1) s2.heap/\∀ b∈fp,H' b=none) E s1) E s
 done:∀ (X:Cx),X.prog=P->X.w=w->X.K=K->X.calm=true->∀ (i:Nat) (pins:Jd) (s:Sh) (σ:St) (H:Hp) (E:Ja),Inv X pins σ H s->(∀ b∈fp,YX X pins H b)->tn i s.heap->J.stop i H ->
  wpAny (model P w) X.A (pyNext (.ref it)) (λr s1=>r=none/\Inv X pins σ H s1) E s
 self:∀ (A:Around) (i:Nat) (s:Sh) (Q:Ja) (E:Ja),tn i s.heap->Q (.ref it) s->wpAny (model P w) A (pyIter (.ref it)) Q E s
abbrev TI:=St->Hp->(It->Hp->Prop)->Prop
def PIE (X:Cx) (pins:Jd) (σ:St) (tg:Expr) (R:It->Hp->Prop) (itv:Vl) (s2:Sh):Prop :=
 ∃ (it:Ad) (fp:Jh) (tn:Nat->Heap->Prop) (J:It) (H':Hp),itv=.ref it/\Inv X pins σ H' s2/\Turn X.prog X.w X.K tg J fp it tn/\tn 0 s2.heap/\(∀ b∈fp,YX X pins H' b)/\R J H'
def PI (X:Cx) (tg iter:Expr) (wi:TI):Prop :=
 ∀ (pins:Jd) (s:Sh) (σ:St) (H:Hp) (R:It->Hp->Prop),Inv X pins σ H s->wi σ H R ->
  wpAny (model X.prog X.w) X.A (eval iter X.env) (λv s1=>wpAny (model X.prog X.w) X.A (pyIter v) (PIE X pins σ tg R) X.xe s1) X.xe s
def go_of {M:Model} {A:Around} {E:Ja} {s:Sh} {tg:Expr} {it:Ad} {u:Vl} {o:Obj} {n:String} {vs:Array Vl} {Q:Unit->Sh->Prop} (ho:s.heap.get? it=some o) (hc:o.cls=.type n) (hd:o.data=.fields vs)
    (hn:["enumerate","zip","dict_itemiterator","dict_reverseitemiterator","odict_iterator","itertools.zip_longest","itertools.pairwise"].contains n=false) (hQ:Q () s):wpAny M A (letOwnedTupleGo tg (.ref it) u) Q E s:=by
  unfold letOwnedTupleGo;cases tg <;> first
    | exact q0y hQ
    | (cases u <;> first
        | exact q0y hQ
        | (refine q0x (wpAny_load ho ?_)
           rw [hc,hd];show wpAny M A (if (["enumerate","zip","dict_itemiterator","dict_reverseitemiterator","odict_iterator","itertools.zip_longest","itertools.pairwise"].contains n && vs[0]? == some (rawInt _))=true then _ else _) Q E s;rw [if_neg (by intro h;rw [hn,Bool.false_and] at h;cases h)];exact q0y hQ))
def Itl (K:Fg) (a:Ad):It :=
 ⟨λi H=>∃ xs x,SqL K H a xs/\xs[i]?=some x,λi H x H'=>H'=H/\∀ xs,SqL K H a xs->xs[i]?=some x,λi H=>∃ xs,SqL K H a xs/\xs.length<=i⟩
def Itt (K:Fg) (a:Ad):It :=
 ⟨λi H=>∃ xs x,SqT K H a xs/\xs[i]?=some x,λi H x H'=>H'=H/\∀ xs,SqT K H a xs->xs[i]?=some x,λi H=>∃ xs,SqT K H a xs/\xs.length<=i⟩
def Itr (lo:Int) (n:Nat):It:=⟨λi _=>i<n,λi H x H'=>H'=H/\x=.int (lo+i),λi _=>n<=i⟩
def turn_list {P:Program} {w:World} {K:Fg} {tg:Expr} (a it:Ad):Turn P w K tg (Itl K a) [it] it (λi h=>h.IsListIter it a i) where
 mem:=by simp
 obj:=λi h st b hb=>by
  have e:b=it:=by simpa using hb
  subst e;obtain ⟨o,e,c,d⟩:=st;exact ⟨o,e,λv z=>by rw [d] at z;cases z⟩
 keep:=λi h h' st k=>st.at λo e=>k it (by simp) o e
 item:=by
  intro X hP hw hK hc i pins s σ H E I hf st hg;subst hP hw hK;obtain ⟨xs,x,hq,hx⟩:=hg;obtain ⟨its,rv,p,hz⟩:=I.list hq;obtain ⟨u,hu,ru⟩:=rv.get hx;obtain ⟨f0,f1,f2,f3,f4,f5⟩:=hf it (by simp);refine wpAny_pyNext_list_item st p.isList (x:=u) (by simpa using hu) λh' st' sb=>?_;have I1:Inv X pins σ H { s with heap:=h' }:=I.turned (t':=s.toks) (λb o hb e=>(sb.2 b hb).trans e) f0 f1 f3 f4 f5;obtain ⟨o,e,c,d⟩:=id st';exact ⟨u,rfl,go_of (s:={ s with heap:=h' }) e c d (by decide) ⟨x,H,I1,ru,⟨rfl,λys hy=>by rw [I.list_inj hy hq];exact hx⟩,st',λb hb=>(hf b hb).1⟩⟩
 done:=by
  intro X hP hw hK hc i pins s σ H E I hf st hg;subst hP hw hK;obtain ⟨xs,hq,hx⟩:=hg;obtain ⟨its,rv,p,hz⟩:=I.list hq;obtain ⟨f0,f1,f2,f3,f4,f5⟩:=hf it (by simp);have hl:=rv.length;exact wpAny_pyNext_list_end (I.ok.hd hc) st p.isList (by simp;omega) λh' eb=>⟨rfl,I.turned (t':=s.toks) (λb o hb e=>eb b o hb e) f0 f1 f3 f4 f5⟩
 self:=λ_ _ _ _ _ st h=>wpAny_pyIter_listiter st h
def zeb {P:Program} {w:World} {K:Fg} {tg:Expr} (it:Ad) (lo:Int) (n:Nat):Turn P w K tg (Itr lo n) [it] it (λi h=>IsRangeIter h it (lo+(i:Nat)*1) ((n:Int)-(i:Nat)) 1) where
 mem:=by simp
 obj:=λi h st b hb=>by
  have e:b=it:=by simpa using hb
  subst e
  exact ⟨_,st,λv z=>by
   have z':Data.fields _=Data.cell v:=z;cases z'⟩
 keep:=λi h h' st k=>k it (by simp) _ st
 item:=by
  intro X hP hw hK hc i pins s σ H E I hf st hg;subst hP hw hK;obtain ⟨f0,f1,f2,f3,f4,f5⟩:=hf it (by simp);have W:=Walks.range (prog:=X.prog) (w:=X.w) (I.ok.hd hc) it lo 1 n;refine W.item i s _ _ hg st λv h' tk hv st' kk=>?_;obtain ⟨t,rfl⟩:=hv;have I1:Inv X pins σ H { s with heap:=h',toks:=tk }:=I.turned (λb o hb e=>kk b o (by simpa using hb) e) f0 f1 f3 f4 f5;refine ⟨_,rfl,go_of (s:={ s with heap:=h',toks:=tk }) (n:="range_iterator") st' rfl rfl (by decide) ⟨.int (lo+i),H,I1,⟨t,?_⟩,⟨rfl,rfl⟩,st',λb hb=>(hf b hb).1⟩⟩;rw [Int.mul_one]
 done:=by
  intro X hP hw hK hc i pins s σ H E I hf st hg;subst hP hw hK;obtain ⟨f0,f1,f2,f3,f4,f5⟩:=hf it (by simp);exact wpAny_pyNext_range_end (I.ok.hd hc) st (by have:n<=i:=hg;omega) λh' eb=>⟨rfl,I.turned (t':=s.toks) (λb o hb e=>eb b o hb e) f0 f1 f3 f4 f5⟩
 self:=λ_ _ _ _ _ st h=>wpAny_pyIter_rangeiter st h
section
variable {X:Cx} {tg:Expr}
inductive iList_S (K:Fg) (R:(It->Hp->Prop)) (x:V) (H1:Hp):Prop
 | mk (a:_) (_:x=.ref a) (_:(∃ xs,SqL K H1 a xs)) (_:R (Itl K a) H1)
def iList (K:Fg) (tl:TE):TI:=λσ H R=>tl σ H λx H1=>iList_S K R x H1
def xg {l:Expr} {tl:TE} (hl:PE X l tl):PI X tg l (iList X.K tl):=by
 intro pins s σ H R I h;refine thn (hl pins s σ H _ I h) λv s1 ⟨x,H1,I1,r1,q1⟩=>?_;obtain ⟨a,e,⟨xs,hq⟩,q⟩:=q1;subst e;cases r1;obtain ⟨its,rv,p,hz⟩:=I1.list hq;refine wpAny_pyIter_list p.isList ?_;refine ⟨s1.heap.objs.size,[s1.heap.objs.size],_,_,H1,rfl,I1.kept (t':=s1.toks) λb o e=>Heap.get?_push_of_some _ e,turn_list a _,⟨_,Heap.get?_push_size _ rfl,rfl,rfl⟩,λb hb=>?_,q⟩;have e:b=s1.heap.objs.size:=by simpa using hb
 subst e;exact I1.fpOk (Nat.le_refl _) (I1.hok.fresh (Nat.le_refl _))
def range_it {pins:Jd} {σ:St} {H:Hp} {s:Sh} {R:It->Hp->Prop} {E:Ja} {lo hi:Int} {t u v:Tok} {tk:Nat} (I:Inv X pins σ H s) (h1:-(2 ^ 62)<=lo) (h2:lo<2 ^ 62) (h3:-(2 ^ 62)<=hi) (h4:hi<2 ^ 62)
  (q:R (Itr lo (hi-lo).toNat) H):wpAny (model X.prog X.w) X.A (pyIter (.ref s.heap.objs.size)) (PIE X pins σ tg R) E { s with heap:=s.heap.push { cls:=.type "range",data:=.fields #[.int lo t,.int hi u,.int 1 v] },toks:=tk }:=by
 refine wpAny_pyIter_range (IsRange.new ..) (small_one h1 h2 h3 h4) ?_;have I1:Inv X pins σ H { s with heap:=s.heap.push { cls:=.type "range",data:=.fields #[.int lo t,.int hi u,.int 1 v] },toks:=tk }:=I.kept λb o e=>Heap.get?_push_of_some _ e
 refine ⟨(s.heap.push { cls:=.type "range",data:=.fields #[.int lo t,.int hi u,.int 1 v] }).objs.size,[(s.heap.push { cls:=.type "range",data:=.fields #[.int lo t,.int hi u,.int 1 v] }).objs.size],_,_,H,rfl,
  I1.kept (t':=tk) λb o e=>Heap.get?_push_of_some _ e,zeb _ lo (hi-lo).toNat,?_,λb hb=>?_,q⟩
 ·have e1:lo+((0:Nat):Int)*1=lo:=by simp
  have e2:(((hi-lo).toNat:Nat):Int)-((0:Nat):Int)=Builtin.Range.rangeSize lo hi 1:=by rw [rangeSize_one];split <;> omega
  show IsRangeIter _ _ (lo+((0:Nat):Int)*1) ((((hi-lo).toNat:Nat):Int)-((0:Nat):Int)) 1;rw [e1,e2];exact Heap.get?_push_size _ rfl
 ·have e:b=(s.heap.push { cls:=.type "range",data:=.fields #[.int lo t,.int hi u,.int 1 v] }).objs.size:=by simpa using hb
  subst e;exact I1.fpOk (Nat.le_refl _) (I1.hok.fresh (Nat.le_refl _))
inductive iRng1_S (R:(It->Hp->Prop)) (vs:Jo) (H1:Hp):Prop
 | mk (j:Int) (_:vs=[.int j]) (_:-(2 ^ 62)<=j) (_:j<2 ^ 62) (_:R (Itr 0 j.toNat) H1)
def iRng1 (ta:TA):TI:=λσ H R=>ta σ H λvs H1=>iRng1_S R vs H1
def yM {a:Expr} {ta:TA} {p pos:Pos} (hg:Gl X "range") (hm:X.mg "range"=none) (ha:PA X [a] ta) (hs:starEach [a] X.env=[(false,eval a X.env)]:=by rfl):PI X tg (.Call (.Name "range" p) [a] [] pos) (iRng1 ta):=by
 intro pins s σ H R I h;refine Call_ (zag I hg hm boot_range (PyProof.Rows.callWith_type1 (thn (ha pos pins s σ H _ I h) λus s1 ⟨vs,H1,I1,r1,q1⟩=>?_) hs rfl));obtain ⟨j,e,q1,q2,q⟩:=q1;subst e
 cases r1 with
 | cons r rr =>
  cases rr;obtain ⟨t,rfl⟩:=r;exact call_range_1 (range_it I1 (by omega) (by omega) q1 q2 (by simpa using q))
inductive tFor_S (g:TG) (tb:TS) (D:Ends) (σ:St) (J:It) (H1:Hp):Prop
 | mk (W:Nat->Nat->St->Hp->Prop) (_:(∃ m,W 0 m σ H1)) (_:∀ i m σ H,W i m σ H->(J.stop i H/\D.nx σ H)∨(J.go i H/\∃ N:St->Hp->Prop,(∀ σ' H',N σ' H'->∃ m',m'<m/\W (i+1) m' σ' H')/\∀ x H',J.yld i H x H'->g x σ H' λσ2 H2=>tb { D with nx:=N,ct:=N,bk:=D.nx } σ2 H2))
def tFor (wi:TI) (g:TG) (tb:TS):TS:=λD σ H=>wi σ H λJ H1=>tFor_S g tb D σ J H1
def X4 (fp:Jh) (h:Heap):Jd:=fp.filterMap λb=>(h.get? b).map λo=>(b,o)
def xK {fp:Jh} {h:Heap} {b:Ad} {o:Obj} (hb:b∈fp) (e:h.get? b=some o):(b,o)∈X4 fp h:=List.mem_filterMap.mpr ⟨b,hb,by rw [e];rfl⟩
def of_pinsAt {fp:Jh} {h:Heap} {p:Ad×Obj} (hp:p∈X4 fp h):p.1∈fp/\h.get? p.1=some p.2:=by
 obtain ⟨b,hb,e⟩:=List.mem_filterMap.mp hp
 cases q:h.get? b with
 | none=>rw [q] at e;cases e
 | some o =>
  rw [q] at e;have e':(b,o)=p:=Option.some.inj e;subst e';exact ⟨hb,q⟩
def Inv.pinned {pins:Jd} {σ:St} {H:Hp} {s:Sh} {fp:Jh} (I:Inv X pins σ H s) (hf:∀ b∈fp,YX X pins H b) (ho:∀ b∈fp,∃ o,s.heap.get? b=some o/\∀ v,o.data≠.cell v):Inv X (pins++X4 fp s.heap) σ H s :=
 I.pins_of λp hp=>(List.mem_append.mp hp).elim (λz=>I.pin p (q2y _ z)) λz=>by
  obtain ⟨hb,e⟩:=of_pinsAt z;obtain ⟨f0,f1,f2,_⟩:=hf p.1 hb;obtain ⟨o,e',d⟩:=ho p.1 hb;rw [e] at e';cases e';exact ⟨e,f0,f1,f2,d⟩
def Inv.unpinned {pins pl:Jd} {σ:St} {H:Hp} {s:Sh} (I:Inv X (pins++pl) σ H s):Inv X pins σ H s:=I.pins_of λp hp=>I.pin p (q2y _ (List.mem_append_left _ hp))
def xh {iter:Expr} {body:List Stmt} {wi:TI} {g:TG} {tb:TS} {pos:Pos} (hp:PassesOwn (model X.prog X.w) X.A X.env X.xe) (hc:X.calm=true) (hi:PI X tg iter wi) (hg:PG X tg g) (hb:PSs X body tb)
  (hs:∀ x,foldedSetIterable iter X.env x=pure x:=by intro _;rfl):PS X (.For tg iter body [] pos) (tFor wi g tb):=by
 intro pins s σ H D I h;refine wpAny_For (thn (hi pins s σ H _ I h) λv s1 h1=>thn h1 λitv s2 h2=>?_) hs;obtain ⟨it,fp,tn,J,H2,e,I2,T,st2,f2,W,⟨m0,w0⟩,turn⟩:=h2;subst e;have stat:∀ {H':Hp},(∀ b∈fp,H' b=none)->∀ b∈fp,YX X pins H' b:=λhn b hb=>⟨hn b hb,(f2 b hb).2⟩;refine codeAny_forLoop_any (λn s'=>∃ i σ' H',Inv X pins σ' H' s'/\tn i s'.heap/\(∀ b∈fp,H' b=none)/\W i n σ' H') ?_ m0 ⟨0,σ,H2,I2,st2,λb hb=>(f2 b hb).1,w0⟩;rintro n s3 ⟨i,σ3,H3,I3,st3,fr3,w3⟩;rcases turn i n σ3 H3 w3 with ⟨stop,qn⟩ | ⟨go,N,hN,step⟩
 ·refine wpAny_passesOwn hp (thn (T.done X rfl rfl rfl hc i pins s3 σ3 H3 X.xe I3 (stat fr3) st3 stop) λr s4 ⟨hr,I4⟩=>?_)
  subst hr;exact wpAny_execs_nil ⟨σ3,H3,I4,qn⟩
 ·refine wpAny_passesOwn hp (thn (T.item X rfl rfl rfl hc i pins s3 σ3 H3 X.xe I3 (stat fr3) st3 go) λr s4 ⟨u,hr,h4⟩=>?_)
  subst hr;refine wpAny_passesOwn hp (thn h4 λ_ s5 ⟨x,H5,I5,r5,y5,st5,fr5⟩=>?_);have I5':=I5.pinned (stat fr5) (T.obj _ _ st5);refine wpAny_passesOwn hp (thn (hg _ s5 σ3 H5 x u _ I5' r5 (step x H5 y5)) λ_ s6 ⟨σ6,H6,I6,q6⟩=>?_);refine wpAny_passesOwn hp (thn (hb _ s6 σ6 H6 _ I6 q6) λf s7 q7=>?_)
  have again:∀ {σ7:St} {H7:Hp},Inv X (pins++X4 fp s5.heap) σ7 H7 s7->N σ7 H7->∃ m,m<n/\∃ i σ' H',Inv X pins σ' H' s7/\tn i s7.heap/\(∀ b∈fp,H' b=none)/\W i m σ' H':=λ{σ7 H7} I7 n7=>by
   obtain ⟨m',hm,w7⟩:=hN σ7 H7 n7;refine ⟨m',hm,i+1,σ7,H7,I7.unpinned,T.keep _ _ _ st5 λb hb o e=>(I7.pin (b,o) (q2y _ (q2y _ (xK hb e)))).1,λb hb=>?_,w7⟩;obtain ⟨o,e,d⟩:=T.obj _ _ st5 b hb;exact (I7.pin (b,o) (q2y _ (q2y _ (xK hb e)))).2.1
  cases f with
  | next=>obtain ⟨σ7,H7,I7,n7⟩:=q7;exact again I7 n7
  | cont=>obtain ⟨σ7,H7,I7,n7⟩:=q7;exact again I7 n7
  | brk=>obtain ⟨σ7,H7,I7,q7⟩:=q7;exact ⟨σ7,H7,I7.unpinned,q7⟩
  | ret v=>obtain ⟨x7,σ7,H7,I7,r7,q7⟩:=q7;exact ⟨x7,σ7,H7,I7.unpinned,r7,q7⟩
end
def Xa {K:Fg} {a:Ad} {xs:Jo} {g:TG} {tb:TS} {D:Ends} {σ:St} {H:Hp} (Pv:Nat->St->Hp->Prop) (h0:Pv 0 σ H) (hl:∀ i σ H,i<=xs.length->Pv i σ H->SqL K H a xs)
  (hs:∀ i x σ H,xs[i]?=some x->Pv i σ H->g x σ H λσ2 H2=>tb { D with nx:=Pv (i+1),ct:=Pv (i+1),bk:=D.nx } σ2 H2) (hd:∀ σ H,Pv xs.length σ H->D.nx σ H) :
  tFor_S g tb D σ (Itl K a) H:=by
 refine ⟨λi m σ H=>m=xs.length-i/\i<=xs.length/\Pv i σ H,⟨xs.length,by simp,Nat.zero_le _,h0⟩,?_⟩;rintro i m σ H ⟨rfl,hi,p⟩;have q:=hl i σ H hi p;by_cases hlt:i<xs.length
 ·refine .inr ⟨⟨xs,xs[i],q,by simp [hlt]⟩,Pv (i+1),λσ' H' p'=>⟨xs.length-(i+1),by omega,rfl,hlt,p'⟩,λx H' y=>?_⟩
  obtain ⟨e,y⟩:=y;subst e;exact hs i x σ _ (y xs q) p
 ·have e:i=xs.length:=by omega
  subst e;exact .inl ⟨⟨xs,q,Nat.le_refl _⟩,hd σ H p⟩
def Zr {lo:Int} {n:Nat} {g:TG} {tb:TS} {D:Ends} {σ:St} {H:Hp} (Pv:Nat->St->Hp->Prop) (h0:Pv 0 σ H)
  (hs:∀ i σ H,i<n->Pv i σ H->g (.int (lo+i)) σ H λσ2 H2=>tb { D with nx:=Pv (i+1),ct:=Pv (i+1),bk:=D.nx } σ2 H2) (hd:∀ σ H,Pv n σ H->D.nx σ H) :
  tFor_S g tb D σ (Itr lo n) H:=by
 refine ⟨λi m σ H=>m=n-i/\i<=n/\Pv i σ H,⟨n,by simp,Nat.zero_le _,h0⟩,?_⟩;rintro i m σ H ⟨rfl,hi,p⟩;by_cases hlt:i<n
 ·refine .inr ⟨hlt,Pv (i+1),λσ' H' p'=>⟨n-(i+1),by omega,rfl,hlt,p'⟩,λx H' y=>?_⟩
  obtain ⟨e,y⟩:=y;subst e y;exact hs i σ _ hlt p
 ·have e:i=n:=by omega
  subst e;exact .inl ⟨Nat.le_refl _,hd σ H p⟩
abbrev R2:=V->V->Hp->VK->Prop
def OpR (X:Cx) (f:Vl->Vl->Sem Vl) (r:R2):Prop :=
 ∀ (pins:Jd) (s:Sh) (σ:St) (H:Hp) (x y:V) (v u:Vl) (Q:VK),Inv X pins σ H s->RelV x v->RelV y u->r x y H Q ->
  wpAny (model X.prog X.w) X.A (f v u) (EP X pins σ Q) X.xe s
def UnR (X:Cx) (f:Vl->Sem Vl) (r:V->Hp->VK->Prop):Prop :=
 ∀ (pins:Jd) (s:Sh) (σ:St) (H:Hp) (x:V) (v:Vl) (Q:VK),Inv X pins σ H s->RelV x v->r x H Q ->
  wpAny (model X.prog X.w) X.A (f v) (EP X pins σ Q) X.xe s
def Zy (X:Cx) (f:Vl) (r:Jo->Hp->VK->Prop):Prop :=
 ∀ (pins:Jd) (s:Sh) (σ:St) (H:Hp) (xs:Jo) (us:Je) (Q:VK),Inv X pins σ H s->Vals xs us->r xs H Q ->
  wpAny (model X.prog X.w) X.A (call f us) (EP X pins σ Q) X.xe s
def tOp (r:R2) (ta tb:TE):TE:=λσ H Q=>ta σ H λx H1=>tb σ H1 λy H2=>r x y H2 Q
def tUn (r:V->Hp->VK->Prop) (ta:TE):TE:=λσ H Q=>ta σ H λx H1=>r x H1 Q
inductive rI (C:Int->Int->Prop) (g:Int->Int->V) (x y:V) (H:Hp) (Q:VK):Prop
 | mk (i j:_) (_:x=.int i) (_:y=.int j) (_:C i j) (_:Q (g i j) H)
inductive rI0 (g:Int->Int->V) (x y:V) (H:Hp) (Q:VK):Prop
 | mk (i j:_) (_:x=.int i) (_:y=.int j) (_:Q (g i j) H)
inductive rU (g:Int->V) (x:V) (H:Hp) (Q:VK):Prop
 | mk (i:_) (_:x=.int i) (_:Q (g i) H)
section
variable {X:Cx} {a b c:Expr} {ta tb tc:TE} {pos:Pos}
def binT (ha:PE X a ta) (hb:PE X b tb) {pins:Jd} {s:Sh} {σ:St} {H:Hp} {R:V->V->Hp->Prop} (I:Inv X pins σ H s)
  (h:ta σ H λx H1=>tb σ H1 λy H2=>R x y H2) {Q:Ja} {f:Vl->Vl->Sem Vl}
  (hf:∀ v u s2 x y H2,Inv X pins σ H2 s2->RelV x v->RelV y u->R x y H2->wpAny (model X.prog X.w) X.A (f v u) Q X.xe s2) :
  wpAny (model X.prog X.w) X.A (eval a X.env) (λv s₁=>wpAny (model X.prog X.w) X.A (eval b X.env) (λu s₂=>wpAny (model X.prog X.w) X.A (f v u) Q X.xe s₂) X.xe s₁) X.xe s:=by
 refine thn (ha pins s σ H _ I h) λv s1 ⟨x,H1,I1,r1,q1⟩=>?_;refine thn (hb pins s1 σ H1 _ I1 q1) λu s2 ⟨y,H2,I2,r2,q2⟩=>?_;exact hf v u s2 x y H2 I2 r1 r2 q2
def zA {op:Operator} {r:R2} (ho:OpR X (binaryOp op) r) (ha:PE X a ta) (hb:PE X b tb):PE X (.BinOp a op b pos) (tOp r ta tb):=by
 intro pins s σ H Q I h;exact wpAny_BinOp (binT ha hb I h λv u s2 x y H2 I2 rx ry q=>ho pins s2 σ H2 x y v u Q I2 rx ry q)
def Y2 {op:UnaryOp} {r:V->Hp->VK->Prop} (ho:UnR X (unaryOp op) r) (ha:PE X a ta):PE X (.UnaryOp op a pos) (tUn r ta):=by
 intro pins s σ H Q I h;exact UnaryOp_ (thn (ha pins s σ H _ I h) λv s1 ⟨x,H1,I1,r1,q1⟩=>ho pins s1 σ H1 x v Q I1 r1 q1)
def opI {f:Vl->Vl->Sem Vl} {C:Int->Int->Prop} {g:Int->Int->Int}
  (rule:∀ (i j:Int) (t u:Tok) (s:Sh) (Q:Ja) (E:Ja),C i j->Q (.int (g i j) s.toks) { s with toks:=s.toks+1 }->wpAny (model X.prog X.w) X.A (f (.int i t) (.int j u)) Q E s) :
  OpR X f (rI C λi j=>.int (g i j)):=by
 intro pins s σ H x y v u Q I rx ry h;obtain ⟨i,j,rfl,rfl,hc,q⟩:=h;obtain ⟨t,rfl⟩:=rx;obtain ⟨t',rfl⟩:=ry;exact rule i j t t' s _ _ hc ⟨.int (g i j),H,I.tok _,⟨_,rfl⟩,q⟩
def opI0 {f:Vl->Vl->Sem Vl} {g:Int->Int->Int}
  (rule:∀ (i j:Int) (t u:Tok) (s:Sh) (Q:Ja) (E:Ja),Q (.int (g i j) s.toks) { s with toks:=s.toks+1 }->wpAny (model X.prog X.w) X.A (f (.int i t) (.int j u)) Q E s) :
  OpR X f (rI0 λi j=>.int (g i j)):=by
 intro pins s σ H x y v u Q I rx ry h;obtain ⟨i,j,rfl,rfl,q⟩:=h;obtain ⟨t,rfl⟩:=rx;obtain ⟨t',rfl⟩:=ry;exact rule i j t t' s _ _ ⟨.int (g i j),H,I.tok _,⟨_,rfl⟩,q⟩
def opB0 {f:Vl->Vl->Sem Vl} {g:Int->Int->Bool}
  (rule:∀ (i j:Int) (t u:Tok) (s:Sh) (Q:Ja) (E:Ja),Q (.bool (g i j)) s->wpAny (model X.prog X.w) X.A (f (.int i t) (.int j u)) Q E s) :
  OpR X f (rI0 λi j=>.bl (g i j)):=by
 intro pins s σ H x y v u Q I rx ry h;obtain ⟨i,j,rfl,rfl,q⟩:=h;obtain ⟨t,rfl⟩:=rx;obtain ⟨t',rfl⟩:=ry;exact rule i j t t' s _ _ ⟨.bl (g i j),H,I,rfl,q⟩
def CDiv (i j:Int):Prop:=0<j/\j<1073741824
def CMul (i j:Int):Prop:=(-(2 ^ 64)<i/\i<2 ^ 64)∨(-(2 ^ 64)<j/\j<2 ^ 64)
def CMul.ok {i j:Int} (h:CMul i j):IntMulOk i j:=by
 rcases h with ⟨h1,h2⟩ | ⟨h1,h2⟩
 ·exact .of_left (intBits_le_64 h1 h2)
 ·exact .of_right (intBits_le_64 h1 h2)
def yI:OpR X (binaryOp .Add) (rI0 λi j=>.int (i+j)):=opI0 λ_ _ _ _ _ _ _ q=>add_int q
def ZL:OpR X (binaryOp .Sub) (rI0 λi j=>.int (i-j)):=opI0 λ_ _ _ _ _ _ _ q=>sub_int q
def YT:OpR X (binaryOp .Mult) (rI CMul λi j=>.int (i*j)):=opI λ_ _ _ _ _ _ _ hc q=>mul_int q hc.ok
def z5:OpR X (binaryOp .FloorDiv) (rI CDiv λi j=>.int (i / j)):=opI λi j _ _ _ _ _ hc q=>by
 have h1:(0:Int)<j:=hc.1;have h2:j<1073741824:=hc.2;exact floordiv_int (by omega) (by rw [Int.fdiv_eq_ediv_of_nonneg i (by omega)];exact q) (.inl (PyProof.noPylong_small (by omega)))
def zO:OpR X (binaryOp .Mod) (rI (λ_ j=>0<j) λi j=>.int (i % j)):=opI λi j _ _ _ _ _ hc q=>by
 have h1:(0:Int)<j:=hc;exact mod_int' (by omega) (by rw [Int.fmod_eq_emod_of_nonneg i (by omega)];exact q)
def unI {f:Vl->Sem Vl} {g:Int->Int}
  (rule:∀ (i:Int) (t:Tok) (s:Sh) (Q:Ja) (E:Ja),Q (.int (g i) s.toks) { s with toks:=s.toks+1 }->wpAny (model X.prog X.w) X.A (f (.int i t)) Q E s) :
  UnR X f (rU λi=>.int (g i)):=by
 intro pins s σ H x v Q I rx h;obtain ⟨i,rfl,q⟩:=h;obtain ⟨t,rfl⟩:=rx;exact rule i t s _ _ ⟨.int (g i),H,I.tok _,⟨_,rfl⟩,q⟩
def ZS:UnR X (unaryOp .USub) (rU λi=>.int (-i)):=unI λ_ _ _ _ _ q=>neg_int q
end
def scal:V->V->Bool
 | .non,.non=>true | .non,.int _=>true | .int _,.non=>true | .non,.bl _=>true | .bl _,.non=>true | .non,.str _=>true | .str _,.non=>true
 | .int _,.int _=>true | .bl _,.bl _=>true | .str _,.str _=>true | .byt _,.byt _=>true
 | .int _,.str _=>true | .str _,.int _=>true | .bl _,.str _=>true | .str _,.bl _=>true
 | _,_=>false
def rEq:R2:=λx y H Q=>scal x y=true/\Q (.bl (decide (x=y))) H
def rNe:R2:=λx y H Q=>scal x y=true/\Q (.bl (!decide (x=y))) H
def dec_int {i j:Int}:decide (V.int i=V.int j)=(i == j):=by
 rw [Bool.eq_iff_iff];simp
def dec_bl {i j:Bool}:decide (V.bl i=V.bl j)=(i == j):=by
 rw [Bool.eq_iff_iff];simp
def zc6 {i j:Str}:decide (V.str i=V.str j)=(i == j):=by
 rw [Bool.eq_iff_iff];simp
def dec_byt {i j:Array UInt8}:decide (V.byt i=V.byt j)=(i.toList == j.toList):=by
 rw [Bool.eq_iff_iff];cases i;cases j;simp
section
variable {X:Cx} {a b c:Expr} {ta tb tc:TE} {pos:Pos}
def z6 {pins:Jd} {σ:St} {H:Hp} {s:Sh} {Q:VK} {k k':Bool} (I:Inv X pins σ H s) (q:Q (.bl k) H) (e:k=k'):EP X pins σ Q (.bool k') s:=by
 subst e;exact ⟨.bl k,H,I,rfl,q⟩
def zU:OpR X (compareOp .Eq) rEq:=by
 intro pins s σ H x y v u Q I rx ry h;obtain ⟨hs,q⟩:=h
 cases x with
 | non =>
  cases rx
  cases y with
  | non=>cases ry;exact PySem.EqNone.eq_none_none (z6 I q (by simp))
  | bl j=>cases ry;exact PySem.EqNone.eq_none_bool (z6 I q (by simp))
  | int j=>obtain ⟨t',rfl⟩:=ry;exact PySem.EqNone.eq_none_int (z6 I q (by simp))
  | str j=>obtain ⟨t',rfl⟩:=ry;exact PySem.EqNone.eq_none_str (z6 I q (by simp))
  | _=>exact absurd (show false=true from hs) q2x
 | bl i =>
  cases rx
  cases y with
  | non=>cases ry;exact PySem.EqNone.eq_bool_none (z6 I q (by simp))
  | bl j=>cases ry;exact eq_bool (z6 I q dec_bl)
  | str j=>obtain ⟨t',rfl⟩:=ry;exact PySem.EqMixed.eq_bool_str (z6 I q (by simp))
  | _=>exact absurd (show false=true from hs) q2x
 | int i =>
  obtain ⟨t,rfl⟩:=rx
  cases y with
  | non=>cases ry;exact PySem.EqNone.eq_int_none (z6 I q (by simp))
  | int j=>obtain ⟨t',rfl⟩:=ry;exact eq_int (z6 I q dec_int)
  | str j=>obtain ⟨t',rfl⟩:=ry;exact PySem.EqMixed.eq_int_str (z6 I q (by simp))
  | _=>exact absurd (show false=true from hs) q2x
 | str i =>
  obtain ⟨t,rfl⟩:=rx
  cases y with
  | non=>cases ry;exact PySem.EqNone.eq_str_none (z6 I q (by simp))
  | bl j=>cases ry;exact PySem.EqMixed.eq_str_bool (z6 I q (by simp))
  | int j=>obtain ⟨t',rfl⟩:=ry;exact PySem.EqMixed.eq_str_int (z6 I q (by simp))
  | str j=>obtain ⟨t',rfl⟩:=ry;exact eq_str (z6 I q zc6)
  | _=>exact absurd (show false=true from hs) q2x
 | byt i =>
  obtain ⟨t,rfl⟩:=rx
  cases y with
  | byt j=>obtain ⟨t',rfl⟩:=ry;exact PySem.W.eq_bytes (z6 I q dec_byt)
  | _=>exact absurd (show false=true from hs) q2x
 | _=>cases y <;> exact absurd (show false=true from hs) q2x
def yQ:OpR X (compareOp .NotEq) rNe:=by
 intro pins s σ H x y v u Q I rx ry h;obtain ⟨hs,q⟩:=h
 cases x with
 | non =>
  cases rx
  cases y with
  | non=>cases ry;exact PySem.EqNone.ne_none_none (z6 I q (by simp))
  | bl j=>cases ry;exact PySem.EqNone.ne_none_bool (z6 I q (by simp))
  | int j=>obtain ⟨t',rfl⟩:=ry;exact PySem.EqNone.ne_none_int (z6 I q (by simp))
  | str j=>obtain ⟨t',rfl⟩:=ry;exact PySem.EqNone.ne_none_str (z6 I q (by simp))
  | _=>exact absurd (show false=true from hs) q2x
 | bl i =>
  cases rx
  cases y with
  | non=>cases ry;exact PySem.EqNone.ne_bool_none (z6 I q (by simp))
  | bl j=>cases ry;exact ne_bool (z6 I q (congrArg not dec_bl))
  | str j=>obtain ⟨t',rfl⟩:=ry;exact PySem.EqMixed.ne_bool_str (z6 I q (by simp))
  | _=>exact absurd (show false=true from hs) q2x
 | int i =>
  obtain ⟨t,rfl⟩:=rx
  cases y with
  | non=>cases ry;exact PySem.EqNone.ne_int_none (z6 I q (by simp))
  | int j=>obtain ⟨t',rfl⟩:=ry;exact ne_int (z6 I q (congrArg not dec_int))
  | str j=>obtain ⟨t',rfl⟩:=ry;exact PySem.EqMixed.ne_int_str (z6 I q (by simp))
  | _=>exact absurd (show false=true from hs) q2x
 | str i =>
  obtain ⟨t,rfl⟩:=rx
  cases y with
  | non=>cases ry;exact PySem.EqNone.ne_str_none (z6 I q (by simp))
  | bl j=>cases ry;exact PySem.EqMixed.ne_str_bool (z6 I q (by simp))
  | int j=>obtain ⟨t',rfl⟩:=ry;exact PySem.EqMixed.ne_str_int (z6 I q (by simp))
  | str j=>obtain ⟨t',rfl⟩:=ry;exact ne_str (z6 I q (congrArg not zc6))
  | _=>exact absurd (show false=true from hs) q2x
 | byt i =>
  obtain ⟨t,rfl⟩:=rx
  cases y with
  | byt j=>obtain ⟨t',rfl⟩:=ry;exact PySem.W.ne_bytes (z6 I q (congrArg not dec_byt))
  | _=>exact absurd (show false=true from hs) q2x
 | _=>cases y <;> exact absurd (show false=true from hs) q2x
def Y5:OpR X (compareOp .Lt) (rI0 λi j=>.bl (decide (i<j))):=opB0 λ_ _ _ _ _ _ _ q=>lt_int q
def zbc:OpR X (compareOp .LtE) (rI0 λi j=>.bl (decide (i<=j))):=opB0 λ_ _ _ _ _ _ _ q=>le_int q
def xI:OpR X (compareOp .Gt) (rI0 λi j=>.bl (decide (j<i))):=opB0 λ_ _ _ _ _ _ _ q=>gt_int q
def op_in_str:OpR X (compareOp .In) (λx y H Q=>∃ i j,x=.str i/\y=.str j/\Q (.bl (!(Builtin.Str.occurrences j i 0 j.length 1).isEmpty)) H):=by
 intro pins s σ H x y v u Q I rx ry h;obtain ⟨i,j,rfl,rfl,q⟩:=h;obtain ⟨t,rfl⟩:=rx;obtain ⟨t',rfl⟩:=ry;exact in_str (z6 I q rfl)
def YU:OpR X (compareOp .Is) (λx y H Q=>y=.non/\Q (.bl (decide (x=.non))) H):=by
 intro pins s σ H x y v u Q I rx ry h;obtain ⟨rfl,q⟩:=h;cases ry;refine is_none_gen (z6 I q ?_);cases x <;> first
  | (cases rx;rfl)
  | (obtain ⟨t,rfl⟩:=rx;rfl)
def zcn:OpR X (compareOp .IsNot) (λx y H Q=>y=.non/\Q (.bl (!decide (x=.non))) H):=by
 intro pins s σ H x y v u Q I rx ry h;obtain ⟨rfl,q⟩:=h;cases ry;refine isnot_none_gen (z6 I q ?_);cases x <;> first
  | (cases rx;rfl)
  | (obtain ⟨t,rfl⟩:=rx;rfl)
def zu (b:Expr) {op:CmpOp} (h:op≠.In:=by decide) (h2:op≠.NotIn:=by decide):behindInMarks op b=false:=by
 have e1:(op == CmpOp.In)=false:=by cases op <;> first | rfl | exact absurd rfl h
 have e2:(op == CmpOp.NotIn)=false:=by cases op <;> first | rfl | exact absurd rfl h2
 cases b <;> simp [behindInMarks,e1,e2]
def Zn {op:CmpOp} {r:R2} (ho:OpR X (compareOp op) r) (ha:PE X a ta) (hb:PE X b tb) (hm:behindInMarks op b=false):PE X (.Compare a [op] [b] pos) (tOp r ta tb):=by
 intro pins s σ H Q I h;exact wpAny_Compare1 (binT ha hb I h λv u s2 x y H2 I2 rx ry q=>ho pins s2 σ H2 x y v u Q I2 rx ry q) hm
inductive tTest_S (Q:(Bool->Hp->Prop)) (x:V) (H':Hp):Prop
 | mk (k:_) (_:x=.bl k) (_:Q k H')
def tTest (t:TE):TT:=λσ H Q=>t σ H λx H'=>tTest_S Q x H'
def zm {op:CmpOp} {r:R2} (ho:OpR X (compareOp op) r) (ha:PE X a ta) (hb:PE X b tb) (hm:behindInMarks op b=false):PT X (.Compare a [op] [b] pos) (tTest (tOp r ta tb)):=by
 intro pins s σ H Q I h
 refine wpAny_isTrue_Compare1 (thn (ha pins s σ H _ I h) λv s1 ⟨x,H1,I1,r1,q1⟩=>thn (hb pins s1 σ H1 _ I1 q1) λu s2 ⟨y,H2,I2,r2,q2⟩ =>
  thn (ho pins s2 σ H2 x y v u _ I2 r1 r2 q2) λc s3 ⟨z,H3,I3,r3,k,e,q3⟩=>?_) hm
 subst e;cases r3;exact wpAny_truthy_bool ⟨H3,I3,q3⟩
def tChain (r r':R2) (ta tb tc:TE):TE:=λσ H Q=>ta σ H λx H1=>tb σ H1 λy H2=>r x y H2 λz H3=>∃ k,z=.bl k /\
 (if k=true then tc σ H3 λw' H4=>r' y w' H4 Q else Q (.bl false) H3)
def pe_chain {op op':CmpOp} {r r':R2} (ho:OpR X (compareOp op) r) (ho':OpR X (compareOp op') r') (ha:PE X a ta) (hb:PE X b tb) (hc:PE X c tc)
  (hm:lastMarks [op,op'] [b,c]=false:=by with_unfolding_all rfl):PE X (.Compare a [op,op'] [b,c] pos) (tChain r r' ta tb tc):=by
 intro pins s σ H Q I h
 refine Compare_chain (thn (ha pins s σ H _ I h) λv s1 ⟨x,H1,I1,r1,q1⟩=>chain_link (thn (hb pins s1 σ H1 _ I1 q1) λu s2 ⟨y,H2,I2,r2,q2⟩ =>
  thn (ho pins s2 σ H2 x y v u _ I2 r1 r2 q2) λd s3 ⟨z,H3,I3,r3,k,e,q3⟩=>?_)) hm
 subst e;cases r3;refine wpAny_truthy_bool ?_
 cases k with
 | false=>exact ite_ff ⟨.bl false,H3,I3,rfl,q3⟩
 | true=>exact ite_tt (chain_last (thn (hc pins s3 σ H3 _ I3 q3) λw' s4 ⟨z',H4,I4,r4,q4⟩=>ho' pins s4 σ H4 y z' u w' Q I4 r2 r4 q4))
def zdf {op op':CmpOp} {r r':R2} (ho:OpR X (compareOp op) r) (ho':OpR X (compareOp op') r') (ha:PE X a ta) (hb:PE X b tb) (hc:PE X c tc)
  (hm:lastMarks [op,op'] [b,c]=false:=by with_unfolding_all rfl):PT X (.Compare a [op,op'] [b,c] pos) (tTest (tChain r r' ta tb tc)):=by
 intro pins s σ H Q I h
 refine isTrue_chain (thn (ha pins s σ H _ I h) λv s1 ⟨x,H1,I1,r1,q1⟩=>test_link (thn (hb pins s1 σ H1 _ I1 q1) λu s2 ⟨y,H2,I2,r2,q2⟩ =>
  thn (ho pins s2 σ H2 x y v u _ I2 r1 r2 q2) λd s3 ⟨z,H3,I3,r3,k,e,q3⟩=>?_)) hm
 subst e;cases r3;refine wpAny_truthy_bool ?_
 cases k with
 | false =>
  obtain ⟨k',e',q'⟩:=q3;cases e';exact ite_ff ⟨H3,I3,q'⟩
 | true =>
  refine ite_tt (test_last (thn (hc pins s3 σ H3 _ I3 q3) λw' s4 ⟨z',H4,I4,r4,q4⟩=>thn (ho' pins s4 σ H4 y z' u w' _ I4 r2 r4 q4) λd' s5 ⟨z2,H5,I5,r5,k2,e2,q5⟩=>?_));subst e2;cases r5;exact wpAny_truthy_bool ⟨H5,I5,q5⟩
def zaf:(sizeLine:Nat)<2 ^ 63:=by rw [sizeLine_eq];decide
def ym:OpR X (binaryOp .Add) (λx y H Q=>∃ i j,x=.str i/\y=.str j/\i.length+j.length<=sizeLine/\Q (.str (i++j)) H):=by
 intro pins s σ H x y v u Q I rx ry h;obtain ⟨i,j,rfl,rfl,hz,q⟩:=h;obtain ⟨t,rfl⟩:=rx;obtain ⟨t',rfl⟩:=ry;exact add_str (λt' tk=>⟨.str (i++j),H,I.tok _,⟨_,rfl⟩,q⟩) hz
def XT {x:V} {us:Je} (r:Vals [x] us):∃ u,us=[u]/\RelV x u:=by
 cases r with
 | cons r1 r2=>cases r2;exact ⟨_,rfl,r1⟩
def vals2 {x y:V} {us:Je} (r:Vals [x,y] us):∃ u w',us=[u,w']/\RelV x u/\RelV y w':=by
 cases r with
 | cons r1 r2 =>
  cases r2 with
  | cons r3 r4=>cases r4;exact ⟨_,_,rfl,r1,r3⟩
def Xq (hc:X.calm=true):Zy X (.builtin "max") (λxs H Q=>∃ i j,xs=[.int i,.int j]/\Q (.int (if j > i then j else i)) H):=by
 intro pins s σ H xs us Q I r h;obtain ⟨i,j,rfl,q⟩:=h;obtain ⟨u,w',rfl,⟨t,rfl⟩,⟨t',rfl⟩⟩:=vals2 r;refine max_two_ints (I.ok.hd hc) λh' tk k=>⟨_,H,I.kept k,?_,q⟩;by_cases hj:j > i
 ·rw [if_pos hj,if_pos hj];exact ⟨_,rfl⟩
 ·rw [if_neg hj,if_neg hj];exact ⟨_,rfl⟩
end
structure ObjM (h:Heap) (x dx C:Ad) (mA:J0):Prop where
 obj:h.get? x=some (PySem.W.instObj C dx)
 ns:h.Ns1 dx mA
 ne:dx≠x
def lookIn_ns {h:Heap} {dx:Ad} {mA:J0} (n:h.Ns1 dx mA):∃ od,h.get? dx=some od/\∀ name,PySem.W.lookIn name od=some (mA name):=by
 obtain ⟨o,es,ep,ho,hd,hk,_,hm⟩:=n;refine ⟨o,ho,λname=>?_⟩;have e:=hm name;unfold nsFind findBy at e;rw [← Array.find?_toList] at e;unfold PySem.W.lookIn;rw [hd];dsimp only
 split
 ·rename_i y q
  rw [q] at e;exact congrArg some e
 ·rename_i q
  rw [q] at e
  have a:es.toList.any (·.refKey)=false:=by
   rw [List.any_eq_false];intro y hy;obtain ⟨z,t,hkey⟩:=hk y (Array.mem_toList_iff.mp hy);simp [DictEntry.refKey,hkey]
  have a':¬ es.toList.any (·.refKey)=true:=by rw [a];exact q2x
  rw [if_neg a'];exact congrArg some e
def ObjM.look {h:Heap} {x dx C:Ad} {mA:J0} (I:ObjM h x dx C mA):∃ od,PySem.W.InstAt h x (PySem.W.instObj C dx) C (some od)/\∀ name,PySem.W.lookIn name od=some (mA name) :=
 let ⟨od,ho,hl⟩:=lookIn_ns I.ns
 ⟨od,⟨I.obj,rfl,rfl,ho⟩,hl⟩
section
variable {prog:Program} {w:World} {A:Around} {E:Ja} {s:Sh} {K:Fg} {x dx C f:Ad} {mA:J0} {name:Str} {v:Vl}
def get_map {expr:Bool} {Q:Ja} (X:K.In s.heap) (I:ObjM s.heap x dx C mA) (hg:PySem.W.plainGet K C name=true) (hh:PySem.W.hasDictIn K C=true)
  (ha:PySem.W.findIn K (.ref C) name=some none) (hv:mA name=some v) (hv':PySem.W.handedIn v=true) (h:Q v { s with toks:=s.toks+1 }) :
  wpAny (model prog w) A (getAttr (.ref x) name expr) Q E s:=by
 obtain ⟨od,J,hl⟩:=I.look;exact PySem.W.get_value X J (PySem.W.plainGet_of hg).1 (PySem.W.findObj_own hh ha rfl (by rw [hl,hv])) hv' h
def get_meth {pl:Sem Bool} {Q:Vl×Je->Sh->Prop} (X:K.In s.heap) (I:ObjM s.heap x dx C mA) (hg:PySem.W.plainGet K C name=true)
  (hf:PySem.W.findIn K (.ref C) name=some (some (.ref f))) (ht:PySem.W.isFn K (.ref f)=true) (hv:mA name=none) (h:Q (.ref f,[.ref x]) s) :
  wpAny (model prog w) A (getMethod (.ref x) name pl) Q E s:=by
 obtain ⟨od,J,hl⟩:=I.look;exact PySem.W.method_fn X J (PySem.W.plainGet_of hg).1 (PySem.W.plainGet_of hg).2 hf (beq_iff_eq.mp ht) (by show (PySem.W.lookIn name od).map (·.isSome)=some false;rw [hl,hv];rfl) h
def set_map {ns:Jg} {Q:Unit->Sh->Prop} (X:K.In s.heap) (I:ObjM s.heap x dx C mA)
  (hs:PySem.W.findIn K (.ref C) "__setattr__"=some (some (.builtin "object.__setattr__"))) (hp:PySem.W.plainOver K C=true) (ht:PySem.W.takerIn K C name=some none) (hh:PySem.W.hasDictIn K C=true)
  (hw:PySem.Within mA ns) (hsz:ns.length<=sizeLine)
  (h:∀ h',ObjM h' x dx C (λy=>if y=name then some v else mA y)->Heap.SameBut dx s.heap h'->Q () { s with heap:=h',toks:=s.toks+2 }) :
  wpAny (model prog w) A (setAttr (.ref x) name v) Q E s:=by
 obtain ⟨od,J,hl⟩:=I.look;refine PySem.W.set_plain X J hs (PySem.W.osa_open (s:={ s with toks:=s.toks+1 }) (r:=none) X J hp ht λb=>?_);obtain ⟨cd,hc,hd'⟩:=PySem.W.any_some hh;have hx:s.heap.get? x=some ⟨.ref C,some dx,.plain,#[]⟩:=I.obj;refine q0x (q0y (q0x (q0x (wpAny_loadPart hx (q0x (PySem.W.Looks.here (s:={ s with toks:=s.toks+1 }) (PySem.W.looks_clsIn X hc) ?_))))));rw [hd'];refine q0y (a:=some dx) (q0x (q0y (q0x ?_)));refine wpAny_nsSet1 (s:={ s with toks:=s.toks+1 }) I.ns λh' hn2 hs2=>?_;obtain ⟨oD,esD,epD,hoD,hdD,hcD⟩:=hn2.count (PySem.Within.cons name v hw);refine q0x (wpAny_lookBehind hoD (by rw [hdD];exact pastItsLine_dict (Nat.le_trans hcD (by rw [q3x];omega))) ?_);exact q0y (h _ ⟨(hs2.2 _ (Ne.symm I.ne)).trans I.obj,hn2,I.ne⟩ hs2)
def make_map {R:Result->Sh->Prop} {vs:Je} {kw:List (Str×Vl)} (X:K.In s.heap) (hm:PySem.W.makesIn K C=true)
  (hi:PySem.W.findIn K (.ref C) "__init__"=some (some (.ref f))) (hf:PySem.W.typeIn K (.ref f)=some (.type "function"))
  (h:codeAny (model prog w) (A.under (.builtin "type.__call__" ⟨.ref C::vs,kw⟩)) (.call (.ref f) ⟨.ref (s.heap.objs.size+1)::vs,kw⟩) (PySem.W.InitBack (s.heap.objs.size+1) R)
   { s with heap:=(s.heap.push PySem.W.emptyDict).push (PySem.W.instObj C s.heap.objs.size) }) :
  codeAny (model prog w) A (.call (.ref C) ⟨vs,kw⟩) R s:=by
 obtain ⟨hh,g,d,t,os⟩:=s;exact PySem.W.make_core (PySem.W.makes_of X hm) (PySem.W.looks_findIn X hi) (λself=>PySem.W.bind_fn X self hf) (.inl rfl) h
def make_map0 {R:Result->Sh->Prop} (X:K.In s.heap) (hm:PySem.W.makesIn K C=true)
  (hi:PySem.W.findIn K (.ref C) "__init__"=some (some (.builtin "object.__init__")))
  (hb:∀ self,PySem.W.Looks (model prog w) s.heap (bindSpecial (.builtin "object.__init__") self) (.builtin "object.__init__",[self]))
  (h:codeAny (model prog w) (A.under (.builtin "type.__call__" ⟨[.ref C],[]⟩)) (.call (.builtin "object.__init__") ⟨[.ref (s.heap.objs.size+1)],[]⟩) (PySem.W.InitBack (s.heap.objs.size+1) R)
   { s with heap:=(s.heap.push PySem.W.emptyDict).push (PySem.W.instObj C s.heap.objs.size) }) :
  codeAny (model prog w) A (.call (.ref C) ⟨[],[]⟩) R s:=by
 obtain ⟨hh,g,d,t,os⟩:=s;exact PySem.W.make_core (PySem.W.makes_of X hm) (PySem.W.looks_findIn X hi) hb (.inr ⟨rfl,rfl⟩) h
end
def Z3 (f:Str) (v:V):List (Str×V)->List (Str×V)
 | []=>[(f,v)]
 | (g,x)::r=>if g=f then (g,v)::r else (g,x)::Z3 f v r
theorem Xx (f g:Str) (v:V):∀ fs:List (Str×V),(Z3 f v fs).lookup g=if g=f then some v else fs.lookup g
 | []=>by
  show List.lookup g [(f,v)]=_;by_cases h:g=f
  ·have hb:(g == f)=true:=beq_iff_eq.mpr h
   simp only [List.lookup,hb,if_pos h]
  ·have hb:(g == f)=false:=beq_eq_false_iff_ne.mpr h
   simp only [List.lookup,hb,if_neg h]
 | (k,x)::r=>by
  have ih:=Xx f g v r;rw [show Z3 f v ((k,x)::r)=(if k=f then (k,v)::r else (k,x)::Z3 f v r) from rfl];by_cases hk:k=f
  ·rw [if_pos hk]
   by_cases h:g=k
   ·have hb:(g == k)=true:=beq_iff_eq.mpr h
    simp only [List.lookup,hb,if_pos (h.trans hk)]
   ·have hb:(g == k)=false:=beq_eq_false_iff_ne.mpr h
    simp only [List.lookup,hb,if_neg (λe:g=f=>h (e.trans hk.symm))]
  ·rw [if_neg hk]
   by_cases h:g=k
   ·have hb:(g == k)=true:=beq_iff_eq.mpr h
    simp only [List.lookup,hb,if_neg (λe:g=f=>hk (h.symm.trans e))]
   ·have hb:(g == k)=false:=beq_eq_false_iff_ne.mpr h
    simp only [List.lookup,hb];exact ih
theorem Xk (f:Str) (v:V):∀ fs:List (Str×V),f∈(Z3 f v fs).map (·.1)/\∀ g,g∈fs.map (·.1)->g∈(Z3 f v fs).map (·.1)
 | []=>⟨by simp [Z3],λg h=>by simp at h⟩
 | (k,x)::r=>by
  obtain ⟨i1,i2⟩:=Xk f v r;rw [show Z3 f v ((k,x)::r)=(if k=f then (k,v)::r else (k,x)::Z3 f v r) from rfl];by_cases hk:k=f
  ·rw [if_pos hk]
   subst hk;exact ⟨by simp,λg h=>by simpa using h⟩
  ·rw [if_neg hk]
   refine ⟨?_,λg h=>?_⟩
   ·rw [List.map_cons]
    exact q1y _ i1
   ·rw [List.map_cons] at h ⊢
    rcases List.mem_cons.mp h with e | e
    ·exact List.mem_cons.mpr (.inl e)
    ·exact q1y _ (i2 g e)
theorem Xy (f:Str) (v:V):∀ fs:List (Str×V),(Z3 f v fs).length<=fs.length+1
 | []=>by simp [Z3]
 | (k,x)::r=>by
  have ih:=Xy f v r;rw [show Z3 f v ((k,x)::r)=(if k=f then (k,v)::r else (k,x)::Z3 f v r) from rfl];by_cases hk:k=f
  ·rw [if_pos hk,q3x,q3x];omega
  ·rw [if_neg hk,q3x,q3x];omega
def RelO.some_of {v:V} {o:Jf} (r:RelO (some v) o):∃ u,o=some u/\RelV v u:=by
 cases o with
 | none=>exact (show False from r).elim
 | some u=>exact ⟨u,rfl,r⟩
def RelO.none_of {o:Jf} (r:RelO none o):o=none:=by
 cases o with
 | none=>rfl
 | some u=>exact (show False from r).elim
def handed_of {v:V} {u:Vl} (r:RelV v u):PySem.W.handedIn u=true:=by
 cases v with
 | non=>cases (show u=Value.none from r);rfl
 | bl b=>cases (show u=Value.bool b from r);rfl
 | int i=>obtain ⟨t,e⟩:=(show ∃ t,u=Value.int i t from r);cases e;rfl
 | str x=>obtain ⟨t,e⟩:=(show ∃ t,u=Value.str x t from r);cases e;rfl
 | byt b=>obtain ⟨t,e⟩:=(show ∃ t,u=Value.bytes b t from r);cases e;rfl
 | flt b=>obtain ⟨t,e⟩:=(show ∃ t,u=Value.float b t from r);cases e;rfl
 | ref a=>cases (show u=Value.ref a from r);rfl
 | ty n=>cases (show u=Value.type n from r);rfl
section
variable {P:Program} {w:World} {H H':Hp} {h h':Heap} {a C dx:Ad} {fs fs':List (Str×V)}
def XL (hok:HOk P w H h) (e:H a=some (.ins C dx fs)):∃ mA,ObjM h a dx C mA/\(∀ f,RelO (fs.lookup f) (mA f))/\PySem.Within mA (fs.map (·.1))/\fs.length<=1000/\H dx=some (.own a):=by
 obtain ⟨d,z,ne,ob,mA,n,r,q⟩:=(show ObjOk P w H h a (.ins C dx fs) from hok a _ e);exact ⟨mA,⟨ob,n,ne⟩,r,q,z,d⟩
end
structure Cls (K:Fg) (C:Ad):Prop where
 pg:PySem.W.plainGet K C Str.empty=true
 hd:PySem.W.hasDictIn K C=true
 po:PySem.W.plainOver K C=true
 sa:PySem.W.findIn K (.ref C) "__setattr__"=some (some (.builtin "object.__setattr__"))
def Cls.get {K:Fg} {C:Ad} (c:Cls K C) (f:Str):PySem.W.plainGet K C f=true:=c.pg
def NoAttr (K:Fg) (C:Ad) (f:Str):Prop:=PySem.W.findIn K (.ref C) f=some none
def NoAttr.taker {K:Fg} {C:Ad} {f:Str} (n:NoAttr K C f):PySem.W.takerIn K C f=some none:=by
 unfold PySem.W.takerIn;rw [show PySem.W.findIn K (.ref C) f=some none from n];rfl
structure Con (K:Fg) (C:Ad) (f:Str) (v:V) (u:Vl):Prop where
 at_:PySem.W.findIn K (.ref C) f=some (some u)
 rel:RelV v u
 get:PySem.W.specialIn K u "__get__"=some none
 cp:PySem.W.copiedNames.contains f=false
structure Meth (K:Fg) (C:Ad) (m:Str) (f:Ad):Prop where
 at_:PySem.W.findIn K (.ref C) m=some (some (.ref f))
 fn:PySem.W.isFn K (.ref f)=true
 kp:PySem.W.keepIn K (.ref f)=true
section
variable {X:Cx} {pins:Jd} {σ:St} {H:Hp} {s:Sh} {a C dx:Ad} {fs:List (Str×V)} {f:Str} {v:V} {A:Around} {E:Ja}
def zez {b:Bool} {Q:Ja} (I:Inv X pins σ H s) (e:H a=some (.ins C dx fs)) (c:Cls X.K C) (n:NoAttr X.K C f) (l:fs.lookup f=some v)
  (h:∀ u s',Inv X pins σ H s'->RelV v u->Q u s'):wpAny (model X.prog X.w) A (getAttr (.ref a) f b) Q E s:=by
 obtain ⟨mA,O,r,_,_,_⟩:=XL I.hok e;obtain ⟨u,hu,ru⟩:=RelO.some_of (v:=v) (o:=mA f) (by rw [← l];exact r f);exact get_map I.kIn O (c.get f) c.hd n hu (handed_of ru) (h u _ (I.tok _) ru)
def zey {m:Str} {g:Ad} {pl:Sem Bool} {Q:Vl×Je->Sh->Prop} (I:Inv X pins σ H s) (e:H a=some (.ins C dx fs)) (c:Cls X.K C) (k:Meth X.K C m g) (l:fs.lookup m=none)
  (h:Q (.ref g,[.ref a]) s):wpAny (model X.prog X.w) A (getMethod (.ref a) m pl) Q E s:=by
 obtain ⟨mA,O,r,_,_,_⟩:=XL I.hok e;have hn:mA m=none:=RelO.none_of (by rw [← l];exact r m);exact get_meth I.kIn O (c.get m) k.at_ k.fn hn h
def zee {y:V} {u:Vl} {Q:Unit->Sh->Prop} (I:Inv X pins σ H s) (e:H a=some (.ins C dx fs)) (c:Cls X.K C) (n:NoAttr X.K C f) (hl:fs.length<1000) (ry:RelV y u)
  (h:∀ s',Inv X pins σ (upd H a (.ins C dx (Z3 f y fs))) s'->Q () s'):wpAny (model X.prog X.w) A (setAttr (.ref a) f u) Q E s:=by
 obtain ⟨mA,O,r,wi,_,ho⟩:=XL I.hok e;have hz:(fs.map (·.1)).length<=sizeLine:=by rw [Jj,sizeLine_eq];omega
 refine set_map I.kIn O c.sa c.po n.taker c.hd wi hz λh' O' sb=>h _ ?_;have hd:∃ o,h'.get? dx=some o:=let ⟨o,_,_,e',_⟩:=O'.ns;⟨o,e'⟩;refine I.write (x:=a) (e:=dx) (by rw [e];exact True.intro) (.inr ho) (λb q hb z=>(sb.2 b hb).trans z) hd ?_;refine ⟨by rw [zF O.ne];exact ho,?_,O.ne,O'.obj,_,O'.ns,λg=>?_,λg hg=>?_⟩
 ·have:=Xy f y fs;omega
 ·show RelO ((Z3 f y fs).lookup g) (if g=f then some u else mA g)
  rw [Xx];by_cases q:g=f
  ·rw [if_pos q,if_pos q];exact ry
  ·rw [if_neg q,if_neg q];exact r g
 ·by_cases q:g=f
  ·rw [q];exact (Xk f y fs).1
  ·refine (Xk f y fs).2 g (wi g λz=>hg ?_)
   show (if g=f then some u else mA g)=none;rw [if_neg q];exact z
def Inv.made (I:Inv X pins σ H s):Inv X pins σ (upd (upd H s.heap.objs.size (.own (s.heap.objs.size+1))) (s.heap.objs.size+1) (.ins C s.heap.objs.size []))
  { s with heap:=(s.heap.push PySem.W.emptyDict).push (PySem.W.instObj C s.heap.objs.size) }:=by
 have e1:(s.heap.push PySem.W.emptyDict).get? s.heap.objs.size=some PySem.W.emptyDict:=Heap.get?_push_size s.heap rfl
 have e2:((s.heap.push PySem.W.emptyDict).push (PySem.W.instObj C s.heap.objs.size)).get? (s.heap.objs.size+1)=some (PySem.W.instObj C s.heap.objs.size):=by
  have:=Heap.get?_push_size (s.heap.push PySem.W.emptyDict) (o:=PySem.W.instObj C s.heap.objs.size) rfl
  rwa [Heap.size_push] at this
 have e3:(s.heap.push PySem.W.emptyDict).Ns s.heap.objs.size (λ_=>none):=⟨PySem.W.emptyDict,#[],_,e1,rfl,(λe he=>absurd he (by simp)),λ_=>rfl⟩;have I1:=I.laid (a:=s.heap.objs.size) (o:=.own (s.heap.objs.size+1)) (h':=s.heap.push PySem.W.emptyDict) (t':=s.toks) (λb u q=>Heap.get?_push_of_some _ q) (Nat.le_refl _) ⟨_,e1⟩;refine I1.laid (a:=s.heap.objs.size+1) (o:=.ins C s.heap.objs.size []) (t':=s.toks) (λb u q=>Heap.get?_push_of_some _ q) (Nat.le_of_eq (Heap.size_push _ _)) ?_;have ne:s.heap.objs.size≠s.heap.objs.size+1:=Nat.ne_of_lt (Nat.lt_succ_self _);refine ⟨by rw [zF ne,zr],Nat.zero_le _,ne,e2,λ_=>none,(Heap.Ns1.of_empty e3).at λo q=>Heap.get?_push_of_some _ q,λ_=>True.intro,λy hy=>absurd rfl hy⟩
def attr_of {prog:Program} {w:World} {env:Env} {e:Expr} {f:Str} {pos:Pos} {s:Sh} {Q:Ja} (hb:attributeBase e f env (eval e env)=eval e env)
  (h:wpAny (model prog w) A (eval e env) (λo s₁=>wpAny (model prog w) A (getAttr o f true) Q E s₁) E s):wpAny (model prog w) A (eval (.Attribute e f pos) env) Q E s :=
 Attribute_any_ h (by rw [arm_eval_Attribute,hb])
end
inductive tFld_S (K:Fg) (f:Str) (Q:VK) (x:V) (H1:Hp):Prop
 | mk (a C:_) (dx fs v:_) (_:x=.ref a) (_:H1 a=some (.ins C dx fs)) (_:Cls K C) (_:NoAttr K C f) (_:fs.lookup f=some v) (_:Q v H1)
def tFld (K:Fg) (ta:TE) (f:Str):TE:=λσ H Q=>ta σ H λx H1=>tFld_S K f Q x H1
inductive sFld_S (K:Fg) (f:Str) (D:Ends) (σ:St) (y x:V) (H2:Hp):Prop
 | mk (a C:_) (dx fs:_) (_:x=.ref a) (_:H2 a=some (.ins C dx fs)) (_:Cls K C) (_:NoAttr K C f) (_:fs.length<1000) (_:D.nx σ (upd H2 a (.ins C dx (Z3 f y fs))))
def sFld (K:Fg) (ta tv:TE) (f:Str):TS:=λD σ H=>tv σ H λy H1=>ta σ H1 λx H2=>sFld_S K f D σ y x H2
section
variable {X:Cx} {o e value:Expr} {f:Str} {pos pos' tpos:Pos} {ta tv:TE}
def zo (he:PE X e ta) (hb:attributeBase e f X.env (eval e X.env)=eval e X.env):PE X (.Attribute e f pos) (tFld X.K ta f):=by
 intro pins s σ H Q I h;refine attr_of hb (thn (he pins s σ H _ I h) λu s1 ⟨x,H1,I1,rx,a,C,dx,fs,v,ex,ea,c,n,l,q⟩=>?_);subst ex;obtain rfl:u=Value.ref a:=rx;exact zez I1 ea c n l λu' s2 I2 ru=>⟨v,H1,I2,ru,q⟩
def zR (ha:PE X o ta) (hv:PE X value tv) (hs:swapsWith value (some (.Attribute o f pos')) pos.line X.env=pure false):PS X (.Assign [.Attribute o f pos'] value pos) (sFld X.K ta tv f):=by
 intro pins s σ H D I h;refine plainObj_wpAny_Assign_Attribute (thn (hv pins s σ H _ I h) λu s1 ⟨y,H1,I1,ry,q⟩=>thn (ha pins s1 σ H1 _ I1 q) λov s2 ⟨x,H2,I2,rx,a,C,dx,fs,ex,ea,c,n,l,q2⟩=>?_) hs;subst ex;obtain rfl:ov=Value.ref a:=rx;exact zee I2 ea c n l ry λs3 I3=>⟨σ,_,I3,q2⟩
end
section
variable {X:Cx} {pins:Jd} {σ:St} {H:Hp} {s:Sh} {A:Around} {E:Ja} {Q:Ja} {c:Vl} {b:Bool}
inductive TyOf (K:Fg) (H:Hp):V->Vl->Prop where
 | non:TyOf K H .non (.type "NoneType")
 | bl (x:Bool):TyOf K H (.bl x) (.type "bool")
 | int (i:Int):TyOf K H (.int i) (.type "int")
 | str (x:Str):TyOf K H (.str x) (.type "str")
 | flt (x:UInt64):TyOf K H (.flt x) (.type "float")
 | lst {a:Ad} {xs:Jo} (e:H a=some (.lst xs)):TyOf K H (.ref a) (.type "list")
 | frz {a:Ad} {o:Obj} {xs:Jo} (e:H a=some (.frz o (.lst xs))):TyOf K H (.ref a) (.type "list")
 | tup {a:Ad} {xs:Jo} (e:H a=some (.tup xs)):TyOf K H (.ref a) (.type "tuple")
 | dK {a:Ad} {kvs:Jm} (e:H a=some (.dK kvs)):TyOf K H (.ref a) (.type "dict")
 | dT {a:Ad} {kvs:List (List Key×V)} (e:H a=some (.dT kvs)):TyOf K H (.ref a) (.type "dict")
 | ins {a C dx:Ad} {fs:List (Str×V)} (e:H a=some (.ins C dx fs)) (cl:Cls K C) (ha:PySem.W.findIn K (.ref C) "__class__"=some (some (.builtin "object.__class__")))
   (hn:PySem.W.specialIn K (.builtin "object.__class__") "__get__"=some (some (.builtin "getset_descriptor.__get__"))) (htk:PySem.W.takesIn K (.builtin "object.__class__")=some true)
   (hm:PySem.W.mroIn K C (.type "object")=some true):TyOf K H (.ref a) (.ref C)
def isinst_ok {x:V} {u t:Vl} (I:Inv X pins σ H s) (rx:RelV x u) (ty:TyOf X.K H x t) (e:PySem.W.kitOne X.K t c=some b) (h:∀ tk,Q (.bool b) { s with toks:=tk }) :
  wpAny (model X.prog X.w) A (call (.builtin "isinstance") [u,c]) Q E s:=by
 cases ty with
 | non=>cases (show u=Value.none from rx);exact PySem.W.kia_one PySem.W.kitx_none I.kIn True.intro e (λz=>nomatch z) h
 | bl y=>cases (show u=Value.bool y from rx);exact PySem.W.kia_one PySem.W.kitx_bool I.kIn True.intro e (λz=>nomatch z) h
 | int i=>obtain ⟨t,q⟩:=(show ∃ t,u=Value.int i t from rx);cases q;exact PySem.W.kia_one PySem.W.kitx_int I.kIn True.intro e (λz=>nomatch z) h
 | str y=>obtain ⟨t,q⟩:=(show ∃ t,u=Value.str y t from rx);cases q;exact PySem.W.kia_one PySem.W.kitx_str I.kIn True.intro e (λz=>nomatch z) h
 | flt y=>obtain ⟨t,q⟩:=(show ∃ t,u=Value.float y t from rx);cases q;exact PySem.W.kia_one PySem.W.kitx_float I.kIn True.intro e (λz=>nomatch z) h
 | @lst a xs ea =>
  cases (show u=Value.ref a from rx);obtain ⟨_,_,n,_,h1⟩:=(show ObjOk X.prog X.w H s.heap a (.lst xs) from I.hok a _ ea);exact PySem.W.kia_one PySem.W.kitx_list I.kIn ⟨_,h1,rfl⟩ e (λz=>nomatch z) h
 | @frz a ob xs ea =>
  cases (show u=Value.ref a from rx);obtain ⟨_,_,_,n,_,h1⟩:=(show ObjOk X.prog X.w H s.heap a (.frz ob (.lst xs)) from I.hok a _ ea);exact PySem.W.kia_one PySem.W.kitx_list I.kIn ⟨_,h1,rfl⟩ e (λz=>nomatch z) h
 | @tup a xs ea =>
  cases (show u=Value.ref a from rx);obtain ⟨_,_,_,p⟩:=(show ObjOk X.prog X.w H s.heap a (.tup xs) from I.hok a _ ea);obtain ⟨o,h1,h2,_⟩:=p;exact PySem.W.kia_one PySem.W.kitx_tuple I.kIn ⟨o,h1,h2⟩ e (λz=>nomatch z) h
 | @dK a kvs ea =>
  cases (show u=Value.ref a from rx);obtain ⟨_,_,vs,_,p⟩:=(show ObjOk X.prog X.w H s.heap a (.dK kvs) from I.hok a _ ea);obtain ⟨o,es,ep,h1,h2,_⟩:=p;exact PySem.W.kia_one PySem.W.kitx_dict I.kIn ⟨o,h1,h2.1⟩ e (λz=>nomatch z) h
 | @dT a kvs ea =>
  cases (show u=Value.ref a from rx);obtain ⟨_,_,xs,_,o,es,ep,h1,h2,_⟩:=(show ObjOk X.prog X.w H s.heap a (.dT kvs) from I.hok a _ ea);exact PySem.W.kia_one PySem.W.kitx_dict I.kIn ⟨o,h1,h2.1⟩ e (λz=>nomatch z) h
 | @ins a C dx fs ea cl ha hn htk hm =>
  cases (show u=Value.ref a from rx);obtain ⟨mA,O,_⟩:=XL I.hok ea;obtain ⟨od,J,_⟩:=O.look;exact PySem.W.kia_one (PySem.W.kitx_own (cl.get _) cl.hd ha hn htk hm) I.kIn J e (λz=>nomatch z) h
end
structure Room (k:Nat) (A:Around):Prop where
 hd:A.handled=none
 dp:A.depth+3*k+5<recursionLimit
 un:A.units+16*k+200<cLine
def Room.mono {j k:Nat} {A:Around} (r:Room k A) (h:j<=k):Room j A:=⟨r.hd,by have:=r.dp;omega,by have:=r.un;omega⟩
def Room.deeper {k:Nat} {A:Around} (r:Room (k+1) A) (env:Env):Room k (A.deeper env) :=
 ⟨r.hd,by have:=r.dp;show A.depth+1+3*k+5<_;omega,by have:=r.un;show A.units+3+16*k+200<_;omega⟩
def zex {A:Around} {C:Ad} {us:Je} {kw:List (Str×Vl)}:(A.under (.builtin "type.__call__" ⟨.ref C::us,kw⟩)).depth=A.depth+1:=by
 first | rfl | simp [Around.under,Code.weight,Code.isCreation,Code.isGuard,Code.isCaller,Code.frames,Code.isFrame,guardIds]
def zew {A:Around} {C:Ad} {us:Je} {kw:List (Str×Vl)}:(A.under (.builtin "type.__call__" ⟨.ref C::us,kw⟩)).units=A.units+1:=by
 first | rfl | simp [Around.under,Code.cUnits,Code.frames,Code.isFrame]
def Room.make {k:Nat} {A:Around} (r:Room (k+1) A) (C:Ad) (us:Je) (kw:List (Str×Vl)):Room k (A.under (.builtin "type.__call__" ⟨.ref C::us,kw⟩)) :=
 ⟨r.hd,by have:=r.dp;rw [zex];omega,by have:=r.un;rw [zew];omega⟩
def Room.depth {k:Nat} {A:Around} (r:Room k A):A.depth<recursionLimit:=by have:=r.dp;omega
def Room.units {k:Nat} {A:Around} (r:Room k A):A.units+64<cLine:=by have:=r.un;omega
def tNil:TA:=λ_ H Q=>Q [] H
def tCons (ta:TE) (tr:TA):TA:=λσ H Q=>ta σ H λx H1=>tr σ H1 λxs H2=>Q (x::xs) H2
section
variable {X:Cx} {e:Expr} {es:Ji} {te:TE} {t:TA} {pos:Pos}
def zc:PA X [] tNil:=λ_ _ _ _ H Q I h=>Calls.spliced_nil ⟨[],H,I,.nil,h⟩
def za (ha:PE X e te) (hr:PA X es t) (hs:starEach (e::es) X.env=(false,eval e X.env)::starEach es X.env:=by rfl):PA X (e::es) (tCons te t):=by
 intro pos pins s σ H Q I h;rw [hs];show wpAny _ _ (spliced ((false,eval e X.env)::backTo pos (starEach es X.env))) _ _ s;refine Calls.spliced_cons (thn (ha pins s σ H _ I h) λu s1 ⟨x,H1,I1,r1,q1⟩=>?_);exact thn (hr pos pins s1 σ H1 _ I1 q1) λus s2 ⟨xs,H2,I2,r2,q2⟩=>⟨x::xs,H2,I2,.cons r1 r2,q2⟩
def tTup (t:TA):TE:=λσ H Q=>t σ H λxs H1=>xs.length<=sizeLine/\∀ p,H1 p=none->Q (.ref p) (upd H1 p (.tup xs))
def tLst (t:TA):TE:=λσ H Q=>t σ H λxs H1=>xs.length<=sizeLine/\∀ p,H1 p=none->Q (.ref p) (upd H1 p (.lst xs))
def yG {x1} (h:PA X es t):PE X (.Tuple es x1 pos) (tTup t):=by
 intro pins s σ H Q I hq;refine wpAny_Tuple_spliced (thn (h pos pins s σ H _ I hq) λus s1 ⟨xs,H1,I1,r,z,q⟩=>⟨by rw [← r.length];exact z,?_⟩);have hf:H1 s1.heap.objs.size=none:=I1.hok.fresh (Nat.le_refl _);refine ⟨.ref s1.heap.objs.size,upd H1 s1.heap.objs.size (.tup xs),I1.laid (t':=s1.toks) (λb u e=>Heap.get?_push_of_some _ e) (Nat.le_refl _) ?_,rfl,q _ hf⟩;exact ⟨z,us,r,⟨_,Heap.get?_push_size _ rfl,rfl,_,rfl⟩⟩
def zN (h:PA X es t):PE X (.List es pos) (tLst t):=by
 intro pins s σ H Q I hq;refine wpAny_List_spliced (thn (h pos pins s σ H _ I hq) λus s1 ⟨xs,H1,I1,r,z,q⟩=>⟨by rw [← r.length];exact z,?_⟩);have hf:H1 s1.heap.objs.size=none:=I1.hok.fresh (Nat.le_refl _);refine ⟨.ref s1.heap.objs.size,upd H1 s1.heap.objs.size (.lst xs),I1.laid (t':=s1.toks) (λb u e=>Heap.get?_push_of_some _ e) (Nat.le_refl _) ?_,rfl,q _ hf⟩;exact ⟨z,us,0,r,Heap.get?_push_size _ rfl⟩
end
abbrev Sp:=Jo->Hp->VK->XK->Prop
abbrev CXT:=List Env->Hp->Sh->XK->Ja
structure Env0 (P:Program) (w:World) (K:Fg) (mg:J0) (base:Heap) (A:Around) (outer:List Env) (s:Sh) (H:Hp):Prop where
 frames:A.frames=some outer
 mod:Mod K mg base
 bs:∀ b o,base.get? b=some o->s.heap.get? b=some o/\H b=none
 bsz:base.objs.size<=s.heap.objs.size
 funs:s.heap.FunFrames base outer
 frf:∀ b∈frs outer,H b=none
 hok:HOk P w H s.heap
 bare:AllBare s.gens
def CE (outer:List Env) (P:Program) (w:World) (H:Hp) (s:Sh) (Q:VK) (u:Vl) (s':Sh):Prop :=
 ∃ v H',s'.os=s.os/\AllBare s'.gens/\Un (frs outer) [] H H' s.heap s'.heap/\HOk P w H' s'.heap/\RelV v u/\Q v H'
def CR (CX:CXT) (outer:List Env) (P:Program) (w:World) (H:Hp) (s:Sh) (Q:VK) (E:XK) (r:Result) (s':Sh):Prop :=
 match r with
 | .ok (.ret u)=>CE outer P w H s Q u s'
 | .ok _=>False
 | .error e=>CX outer H s E e s'
structure FnOk (P:Program) (w:World) (K:Fg) (mg:J0) (base:Heap) (CX:CXT) (k:Nat) (f:Ad) (fd:FuncData) (ps:Jg) (sp:Sp):Prop where
 len:∀ vs H Q E,sp vs H Q E->vs.length=ps.length
 run:∀ (A:Around) (outer:List Env) (s:Sh) (H:Hp) (args:Args) (us:Je) (vs:Jo) (Q:VK) (E:XK),Room k A->Env0 P w K mg base A outer s H->BindsTo s fd args (ps.zip us)->Vals vs us->sp vs H Q E ->
  codeAny (model P w) A (.call (.ref f) args) (CR CX outer P w H s Q E) s
def FnOk.mono {P:Program} {w:World} {K:Fg} {mg:J0} {base:Heap} {CX:CXT} {j k:Nat} {f:Ad} {fd:FuncData} {ps:Jg} {sp:Sp} (F:FnOk P w K mg base CX j f fd ps sp) (h:j<=k) :
  FnOk P w K mg base CX k f fd ps sp:=⟨F.len,λA outer s H args us vs Q E hr=>F.run A outer s H args us vs Q E (hr.mono h)⟩
def Env0.make {P:Program} {w:World} {K:Fg} {mg:J0} {base:Heap} {A:Around} {outer:List Env} {s:Sh} {H:Hp} (e:Env0 P w K mg base A outer s H) (C:Ad) (us:Je) (kw:List (Str×Vl)) :
  Env0 P w K mg base (A.under (.builtin "type.__call__" ⟨.ref C::us,kw⟩)) outer s H:=⟨by first | exact e.frames | (simpa [Around.under,Code.envs,Code.isFrame,pushEnvs] using e.frames),e.mod,e.bs,e.bsz,e.funs,e.frf,e.hok,e.bare⟩
section
variable {X:Cx} {pins:Jd} {σ:St} {H:Hp} {s s':Sh}
def Inv.env0 (I:Inv X pins σ H s):Env0 X.prog X.w X.K X.mg X.base X.A X.stack s H :=
 ⟨I.ok.frames,I.ok.mod,I.bs,Nat.le_trans I.ok.bsz I.sz,I.stack,I.stkFree,I.hok,I.bare⟩
def Inv.after {Q:VK} {u:Vl} (I:Inv X pins σ H s) (h:CE X.stack X.prog X.w H s Q u s'):EP X pins σ Q u s':=by
 obtain ⟨v,H',os,bare,un,hok,r,q⟩:=h;obtain ⟨hh,g,d,t,os'⟩:=s';obtain rfl:os'=s.os:=os;exact ⟨v,H',I.call (h':=hh) (g':=g) (d':=d) (t':=t) (ch:=[]) un hok bare (λb z=>absurd z (by simp)),r,q⟩
end
def tCall (sp:Sp) (dvs:Jo) (E:XK) (t:TA):TE:=λσ H Q=>t σ H λvs H1=>sp (vs++dvs) H1 Q E
inductive tMeth_S (C:Ad) (m:Str) (sp:Sp) (dvs:Jo) (E:XK) (t:TA) (σ:St) (Q:VK) (x:V) (H1:Hp):Prop
 | mk (a dx fs:_) (_:x=.ref a) (_:H1 a=some (.ins C dx fs)) (_:fs.lookup m=none) (_:t σ H1 λvs H2=>sp (x::(vs++dvs)) H2 Q E)
def tMeth (C:Ad) (m:Str) (sp:Sp) (dvs:Jo) (E:XK) (ta:TE) (t:TA):TE:=λσ H Q=>ta σ H λx H1=>tMeth_S C m sp dvs E t σ Q x H1
def tMake (C:Ad) (sp:Sp) (dvs:Jo) (E:XK) (t:TA):TE:=λσ H Q=>t σ H λvs H1=>∀ x dx,H1 x=none->H1 dx=none->dx≠x ->
 sp (.ref x::(vs++dvs)) (upd (upd H1 dx (.own x)) x (.ins C dx [])) (λv H2=>v=.non/\Q (.ref x) H2) E
def Binds (K:Fg) (fd:FuncData) (ps:Jg) (ds:Je):Prop :=
 ∀ (s:Sh) (us:Je),K.In s.heap->(us++ds).length=ps.length->BindsTo s fd ⟨us,[]⟩ (ps.zip (us++ds))
def Binds.all {K:Fg} {fd:FuncData} {ps:Jg} (h:∀ us:Je,us.length=ps.length->bindArgs fd ⟨us,[]⟩=pure (ps.zip us)):Binds K fd ps []:=λs us _ hl=>by
 rw [q3y] at hl ⊢;exact .of_eq (h us hl)
def xk (CX:CXT) (X:Cx) (E:XK):Prop:=∀ (pins:Jd) (σ:St) (H:Hp) (s:Sh) (e:Vl) (s':Sh),Inv X pins σ H s->CX X.stack H s E e s'->X.xe e s'
section
variable {X:Cx} {CX:CXT} {k:Nat} {f C:Ad} {fd:FuncData} {ps:Jg} {sp:Sp} {dvs:Jo} {ds:Je} {E:XK} {x m:Str} {p pos apos:Pos} {e o:Expr} {es:Ji} {ta:TE} {t:TA}
def zcj {pins:Jd} {σ:St} {H:Hp} {s:Sh} {Q:VK} {us:Je} {vs:Jo} (F:FnOk X.prog X.w X.K X.mg X.base CX k f fd ps sp) (hr:Room k X.A) (hb:Binds X.K fd ps ds) (hd:Vals dvs ds) (hx:xk CX X E)
  (I:Inv X pins σ H s) (r:Vals vs us) (h:sp (vs++dvs) H Q E):wpAny (model X.prog X.w) X.A (call (.ref f) us) (EP X pins σ Q) X.xe s:=by
 have r2:Vals (vs++dvs) (us++ds):=r.append hd;have hl:(us++ds).length=ps.length:=by rw [← r2.length];exact F.len _ _ _ _ h
 refine wpAny_call (codeAny_mono (F.run X.A X.stack s H ⟨us,[]⟩ (us++ds) (vs++dvs) Q E hr I.env0 (hb s us I.kIn hl) r2 h) λr s' hq=>?_)
 cases r with
 | error e=>exact hx pins σ H s e s' I hq
 | ok fl =>
  cases fl with
  | ret u=>exact I.after hq
  | next=>exact False.elim hq
  | brk=>exact False.elim hq
  | cont=>exact False.elim hq
def pe_call (F:FnOk X.prog X.w X.K X.mg X.base CX k f fd ps sp) (hr:Room k X.A) (hg:Gl X x) (hm:X.mg x=some (.ref f)) (hk:PySem.W.keepIn X.K (.ref f)=true) (hb:Binds X.K fd ps ds) (hd:Vals dvs ds) (hx:xk CX X E)
  (ha:PA X (e::es) t) (hdb:(x == ("__debug__":Str))=false:=by decide) (he:starEach (e::es) X.env=(false,eval e X.env)::starEach es X.env:=by rfl) (hpl:(backTo pos (starEach es X.env)).any (·.1)=false:=by rfl) :
  PE X (.Call (.Name x p) (e::es) [] pos) (tCall sp dvs E t):=by
 intro pins s σ H Q I h;refine wpAny_Call_Name_kw (YC I hg hm ?_ hdb);refine PySem.W.callWith_K (h₀:=X.base) I.ok.mod.kin hk (thn (ha pos pins s σ H _ I h) λus s1 ⟨vs,H1,I1,r,q⟩=>⟨I1.kIn,?_⟩) he hpl;exact zcj F hr hb hd hx I1 r q
def pe_call0 (F:FnOk X.prog X.w X.K X.mg X.base CX k f fd ps sp) (hr:Room k X.A) (hg:Gl X x) (hm:X.mg x=some (.ref f)) (hk:PySem.W.keepIn X.K (.ref f)=true) (hb:Binds X.K fd ps ds) (hd:Vals dvs ds) (hx:xk CX X E)
  (hdb:(x == ("__debug__":Str))=false:=by decide):PE X (.Call (.Name x p) [] [] pos) (tCall sp dvs E tNil):=by
 intro pins s σ H Q I h;refine wpAny_Call_Name_kw (YC I hg hm ?_ hdb);exact PySem.W.callWith_K0 I.kIn hk (zcj (us:=[]) F hr hb hd hx I .nil h)
def pe_meth0 {pl:Sem Bool} (he:PE X o ta) (c:Cls X.K C) (hm:Meth X.K C m f) (F:FnOk X.prog X.w X.K X.mg X.base CX k f fd ps sp) (hr:Room k X.A) (hb:Binds X.K fd ps ds) (hd:Vals dvs ds) (hx:xk CX X E)
  (ht:eval (.Call (.Attribute o m apos) [] [] pos) X.env=(do
   let ov ← eval o X.env
   standAt apos.atName
   let (f,first) ← holding [ov] (getMethod ov m pl)
   callWith pos f first (backTo pos (starEach [] X.env)) (backToKw pos (keywordEach [] X.env))):=by rfl) :
  PE X (.Call (.Attribute o m apos) [] [] pos) (tMeth C m sp dvs E ta tNil):=by
 intro pins s σ H Q I h;refine PySem.W.methodCall_KW (pl:=pl) (thn (he pins s σ H _ I h) λu s1 ⟨x,H1,I1,rx,a,dx,fs,ex,ea,l,q⟩=>?_) ht;subst ex;obtain rfl:u=Value.ref a:=rx;refine zey I1 ea c hm l ?_;exact PySem.W.callWith_K0 (first:=[.ref a]) I1.kIn hm.kp (zcj (us:=[.ref a]) (vs:=[.ref a]) F hr hb hd hx I1 (.cons rfl .nil) q)
structure Mk (K:Fg) (C f:Ad):Prop where
 makes:PySem.W.makesIn K C=true
 init:PySem.W.findIn K (.ref C) "__init__"=some (some (.ref f))
 fn:PySem.W.isFn K (.ref f)=true
 kp:PySem.W.keepIn K (.ref C)=true
def zde {pins:Jd} {σ:St} {H:Hp} {s:Sh} {Q:VK} {us:Je} {vs:Jo} (M:Mk X.K C f) (F:FnOk X.prog X.w X.K X.mg X.base CX k f fd ps sp) (hr:Room (k+1) X.A) (hb:Binds X.K fd ps ds) (hd:Vals dvs ds)
  (hx:xk CX X E) (I:Inv X pins σ H s) (r:Vals vs us)
  (h:∀ x dx,H x=none->H dx=none->dx≠x->sp (.ref x::(vs++dvs)) (upd (upd H dx (.own x)) x (.ins C dx [])) (λv H2=>v=.non/\Q (.ref x) H2) E) :
  wpAny (model X.prog X.w) X.A (call (.ref C) us) (EP X pins σ Q) X.xe s:=by
 have hq:=h (s.heap.objs.size+1) s.heap.objs.size (I.hok.fresh (Nat.le_succ _)) (I.hok.fresh (Nat.le_refl _)) (Nat.ne_of_lt (Nat.lt_succ_self _));have I2:=Inv.made (C:=C) I;have r2:Vals (V.ref (s.heap.objs.size+1)::(vs++dvs)) (Value.ref (s.heap.objs.size+1)::(us++ds)):=.cons rfl (r.append hd)
 have hl:(Value.ref (s.heap.objs.size+1)::us++ds).length=ps.length:=by
  have e:=r2.length;rw [F.len _ _ _ _ hq] at e;exact e.symm
 refine wpAny_call (make_map (f:=f) I.kIn M.makes M.init (beq_iff_eq.mp M.fn) (codeAny_mono (F.run _ X.stack _ _ ⟨Value.ref (s.heap.objs.size+1)::us,[]⟩ (Value.ref (s.heap.objs.size+1)::(us++ds)) _ _ E (hr.make C us [])
  (I2.env0.make C us []) (hb _ (Value.ref (s.heap.objs.size+1)::us) I2.kIn hl) r2 hq) λr s' hq'=>?_))
 cases r with
 | error e=>exact hx pins σ _ _ e s' I2 hq'
 | ok fl =>
  cases fl with
  | ret u =>
   obtain ⟨v,H',I3,rv,ev,q3⟩:=I2.after hq';subst ev;exact ⟨rv,⟨V.ref (s.heap.objs.size+1),H',I3,rfl,q3⟩⟩
  | next=>exact False.elim hq'
  | brk=>exact False.elim hq'
  | cont=>exact False.elim hq'
def pe_make (M:Mk X.K C f) (F:FnOk X.prog X.w X.K X.mg X.base CX k f fd ps sp) (hr:Room (k+1) X.A) (hg:Gl X x) (hm:X.mg x=some (.ref C)) (hb:Binds X.K fd ps ds) (hd:Vals dvs ds) (hx:xk CX X E)
  (ha:PA X (e::es) t) (hdb:(x == ("__debug__":Str))=false:=by decide) (he:starEach (e::es) X.env=(false,eval e X.env)::starEach es X.env:=by rfl) (hpl:(backTo pos (starEach es X.env)).any (·.1)=false:=by rfl) :
  PE X (.Call (.Name x p) (e::es) [] pos) (tMake C sp dvs E t):=by
 intro pins s σ H Q I h;refine wpAny_Call_Name_kw (YC I hg hm ?_ hdb);refine PySem.W.callWith_K (h₀:=X.base) I.ok.mod.kin M.kp (thn (ha pos pins s σ H _ I h) λus s1 ⟨vs,H1,I1,r,q⟩=>⟨I1.kIn,?_⟩) he hpl;exact zde M F hr hb hd hx I1 r q
def pe_make0 (M:Mk X.K C f) (F:FnOk X.prog X.w X.K X.mg X.base CX k f fd ps sp) (hr:Room (k+1) X.A) (hg:Gl X x) (hm:X.mg x=some (.ref C)) (hb:Binds X.K fd ps ds) (hd:Vals dvs ds) (hx:xk CX X E)
  (hdb:(x == ("__debug__":Str))=false:=by decide):PE X (.Call (.Name x p) [] [] pos) (tMake C sp dvs E tNil):=by
 intro pins s σ H Q I h;refine wpAny_Call_Name_kw (YC I hg hm ?_ hdb);exact PySem.W.callWith_K0 I.kIn M.kp (zde (us:=[]) M F hr hb hd hx I .nil h)
end
def PK (X:Cx) (kws:List Keyword) (t:TA):Prop :=
 ∀ (pos:Pos) (pins:Jd) (s:Sh) (σ:St) (H:Hp) (Q:Jo->Hp->Prop),Inv X pins σ H s->t σ H Q->wpAny (model X.prog X.w) X.A (evalAll ((backToKw pos (keywordEach kws X.env)).map (·.2))) (AP X pins σ Q) X.xe s
section
variable {X:Cx} {CX:CXT} {k:Nat} {f C:Ad} {fd:FuncData} {ps ks:Jg} {sp:Sp} {E:XK} {x m:Str} {p pos apos kpos:Pos} {e o:Expr} {es:Ji} {kws:List Keyword} {te ta:TE} {t tk:TA} {nm:Option Str}
def pk_nil:PK X [] tNil:=λ_ _ _ _ H Q I h=>wpAny_evalAll_nil ⟨[],H,I,.nil,h⟩
def pk_cons (ha:PE X e te) (hr:PK X kws t):PK X (⟨nm,e,kpos⟩::kws) (tCons te t):=by
 intro pos pins s σ H Q I h;show wpAny _ _ (evalAll ((do let v ← eval e X.env;standAt pos;pure v)::(backToKw pos (keywordEach kws X.env)).map (·.2))) _ _ s;refine wpAny_evalAll_cons (q0x (thn (ha pins s σ H _ I h) λu s1 ⟨x,H1,I1,r1,q1⟩=>q0x (wpAny_standAt (q0y ?_))));exact thn (hr pos pins s1 σ H1 _ I1 q1) λus s2 ⟨xs,H2,I2,r2,q2⟩=>⟨x::xs,H2,I2,.cons r1 r2,q2⟩
structure KBinds (K:Fg) (fd:FuncData) (ps ks:Jg) (g:Je->Je->Je) (gV:Jo->Jo->Jo):Prop where
 to:∀ (s:Sh) (us ws:Je),K.In s.heap->(g us ws).length=ps.length->BindsTo s fd ⟨us,ks.zip ws⟩ (ps.zip (g us ws))
 rel:∀ {vs:Jo} {us:Je} {zs:Jo} {ws:Je},Vals vs us->Vals zs ws->Vals (gV vs zs) (g us ws)
variable {g:Je->Je->Je} {gV:Jo->Jo->Jo}
end
structure FnScope (N P:Jg) (sc:Scope):Prop where
 kind:sc.kind=.function
 co:sc.isCoroutine=false
 gen:sc.isGenerator=false
 nd:N.Nodup
 pre:N.take P.length=P
 par:∀ x∈P,sc.names.lookup x=some .local∨sc.names.lookup x=some .cell
 nofree:∀ y∈sc.names,y.2≠.free
theorem zb3 {kindOf:Str->Option NameKind} {x:Str}:∀ {binds:List (Str×Vl)} {m:J0},(∀ v,(x,v) ∉ binds)->bindL kindOf binds m x=m x
 | [],_,_=>rfl
 | (n,v)::r,m,h=>by
  unfold bindL;rw [zb3 λw hw=>h w (q1y _ hw)]
  split
  ·have:x≠n:=by rintro rfl;exact h v q1z
   simp [this]
  ·rfl
theorem zb5 {kindOf:Str->Option NameKind} {x:Str}:∀ {binds:List (Str×Vl)} {m:J0},(∀ v,(x,v) ∉ binds)->bindC kindOf binds m x=m x
 | [],_,_=>rfl
 | (n,v)::r,m,h=>by
  unfold bindC;rw [zb5 λw hw=>h w (q1y _ hw)]
  split
  ·rfl
  ·have:x≠n:=by rintro rfl;exact h v q1z
   simp [this]
theorem zb4 {kindOf:Str->Option NameKind} {x:Str} {v:Vl}:∀ {P:Jg} {vs:Je} {i:Nat} {m:J0},P.Nodup->P[i]?=some x->vs[i]?=some v->kindOf x=some .local ->
  bindL kindOf (P.zip vs) m x=some v
 | [],_,_,_,_,h,_,_=>by simp at h
 | _::_,[],_,_,_,_,h,_=>by simp at h
 | p::P,w::vs,0,m,nd,h1,h2,hk=>by
  simp at h1 h2;subst h1;subst h2;show bindL kindOf ((p,w)::P.zip vs) m p=_;unfold bindL;rw [zb3 λv hv=>(List.nodup_cons.mp nd).1 (List.of_mem_zip hv).1,if_pos hk];simp
 | p::P,w::vs,i+1,m,nd,h1,h2,hk=>by
  show bindL kindOf ((p,w)::P.zip vs) m x=_;unfold bindL;exact zb4 (i:=i) (List.nodup_cons.mp nd).2 (by simpa using h1) (by simpa using h2) hk
theorem zb6 {kindOf:Str->Option NameKind} {x:Str} {v:Vl}:∀ {P:Jg} {vs:Je} {i:Nat} {m:J0},P.Nodup->P[i]?=some x->vs[i]?=some v->kindOf x≠some .local ->
  bindC kindOf (P.zip vs) m x=some v
 | [],_,_,_,_,h,_,_=>by simp at h
 | _::_,[],_,_,_,_,h,_=>by simp at h
 | p::P,w::vs,0,m,nd,h1,h2,hk=>by
  simp at h1 h2;subst h1;subst h2;show bindC kindOf ((p,w)::P.zip vs) m p=_;unfold bindC;rw [zb5 λv hv=>(List.nodup_cons.mp nd).1 (List.of_mem_zip hv).1,if_neg hk];simp
 | p::P,w::vs,i+1,m,nd,h1,h2,hk=>by
  show bindC kindOf ((p,w)::P.zip vs) m x=_;unfold bindC;exact zb6 (i:=i) (List.nodup_cons.mp nd).2 (by simpa using h1) (by simpa using h2) hk
def start (N:Jg) (vs:Jo):St:=vs.map some++List.replicate (N.length-vs.length) none
def ZR (CX:CXT) (P:Program) (w:World) (K:Fg) (mg:J0) (base:Heap) (N:Jg) (qual:Str) (scope:Scope) (f:Ad) (cd:Vl) (A:Around) (outer:List Env) (s:Sh) (H:Hp) (E:XK):Cx where
 prog:=P
 w:=w
 K:=K
 mg:=mg
 base:=base
 A:=A.deeper (envOfC qual scope s.heap.objs.size f cd)
 N:=N
 s₀:=s
 H₀:=H
 env:=envOfC qual scope s.heap.objs.size f cd
 outer:=outer
 stack:=envOfC qual scope s.heap.objs.size f cd::outer
 ex:=[]
 calm:=true
 fn:=λ_=>true
 pn:=[]
 xe:=λe s'=>wpAny (model P w) (A.deeper (envOfC qual scope s.heap.objs.size f cd)) (leaving (envOfC qual scope s.heap.objs.size f cd) e) (λ_ s''=>CX outer H s E e s'') (λe' s''=>CX outer H s E e' s'') s'
def zd9 {sc:Scope} {n:Nat} {x:Str} (h:sc.names.lookup x=some .cell):∃ c,(cellsFrom n sc.names []).lookup x=some c:=by
 have q:=PySem.W.cellsFrom_some sc.names n [] (.inl h);exact Option.isSome_iff_exists.mp q
def zbo {CX:CXT} {P:Program} {w:World} {K:Fg} {mg:J0} {base:Heap} {N ps:Jg} {qual:Str} {scope:Scope} {f:Ad} {cd:Vl} {A:Around} {outer:List Env} {s s1:Sh} {H:Hp} {E:XK} {us:Je} {vs:Jo}
  (S:FnScope N ps scope) (hd:A.handled=none) (e0:Env0 P w K mg base A outer s H) (hl:vs.length=ps.length) (r:Vals vs us)
  (x:InCallC s s.heap.objs.size (bindL (envOfC qual scope s.heap.objs.size f cd).kindOf (ps.zip us) λ_=>none) (cellsFrom (s.heap.objs.size+1) scope.names []) (bindC (envOfC qual scope s.heap.objs.size f cd).kindOf (ps.zip us) λ_=>none) s1) :
  Inv (ZR CX P w K mg base N qual scope f cd A outer s H E) [] (start N vs) H s1:=by
 have hpl:ps.length<=N.length:=by have:=congrArg List.length S.pre;rw [List.length_take] at this;omega
 obtain ⟨h1,tk,rfl,hk⟩:=x.done;have noA:∀ b:Ad,b ∉ (ZR CX P w K mg base N qual scope f cd A outer s H E).ex:=λb z=>absurd (show b∈([]:Jh) from z) (by simp)
 refine ⟨⟨e0.mod,S.kind,rfl,rfl,Nat.le_refl _,λy z c h1 h2=>?_,λy hy=>?_,λy c _ h=>?_,λ_=>hd,Around.frames_deeper e0.frames,.inr ⟨rfl,rfl⟩,λb z=>absurd z (noA b),e0.bs,e0.bsz,λb _ _=>noA b,λb z=>absurd z (noA b),e0.funs,e0.frf⟩,
  rfl,e0.bare,Un.kept hk,⟨_,x.toInCall.ns,λi y v h1 h2 h3=>?_⟩,λy c h=>⟨_,x.cell y c h⟩,e0.hok.fresh (Nat.le_refl _),λy c h=>?_,λp hp=>absurd (show p∈([]:Jd) from hp) (by simp),e0.hok.kept hk,?_⟩
 ·exact name_of_addr x.apart (PySem.mem_of_lookup h1) (PySem.mem_of_lookup h2)
 ·have hy:scope.names.lookup y=some .cell∨scope.names.lookup y=some .free:=hy
  rcases hy with hy | hy
  ·exact zd9 hy
  ·exact absurd rfl (S.nofree _ (PySem.mem_of_lookup hy))
 ·exact Nat.le_of_lt (x.above y c (PySem.mem_of_lookup h))
 ·have hi:i<vs.length:=by
   unfold start at h2;by_cases hi:i<vs.length
   ·exact hi
   ·rw [List.getElem?_append_right (by simpa using hi)] at h2
    rw [List.getElem?_replicate] at h2
    split at h2 <;> cases h2
  have ha:vs[i]?=some v:=by
   unfold start at h2;rw [q3z (by simpa using hi),List.getElem?_map] at h2
   cases e:vs[i]? with
   | none=>rw [e] at h2;cases h2
   | some a=>rw [e] at h2;cases h2;rfl
  obtain ⟨u,hu,rv⟩:=r.get ha
  have hp:ps[i]?=some y:=by
   rw [← S.pre,List.getElem?_take_of_lt (by omega)];exact h1
  have ndP:ps.Nodup:=by rw [← S.pre];exact S.nd.sublist (List.take_sublist _ _)
  refine ⟨u,rv,?_⟩;rcases S.par y (List.mem_of_getElem? hp) with k | k
  ·exact .inl ⟨k,zb4 ndP hp hu k⟩
  ·obtain ⟨c,e⟩:=zd9 (n:=s.heap.objs.size+1) k
   refine .inr ⟨.inl k,c,e,?_⟩;have q:=x.cell y c e;rw [zb6 ndP hp hu (by show scope.names.lookup y≠_;rw [k];decide)] at q;exact q
 ·exact e0.hok.fresh (Nat.le_of_lt (x.above y c (PySem.mem_of_lookup h)))
 ·unfold start
  show _=N.length;rw [Jk,Jj,List.length_replicate];omega
def fn_of {CX:CXT} {P:Program} {w:World} {K:Fg} {mg:J0} {base:Heap} {k:Nat} {f:Ad} {name qual:Str} {params:Arguments} {body:List Stmt} {scope:Scope} {dV kV doc pm cdv ct oc:Vl} {an od:Option Ad}
  {osl:Array (Jf)} {N ps:Jg} {sp:Sp} (lk:K.lookup f=some ⟨oc,od,.func (PySem.W.fnOf name qual params body scope dV kV doc pm an cdv ct),osl⟩) (hcd:PySem.W.codeIn K cdv qual=true) (S:FnScope N ps scope)
  (len:∀ vs H Q E,sp vs H Q E->vs.length=ps.length)
  (hbody:∀ (A:Around) (outer:List Env) (s:Sh) (H:Hp) (vs:Jo) (Q:VK) (E:XK),Room k (A.deeper (envOfC qual scope s.heap.objs.size f cdv))->sp vs H Q E ->
   ∃ t,PSs (ZR CX P w K mg base N qual scope f cdv A outer s H E) body t/\t { nx:=λ_ H'=>Q .non H',rt:=Q } (start N vs) H) :
  FnOk P w K mg base CX (k+1) f (PySem.W.fnOf name qual params body scope dV kV doc pm an cdv ct) ps sp:=by
 refine ⟨len,λA outer s H args us vs Q E hr e0 hb r hsp=>?_⟩;have hl:=len _ _ _ _ hsp;have KX:K.In s.heap:=e0.mod.kin.keeps λb o e=>(e0.bs b o e).1;have lim:s.heap.NoLimit:=e0.mod.nolimit.keeps λb o e=>(e0.bs b o e).1
 have hkind:∀ y∈ps.zip us,scope.names.lookup y.1=some .local∨(scope.names.lookup y.1=some .cell/\((cellsFrom (s.heap.objs.size+1) scope.names []).lookup y.1).isSome=true):=λ⟨n,v⟩ hy=>by
  rcases S.par n (List.of_mem_zip hy).1 with q | q
  ·exact .inl q
  ·exact .inr ⟨q,PySem.W.cellsFrom_some _ _ _ (.inl q)⟩
 refine codeAny_call_function hr.depth (KX _ _ lk) rfl S.co S.gen rfl (PySem.W.codeRec_of KX hcd) (hb _ _ _ _ ?_);refine wpAny_newFunctionEnv_cells S.kind hkind λenv he s1 x=>?_;subst he;refine ⟨lim.keeps x.toInCall.keep,codeAny_func ?_⟩;obtain ⟨t,ht,hq⟩:=hbody A outer s H vs Q E (hr.deeper _) hsp;have I:Inv (ZR CX P w K mg base N qual scope f cdv A outer s H E) [] (start N vs) H s1:=zbo S hr.hd e0 hl r x;refine wpAny_mono (ht [] s1 (start N vs) H _ I hq) (λfl s' hs=>?_) λe s' hs=>hs
 have fin:∀ {σ':St} {H':Hp} {v:V} {u:Vl},Inv (ZR CX P w K mg base N qual scope f cdv A outer s H E) [] σ' H' s'->RelV v u->Q v H'->CE outer P w H s Q u s' :=
  λ{σ' H' v u} J rv q=>⟨v,H',J.os,J.bare,J.base,J.hok,rv,q⟩
 cases fl with
 | ret u =>
  obtain ⟨v,σ',H',J,rv,q⟩:=hs;exact fin J rv q
 | next =>
  obtain ⟨σ',H',J,q⟩:=hs;exact fin (v:=V.non) (u:=Value.none) J rfl q
 | brk =>
  obtain ⟨_,_,_,q⟩:=hs;exact False.elim q
 | cont =>
  obtain ⟨_,_,_,q⟩:=hs;exact False.elim q
section
variable {X:Cx} {x:Str} {p pos:Pos} {e:Expr} {es:Ji} {t:TA} {id T:String} {r:Jo->Hp->VK->Prop}
def tCB (r:Jo->Hp->VK->Prop) (t:TA):TE:=λσ H Q=>t σ H λvs H1=>r vs H1 Q
def zf (hc:Zy X (.builtin id) r) (hg:Gl X x) (hm:X.mg x=none) (hv:bootBuiltins x=some (.builtin id)) (ha:PA X (e::es) t) (hn:x≠"__name__":=by decide) (hdb:(x == ("__debug__":Str))=false:=by decide)
  (he:starEach (e::es) X.env=(false,eval e X.env)::starEach es X.env:=by rfl) (hpl:(backTo pos (starEach es X.env)).any (·.1)=false:=by rfl):PE X (.Call (.Name x p) (e::es) [] pos) (tCB r t):=by
 intro pins s σ H Q I h;refine wpAny_Call_Name_kw (zag I hg hm hv ?_ hn hdb);exact PyProof.Rows.callWith_builtin1 (thn (ha pos pins s σ H _ I h) λus s1 ⟨vs,H1,I1,r1,q1⟩=>hc pins s1 σ H1 vs us Q I1 r1 q1) he hpl
def yH (hc:Zy X (.type T) r) (hg:Gl X x) (hm:X.mg x=none) (hv:bootBuiltins x=some (.type T)) (ha:PA X (e::es) t) (hn:x≠"__name__":=by decide) (hdb:(x == ("__debug__":Str))=false:=by decide)
  (he:starEach (e::es) X.env=(false,eval e X.env)::starEach es X.env:=by rfl) (hpl:(backTo pos (starEach es X.env)).any (·.1)=false:=by rfl):PE X (.Call (.Name x p) (e::es) [] pos) (tCB r t):=by
 intro pins s σ H Q I h;refine wpAny_Call_Name_kw (zag I hg hm hv ?_ hn hdb);exact PyProof.Rows.callWith_type1 (thn (ha pos pins s σ H _ I h) λus s1 ⟨vs,H1,I1,r1,q1⟩=>hc pins s1 σ H1 vs us Q I1 r1 q1) he hpl
end
end L2
namespace HT
open PySem PyProof.Rows
def lexLt:Jc->Jc->Bool
 | [],[]=>false
 | [],_::_=>true
 | _::_,[]=>false
 | x::xs,y::ys=>if x=y then lexLt xs ys else decide (x<y)
section
open PySem.SeqAt
open PySem.AutoSeq1 (wpAny_loadPart')
open PySem.MeetsSeq PySem.MeetsSeq2 PySem.MeetsSeq3
end
section
variable {prog:Program} {w:World} {A:Around} {E:Ja} {s:Sh}
def sIx (n d:Nat):Option Int->Nat
 | none=>d
 | some v=>if v<0 then (v+(n:Int)).toNat else min v.toNat n
def sIx_none (n d:Nat):sIx n d none=d:=rfl
end
end HT
namespace L2
open PySem PySem.Spec PyProof.Rows
abbrev TO:=St->Hp->(Option Int->Hp->Prop)->Prop
def PO (X:Cx) (e:Option Expr) (t:TO):Prop :=
 ∀ (pins:Jd) (s:Sh) (σ:St) (H:Hp) (Q:Option Int->Hp->Prop),Inv X pins σ H s->t σ H Q ->
  wpAny (model X.prog X.w) X.A (evalPart e X.env) (λu s'=>∃ o H',Inv X pins σ H' s'/\IsPart u o/\Q o H') X.xe s
def tNoPart:TO:=λ_ H Q=>Q none H
inductive tPart_S (Q:(Option Int->Hp->Prop)) (x:V) (H1:Hp):Prop
 | mk (i:_) (_:x=.int i) (_:Q (some i) H1)
def tPart (t:TE):TO:=λσ H Q=>t σ H λx H1=>tPart_S Q x H1
section
variable {X:Cx} {e:Expr} {te:TE} {lo hi:Option Expr} {tl th:TO} {pos p2:Pos}
def xY:PO X none tNoPart:=by
 intro pins s σ H Q I h;rw [evalPart_none];exact q0y ⟨none,H,I,.none,h⟩
def xX (h:PE X e te):PO X (some e) (tPart te):=by
 intro pins s σ H Q I hw;rw [evalPart_some];refine thn (h pins s σ H _ I hw) λu s1 ⟨x,H1,I1,r1,q1⟩=>?_;obtain ⟨i,rfl,q⟩:=q1;obtain ⟨t,rfl⟩:=r1;exact ⟨some i,H1,I1,.int i t,q⟩
def SlR (X:Cx) (r:V->Option Int->Option Int->Hp->VK->Prop):Prop :=
 ∀ (pins:Jd) (s:Sh) (σ:St) (H:Hp) (x:V) (v vl vu:Vl) (lo hi:Option Int) (sl:Ad) (Q:VK),Inv X pins σ H s->RelV x v->s.heap.IsSliceOf sl vl vu .none->IsPart vl lo->IsPart vu hi->r x lo hi H Q ->
  ∃ T id,typeLookup (.type T) "__getitem__"=pure (some (.builtin id))/\s.TypeIs v T/\wpAny (model X.prog X.w) X.A (getItem v (.ref sl)) (EP X pins σ Q) X.xe s
def tSl (r:V->Option Int->Option Int->Hp->VK->Prop) (te:TE) (tl th:TO):TE:=λσ H Q=>te σ H λx H1=>tl σ H1 λl H2=>th σ H2 λu H3=>r x l u H3 Q
def y9 {r:V->Option Int->Option Int->Hp->VK->Prop} (hr:SlR X r) (he:PE X e te) (hl:PO X lo tl) (hu:PO X hi th):PE X (.Subscript e (.Slice lo hi none p2) pos) (tSl r te tl th):=by
 intro pins s σ H Q I h;refine Subscript_ (thn (he pins s σ H _ I h) λv s1 ⟨x,H1,I1,r1,q1⟩=>?_);refine wpAny_Slice (thn (hl pins s1 σ H1 _ I1 q1) λvl s2 ⟨l,H2,I2,pl,q2⟩=>thn (hu pins s2 σ H2 _ I2 q2) λvu s3 ⟨u,H3,I3,pu,q3⟩=>?_);rw [evalPart_none];refine q0y ?_;have I4:Inv X pins σ H3 { s3 with heap:=s3.heap.push { cls:=.type "slice",data:=.fields #[vl,vu,.none] } }:=I3.kept (t':=s3.toks) λb ob q=>Heap.get?_push_of_some _ q;obtain ⟨T,id,hT,ht,hg⟩:=hr pins { s3 with heap:=s3.heap.push { cls:=.type "slice",data:=.fields #[vl,vu,.none] } } σ H3 x v vl vu l u s3.heap.objs.size Q I4 r1 (Heap.IsSliceOf.new ..) pl pu q3;show wpAny (model X.prog X.w) X.A (subscriptTail e (.Slice lo hi none p2) v (.ref s3.heap.objs.size)) (EP X pins σ Q) X.xe { s3 with heap:=s3.heap.push { cls:=.type "slice",data:=.fields #[vl,vu,.none] } };exact tail_any (ops:=[.ref s3.heap.objs.size,v]) ht hT hg (by with_unfolding_all rfl)
def cutV (xs:Jo) (lo hi:Option Int):Jo:=(xs.drop (HT.sIx xs.length 0 lo)).take (HT.sIx xs.length xs.length hi-HT.sIx xs.length 0 lo)
def zd6 (xs:Jo) (lo hi:Option Int):(cutV xs lo hi).length<=xs.length:=by
 unfold cutV;rw [List.length_take,List.length_drop];omega
end
def ixN (n:Nat) (i:Int):Option Nat:=if 0<=i then (if i<n then some i.toNat else none) else if -(n:Int)<=i then some (i+n).toNat else none
def atI {α:Type} (xs:List α) (i:Int):Option α:=(ixN xs.length i).bind λj=>xs[j]?
def ixN_seq {n:Nat} {i:Int} {j:Nat} (h:ixN n i=some j):seqIndex? i n=some j/\j<n/\-(n:Int)<=i/\i<n:=by
 unfold ixN at h;by_cases h0:0<=i
 ·rw [if_pos h0] at h
  by_cases h1:i<n
  ·rw [if_pos h1] at h
   have e:i.toNat=j:=Option.some.inj h;exact ⟨by rw [seqIndex_of h0 h1,e],by omega,by omega,h1⟩
  ·rw [if_neg h1] at h;cases h
 ·rw [if_neg h0] at h
  by_cases h1:-(n:Int)<=i
  ·rw [if_pos h1] at h
   have e:(i+n).toNat=j:=Option.some.inj h;exact ⟨by rw [seqIndex_neg (by omega) h1,e],by omega,h1,by omega⟩
  ·rw [if_neg h1] at h;cases h
def zc9 {α:Type} {xs:List α} {i:Int} {v:α} (h:atI xs i=some v):∃ j,seqIndex? i xs.length=some j/\xs[j]?=some v/\j<xs.length/\-(xs.length:Int)<=i/\i<xs.length:=by
 unfold atI at h
 cases e:ixN xs.length i with
 | none=>rw [e] at h;cases h
 | some j =>
  rw [e] at h;obtain ⟨h1,h2,h3,h4⟩:=ixN_seq e;exact ⟨j,h1,h,h2,h3,h4⟩
def zQ {α:Type} {xs:List α} {j:Nat} {v:α} (h:xs[j]?=some v):atI xs (j:Int)=some v:=by
 have hj:j<xs.length:=(List.getElem?_eq_some_iff.mp h).1
 have e:ixN xs.length (j:Int)=some j:=by
  unfold ixN;rw [if_pos (by omega),if_pos (by omega)];simp
 unfold atI;rw [e];exact h
def zap {α:Type} (xs:List α) (v:α):atI (xs++[v]) (-1)=some v:=by
 have hl:(xs++[v]).length=xs.length+1:=by simp
 have e:ixN (xs++[v]).length (-1)=some xs.length:=by
  unfold ixN;rw [hl,if_neg (by decide),if_pos (by omega)];congr 1;omega
 unfold atI;rw [e];show (xs++[v])[xs.length]?=some v;simp
def PlainIx (b:Expr):Prop:=∀ o i,subscripted b false o i=operate [o,i] (getItem o i)
def IxR (X:Cx) (r:R2):Prop :=
 ∀ (value slice:Expr) (pins:Jd) (s:Sh) (σ:St) (H:Hp) (x y:V) (v u:Vl) (Q:VK),Inv X pins σ H s->RelV x v->RelV y u->r x y H Q ->
  subscripted slice false v u=operate [v,u] (getItem v u)->wpAny (model X.prog X.w) X.A (subscriptTail value slice v u) (EP X pins σ Q) X.xe s
def MtR (X:Cx) (id:String) (r:V->Jo->Hp->VK->Prop):Prop :=
 ∀ (pins:Jd) (s:Sh) (σ:St) (H:Hp) (x:V) (xs:Jo) (v:Vl) (us:Je) (Q:VK),Inv X pins σ H s->RelV x v->Vals xs us->r x xs H Q ->
  wpAny (model X.prog X.w) X.A (call (.builtin id) (v::us)) (EP X pins σ Q) X.xe s
section
variable {X:Cx} {a b:Expr} {ta tb:TE} {pos:Pos}
def zn {r:R2} (hr:IxR X r) (ha:PE X a ta) (hb:PE X b tb) (hs:PlainIx b):PE X (.Subscript a b pos) (tOp r ta tb):=by
 intro pins s σ H Q I h;exact Subscript_ (binT ha hb I h λv u s2 x y H2 I2 rx ry q=>hr a b pins s2 σ H2 x y v u Q I2 rx ry q (hs _ _))
inductive rIxL (K:Fg) (x y:V) (H:Hp) (Q:VK):Prop
 | mk (p xs:_) (i v:_) (_:x=.ref p) (_:y=.int i) (_:SqL K H p xs) (_:atI xs i=some v) (_:Q v H)
inductive rIxT (K:Fg) (x y:V) (H:Hp) (Q:VK):Prop
 | mk (p xs:_) (i v:_) (_:x=.ref p) (_:y=.int i) (_:SqT K H p xs) (_:atI xs i=some v) (_:Q v H)
inductive rIxS (x y:V) (H:Hp) (Q:VK):Prop
 | mk (z i c:_) (_:x=.str z) (_:y=.int i) (_:z.length<=sizeLine) (_:atI z.cps.toList i=some c) (_:Q (.str ⟨#[c]⟩) H)
def zK:IxR X (rIxL X.K):=by
 intro value slice pins s σ H x y v u Q I rx ry h hs;obtain ⟨p,xs,i,z,rfl,rfl,hq,he,q⟩:=h;cases rx;obtain ⟨t,rfl⟩:=ry;obtain ⟨its,r,pl,hz⟩:=I.list hq;obtain ⟨j,h1,h2,h3,h4,h5⟩:=zc9 he;obtain ⟨w,ew,rw'⟩:=r.get h2;have hl:=r.length;have hn:=zaf;have fin:EP X pins σ Q w s:=⟨z,H,I,rw',q⟩;by_cases h0:0<=i
 ·have hj:i.toNat=j:=by
   rw [seqIndex_of h0 h5] at h1;exact Option.some.inj h1
  exact item_listR pl.isList h0 (by omega) (by rw [hj];simpa using ew) fin hs
 ·have hj:(i+(its.toArray.size:Int)).toNat=j:=by
   rw [seqIndex_neg (by omega) h4] at h1;rw [List.size_toArray,← hl];exact Option.some.inj h1
  exact subscriptTail_builtinR (x:=w) pl.isList.typeIs slot_list_getitem.lookup
   (wpAny_getItem_list_neg (Q:=λr s'=>r=w/\EP X pins σ Q r s') pl.isList (by omega) (by rw [List.size_toArray] <;> omega) (by omega) (by rw [hj];simpa using ew) ⟨rfl,fin⟩) hs
def zy:IxR X (rIxT X.K):=by
 intro value slice pins s σ H x y v u Q I rx ry h hs;obtain ⟨p,xs,i,z,rfl,rfl,hq,he,q⟩:=h;cases rx;obtain ⟨t,rfl⟩:=ry;obtain ⟨its,r,pl,hz⟩:=I.tuple hq;obtain ⟨j,h1,h2,h3,h4,h5⟩:=zc9 he;obtain ⟨w,ew,rw'⟩:=r.get h2;have hl:=r.length;have hn:=zaf;have fin:EP X pins σ Q w s:=⟨z,H,I,rw',q⟩;exact subscriptTail_builtinR (x:=w) pl.typeIs slot_tuple_getitem.lookup
  (getItem_tuple (j:=j) (Q:=λr s'=>r=w/\EP X pins σ Q r s') pl (by omega) (by omega) (by rw [List.size_toArray,← hl];exact h1) (by simpa using ew) ⟨rfl,fin⟩) hs
def Yj:IxR X rIxS:=by
 intro value slice pins s σ H x y v u Q I rx ry h hs;obtain ⟨z,i,c,rfl,rfl,hz,he,q⟩:=h;obtain ⟨t,rfl⟩:=rx;obtain ⟨t',rfl⟩:=ry;obtain ⟨j,h1,h2,h3,h4,h5⟩:=zc9 he;have hl:z.cps.toList.length=z.length:=by simp [Str.length]
 rw [hl] at h1 h4 h5;have hn:=zaf
 exact tail_any (typeIs_str s z t) slot_str_getitem.lookup (getItem_str (c:=c) (by
  have e1:decide (i < -(2 ^ 63:Int))=false:=decide_eq_false (by omega);have e2:decide (i ≥ 2 ^ 63)=false:=decide_eq_false (by omega);rw [e1,e2,Bool.or_false]) (by rw [h1];simpa using h2) ⟨.str ⟨#[c]⟩,H,I.tok _,⟨_,rfl⟩,q⟩) hs
def zca (lo hi:Option Int) (n:Nat):(sliceBounds lo hi none n).1=((HT.sIx n 0 lo:Nat):Int)/\(sliceBounds lo hi none n).2.1=((HT.sIx n n hi:Nat):Int)/\(sliceBounds lo hi none n).2.2=1:=by
 refine ⟨?_,?_,rfl⟩
 ·cases lo with
  | none=>simp [sliceBounds,HT.sIx]
  | some i =>
   simp only [sliceBounds,HT.sIx,Option.getD_none,show (1:Int) > 0 by decide,if_true];by_cases h:i<0
   ·simp only [h,if_true] <;> omega
   ·simp only [h,if_false] <;> omega
 ·cases hi with
  | none=>simp [sliceBounds,HT.sIx]
  | some i =>
   simp only [sliceBounds,HT.sIx,Option.getD_none,show (1:Int) > 0 by decide,if_true];by_cases h:i<0
   ·simp only [h,if_true] <;> omega
   ·simp only [h,if_false] <;> omega
def zau (its:Je) (lo hi:Option Int):slicePick its.toArray lo hi none=((its.drop (HT.sIx its.length 0 lo)).take (HT.sIx its.length its.length hi-HT.sIx its.length 0 lo)).toArray:=by
 obtain ⟨h1,h2,h3⟩:=zca lo hi its.toArray.size;unfold slicePick;rw [h1,h2,h3];simp only [sliceRange_one,pick_run,List.size_toArray] <;> rfl
inductive rSlL (K:Fg) (x:V) (lo hi:Option Int) (H:Hp) (Q:VK):Prop
 | mk (a xs:_) (_:x=.ref a) (_:SqL K H a xs) (_:∀ p,H p=none->Q (.ref p) (upd H p (.lst (cutV xs lo hi))))
def zcb:SlR X (rSlL X.K):=by
 intro pins s σ H x v vl vu lo hi sl Q I rx hs pl pu h;obtain ⟨a,xs,rfl,hx,q⟩:=h;cases rx;obtain ⟨its,r,ht,hz⟩:=I.list hx;have hlen:=r.length;refine ⟨"list",_,slot_list_getitem.lookup,ht.isList.typeIs,?_⟩;refine wpAny_getItem_list_slice ht.isList hs pl pu .none (by simp) ?_ (by rw [List.size_toArray] <;> omega);rw [zau,← hlen];refine ⟨.ref s.heap.objs.size,_,I.laid (t':=s.toks) (o:=.lst (cutV xs lo hi)) (λb ob q=>Heap.get?_push_of_some _ q) (Nat.le_refl _) ?_,rfl,q _ (I.hok.fresh (Nat.le_refl _))⟩;exact ⟨Nat.le_trans (zd6 xs lo hi) hz,_,0,(r.drop (HT.sIx xs.length 0 lo)).take (HT.sIx xs.length xs.length hi-HT.sIx xs.length 0 lo),Heap.get?_push_size _ rfl⟩
def YM:V->Bool
 | .non=>true
 | .bl _=>true
 | .int _=>true
 | .str _=>true
 | _=>false
def eqV:V->V->Bool
 | .non,.non=>true
 | .bl a,.bl b=>a == b
 | .bl a,.int b=>(if a then 1 else 0) == b
 | .int a,.bl b=>a == (if b then 1 else 0)
 | .int a,.int b=>a == b
 | .str a,.str b=>a == b
 | _,_=>false
def eqAt_V {A:Around} {s:Sh} {y x:V} {u v:Vl} (ry:RelV y u) (rx:RelV x v) (fy:YM y=true) (fx:YM x=true):SeqAt.EqAt A s u v (eqV y x):=by
 cases y with
 | non =>
  cases ry
  cases x with
  | non=>cases rx;exact SeqAt.EqAt.same _
  | bl b=>cases rx;exact SeqAt.EqAt.none_bool b
  | int b=>obtain ⟨t,rfl⟩:=rx;exact SeqAt.EqAt.none_int b t
  | str b=>obtain ⟨t,rfl⟩:=rx;exact SeqAt.EqAt.none_str b t
  | _=>exact absurd (show false=true from fx) q2x
 | bl a =>
  cases ry
  cases x with
  | non=>cases rx;exact SeqAt.EqAt.bool_none a
  | bl b=>cases rx;exact SeqAt.EqAt.bool_bool a b
  | int b=>obtain ⟨t,rfl⟩:=rx;exact SeqAt.EqAt.bool_int a b t
  | str b=>obtain ⟨t,rfl⟩:=rx;exact SeqAt.EqAt.bool_str a b t
  | _=>exact absurd (show false=true from fx) q2x
 | int a =>
  obtain ⟨t',rfl⟩:=ry
  cases x with
  | non=>cases rx;exact SeqAt.EqAt.int_none a t'
  | bl b=>cases rx;exact SeqAt.EqAt.int_bool a t' b
  | int b=>obtain ⟨t,rfl⟩:=rx;exact SeqAt.EqAt.int_int a t' b t
  | str b=>obtain ⟨t,rfl⟩:=rx;exact SeqAt.EqAt.int_str a t' b t
  | _=>exact absurd (show false=true from fx) q2x
 | str a =>
  obtain ⟨t',rfl⟩:=ry
  cases x with
  | non=>cases rx;exact SeqAt.EqAt.str_none a t'
  | bl b=>cases rx;exact SeqAt.EqAt.str_bool a t' b
  | int b=>obtain ⟨t,rfl⟩:=rx;exact SeqAt.EqAt.str_int a t' b t
  | str b=>obtain ⟨t,rfl⟩:=rx;exact SeqAt.EqAt.str_str a t' b t
  | _=>exact absurd (show false=true from fx) q2x
 | _=>exact absurd (show false=true from fy) q2x
def eqU (x:V) (u:Vl):Bool:=match u with
 | .none=>eqV .non x
 | .bool b=>eqV (.bl b) x
 | .int i _=>eqV (.int i) x
 | .str z _=>eqV (.str z) x
 | _=>false
def eqU_of {x y:V} {u:Vl} (r:RelV y u) (f:YM y=true):eqU x u=eqV y x:=by
 cases y with
 | non=>cases r;rfl
 | bl b=>cases r;rfl
 | int i=>obtain ⟨t,rfl⟩:=r;rfl
 | str z=>obtain ⟨t,rfl⟩:=r;rfl
 | _=>exact absurd (show false=true from f) q2x
theorem Xe {x:V}:∀ {xs:Jo} {us:Je},Vals xs us->xs.all YM=true->us.any (eqU x)=xs.any λy=>eqV y x
 | _,_,.nil,_=>rfl
 | y::xs,u::us,.cons r t,f=>by
  rw [List.all_cons,Bool.and_eq_true] at f;rw [List.any_cons,List.any_cons,eqU_of r f.1,Xe t f.2]
theorem Yc {A:Around} {s:Sh} {x:V} {v:Vl} (rx:RelV x v) (fx:YM x=true):∀ {xs:Jo} {us:Je},Vals xs us->xs.all YM=true->∀ u∈us,SeqAt.EqAt A s u v (eqU x u)
 | _,_,.nil,_=>λu hu=>by cases hu
 | y::xs,u::us,.cons r t,f=>λu' hu=>by
  rw [List.all_cons,Bool.and_eq_true] at f;rcases List.mem_cons.mp hu with rfl | hu
  ·rw [eqU_of r f.1];exact eqAt_V r rx f.1 fx
  ·exact Yc rx fx t f.2 u' hu
def inV (x:V) (xs:Jo):Bool:=xs.any λy=>eqV y x
inductive rIn (K:Fg) (neg:Bool) (x y:V) (H:Hp) (Q:VK):Prop
 | mk (p xs:_) (_:y=.ref p) (_:(SqL K H p xs∨SqT K H p xs)) (_:YM x=true) (_:xs.all YM=true) (_:Q (.bl (if neg then !inV x xs else inV x xs)) H)
def zbd:OpR X (compareOp .In) (rIn X.K false):=by
 intro pins s σ H x y v u Q I rx ry h;obtain ⟨p,xs,rfl,hq,fx,fs,q⟩:=h;cases ry;rcases hq with hq | hq
 ·obtain ⟨its,r,pl,hz⟩:=I.list hq
  refine SeqAt.in_listAt (eqU x) pl.isList (λw hw=>Yc rx fx r fs w (by simpa using hw)) ⟨.bl _,H,I,rfl,?_⟩;rw [show its.toArray.any (eqU x)=its.any (eqU x) by simp,Xe r fs];exact q
 ·obtain ⟨its,r,pl,hz⟩:=I.tuple hq
  refine SeqAt.in_tupleAt (eqU x) pl (λw hw=>Yc rx fx r fs w (by simpa using hw)) ⟨.bl _,H,I,rfl,?_⟩;rw [show its.toArray.any (eqU x)=its.any (eqU x) by simp,Xe r fs];exact q
def zco:OpR X (compareOp .NotIn) (rIn X.K true):=by
 intro pins s σ H x y v u Q I rx ry h;obtain ⟨p,xs,rfl,hq,fx,fs,q⟩:=h;cases ry;rcases hq with hq | hq
 ·obtain ⟨its,r,pl,hz⟩:=I.list hq
  refine SeqAt.notIn_listAt (eqU x) pl.isList (λw hw=>Yc rx fx r fs w (by simpa using hw)) ⟨.bl _,H,I,rfl,?_⟩;rw [show its.toArray.any (eqU x)=its.any (eqU x) by simp,Xe r fs];exact q
 ·obtain ⟨its,r,pl,hz⟩:=I.tuple hq
  refine SeqAt.notIn_tupleAt (eqU x) pl (λw hw=>Yc rx fx r fs w (by simpa using hw)) ⟨.bl _,H,I,rfl,?_⟩;rw [show its.toArray.any (eqU x)=its.any (eqU x) by simp,Xe r fs];exact q
def Y3:OpR X (compareOp .NotIn) (λx y H Q=>∃ i j,x=.str i/\y=.str j/\Q (.bl (!(!(Builtin.Str.occurrences j i 0 j.length 1).isEmpty))) H):=by
 intro pins s σ H x y v u Q I rx ry h;obtain ⟨i,j,rfl,rfl,q⟩:=h;obtain ⟨t,rfl⟩:=rx;obtain ⟨t',rfl⟩:=ry;exact notIn_str ⟨.bl _,H,I,rfl,q⟩
def zj:Zy X (.builtin "len") (λxs H Q=>∃ p ys,xs=[.ref p]/\(SqL X.K H p ys∨SqT X.K H p ys)/\Q (.int ys.length) H):=by
 intro pins s σ H xs us Q I r h;obtain ⟨p,ys,rfl,hq,q⟩:=h;obtain ⟨u,rfl,rx⟩:=XT r;cases rx;have hn:=zaf;rcases hq with hq | hq
 ·obtain ⟨its,r',pl,hz⟩:=I.list hq
  have hlen:=r'.length;exact Calls.call_len_list pl.isList (by simp only [List.size_toArray] <;> omega) ⟨.int ys.length,H,I.tok _,⟨s.toks+1,by rw [List.size_toArray,hlen]⟩,q⟩
 ·obtain ⟨its,r',pl,hz⟩:=I.tuple hq
  have hlen:=r'.length;exact len_tuple pl (by simp only [List.size_toArray] <;> omega) ⟨.int ys.length,H,I.tok _,⟨s.toks+1,by rw [List.size_toArray,hlen]⟩,q⟩
def Zq:Zy X (.builtin "len") (λxs H Q=>∃ z,xs=[.str z]/\z.length<=sizeLine/\Q (.int z.length) H):=by
 intro pins s σ H xs us Q I r h;obtain ⟨z,rfl,hz,q⟩:=h;obtain ⟨u,rfl,t,rfl⟩:=XT r;have hn:=zaf;exact len_str (by omega) ⟨.int z.length,H,I.tok _,⟨_,rfl⟩,q⟩
def xG:Zy X (.type "list") (λxs H Q=>∃ p ys,xs=[.ref p]/\(SqL X.K H p ys∨SqT X.K H p ys)/\∀ l,H l=none->Q (.ref l) (upd H l (.lst ys))):=by
 intro pins s σ H xs us Q I r h;obtain ⟨p,ys,rfl,hq,q⟩:=h;obtain ⟨u,rfl,rx⟩:=XT r;cases rx
 have fin:∀ (its:Je),Vals ys its->ys.length<=sizeLine->∀ (h':Heap) (c':Nat),(∀ b o',s.heap.get? b=some o'->h'.get? b=some o') ->
   h'.get? s.heap.objs.size=some { cls:=.type "list",dict:=none,data:=.seq its.toArray c',slots:=#[] }->EP X pins σ Q (.ref s.heap.objs.size) { s with heap:=h' }:=λits r' hz h' c' kp e =>
  ⟨.ref s.heap.objs.size,_,I.laid (t':=s.toks) kp (Nat.le_refl _) (show ObjOk X.prog X.w _ h' _ (.lst ys) from ⟨hz,its,c',r',e⟩),rfl,q _ (I.hok.fresh (Nat.le_refl _))⟩
 rcases hq with hq | hq
 ·obtain ⟨its,r',pl,hz⟩:=I.list hq
  have hlen:=r'.length;obtain ⟨o,ho,hc,n,hd⟩:=pl.isList;exact call_list_seq p (.inl rfl) ho hc hd (λh' c' kp e=>fin its r' hz h' c' kp e) (by simp only [List.size_toArray] <;> omega)
 ·obtain ⟨its,r',pl,hz⟩:=I.tuple hq
  have hlen:=r'.length;obtain ⟨o,ho,hc,n,hd⟩:=pl;exact call_list_seq p (.inr rfl) ho hc hd (λh' c' kp e=>fin its r' hz h' c' kp e) (by simp only [List.size_toArray] <;> omega)
def tyV (K:Fg) (T:String) (x:V) (H:Hp):Prop:=match x with
 | .str _=>T="str"
 | .int _=>T="int"
 | .ref p=>(T="list"/\∃ xs,SqL K H p xs)∨(T="tuple"/\∃ o,K.lookup p=some o/\o.cls=.type "tuple"/\o.dict=none) ∨
   (T="dict"/\((∃ kvs,H p=some (.dK kvs))∨∃ kvs,H p=some (.dT kvs)))∨(T="set"/\∃ S n,H p=some (.set S n))
 | _=>False
def tyV_is {pins:Jd} {σ:St} {H:Hp} {s:Sh} {T:String} {x:V} {v:Vl} (I:Inv X pins σ H s) (r:RelV x v) (ty:tyV X.K T x H) :
  s.TypeIs v T/\∀ a,v=.ref a->∃ ob,s.heap.get? a=some ob/\ob.dict=none:=by
 cases x with
 | str z =>
  obtain ⟨t,rfl⟩:=r;cases (show T="str" from ty);exact ⟨typeIs_str s z t,λ_ e=>nomatch e⟩
 | int i =>
  obtain ⟨t,rfl⟩:=r;cases (show T="int" from ty);exact ⟨typeIs_int s i t,λ_ e=>nomatch e⟩
 | ref p =>
  cases r;rcases ty with ⟨rfl,xs,hq⟩ | ⟨rfl,o,hk,hc,hd⟩ | ⟨rfl,hk⟩ | ⟨rfl,S,n,hk⟩
  ·obtain ⟨its,_,pl,_⟩:=I.list hq
   refine ⟨pl.isList.typeIs,λa e=>?_⟩;cases e;obtain ⟨o,n,e,c,hd,_⟩:=pl;exact ⟨o,e,hd⟩
  ·refine ⟨⟨o,I.kIn p o hk,hc⟩,λa e=>?_⟩
   cases e;exact ⟨o,I.kIn _ o hk,hd⟩
  ·have z:∃ o,s.heap.get? p=some o/\o.ExactDict:=by
    rcases hk with ⟨kvs,hk⟩ | ⟨kvs,hk⟩
    ·obtain ⟨_,_,_,_,o,_,_,e,ex,_⟩:=I.hok p _ hk
     exact ⟨o,e,ex⟩
    ·obtain ⟨_,_,_,_,o,_,_,e,ex,_⟩:=I.hok p _ hk
     exact ⟨o,e,ex⟩
   obtain ⟨o,e,ex⟩:=z;refine ⟨⟨o,e,ex.1⟩,λa e2=>?_⟩;cases e2;exact ⟨o,e,ex.2.1⟩
  ·obtain ⟨o,_,_,_,e,ex,_⟩:=I.hok p _ hk
   refine ⟨⟨o,e,ex.1⟩,λa e2=>?_⟩;cases e2;exact ⟨o,e,ex.2.1⟩
 | _=>exact False.elim ty
def tBM0 (K:Fg) (T:String) (r:V->Jo->Hp->VK->Prop) (to:TE):TE:=λσ H Q=>to σ H λx H1=>tyV K T x H1/\r x [] H1 Q
def tBM (K:Fg) (T:String) (r:V->Jo->Hp->VK->Prop) (to:TE) (t:TA):TE:=λσ H Q=>to σ H λx H1=>tyV K T x H1/\t σ H1 λxs H2=>r x xs H2 Q
variable {o e:Expr} {es:Ji} {to:TE} {t:TA} {name:Str} {apos cpos:Pos} {T id:String} {r:V->Jo->Hp->VK->Prop}
def pe_bm0 (pa:PlainAttrs T) (slot:Slot T name id) (hty:typeOf (.builtin id)=pure (.type "method_descriptor")) (hm:MtR X id r) (ho:PE X o to)
  (hbase:attributeBase o name X.env (eval o X.env)=eval o X.env:=by rfl) (hline:(apos.endLine == cpos.line)=true:=by rfl):PE X (.Call (.Attribute o name apos) [] [] cpos) (tBM0 X.K T r to):=by
 intro pins s σ H Q I h;refine wpAny_Call_method0_late hbase hline (thn (ho pins s σ H _ I h) λv s1 ⟨x,H1,I1,r1,ty,q1⟩=>?_);obtain ⟨h1,h2⟩:=tyV_is I1 r1 ty;exact ⟨T,id,pa,slot,hty,h1,h2,Calls.callWith_builtin rfl (PySem.evalArgs_none (hm pins s1 σ H1 x [] v [] Q I1 r1 .nil q1))⟩
def xB (pa:PlainAttrs T) (slot:Slot T name id) (hty:typeOf (.builtin id)=pure (.type "method_descriptor")) (hm:MtR X id r) (ho:PE X o to) (ha:PA X (e::es) t)
  (hbase:attributeBase o name X.env (eval o X.env)=eval o X.env:=by rfl)
  (hfew:((backTo cpos (starEach (e::es) X.env)).all (λx=>!x.1) && (backToKw cpos (keywordEach [] X.env)).all (λx=>x.1.isSome)
   && decide ((e::es).length+([]:List Keyword).length+(if ([]:List Keyword).isEmpty then 0 else 1)<30))=true:=by rfl)
  (hline:(apos.endLine == cpos.line)=true:=by rfl) (hs:starEach (e::es) X.env=(false,eval e X.env)::starEach es X.env:=by rfl) (hplain:(backTo cpos (starEach es X.env)).any (·.1)=false:=by rfl) :
  PE X (.Call (.Attribute o name apos) (e::es) [] cpos) (tBM X.K T r to t):=by
 intro pins s σ H Q I h;refine wpAny_Call_method_late hbase hfew hline rfl (thn (ho pins s σ H _ I h) λv s1 ⟨x,H1,I1,r1,ty,q1⟩=>?_);obtain ⟨h1,h2⟩:=tyV_is I1 r1 ty;refine ⟨T,id,pa,slot,hty,h1,h2,?_⟩;have hA:=ha cpos pins s1 σ H1 _ I1 q1;rw [hs] at hA ⊢;refine Calls.callWith_builtin (by show (false || (backTo cpos (starEach es X.env)).any (·.1))=false;rw [hplain] <;> rfl) (Calls.evalArgs_plain ?_);exact thn hA λus s2 ⟨vs,H2,I2,r2,q2⟩=>hm pins s2 σ H2 x vs v us Q I2 r1 r2 q2
/- xs.append(e),list.index on a module's tuple .. are MtR facts of 06m -/
end
def MtM (X:Cx) (id:String) (r:V->Jo->Hp->VK->Prop):Prop :=
 ∀ (pins:Jd) (s:Sh) (σ:St) (H:Hp) (x:V) (xs:Jo) (v:Vl) (us:Je) (Q:VK),Inv X pins σ H s->RelV x v->Vals xs us->r x xs H Q ->
  wpAny (model X.prog X.w) X.A (call (.builtin id) (v::us)) (EP X pins σ Q) X.xe s
theorem Vals.one:∀ {x:V} {us:Je},Vals [x] us->∃ u,us=[u]/\RelV x u
 | _,_,.cons r .nil=>⟨_,rfl,r⟩
theorem Vals.zero:∀ {us:Je},Vals [] us->us=[]
 | _,.nil=>rfl
def Vals.dropLast {xs:Jo} {us:Je} (h:Vals xs us):Vals xs.dropLast us.dropLast:=by
 induction h with
 | nil=>exact .nil
 | cons r t ih =>
  cases t with
  | nil=>exact .nil
  | cons q t'=>exact .cons r ih
def ze0 {α:Type} (l:List α):l.eraseIdx (l.length-1)=l.dropLast:=by
 induction l with
 | nil=>rfl
 | cons a r ih =>
  cases r with
  | nil=>rfl
  | cons b r =>
   have e:(a::b::r).length-1=((b::r).length-1)+1:=by
    have h1:(a::b::r).length=r.length+2:=rfl;have h2:(b::r).length=r.length+1:=rfl;omega
   rw [e,List.eraseIdx_cons_succ,ih]
   all_goals rfl
section
variable {X:Cx} {pins:Jd} {σ:St} {H:Hp} {s:Sh} {l b:Ad} {xs ys zs:Jo}
def Inv.lset {its its':Je} {n:Nat} {f:Array Vl->Array Vl} {t':Nat} (I:Inv X pins σ H s) (hH:H l=some (.lst xs))
  (e:s.heap.get? l=some { cls:=.type "list",data:=.seq its.toArray n }) (hf:f its.toArray=its'.toArray) (hv:Vals ys its') (hz:ys.length<=sizeLine) :
  Inv X pins σ (upd H l (.lst ys)) { s with heap:=s.heap.update l (Obj.mapSeq f),toks:=t' }:=by
 have q:=PySem.IsL.update e f;rw [hf] at q;refine I.write (x:=l) (e:=l) (by rw [hH];exact trivial) (.inl rfl) (λb' u hb hu=>(Heap.get?_update_other s.heap (Obj.mapSeq f) (Ne.symm hb)).trans hu) ⟨_,q⟩ ?_;exact ⟨hz,its',_,hv,q⟩
def Inv.lnew {its:Je} {t':Nat} (I:Inv X pins σ H s) (hv:Vals ys its) (hz:ys.length<=sizeLine) :
  Inv X pins σ (upd H s.heap.objs.size (.lst ys)) { s with heap:=s.heap.push { cls:=.type "list",data:=.seq its.toArray },toks:=t' } :=
 I.laid (λ_ _ q=>Heap.get?_push_of_some _ q) (Nat.le_refl _) ⟨hz,its,0,hv,Heap.get?_push_size _ rfl⟩
def Inv.fresh (I:Inv X pins σ H s):H s.heap.objs.size=none:=I.hok.fresh (Nat.le_refl _)
def Inv.lstM (I:Inv X pins σ H s) (hH:H l=some (.lst xs)):xs.length<=sizeLine/\∃ (its:Je) (n:Nat),Vals xs its/\xs.length=its.length/\s.heap.get? l=some { cls:=.type "list",data:=.seq its.toArray n }:=by
 obtain ⟨z,its,n,r,e⟩:=I.hok l _ hH;exact ⟨z,its,n,r,r.length,e⟩
def notLongL {n:Nat} (h:n<=sizeLine):Builtin.List.listTooLong n=false:=by
 unfold Builtin.List.listTooLong;exact decide_eq_false (by omega)
end
section
variable {X:Cx}
inductive rAppend (x:V) (vs:Jo) (H:Hp) (Q:VK):Prop
 | mk (l xs y:_) (_:x=.ref l) (_:vs=[y]) (_:H l=some (.lst xs)) (_:xs.length<sizeLine) (_:Q .non (upd H l (.lst (xs++[y]))))
def yh:MtM X "list.append" rAppend:=by
 intro pins s σ H x vs v us Q I rx rv h;obtain ⟨l,xs,y,rfl,rfl,hH,hz,q⟩:=h;cases rx;obtain ⟨u,rfl,ru⟩:=rv.one;obtain ⟨z,its,n,r,hl,e⟩:=I.lstM hH;refine call_meets F.slot_list_append ⟨_,e,rfl⟩ F.entry_list_append (F.args_list_append_2 _ _) (PySem.list_append l its.toArray n u (by rw [List.size_toArray];omega)) ⟨e,?_⟩;refine ⟨.non,_,I.lset (its':=its++[u]) hH e (by simp) (r.append (.cons ru .nil)) ?_,rfl,q⟩;rw [Jk,List.length_singleton];omega
inductive rExtend (x:V) (vs:Jo) (H:Hp) (Q:VK):Prop
 | mk (l b:_) (xs zs:_) (_:x=.ref l) (_:vs=[.ref b]) (_:H l=some (.lst xs)) (_:H b=some (.lst zs)) (_:xs.length+zs.length<=sizeLine) (_:Q .non (upd H l (.lst (xs++zs))))
def zbh:MtM X "list.extend" rExtend:=by
 intro pins s σ H x vs v us Q I rx rv h;obtain ⟨l,b,xs,zs,rfl,rfl,hH,hB,hz,q⟩:=h;cases rx;obtain ⟨u,rfl,ru⟩:=rv.one;cases ru;obtain ⟨z,its,n,r,hl,e⟩:=I.lstM hH;obtain ⟨z2,its2,n2,r2,hl2,e2⟩:=I.lstM hB;have hsz:its.toArray.size+its2.toArray.size<=sizeLine:=by rw [List.size_toArray,List.size_toArray];omega
 have hlong:¬ (!its.toArray.isEmpty && Builtin.List.listTooLong (its.toArray.size+its2.toArray.size))=true:=by
  rw [notLongL hsz,Bool.and_false];exact q2x
 refine call_meets F.slot_list_extend ⟨_,e,rfl⟩ F.entry_list_extend (F.args_list_extend_2 _ _)
  (AutoSeq1.list_extend_list_list_0 l its.toArray n b its2.toArray n2 hlong (by rw [List.size_toArray];omega) (by omega)) ⟨e,e2,?_⟩
 refine ⟨.non,_,I.lset (its':=its++its2) hH e (by simp) (r.append r2) ?_,rfl,q⟩;rw [Jk];omega
inductive rPop (x:V) (vs:Jo) (H:Hp) (Q:VK):Prop
 | mk (l xs y:_) (_:x=.ref l) (_:vs=[]) (_:H l=some (.lst xs)) (_:xs[xs.length-1]?=some y) (_:Q y (upd H l (.lst xs.dropLast)))
def mt_pop:MtM X "list.pop" rPop:=by
 intro pins s σ H x vs v us Q I rx rv h;obtain ⟨l,xs,y,rfl,rfl,hH,hy,q⟩:=h;cases rx;have hus:=rv.zero;subst hus;obtain ⟨z,its,n,r,hl,e⟩:=I.lstM hH;obtain ⟨u,hu,ru⟩:=r.get hy
 have hy':its.toArray[its.toArray.size-1]?=some u:=by
  show its.toArray[its.length-1]?=some u;rw [← Array.getElem?_toList,← hl];exact hu
 refine call_meets F.slot_list_pop ⟨_,e,rfl⟩ F.entry_list_pop (F.args_list_pop_1 _) (MeetsSeq.list_pop_last l its.toArray n u hy' (by rw [List.size_toArray];omega)) ⟨e,?_⟩;refine ⟨y,_,I.lset (its':=its.dropLast) hH e ?_ r.dropLast ?_,ru,q⟩
 ·show its.toArray.eraseIdxIfInBounds (its.toArray.size-1)=its.dropLast.toArray
  rw [List.size_toArray,List.eraseIdxIfInBounds_toArray,ze0]
 ·rw [List.length_dropLast]
  omega
inductive rCat (x y:V) (H:Hp) (Q:VK):Prop
 | mk (l b:_) (xs zs:_) (_:x=.ref l) (_:y=.ref b) (_:H l=some (.lst xs)) (_:H b=some (.lst zs)) (_:xs.length+zs.length<=sizeLine) (_:∀ p,H p=none->Q (.ref p) (upd H p (.lst (xs++zs))))
def xC:OpR X (binaryOp .Add) rCat:=by
 intro pins s σ H x y v u Q I rx ry h;obtain ⟨l,b,xs,zs,rfl,rfl,hH,hB,hz,q⟩:=h;cases rx;cases ry;obtain ⟨z,its,n,r,hl,e⟩:=I.lstM hH;obtain ⟨z2,its2,n2,r2,hl2,e2⟩:=I.lstM hB;refine PySem.P.add_list e e2 ?_ (by rw [List.size_toArray,List.size_toArray];omega);have ea:its.toArray++its2.toArray=(its++its2).toArray:=by simp
 rw [ea];exact ⟨.ref _,_,I.lnew (t':=s.toks) (r.append r2) (by rw [Jk];omega),rfl,q _ I.fresh⟩
def Zo {α:Type} (xs:List α) (k:Nat):(List.replicate k xs).flatten.length=k*xs.length:=by
 induction k with
 | zero=>simp
 | succ k ih=>rw [List.replicate_succ,List.flatten_cons,Jk,ih,Nat.succ_mul,Nat.add_comm]
end
section
variable {prog:Program} {w:World} {A:Around} {E:Ja} {s:Sh}
set_option maxRecDepth 100000 in
end
section
variable {X:Cx}
end
end L2
namespace Att
open PySem PySem.W PySem.Calls PyProof.Rows
def XH {P:Params} {h:Heap}:∀ (ns:Jc) (vs:Je),WellAll P h vs (ns.map WData.int)->IntsAre vs ns:=by
 intro ns
 induction ns with
 | nil =>
  intro vs w;rw [List.map_nil] at w;cases w;exact .nil
 | cons n ns ih =>
  intro vs w;rw [List.map_cons] at w
  cases w with
  | cons a b =>
   cases a;exact .cons _ _ (ih _ b)
def script_of {l:OpenLaw} {n:Nat} (hn:l.most=some n) {P:Params} {h:Heap} {args:List WData} {vals:Je}
  (hpre:l.row.toRowW.claim.pre args=true) (hwl:WellAll P h vals args) :
  ∃ a vs ns,vals=[Value.ref a]/\args=[WData.list (ns.map WData.int)]/\h.get? a=some { cls:=.type "list",data:=.seq vs.toArray }/\IntsAre vs ns/\ns.length<=n:=by
 have hsh:WShape.hasAll [] args [.list .int]=true:=(pre_splitW hpre).1;have hc:l.pre.holds [] { args:=args }=true:=(pre_splitW hpre).2;obtain ⟨d,r,rfl,h1,h2⟩:=hasAllW_cons hsh;obtain rfl:=hasAllW_nil h2;obtain ⟨xs,rfl,h3⟩:=hasW_list h1;obtain ⟨ns,rfl⟩:=items_int h3
 have hlen:ns.length<=n:=by
  unfold OpenLaw.pre at hc
  have h4:(WTm.not (.lt (.lit (.int (n:Int))) (.len (.arg 0)))).holds [] { args:=[.list (ns.map .int)] }=true:=by
   have h4:=(holds_andW hc).1;rw [hn] at h4;exact h4
  have h5:=condW_of h4 (w_not (w_lt w_lit (w_len_list (w_arg rfl))));rw [Jj] at h5;refine Nat.le_of_not_lt λq=>?_;have q':(n:Int)<((ns.length:Nat):Int):=by omega
  first
   | (rw [decide_eq_true q'] at h5;exact absurd h5 (by decide))
   | (simp at h5;omega)
 cases hwl with
 | cons w1 w2 =>
  cases w2
  cases w1 with
  | list ho hall=>exact ⟨_,_,ns,rfl,rfl,ho,XH ns _ hall,hlen⟩
def post_true (l:OpenLaw) (args:List WData):l.row.toRowW.claim.post args (.bool true) args=true :=
 postW_of (r:=l.row.toRowW) (X:=(true == true))
  (show WShape.has [] (.bool true) .bool=true by first | rfl | decide | simp [WShape.has,WShape.arms,WShape.armsAll])
  (show (WTm.eq .res (.lit (.bool true))).value [] { args:=args,res:=some (.bool true),after:=args }=some (.bool (true == true)) from w_eq_bool (w_res rfl) w_lit) rfl
def attach_call {l:OpenLaw} {n:Nat} {q:Program} {loose:Jg} {XP:(J0)->Heap->Prop} {YP:World->Heap->Prop} {d:DefRec}
  (hn:l.most=some n) (hdf:d.params.defaults=[])
  (call:∀ (w:World) (s₀ s₁:Sh) (mg mb:J0) (fa:Ad) (o:Obj) (pm cd doc:Vl) (a:Ad) (vs:Je) (ns:Jc),
   Ground q loose [] XP w s₀ mg mb s₁.heap->YP w s₁.heap ->
   s₁.heap.get? fa=some o->o.data=.func (docDef d.name d.params d.body d.scope pm cd doc)->s₁.heap.CodeRec cd d.name->mg d.name=some (.ref fa) ->
   s₁.heap.get? a=some { cls:=.type "list",data:=.seq vs.toArray }->IntsAre vs ns->ns.length<=n->s₁.gens=#[] ->
   codeAny (model l.prog w) callerA (.call (.ref fa) ⟨[.ref a],[]⟩) (λr s'=>r=.ok (.ret (.bool true))/\OldK s₁.heap s'.heap/\s'.os=s₁.os/\AllBare s'.gens) s₁) :
  WalkO q loose XP YP l.row.toRowW d [] (λf vs=>PySem.call f vs):=by
 intro w s₀ s₁ mg mb G Y fa o pm cd doc dV kV ho hd hcd hD hmg hg args vals as hpre hlay hrd hwl hlo;obtain rfl:dV=.none:=Dflts.none hD hdf;obtain rfl:kV=.none:=Dflts.noKw hD;obtain ⟨a,vs,ns,rfl,rfl,hobj,hints,hlen⟩:=script_of hn hpre hwl;refine enter_call (codeAny_mono (call w s₀ s₁ mg mb fa o pm cd doc a vs ns G Y ho (fd_plain hd) hcd hmg hobj hints hlen hg) λr s' hq=>?_);obtain ⟨rfl,h2,h3,h4⟩:=hq;exact ⟨.inl ⟨.bool true,.bool true,[],rfl,λ_=>rfl,.bool true,post_true l _,λ_=>⟨List.Pairwise.nil,λ_ hm=>(nomatch hm)⟩⟩,h2,h3,h4⟩
section
variable {prog:Program} {w:World} {A:Around} {E:Ja} {s:Sh} {K:Frag}
def noObjs (h:Heap):Heap:={ h with objs:=#[] }
def zev (h:Heap) (b:Ad):(noObjs h).get? b=none:=by
 cases e:(noObjs h).get? b with
 | none=>rfl
 | some o=>exact absurd (Heap.lt_size e) (Nat.not_lt_zero _)
def ledger (h:Heap) (L d:Ad):Jd:=(List.range h.objs.size).filterMap λa=>if a=L∨a=d then none else (h.get? a).map λo=>(a,o)
def fr_all {h:Heap} {L:Ad} {m:J0} (n:h.Ns L m):Fr (noObjs h) L h m :=
 ⟨n,λb o e=>(by rw [zev] at e;cases e),Nat.zero_le _⟩
end
end Att
namespace L2
open PySem PySem.Spec PyProof.Rows
theorem za3:∀ {vs:Je} {ns:Jc},IntsAre vs ns->Vals (ns.map V.int) vs
 | _,_,.nil=>.nil
 | _,_,.cons n t h=>.cons ⟨t,rfl⟩ (za3 h)
def Only (H:Hp):Prop:=∀ b,H b=none∨∃ o xs,H b=some (.frz o (.lst xs))
def law_call {P:Program} {w:World} {K:Fg} {mg mb:J0} {CX:CXT} {k:Nat} {fa a:Ad} {fd:FuncData} {x:Str} {sp:Sp} {s₁:Sh} {vs:Je} {ns:Jc}
  (KX:K.In s₁.heap) (hns:s₁.heap.Ns mainGlobals mg) (hb:s₁.heap.Ns builtinsNs mb) (hbb:∀ x:Str,x≠"__name__"->mb x=bootBuiltins x) (hlim:s₁.heap.NoLimit) (hg:s₁.gens=#[])
  (ha:s₁.heap.get? a=some { cls:=.type "list",data:=.seq vs.toArray }) (hi:IntsAre vs ns) (hl:ns.length<=sizeLine) (hr:Room k callerA)
  (F:∀ base:Heap,K.In base->base.Ns mainGlobals mg->FnOk P w K mg base CX k fa fd [x] sp) (hbind:∀ (s:Sh) (u:Vl),BindsTo s fd ⟨[u],[]⟩ [(x,u)])
  (hsp:∀ H:Hp,Only H->SqL K H a (ns.map V.int)->sp [.ref a] H (λv _=>v=.bl true) λ_ _ _=>False)
  (hCX:∀ H e s',CX [] H s₁ (λ_ _ _=>False) e s'->False) :
  codeAny (model P w) callerA (.call (.ref fa) ⟨[.ref a],[]⟩) (λr s'=>r=.ok (.ret (.bool true))/\OldK s₁.heap s'.heap/\s'.os=s₁.os/\AllBare s'.gens) s₁:=by
 have rv:=za3 hi;have lenV:=hi.length
 have core:∀ H:Hp,Only H->SqL K H a (ns.map V.int)->HOk P w H s₁.heap->(∀ b,H b≠none->b=a)->(H a≠none->K.lookup a=none) ->
   codeAny (model P w) callerA (.call (.ref fa) ⟨[.ref a],[]⟩) (λr s'=>r=.ok (.ret (.bool true))/\OldK s₁.heap s'.heap/\s'.os=s₁.os/\AllBare s'.gens) s₁:=by
  intro H hO hS hok hA hK;have base_of:∀ {b:Ad} {o:Obj},s₁.heap.get? b=some o->H b=none->(hidT s₁.heap H).get? b=some o:=λe n=>hidT_get e n
  have noA:∀ {b:Ad} {o:Obj} {es:Array DictEntry} {ep:Nat},s₁.heap.get? b=some o->o.data=.dict es ep->H b=none:=λ{b o es ep} e d=>by
   cases q:H b with
   | none=>rfl
   | some u =>
    have e':b=a:=hA b (by rw [q];simp);subst e';rw [ha] at e;cases e;have d':Data.seq vs.toArray _=Data.dict es ep:=d;cases d'
  have nsK:∀ {b:Ad} {m:J0},s₁.heap.Ns b m->(hidT s₁.heap H).Ns b m:=λ{b m} ⟨o,es,ep,e,d,r⟩=>⟨o,es,ep,base_of e (noA e d),d,r⟩
  have hKb:K.In (hidT s₁.heap H):=λb o e=>base_of (KX b o e) (by
   cases q:H b with
   | none=>rfl
   | some u =>
    have e':b=a:=hA b (by rw [q];simp);subst e';rw [hK (by rw [q];simp)] at e;cases e)
  have hM:Mod K mg (hidT s₁.heap H):=⟨hKb,nsK hns,⟨mb,nsK hb,hbb⟩,let ⟨mc,h1,h2⟩:=hlim;⟨mc,nsK h1,h2⟩⟩;have e0:Env0 P w K mg (hidT s₁.heap H) callerA [] s₁ H:=⟨rfl,hM,λb o e=>of_hidT e,Nat.le_of_eq (hidT_size _ _),trivial,λb hb=>absurd (show b∈([]:Jh) from hb) (by simp),hok,.of_eq hg⟩;refine codeAny_mono ((F _ hKb (nsK hns)).run callerA [] s₁ H ⟨[.ref a],[]⟩ [.ref a] [.ref a] _ _ hr e0 (hbind s₁ (.ref a)) (.cons rfl .nil) (hsp H hO hS)) λr s' h=>?_
  cases r with
  | error e=>exact (hCX H e s' h).elim
  | ok fl =>
   cases fl with
   | next=>exact False.elim h
   | brk=>exact False.elim h
   | cont=>exact False.elim h
   | ret u =>
    obtain ⟨v,H',os,bare,un,hok',r',q⟩:=h;have q':v=.bl true:=q;subst q';obtain rfl:u=Value.bool true:=r';refine ⟨rfl,OldK.of_keep λb o e=>?_,os,bare⟩
    cases q:H b with
    | none=>exact un.keep b o e q (by intro z;exact absurd (show b∈([]:Jh) from z) (by simp)) (by simp)
    | some u =>
     rcases hO b with z | ⟨ob,xs,z⟩
     ·rw [q] at z;cases z
     ·have z2:=un.frzs b ob _ z
      obtain ⟨e1,_⟩:=hok b _ z;obtain ⟨e2,_⟩:=hok' b _ z2;rw [e] at e1;cases e1;exact e2
 cases hk:K.lookup a with
 | some o =>
  have e:=KX a o hk;rw [ha] at e;cases e;refine core (λ_=>none) (λ_=>.inl rfl) (.inr ⟨_,vs.toArray,_,hk,rfl,rfl,rfl,by rw [List.size_toArray,lenV];exact hl,by simpa using rv⟩) (λb u z=>by have z':(none:Option HO)=some u:=z;cases z') (λb z=>absurd rfl z) λz=>absurd rfl z
 | none =>
  refine core (λb=>if b=a then some (.frz { cls:=.type "list",data:=.seq vs.toArray } (.lst (ns.map V.int))) else none) (λb=>?_) (.inl (.inr ⟨{ cls:=.type "list",data:=.seq vs.toArray },if_pos rfl⟩)) (λb u z=>?_) (λb z=>?_) λ_=>hk
  ·by_cases hb:b=a
   ·exact .inr ⟨_,_,if_pos hb⟩
   ·exact .inl (if_neg hb)
  ·by_cases hb:b=a
   ·have z':=(if_pos hb).symm.trans z
    cases z';subst hb;exact ⟨ha,by rw [Jj];exact hl,vs,_,rv,ha⟩
   ·have z':=(if_neg hb).symm.trans z
    cases z'
  ·by_cases hb:b=a
   ·exact hb
   ·exact absurd (if_neg hb) z
def walk_of {l:PySem.W.OpenLaw} {n k:Nat} {q:Program} {loose:Jg} {XP:(J0)->Heap->Prop} {YP:World->Heap->Prop} {d:DefRec} {K:Params->Fg} {CX:World->CXT} {sp:World->Sp} {x:Str}
  (hn:l.most=some n) (hn2:n<=sizeLine) (hdf:d.params.defaults=[]) (hr:Room k callerA)
  (hY:∀ (w:World) (h:Heap),YP w h->(K w.params).In h)
  (F:∀ (w:World) (mg:J0) (fa:Ad) (h:Heap),(K w.params).In h->h.Ns mainGlobals mg->mg d.name=some (.ref fa) ->
   ∃ fd:FuncData,(∀ (s:Sh) (u:Vl),BindsTo s fd ⟨[u],[]⟩ [(x,u)]) /\
    ∀ base:Heap,(K w.params).In base->base.Ns mainGlobals mg->FnOk l.prog w (K w.params) mg base (CX w) k fa fd [x] (sp w))
  (hsp:∀ (w:World) (H:Hp) (a:Ad) (ns:Jc),ns.length<=n->Only H->SqL (K w.params) H a (ns.map V.int)->sp w [.ref a] H (λv _=>v=.bl true) λ_ _ _=>False)
  (hCX:∀ (w:World) (H:Hp) (s:Sh) (e:Vl) (s':Sh),CX w [] H s (λ_ _ _=>False) e s'->False) :
  PySem.W.WalkO q loose XP YP l.row.toRowW d [] (λf vs=>PySem.call f vs):=by
 refine Att.attach_call hn hdf λw s₀ s₁ mg mb fa o pm cd doc a vs ns G Y ho hd hcd hmg hobj hints hlen hg=>?_;have KX:=hY w _ Y;obtain ⟨fd,hb,hF⟩:=F w mg fa _ KX G.T.g hmg;exact law_call KX G.T.g G.T.b G.T.builtins G.T.nolimit hg hobj hints (Nat.le_trans hlen hn2) hr hF hb (λH hO hS=>hsp w H a ns hlen hO hS) λH e s'=>hCX w H s₁ e s'
end L2
/- THE LAST THEOREM (shape;LID,My.* are yours):
   My.Adr: a structure of the addresses that your layer names (classes,functions);My.Txt K t: a structure (Prop) of the equations over K;
   My.txt_mk:{K} {implicit addresses ..} (e1:nsIn K mainGlobals "law"=some (some (.ref f))) (e2:K.lookup f=some ⟨oc,od,.func (fnOf "law" "law" params body scope dV kV doc pm an cdv ct),sl⟩) (e3:codeIn K cdv "law"=true) ..:∃ t,My.Txt K t
set_option maxRecDepth 100000 in
set_option maxHeartbeats 0 in
(the tactic k_is has no namespace: write k_is) -/
namespace L2
open PySem PySem.Spec PyProof.Rows
def yR (s:Stmt) (j:Nat):Stmt:=match s with
 | .ClassDef _ _ _ body _ _ _ _ _ _ _=>body.getD j (.Pass ⟨0,0,0,0⟩)
 | _=>.Pass ⟨0,0,0,0⟩
def yS (s:Stmt):Arguments:=match s with
 | .FunctionDef _ a _ _ _ _ _ _ _ _=>a
 | _=>{ posonlyargs:=[],args:=[],vararg:=none,kwonlyargs:=[],kw_defaults:=[],kwarg:=none,defaults:=[] }
def yu (s:Stmt):List Stmt:=match s with
 | .FunctionDef _ _ b _ _ _ _ _ _ _=>b
 | _=>[]
def zg (s:Stmt):Scope:=match s with
 | .FunctionDef _ _ _ _ _ _ sc _ _ _=>sc
 | _=>{ kind:=.function,names:=[],isGenerator:=false,isCoroutine:=false }
abbrev CX0:CXT:=λ_ _ _ _ _ _=>False
abbrev E0:XK:=λ_ _ _=>False
def zE {X:Cx}:xk CX0 X E0:=λ_ _ _ _ _ _ _ h=>h.elim
structure Fun (K:Fg) (x qual:Str) (st:Stmt) (f:Ad) (fd:FuncData):Prop where
 ex:∃ (oc:Vl) (od:Option Ad) (kV doc pm:Vl) (an:Option Ad) (cdv ct:Vl) (osl:Array (Jf)),
  fd=PySem.W.fnOf x qual (yS st) (yu st) (zg st) .none kV doc pm an cdv ct/\K.lookup f=some ⟨oc,od,.func fd,osl⟩/\PySem.W.codeIn K cdv qual=true
 kp:PySem.W.keepIn K (.ref f)=true
section
variable {P:Program} {w:World} {K:Fg} {mg:J0} {base:Heap}
def Fun.ok {x qual:Str} {st:Stmt} {f:Ad} {fd:FuncData} {N ps:Jg} {k:Nat} {sp:Sp} (F:Fun K x qual st f fd) (S:FnScope N ps (zg st)) (len:∀ vs H Q E,sp vs H Q E->vs.length=ps.length)
  (hbody:∀ (cdv:Vl) (A:Around) (outer:List Env) (s:Sh) (H:Hp) (vs:Jo) (Q:VK) (E:XK),Room k (A.deeper (envOfC qual (zg st) s.heap.objs.size f cdv))->sp vs H Q E ->
   ∃ t,PSs (ZR CX0 P w K mg base N qual (zg st) f cdv A outer s H E).nox (yu st) t/\t { nx:=λ_ H'=>Q .non H',rt:=Q } (start N vs) H):FnOk P w K mg base CX0 (k+1) f fd ps sp:=by
 obtain ⟨oc,od,kV,doc,pm,an,cdv,ct,osl,rfl,lk,hcd⟩:=F.ex;refine fn_of lk hcd S len λA outer s H vs Q E hr hsp=>?_;obtain ⟨t,h,q⟩:=hbody cdv A outer s H vs Q E hr hsp;exact ⟨t,h.nox,q⟩
def Fun.binds {x qual:Str} {st:Stmt} {f:Ad} {fd:FuncData} {ps:Jg} (F:Fun K x qual st f fd)
  (h:∀ (kV doc pm:Vl) (an:Option Ad) (cdv ct:Vl) (us:Je),us.length=ps.length->bindArgs (PySem.W.fnOf x qual (yS st) (yu st) (zg st) .none kV doc pm an cdv ct) ⟨us,[]⟩=pure (ps.zip us)):Binds K fd ps []:=by
 obtain ⟨oc,od,kV,doc,pm,an,cdv,ct,osl,rfl,lk,hcd⟩:=F.ex;exact .all (h kV doc pm an cdv ct)
def YV {x qual:Str} {st:Stmt} {f:Ad} {oc:Vl} {od an:Option Ad} {osl:Array (Jf)} {kV doc pm cdv ct:Vl} (l:K.lookup f=some ⟨oc,od,.func (PySem.W.fnOf x qual (yS st) (yu st) (zg st) .none kV doc pm an cdv ct),osl⟩)
  (c:PySem.W.codeIn K cdv qual=true) (k:PySem.W.keepIn K (.ref f)=true):Fun K x qual st f (PySem.W.fnOf x qual (yS st) (yu st) (zg st) .none kV doc pm an cdv ct):=⟨⟨oc,od,kV,doc,pm,an,cdv,ct,osl,rfl,l,c⟩,k⟩
end
section
variable {X:Cx}
def pv (i:Nat) {x:Str} {pos:Pos} (hN:X.N[i]?=some x:=by rfl) (hv:Vis X.env.scope x:=by first | exact Or.inl rfl | exact Or.inr (Or.inl rfl) | exact Or.inr (Or.inr rfl)) (hd:(x == ("__debug__":Str))=false:=by decide)
  (hcd:(x == ("__classdict__":Str))=false:=by decide):PE X (.Name x pos) (tVar i):=pe_var hN hv hd hcd
end
def zH {A B:Prop} (h:B):if false=true then A else B:=by
 rw [if_neg q2x];exact h
def zP {A B:Prop} (h:A):if true=true then A else B:=by
 rw [if_pos rfl];exact h
def xL {c A B:Prop} [Decidable c] (h1:c->A) (h2:¬ c->B):if c then A else B:=by
 by_cases h:c
 ·rw [if_pos h]
  exact h1 h
 ·rw [if_neg h]
  exact h2 h
def Same (H H':Hp):Prop:=∀ b o,H b=some o->H' b=some o
def Same.refl (H:Hp):Same H H:=λ_ _ h=>h
def Same.trans {H H1 H2:Hp} (a:Same H H1) (b:Same H1 H2):Same H H2:=λc o h=>b c o (a c o h)
def Same.free {H H':Hp} (e:Same H H') {l:Ad} (h:H' l=Option.none):H l=Option.none:=by
 cases q:H l with
 | none=>rfl
 | some o =>
  rw [e l o q] at h;cases h
structure Fly (base:Heap) (outer:List Env) (H:Hp) (s h:Heap) (e:Ad) (cls:Vl):Prop where
 stays:base.StaysIn h
 frames:h.FunFrames base outer
 baseE:base.get? e=none
 newE:s.get? e=none
 freeE:H e=none
 tr:∃ oe vs T oT ts,h.get? e=some oe/\oe.cls=cls/\oe.data=.fields vs/\vs[1]?=some (.ref T)/\T≠e/\h.get? T=some oT/\oT.data=.fields ts/\ts[3]?=some .none/\base.get? T=none/\s.get? T=none/\H T=none
def CXe (P:Program) (w:World) (base:Heap):CXT:=λouter H s E e s' =>
 ∃ (ea C:Ad) (H':Hp),e=.ref ea/\s'.os=s.os/\AllBare s'.gens/\Un (frs outer) [] H H' s.heap s'.heap/\HOk P w H' s'.heap/\Fly base outer H' s.heap s'.heap ea (.ref C)/\E (.ref C) none H'
section
variable {X:Cx} {pins:Jd} {σ:St} {H:Hp} {s:Sh} {e:Ad} {cls:Vl}
end
section
variable {X:Cx} {pins:Jd} {σ:St} {H H':Hp} {s s':Sh} {e:Ad} {cls:Vl}
end
section
variable {P:Program} {w:World} {K:Fg} {mg:J0} {base:Heap} {N:Jg} {qual:Str} {scope:Scope} {f:Ad} {cd:Vl} {A:Around} {outer:List Env} {s:Sh} {H:Hp} {E:XK}
end
end L2
namespace My
open PySem PySem.Spec PySem.Calls PySem.W PyProof.Rows PySem.Builtin PySem.Builtin.ObjectAttr PySem.Builtin.Getset_descriptor
def ClsAt (x D:Ad) (h:Heap):Prop:=∃ o,h.get? x=some o/\o.cls=.ref D
def Xc {x D:Ad} (M:Model) (h:Heap) (p:ClsAt x D h):Looks M h (typeOf (.ref x)) (.ref D):=by
 obtain ⟨o,a,b⟩:=p;exact b ▸ (Looks.ld a).andThen .now
def find_data {K:Frag} {M:Model} {h:Heap} (X:K.In h) {x D:Ad} {name:Str} {g a:Vl} (ha:findIn K (.ref D) name=some (some a)) (hn:specialIn K a "__get__"=some (some g)) (htk:takesIn K a=some true) :
  Looks M h (find (.ref x) (.ref D) name) (.bind g a) :=
 (looks_findIn X ha).andThen ((show Looks M h (getOf (some a)) (some g) from looks_specialIn X hn).andThen ((show Looks M h (dataDescriptor? (some a) (some g)) (some (g,a)) from (looks_takesIn X htk).andThen .now).andThen (Looks.tag .now)))
section
variable {prog:Program} {w:World} {A:Around} {E:Ja} {s:Sh} {K:Frag} {x D:Ad} {R:Result->Sh->Prop}
def class_of {tp:Vl} (X:K.In s.heap) (p:ClsAt x D s.heap) (hm:mroIn K D (.type "object")=some true) (h:R (.ok (.ret (.ref D))) s) :
  codeAny (model prog w) A (.call (.builtin "getset_descriptor.__get__") ⟨[.builtin "object.__class__",.ref x,tp],[]⟩) R s:=by
 obtain ⟨h0,g0,d0,t0,o0⟩:=s;have T0:=Xc (model prog w) h0 p;have T1:=looks_mroIn (M:=model prog w) X hm;refine codeAny_call_builtin KF.slot_gs.plain KF.entry_gs (KF.slot_gs.check _ _ _ _ _ _ _ _ KF.type_class (KF.args_gs _ _ _) ?_);unfold Builtin.«getset_descriptor.__get__» descrGet;rw [dga_obj];refine q0x (q0y ?_);unfold descrGetter descrCheckInstance descrNameAndClass isInstance;simp only [KF.owner_class]
 repeat lk
 refine ⟨Code.quiet_builtin _ (by decide +kernel),codeAny_builtin KF.entry_class ?_⟩;unfold Builtin.«object.__class__» shownTypeOf
 repeat lk
 exact h
def ga_check {M:Model} {Q:Unit->Sh->Prop} {nameV:Vl} {h0:Heap} {g0:Array GenState} {d0:Drawn} {t0:Nat} {o0:OsState} (T0:Looks M h0 (typeOf (.ref x)) (.ref D)) (TS:Looks M h0 (isSubtype (.ref D) (.type "BaseException")) true) (hq:Q () ⟨h0,g0,d0,t0,o0⟩) :
  wpAny M A (checkBuiltinCall "BaseException.__getattribute__" ⟨[.ref x,nameV],[]⟩) Q E ⟨h0,g0,d0,t0,o0⟩:=by
 have e1:builtinKind "BaseException.__getattribute__"=some .slot:=by decide +kernel
 have e2:splitId "BaseException.__getattribute__"=some ("BaseException","__getattribute__"):=by decide +kernel
 have e3:=F.args_bexc_ga (.ref x) nameV;simp only [checkBuiltinCall,e1,e2];refine q0x ?_;unfold isInstance
 repeat (first | lk | wp_step)
 exact hq
def ga_entry {Q:Fin->Sh->Prop} {tk:Tok} {h0:Heap} {g0:Array GenState} {d0:Drawn} {t0:Nat} {o0:OsState} (X:K.In h0) (p:ClsAt x D h0) (ha:findIn K (.ref D) "__class__"=some (some (.builtin "object.__class__")))
  (hn:specialIn K (.builtin "object.__class__") "__get__"=some (some (.builtin "getset_descriptor.__get__"))) (htk:takesIn K (.builtin "object.__class__")=some true) (hm:mroIn K D (.type "object")=some true) (hq:Q (.done (.ret (.ref D))) ⟨h0,g0,d0,t0,o0⟩) :
  wpAny (model prog w) A (Builtin.«object.__getattribute__» ⟨[.ref x,.str "__class__" tk],[]⟩) Q E ⟨h0,g0,d0,t0,o0⟩:=by
 have T0:=Xc (model prog w) h0 p;have T2:=find_data (M:=model prog w) X (x:=x) ha hn htk;unfold Builtin.«object.__getattribute__»;refine q0x (q0y ?_)
 repeat (first | (with_reducible refine q0x (T0.at ?_)) | (with_reducible refine q0x (T2.at ?_)) | wp_step)
 refine class_of (s:=⟨h0,g0,d0,t0,o0⟩) X p hm ?_
 repeat (any_goals (first | assumption | wp_step))
def ze7 {Q:Jf->Sh->Prop} (hg:findIn K (.ref D) "__getattribute__"=some (some (.builtin "BaseException.__getattribute__"))) (hgg:findIn K (.ref D) "__getattr__"=some none) (hsb:subIn K (.ref D) (.type "BaseException")=some true) (ha:findIn K (.ref D) "__class__"=some (some (.builtin "object.__class__")))
  (hn:specialIn K (.builtin "object.__class__") "__get__"=some (some (.builtin "getset_descriptor.__get__"))) (htk:takesIn K (.builtin "object.__class__")=some true) (hm:mroIn K D (.type "object")=some true)
  (X:K.In s.heap) (p:ClsAt x D s.heap) (h:Q (some (.ref D)) { s with toks:=s.toks+1 }):wpAny (model prog w) A (getAttr? (.ref x) "__class__") Q E s:=by
 obtain ⟨h0,g0,d0,t0,o0⟩:=s;have T0:=Xc (model prog w) h0 p;have T1:=looks_findIn (M:=model prog w) X hg;have T3:=looks_findIn (M:=model prog w) X hgg;have TS:=looks_subIn (M:=model prog w) X hsb;have f3:=F.excAttr_ValueError.ga.bind (.ref x);have hx2:(Value.builtin "BaseException.__getattribute__" == Value.builtin "object.__getattribute__")=false:=by decide +kernel
 have hx1:(onTheHeap (Value.ref D) && Value.builtin "BaseException.__getattribute__" == Value.builtin "object.__getattribute__")=false:=by rw [hx2];rfl
 unfold getAttr? getAttrBy? getAttrBy;refine q0x (wpAny_mkText (q0x (wpAny_attempt (wpAny_holding (q0x (T0.at (q0x (T1.at ?_))))))));dsimp only;rw [if_neg (by rw [hx1];exact q2x)];unfold getAttrByItsOwn hookBefore;rw [if_pos (show onTheHeap (Value.ref D)=true from rfl)];refine q0x (T3.at ?_)
 repeat (any_goals (first | assumption | wp_step | lk))
 refine codeAny_call_builtin F.excAttr_ValueError.ga.plain F.entry_bexc_ga (ga_check T0 TS (ga_entry (K:=K) X p ha hn htk hm ?_))
 repeat (any_goals (first | assumption | wp_step))
def kitx_exc (hg:findIn K (.ref D) "__getattribute__"=some (some (.builtin "BaseException.__getattribute__"))) (hgg:findIn K (.ref D) "__getattr__"=some none) (hsb:subIn K (.ref D) (.type "BaseException")=some true) (hd:hasDictIn K D=true) (ha:findIn K (.ref D) "__class__"=some (some (.builtin "object.__class__")))
  (hn:specialIn K (.builtin "object.__class__") "__get__"=some (some (.builtin "getset_descriptor.__get__"))) (htk:takesIn K (.builtin "object.__class__")=some true) (hm:mroIn K D (.type "object")=some true) :
  KitX K (.ref x) (.ref D) (ClsAt x D) where
 ty:=λM h _ p=>Xc M h p
 it:=λM h X _=>by
  obtain ⟨c,hc,_⟩:=any_some hd;unfold clsIn at hc
  split at hc
  ·rename_i u1 u2 u3 u4 ho
   intro A' Q' E' s' k q;unfold isType loadHead;exact q0x (wpAny_loadPart (k _ _ (X _ _ ho)) (q0y q))
  ·cases hc
 ne:=λh tp dd its n sl X e=>by
  obtain ⟨c,hc,_⟩:=any_some hd;refine Bool.eq_false_iff.mpr λq=>?_;obtain rfl:D=tp:=Value.ref.inj (beq_iff_eq.mp q);unfold clsIn at hc
  split at hc
  ·rename_i u1 u2 u3 u4 ho
   have z:=(X _ _ ho).symm.trans e;cases z
  ·cases hc
 ca:=λX p k=>ze7 hg hgg hsb ha hn htk hm X p k
end
end My
namespace L2
open PySem PySem.Spec PyProof.Rows
section
variable {X:Cx} {pins:Jd} {σ:St} {H H':Hp} {s s':Sh} {e C:Ad}
structure Mid (X:Cx) (H':Hp) (s:Heap) (s':Heap) (e C:Ad) (B:Heap) (a0:Vl) (T:Ad) (h:Heap):Prop where
 fly:Heap.FlyingW B (X.env::X.outer) e (.ref C) a0 h
 slots:s'.UpToSlots h
def excO (e C:Ad):HO:=.ext (My.ClsAt e C)
end
section
variable {X:Cx} {pins:Jd} {σ σ₀:St} {H H':Hp} {s s':Sh} {R:Ad->Hp->Prop}
structure Disp (P:Program) (w:World) (K:Fg) (mg:J0) (base:Heap) (CX:CXT) (k:Nat) (m:Str) (ps:Jg) (sp:Sp) (C:Ad):Prop where
 cl:Cls K C
 to:∃ (f:Ad) (fd:FuncData),Meth K C m f/\FnOk P w K mg base CX k f fd ps sp/\Binds K fd ps []
end
def YG (w:World) (K:Fg) (a:Ad):Prop:=∃ es n,K.lookup a=some ⟨.type "dict",none,.dict es n,#[]⟩/\PySem.W.KeysLit w.params es.toList
section
variable {X:Cx} {a:Ad} {ke:Expr} {tk:TE} {p pos:Pos} {D:Str}
def top_item {pins:Jd} {σ:St} {H:Hp} {s:Sh} {x:Str} {t:Tok} {u:Vl} {A:Around} {E:Ja} {Q:Ja} (I:Inv X pins σ H s) (T:YG X.w X.K a) (e:PySem.W.nsIn X.K a x=some (some u)) (h:Q u { s with toks:=s.toks+1 }) :
  wpAny (model X.prog X.w) A (getItem (.ref a) (.str x t)) Q E s:=by
 obtain ⟨es,n,hl,hk⟩:=T;exact wpAny_getItem_of (strKind_is X.prog X.w x t) (PySem.W.mapOf_K (prog:=X.prog) I.kIn hl hk) (PySem.W.find_K hl e) h
def top_in {pins:Jd} {σ:St} {H:Hp} {s:Sh} {x:Str} {t:Tok} {r:Jf} {A:Around} {E:Ja} {Q:Ja} (I:Inv X pins σ H s) (T:YG X.w X.K a) (e:PySem.W.nsIn X.K a x=some r) (lo:(a == sysModules)=false) (h:Q (.bool r.isSome) { s with toks:=s.toks+1 }) :
  wpAny (model X.prog X.w) A (compareOp .In (.str x t) (.ref a)) Q E s:=by
 obtain ⟨es,n,hl,hk⟩:=T;exact wpAny_in_of (strKind_is X.prog X.w x t) lo (PySem.W.mapOf_K (prog:=X.prog) I.kIn hl hk) (by rw [PySem.W.find_K hl e];exact h)
inductive rTopIn (w:World) (K:Fg) (x y:V) (H:Hp) (Q:VK):Prop
 | mk (k:Str) (a:Ad) (r:Jf) (_:x=.str k) (_:y=.ref a) (_:YG w K a) (_:(a == sysModules)=false) (_:PySem.W.nsIn K a k=some r) (_:Q (.bl r.isSome) H)
def op_in_top:OpR X (compareOp .In) (rTopIn X.w X.K):=by
 intro pins s σ H x y v u Q I rx ry h;obtain ⟨k,a,r,rfl,rfl,T,lo,e,q⟩:=h;obtain ⟨t,rfl⟩:=(show ∃ t,v=Value.str k t from rx);cases (show u=Value.ref a from ry);exact top_in I T e lo ⟨.bl r.isSome,H,I.tok _,rfl,q⟩
inductive tCallV_S (P:Program) (w:World) (K:Fg) (mg:J0) (base:Heap) (CX:CXT) (k:Nat) (E:XK) (t:TA) (σ:St) (Q:VK) (x:V) (H1:Hp):Prop
 | mk (f:Ad) (fd:FuncData) (ps:Jg) (sp:Sp) (_:x=.ref f) (_:FnOk P w K mg base CX k f fd ps sp) (_:PySem.W.keepIn K (.ref f)=true) (_:Binds K fd ps []) (_:t σ H1 λvs H2=>sp vs H2 Q E)
def tCallV (P:Program) (w:World) (K:Fg) (mg:J0) (base:Heap) (CX:CXT) (k:Nat) (E:XK) (tf:TE) (t:TA):TE:=λσ H Q=>tf σ H λx H1=>tCallV_S P w K mg base CX k E t σ Q x H1
def pe_callV {CX:CXT} {k:Nat} {E:XK} {func e:Expr} {es:Ji} {tf:TE} {t:TA} (hf:PE X func tf) (hr:Room k X.A) (hx:xk CX X E) (ha:PA X (e::es) t)
  (he:starEach (e::es) X.env=(false,eval e X.env)::starEach es X.env:=by rfl) (hpl:(backTo pos (starEach es X.env)).any (·.1)=false:=by rfl)
  (hc:eval (.Call func (e::es) [] pos) X.env=(do callWith pos (← eval func X.env) [] (backTo pos (starEach (e::es) X.env)) (backToKw pos (keywordEach [] X.env))):=by rfl) :
  PE X (.Call func (e::es) [] pos) (tCallV X.prog X.w X.K X.mg X.base CX k E tf t):=by
 intro pins s σ H Q I h;refine Call_ (thn (hf pins s σ H _ I h) λu s1 ⟨x,H1,I1,rx,f,fd,ps,sp,ex,F,hk,hb,q⟩=>?_) hc;subst ex;obtain rfl:u=Value.ref f:=rx;refine PySem.W.callWith_K (h₀:=X.base) I.ok.mod.kin hk (thn (ha pos pins s1 σ H1 _ I1 q) λus s2 ⟨vs,H2,I2,r,q2⟩=>⟨I2.kIn,?_⟩) he hpl;exact zcj (dvs:=[]) (ds:=[]) F hr hb .nil hx I2 r (by simpa using q2)
end
section
variable {X:Cx}
inductive rIxTop (w:World) (K:Fg) (x y:V) (H:Hp) (Q:VK):Prop
 | mk (a:Ad) (k:Str) (u:Vl) (v:V) (_:x=.ref a) (_:y=.str k) (_:YG w K a) (_:PySem.W.nsIn K a k=some (some u)) (_:RelV v u) (_:Q v H)
def ix_top:IxR X (rIxTop X.w X.K):=by
 intro value slice pins s σ H x y v u Q I rx ry h hs;obtain ⟨a,k,u',z,rfl,rfl,T,e,r,q⟩:=h;cases (show v=Value.ref a from rx);obtain ⟨t,rfl⟩:=(show ∃ t,u=Value.str k t from ry);have T':=T;obtain ⟨es,n,hl,hk⟩:=T';exact tail_any (PySem.W.mapOf_K (prog:=X.prog) I.kIn hl hk).typeIs slot_dict_getitem.lookup (top_item I T e ⟨z,H,I.tok _,r,q⟩) hs
structure ExcCls (K:Fg) (C:Ad):Prop where
 hg:PySem.W.findIn K (.ref C) "__getattribute__"=some (some (.builtin "BaseException.__getattribute__"))
 hgg:PySem.W.findIn K (.ref C) "__getattr__"=some none
 hsb:PySem.W.subIn K (.ref C) (.type "BaseException")=some true
 hd:PySem.W.hasDictIn K C=true
 ha:PySem.W.findIn K (.ref C) "__class__"=some (some (.builtin "object.__class__"))
 hn:PySem.W.specialIn K (.builtin "object.__class__") "__get__"=some (some (.builtin "getset_descriptor.__get__"))
 ht:PySem.W.takesIn K (.builtin "object.__class__")=some true
 hm:PySem.W.mroIn K C (.type "object")=some true
def TyX (K:Fg) (H:Hp) (x:V) (t:Vl):Prop:=TyOf K H x t∨∃ e C,x=.ref e/\H e=some (excO e C)/\t=.ref C/\ExcCls K C
inductive rIsi (K:Fg) (vs:Jo) (H:Hp) (Q:VK):Prop
 | mk (x c:V) (cv t:Vl) (b:Bool) (_:vs=[x,c]) (_:RelV c cv) (_:(∀ u,RelV c u->u=cv)) (_:TyX K H x t) (_:PySem.W.kitOne K t cv=some b) (_:Q (.bl b) H)
def zp:Zy X (.builtin "isinstance") (rIsi X.K):=by
 intro pins s σ H xs us Q I r h;obtain ⟨x,c,cv,t,b,rfl,rc,ic,ty,e,q⟩:=h;obtain ⟨u,w',rfl,ru,rw'⟩:=vals2 r;cases ic w' rw';rcases ty with ty | ⟨ea,C,rfl,he,rfl,ec⟩
 ·exact isinst_ok I ru ty e λtk=>⟨.bl b,H,I.tok _,rfl,q⟩
 ·cases (show u=Value.ref ea from ru)
  obtain ⟨p,_⟩:=(show ObjOk X.prog X.w H s.heap ea (excO ea C) from I.hok ea _ he);exact PySem.W.kia_one (My.kitx_exc ec.hg ec.hgg ec.hsb ec.hd ec.ha ec.hn ec.ht ec.hm) I.kIn p e (λz=>nomatch z) λtk=>⟨.bl b,H,I.tok _,rfl,q⟩
end
def z9 {P:Program} {w:World} {base:Heap} {X:Cx}:xk (CXe P w base) X E0:=λ_ _ _ _ _ _ _ h=>by
 obtain ⟨_,_,_,_,_,_,_,_,_,q⟩:=h;exact q.elim
section
variable {P:Program} {w:World} {K:Fg} {mg:J0} {base:Heap}
def Fun.okE {x qual:Str} {st:Stmt} {f:Ad} {fd:FuncData} {N ps:Jg} {k:Nat} {sp:Sp} (F:Fun K x qual st f fd) (S:FnScope N ps (zg st)) (len:∀ vs H Q E,sp vs H Q E->vs.length=ps.length)
  (hbody:∀ (cdv:Vl) (A:Around) (outer:List Env) (s:Sh) (H:Hp) (vs:Jo) (Q:VK) (E:XK),Room k (A.deeper (envOfC qual (zg st) s.heap.objs.size f cdv))->sp vs H Q E ->
   ∃ t,PSs (ZR (CXe P w base) P w K mg base N qual (zg st) f cdv A outer s H E) (yu st) t/\t { nx:=λ_ H'=>Q .non H',rt:=Q } (start N vs) H):FnOk P w K mg base (CXe P w base) (k+1) f fd ps sp:=by
 obtain ⟨oc,od,kV,doc,pm,an,cdv,ct,osl,rfl,lk,hcd⟩:=F.ex;exact fn_of lk hcd S len λA outer s H vs Q E hr hsp=>hbody cdv A outer s H vs Q E hr hsp
def zB (K:Fg) (mg:J0) (x:Str) (st:Stmt) (ps:Jg):Prop:=∃ (f:Ad) (fd:FuncData),mg x=some (.ref f)/\Fun K x x st f fd/\Binds K fd ps []
def defIn_mk {h:Heap} {x:Str} {st:Stmt} {ps:Jg} {f:Ad} {oc:Vl} {od an:Option Ad} {osl:Array (Jf)} {kV doc pm cdv ct:Vl} (X:K.In h) (G:h.Ns mainGlobals mg)
  (a:PySem.W.nsIn K mainGlobals x=some (some (.ref f))) (l:K.lookup f=some ⟨oc,od,.func (PySem.W.fnOf x x (yS st) (yu st) (zg st) .none kV doc pm an cdv ct),osl⟩)
  (c:PySem.W.codeIn K cdv x=true) (k:PySem.W.keepIn K (.ref f)=true)
  (b:∀ (kV doc pm:Vl) (an:Option Ad) (cdv ct:Vl) (us:Je),us.length=ps.length->bindArgs (PySem.W.fnOf x x (yS st) (yu st) (zg st) .none kV doc pm an cdv ct) ⟨us,[]⟩=pure (ps.zip us)):zB K mg x st ps :=
 ⟨f,_,PySem.W.mg_of X G a,YV l c k,(YV l c k).binds b⟩
def Ok (P:Program) (w:World) (K:Fg) (mg:J0) (base:Heap) (CX:CXT) (k:Nat) (x:Str) (ps:Jg) (sp:Sp):Prop :=
 ∃ (f:Ad) (fd:FuncData),mg x=some (.ref f)/\PySem.W.keepIn K (.ref f)=true/\Binds K fd ps []/\FnOk P w K mg base CX k f fd ps sp
end
def zx {X:Cx} {CX:CXT} {k:Nat} {x:Str} {ps:Jg} {sp:Sp} {E:XK} {p pos:Pos} {e:Expr} {es:Ji} {t:TA} (o:Ok X.prog X.w X.K X.mg X.base CX k x ps sp) (hr:Room k X.A) (hg:Gl X x) (hx:xk CX X E) (ha:PA X (e::es) t)
  (hdb:(x == ("__debug__":Str))=false:=by decide) (he:starEach (e::es) X.env=(false,eval e X.env)::starEach es X.env:=by rfl) (hpl:(backTo pos (starEach es X.env)).any (·.1)=false:=by rfl) :
  PE X (.Call (.Name x p) (e::es) [] pos) (tCall sp [] E t):=by
 obtain ⟨f,fd,a,b,c,d⟩:=o;exact pe_call d hr hg a b c .nil hx ha hdb he hpl
theorem zc3:∀ {ns:Jc} {us:Je},Vals (ns.map V.int) us->IntsAre us ns
 | [],_,.nil=>.nil
 | n::ns,_,.cons ⟨t,e⟩ r=>by subst e;exact .cons n t (zc3 r)
section
variable {X:Cx}
end
inductive sp1 (g:Int->V) (vs:Jo) (H:Hp) (Q:VK) (_:XK):Prop
 | mk (n:_) (_:vs=[.int n]) (_:Q (g n) H)
inductive sp2 (C:Int->Int->Prop) (g:Int->Int->Int) (vs:Jo) (H:Hp) (Q:VK) (_:XK):Prop
 | mk (a b:_) (_:vs=[.int a,.int b]) (_:C a b) (_:Q (.int (g a b)) H)
def len1 {g:Int->V}:∀ vs H Q E,sp1 g vs H Q E->vs.length=1:=by rintro vs H Q E ⟨n,e,_⟩;rw [e];rfl
def len2 {C:Int->Int->Prop} {g:Int->Int->Int}:∀ vs H Q E,sp2 C g vs H Q E->vs.length=2:=by rintro vs H Q E ⟨a,b,e,_⟩;rw [e];rfl
def yE {X:Cx} {x:Str} {i:Int} {t:Tok} {pos:Pos} (hm:X.mg x=some (.int i t)) (hg:Gl X x:=by rfl) (hd:(x == ("__debug__":Str))=false:=by decide):PE X (.Name x pos) (tC (.int i)):=zck hg hm (v:=.int i) ⟨_,rfl⟩ hd
def zM {X:Cx} {x:Str} {a:Ad} {pos:Pos} (hm:X.mg x=some (.ref a)) (hg:Gl X x:=by rfl) (hd:(x == ("__debug__":Str))=false:=by decide):PE X (.Name x pos) (tC (.ref a)):=zck hg hm (v:=.ref a) rfl hd
def yY {X:Cx} {x:Str} {n:String} {pos:Pos} (hm:X.mg x=none) (hv:bootBuiltins x=some (.type n)) (hg:Gl X x:=by rfl) (hn:x≠"__name__":=by decide) (hd:(x == ("__debug__":Str))=false:=by decide):PE X (.Name x pos) (tC (.ty n)):=pe_bltn hg hm hv (v:=.ty n) rfl hn hd
abbrev Cx.comp (X:Cx) (scope:Scope) (cl:List (Str×Ad)) (NY:Jg) (s3:Sh) (H3:Hp) (fp:Jh):Cx :=
 { X with N:=NY,s₀:=s3,H₀:=H3,env:=compEnvC scope cl s3.heap.objs.size X.env,outer:=X.stack,ex:=fp,fn:=λ_=>false,pn:=[],xe:=λ_ _=>False }
abbrev Lz:Obj:={ cls:=.type "list",data:=.seq ([]:Je).toArray }
abbrev pz (s:Sh):Sh:={ s with heap:=s.heap.push Lz }
abbrev Xz (X:Cx) (scope:Scope) (cl:List (Str×Ad)) (NY:Jg) (s2:Sh) (H2:Hp) (fp:Jh):Cx:=X.comp scope cl NY (pz s2) (upd H2 s2.heap.objs.size (.lst [])) fp
structure Sees (X:Cx) (scope:Scope) (cl:List (Str×Ad)):Prop where
 kind:scope.kind=.function
 clos:closureFor scope X.env=pure cl
 nocell:∀ y∈scope.names,y.2≠.cell
 names:∀ y∈scope.names,y.2=.local->scope.names.lookup y.1=some .local
 sub:∀ x c,cl.lookup x=some c->X.env.cells.lookup x=some c
 has:∀ x,((compEnvC scope cl 0 X.env).kindOf x=some .cell∨(compEnvC scope cl 0 X.env).kindOf x=some .free)->∃ c,cl.lookup x=some c
section
variable {X:Cx} {pins:Jd} {σ:St} {H3:Hp} {s3:Sh} {scope:Scope} {cl:List (Str×Ad)} {NY:Jg} {fp:Jh}
def comp_ok (I:Inv X pins σ H3 s3) (S:Sees X scope cl) (hfp:∀ b∈fp,YX X pins H3 b) (hob:∀ b∈fp,∃ o,s3.heap.get? b=some o):(X.comp scope cl NY s3 H3 fp).Ok where
 mod:=I.ok.mod
 kind:=S.kind
 glob:=I.ok.glob
 blt:=I.ok.blt
 above:=Nat.le_refl _
 inj:=λx y c a b=>I.ok.inj x y c (S.sub _ _ a) (S.sub _ _ b)
 has:=λx h=>S.has x h
 cab:=λ_ _ h=>nomatch h
 hd:=I.ok.hd
 frames:=I.ok.frames
 stk:=.inl rfl
 exf:=λb hb=>⟨λz=>by
  obtain ⟨o,q⟩:=hob b hb;exact absurd (Heap.lt_size q) (by rw [z];exact Nat.lt_irrefl _),λx c q=>(hfp b hb).2.2.2.2.1 x c (S.sub _ _ q)⟩
 bs:=I.bs
 bsz:=Nat.le_trans I.ok.bsz I.sz
 noex:=λb o q hb=>by
  rcases (hfp b hb).2.2.2.1 with z | z
  ·exact I.ok.noex b o q z
  ·exact absurd (q2z (Heap.lt_size q) (Nat.le_trans I.ok.bsz z)) (Nat.lt_irrefl _)
 exfs:=λb hb z=>by
  rcases List.mem_cons.mp (I.stkSub b z) with y | y
  ·exact (hfp b hb).2.1 y
  ·exact (hfp b hb).2.2.1 y
 funs:=I.stack
 frf:=I.stkFree
def zd7 {h1:Heap} {t:Nat} {σY:St} (I:Inv X pins σ H3 s3) (S:Sees X scope cl) (hfp:∀ b∈fp,YX X pins H3 b) (hob:∀ b∈fp,∃ o,s3.heap.get? b=some o)
  (hn:h1.Ns s3.heap.objs.size λ_=>none) (hk:∀ b o,s3.heap.get? b=some o->h1.get? b=some o) (hl:σY.length=NY.length)
  (hσ:∀ (i:Nat) (x:Str) (v:V),NY[i]?=some x->σY[i]?=some (some v)->∃ c u,(((compEnvC scope cl 0 X.env).kindOf x=some .cell∨(compEnvC scope cl 0 X.env).kindOf x=some .free))/\cl.lookup x=some c/\RelV v u/\s3.heap.IsCell c (some u)) :
  Inv (X.comp scope cl NY s3 H3 fp) [] σY H3 { s3 with heap:=h1,toks:=t } where
 ok:=comp_ok I S hfp hob
 os:=rfl
 bare:=I.bare
 base:=Un.kept hk
 loc:=⟨_,hn,λi x v e1 e2 _=>by
  obtain ⟨c,u,k,q,r,z⟩:=hσ i x v e1 e2;obtain ⟨o,z1,z2⟩:=z;exact ⟨u,r,.inr ⟨k,c,q,o,hk _ _ z1,z2⟩⟩⟩
 cell:=λx c q=>by
  obtain ⟨v,o,z1,z2⟩:=I.cell x c (S.sub _ _ q);exact ⟨v,o,hk _ _ z1,z2⟩
 free:=I.hok.fresh (Nat.le_refl _)
 freeC:=λx c q=>I.freeC x c (S.sub _ _ q)
 pin:=λp hp=>absurd hp (by simp)
 hok:=I.hok.kept hk
 len:=hl
def zbz {Y:Jd} {σY:St} {H':Hp} {s':Sh} {h':Heap} (I:Inv X pins σ H3 s3) (hfp:∀ b∈fp,YX X pins H3 b) (J:Inv (X.comp scope cl NY s3 H3 fp) Y σY H' s') (hs:Heap.SameBut s3.heap.objs.size s'.heap h') :
  Inv X pins σ H' { s' with heap:=h' }:=by
 have ne:∀ b o,s3.heap.get? b=some o->b≠s3.heap.objs.size:=λb o q=>Nat.ne_of_lt (Heap.lt_size q);have B:=J.base;refine I.call' (s':={ s' with heap:=h' }) (ch:=fp) J.os ⟨λb o q n hb hx=>?_,λb o q n hb hx=>?_,B.free,λb o q hx=>?_,B.tups,B.frzs,B.tbls⟩ (λb o q=>?_) J.bare λb hb=>?_
 ·exact (hs.2 b (ne b o q)).trans (B.keep b o q n hb hx)
 ·obtain ⟨sl,z⟩:=B.slot b o q n hb hx
  exact ⟨sl,(hs.2 b (ne b o q)).trans z⟩
 ·obtain ⟨o',z⟩:=B.there b o q hx
  exact ⟨o',(hs.2 b (ne b o q)).trans z⟩
 ·have hf:H' s3.heap.objs.size=none:=J.free
  refine (J.hok b o q).stay (λc v hc r=>(hs.2 c ?_).trans r) (λ_ z=>z) λ_ _ z=>z;rintro rfl;rcases hc with z | z
  ·rw [← z,hf] at q;cases q
  ·rw [hf] at z;cases z
 ·obtain ⟨_,f2,_,f4,f5,f6⟩:=hfp b hb
  exact ⟨f4,f2,f5,f6⟩
end
section
variable {prog:Program} {w:World} {A:Around} {R:Result->Sh->Prop} {s:Sh}
theorem comp_loop {elt target iter:Expr} {scope:Scope} {pos:Pos} {it acc:Vl} {env:Env} (I:Nat->Sh->Prop)
  (turn:∀ n s,I n s->wpAny (model prog w) A (pyNext it) (λr s₁=>match r with
   | none=>R (.ok .next) s₁
   | some v=>wpAny (model prog w) A (letOwnedTupleGo target it v) (λ_ s₂=>wpAny (model prog w) A (assign target env v) (λ_ s₃=>wpAny (model prog w) A (eval elt env) (λx s₄ =>
     wpAny (model prog w) A (call (.builtin "list.append") [acc,x]) (λ_ s₅=>∃ m,m<n/\I m s₅) (λ_ _=>False) s₄) (λ_ _=>False) s₃) (λ_ _=>False) s₂) (λ_ _=>False) s₁) (λ_ _=>False) s)
  (n:Nat) (h:I n s):codeAny (model prog w) A (.compLoop (.ListComp elt [⟨target,iter,[],0⟩] scope pos) 0 it acc env) R s:=by
 refine codeAny_loop rfl I (λn s hI=>?_) n h;show wpAny _ _ ((compTurn (.ListComp elt [⟨target,iter,[],0⟩] scope pos) 0 it acc env).onRaise (λx=>do noteFrame x env;theTreesLotGoes x)) _ _ s;refine wpAny_noted ?_;rw [compTurn_list1];refine q0x (wpAny_standAt (q0x (wpAny_mono (turn n s hI) (λr s₁ h₁=>?_) λ_ _ z=>z.elim)))
 cases r with
 | none=>exact q0y h₁
 | some v =>
  refine q0x (wpAny_mono h₁ (λ_ s₂ h₂=>?_) λ_ _ z=>z.elim);refine q0x (wpAny_mono h₂ (λ_ s₃ h₃=>?_) λ_ _ z=>z.elim);refine q0x (q0x (wpAny_mono h₃ (λx s₄ h₄=>?_) λ_ _ z=>z.elim));exact q0x (wpAny_mono h₄ (λ_ s₅ h₅=>q0y (q0y ⟨rfl,h₅⟩)) λ_ _ z=>z.elim)
end
inductive CompW (J:It) (g:TG) (te:TE) (σY:St) (H1:Hp) (D:Ad) (Q:VK):Prop
 | mk (W:Nat->Nat->St->Hp->Prop) (_:(∃ m,W 0 m σY H1)) (_:∀ i m σ' H',W i m σ' H'->(J.stop i H'/\Q (.ref D) H')∨(J.go i H'/\∃ N:St->Hp->Prop,(∀ σ2 H2,N σ2 H2->∃ m',m'<m/\W (i+1) m' σ2 H2)/\∀ x H2,J.yld i H' x H2->g x σ' H2 λσ3 H3=>te σ3 H3 λv H4=>∃ xs,H4 D=some (.lst xs)/\xs.length<sizeLine/\N σ3 (upd H4 D (.lst (xs++[v]))))):CompW J g te σY H1 D Q
inductive tComp_S (g:TG) (te:TE) (σ0:St->Hp->St->Prop) (σ:St) (Q:VK) (J:It) (H1:Hp):Prop
 | mk (σY:_) (_:σ0 σ H1 σY) (_:∀ D,H1 D=none->CompW J g te σY (upd H1 D (.lst [])) D Q)
def tComp (wi:TI) (g:TG) (te:TE) (σ0:St->Hp->St->Prop):TE:=λσ H Q=>wi σ H λJ H1=>tComp_S g te σ0 σ Q J H1
section
variable {X:Cx} {tg:Expr}
structure CompEnd (X:Cx) (pins:Jd) (σ:St) (H5:Hp) (s6:Sh) (C:Ad):Prop where
 ns:∃ m,s6.heap.Ns C m
 hn:H5 C=none
 hL:C≠X.env.locals
 h1:X.s₀.heap.objs.size<=C
 h2:∀ x c,X.env.cells.lookup x=some c->c≠C
 h3:∀ p∈X.pn++pins,p.1≠C
 inv:∀ h',Heap.SameBut C s6.heap h'->Inv X pins σ H5 { s6 with heap:=h' }
def zby {iter elt:Expr} {scope:Scope} {pos pos':Pos} {cl:List (Str×Ad)} {NY:Jg} {wi:TI} {g:TG} {te:TE} {σ0:St->Hp->St->Prop} (hc:X.calm=true) (S:Sees X scope cl) (hi:PI X tg iter wi)
  (hY:∀ (s3:Sh) (H3:Hp) (fp:Jh),PG (X.comp scope cl NY s3 H3 fp) tg g/\PE (X.comp scope cl NY s3 H3 fp) elt te)
  (h0:∀ (pins:Jd) (σ:St) (H:Hp) (s3:Sh) (σY:St),Inv X pins σ H s3->σ0 σ H σY->σY.length=NY.length/\∀ (i:Nat) (x:Str) (v:V),NY[i]?=some x->σY[i]?=some (some v) ->
   ∃ c u,(((compEnvC scope cl 0 X.env).kindOf x=some .cell∨(compEnvC scope cl 0 X.env).kindOf x=some .free))/\cl.lookup x=some c/\RelV v u/\s3.heap.IsCell c (some u))
  (hs:∀ x,foldedSetIterable iter X.env x=pure x) {use:Option (Vl->Sem Unit)} {R:Ja} {pins:Jd} {s:Sh} {σ:St} {H:Hp} {Q:VK} (I:Inv X pins σ H s) (h:tComp wi g te σ0 σ H Q)
  (fin:∀ (C D:Ad) (H5:Hp) (s6:Sh),CompEnd X pins σ H5 s6 C->Q (.ref D) H5->compPost (model X.prog X.w) X.A X.xe use R (.ref D) C (.ok .next) s6) :
  wpAny (model X.prog X.w) X.A (comprehension (.ListComp elt [⟨tg,iter,[],0⟩] scope pos) scope X.env pos' (newList []) (firstAsync [⟨tg,iter,[],0⟩]) (firstIter [⟨tg,iter,[],0⟩] X.env) use) R X.xe s:=by
 refine wpAny_comprehension_free rfl hs S.clos S.kind S.names (thn (hi pins s σ H _ I h) λv s1 h1=>thn h1 λitv s2 h2=>?_);obtain ⟨it,fp,tn,J,H2,e,I2,T,st2,f2,σY,hσ,hW⟩:=h2;subst e;refine wpAny_newObj_type ?_;have I3:Inv X pins σ (upd H2 s2.heap.objs.size (.lst [])) (pz s2):=I2.lnew (t':=s2.toks) (its:=[]) .nil (Nat.zero_le _);obtain ⟨W,⟨m0,w0⟩,turn⟩:=hW s2.heap.objs.size (I2.hok.fresh (Nat.le_refl _));have ob2:=T.obj _ _ st2
 have hfp:∀ b∈fp,YX X pins (upd H2 s2.heap.objs.size (.lst [])) b:=λb hb=>by
  obtain ⟨o,q,_⟩:=ob2 b hb;exact ⟨by rw [zF (Nat.ne_of_lt (Heap.lt_size q))];exact (f2 b hb).1,(f2 b hb).2⟩
 have hob:∀ b∈fp,∃ o,(s2.heap.push Lz).get? b=some o:=λb hb=>by
  obtain ⟨o,q,_⟩:=ob2 b hb;exact ⟨o,Heap.get?_push_of_some _ q⟩
 refine wpAny_newFunctionEnv S.nocell (λy hy=>absurd hy (by simp)) (λh1 hn1 hs1=>?_) S.kind;obtain ⟨hl,hY0⟩:=h0 pins σ H2 s2 σY I2 hσ;have k23:∀ b o,s2.heap.get? b=some o->(s2.heap.push Lz).get? b=some o:=λb o q=>Heap.get?_push_of_some _ q;have k34:∀ b o,(s2.heap.push Lz).get? b=some o->h1.get? b=some o:=λb o q=>(hs1.2 b (Nat.ne_of_lt (Heap.lt_size q))).trans (Heap.get?_push_of_some _ q)
 have I4:=zd7 (scope:=scope) (cl:=cl) (NY:=NY) (fp:=fp) (h1:=h1) (t:=s2.toks) (σY:=σY) I3 S hfp hob hn1 k34 hl λi x v e1 e2=>by
  obtain ⟨c,u,k,q,r,o,z1,z2⟩:=hY0 i x v e1 e2;exact ⟨c,u,k,q,r,o,k23 _ _ z1,z2⟩
 have st4:tn 0 h1:=T.keep _ _ _ st2 λb hb o q=>k34 _ _ (k23 _ _ q);have fr4:∀ b∈fp,(upd H2 s2.heap.objs.size (.lst [])) b=none:=λb hb=>(hfp b hb).1;obtain ⟨hg,he⟩:=hY (pz s2) (upd H2 s2.heap.objs.size (.lst [])) fp;have okY:=I4.ok
 have statY:∀ {H':Hp},(∀ b∈fp,H' b=none)->∀ b∈fp,YX (Xz X scope cl NY s2 H2 fp) [] H' b :=
  λhn b hb=>⟨hn b hb,(okY.exf b hb).1,okY.exfs b hb,.inl hb,(okY.exf b hb).2,λp hp=>absurd hp (by simp)⟩
 have loop:codeAny (model X.prog X.w) X.A (.compLoop (.ListComp elt [⟨tg,iter,[],0⟩] scope pos) 0 (.ref it) (.ref s2.heap.objs.size) (compEnvC scope cl (s2.heap.push Lz).objs.size X.env))
   (compPost (model X.prog X.w) X.A X.xe use R (.ref s2.heap.objs.size) (s2.heap.push Lz).objs.size) { s2 with heap:=h1,toks:=s2.toks }:=by
  refine comp_loop (λn s'=>∃ i σ' H',Inv (Xz X scope cl NY s2 H2 fp) [] σ' H' s'/\tn i s'.heap/\(∀ b∈fp,H' b=none)/\W i n σ' H') ?_ m0 ⟨0,σY,_,I4,st4,fr4,w0⟩;rintro n s5 ⟨i,σ5,H5,I5,st5,fr5,w5⟩;rcases turn i n σ5 H5 w5 with ⟨stop,q⟩ | ⟨go,N,hN,step⟩
  ·refine thn (T.done (Xz X scope cl NY s2 H2 fp) rfl rfl rfl hc i [] s5 σ5 H5 _ I5 (statY fr5) st5 stop) λr s6 ⟨hr,I6⟩=>?_
   subst hr;obtain ⟨m,hm,_⟩:=I6.loc;refine fin _ _ H5 s6 ⟨⟨m,hm⟩,I6.free,Ne.symm (Nat.ne_of_lt I3.lt),I3.sz,λx c z=>?_,λp hp=>?_,λh' hs'=>zbz I3 hfp I6 hs'⟩ q
   ·obtain ⟨_,o,z1,_⟩:=I3.cell x c z
    exact Nat.ne_of_lt (Heap.lt_size z1)
   ·exact Nat.ne_of_lt (Heap.lt_size (I3.pin p hp).1)
  ·refine thn (T.item (Xz X scope cl NY s2 H2 fp) rfl rfl rfl hc i [] s5 σ5 H5 _ I5 (statY fr5) st5 go) λr s6 ⟨u,hr,h6⟩=>?_
   subst hr;refine thn h6 λ_ s7 ⟨x,H7,I7,r7,y7,st7,fr7⟩=>?_;have I7':=I7.pinned (statY fr7) (T.obj _ _ st7);refine thn (hg _ s7 σ5 H7 x u _ I7' r7 (step x H7 y7)) λ_ s8 ⟨σ8,H8,I8,q8⟩=>?_;refine thn (he _ s8 σ8 H8 _ I8 q8) λz s9 ⟨v9,H9,I9,r9,xs,hx9,hz9,n9⟩=>?_;refine thn (yh _ s9 σ8 H9 (.ref s2.heap.objs.size) [v9] (.ref s2.heap.objs.size) [z] (λ_ H'=>H'=upd H9 s2.heap.objs.size (.lst (xs++[v9]))) I9 rfl (.cons r9 .nil) ⟨s2.heap.objs.size,xs,v9,rfl,rfl,hx9,hz9,rfl⟩) λy s10 ⟨v10,H10,I10,_,e10⟩=>?_;subst e10;obtain ⟨m',hm,w10⟩:=hN _ _ n9;refine ⟨m',hm,i+1,σ8,_,I10.unpinned,T.keep _ _ _ st7 λb hb o q=>(I10.pin (b,o) (q2y _ (q2y _ (xK hb q)))).1,λb hb=>?_,w10⟩;obtain ⟨o,q,d⟩:=T.obj _ _ st7 b hb;exact (I10.pin (b,o) (q2y _ (q2y _ (xK hb q)))).2.1
 exact codeAny_compStart_list loop (T.self _ 0 _ _ _ st4 loop)
def pe_comp {iter elt:Expr} {scope:Scope} {pos:Pos} {cl:List (Str×Ad)} {NY:Jg} {wi:TI} {g:TG} {te:TE} {σ0:St->Hp->St->Prop} (hc:X.calm=true) (S:Sees X scope cl) (hi:PI X tg iter wi)
  (hY:∀ (s3:Sh) (H3:Hp) (fp:Jh),PG (X.comp scope cl NY s3 H3 fp) tg g/\PE (X.comp scope cl NY s3 H3 fp) elt te)
  (h0:∀ (pins:Jd) (σ:St) (H:Hp) (s3:Sh) (σY:St),Inv X pins σ H s3->σ0 σ H σY->σY.length=NY.length/\∀ (i:Nat) (x:Str) (v:V),NY[i]?=some x->σY[i]?=some (some v) ->
   ∃ c u,(((compEnvC scope cl 0 X.env).kindOf x=some .cell∨(compEnvC scope cl 0 X.env).kindOf x=some .free))/\cl.lookup x=some c/\RelV v u/\s3.heap.IsCell c (some u))
  (hs:∀ x,foldedSetIterable iter X.env x=pure x:=by intro _;rfl) :
  PE X (.ListComp elt [⟨tg,iter,[],0⟩] scope pos) (tComp wi g te σ0):=by
 intro pins s σ H Q I h;rw [eval_ListComp];refine zby (use:=none) hc S hi hY h0 hs I h λC D H5 s6 e q=>?_;obtain ⟨m,hm⟩:=e.ns;exact ⟨m,hm,λh' hs'=>⟨.ref D,H5,e.inv h' hs',rfl,q⟩⟩
def ps_comp {iter elt:Expr} {scope:Scope} {pos pos' spos:Pos} {cl:List (Str×Ad)} {NY:Jg} {wi:TI} {g:TG} {te:TE} {σ0:St->Hp->St->Prop} {i:Nat} {y:Str} (hc:X.calm=true) (S:∀ {pins σ H s},Inv X pins σ H s->Sees X scope cl) (hi:PI X tg iter wi)
  (hY:∀ (s3:Sh) (H3:Hp) (fp:Jh),PG (X.comp scope cl NY s3 H3 fp) tg g/\PE (X.comp scope cl NY s3 H3 fp) elt te)
  (h0:∀ (pins:Jd) (σ:St) (H:Hp) (s3:Sh) (σY:St),Inv X pins σ H s3->σ0 σ H σY->σY.length=NY.length/\∀ (i:Nat) (x:Str) (v:V),NY[i]?=some x->σY[i]?=some (some v) ->
   ∃ c u,(((compEnvC scope cl 0 X.env).kindOf x=some .cell∨(compEnvC scope cl 0 X.env).kindOf x=some .free))/\cl.lookup x=some c/\RelV v u/\s3.heap.IsCell c (some u))
  (hs:∀ x,foldedSetIterable iter X.env x=pure x) (hN:X.N.Nodup) (hi':X.N[i]?=some y) (hx:Loc X.env.scope y) (hf:X.fn y=true∨X.env.scope.names.lookup y=some .local)
  (hw:swapsWith (.ListComp elt [⟨tg,iter,[],0⟩] scope pos) (some (.Name y pos')) spos.line X.env=pure true):PS X (.Assign [.Name y pos'] (.ListComp elt [⟨tg,iter,[],0⟩] scope pos) spos) (tAsg (tComp wi g te σ0) (XB i)):=by
 intro pins s σ H D I h;rw [exec_Assign_Name_used _ _ _ _ hw,arm_evalThenUse_ListComp];refine q0x (wpAny_standAt (q0x (q0x (wpAny_mono (zby (use:=some (assign (.Name y pos') X.env)) (R:=λ_ s'=>SP X pins D .next s') hc (S I) hi hY h0 hs I h λC L H5 s6 e q=>?_) (λ_ s' z=>q0y (q0y z)) λ_ _ z=>z))));obtain ⟨m,hm⟩:=e.ns;have I6:Inv X pins σ H5 s6:=e.inv s6.heap ⟨rfl,λ_ _=>rfl⟩;refine wpAny_assign_Name (za7 I6 hN hi' hx (v:=.ref L) rfl (λs' I' ⟨a,sb,ha⟩=>?_) hf)
 have ne:C≠a:=by
  rintro rfl;rcases ha with z | z
  ·exact e.hL z
  ·exact e.h2 _ _ z rfl
 refine ⟨m,?_,λh' hs'=>?_⟩
 ·obtain ⟨o,es,ep,z,r⟩:=hm
  exact ⟨o,es,ep,(sb.2 _ ne).trans z,r⟩
 ·exact ⟨_,H5,I'.turned (t':=s'.toks) (it:=C) (λb o nb z=>(hs'.2 b nb).trans z) e.hn e.hL (.inr e.h1) e.h2 e.h3,q⟩
end
def YF {K:Fg} {a D:Ad} {xs:Jo} {g:TG} {te:TE} {σY:St} {H1:Hp} {Q:VK} (Pv:Nat->St->Hp->Prop) (h0:Pv 0 σY H1) (hl:∀ i σ H,i<=xs.length->Pv i σ H->SqL K H a xs)
  (hs:∀ i x σ H,xs[i]?=some x->Pv i σ H->g x σ H λσ3 H3=>te σ3 H3 λv H4=>∃ ys,H4 D=some (.lst ys)/\ys.length<sizeLine/\Pv (i+1) σ3 (upd H4 D (.lst (ys++[v])))) (hd:∀ σ H,Pv xs.length σ H->Q (.ref D) H) :
  CompW (Itl K a) g te σY H1 D Q:=by
 refine ⟨λi m σ H=>m=xs.length-i/\i<=xs.length/\Pv i σ H,⟨xs.length,by simp,Nat.zero_le _,h0⟩,?_⟩;rintro i m σ H ⟨rfl,hi,p⟩;have q:=hl i σ H hi p;by_cases hlt:i<xs.length
 ·refine .inr ⟨⟨xs,xs[i],q,by simp [hlt]⟩,Pv (i+1),λσ' H' p'=>⟨xs.length-(i+1),by omega,rfl,hlt,p'⟩,λx H' y=>?_⟩
  obtain ⟨e,y⟩:=y;subst e;exact hs i x σ _ (y xs q) p
 ·have e:i=xs.length:=by omega
  subst e;exact .inl ⟨⟨xs,q,Nat.le_refl _⟩,hd σ H p⟩
def clGo (env:Env):List (Str×NameKind)->List (Str×Ad)->List (Str×Ad)
 | [],cs=>cs
 | y::r,cs=>clGo env r (if y.2 == .free then (y.1,(env.cells.lookup y.1).getD 0)::cs else cs)
abbrev Ym (env:Env) (scope:Scope):List (Str×Ad):=clGo env scope.names []
def ze6 {scope:Scope} {env:Env} (h:∀ y∈scope.names,y.2=.free->∃ c,env.cells.lookup y.1=some c):closureFor scope env=pure (Ym env scope):=by
 rw [closureFor.eq_1]
 suffices q:∀ (names:List (Str×NameKind)) (cs:List (Str×Ad)),(∀ y∈names,y.2=.free->∃ c,env.cells.lookup y.1=some c) ->
   (do
    let s ← forIn names cs λx __s =>
     have cs:=__s
     match x with
     | (name,kind) =>
      if (kind == NameKind.free)=true then do
       let l ← cellOf env name;have cs:List (Str×Ad):=(name,l)::cs
       pure (ForInStep.yield cs)
      else pure (ForInStep.yield cs)
    pure s:Sem (List (Str×Ad)))=pure (clGo env names cs) from (congrArg (λ(m:Sem (List (Str×Ad)))=>m >>= λs=>(pure s:Sem (List (Str×Ad)))) (q scope.names [] h)).trans rfl
 intro names
 induction names with
 | nil=>intro cs _;rfl
 | cons y r ih =>
  intro cs h;obtain ⟨n,k⟩:=y;have hr:=λy hy=>h y (q1y _ hy);rw [List.forIn_cons];show _=pure (clGo env r (if k == .free then (n,(env.cells.lookup n).getD 0)::cs else cs));by_cases e:k=.free
  ·subst e
   obtain ⟨c,hc⟩:=h (n,.free) q1z rfl;have e1:cellOf env n=pure c:=by unfold cellOf;rw [show env.cells.lookup n=some c from hc]
   simp only [e1,show env.cells.lookup n=some c from hc,Option.getD_some,beq_self_eq_true,if_true];exact ih _ hr
  ·have e0:(k == NameKind.free)=false:=by simp [e]
   simp only [e0,Bool.false_eq_true,if_false];exact ih _ hr
theorem zd8 {env:Env} {x:Str} {c:Ad}:∀ {names:List (Str×NameKind)} {cs:List (Str×Ad)},(∀ y∈names,y.2=.free->∃ c,env.cells.lookup y.1=some c)->(∀ x c,cs.lookup x=some c->env.cells.lookup x=some c)->(clGo env names cs).lookup x=some c->env.cells.lookup x=some c
 | [],cs,_,hc,h=>hc _ _ h
 | (n,k)::r,cs,hn,hc,h=>by
  refine zd8 (λy hy=>hn y (q1y _ hy)) (λx c q=>?_) h;by_cases e:k=.free
  ·subst e
   obtain ⟨c',hc'⟩:=hn (n,.free) q1z rfl;simp only [beq_self_eq_true,if_true,show env.cells.lookup n=some c' from hc',Option.getD_some,List.lookup_cons] at q;by_cases z:x=n
   ·subst z;simp at q;rw [← q];exact hc'
   ·have z':(x == n)=false:=by simp [z]
    rw [z'] at q;exact hc _ _ q
  ·have e0:(k == NameKind.free)=false:=by simp [e]
   rw [e0] at q;exact hc _ _ q
theorem zb0 {env:Env} {x:Str}:∀ {names:List (Str×NameKind)} {cs:List (Str×Ad)},(∃ c,cs.lookup x=some c)->∃ c,(clGo env names cs).lookup x=some c
 | [],_,h=>h
 | (n,k)::r,cs,h=>by
  refine zb0 (names:=r) ?_;by_cases e:(k == NameKind.free)=true
  ·simp only [e,if_true,List.lookup_cons]
   cases hx:x == n with
   | true=>exact ⟨_,rfl⟩
   | false=>exact h
  ·simp only [e,if_false];exact h
theorem zal {env:Env} {x:Str}:∀ {names:List (Str×NameKind)} {cs:List (Str×Ad)},(x,NameKind.free)∈names->∃ c,(clGo env names cs).lookup x=some c
 | (n,k)::r,cs,h=>by
  rcases List.mem_cons.mp h with e | e
  ·cases e
   refine zb0 (names:=r) ⟨(env.cells.lookup x).getD 0,?_⟩;simp
  ·show ∃ c,(clGo env r _).lookup x=some c
   exact zal e
def XY (X:Cx) (scope:Scope):Bool :=
 (match scope.kind with | .function=>true | _=>false) && scope.names.all λy=>match y.2 with
  | .cell=>false
  | .free=>(match X.env.kindOf y.1 with | some .cell=>true | some .free=>true | _=>false)
  | .local=>(match scope.names.lookup y.1 with | some .local=>true | _=>false)
  | _=>true
def YZ {X:Cx} {scope:Scope} (ok:X.Ok) (h:XY X scope=true):Sees X scope (Ym X.env scope):=by
 unfold XY at h;rw [Bool.and_eq_true,List.all_eq_true] at h;obtain ⟨hk,hn⟩:=h
 have fr:∀ y∈scope.names,y.2=.free->∃ c,X.env.cells.lookup y.1=some c:=λy hy e=>by
  have q:=hn y hy;rw [e] at q;refine ok.has y.1 ?_;revert q;dsimp only
  split
  ·rename_i z;intro _;exact .inl z
  ·rename_i z;intro _;exact .inr z
  ·intro q;cases q
 refine ⟨?_,ze6 fr,λy hy e=>?_,λy hy e=>?_,λx c q=>zd8 fr (λ_ _ z=>by cases z) q,λx q=>?_⟩
 ·revert hk
  cases scope.kind <;> simp
 ·have q:=hn y hy
  rw [e] at q;exact q2x q
 ·have q:=hn y hy
  rw [e] at q;revert q;dsimp only
  split
  ·rename_i z;intro _;exact z
  ·intro q;cases q
 ·have key:∀ k,(compEnvC scope (Ym X.env scope) 0 X.env).kindOf x=some k->(k=.cell∨k=.free)->(x,NameKind.free)∈scope.names:=by
   intro k hk' hkk;have q:((scope.names.map λy=>match y with | (n,k)=>if (k == NameKind.free && X.env.scope.kind == ScopeKind.function && X.env.kindOf n == some NameKind.cell)=true then (n,NameKind.cell) else (n,k))).lookup x=some k:=hk'
   obtain ⟨n,k',e1,e2⟩:∃ n k',(n,k')∈scope.names/\(match (n,k') with | (n,k)=>if (k == NameKind.free && X.env.scope.kind == ScopeKind.function && X.env.kindOf n == some NameKind.cell)=true then (n,NameKind.cell) else (n,k))=(x,k):=by
    have m:(x,k)∈(scope.names.map λy=>match y with | (n,k)=>if (k == NameKind.free && X.env.scope.kind == ScopeKind.function && X.env.kindOf n == some NameKind.cell)=true then (n,NameKind.cell) else (n,k)):=by
     revert q;generalize (scope.names.map λy=>match y with | (n,k)=>if (k == NameKind.free && X.env.scope.kind == ScopeKind.function && X.env.kindOf n == some NameKind.cell)=true then (n,NameKind.cell) else (n,k))=l
     induction l with
     | nil=>intro q;cases q
     | cons a l ih =>
      intro q;obtain ⟨a1,a2⟩:=a;rw [List.lookup_cons] at q
      cases hx:x == a1 with
      | true=>rw [hx] at q;cases q;have:=beq_iff_eq.mp hx;subst this;exact q1z
      | false=>rw [hx] at q;exact q1y _ (ih q)
    obtain ⟨⟨n,k'⟩,h1,h2⟩:=List.mem_map.mp m;exact ⟨n,k',h1,h2⟩
   dsimp only at e2
   split at e2
   ·rename_i z
    cases e2;simp only [Bool.and_eq_true,beq_iff_eq] at z;rw [z.1.1] at e1;exact e1
   ·cases e2
    rcases hkk with rfl | rfl
    ·have z:=hn _ e1
     exact absurd z q2x
    ·exact e1
  rcases q with q | q
  ·exact zal (key _ q (.inl rfl))
  ·exact zal (key _ q (.inr rfl))
def zao (X:Cx) (scope:Scope):Jg->List (Option Nat)->Bool
 | [],[]=>true
 | _::r,none::c=>zao X scope r c
 | x::r,some j::c=>(match X.N[j]? with | some y=>x == y | none=>false) && (match (compEnvC scope (Ym X.env scope) 0 X.env).kindOf x with | some .cell=>true | some .free=>true | _=>false)
   && (match X.env.kindOf x with | some .cell=>true | some .free=>true | _=>false) && zao X scope r c
 | _,_=>false
def capt (cap:List (Option Nat)) (σ:St):St:=cap.map λo=>o.bind λj=>(σ[j]?).join
theorem Xd {X:Cx} {scope:Scope} {pins:Jd} {σ:St} {H:Hp} {s:Sh} (I:Inv X pins σ H s) (S:Sees X scope (Ym X.env scope)):∀ {NY:Jg} {cap:List (Option Nat)},zao X scope NY cap=true->(capt cap σ).length=NY.length/\∀ (i:Nat) (x:Str) (v:V),NY[i]?=some x->(capt cap σ)[i]?=some (some v) ->
   ∃ c u,(((compEnvC scope (Ym X.env scope) 0 X.env).kindOf x=some .cell∨(compEnvC scope (Ym X.env scope) 0 X.env).kindOf x=some .free))/\(Ym X.env scope).lookup x=some c/\RelV v u/\s.heap.IsCell c (some u)
 | [],[],_=>⟨rfl,λi x v e _=>by cases e⟩
 | [],_::_,h=>by cases h
 | y::r,[],h=>by cases h
 | y::r,none::c,h=>by
  obtain ⟨l,q⟩:=Xd I S (NY:=r) (cap:=c) h;refine ⟨by rw [q3x,← l];rfl,λi x v e1 e2=>?_⟩
  cases i with
  | zero=>cases e2
  | succ i=>exact q i x v e1 e2
 | y::r,some j::c,h=>by
  unfold zao at h;rw [Bool.and_eq_true,Bool.and_eq_true,Bool.and_eq_true] at h;obtain ⟨⟨⟨h1,h2⟩,h3⟩,h4⟩:=h;obtain ⟨l,q⟩:=Xd I S (NY:=r) (cap:=c) h4;refine ⟨by rw [q3x,← l];rfl,λi x v e1 e2=>?_⟩
  cases i with
  | succ i=>exact q i x v e1 e2
  | zero =>
   have ey:y=x:=Option.some.inj e1;subst ey;have ev:(σ[j]?).join=some v:=Option.some.inj e2
   have hσ:σ[j]?=some (some v):=by
    cases z:σ[j]? with
    | none=>rw [z] at ev;cases ev
    | some o=>rw [z] at ev;rw [show o=some v from ev]
   have hN:X.N[j]?=some y:=by
    cases z:X.N[j]? with
    | none=>rw [z] at h1;cases h1
    | some y'=>rw [z] at h1;rw [beq_iff_eq.mp h1]
   have hK:(compEnvC scope (Ym X.env scope) 0 X.env).kindOf y=some .cell∨(compEnvC scope (Ym X.env scope) 0 X.env).kindOf y=some .free:=by
    revert h2
    split
    ·rename_i z;intro _;exact .inl z
    ·rename_i z;intro _;exact .inr z
    ·intro q;cases q
   have hV:X.env.kindOf y=some .cell∨X.env.kindOf y=some .free:=by
    revert h3
    split
    ·rename_i z;intro _;exact .inl z
    ·rename_i z;intro _;exact .inr z
    ·intro q;cases q
   obtain ⟨c',hc'⟩:=S.has y hK;obtain ⟨m,_,hl⟩:=I.loc;obtain ⟨u,ru,lk⟩:=hl j y v hN hσ (.inr hV);refine ⟨c',u,hK,hc',ru,?_⟩;rcases lk with ⟨k,_⟩ | ⟨_,c2,e3,e4⟩
   ·have k':X.env.kindOf y=some .local:=k
    rcases hV with z | z <;> rw [z] at k' <;> cases k'
   ·have e5:=S.sub _ _ hc'
    rw [e3] at e5;cases e5;exact e4
abbrev tCompC (wi:TI) (g:TG) (te:TE) (cap:List (Option Nat)):TE:=tComp wi g te λσ _ σY=>σY=capt cap σ
section
variable {X:Cx} {tg:Expr}
def Zw {iter elt:Expr} {scope:Scope} {pos:Pos} {wi:TI} {g:TG} {te:TE} (NY:Jg) (cap:List (Option Nat)) (hc:X.calm=true) (hk:XY X scope=true) (hcap:zao X scope NY cap=true) (hi:PI X tg iter wi)
  (hY:∀ (s3:Sh) (H3:Hp) (fp:Jh),PG (X.comp scope (Ym X.env scope) NY s3 H3 fp) tg g/\PE (X.comp scope (Ym X.env scope) NY s3 H3 fp) elt te)
  (hs:∀ x,foldedSetIterable iter X.env x=pure x:=by intro _;rfl):PE X (.ListComp elt [⟨tg,iter,[],0⟩] scope pos) (tCompC wi g te cap):=by
 intro pins s σ H Q I h;have S:=YZ I.ok hk;refine pe_comp (NY:=NY) hc S hi hY (λpins σ H s3 σY I3 e=>?_) hs pins s σ H Q I h;subst e;exact Xd I3 S hcap
def ps_compC {iter elt:Expr} {scope:Scope} {pos pos' spos:Pos} {wi:TI} {g:TG} {te:TE} {i:Nat} {y:Str} (NY:Jg) (cap:List (Option Nat)) (hc:X.calm=true) (hk:XY X scope=true) (hcap:zao X scope NY cap=true) (hi:PI X tg iter wi)
  (hY:∀ (s3:Sh) (H3:Hp) (fp:Jh),PG (X.comp scope (Ym X.env scope) NY s3 H3 fp) tg g/\PE (X.comp scope (Ym X.env scope) NY s3 H3 fp) elt te) (hN:X.N.Nodup) (hi':X.N[i]?=some y) (hx:Loc X.env.scope y)
  (hf:X.fn y=true∨X.env.scope.names.lookup y=some .local:=by first | exact .inl rfl | exact .inr rfl) (hw:swapsWith (.ListComp elt [⟨tg,iter,[],0⟩] scope pos) (some (.Name y pos')) spos.line X.env=pure true:=by rfl)
  (hs:∀ x,foldedSetIterable iter X.env x=pure x:=by intro _;rfl):PS X (.Assign [.Name y pos'] (.ListComp elt [⟨tg,iter,[],0⟩] scope pos) spos) (tAsg (tCompC wi g te cap) (XB i)):=by
 refine ps_comp (NY:=NY) hc (λI=>YZ I.ok hk) hi hY (λpins σ H s3 σY I3 e=>?_) hs hN hi' hx hf hw;subst e;exact Xd I3 (YZ I3.ok hk) hcap
end
section
variable {X:Cx}
end
def getD_mem {ns:Jc} {i:Nat} (h:i<ns.length):ns.getD i 0∈ns:=by
 rw [q1x,List.getElem?_eq_getElem h];exact List.getElem_mem h
section
variable {X:Cx} {pins:Jd} {σ:St} {H:Hp} {s:Sh}
def Inv.keptL {h':Heap} {t':Nat} (I:Inv X pins σ H s) {m:J0} (hl:∀ (i:Nat) (x:Str) (v:V),X.N[i]?=some x->σ[i]?=some (some v)->Vis X.env.scope x->∃ u,RelV v u/\Look X.env s.heap m x u)
  (k:∀ b o,b≠X.env.locals->s.heap.get? b=some o->h'.get? b=some o) (hn:h'.Ns X.env.locals m):Inv X pins σ H { s with heap:=h',toks:=t' }:=by
 have B:=I.base
 have ne0:∀ b o,X.s₀.heap.get? b=some o->b≠X.env.locals:=λb o q z=>by
  have h1:b<X.s₀.heap.objs.size:=Heap.lt_size q;have h2:X.s₀.heap.objs.size<=X.env.locals:=I.ok.above;rw [z] at h1;exact absurd (q2z h1 h2) (Nat.lt_irrefl _)
 refine ⟨I.ok,I.os,I.bare,⟨λb o q n hb hx=>?_,λb o q n hb hx=>?_,B.free,λb o q hx=>?_,B.tups,B.frzs,B.tbls⟩,⟨m,hn,λi x v e1 e2 vs=>?_⟩,λx c q=>?_,I.free,I.freeC,λp hp=>?_,λb o q=>?_,I.len⟩
 ·exact k _ _ (ne0 _ _ q) (B.keep b o q n hb hx)
 ·obtain ⟨sl,z⟩:=B.slot b o q n hb hx
  exact ⟨sl,k _ _ (ne0 _ _ q) z⟩
 ·obtain ⟨o',z⟩:=B.there b o q hx
  exact ⟨o',k _ _ (ne0 _ _ q) z⟩
 ·obtain ⟨u,r,lk⟩:=hl i x v e1 e2 vs
  refine ⟨u,r,?_⟩;rcases lk with z | ⟨z1,c,z2,o,z3,z4⟩
  ·exact .inl z
  ·exact .inr ⟨z1,c,z2,o,k _ _ (I.cne _ _ z2) z3,z4⟩
 ·obtain ⟨v,o,z1,z2⟩:=I.cell x c q
  exact ⟨v,o,k _ _ (I.cne _ _ q) z1,z2⟩
 ·obtain ⟨z1,z2,z3,z4⟩:=I.pin p hp
  exact ⟨k _ _ z3 z1,z2,z3,z4⟩
 ·refine (I.hok b o q).stay (λc v hc r=>k _ _ ?_ r) (λ_ z=>z) λ_ _ z=>z
  rintro rfl;rcases hc with z | z
  ·rw [← z,I.free] at q;cases q
  ·rw [I.free] at z;cases z
def fr_all (I:Inv X pins σ H s) {m:J0} (hm:s.heap.Ns X.env.locals m):Fr X.base X.env.locals s.heap m:=⟨hm,I.bk,Nat.le_trans I.ok.bsz I.ok.above⟩
theorem zdy {h':Heap} {m:J0} (F:Fr X.base X.env.locals h' m) (N:News X.base X.env.locals h' (Xf X.base s.heap X.env.locals)) (I:Inv X pins σ H s):∀ b o,b≠X.env.locals->s.heap.get? b=some o->h'.get? b=some o:=λb o n q=>by
 cases e:X.base.get? b with
 | none=>exact (N (b,o) (zdv n e q)).1
 | some o' =>
  have z:=I.bk b o' e;rw [q] at z;cases z;exact F.keep b o e
theorem zea:∀ {bs:List Bool} {us:Je},Vals (bs.map V.bl) us->LSm.BoolsAre us bs
 | [],_,.nil=>.nil
 | b::bs,_,.cons e r=>by cases e;exact .cons b (zea r)
end
section
variable {X:Cx}
inductive rSum (K:Fg) (xs:Jo) (H:Hp) (Q:VK):Prop
 | mk (p:Ad) (ns:Jc) (_:xs=[.ref p]) (_:SqL K H p (ns.map V.int)) (_:Q (.int ns.sum) H)
def call_sum (hc:X.calm=true):Zy X (.builtin "sum") (rSum X.K):=by
 intro pins s σ H xs us Q I r h;obtain ⟨p,ns,rfl,hp,q⟩:=h;obtain ⟨u,rfl,ru⟩:=r.one;cases (show u=Value.ref p from ru);obtain ⟨its,rv,pl,_⟩:=I.list hp;obtain ⟨m,hm,hl⟩:=I.loc
 exact LSm.sum_ints (fr_all I hm) zdr (I.ok.hd hc) pl.isList (zc3 rv) λh' tk t' F N =>
  ⟨.int ns.sum,H,I.keptL hl (zdy F N I) F.ns,⟨_,rfl⟩,q⟩
inductive rAny (K:Fg) (f:List Bool->Bool) (xs:Jo) (H:Hp) (Q:VK):Prop
 | mk (p:Ad) (bs:List Bool) (_:xs=[.ref p]) (_:SqL K H p (bs.map V.bl)) (_:Q (.bl (f bs)) H)
def call_all (hc:X.calm=true):Zy X (.builtin "all") (rAny X.K λbs=>bs.all id):=by
 intro pins s σ H xs us Q I r h;obtain ⟨p,bs,rfl,hp,q⟩:=h;obtain ⟨u,rfl,ru⟩:=r.one;cases (show u=Value.ref p from ru);obtain ⟨its,rv,pl,_⟩:=I.list hp;obtain ⟨m,hm,hl⟩:=I.loc
 exact LSm.all_bools (fr_all I hm) zdr (I.ok.hd hc) pl.isList (zea rv) λh' tk F N =>
  ⟨.bl _,H,I.keptL hl (zdy F N I) F.ns,rfl,q⟩
end
mutual
inductive DV (K:Fg) (H:Hp):V->PyData->Prop
 | non:DV K H .non .none
 | bl (b:Bool):DV K H (.bl b) (.bool b)
 | int (i:Int):DV K H (.int i) (.int i)
 | str (x:Str):DV K H (.str x) (.str x)
 | lst {a:Ad} {xs:Jo} {ds:List PyData}:SqL K H a xs->DVs K H xs ds->DV K H (.ref a) (.list ds)
 | tup {a:Ad} {xs:Jo} {ds:List PyData}:SqT K H a xs->DVs K H xs ds->DV K H (.ref a) (.tuple ds)
inductive DVs (K:Fg) (H:Hp):Jo->List PyData->Prop
 | nil:DVs K H [] []
 | cons {v:V} {vs:Jo} {d:PyData} {ds:List PyData}:DV K H v d->DVs K H vs ds->DVs K H (v::vs) (d::ds)
end
section
variable {X:Cx} {pins:Jd} {σ:St} {H:Hp} {s:Sh}
mutual
theorem dv_reads (I:Inv X pins σ H s):∀ {v:V} {d:PyData} {u:Vl},DV X.K H v d->RelV v u->∃ as,Reads s.heap u d as
 | _,_,u,.non,r=>by cases (show u=Value.none from r);exact ⟨_,.none⟩
 | _,_,u,.bl b,r=>by cases (show u=Value.bool b from r);exact ⟨_,.bool b⟩
 | _,_,u,.int i,r=>by obtain ⟨t,rfl⟩:=(show ∃ t,u=Value.int i t from r);exact ⟨_,.int i t⟩
 | _,_,u,.str x,r=>by obtain ⟨t,rfl⟩:=(show ∃ t,u=Value.str x t from r);exact ⟨_,.str x t⟩
 | _,_,u,.lst (a:=a) h q,r=>by
  cases (show u=Value.ref a from r);obtain ⟨its,rv,⟨o,n,e,c,d,f⟩,_⟩:=I.list h;obtain ⟨as,ra⟩:=Xn I q rv;exact ⟨_,.list e c f ra⟩
 | _,_,u,.tup (a:=a) h q,r=>by
  cases (show u=Value.ref a from r);obtain ⟨its,rv,⟨o,e,c,n,f⟩,_⟩:=I.tuple h;obtain ⟨as,ra⟩:=Xn I q rv;exact ⟨_,.tuple e c f ra⟩
theorem Xn (I:Inv X pins σ H s):∀ {vs:Jo} {ds:List PyData} {us:Je},DVs X.K H vs ds->Vals vs us->∃ as,ReadsAll s.heap us ds as
 | _,_,_,.nil,.nil=>⟨_,.nil⟩
 | _,_,_,.cons h q,.cons r rr=>by
  obtain ⟨as,ra⟩:=dv_reads I h r;obtain ⟨bs,rb⟩:=Xn I q rr;exact ⟨_,.cons ra rb⟩
end
end
section
variable {X:Cx}
end
end L2
namespace L2
open PySem
end L2
namespace L2
open PySem PySem.Spec PyProof.Rows
def yV {K:Fg} {H H':Hp} {a:Ad} {xs:Jo} (h:SqL K H a xs) (s:Same H H'):SqL K H' a xs:=by
 rcases h with h | h
 ·exact .inl (h.imp (λz=>s _ _ z) λ⟨o,z⟩=>⟨o,s _ _ z⟩)
 ·exact .inr h
def yq {H H':Hp} {a:Ad} {o:HO} (s:Same H H') (h:H a=none):Same H (upd H' a o):=λc x z=>by rw [zF (zI z h)];exact s _ _ z
def sIx_pos {n d:Nat} {a:Int} (h:0<=a):HT.sIx n d (some a)=min a.toNat n:=by
 show (if a<0 then (a+(n:Int)).toNat else min a.toNat n)=min a.toNat n;rw [if_neg (by omega)]
def zat {ns:Jc} {i:Nat} (h:i<ns.length):(ns.take (i+1)).sum=(ns.take i).sum+ns.getD i 0:=by
 have e:ns.take (i+1)=ns.take i++[ns.getD i 0]:=by
  rw [List.take_add_one,q1x,List.getElem?_eq_getElem h];rfl
 rw [e,List.sum_append];simp
def zdc {ns:Jc} (h:∀ v∈ns,0<=v):∀ (i:Nat),0<=(ns.take i).sum/\(ns.take i).sum<=ns.sum:=by
 induction ns with
 | nil=>intro i;simp
 | cons n ns ih =>
  intro i;have z:=h n q1z
  cases i with
  | zero =>
   have:=(ih (λv hv=>h v (q1y _ hv)) ns.length).1;rw [List.take_length] at this;simp;omega
  | succ i =>
   have:=ih (λv hv=>h v (q1y _ hv)) i;rw [List.take_succ_cons,List.sum_cons,List.sum_cons];omega
section
variable {P:Program} {w:World} {K:Fg} {mg:J0} {base:Heap}
def zas (K:Fg) (C:Ad) (x qual:Str) (st:Stmt) (ps:Jg):Prop:=∃ (f:Ad) (fd:FuncData),Meth K C x f/\Fun K x qual st f fd/\Binds K fd ps []
def OkM (P:Program) (w:World) (K:Fg) (mg:J0) (base:Heap) (CX:CXT) (k:Nat) (C:Ad) (x:Str) (ps:Jg) (sp:Sp):Prop :=
 ∃ (f:Ad) (fd:FuncData),Meth K C x f/\Binds K fd ps []/\FnOk P w K mg base CX k f fd ps sp
def yp (K:Fg) (C:Ad) (qual:Str) (st:Stmt) (ps:Jg):Prop:=∃ (f:Ad) (fd:FuncData),Mk K C f/\Fun K "__init__" qual st f fd/\Binds K fd ps []
def OkI (P:Program) (w:World) (K:Fg) (mg:J0) (base:Heap) (CX:CXT) (k:Nat) (C:Ad) (ps:Jg) (sp:Sp):Prop :=
 ∃ (f:Ad) (fd:FuncData),Mk K C f/\Binds K fd ps []/\FnOk P w K mg base CX k f fd ps sp
end
section
variable {X:Cx} {CX:CXT} {k:Nat} {C:Ad} {ps:Jg} {sp:Sp} {E:XK} {x m:Str} {p pos apos:Pos} {e o:Expr} {es:Ji} {ta:TE} {t:TA}
def xZ (h:OkM X.prog X.w X.K X.mg X.base CX k C m ps sp) (c:Cls X.K C) (hr:Room k X.A) (hx:xk CX X E) {pl:Sem Bool} (he:PE X o ta)
  (ht:eval (.Call (.Attribute o m apos) [] [] pos) X.env=(do
   let ov ← eval o X.env
   standAt apos.atName
   let (f,first) ← holding [ov] (getMethod ov m pl)
   callWith pos f first (backTo pos (starEach [] X.env)) (backToKw pos (keywordEach [] X.env))):=by rfl) :
  PE X (.Call (.Attribute o m apos) [] [] pos) (tMeth C m sp [] E ta tNil):=by
 obtain ⟨f,fd,a,b,d⟩:=h;exact pe_meth0 he c a d hr b .nil hx ht
def Zv (h:OkI X.prog X.w X.K X.mg X.base CX k C ps sp) (hm:X.mg x=some (.ref C)) (hr:Room (k+1) X.A) (hg:Gl X x) (hx:xk CX X E) (ha:PA X (e::es) t) (hdb:(x == ("__debug__":Str))=false:=by decide)
  (he:starEach (e::es) X.env=(false,eval e X.env)::starEach es X.env:=by rfl) (hpl:(backTo pos (starEach es X.env)).any (·.1)=false:=by rfl):PE X (.Call (.Name x p) (e::es) [] pos) (tMake C sp [] E t):=by
 obtain ⟨f,fd,a,b,d⟩:=h;exact pe_make a d hr hg hm b .nil hx ha hdb he hpl
end
def FH (K:Fg) (x qual:Str) (st:Stmt) (f:Ad):Prop:=∃ (oc:Vl) (od:Option Ad) (kV dc pm:Vl) (an:Option Ad) (cd ct:Vl) (sl:Array (Jf)),K.lookup f=some ⟨oc,od,.func (PySem.W.fnOf x qual (yS st) (yu st) (zg st) .none kV dc pm an cd ct),sl⟩/\PySem.W.codeIn K cd qual=true/\PySem.W.keepIn K (.ref f)=true
def DH (K:Fg) (x:Str) (st:Stmt) (f:Ad):Prop:=PySem.W.nsIn K mainGlobals x=some (some (.ref f))/\FH K x x st f
def MH (K:Fg) (C:Ad) (x qual:Str) (st:Stmt):Prop:=∃ f:Ad,(PySem.W.findIn K (.ref C) x=some (some (.ref f))/\PySem.W.isFn K (.ref f)=true)/\FH K x qual st f
def CH (K:Fg) (C:Ad):Prop:=PySem.W.plainGet K C Str.empty=true/\PySem.W.hasDictIn K C=true/\PySem.W.plainOver K C=true/\PySem.W.findIn K (.ref C) "__setattr__"=some (some (.builtin "object.__setattr__"))
def FN (K:Fg) (C:Ad):Jg->Prop
 | []=>True
 | f::r=>PySem.W.findIn K (.ref C) f=some none/\FN K C r
section
variable {K:Fg} {mg:J0} {x qual:Str} {st:Stmt} {f C:Ad} {h:Heap} {ps:Jg}
def DH.d (d:DH K x st f) (X:K.In h) (G:h.Ns mainGlobals mg)
  (b:∀ (kV doc pm:Vl) (an:Option Ad) (cdv ct:Vl) (us:Je),us.length=ps.length->bindArgs (PySem.W.fnOf x x (yS st) (yu st) (zg st) .none kV doc pm an cdv ct) ⟨us,[]⟩=pure (ps.zip us)):zB K mg x st ps :=
 by obtain ⟨a,_,_,_,_,_,_,_,_,_,l,c,k⟩:=d;exact defIn_mk X G a l c k b
def MH.m (d:MH K C x qual st)
  (b:∀ (kV doc pm:Vl) (an:Option Ad) (cdv ct:Vl) (us:Je),us.length=ps.length->bindArgs (PySem.W.fnOf x qual (yS st) (yu st) (zg st) .none kV doc pm an cdv ct) ⟨us,[]⟩=pure (ps.zip us)):zas K C x qual st ps :=
 by obtain ⟨f,⟨a,n⟩,_,_,_,_,_,_,_,_,_,l,c,k⟩:=d;exact ⟨f,_,⟨a,n,k⟩,YV l c k,(YV l c k).binds b⟩
def MH.i (d:MH K C "__init__" qual st) (mk:PySem.W.makesIn K C=true) (kC:PySem.W.keepIn K (.ref C)=true)
  (b:∀ (kV doc pm:Vl) (an:Option Ad) (cdv ct:Vl) (us:Je),us.length=ps.length->bindArgs (PySem.W.fnOf "__init__" qual (yS st) (yu st) (zg st) .none kV doc pm an cdv ct) ⟨us,[]⟩=pure (ps.zip us)):yp K C qual st ps :=
 by obtain ⟨f,⟨a,n⟩,_,_,_,_,_,_,_,_,_,l,c,k⟩:=d;exact ⟨f,_,⟨mk,a,n,kC⟩,YV l c k,(YV l c k).binds b⟩
def CH.c (d:CH K C):Cls K C:=⟨d.1,d.2.1,d.2.2.1,d.2.2.2⟩
end
end L2
namespace L2
open PySem
def DH.mk {K:Fg} {x:Str} {st:Stmt} {f:Ad} {oc:Vl} {od an:Option Ad} {kV dc pm cd ct:Vl} {sl:Array (Jf)} (a:PySem.W.nsIn K mainGlobals x=some (some (.ref f))) (l:K.lookup f=some ⟨oc,od,.func (PySem.W.fnOf x x (yS st) (yu st) (zg st) .none kV dc pm an cd ct),sl⟩) (c:PySem.W.codeIn K cd x=true) (k:PySem.W.keepIn K (.ref f)=true):DH K x st f:=⟨a,_,_,_,_,_,_,_,_,_,l,c,k⟩
def MH.mk {K:Fg} {C:Ad} {x qual:Str} {st:Stmt} {f:Ad} {oc:Vl} {od an:Option Ad} {kV dc pm cd ct:Vl} {sl:Array (Jf)} (a:PySem.W.findIn K (.ref C) x=some (some (.ref f))) (n:PySem.W.isFn K (.ref f)=true) (l:K.lookup f=some ⟨oc,od,.func (PySem.W.fnOf x qual (yS st) (yu st) (zg st) .none kV dc pm an cd ct),sl⟩) (c:PySem.W.codeIn K cd qual=true) (k:PySem.W.keepIn K (.ref f)=true):MH K C x qual st:=⟨f,⟨a,n⟩,_,_,_,_,_,_,_,_,_,l,c,k⟩
def scK {N P:Jg} {sc:Scope} (h:(decide (sc.kind=.function) && (!sc.isCoroutine && (!sc.isGenerator && (decide N.Nodup && (decide (N.take P.length=P) && ((P.all λx=>decide (sc.names.lookup x=some .local∨sc.names.lookup x=some .cell)) && sc.names.all λy=>decide (y.2≠.free)))))))=true:=by decide +kernel):FnScope N P sc:=by
 simp only [Bool.and_eq_true,decide_eq_true_eq,Bool.not_eq_true',List.all_eq_true] at h;obtain ⟨h1,h2,h3,h4,h5,h6,h7⟩:=h;exact ⟨h1,h2,h3,h4,h5,h6,h7⟩
def TB (K:Fg) (T:Ad):List (Str×Ad)->Prop
 | []=>True
 | p::r=>PySem.W.nsIn K T p.1=some (some (.ref p.2))/\TB K T r
def TN (K:Fg) (T:Ad):Jg->Prop
 | []=>True
 | x::r=>PySem.W.nsIn K T x=some none/\TN K T r
theorem TB.g {K:Fg} {T:Ad} {x:Str} {f:Ad}:∀ {L:List (Str×Ad)} (_:TB K T L) (i:Nat),L[i]?=some (x,f)->PySem.W.nsIn K T x=some (some (.ref f))
 | _::_,h,0,e=>by cases e;exact h.1
 | _::_,h,i+1,e=>TB.g h.2 i e
theorem TN.g {K:Fg} {T:Ad} {x:Str}:∀ {L:Jg} (_:TN K T L) (i:Nat),L[i]?=some x->PySem.W.nsIn K T x=some none
 | _::_,h,0,e=>by cases e;exact h.1
 | _::_,h,i+1,e=>TN.g h.2 i e
theorem FN.g {K:Fg} {C:Ad} {x:Str}:∀ {L:Jg} (_:FN K C L) (i:Nat),L[i]?=some x->PySem.W.findIn K (.ref C) x=some none
 | _::_,h,0,e=>by cases e;exact h.1
 | _::_,h,i+1,e=>FN.g h.2 i e
end L2
namespace L2
open PySem PySem.Spec PyProof.Rows
section
variable {X:Cx}
def PET (X:Cx) (e:Expr) (t:TE):Prop :=
 ∀ (pins:Jd) (s:Sh) (σ:St) (H:Hp) (Q:VK),Inv X pins σ H s->1<=s.toks->t σ H Q->wpAny (model X.prog X.w) X.A (eval e X.env) (λu s'=>1<=s'.toks/\EP X pins σ Q u s') X.xe s
def PE.pet {e:Expr} {t:TE} (h:PE X e t):PET X e t:=λpins s σ H Q I k q=>wpAny_mono (wpAny_toks_of k (h pins s σ H Q I q)) (λ_ _ x=>x) (λ_ _ x=>x.2)
def PET.pe {e:Expr} {t:TE} (h:PET X e t) (pins:Jd) (s:Sh) (σ:St) (H:Hp) (Q:VK) (I:Inv X pins σ H s) (k:1<=s.toks) (q:t σ H Q):wpAny (model X.prog X.w) X.A (eval e X.env) (EP X pins σ Q) X.xe s:=thn (h pins s σ H Q I k q) λ_ _ x=>x.2
def pet_of {e:Expr} {t:TE} (h:∀ (pins:Jd) (s:Sh) (σ:St) (H:Hp) (Q:VK),Inv X pins σ H s->1<=s.toks->t σ H Q->wpAny (model X.prog X.w) X.A (eval e X.env) (EP X pins σ Q) X.xe s):PET X e t:=λpins s σ H Q I k q=>wpAny_mono (wpAny_toks_of k (h pins s σ H Q I k q)) (λ_ _ x=>x) (λ_ _ x=>x.2)
def tRepl (a b:Str) (to:TE):TE:=λσ H Q=>to σ H λx H1=>∃ z:Str,x=.str z/\z.length+(z.length+1)*b.length<=16777216/\Q (.str (Txt.replace z a b)) H1
def Xu {o:Expr} {to:TE} {a b:Str} {ja jb:Nat} {pa pb apos cpos:Pos} (ho:PET X o to) (ab:(a == b)=false:=by decide)
  (hbase:attributeBase o "replace" X.env (eval o X.env)=eval o X.env:=by rfl)
  (hfew:((backTo cpos (starEach [.Constant (.str a) ja pa,.Constant (.str b) jb pb] X.env)).all (λx=>!x.1) && (backToKw cpos (keywordEach [] X.env)).all (λx=>x.1.isSome)
   && decide (([.Constant (.str a) ja pa,.Constant (.str b) jb pb]:Ji).length+([]:List Keyword).length+(if ([]:List Keyword).isEmpty then 0 else 1)<30))=true:=by rfl)
  (hline:(apos.endLine == cpos.line)=true:=by rfl):PET X (.Call (.Attribute o "replace" apos) [.Constant (.str a) ja pa,.Constant (.str b) jb pb] [] cpos) (tRepl a b to):=by
 refine pet_of λpins s σ H Q I k h=>?_;refine wpAny_Call_method_late hbase hfew hline rfl (thn (ho pins s σ H _ I k h) λv s1 ⟨k1,x,H1,I1,r1,z,ex,hz,q⟩=>?_);subst ex;obtain ⟨t,rfl⟩:=(show ∃ t,v=Value.str z t from r1);refine ⟨"str","str.replace",PySem.F.plainAttrs_str,PySem.F.slot_str_replace,PySem.F.type_str_replace,typeIs_str s1 z t,(λ_ e=>nomatch e),?_⟩;refine Calls.callWith_builtin rfl (Calls.evalArgs_plain ?_);show wpAny _ _ (spliced ((false,eval (.Constant (.str a) ja pa) X.env)::(false,eval (.Constant (.str b) jb pb) X.env)::[])) _ _ s1;refine Calls.spliced_cons (wpAny_Constant_str ?_);refine Calls.spliced_cons (wpAny_Constant_str ?_);refine Calls.spliced_nil ?_;refine SC.replace (by show s1.toks≠0;omega) (by show s1.toks+1≠0;omega) (by show s1.toks≠s1.toks+1;omega) ab hz λt' kk=>?_;exact ⟨.str (Txt.replace z a b),H1,I1.tok kk,⟨t',rfl⟩,q⟩
def PST (X:Cx) (st:Stmt) (t:TS):Prop :=
 ∀ (pins:Jd) (s:Sh) (σ:St) (H:Hp) (D:Ends),Inv X pins σ H s->1<=s.toks->t D σ H->wpAny (model X.prog X.w) X.A (exec st X.env) (SP X pins D) X.xe s
def PSsT (X:Cx) (st:List Stmt) (t:TS):Prop :=
 ∀ (pins:Jd) (s:Sh) (σ:St) (H:Hp) (D:Ends),Inv X pins σ H s->1<=s.toks->t D σ H->wpAny (model X.prog X.w) X.A (execs st X.env) (SP X pins D) X.xe s
def psst_cons {st:Stmt} {rest:List Stmt} {t u:TS} (h1:PST X st t) (h2:PSs X rest u):PSsT X (st::rest) (tSeq t u):=by
 intro pins s σ H D I k h;refine wpAny_execs_cons (thn (h1 pins s σ H { D with nx:=u D } I k h) λf s1 q=>?_)
 cases f with
 | next =>
  obtain ⟨σ',H',I',q⟩:=q;exact h2 pins s1 σ' H' D I' q
 | ret v=>exact q
 | brk=>exact q
 | cont=>exact q
def pst_set {pos:Pos} {i:Nat} {x:Str} {e:Expr} {te:TE} {pos':Pos} (hN:X.N.Nodup) (hi:X.N[i]?=some x) (hx:Loc X.env.scope x) (he:PET X e te) (hs:swapsWith e (some (.Name x pos')) pos.line X.env=pure false:=by rfl) (hf:X.fn x=true∨X.env.scope.names.lookup x=some .local:=by first | exact .inl rfl | exact .inr rfl | assumption) :
  PST X (.Assign [.Name x pos'] e pos) (tAsg te (XB i)):=by
 intro pins s σ H D I k h;refine wpAny_Assign_Name (thn (he.pe pins s σ H _ I k h) λv s1 ⟨y,H1,I1,r1,q1⟩=>?_) hs;exact YY I1 hN hi hx r1 (λs2 I2=>⟨_,H1,I2,q1⟩) hf
end
def zam:∀ (ns:List (Str×NameKind)) (n:Nat),(∀ x∈ns,x.2≠NameKind.cell)->cellsFrom n ns []=[]:=by
 intro ns
 induction ns with
 | nil=>intro n _;rfl
 | cons a l ih =>
  intro n h;obtain ⟨x,k⟩:=a;have h1:k≠.cell:=h _ (q1z ..);have h2:=ih n λy hy=>h y (q1y _ hy);simp only [cellsFrom];cases k <;> first | exact absurd rfl h1 | simpa using h2
def newEnvT {M:Model} {A:Around} {E:Ja} {s:Sh} {scope:Scope} {globals:Ad} {p:Str} {u:Vl} {qual:Str} {func:Option Ad} {code:Vl} {builtins:Ad} {Q:Env->Sh->Prop}
  (hk:scope.kind=ScopeKind.function) (nc:∀ x∈scope.names,x.2≠NameKind.cell) (hl:scope.names.lookup p=some .local)
  (h:∀ env:Env,env=newEnv scope s.heap.objs.size globals (cellsFrom (s.heap.objs.size+1) scope.names []) qual func code none builtins->∀ s':Sh,
   InCallC s env.locals (bindL env.kindOf [(p,u)] λ_=>none) env.cells (bindC env.kindOf [(p,u)] λ_=>none) s'->1<=s'.toks->Q env s') :
  wpAny M A (newFunctionEnv scope globals [] [(p,u)] qual func code none builtins) Q E s:=by
 have hcf:=zam scope.names (s.heap.objs.size+1) nc;refine wpAny_newFunctionEnv nc (λy hy=>?_) (λh' hns hsb=>?_) hk
 ·rcases List.mem_singleton.mp hy with rfl
  exact hl
 refine h _ (by rw [hcf]) _ ?_ (by show 1<=s.toks+1;omega);refine InCallC.mk ⟨⟨_,_,rfl⟩,?_,λb o e=>?_,Nat.le_refl _⟩ (λn c z=>nomatch z) List.Pairwise.nil (λn c z=>nomatch z)
 ·have e:(λy=>List.lookup y ([(p,u)]:List (Str×Vl)).reverse)=bindL (newEnv scope s.heap.objs.size globals [] qual func code none builtins).kindOf [(p,u)] λ_=>none:=by
   funext y;show List.lookup y [(p,u)]=bindL (newEnv scope s.heap.objs.size globals [] qual func code none builtins).kindOf [(p,u)] (λ_=>none) y;have hk:(newEnv scope s.heap.objs.size globals [] qual func code none builtins).kindOf p=some .local:=hl;simp only [bindL,hk,List.lookup];by_cases hy:y=p
   ·simp [hy]
   ·have:(y == p)=false:=by simpa using hy
    simp [hy,this]
  rw [← e];exact hns
 ·have hb:b≠s.heap.objs.size:=by
   rintro rfl;simp [Heap.get?] at e
  rw [hsb.2 b hb];exact Heap.get?_push_of_some _ e
section
variable {P:Program} {w:World} {K:Fg} {mg:J0} {base:Heap}
def fn_ofT {CX:CXT} {k:Nat} {f:Ad} {name qual:Str} {params:Arguments} {body:List Stmt} {scope:Scope} {dV kV doc pm cdv ct oc:Vl} {an od:Option Ad}
  {osl:Array (Jf)} {N:Jg} {p:Str} {sp:Sp} (lk:K.lookup f=some ⟨oc,od,.func (PySem.W.fnOf name qual params body scope dV kV doc pm an cdv ct),osl⟩) (hcd:PySem.W.codeIn K cdv qual=true) (S:FnScope N [p] scope)
  (nc:∀ x∈scope.names,x.2≠NameKind.cell)
  (len:∀ vs H Q E,sp vs H Q E->vs.length=1)
  (hbody:∀ (A:Around) (outer:List Env) (s:Sh) (H:Hp) (vs:Jo) (Q:VK) (E:XK),Room k (A.deeper (envOfC qual scope s.heap.objs.size f cdv))->sp vs H Q E ->
   ∃ t,PSsT (ZR CX P w K mg base N qual scope f cdv A outer s H E) body t/\t { nx:=λ_ H'=>Q .non H',rt:=Q } (start N vs) H) :
  FnOk P w K mg base CX (k+1) f (PySem.W.fnOf name qual params body scope dV kV doc pm an cdv ct) [p] sp:=by
 refine ⟨len,λA outer s H args us vs Q E hr e0 hb r hsp=>?_⟩;have hl:=len _ _ _ _ hsp;have KX:K.In s.heap:=e0.mod.kin.keeps λb o e=>(e0.bs b o e).1;have lim:s.heap.NoLimit:=e0.mod.nolimit.keeps λb o e=>(e0.bs b o e).1
 have hloc:scope.names.lookup p=some .local:=by
  rcases S.par p (List.mem_singleton.mpr rfl) with q | q
  ·exact q
  ·exact absurd rfl (nc (p,.cell) (PySem.mem_of_lookup q))
 obtain ⟨u,rfl⟩:∃ u,us=[u]:=by
  have:=r.length
  match us,this with
  | [u],_=>exact ⟨u,rfl⟩
  | [],h=>rw [hl] at h;simp at h
  | _::_::_,h=>rw [hl] at h;simp at h
 refine codeAny_call_function hr.depth (KX _ _ lk) rfl S.co S.gen rfl (PySem.W.codeRec_of KX hcd) (hb _ _ _ _ ?_);refine newEnvT S.kind nc hloc λenv he s1 x tk=>?_;subst he;refine ⟨lim.keeps x.toInCall.keep,codeAny_func ?_⟩;obtain ⟨t,ht,hq⟩:=hbody A outer s H vs Q E (hr.deeper _) hsp;have I:Inv (ZR CX P w K mg base N qual scope f cdv A outer s H E) [] (start N vs) H s1:=zbo S hr.hd e0 hl r x;refine wpAny_mono (ht [] s1 (start N vs) H _ I tk hq) (λfl s' hs=>?_) λe s' hs=>hs
 have fin:∀ {σ':St} {H':Hp} {v:V} {u:Vl},Inv (ZR CX P w K mg base N qual scope f cdv A outer s H E) [] σ' H' s'->RelV v u->Q v H'->CE outer P w H s Q u s' :=
  λ{σ' H' v u} J rv q=>⟨v,H',J.os,J.bare,J.base,J.hok,rv,q⟩
 cases fl with
 | ret u =>
  obtain ⟨v,σ',H',J,rv,q⟩:=hs;exact fin J rv q
 | next =>
  obtain ⟨σ',H',J,q⟩:=hs;exact fin (v:=V.non) (u:=Value.none) J rfl q
 | brk =>
  obtain ⟨_,_,_,q⟩:=hs;exact False.elim q
 | cont =>
  obtain ⟨_,_,_,q⟩:=hs;exact False.elim q
def Fun.okT {CX:CXT} {x qual:Str} {st:Stmt} {f:Ad} {fd:FuncData} {N:Jg} {p:Str} {k:Nat} {sp:Sp} (F:Fun K x qual st f fd) (S:FnScope N [p] (zg st)) (nc:∀ x∈(zg st).names,x.2≠NameKind.cell) (len:∀ vs H Q E,sp vs H Q E->vs.length=[p].length)
  (hbody:∀ (cdv:Vl) (A:Around) (outer:List Env) (s:Sh) (H:Hp) (vs:Jo) (Q:VK) (E:XK),Room k (A.deeper (envOfC qual (zg st) s.heap.objs.size f cdv))->sp vs H Q E ->
   ∃ t,PSsT (ZR CX P w K mg base N qual (zg st) f cdv A outer s H E) (yu st) t/\t { nx:=λ_ H'=>Q .non H',rt:=Q } (start N vs) H):FnOk P w K mg base CX (k+1) f fd [p] sp:=by
 obtain ⟨oc,od,kV,doc,pm,an,cdv,ct,osl,rfl,lk,hcd⟩:=F.ex;exact fn_ofT lk hcd S nc len λA outer s H vs Q E hr hsp=>hbody cdv A outer s H vs Q E hr hsp
end
section
variable {X:Cx}
def za2:∀ (l:List (Str×Tok)),Vals (l.map λx=>V.str x.1) (strValues l):=by
 intro l
 induction l with
 | nil=>exact .nil
 | cons a l ih=>exact .cons ⟨a.2,rfl⟩ ih
def rSplit:V->Jo->Hp->VK->Prop:=λx xs H Q=>∃ z y:Str,x=.str z/\xs=[.str y]/\(y.length == 0)=false/\z.length+2<=sizeLine/\∀ a,H a=none->Q (.ref a) (upd H a (.lst ((Txt.split z y).map V.str)))
def zds:MtR X "str.split" rSplit:=by
 intro pins s σ H x xs v us Q I rx rs h;obtain ⟨z,y,rfl,rfl,hy,hz,q⟩:=h;obtain ⟨t,rfl⟩:=(show ∃ t,v=Value.str z t from rx)
 obtain ⟨u,rfl⟩:∃ u,us=[Value.str y u]:=by
  cases rs with
  | cons r1 r2=>cases r2;obtain ⟨u,rfl⟩:=r1;exact ⟨u,rfl⟩
 have put:∀ (l:List (Str×Tok)) (k:Nat),l.map (·.1)=Txt.split z y->EP X pins σ Q (.ref s.heap.objs.size) { s with heap:=s.heap.push { cls:=.type "list",data:=.seq (strValues l).toArray },toks:=k }:=λl k e=>by
  have hl:=len_le_of_split e;refine ⟨.ref s.heap.objs.size,_,I.laid (t':=k) (o:=.lst ((Txt.split z y).map V.str)) (λb ob q=>Heap.get?_push_of_some _ q) (Nat.le_refl _) ?_,rfl,q _ (I.hok.fresh (Nat.le_refl _))⟩;refine ⟨by rw [← e,List.map_map,Jj];omega,_,0,?_,Heap.get?_push_size _ rfl⟩;rw [← e,List.map_map];exact za2 l
 have ity:=typeIs_str s z t;by_cases c1:(decide (z.length<y.length) || decide (Builtin.Str.strKind z<Builtin.Str.strKind y))=true
 ·refine call_meets PySem.F.slot_str_split ity PySem.F.entry_str_split (PySem.F.args_str_split_2 _ _) (meets_str_split_cannot_occur z y t u c1) ?_
  exact put [(z,t)] s.toks (by unfold Txt.split;rw [if_pos c1];rfl)
 ·have c1:(decide (z.length<y.length) || decide (Builtin.Str.strKind z<Builtin.Str.strKind y))=false:=by simpa using c1
  by_cases c2:(Builtin.Str.occurrences z y 0 z.length (z.length+1)).isEmpty=true
  ·refine call_meets PySem.F.slot_str_split ity PySem.F.entry_str_split (PySem.F.args_str_split_2 _ _) (meets_str_split_not_found z y t u c1 hy c2) ?_
   exact put [(z,t)] s.toks (by simp [Txt.split,c1,c2])
  ·have c2:(Builtin.Str.occurrences z y 0 z.length (z.length+1)).isEmpty=false:=by simpa using c2
   have e:Txt.split z y=Builtin.Str.partsBetween z (Builtin.Str.occurrences z y 0 z.length (z.length+1)) y.length:=by simp [Txt.split,c1,c2]
   have en:∀ (k:Nat) (xs:Jg),(numbered k xs).map (·.1)=xs:=by
    intro k xs
    induction xs generalizing k with
    | nil=>rfl
    | cons a l ih=>simp [numbered,ih]
   have e2:=en s.toks (Builtin.Str.partsBetween z (Builtin.Str.occurrences z y 0 z.length (z.length+1)) y.length);have hl:=len_le_of_split (e2.trans e.symm);have h3:=congrArg List.length e2;rw [Jj] at h3;refine call_meets PySem.F.slot_str_split ity PySem.F.entry_str_split (PySem.F.args_str_split_2 _ _) (meets_str_split_sep z y t u c1 hy c2 (by omega) (by omega)) ?_;rw [strsFrom_eq];exact put _ _ (e2.trans e.symm)
end
def yf (c:Nat):List Nat->List (List Nat)
 | []=>[[]]
 | a::l=>if a=c then []::yf c l else match yf c l with | []=>[[a]] | h::t=>(a::h)::t
def YL (z:List Nat):List (List Nat)->List Nat
 | []=>[]
 | x::r=>x++r.flatMap λp=>z++p
def za8 (c:Nat) (l:List Nat):∃ h t,yf c l=h::t:=by
 cases l with
 | nil=>exact ⟨_,_,rfl⟩
 | cons a l =>
  unfold yf
  split
  ·exact ⟨_,_,rfl⟩
  ·split <;> exact ⟨_,_,rfl⟩
def Xt {c:Nat} {p y h:List Nat} {t:List (List Nat)} (hp:c ∉ p) (e:yf c y=h::t):yf c (p++y)=(p++h)::t:=by
 induction p with
 | nil=>exact e
 | cons a p ih =>
  have h1:a≠c:=λz=>hp (by rw [z];exact q1z ..);have:=ih λz=>hp (q1y _ z);show yf c (a::(p++y))=_;rw [yf,if_neg h1,this];rfl
def XW {c:Nat} {p:List Nat} (hp:c ∉ p):yf c p=[p]:=by
 have:=Xt (y:=[]) hp rfl;simpa using this
def Xs {c:Nat}:∀ (r:List (List Nat)) (x:List Nat),c ∉ x->(∀ p∈r,c ∉ p)->yf c (YL [c] (x::r))=x::r:=by
 intro r
 induction r with
 | nil=>intro x hx _;rw [show YL [c] [x]=x by simp [YL]];exact XW hx
 | cons a r ih =>
  intro x hx hr;have:=ih a (hr a (q1z ..)) λp hp=>hr p (q1y _ hp);have e:YL [c] (x::a::r)=x++(c::YL [c] (a::r)):=by simp [YL]
  rw [e,Xt hx (h:=[]) (t:=a::r) (by rw [yf,if_pos rfl,this]),q3y]
def zc2 (z:List Nat) (c:Nat) (l:List Nat):YL z (yf c l)=l.flatMap λa=>if a=c then z else [a]:=by
 induction l with
 | nil=>rfl
 | cons a l ih =>
  obtain ⟨h,t,e⟩:=za8 c l;rw [e] at ih;rw [List.flatMap_cons,← ih,yf];by_cases q:a=c
  ·simp [q,e,YL]
  ·simp [q,e,YL]
def YO {c:Nat}:∀ (x y:List Nat) (i:List (List Nat)) (e h:List Nat) (t:List (List Nat)),yf c x=i++[e]->yf c y=h::t->yf c (x++y)=i++(e++h)::t:=by
 intro x
 induction x with
 | nil =>
  intro y i e h t hx hy
  have:i=[]/\e=[]:=by
   cases i with
   | nil=>simp [yf] at hx;exact ⟨rfl,hx⟩
   | cons a i=>simp [yf] at hx
  rw [this.1,this.2];exact hy
 | cons a x ih =>
  intro y i e h t hx hy;obtain ⟨h0,t0,e0⟩:=za8 c x;show yf c (a::(x++y))=_;rw [yf] at hx ⊢;by_cases q:a=c
  ·rw [if_pos q] at hx ⊢
   cases i with
   | nil=>rw [e0] at hx;simp at hx
   | cons b i =>
    rw [List.cons_append] at hx;injection hx with e1 e2
    rw [ih y i e h t e2 hy,← e1];rfl
  ·rw [if_neg q] at hx ⊢
   rw [e0] at hx;have hx:(a::h0)::t0=i++[e]:=hx
   cases i with
   | nil =>
    simp at hx;obtain ⟨e1,e2⟩:=hx;rw [ih y [] h0 h t (by rw [e0,e2];rfl) hy,← e1];rfl
   | cons b i =>
    rw [List.cons_append] at hx;injection hx with e1 e2
    rw [ih y (h0::i) e h t (by rw [e0,e2];rfl) hy,← e1];rfl
abbrev lt' (x:Str):List Nat:=x.cps.toList
def Xl (z:Str) (ps:Jg):lt' (z.join ps)=YL (lt' z) (ps.map lt'):=by
 cases ps with
 | nil=>rfl
 | cons x r =>
  rw [← StrLaws.glued_cons]
  have:∀ (r:Jg) (a:Array Nat),(List.foldl (λacc p=>acc++z.cps++p.cps) a r).toList=a.toList++(r.map lt').flatMap λp=>lt' z++p:=by
   intro r
   induction r with
   | nil=>intro a;simp
   | cons b r ih=>intro a;rw [List.foldl_cons,ih];simp
  exact this r x.cps
def YN (x:Str) (c:Nat):(Txt.split x ⟨#[c]⟩).map lt'=yf c (lt' x):=by
 have h1:=StrLaws.join_split x ⟨#[c]⟩;have h2:=StrLaws.split_free x c;have h3:1<=((Txt.split x ⟨#[c]⟩).map λy=>(y,(0:Tok))).length:=len_of_split (x:=x) (y:=⟨#[c]⟩) (by rw [List.map_map];exact List.map_id _);rw [Jj] at h3;have e:=Xl ⟨#[c]⟩ (Txt.split x ⟨#[c]⟩);rw [h1] at e;rw [e]
 cases hp:Txt.split x ⟨#[c]⟩ with
 | nil=>rw [hp] at h3;simp at h3
 | cons a r =>
  rw [hp] at h2;rw [List.map_cons];refine (Xs _ _ (h2 a (q1z ..)) λp hq=>?_).symm;obtain ⟨b,hb,rfl⟩:=List.mem_map.mp hq;exact h2 b (q1y _ hb)
def Xh (x z:Str) (c:Nat):lt' (Txt.replace x ⟨#[c]⟩ z)=(lt' x).flatMap λa=>if a=c then lt' z else [a]:=by
 rw [StrLaws.replace_one,Xl,YN,zc2]
def gB (a:Nat):List Nat:=if a=40 then [32,40,32] else if a=41 then [32,41,32] else [a]
def apart (z:Str):Str:=Txt.replace (Txt.replace z "(" " ( ") ")" " ) "
def zaq (z:Str):lt' (apart z)=(lt' z).flatMap gB:=by
 have a1:("(":Str)=⟨#[40]⟩:=by decide
 have a2:(")":Str)=⟨#[41]⟩:=by decide
 unfold apart;rw [a1,a2,Xh,Xh,List.flatMap_assoc];congr 1;funext a;have b1:lt' (" ( ":Str)=[32,40,32]:=by decide
 have b2:lt' (" ) ":Str)=[32,41,32]:=by decide
 rw [b1,b2];unfold gB;by_cases q:a=40
 ·subst q;decide
 ·rw [if_neg q,if_neg q];simp
def yB (z:Str):Jg:=(Txt.split (apart z) " ").filter λw=>w != ""
def Wd (l:List Nat) (due:List (List Nat)) (still:Bool):Prop:=∃ i e,yf 32 (l.flatMap gB)=i++[e]/\due=(i++[e]).filter (λw=>w != [])/\still=(e != [])
def Wd.nil:Wd [] [] false:=⟨[],[],rfl,rfl,rfl⟩
def Wd.spaces {l:List Nat} {due:List (List Nat)} {b:Bool} (h:Wd l due b) (k:Nat):Wd (l++List.replicate (k+1) 32) due false:=by
 obtain ⟨i,e,h1,rfl,_⟩:=h
 have h2:∀ k,yf 32 (List.replicate k 32)=List.replicate (k+1) []:=by
  intro k
  induction k with
  | zero=>rfl
  | succ k ih=>rw [List.replicate_succ,yf,if_pos rfl,ih];rfl
 have h3:(List.replicate (k+1) 32).flatMap gB=List.replicate (k+1) 32:=by
  induction k with
  | zero=>rfl
  | succ k ih=>rw [List.replicate_succ,List.flatMap_cons,ih];rfl
 have h4:=YO (l.flatMap gB) (List.replicate (k+1) 32) i e [] (List.replicate (k+1) []) h1 (h2 (k+1));refine ⟨i++e::List.replicate k [],[],?_,?_,rfl⟩
 ·rw [List.flatMap_append,h3,h4,q3y,List.append_assoc,List.cons_append,← List.replicate_succ']
 ·have h5:∀ k,(List.replicate k ([]:List Nat)).filter (λw=>w != [])=[]:=by
   intro k
   induction k with
   | zero=>rfl
   | succ k ih=>rw [List.replicate_succ,List.filter_cons,ih];rfl
  simp [List.filter_append,List.filter_cons,h5]
def Wd.bracket {l:List Nat} {due:List (List Nat)} {b:Bool} (h:Wd l due b) {c:Nat} (hc:c=40∨c=41):Wd (l++[c]) (due++[[c]]) false:=by
 obtain ⟨i,e,h1,rfl,_⟩:=h;have h3:([c]:List Nat).flatMap gB=[32,c,32]:=by rcases hc with rfl | rfl <;> rfl
 have h2:yf 32 [32,c,32]=[[],[c],[]]:=by rcases hc with rfl | rfl <;> decide
 have h4:=YO (l.flatMap gB) [32,c,32] i e [] [[c],[]] h1 h2;refine ⟨i++[e,[c]],[],?_,?_,rfl⟩
 ·rw [List.flatMap_append,h3,h4];simp
 ·by_cases q:e=[] <;> simp [List.filter_append,List.filter_cons,q]
def gB_free {w:List Nat} (h:∀ a∈w,a≠40/\a≠41):w.flatMap gB=w:=by
 induction w with
 | nil=>rfl
 | cons a w ih =>
  obtain ⟨q1,q2⟩:=h a (q1z ..);rw [List.flatMap_cons,ih λb hb=>h b (q1y _ hb)];simp [gB,q1,q2]
def Wd.word {l w:List Nat} {due:List (List Nat)} (h:Wd l due false) (hw:∀ a∈w,a≠32/\a≠40/\a≠41) (w0:w≠[]):Wd (l++w) (due++[w]) true:=by
 obtain ⟨i,e,h1,rfl,h0⟩:=h;have e0:e=[]:=by simpa using h0.symm
 subst e0;have h4:=YO (l.flatMap gB) w i [] w [] h1 (XW λz=>(hw 32 z).1 rfl);refine ⟨i,w,?_,?_,by simpa using w0⟩
 ·rw [List.flatMap_append,gB_free λa ha=>(hw a ha).2,h4];rfl
 ·simp [List.filter_append,List.filter_cons,w0]
def Wd.words {z:Str} {due:List (List Nat)} {b:Bool} (h:Wd (lt' z) due b):(yB z).map lt'=due:=by
 obtain ⟨i,e,h1,rfl,_⟩:=h;have a0:(" ":Str)=⟨#[32]⟩:=by decide
 unfold yB;rw [← h1,← zaq,a0,← YN,List.filter_map];congr 1;refine List.filter_congr λx _=>?_;obtain ⟨⟨l⟩⟩:=x
 cases l with
 | nil=>rfl
 | cons a l =>
  show _=((a::l) != [])
  have:(({ cps:={ toList:=a::l } }:Str) != ("":Str))=true:=by
   simp only [bne_iff_ne];intro q;have:=congrArg lt' q;have e0:lt' ("":Str)=[]:=by decide
   rw [e0] at this;cases this
  rw [this];rfl
section
variable {prog:Program} {w:World} {A:Around} {R:Result->Sh->Prop} {s:Sh}
theorem ze3 {elt target iter tst:Expr} {scope:Scope} {pos:Pos} {it acc:Vl} {env:Env} (I:Nat->Sh->Prop)
  (turn:∀ n s,I n s->wpAny (model prog w) A (pyNext it) (λr s₁=>match r with
   | none=>R (.ok .next) s₁
   | some v=>wpAny (model prog w) A (letOwnedTupleGo target it v) (λ_ s₂=>wpAny (model prog w) A (assign target env v) (λ_ s₃=>wpAny (model prog w) A (isTrue tst env (eval tst env)) (λok t₃=>match ok with
     | true=>wpAny (model prog w) A (eval elt env) (λx s₄=>wpAny (model prog w) A (call (.builtin "list.append") [acc,x]) (λ_ s₅=>∃ m,m<n/\I m s₅) (λ_ _=>False) s₄) (λ_ _=>False) t₃
     | false=>∃ m,m<n/\I m t₃) (λ_ _=>False) s₃) (λ_ _=>False) s₂) (λ_ _=>False) s₁) (λ_ _=>False) s)
  (n:Nat) (h:I n s):codeAny (model prog w) A (.compLoop (.ListComp elt [⟨target,iter,[tst],0⟩] scope pos) 0 it acc env) R s:=by
 refine codeAny_loop rfl I (λn s hI=>?_) n h;show wpAny _ _ ((compTurn (.ListComp elt [⟨target,iter,[tst],0⟩] scope pos) 0 it acc env).onRaise (λx=>do noteFrame x env;theTreesLotGoes x)) _ _ s;refine wpAny_noted ?_;rw [compTurn_list];refine q0x (wpAny_standAt (q0x (wpAny_mono (turn n s hI) (λr s₁ h₁=>?_) λ_ _ z=>z.elim)))
 cases r with
 | none=>exact q0y h₁
 | some v =>
  refine q0x (wpAny_mono h₁ (λ_ s₂ h₂=>?_) λ_ _ z=>z.elim);refine q0x (wpAny_mono h₂ (λ_ s₃ h₃=>?_) λ_ _ z=>z.elim);refine q0x (wpAny_tests_one (wpAny_mono h₃ (λok t₃ h₃=>?_) λ_ _ z=>z.elim))
  cases ok with
  | false=>exact q0y ⟨rfl,h₃⟩
  | true =>
   refine q0x (q0x (wpAny_mono h₃ (λx s₄ h₄=>?_) λ_ _ z=>z.elim));exact q0x (wpAny_mono h₄ (λ_ s₅ h₅=>q0y (q0y ⟨rfl,h₅⟩)) λ_ _ z=>z.elim)
end
inductive CompWF (J:It) (g:TG) (tt:TT) (te:TE) (σY:St) (H1:Hp) (D:Ad) (Q:VK):Prop
 | mk (W:Nat->Nat->St->Hp->Prop) (_:(∃ m,W 0 m σY H1)) (_:∀ i m σ' H',W i m σ' H'->(J.stop i H'/\Q (.ref D) H')∨(J.go i H'/\∃ N:St->Hp->Prop,(∀ σ2 H2,N σ2 H2->∃ m',m'<m/\W (i+1) m' σ2 H2)/\∀ x H2,J.yld i H' x H2->g x σ' H2 λσ3 H3=>tt σ3 H3 λb H4=>if b=true then te σ3 H4 λv H5=>∃ xs,H5 D=some (.lst xs)/\xs.length<sizeLine/\N σ3 (upd H5 D (.lst (xs++[v]))) else N σ3 H4)):CompWF J g tt te σY H1 D Q
inductive tCompF_S (g:TG) (tt:TT) (te:TE) (σ0:St->Hp->St->Prop) (σ:St) (Q:VK) (J:It) (H1:Hp):Prop
 | mk (σY:_) (_:σ0 σ H1 σY) (_:∀ D,H1 D=none->CompWF J g tt te σY (upd H1 D (.lst [])) D Q)
def tCompF (wi:TI) (g:TG) (tt:TT) (te:TE) (σ0:St->Hp->St->Prop):TE:=λσ H Q=>wi σ H λJ H1=>tCompF_S g tt te σ0 σ Q J H1
section
variable {X:Cx} {tg:Expr}
def ze4 {iter elt tst:Expr} {scope:Scope} {pos pos':Pos} {cl:List (Str×Ad)} {NY:Jg} {wi:TI} {g:TG} {tt:TT} {te:TE} {σ0:St->Hp->St->Prop} (hc:X.calm=true) (S:Sees X scope cl) (hi:PI X tg iter wi)
  (hY:∀ (s3:Sh) (H3:Hp) (fp:Jh),PG (X.comp scope cl NY s3 H3 fp) tg g/\PT (X.comp scope cl NY s3 H3 fp) tst tt/\PE (X.comp scope cl NY s3 H3 fp) elt te)
  (h0:∀ (pins:Jd) (σ:St) (H:Hp) (s3:Sh) (σY:St),Inv X pins σ H s3->σ0 σ H σY->σY.length=NY.length/\∀ (i:Nat) (x:Str) (v:V),NY[i]?=some x->σY[i]?=some (some v) ->
   ∃ c u,(((compEnvC scope cl 0 X.env).kindOf x=some .cell∨(compEnvC scope cl 0 X.env).kindOf x=some .free))/\cl.lookup x=some c/\RelV v u/\s3.heap.IsCell c (some u))
  (hs:∀ x,foldedSetIterable iter X.env x=pure x) {use:Option (Vl->Sem Unit)} {R:Ja} {pins:Jd} {s:Sh} {σ:St} {H:Hp} {Q:VK} (I:Inv X pins σ H s) (h:tCompF wi g tt te σ0 σ H Q)
  (fin:∀ (C D:Ad) (H5:Hp) (s6:Sh),CompEnd X pins σ H5 s6 C->Q (.ref D) H5->compPost (model X.prog X.w) X.A X.xe use R (.ref D) C (.ok .next) s6) :
  wpAny (model X.prog X.w) X.A (comprehension (.ListComp elt [⟨tg,iter,[tst],0⟩] scope pos) scope X.env pos' (newList []) (firstAsync [⟨tg,iter,[tst],0⟩]) (firstIter [⟨tg,iter,[tst],0⟩] X.env) use) R X.xe s:=by
 refine wpAny_comprehension_free rfl hs S.clos S.kind S.names (thn (hi pins s σ H _ I h) λv s1 h1=>thn h1 λitv s2 h2=>?_);obtain ⟨it,fp,tn,J,H2,e,I2,T,st2,f2,σY,hσ,hW⟩:=h2;subst e;refine wpAny_newObj_type ?_;have I3:Inv X pins σ (upd H2 s2.heap.objs.size (.lst [])) (pz s2):=I2.lnew (t':=s2.toks) (its:=[]) .nil (Nat.zero_le _);obtain ⟨W,⟨m0,w0⟩,turn⟩:=hW s2.heap.objs.size (I2.hok.fresh (Nat.le_refl _));have ob2:=T.obj _ _ st2
 have hfp:∀ b∈fp,YX X pins (upd H2 s2.heap.objs.size (.lst [])) b:=λb hb=>by
  obtain ⟨o,q,_⟩:=ob2 b hb;exact ⟨by rw [zF (Nat.ne_of_lt (Heap.lt_size q))];exact (f2 b hb).1,(f2 b hb).2⟩
 have hob:∀ b∈fp,∃ o,(s2.heap.push Lz).get? b=some o:=λb hb=>by
  obtain ⟨o,q,_⟩:=ob2 b hb;exact ⟨o,Heap.get?_push_of_some _ q⟩
 refine wpAny_newFunctionEnv S.nocell (λy hy=>absurd hy (by simp)) (λh1 hn1 hs1=>?_) S.kind;obtain ⟨hl,hY0⟩:=h0 pins σ H2 s2 σY I2 hσ;have k23:∀ b o,s2.heap.get? b=some o->(s2.heap.push Lz).get? b=some o:=λb o q=>Heap.get?_push_of_some _ q;have k34:∀ b o,(s2.heap.push Lz).get? b=some o->h1.get? b=some o:=λb o q=>(hs1.2 b (Nat.ne_of_lt (Heap.lt_size q))).trans (Heap.get?_push_of_some _ q)
 have I4:=zd7 (scope:=scope) (cl:=cl) (NY:=NY) (fp:=fp) (h1:=h1) (t:=s2.toks) (σY:=σY) I3 S hfp hob hn1 k34 hl λi x v e1 e2=>by
  obtain ⟨c,u,k,q,r,o,z1,z2⟩:=hY0 i x v e1 e2;exact ⟨c,u,k,q,r,o,k23 _ _ z1,z2⟩
 have st4:tn 0 h1:=T.keep _ _ _ st2 λb hb o q=>k34 _ _ (k23 _ _ q);have fr4:∀ b∈fp,(upd H2 s2.heap.objs.size (.lst [])) b=none:=λb hb=>(hfp b hb).1;obtain ⟨hg,ht,he⟩:=hY (pz s2) (upd H2 s2.heap.objs.size (.lst [])) fp;have okY:=I4.ok
 have statY:∀ {H':Hp},(∀ b∈fp,H' b=none)->∀ b∈fp,YX (Xz X scope cl NY s2 H2 fp) [] H' b :=
  λhn b hb=>⟨hn b hb,(okY.exf b hb).1,okY.exfs b hb,.inl hb,(okY.exf b hb).2,λp hp=>absurd hp (by simp)⟩
 have loop:codeAny (model X.prog X.w) X.A (.compLoop (.ListComp elt [⟨tg,iter,[tst],0⟩] scope pos) 0 (.ref it) (.ref s2.heap.objs.size) (compEnvC scope cl (s2.heap.push Lz).objs.size X.env))
   (compPost (model X.prog X.w) X.A X.xe use R (.ref s2.heap.objs.size) (s2.heap.push Lz).objs.size) { s2 with heap:=h1,toks:=s2.toks }:=by
  refine ze3 (λn s'=>∃ i σ' H',Inv (Xz X scope cl NY s2 H2 fp) [] σ' H' s'/\tn i s'.heap/\(∀ b∈fp,H' b=none)/\W i n σ' H') ?_ m0 ⟨0,σY,_,I4,st4,fr4,w0⟩;rintro n s5 ⟨i,σ5,H5,I5,st5,fr5,w5⟩;rcases turn i n σ5 H5 w5 with ⟨stop,q⟩ | ⟨go,N,hN,step⟩
  ·refine thn (T.done (Xz X scope cl NY s2 H2 fp) rfl rfl rfl hc i [] s5 σ5 H5 _ I5 (statY fr5) st5 stop) λr s6 ⟨hr,I6⟩=>?_
   subst hr;obtain ⟨m,hm,_⟩:=I6.loc;refine fin _ _ H5 s6 ⟨⟨m,hm⟩,I6.free,Ne.symm (Nat.ne_of_lt I3.lt),I3.sz,λx c z=>?_,λp hp=>?_,λh' hs'=>zbz I3 hfp I6 hs'⟩ q
   ·obtain ⟨_,o,z1,_⟩:=I3.cell x c z
    exact Nat.ne_of_lt (Heap.lt_size z1)
   ·exact Nat.ne_of_lt (Heap.lt_size (I3.pin p hp).1)
  ·refine thn (T.item (Xz X scope cl NY s2 H2 fp) rfl rfl rfl hc i [] s5 σ5 H5 _ I5 (statY fr5) st5 go) λr s6 ⟨u,hr,h6⟩=>?_
   subst hr;refine thn h6 λ_ s7 ⟨x,H7,I7,r7,y7,st7,fr7⟩=>?_;have I7':=I7.pinned (statY fr7) (T.obj _ _ st7);refine thn (hg _ s7 σ5 H7 x u _ I7' r7 (step x H7 y7)) λ_ s8 ⟨σ8,H8,I8,q8⟩=>?_
   have pk:∀ {H':Hp} {s':Sh} {σ':St},Inv (Xz X scope cl NY s2 H2 fp) ([]++X4 fp s7.heap) σ' H' s'->tn (i+1) s'.heap/\∀ b∈fp,H' b=none:=λI'=>by
    refine ⟨T.keep _ _ _ st7 λb hb o q=>(I'.pin (b,o) (q2y _ (q2y _ (xK hb q)))).1,λb hb=>?_⟩;obtain ⟨o,q,d⟩:=T.obj _ _ st7 b hb;exact (I'.pin (b,o) (q2y _ (q2y _ (xK hb q)))).2.1
   refine thn (ht _ s8 σ8 H8 _ I8 q8) λbb s8' ⟨H8',I8',q8'⟩=>?_
   cases bb with
   | false =>
    have q8':=(show N σ8 H8' by simpa using q8');obtain ⟨m',hm,w10⟩:=hN _ _ q8';exact ⟨m',hm,i+1,σ8,_,I8'.unpinned,(pk I8').1,(pk I8').2,w10⟩
   | true =>
    have q8':=(show te σ8 H8' _ by simpa using q8');refine thn (he _ s8' σ8 H8' _ I8' q8') λz s9 ⟨v9,H9,I9,r9,xs,hx9,hz9,n9⟩=>?_;refine thn (yh _ s9 σ8 H9 (.ref s2.heap.objs.size) [v9] (.ref s2.heap.objs.size) [z] (λ_ H'=>H'=upd H9 s2.heap.objs.size (.lst (xs++[v9]))) I9 rfl (.cons r9 .nil) ⟨s2.heap.objs.size,xs,v9,rfl,rfl,hx9,hz9,rfl⟩) λy s10 ⟨v10,H10,I10,_,e10⟩=>?_;subst e10;obtain ⟨m',hm,w10⟩:=hN _ _ n9;exact ⟨m',hm,i+1,σ8,_,I10.unpinned,(pk I10).1,(pk I10).2,w10⟩
 exact codeAny_compStart_list loop (T.self _ 0 _ _ _ st4 loop)
def pe_compF0 {iter elt tst:Expr} {scope:Scope} {pos:Pos} {cl:List (Str×Ad)} {NY:Jg} {wi:TI} {g:TG} {tt:TT} {te:TE} {σ0:St->Hp->St->Prop} (hc:X.calm=true) (S:Sees X scope cl) (hi:PI X tg iter wi)
  (hY:∀ (s3:Sh) (H3:Hp) (fp:Jh),PG (X.comp scope cl NY s3 H3 fp) tg g/\PT (X.comp scope cl NY s3 H3 fp) tst tt/\PE (X.comp scope cl NY s3 H3 fp) elt te)
  (h0:∀ (pins:Jd) (σ:St) (H:Hp) (s3:Sh) (σY:St),Inv X pins σ H s3->σ0 σ H σY->σY.length=NY.length/\∀ (i:Nat) (x:Str) (v:V),NY[i]?=some x->σY[i]?=some (some v) ->
   ∃ c u,(((compEnvC scope cl 0 X.env).kindOf x=some .cell∨(compEnvC scope cl 0 X.env).kindOf x=some .free))/\cl.lookup x=some c/\RelV v u/\s3.heap.IsCell c (some u))
  (hs:∀ x,foldedSetIterable iter X.env x=pure x:=by intro _;rfl) :
  PE X (.ListComp elt [⟨tg,iter,[tst],0⟩] scope pos) (tCompF wi g tt te σ0):=by
 intro pins s σ H Q I h;rw [eval_ListComp];refine ze4 (use:=none) hc S hi hY h0 hs I h λC D H5 s6 e q=>?_;obtain ⟨m,hm⟩:=e.ns;exact ⟨m,hm,λh' hs'=>⟨.ref D,H5,e.inv h' hs',rfl,q⟩⟩
end
abbrev tCompFC (wi:TI) (g:TG) (tt:TT) (te:TE) (cap:List (Option Nat)):TE:=tCompF wi g tt te λσ _ σY=>σY=capt cap σ
section
variable {X:Cx} {tg:Expr}
def pe_compF {iter elt tst:Expr} {scope:Scope} {pos:Pos} {wi:TI} {g:TG} {tt:TT} {te:TE} (NY:Jg) (cap:List (Option Nat)) (hc:X.calm=true) (hk:XY X scope=true) (hcap:zao X scope NY cap=true) (hi:PI X tg iter wi)
  (hY:∀ (s3:Sh) (H3:Hp) (fp:Jh),PG (X.comp scope (Ym X.env scope) NY s3 H3 fp) tg g/\PT (X.comp scope (Ym X.env scope) NY s3 H3 fp) tst tt/\PE (X.comp scope (Ym X.env scope) NY s3 H3 fp) elt te)
  (hs:∀ x,foldedSetIterable iter X.env x=pure x:=by intro _;rfl):PE X (.ListComp elt [⟨tg,iter,[tst],0⟩] scope pos) (tCompFC wi g tt te cap):=by
 intro pins s σ H Q I h;have S:=YZ I.ok hk;refine pe_compF0 (NY:=NY) hc S hi hY (λpins σ H s3 σY I3 e=>?_) hs pins s σ H Q I h;subst e;exact Xd I3 (YZ I3.ok hk) hcap
end
def ze5 {K:Fg} {a D:Ad} {xs:Jo} {g:TG} {tt:TT} {te:TE} {σY:St} {H1:Hp} {Q:VK} (Pv:Nat->St->Hp->Prop) (h0:Pv 0 σY H1) (hl:∀ i σ H,i<=xs.length->Pv i σ H->SqL K H a xs)
  (hs:∀ i x σ H,xs[i]?=some x->Pv i σ H->g x σ H λσ3 H3=>tt σ3 H3 λb H4=>if b=true then te σ3 H4 λv H5=>∃ ys,H5 D=some (.lst ys)/\ys.length<sizeLine/\Pv (i+1) σ3 (upd H5 D (.lst (ys++[v]))) else Pv (i+1) σ3 H4) (hd:∀ σ H,Pv xs.length σ H->Q (.ref D) H) :
  CompWF (Itl K a) g tt te σY H1 D Q:=by
 refine ⟨λi m σ H=>m=xs.length-i/\i<=xs.length/\Pv i σ H,⟨xs.length,by simp,Nat.zero_le _,h0⟩,?_⟩;rintro i m σ H ⟨rfl,hi,p⟩;have q:=hl i σ H hi p;by_cases hlt:i<xs.length
 ·refine .inr ⟨⟨xs,xs[i],q,by simp [hlt]⟩,Pv (i+1),λσ' H' p'=>⟨xs.length-(i+1),by omega,rfl,hlt,p'⟩,λx H' y=>?_⟩
  obtain ⟨e,y⟩:=y;subst e;exact hs i x σ _ (y xs q) p
 ·have e:i=xs.length:=by omega
  subst e;exact .inl ⟨⟨xs,q,Nat.le_refl _⟩,hd σ H p⟩
def Itv (xs:Jo):It:=⟨λi _=>i<xs.length,λi H x H'=>H'=H/\xs[i]?=some x,λi _=>xs.length<=i⟩
def sgs (z:Str):Jo:=z.cps.toList.map λc=>V.str ⟨#[c]⟩
def sgs_len (z:Str):(sgs z).length=z.cps.size:=by unfold sgs;rw [Jj];simp
def turn_str {P:Program} {w:World} {K:Fg} {tg:Expr} (it:Ad) (z:Str) (t:Tok) (ty:String) (hty:ty="str_ascii_iterator"∨ty="str_iterator"):Turn P w K tg (Itv (sgs z)) [it] it (λi h=>h.IsStrIter it ty z t i) where
 mem:=by simp
 obj:=λi h st b hb=>by
  have e:b=it:=by simpa using hb
  subst e;obtain ⟨o,e,c,d⟩:=st;exact ⟨o,e,λv z=>by rw [d] at z;cases z⟩
 keep:=λi h h' st k=>by
  obtain ⟨o,e,r⟩:=st;exact ⟨o,k it (by simp) o e,r⟩
 item:=by
  intro X hP hw hK hc i pins s σ H E I hf st hg;subst hP hw hK;obtain ⟨f0,f1,f2,f3,f4,f5⟩:=hf it (by simp);have hi:i<z.cps.size:=by rw [← sgs_len];exact hg
  have hx:z.cps[i]?=some z.cps[i]:=by simp [hi]
  have hv:(sgs z)[i]?=some (V.str ⟨#[z.cps[i]]⟩):=by unfold sgs;rw [List.getElem?_map];simp [hi]
  have hn:["enumerate","zip","dict_itemiterator","dict_reverseitemiterator","odict_iterator","itertools.zip_longest","itertools.pairwise"].contains ty=false:=by rcases hty with rfl | rfl <;> decide
  have fin:∀ h',h'.IsStrIter it ty z t (i+1)->Heap.SameBut it s.heap h'->(λr s1=>∃ u,r=some u/\wpAny (model X.prog X.w) X.A (letOwnedTupleGo tg (.ref it) u) (λ_ s2=>∃ x H',Inv X pins σ H' s2/\RelV x u/\(Itv (sgs z)).yld i H x H'/\s2.heap.IsStrIter it ty z t (i+1)/\∀ b∈[it],H' b=none) E s1) (some (Value.str ⟨#[z.cps[i]]⟩ s.toks)) { s with heap:=h',toks:=s.toks+1 }:=λh' st' sb=>by
   have I1:Inv X pins σ H { s with heap:=h',toks:=s.toks+1 }:=I.turned (λb o hb e=>(sb.2 b hb).trans e) f0 f1 f3 f4 f5;obtain ⟨o,e,c,d⟩:=id st';exact ⟨_,rfl,go_of (s:={ s with heap:=h',toks:=s.toks+1 }) e c d hn ⟨.str ⟨#[z.cps[i]]⟩,H,I1,⟨_,rfl⟩,⟨rfl,hv⟩,st',λb hb=>(hf b hb).1⟩⟩
  rcases hty with rfl | rfl
  ·exact wpAny_pyNext_ascii_item st hx fin
  ·exact wpAny_pyNext_wide_item st hx fin
 done:=by
  intro X hP hw hK hc i pins s σ H E I hf st hg;subst hP hw hK;obtain ⟨f0,f1,f2,f3,f4,f5⟩:=hf it (by simp);have hi:z.cps.size<=i:=by rw [← sgs_len];exact hg
  have hx:z.cps[i]?=none:=by simp [hi]
  rcases hty with rfl | rfl
  ·exact wpAny_pyNext_ascii_end (I.ok.hd hc) st hx λh' eb=>⟨rfl,I.turned (t':=s.toks) (λb o hb e=>eb b o hb e) f0 f1 f3 f4 f5⟩
  ·exact wpAny_pyNext_wide_end (I.ok.hd hc) st hx λh' eb=>⟨rfl,I.turned (t':=s.toks) (λb o hb e=>eb b o hb e) f0 f1 f3 f4 f5⟩
 self:=λ_ _ _ _ _ st h=>by
  rcases hty with rfl | rfl
  ·exact wpAny_pyIter_striter_ascii st h
  ·exact wpAny_pyIter_striter_wide st h
section
variable {X:Cx} {tg:Expr}
def iStr (tl:TE):TI:=λσ H R=>tl σ H λx H1=>∃ z:Str,x=.str z/\R (Itv (sgs z)) H1
def pi_str {l:Expr} {tl:TE} (hl:PE X l tl):PI X tg l (iStr tl):=by
 intro pins s σ H R I h;refine thn (hl pins s σ H _ I h) λv s1 ⟨x,H1,I1,r1,q1⟩=>?_;obtain ⟨z,e,q⟩:=q1;subst e;obtain ⟨t,rfl⟩:=r1
 have go:∀ ty,(ty="str_ascii_iterator"∨ty="str_iterator")->PIE X pins σ tg R (.ref s1.heap.objs.size) { s1 with heap:=s1.heap.push { cls:=.type ty,data:=.fields #[.str z t,.int 0 0] } }:=λty hty=>by
  refine ⟨s1.heap.objs.size,[s1.heap.objs.size],_,_,H1,rfl,I1.kept (t':=s1.toks) λb o e=>Heap.get?_push_of_some _ e,turn_str _ z t ty hty,⟨_,Heap.get?_push_size _ rfl,rfl,rfl⟩,λb hb=>?_,q⟩;have e:b=s1.heap.objs.size:=by simpa using hb
  subst e;exact I1.fpOk (Nat.le_refl _) (I1.hok.fresh (Nat.le_refl _))
 cases ha:z.cps.all (·<128)
 ·exact wpAny_pyIter_wide ha (go _ (.inr rfl))
 ·exact wpAny_pyIter_ascii ha (go _ (.inl rfl))
def comp_v {D:Ad} {xs:Jo} {g:TG} {te:TE} {σY:St} {H1:Hp} {Q:VK} (Pv:Nat->St->Hp->Prop) (h0:Pv 0 σY H1)
  (hs:∀ i x σ H,xs[i]?=some x->Pv i σ H->g x σ H λσ3 H3=>te σ3 H3 λv H4=>∃ ys,H4 D=some (.lst ys)/\ys.length<sizeLine/\Pv (i+1) σ3 (upd H4 D (.lst (ys++[v])))) (hd:∀ σ H,Pv xs.length σ H->Q (.ref D) H) :
  CompW (Itv xs) g te σY H1 D Q:=by
 refine ⟨λi m σ H=>m=xs.length-i/\i<=xs.length/\Pv i σ H,⟨xs.length,by simp,Nat.zero_le _,h0⟩,?_⟩;rintro i m σ H ⟨rfl,hi,p⟩;by_cases hlt:i<xs.length
 ·refine .inr ⟨hlt,Pv (i+1),λσ' H' p'=>⟨xs.length-(i+1),by omega,rfl,hlt,p'⟩,λx H' y=>?_⟩
  obtain ⟨e,y⟩:=y;subst e;exact hs i x σ _ y p
 ·have e:i=xs.length:=by omega
  subst e;exact .inl ⟨Nat.le_refl _,hd σ H p⟩
def rStarts:V->Jo->Hp->VK->Prop:=λx xs H Q=>∃ z y:Str,x=.str z/\xs=[.str y]/\Q (.bl (Txt.startswith z y)) H
def zbf:MtR X "str.startswith" rStarts:=by
 intro pins s σ H x xs v us Q I rx rs h;obtain ⟨z,y,rfl,rfl,q⟩:=h;obtain ⟨t,rfl⟩:=(show ∃ t,v=Value.str z t from rx)
 obtain ⟨u,rfl⟩:∃ u,us=[Value.str y u]:=by
  cases rs with
  | cons r1 r2=>cases r2;obtain ⟨u,rfl⟩:=r1;exact ⟨u,rfl⟩
 exact SC.startswith ⟨.bl _,H,I,rfl,q⟩
end
section
variable {X:Cx}
def rSlS:V->Option Int->Option Int->Hp->VK->Prop:=λx lo hi H Q=>∃ z:Str,x=.str z/\z.length<=sizeLine/\Q (.str (Txt.slice z lo hi)) H
def YR:SlR X rSlS:=by
 intro pins s σ H x v vl vu lo hi sl Q I rx hs pl pu h;obtain ⟨z,rfl,hz,q⟩:=h;obtain ⟨t,rfl⟩:=rx;refine ⟨"str",_,F.slot_str_getitem.lookup,typeIs_str _ _ _,?_⟩;obtain ⟨o,ho,hc,hd⟩:=hs;have fin:∀ t' k,EP X pins σ Q (.str (Txt.slice z lo hi) t') { s with toks:=k }:=λt' k=>⟨.str _,H,I.tok k,⟨_,rfl⟩,q⟩
 cases pl with
 | none =>
  cases pu with
  | none=>exact wpAny_getItem_str_slice (l:=none) (u:=none) (st:=none) ⟨o,ho,hc,hd⟩ rfl (post_val_or_str ⟨Nat.le_trans (Txt.slice_le z _ _) hz,fin⟩)
  | int j uj=>exact wpAny_getItem_str_slice (l:=none) (u:=some (j,uj)) (st:=none) ⟨o,ho,hc,hd⟩ rfl (post_val_or_str ⟨Nat.le_trans (Txt.slice_le z _ _) hz,fin⟩)
 | int i ui =>
  cases pu with
  | none=>exact wpAny_getItem_str_slice (l:=some (i,ui)) (u:=none) (st:=none) ⟨o,ho,hc,hd⟩ rfl (post_val_or_str ⟨Nat.le_trans (Txt.slice_le z _ _) hz,fin⟩)
  | int j uj=>exact wpAny_getItem_str_slice (l:=some (i,ui)) (u:=some (j,uj)) (st:=none) ⟨o,ho,hc,hd⟩ rfl (post_val_or_str ⟨Nat.le_trans (Txt.slice_le z _ _) hz,fin⟩)
def rSplit0:V->Jo->Hp->VK->Prop:=λx xs H Q=>∃ z:Str,x=.str z/\xs=[]/\z.length<=100000/\(Builtin.Str.spaceWords z (z.length+1)).length<=100000/\(Txt.words z).length<=100000/\∀ a,H a=none->Q (.ref a) (upd H a (.lst ((Txt.words z).map V.str)))
def zbg:MtR X "str.split" rSplit0:=by
 intro pins s σ H x xs v us Q I rx rs h;obtain ⟨z,rfl,rfl,hz,hy,hw,q⟩:=h;obtain ⟨t,rfl⟩:=(show ∃ t,v=Value.str z t from rx);cases rs;have SL:(100000:Nat)<sizeLine:=by decide
 have put:∀ (l:List (Str×Tok)) (k:Nat),l.map (·.1)=Txt.words z->EP X pins σ Q (.ref s.heap.objs.size) { s with heap:=s.heap.push { cls:=.type "list",data:=.seq (strValues l).toArray },toks:=k }:=λl k e=>by
  refine ⟨.ref s.heap.objs.size,_,I.laid (t':=k) (o:=.lst ((Txt.words z).map V.str)) (λb ob q=>Heap.get?_push_of_some _ q) (Nat.le_refl _) ?_,rfl,q _ (I.hok.fresh (Nat.le_refl _))⟩;refine ⟨by rw [Jj];omega,_,0,?_,Heap.get?_push_size _ rfl⟩;rw [← e,List.map_map];exact za2 l
 refine call_meets PySem.F.slot_str_split (typeIs_str _ _ _) PySem.F.entry_str_split (PySem.F.args_str_split_1 _) (meets_str_split_space z t (by omega) (by omega)) ?_;cases hw:Builtin.Str.spaceWords z (z.length+1) == [(0,z.length)]
 ·simp only [Bool.false_eq_true,if_false]
  rw [strsFrom_eq];exact put (numbered s.toks (wordsOf z)) _ ((numbered_texts _ _).trans (if_neg (ne_true_of_eq_false hw)).symm)
 ·simp only [if_true]
  exact put [(z,t)] s.toks (if_pos hw).symm
def rJoin (K:Fg):V->Jo->Hp->VK->Prop:=λx xs H Q=>∃ (z:Str) (a:Ad) (ts:Jg),x=.str z/\xs=[.ref a]/\SqL K H a (ts.map V.str)/\JoinOk z ts=true/\Q (.str (Txt.join z ts)) H
def strs_of {its:Je}:∀ {ts:Jg},Vals (ts.map V.str) its->∃ l:List (Str×Tok),l.map (·.1)=ts/\its=strValues l:=by
 intro ts
 induction ts generalizing its with
 | nil=>intro h;cases h;exact ⟨[],rfl,rfl⟩
 | cons y ts ih =>
  intro h
  cases h with
  | cons r rr =>
   obtain ⟨t,rfl⟩:=r;obtain ⟨l,e1,rfl⟩:=ih rr;exact ⟨(y,t)::l,by rw [List.map_cons,e1],rfl⟩
def mt_join:MtR X "str.join" (rJoin X.K):=by
 intro pins s σ H x xs v us Q I rx rs h;obtain ⟨z,a,ts,rfl,rfl,hq,hok,q⟩:=h;obtain ⟨t,rfl⟩:=(show ∃ t,v=Value.str z t from rx)
 obtain rfl:us=[Value.ref a]:=by
  cases rs with
  | cons r1 r2=>cases r2;cases r1;rfl
 obtain ⟨its,rv,p,hz⟩:=I.list hq;obtain ⟨l,e1,rfl⟩:=strs_of rv;exact SC.join p.isList e1 hok λt' k=>⟨.str _,H,I.tok k,⟨_,rfl⟩,q⟩
def za1:Zy X (.type "int") (λxs H Q=>∃ (z:Str) (n:Int),xs=[.str z]/\intText? z=some n/\z.length<=640/\Q (.int n) H):=by
 intro pins s σ H xs us Q I rs h;obtain ⟨z,n,rfl,hn,hl,q⟩:=h
 obtain ⟨u,rfl⟩:∃ u,us=[Value.str z u]:=by
  cases rs with
  | cons r1 r2=>cases r2;obtain ⟨u,rfl⟩:=r1;exact ⟨u,rfl⟩
 exact PySem.W.KIN.call_text hn hl ⟨.int n,H,I.tok _,⟨_,rfl⟩,q⟩
end
section
variable (P:Program) (w:World)
end
section
variable {P:Program} {w:World} {H H':Hp} {h h':Heap} {a:Ad} {o:HO}
end
section
variable {P:Program} {w:World} {H:Hp} {h h':Heap} {x e:Ad} {o':HO}
end
section
variable {fs fs' ex ex':Jh} {H H1 H2:Hp} {h h1 h2 h':Heap} {a x e:Ad} {o:HO}
end
section
variable {X:Cx} {pins:Jd} {σ:List (Jp)} {H H':Hp} {s:Sh} {h':Heap}
end
section
variable {X:Cx}
variable {a b:Expr} {ta tb:TE} {pos:Pos}
variable {tA tB':TT} {rest:Ji}
end
section
variable {X:Cx} {pins:Jd} {σ:St} {H:Hp} {s:Sh} {a:Ad} {xs ys:Jo}
end
section
variable {X:Cx} {pins:Jd} {σ:St} {H:Hp} {s:Sh} {E:Ja}
end
section
variable {X:Cx} {st:Stmt} {rest:List Stmt} {t u:TS} {e:Expr} {te:TE} {pos:Pos}
end
section
variable {X:Cx} {pos:Pos}
end
section
variable {X:Cx} {tg:Expr}
end
section
variable {X:Cx} {a b c:Expr} {ta tb tc:TE} {pos:Pos}
end
section
variable {prog:Program} {w:World} {A:Around} {E:Ja} {s:Sh} {K:Fg} {x dx C f:Ad} {mA:J0} {name:Str} {v:Vl}
end
section
variable {P:Program} {w:World} {H H':Hp} {h h':Heap} {a C dx:Ad} {fs fs':List (Str×V)}
end
section
variable {X:Cx} {pins:Jd} {σ:St} {H:Hp} {s:Sh} {a C dx:Ad} {fs:List (Str×V)} {f:Str} {v:V} {A:Around} {E:Ja}
end
section
variable {X:Cx} {o e value:Expr} {f:Str} {pos pos' tpos:Pos} {ta tv:TE}
end
section
variable {X:Cx} {pins:Jd} {σ:St} {H:Hp} {s:Sh} {A:Around} {E:Ja} {Q:Ja} {c:Vl} {b:Bool}
end
section
variable {X:Cx} {e:Expr} {es:Ji} {te:TE} {t:TA} {pos:Pos}
end
section
variable {X:Cx} {pins:Jd} {σ:St} {H:Hp} {s s':Sh}
end
section
variable {X:Cx} {CX:CXT} {k:Nat} {f C:Ad} {fd:FuncData} {ps:Jg} {sp:Sp} {dvs:Jo} {ds:Je} {E:XK} {x m:Str} {p pos apos:Pos} {e o:Expr} {es:Ji} {ta:TE} {t:TA}
end
section
variable {X:Cx} {CX:CXT} {k:Nat} {f C:Ad} {fd:FuncData} {ps ks:Jg} {sp:Sp} {E:XK} {x m:Str} {p pos apos kpos:Pos} {e o:Expr} {es:Ji} {kws:List Keyword} {te ta:TE} {t tk:TA} {nm:Option Str}
variable {g:Je->Je->Je} {gV:Jo->Jo->Jo}
end
section
variable {X:Cx} {x:Str} {p pos:Pos} {e:Expr} {es:Ji} {t:TA} {id T:String} {r:Jo->Hp->VK->Prop}
end
section
variable {κ:Type} [DecidableEq κ]
def zZ (kvs:List (κ×V)) (k:κ):Jp:=(kvs.find? λkv=>decide (kv.1=k)).map (·.2)
def yX (kvs:List (κ×V)) (k:κ) (v:V):List (κ×V) :=
 if (kvs.any λkv=>decide (kv.1=k))=true then kvs.map (λkv=>if kv.1=k then (kv.1,v) else kv) else kvs++[(k,v)]
def Zx (kvs:List (κ×V)) (k:κ):List (κ×V):=kvs.filter λkv=>decide (kv.1≠k)
def yT {p:κ×V} {r:List (κ×V)} {k:κ} (e:p.1=k):zZ (p::r) k=some p.2:=by simp [zZ,List.find?_cons,e]
def yU {p:κ×V} {r:List (κ×V)} {k:κ} (e:¬ p.1=k):zZ (p::r) k=zZ r k:=by simp [zZ,List.find?_cons,e]
theorem Zs (k:κ):∀ kvs:List (κ×V),(kvs.any λkv=>decide (kv.1=k))=(zZ kvs k).isSome
 | []=>rfl
 | p::r=>by
  rw [List.any_cons];by_cases e:p.1=k
  ·simp only [yT e,decide_eq_true e,Bool.true_or,Option.isSome_some]
  ·rw [yU e,decide_eq_false e,Bool.false_or];exact Zs k r
theorem zdb (k j:κ) (y:V):∀ kvs:List (κ×V),zZ (kvs.map λkv=>if kv.1=k then (kv.1,y) else kv) j=(zZ kvs j).map λx=>if j=k then y else x
 | []=>rfl
 | p::r=>by
  have ih:=zdb k j y r;rw [List.map_cons];by_cases h:p.1=k
  ·rw [if_pos h]
   by_cases e:p.1=j
   ·rw [yT (p:=(p.1,y)) e,yT e,Option.map_some,if_pos (e.symm.trans h)]
   ·rw [yU (p:=(p.1,y)) e,yU e,ih]
  ·rw [if_neg h]
   by_cases e:p.1=j
   ·rw [yT (p:=p) e,yT e,Option.map_some,if_neg (λz=>h (e.trans z))]
   ·rw [yU (p:=p) e,yU e,ih]
theorem za4 (k j:κ) (y:V):∀ kvs:List (κ×V),zZ kvs k=none->zZ (kvs++[(k,y)]) j=if j=k then some y else zZ kvs j
 | [],_=>by
  by_cases e:k=j
  ·rw [if_pos e.symm];exact yT (p:=(k,y)) e
  ·rw [if_neg (λz=>e z.symm)];exact yU (p:=(k,y)) e
 | p::r,hn=>by
  rw [List.cons_append];have hk:¬ p.1=k:=λz=>by rw [yT z] at hn;cases hn
  rw [yU hk] at hn;have ih:=za4 k j y r hn;by_cases e:p.1=j
  ·rw [yT e,yT e,if_neg (λz=>hk (e.trans z))]
  ·rw [yU e,yU e,ih]
def XU (kvs:List (κ×V)) (k j:κ) (y:V):zZ (yX kvs k y) j=if j=k then some y else zZ kvs j:=by
 unfold yX;by_cases a:(kvs.any λkv=>decide (kv.1=k))=true
 ·rw [if_pos a,zdb]
  rw [Zs] at a;by_cases e:j=k
  ·obtain ⟨x,hx⟩:=Option.isSome_iff_exists.mp a
   rw [if_pos e,e,hx,Option.map_some,if_pos rfl]
  ·rw [if_neg e]
   cases zZ kvs j with
   | none=>rfl
   | some x=>rw [Option.map_some,if_neg e]
 ·rw [if_neg a]
  refine za4 k j y kvs ?_;rw [Zs] at a
  cases q:zZ kvs k with
  | none=>rfl
  | some x=>rw [q] at a;exact (a rfl).elim
def Yg (kvs:List (κ×V)) (k:κ) (v:V):(yX kvs k v).length<=kvs.length+1:=by
 unfold yX
 split
 ·rw [Jj];omega
 ·rw [Jk,q3x,List.length_nil];omega
def Y1 {kvs:List (κ×V)} {k:κ} (v:V) (h:zZ kvs k=none):yX kvs k v=kvs++[(k,v)]:=by
 unfold yX;rw [Zs,h];exact if_neg (by decide)
def RelO.isSome_eq {o:Jp} {u:Jf} (r:RelO o u):o.isSome=u.isSome:=by
 cases o with
 | none=>cases u with
  | none=>rfl
  | some _=>exact (show False from r).elim
 | some _=>cases u with
  | none=>exact (show False from r).elim
  | some _=>rfl
def RelO.getD {o:Jp} {u:Jf} {d:V} {d':Vl} (r:RelO o u) (rd:RelV d d'):RelV (o.getD d) (u.getD d'):=by
 cases o with
 | none=>cases u with
  | none=>exact rd
  | some _=>exact (show False from r).elim
 | some _=>cases u with
  | none=>exact (show False from r).elim
  | some _=>exact r
def KV.val {kvs:List (κ×V)} {vs:List (κ×Vl)} (r:KV kvs vs) (k:κ):RelO (zZ kvs k) (valueAt vs k):=by
 unfold KV at r
 induction r with
 | nil=>exact True.intro
 | @cons p q ps qs h t ih =>
  obtain ⟨h1,h2⟩:=h;by_cases e:p.1=k
  ·have e':q.1=k:=h1.symm.trans e
   have b:valueAt (q::qs) k=some q.2:=by simp [valueAt,List.find?_cons,e']
   rw [yT e,b];exact h2
  ·have e':¬ q.1=k:=λz=>e (h1.trans z)
   have b:valueAt (q::qs) k=valueAt qs k:=by simp [valueAt,List.find?_cons,e']
   rw [yU e,b];exact ih
def KV.any {kvs:List (κ×V)} {vs:List (κ×Vl)} (r:KV kvs vs) (k:κ):(kvs.any λkv=>decide (kv.1=k))=vs.any λkv=>decide (kv.1=k):=by
 unfold KV at r
 induction r with
 | nil=>rfl
 | cons h t ih=>rw [List.any_cons,List.any_cons,ih,h.1]
def KV.repl {kvs:List (κ×V)} {vs:List (κ×Vl)} (r:KV kvs vs) (k:κ) {y:V} {u:Vl} (ry:RelV y u) :
  KV (kvs.map λkv=>if kv.1=k then (kv.1,y) else kv) (vs.map λkv=>if kv.1=k then (kv.1,u) else kv):=by
 unfold KV at r ⊢
 induction r with
 | nil=>exact .nil
 | @cons p q ps qs h t ih =>
  rw [List.map_cons,List.map_cons];refine .cons ?_ ih;obtain ⟨h1,h2⟩:=h;by_cases e:p.1=k
  ·rw [if_pos e,if_pos (h1.symm.trans e)];exact ⟨h1,ry⟩
  ·rw [if_neg e,if_neg (λz=>e (h1.trans z))];exact ⟨h1,h2⟩
def KV.put {kvs:List (κ×V)} {vs:List (κ×Vl)} (r:KV kvs vs) (k:κ) {y:V} {u:Vl} (ry:RelV y u):KV (yX kvs k y) (stored vs k u):=by
 unfold yX stored;rw [r.any k];by_cases e:(vs.any λkv=>decide (kv.1=k))=true
 ·rw [if_pos e,if_pos e];exact r.repl k ry
 ·rw [if_neg e,if_neg e];exact Paired.snoc r ⟨rfl,ry⟩
def KV.keys {kvs:List (κ×V)} {vs:List (κ×Vl)} (r:KV kvs vs):kvs.map (·.1)=vs.map (·.1):=by
 unfold KV at r
 induction r with
 | nil=>rfl
 | cons h t ih=>rw [List.map_cons,List.map_cons,ih,h.1]
def KV.length {kvs:List (κ×V)} {vs:List (κ×Vl)} (r:KV kvs vs):kvs.length=vs.length:=Paired.length r
end
def zbm {P:Program} {w:World} {k:Key} {u:Vl} (r:RelV (kV k) u):(yj P w).is k u=true:=by
 cases k with
 | inl i=>obtain ⟨t,e⟩:=(show ∃ t,u=Value.int i t from r);subst e;exact zdu P w i t
 | inr x=>obtain ⟨t,e⟩:=(show ∃ t,u=Value.str x t from r);subst e;exact zdt P w x t
theorem zbn {P:Program} {w:World}:∀ {ks:List Key} {us:Je},Vals (ks.map kV) us->ItemsAre (yj P w) ks us
 | [],_,r=>by rw [List.map_nil] at r;cases r;exact .nil
 | k::ks,_,r=>by
  rw [List.map_cons] at r
  cases r with
  | cons h t=>exact .cons (zbm h) (zbn t)
abbrev KT (H:Hp):List (List Key×V)->List (List Key×Ad×Vl)->Prop:=Paired λp q=>p.1=q.1/\H q.2.1=some (.tup (p.1.map kV))/\RelV p.2 q.2.2
def KT.val {H:Hp} {kvs:List (List Key×V)} {xs:List (List Key×Ad×Vl)} (r:KT H kvs xs) (k:List Key):RelO (zZ kvs k) ((atKey xs k).map (·.2)):=by
 induction r with
 | nil=>exact True.intro
 | @cons p q ps qs h t ih =>
  obtain ⟨h1,_,h2⟩:=h;by_cases e:p.1=k
  ·have e':q.1=k:=h1.symm.trans e
   have b:atKey (q::qs) k=some q.2:=by simp [atKey,List.find?_cons,e']
   rw [yT e,b];exact h2
  ·have e':¬ q.1=k:=λz=>e (h1.trans z)
   have b:atKey (q::qs) k=atKey qs k:=by simp [atKey,List.find?_cons,e']
   rw [yU e,b];exact ih
def KT.repl {H:Hp} {kvs:List (List Key×V)} {xs:List (List Key×Ad×Vl)} (r:KT H kvs xs) (k:List Key) {y:V} {u:Vl} (ry:RelV y u) :
  KT H (kvs.map λkv=>if kv.1=k then (kv.1,y) else kv) (xs.map (putAt k u)):=by
 induction r with
 | nil=>exact .nil
 | @cons p q ps qs h t ih =>
  rw [List.map_cons,List.map_cons];refine .cons ?_ ih;obtain ⟨h1,h2,h3⟩:=h;unfold putAt;by_cases e:p.1=k
  ·rw [if_pos e,if_pos (h1.symm.trans e)];exact ⟨h1,h2,ry⟩
  ·rw [if_neg e,if_neg (λz=>e (h1.trans z))];exact ⟨h1,h2,h3⟩
def KT.put {H:Hp} {kvs:List (List Key×V)} {xs:List (List Key×Ad×Vl)} (r:KT H kvs xs) (k:List Key) {b:Ad} {y:V} {u:Vl} (hb:H b=some (.tup (k.map kV))) (ry:RelV y u) :
  KT H (yX kvs k y) (storedH xs k b u):=by
 have e:(kvs.any λkv=>decide (kv.1=k))=(atKey xs k).isSome:=by
  rw [Zs,(r.val k).isSome_eq,Option.isSome_map]
 unfold yX storedH;rw [e];by_cases q:(atKey xs k).isSome=true
 ·rw [if_pos q,if_pos q];exact r.repl k ry
 ·rw [if_neg q,if_neg q];exact Paired.snoc r ⟨rfl,hb,ry⟩
def KT.keeps {H H':Hp} {kvs:List (List Key×V)} {xs:List (List Key×Ad×Vl)} (r:KT H kvs xs) (ht:∀ b ys,H b=some (.tup ys)->H' b=some (.tup ys)):KT H' kvs xs :=
 Paired.mapP r λ_ _ z=>⟨z.1,ht _ _ z.2.1,z.2.2⟩
section
variable {P:Program} {w:World} {H:Hp} {h:Heap} {a:Ad}
def rd_of {u:HO} (ok:HOk P w H h) (e:Rd H a u):ObjOk P w H h a u:=e.ok ok
def zbx {kvs:Jm} (ok:HOk P w H h) (e:Rd H a (.dK kvs)):kvs.length<=sizeLine/\(a == sysModules)=false/\∃ vs,KV kvs vs/\h.DictOf (yj P w) a vs :=
 show ObjOk P w H h a (.dK kvs) from rd_of ok e
def dk_of {kvs:Jm} (ok:HOk P w H h) (e:H a=some (.dK kvs)):kvs.length<=sizeLine/\(a == sysModules)=false/\∃ vs,KV kvs vs/\h.DictOf (yj P w) a vs:=zbx ok (.inl e)
def zai {ks:List Key} (ok:HOk P w H h) (e:H a=some (.tup (ks.map kV))):(tupleKind (yj P w)).is h ks a:=by
 obtain ⟨_,its,r,o,h1,h2,n,h3⟩:=(show ObjOk P w H h a (.tup (ks.map kV)) from ok a _ e);exact ⟨o,its.toArray,n,h1,h2,h3,by simpa using zbn r⟩
def dt_rd {kvs:List (List Key×V)} (ok:HOk P w H h) (e:Rd H a (.dT kvs)):kvs.length<=sizeLine/\(a == sysModules)=false /\
  ∃ xs,KT H kvs xs/\h.DictOfH (tupleKind (yj P w)) a xs:=by
 obtain ⟨z,y,xs,r,o,es,ep,h1,h2,h3,h4,h5⟩:=(show ObjOk P w H h a (.dT kvs) from rd_of ok e);refine ⟨z,y,xs,r,o,es,ep,h1,h2,h3,h4,λx hx=>?_,h5⟩
 have all:∀ {l:List (List Key×V)} {m:List (List Key×Ad×Vl)},KT H l m->∀ x∈m,(tupleKind (yj P w)).is h x.1 x.2.1:=by
  intro l m q
  induction q with
  | nil=>intro x hx;exact nomatch hx
  | @cons p q ps qs hq t ih =>
   intro x hx;rcases List.mem_cons.mp hx with e | hx
   ·subst e
    exact zai ok (by rw [← hq.1];exact hq.2.1)
   ·exact ih x hx
 exact all r x hx
def dt_of {kvs:List (List Key×V)} (ok:HOk P w H h) (e:H a=some (.dT kvs)):kvs.length<=sizeLine/\(a == sysModules)=false /\
  ∃ xs,KT H kvs xs/\h.DictOfH (tupleKind (yj P w)) a xs:=dt_rd ok (.inl e)
end
def DGet (H:Hp) (a:Ad) (y:V) (r:Jp):Prop :=
 (∃ kvs k,Rd H a (.dK kvs)/\y=kV k/\r=zZ kvs k)∨∃ kvs k b,Rd H a (.dT kvs)/\y=.ref b/\H b=some (.tup (k.map kV))/\r=zZ kvs k
def DPut (H:Hp) (a:Ad) (y v:V) (H':Hp):Prop :=
 (∃ kvs k,H a=some (.dK kvs)/\y=kV k/\kvs.length<sizeLine/\H'=upd H a (.dK (yX kvs k v))) ∨
 ∃ kvs k b,H a=some (.dT kvs)/\y=.ref b/\H b=some (.tup (k.map kV))/\kvs.length<sizeLine/\H'=upd H a (.dT (yX kvs k v))
def DGet.k {H:Hp} {a:Ad} {kvs:Jm} {k:Key} (e:H a=some (.dK kvs)):DGet H a (kV k) (zZ kvs k):=.inl ⟨kvs,k,.inl e,rfl,rfl⟩
def DPut.k {H:Hp} {a:Ad} {kvs:Jm} {k:Key} {v:V} (e:H a=some (.dK kvs)) (hl:kvs.length<sizeLine):DPut H a (kV k) v (upd H a (.dK (yX kvs k v))):=.inl ⟨kvs,k,e,rfl,hl,rfl⟩
section
variable {X:Cx} {pins:Jd} {σ:St} {H:Hp} {s:Sh} {a:Ad} {y v:V} {u r:Vl} {o:Jp} {A:Around} {E:Ja}
def Inv.big (I:Inv X pins σ H s):sysModules<s.heap.objs.size:=by
 have h:mainGlobals<s.heap.objs.size:=(I.mod.glob.keeps I.bk).lt;exact Nat.lt_trans (by decide) h
def d_getItem {Q:Ja} (hu:A.units+1<cLine) (I:Inv X pins σ H s) (g:DGet H a y (some v)) (ry:RelV y u) (h:∀ w' s',Inv X pins σ H s'->RelV v w'->Q w' s') :
  wpAny (model X.prog X.w) A (getItem (.ref a) u) Q E s:=by
 rcases g with ⟨kvs,k,e,ey,l⟩ | ⟨kvs,k,b,e,ey,eb,l⟩
 ·subst ey
  obtain ⟨z,hd,vs,rel,dd⟩:=zbx I.hok e;obtain ⟨w',hw,rw'⟩:=RelO.some_of (v:=v) (o:=valueAt vs k) (by rw [l];exact rel.val k);exact wpAny_getItem_of (zbm ry) dd.mapOf hw (h w' _ (I.tok _) rw')
 ·subst ey
  cases (show u=Value.ref b from ry);obtain ⟨z,hd,xs,rel,dd⟩:=dt_rd I.hok e;obtain ⟨w',hw,rw'⟩:=RelO.some_of (v:=v) (o:=(atKey xs k).map (·.2)) (by rw [l];exact rel.val k);obtain ⟨p,hp,hp2⟩:=Option.map_eq_some_iff.mp hw;refine wpAny_getItem_heap (tupleKind_room_in1 hu) (zai I.hok eb) dd hp ?_;rw [hp2];exact h w' _ (I.tok _) rw'
def d_in {Q:Ja} (hu:A.units+1<cLine) (I:Inv X pins σ H s) (g:DGet H a y o) (ry:RelV y u) (h:∀ s',Inv X pins σ H s'->Q (.bool o.isSome) s') :
  wpAny (model X.prog X.w) A (compareOp .In u (.ref a)) Q E s:=by
 rcases g with ⟨kvs,k,e,ey,l⟩ | ⟨kvs,k,b,e,ey,eb,l⟩
 ·subst ey
  obtain ⟨z,hd,vs,rel,dd⟩:=zbx I.hok e;refine wpAny_in_of (zbm ry) hd dd.mapOf ?_;rw [← (rel.val k).isSome_eq,← l];exact h _ (I.tok _)
 ·subst ey
  cases (show u=Value.ref b from ry);obtain ⟨z,hd,xs,rel,dd⟩:=dt_rd I.hok e;refine wpAny_in_heap (tupleKind_room_in1 hu) (zai I.hok eb) hd dd ?_;have q:=(rel.val k).isSome_eq;rw [Option.isSome_map] at q;rw [← q,← l];exact h _ (I.tok _)
def d_notIn {Q:Ja} (hu:A.units+1<cLine) (I:Inv X pins σ H s) (g:DGet H a y o) (ry:RelV y u) (h:∀ s',Inv X pins σ H s'->Q (.bool (!o.isSome)) s') :
  wpAny (model X.prog X.w) A (compareOp .NotIn u (.ref a)) Q E s:=by
 rcases g with ⟨kvs,k,e,ey,l⟩ | ⟨kvs,k,b,e,ey,eb,l⟩
 ·subst ey
  obtain ⟨z,hd,vs,rel,dd⟩:=zbx I.hok e;refine wpAny_notIn_of (zbm ry) hd dd.mapOf ?_;rw [← (rel.val k).isSome_eq,← l];exact h _ (I.tok _)
 ·subst ey
  cases (show u=Value.ref b from ry);obtain ⟨z,hd,xs,rel,dd⟩:=dt_rd I.hok e;refine wpAny_notIn_heap (tupleKind_room_in1 hu) (zai I.hok eb) hd dd ?_;have q:=(rel.val k).isSome_eq;rw [Option.isSome_map] at q;rw [← q,← l];exact h _ (I.tok _)
def zc7 {h':Heap} {t':Nat} {ob:HO} (I:Inv X pins σ H s) (mu:Mut (H a)) (hs:Heap.SameBut a s.heap h') (he:∃ q,h'.get? a=some q) (new:ObjOk X.prog X.w (upd H a ob) h' a ob) :
  Inv X pins σ (upd H a ob) { s with heap:=h',toks:=t' } :=
 I.write (x:=a) (e:=a) mu (.inl rfl) (λb q hb z=>(hs.2 b hb).trans z) he new
def dk_new {P:Program} {w:World} {H':Hp} {h':Heap} {kvs:Jm} {vs:List (Key×Vl)} (z:kvs.length<=sizeLine) (hd:(a == sysModules)=false) (rel:KV kvs vs) (dd:h'.DictOf (yj P w) a vs) :
  ObjOk P w H' h' a (.dK kvs):=⟨z,hd,vs,rel,dd⟩
def d_setItem {H':Hp} {Q:Unit->Sh->Prop} (hu:A.units+1<cLine) (I:Inv X pins σ H s) (g:DPut H a y v H') (ry:RelV y u) (rv:RelV v r) (h:∀ s',Inv X pins σ H' s'->Q () s') :
  wpAny (model X.prog X.w) A (setItem (.ref a) u r) Q E s:=by
 rcases g with ⟨kvs,k,e,ey,l,eH⟩ | ⟨kvs,k,b,e,ey,eb,l,eH⟩
 ·subst ey eH
  obtain ⟨z,hd,vs,rel,dd⟩:=dk_of I.hok e;have hz:vs.length<=sizeLine:=by rw [← rel.length];exact z
  have hl:(yX kvs k v).length<=sizeLine:=by have:=Yg kvs k v;omega
  refine wpAny_setItem_pairs (hsz:=hz) (zbm ry) dd λh' dd' hs=>h _ ?_;have he:∃ q,h'.get? a=some q:=let ⟨q,_,_,hq,_⟩:=dd';⟨q,hq⟩;exact zc7 I (by rw [e];exact True.intro) hs he (dk_new hl hd (rel.put k rv) dd')
 ·subst ey eH
  cases (show u=Value.ref b from ry);obtain ⟨z,hd,xs,rel,dd⟩:=dt_of I.hok e;have hz:xs.length<=sizeLine:=by rw [← Paired.length rel];exact z
  have hl:(yX kvs k v).length<=sizeLine:=by have:=Yg kvs k v;omega
  refine wpAny_setItem_heap (hsz:=hz) (tupleKind_room_in1 hu) (zai I.hok eb) dd λh' dd' hs=>h _ ?_;obtain ⟨q,es,ep,hq,h2,h3,h4,_,h5⟩:=dd';refine zc7 I (by rw [e];exact True.intro) hs ⟨q,hq⟩ ⟨hl,hd,_,(rel.put k eb rv).keeps λc ys ec=>?_,q,es,ep,hq,h2,h3,h4,h5⟩;rw [zF (ne_of ec e (λz=>nomatch z))];exact ec
end
section
variable {X:Cx} {pins:Jd} {σ:St} {H:Hp} {s:Sh} {a:Ad} {kvs:Jm} {k:Key} {u:Vl} {A:Around} {E:Ja}
def d_len {Q:Ja} (I:Inv X pins σ H s) (e:Rd H a (.dK kvs)) (h:∀ t s',Inv X pins σ H s'->Q (.int kvs.length t) s'):wpAny (model X.prog X.w) A (call (.builtin "len") [.ref a]) Q E s:=by
 obtain ⟨z,hd,vs,rel,dd⟩:=zbx I.hok e;refine call_len_dict hd dd (by rw [← rel.length];rw [sizeLine_eq] at z;omega) ?_;rw [← rel.length];exact h _ _ (I.tok _)
end
def NoSl (i:Expr):Prop:=∀ ov iv,subscripted i false ov iv=operate [ov,iv] (getItem ov iv)
def subD_of {prog:Program} {w:World} {A:Around} {E:Ja} {s:Sh} {env:Env} {value slice:Expr} {pos:Pos} {T id:String} {Q:Ja}
  (hl:typeLookup (.type T) "__getitem__"=pure (some (.builtin id))) (hs:NoSl slice)
  (h:wpAny (model prog w) A (eval value env) (λo s₁=>wpAny (model prog w) A (eval slice env) (λi s₂=>s₂.TypeIs o T/\wpAny (model prog w) A (getItem o i) Q E s₂) E s₁) E s) :
  wpAny (model prog w) A (eval (.Subscript value slice pos) env) Q E s:=by
 refine Subscript_ (wpAny_mono h (λo s₁ h₁=>wpAny_mono h₁ (λi s₂ h₂=>?_) λ_ _ x=>x) λ_ _ x=>x);obtain ⟨hT,h₂⟩:=h₂;unfold subscriptTail;refine q0x ?_;rw [getitemInPython_of_ne hT.not_modules];refine q0x (wpAny_specialOf hT hl ?_)
 have fin:wpAny (model prog w) A (subscripted slice false o i) (λr s₃=>wpAny (model prog w) A (letTemporaryGo value o r >>= λ_=>pure r) Q E s₃) E s₂:=by
  rw [hs o i];exact wpAny_operating (wpAny_mono h₂ (λr s₃ h₃=>q0x (wpAny_letTemporaryGo (q0y h₃))) λ_ _ x=>x)
 first
  | exact q0y (q0x fin)
  | exact q0x (q0y (q0x fin))
  | exact q0x fin
def zd5 {X:Cx} {pins:Jd} {σ:St} {H:Hp} {s:Sh} {a:Ad} {y:V} {o:Jp} (I:Inv X pins σ H s) (g:DGet H a y o):s.TypeIs (.ref a) "dict":=by
 rcases g with ⟨kvs,k,e,_,_⟩ | ⟨kvs,k,b,e,_,_,_⟩
 ·obtain ⟨_,_,vs,_,dd⟩:=zbx I.hok e
  exact dd.typeIs
 ·obtain ⟨_,_,xs,_,dd⟩:=dt_rd I.hok e
  exact dd.typeIs
inductive tDGet_S (Q:VK) (x y:V) (H2:Hp):Prop
 | mk (a v:_) (_:x=.ref a) (_:DGet H2 a y (some v)) (_:Q v H2)
def tDGet (td ty:TE):TE:=λσ H Q=>td σ H λx H1=>ty σ H1 λy H2=>tDGet_S Q x y H2
inductive tDIn_S (Q:VK) (y x:V) (H2:Hp):Prop
 | mk (a o:_) (_:x=.ref a) (_:DGet H2 a y o) (_:Q (.bl o.isSome) H2)
def tDIn (ty td:TE):TE:=λσ H Q=>ty σ H λy H1=>td σ H1 λx H2=>tDIn_S Q y x H2
inductive tDNotIn_S (Q:VK) (y x:V) (H2:Hp):Prop
 | mk (a o:_) (_:x=.ref a) (_:DGet H2 a y o) (_:Q (.bl (!o.isSome)) H2)
def tDNotIn (ty td:TE):TE:=λσ H Q=>ty σ H λy H1=>td σ H1 λx H2=>tDNotIn_S Q y x H2
inductive sDPut_S (D:Ends) (σ:St) (v x y:V) (H3:Hp):Prop
 | mk (a H4:_) (_:x=.ref a) (_:DPut H3 a y v H4) (_:D.nx σ H4)
def sDPut (td ty tv:TE):TS:=λD σ H=>tv σ H λv H1=>td σ H1 λx H2=>ty σ H2 λy H3=>sDPut_S D σ v x y H3
section
variable {X:Cx} {o i e value:Expr} {pos pos' tpos:Pos} {td ty tv:TE}
def zJ (hu:X.A.units+1<cLine) (ho:PE X o td) (hi:PE X i ty) (hs:NoSl i):PE X (.Subscript o i pos) (tDGet td ty):=by
 intro pins s σ H Q I h;refine subD_of PySem.F.slot_dict_getitem.lookup hs (thn (ho pins s σ H _ I h) λu s1 ⟨x,H1,I1,rx,q1⟩=>thn (hi pins s1 σ H1 _ I1 q1) λiv s2 ⟨y,H2,I2,ry,a,v,ex,g,q2⟩=>?_);subst ex;obtain rfl:u=Value.ref a:=rx;exact ⟨zd5 I2 g,d_getItem hu I2 g ry λw' s3 I3 rw'=>⟨v,H2,I3,rw',q2⟩⟩
def X6 (hu:X.A.units+1<cLine) (hi:PE X i ty) (ho:PE X o td):PC X .In i o (tDIn ty td):=by
 intro pins s σ H Q I h;refine thn (hi pins s σ H _ I h) λiv s1 ⟨y,H1,I1,ry,q1⟩=>thn (ho pins s1 σ H1 _ I1 q1) λu s2 ⟨x,H2,I2,rx,a,ov,ex,g,q2⟩=>?_;subst ex;obtain rfl:u=Value.ref a:=rx;exact d_in hu I2 g ry λs3 I3=>⟨.bl ov.isSome,H2,I3,rfl,q2⟩
def Yz (hu:X.A.units+1<cLine) (hi:PE X i ty) (ho:PE X o td):PC X .NotIn i o (tDNotIn ty td):=by
 intro pins s σ H Q I h;refine thn (hi pins s σ H _ I h) λiv s1 ⟨y,H1,I1,ry,q1⟩=>thn (ho pins s1 σ H1 _ I1 q1) λu s2 ⟨x,H2,I2,rx,a,ov,ex,g,q2⟩=>?_;subst ex;obtain rfl:u=Value.ref a:=rx;exact d_notIn hu I2 g ry λs3 I3=>⟨.bl (!ov.isSome),H2,I3,rfl,q2⟩
def y4 (hu:X.A.units+1<cLine) (ho:PE X o td) (hi:PE X i ty) (hv:PE X value tv) (hs:swapsWith value (some (.Subscript o i pos')) pos.line X.env=pure false) :
  PS X (.Assign [.Subscript o i pos'] value pos) (sDPut td ty tv):=by
 intro pins s σ H D I h;refine wpAny_Assign_Subscript (thn (hv pins s σ H _ I h) λr s1 ⟨v,H1,I1,rv,q1⟩=>thn (ho pins s1 σ H1 _ I1 q1) λu s2 ⟨x,H2,I2,rx,q2⟩=>thn (hi pins s2 σ H2 _ I2 q2) λiv s3 ⟨y,H3,I3,ry,a,H4,ex,g,q3⟩=>?_) hs;subst ex;obtain rfl:u=Value.ref a:=rx;exact d_setItem hu I3 g ry rv λs4 I4=>⟨σ,H4,I4,q3⟩
end
def zd3 {P:Program} {w:World} {H:Hp} (h:Heap) (hb:sysModules<h.objs.size):ObjOk P w H (h.push { cls:=.type "dict",data:=.dict #[] }) h.objs.size (.dK []) :=
 ⟨Nat.zero_le _,beq_eq_false_iff_ne.mpr (Ne.symm (Nat.ne_of_lt hb)),[],.nil,Heap.DictOf.new h⟩
def tDNewK:TE:=λ_ H Q=>∀ p,H p=none->Q (.ref p) (upd H p (.dK []))
section
variable {X:Cx} {pos:Pos}
def Ya:PE X (.Dict [] [] pos) tDNewK:=λpins s σ H Q I h =>
 wpAny_Dict_empty ⟨.ref s.heap.objs.size,_,I.laid (a:=s.heap.objs.size) (o:=.dK []) (t':=s.toks) (λ_ _ q=>Heap.get?_push_of_some _ q) (Nat.le_refl _) (zd3 s.heap I.big),rfl,h _ (I.hok.fresh (Nat.le_refl _))⟩
end
def tPairs:List (TE×TE)->St->Hp->(List (V×V)->Hp->Prop)->Prop
 | [],_,H,Q=>Q [] H
 | (tk,tv)::r,σ,H,Q=>tk σ H λx H1=>tv σ H1 λy H2=>tPairs r σ H2 λps H3=>Q ((x,y)::ps) H3
abbrev VV:List (V×V)->List (Vl×Vl)->Prop:=Paired λp q=>RelV p.1 q.1/\RelV p.2 q.2
def PPs (X:Cx) (pos:Pos) (keys:List (Option Expr)) (values:Ji) (trs:List (TE×TE)):Prop :=
 ∀ (pins:Jd) (s:Sh) (σ:St) (H:Hp) (Q:List (V×V)->Hp->Prop),Inv X pins σ H s->tPairs trs σ H Q ->
  wpAny (model X.prog X.w) X.A (evalPairs (pairTrees keys values X.env pos)) (λvs s'=>∃ ps H',Inv X pins σ H' s'/\VV ps vs/\Q ps H') X.xe s
def pps_nil {X:Cx} {pos:Pos}:PPs X pos [] [] []:=λpins s σ H Q I h=>pairTrees_nil_walk ⟨[],H,I,.nil,h⟩
def ZO {X:Cx} {pos:Pos} {k v:Expr} {ks:List (Option Expr)} {vs:Ji} {tk tv:TE} {trs:List (TE×TE)} (hk:PE X k tk) (hv:PE X v tv) (hr:PPs X pos ks vs trs) :
  PPs X pos (some k::ks) (v::vs) ((tk,tv)::trs):=λpins s σ H Q I h =>
 pairTrees_cons_walk (thn (hk pins s σ H _ I h) λu s1 ⟨x,H1,I1,rx,q1⟩=>thn (hv pins s1 σ H1 _ I1 q1) λw2 s2 ⟨y,H2,I2,ry,q2⟩ =>
  thn (hr pins s2 σ H2 _ I2 q2) λws s3 ⟨ps,H3,I3,rel,q3⟩=>⟨(x,y)::ps,H3,I3,.cons ⟨rx,ry⟩ rel,q3⟩)
def zad (kvs more:Jm):Jm:=more.foldl (λacc kv=>yX acc kv.1 kv.2) kvs
def KV.merge:∀ {more:Jm} {rs:List (Key×Vl)} {kvs:Jm} {vs:List (Key×Vl)},KV more rs->KV kvs vs->KV (zad kvs more) (merged vs rs):=by
 intro more rs kvs vs r;unfold KV at r
 induction r generalizing kvs vs with
 | nil=>intro q;exact q
 | @cons p q ps qs h t ih =>
  intro r0
  have e:KV (yX kvs p.1 p.2) (stored vs q.1 q.2):=by
   have:=r0.put p.1 h.2;rw [← h.1];exact this
  exact ih e
theorem YK:∀ (more kvs:Jm),(zad kvs more).length<=kvs.length+more.length
 | [],kvs=>by show kvs.length<=kvs.length+0;omega
 | p::r,kvs=>by
  have h1:=YK r (yX kvs p.1 p.2);have h2:=Yg kvs p.1 p.2;show (zad (yX kvs p.1 p.2) r).length<=_;rw [q3x];omega
theorem zan {P:Program} {w:World}:∀ {kvs:Jm} {ws:List (Vl×Vl)},VV (kvs.map λkv=>(kV kv.1,kv.2)) ws->∃ rs,Carries (yj P w) ws rs/\KV kvs rs
 | [],_,r=>by rw [List.map_nil] at r;cases r;exact ⟨[],True.intro,.nil⟩
 | p::kvs,_,r=>by
  rw [List.map_cons] at r
  cases r with
  | @cons a b as bs h t =>
   obtain ⟨rs,c,q⟩:=zan (P:=P) (w:=w) t;obtain ⟨b1,b2⟩:=b;exact ⟨(p.1,b2)::rs,⟨zbm h.1,rfl,c⟩,.cons ⟨rfl,h.2⟩ q⟩
def tDisp (trs:List (TE×TE)):TE:=λσ H Q=>∀ p,H p=none->tPairs trs σ (upd H p (.dK [])) λps H2=>H2 p=some (.dK [])/\∃ kvs:Jm,ps=kvs.map (λkv=>(kV kv.1,kv.2))/\kvs.length<=15/\Q (.ref p) (upd H2 p (.dK (zad [] kvs)))
def pe_disp {X:Cx} {pos:Pos} {keys:List (Option Expr)} {values:Ji} {trs:List (TE×TE)} (h:PPs X pos keys values trs) (hall:keys.all (·.isSome)=true) (hl:keys.length=values.length) (h0:keys≠[])
  (h15:keys.length<=15):PE X (.Dict keys values pos) (tDisp trs):=by
 intro pins s σ H Q I q;have hn:=I.hok.fresh (Nat.le_refl s.heap.objs.size);have I1:=I.laid (a:=s.heap.objs.size) (o:=.dK []) (h':=s.heap.push { cls:=.type "dict",data:=.dict #[] }) (t':=s.toks) (λ_ _ q=>Heap.get?_push_of_some _ q) (Nat.le_refl _) (zd3 s.heap I.big);refine wpAny_Dict_walk (knd:=yj X.prog X.w) hall hl h0 h15 (thn (h pins _ σ _ _ I1 (q _ hn)) λws s2 ⟨ps,H2,I2,rel,e,kvs,ep,lk,q2⟩=>?_);subst ep;obtain ⟨rs,c,rk⟩:=zan (P:=X.prog) (w:=X.w) rel;obtain ⟨z,hd,vs0,r0,dd⟩:=dk_of I2.hok e;cases r0;refine ⟨rs,c,dd,λh' dd' hs=>⟨.ref s.heap.objs.size,_,?_,rfl,q2⟩⟩
 have hz:(zad [] kvs).length<=sizeLine:=by
  have h1:=YK kvs [];rw [List.length_nil] at h1;rw [sizeLine_eq];omega
 have he:∃ q,h'.get? s.heap.objs.size=some q:=let ⟨q,_,_,hq,_⟩:=dd';⟨q,hq⟩;exact zc7 I2 (by rw [e];exact True.intro) hs he (dk_new hz hd (rk.merge .nil) dd')
structure M1 (X:Cx) (o:Expr) (m:Str) (apos:Pos) (e:Expr) (cpos:Pos):Prop where
 base:attributeBase o m X.env (eval o X.env)=eval o X.env
 few:((backTo cpos (starEach [e] X.env)).all (λx=>!x.1) && (backToKw cpos (keywordEach [] X.env)).all (λx=>x.1.isSome)
  && decide (([e]:Ji).length+([]:List Keyword).length+(if ([]:List Keyword).isEmpty then 0 else 1)<30))=true
 line:(apos.endLine == cpos.line)=true
 trees:backTo cpos (starEach [e] X.env)=[(false,eval e X.env)]
structure M2 (X:Cx) (o:Expr) (m:Str) (apos:Pos) (e f:Expr) (cpos:Pos):Prop where
 base:attributeBase o m X.env (eval o X.env)=eval o X.env
 few:((backTo cpos (starEach [e,f] X.env)).all (λx=>!x.1) && (backToKw cpos (keywordEach [] X.env)).all (λx=>x.1.isSome)
  && decide (([e,f]:Ji).length+([]:List Keyword).length+(if ([]:List Keyword).isEmpty then 0 else 1)<30))=true
 line:(apos.endLine == cpos.line)=true
 trees:backTo cpos (starEach [e,f] X.env)=[(false,eval e X.env),(false,eval f X.env)]
def IsD (H:Hp) (a:Ad):Prop:=(∃ kvs,Rd H a (.dK kvs))∨∃ kvs,Rd H a (.dT kvs)
section
variable {X:Cx} {pins:Jd} {σ:St} {H:Hp} {s:Sh} {a:Ad} {y d:V} {u r:Vl} {o:Jp} {A:Around} {E:Ja}
end
section
variable {X:Cx} {o e f:Expr} {apos cpos:Pos} {td ty tx:TE}
end
section
variable {X:Cx} {pins:Jd} {σ:St} {H:Hp} {s:Sh} {a:Ad} {kvs:Jm} {A:Around} {E:Ja}
end
section
variable {X:Cx} {pins:Jd} {σ:St} {H:Hp} {s:Sh} {a:Ad} {y:V} {u:Vl} {A:Around} {E:Ja}
end
end L2
namespace Att
open PySem PySem.W PySem.Calls PyProof.Rows
section
variable {prog:Program} {w:World} {A:Around} {E:Ja} {s:Sh} {K:Frag}
end
end Att
namespace L2
open PySem PySem.Spec PyProof.Rows
section
variable {P:Program} {w:World} {K:Fg} {mg:J0} {base:Heap}
end
section
variable {X:Cx}
def Xr:Zy X (.builtin "len") (λxs H Q=>∃ a kvs,xs=[V.ref a]/\H a=some (.dK kvs)/\Q (.int kvs.length) H):=by
 intro pins s σ H xs us Q I r h;obtain ⟨a,kvs,rfl,ha,q⟩:=h;obtain ⟨u,rfl,ru⟩:=XT r;cases ru;exact d_len I (.inl ha) λt s' I'=>⟨.int kvs.length,H,I',⟨t,rfl⟩,q⟩
end
section
variable {κ:Type} [DecidableEq κ]
def valV_not {kvs:List (κ×V)} {k:κ} (h:zZ kvs k=none):¬ k∈kvs.map (·.1):=by
 intro m;obtain ⟨p,hp,e⟩:=List.mem_map.mp m;have q:(kvs.any λkv=>decide (kv.1=k))=true:=List.any_eq_true.mpr ⟨p,hp,decide_eq_true e⟩;rw [Zs,h] at q;exact absurd q (by simp)
theorem nd_snoc:∀ {l:List κ} {k:κ},l.Nodup->¬ k∈l->(l++[k]).Nodup
 | [],k,_,_=>by simp
 | a::r,k,h,hk=>by
  obtain ⟨h1,h2⟩:=List.nodup_cons.mp h;show (a::(r++[k])).Nodup;refine List.nodup_cons.mpr ⟨λm=>?_,nd_snoc h2 λm=>hk (List.mem_cons.mpr (Or.inr m))⟩;rcases List.mem_append.mp m with q | q
  ·exact h1 q
  ·exact hk (List.mem_cons.mpr (Or.inl (List.mem_singleton.mp q).symm))
def nd_putK {kvs:List (κ×V)} {k:κ} (v:V) (hn:(kvs.map (·.1)).Nodup) (h:zZ kvs k=none):((yX kvs k v).map (·.1)).Nodup:=by
 rw [Y1 v h,Jl];exact nd_snoc hn (valV_not h)
def zbt {p:κ×V} {r:List (κ×V)} {k:κ} (e:p.1=k):Zx (p::r) k=Zx r k:=by
 unfold Zx;rw [List.filter_cons,if_neg (by simp [e])]
def Xo {p:κ×V} {r:List (κ×V)} {k:κ} (e:¬ p.1=k):Zx (p::r) k=p::Zx r k:=by
 unfold Zx;rw [List.filter_cons,if_pos (by simp [e])]
theorem zd2:∀ {kvs:List (κ×V)} {k:κ},¬ k∈kvs.map (·.1)->Zx kvs k=kvs
 | [],_,_=>rfl
 | p::r,k,h=>by
  have h':¬ k∈r.map (·.1):=λm=>by
   obtain ⟨q,hq,e⟩:=List.mem_map.mp m;exact h (List.mem_map.mpr ⟨q,List.mem_cons.mpr (Or.inr hq),e⟩)
  rw [Xo λe=>h (List.mem_map.mpr ⟨p,List.mem_cons.mpr (Or.inl rfl),e⟩),zd2 h']
def zbu {kvs:List (κ×V)} {k:κ} {p:κ×V} (h:p∈Zx kvs k):p∈kvs:=(List.mem_filter.mp h).1
theorem zab:∀ {kvs:List (κ×V)} {k:κ},(kvs.map (·.1)).Nodup->((Zx kvs k).map (·.1)).Nodup
 | [],_,_=>List.nodup_nil
 | p::r,k,h=>by
  have h:(p.1::r.map (·.1)).Nodup:=h;obtain ⟨h1,h2⟩:=List.nodup_cons.mp h;by_cases e:p.1=k
  ·rw [zbt e]
   exact zab h2
  ·rw [Xo e]
   show (p.1::(Zx r k).map (·.1)).Nodup;refine List.nodup_cons.mpr ⟨λm=>h1 ?_,zab h2⟩;obtain ⟨q,hq,eq⟩:=List.mem_map.mp m;exact List.mem_map.mpr ⟨q,zbu hq,eq⟩
theorem zbv:∀ {kvs:List (κ×V)} {k:κ},(kvs.map (·.1)).Nodup->k∈kvs.map (·.1)->(Zx kvs k).length+1=kvs.length
 | [],_,_,m=>by simp at m
 | p::r,k,h,m=>by
  have h:(p.1::r.map (·.1)).Nodup:=h;have m:k=p.1∨k∈r.map (·.1):=List.mem_cons.mp m;obtain ⟨h1,h2⟩:=List.nodup_cons.mp h;by_cases e:p.1=k
  ·subst e
   rw [zbt rfl,zd2 h1]
   all_goals rfl
  ·have m':k∈r.map (·.1):=m.resolve_left λz=>e z.symm
   have q:=zbv h2 m';rw [Xo e,q3x,q3x];omega
end
def constV:Expr->Jp
 | .Constant (.str x) _ _=>some (.str x)
 | .Constant (.int i) _ _=>some (.int i)
 | _=>none
def XN:Ji->Option (Jo)
 | []=>some []
 | e::es=>match constV e with
  | some v=>(match XN es with
   | some vs=>some (v::vs)
   | none=>none)
  | none=>none
def tKs (vs:Jo):TA:=λ_ H Q=>Q vs H
theorem pa_ks {X:Cx}:∀ {es:Ji} {vs:Jo},XN es=some vs->PA X es (tKs vs)
 | [],vs,h=>by cases h;exact zc
 | e::es,vs,h=>by
  unfold XN at h
  split at h
  ·rename_i v hv
   split at h
   ·rename_i ws hw
    cases h;have ih:=pa_ks (X:=X) hw;unfold constV at hv
    split at hv
    ·cases hv;exact za zk ih rfl
    ·cases hv;exact za zd ih rfl
    ·cases hv
   ·cases h
  ·cases h
structure PB (X:Cx) (sts:List Stmt) (t:TS):Prop where
 h:PSs X sts t
structure PW1 (X:Cx) (st:Stmt) (t:TS):Prop where
 h:PS X st t
section
variable {X:Cx} {st:Stmt} {rest:List Stmt} {t u:TS}
def Z5 (h1:PW1 X st t) (h2:PB X rest u):PB X (st::rest) (tSeq t u):=⟨zb h1.h h2.h⟩
def pb_one (h1:PW1 X st t):PB X [st] t:=⟨ze h1.h⟩
def pw_ks {i:Nat} {x:Str} {es:Ji} {vs:Jo} {p pos pos':Pos} (hN:X.N.Nodup) (hi:X.N[i]?=some x) (hx:Loc X.env.scope x) (h:XN es=some vs) (hf:X.fn x=true∨X.env.scope.names.lookup x=some .local:=by first | exact .inl rfl | exact .inr rfl | assumption) :
  PW1 X (.Assign [.Name x pos'] (.List es p) pos) (tAsg (tLst (tKs vs)) (XB i)):=⟨zq hN hi hx (zN (pa_ks h)) rfl hf⟩
end
section
variable {P:Program} {w:World} {K:Fg} {mg:J0} {base:Heap}
def Fun.okB {x qual:Str} {st:Stmt} {f:Ad} {fd:FuncData} {N ps:Jg} {k:Nat} {sp:Sp} (F:Fun K x qual st f fd) (S:FnScope N ps (zg st)) (len:∀ vs H Q E,sp vs H Q E->vs.length=ps.length)
  (hbody:∀ (cdv:Vl) (A:Around) (outer:List Env) (s:Sh) (H:Hp) (vs:Jo) (Q:VK) (E:XK),Room k (A.deeper (envOfC qual (zg st) s.heap.objs.size f cdv))->sp vs H Q E ->
   ∃ t,PB (ZR CX0 P w K mg base N qual (zg st) f cdv A outer s H E).nox (yu st) t/\t { nx:=λ_ H'=>Q .non H',rt:=Q } (start N vs) H):FnOk P w K mg base CX0 (k+1) f fd ps sp :=
 F.ok S len λcdv A outer s H vs Q E hr h=>let ⟨t,q,z⟩:=hbody cdv A outer s H vs Q E hr h;⟨t,q.h,z⟩
end
structure Hd (B:Hp) (L:Jn) (H:Hp):Prop where
 nd:(L.map Prod.fst).Nodup
 nw:∀ p∈L,B p.1=none
 st:∀ p∈L,H p.1=some p.2
 sm:Same B H
namespace Hd
variable {B:Hp} {L:Jn} {H H':Hp} {a b:Ad} {o o':HO}
def base:Hd B [] B:=⟨List.nodup_nil,(λ_ h=>nomatch h),(λ_ h=>nomatch h),Same.refl B⟩
def get (h:Hd B L H) (i:Nat) (e:L[i]?=some (a,o)):H a=some o:=h.st _ (List.mem_of_getElem? e)
def same (h:Hd B L H) (s:Same H H'):Hd B L H':=⟨h.nd,h.nw,λp m=>s _ _ (h.st p m),h.sm.trans s⟩
def new (h:Hd B L H) (n:H a=none):Hd B ((a,o)::L) (upd H a o):=by
 have ne:∀ p∈L,p.1≠a:=λp m=>zI (h.st p m) n;refine ⟨List.nodup_cons.mpr ⟨λm=>?_,h.nd⟩,λp m=>?_,λp m=>?_,yq h.sm (h.sm.free n)⟩
 ·obtain ⟨p,mp,e⟩:=List.mem_map.mp m
  exact ne p mp e
 ·rcases List.mem_cons.mp m with rfl | m
  ·exact h.sm.free n
  ·exact h.nw p m
 ·rcases List.mem_cons.mp m with rfl | m
  ·exact zr
  ·rw [zF (ne p m)];exact h.st p m
def fst_set (i:Nat) (e:L[i]?=some (a,o)):(L.set i (a,o')).map Prod.fst=L.map Prod.fst:=by
 rw [List.map_set];apply List.ext_getElem?;intro j;rw [List.getElem?_set]
 split
 ·rename_i q
  subst q
  split
  ·rw [List.getElem?_map,e];rfl
  ·rename_i q
   rw [List.getElem?_eq_none (by omega)]
 ·rfl
def ne (h:Hd B L H) (i j:Nat) (ei:L[i]?=some (a,o)) (ej:L[j]?=some (b,o')) (hij:i≠j):a≠b:=λe=>by
 subst e;have h1:(L.map Prod.fst)[i]?=some a:=by rw [List.getElem?_map,ei];rfl
 have h2:(L.map Prod.fst)[j]?=some a:=by rw [List.getElem?_map,ej];rfl
 obtain ⟨b1,e1⟩:=List.getElem?_eq_some_iff.mp h1;obtain ⟨b2,e2⟩:=List.getElem?_eq_some_iff.mp h2
 have key:∀ (l:Jh),l.Nodup->∀ (i j:Nat) (b1:i<l.length) (b2:j<l.length),l[i]=l[j]->i=j:=by
  intro l hl
  induction l with
  | nil=>intro i j b1;cases b1
  | cons x r ih =>
   intro i j b1 b2 q;have nr:=List.nodup_cons.mp hl
   cases i with
   | zero =>
    cases j with
    | zero=>rfl
    | succ j=>exact absurd (by rw [List.getElem_cons_zero,List.getElem_cons_succ] at q;rw [q];exact List.getElem_mem _) nr.1
   | succ i =>
    cases j with
    | zero=>exact absurd (by rw [List.getElem_cons_zero,List.getElem_cons_succ] at q;rw [← q];exact List.getElem_mem _) nr.1
    | succ j=>rw [List.getElem_cons_succ,List.getElem_cons_succ] at q;rw [ih nr.2 i j _ _ q]
 exact hij (key _ h.nd i j b1 b2 (e1.trans e2.symm))
def chg (h:Hd B L H) (i:Nat) (e:L[i]?=some (a,o)) (k:∀ c u,c≠a->H c=some u->H' c=some u) (q:H' a=some o'):Hd B (L.set i (a,o')) H':=by
 have nb:B a=none:=h.nw _ (List.mem_of_getElem? e);refine ⟨by rw [fst_set i e];exact h.nd,λp m=>?_,λp m=>?_,λc u z=>k c u (zI z nb) (h.sm c u z)⟩
 ·rcases List.mem_or_eq_of_mem_set m with m | rfl
  ·exact h.nw p m
  ·exact nb
 ·obtain ⟨j,lt,ej⟩:=List.getElem_of_mem m
  have ej:(L.set i (a,o'))[j]?=some p:=by rw [List.getElem?_eq_getElem lt,ej]
  rw [List.getElem?_set] at ej
  split at ej
  ·split at ej
   ·cases ej;exact q
   ·cases ej
  ·rename_i hij
   obtain ⟨c,u⟩:=p;exact k c u (Ne.symm (h.ne i j e ej hij)) (h.get j ej)
def put (h:Hd B L H) (i:Nat) (e:L[i]?=some (a,o)):Hd B (L.set i (a,o')) (upd H a o'):=h.chg i e (λc u n z=>by rw [zF n];exact z) zr
def sql (h:Hd B L H) {K:Fg} {xs:Jo} (q:SqL K B a xs):SqL K H a xs:=yV q h.sm
def sqt (h:Hd B L H) {K:Fg} {xs:Jo} (q:SqT K B a xs):SqT K H a xs:=by
 rcases q with (q | ⟨o,q⟩) | q
 ·exact .inl (.inl (h.sm _ _ q))
 ·exact .inl (.inr ⟨o,h.sm _ _ q⟩)
 ·exact .inr q
def lst (h:Hd B L H) {K:Fg} {xs:Jo} (i:Nat) (e:L[i]?=some (a,.lst xs)):SqL K H a xs:=SqL.of (h.get i e)
def tup (h:Hd B L H) {K:Fg} {xs:Jo} (i:Nat) (e:L[i]?=some (a,.tup xs)):SqT K H a xs:=SqT.of (h.get i e)
def sub {L':Jn} (h:Hd B L H) (s:List.Sublist L' L):Hd B L' H:=⟨h.nd.sublist (s.map _),λp m=>h.nw p (s.subset m),λp m=>h.st p (s.subset m),h.sm⟩
def tl {p:Ad×HO} (h:Hd B (p::L) H):Hd B L H:=h.sub (List.sublist_cons_self _ _)
def free (h:Hd B L H) (n:H a=none):B a=none:=h.sm.free n
def add (h:Hd B L H) (n:∀ p∈L,p.1≠a) (nb:B a=none) (e:H a=some o):Hd B ((a,o)::L) H:=by
 refine ⟨List.nodup_cons.mpr ⟨λm=>?_,h.nd⟩,λp m=>?_,λp m=>?_,h.sm⟩
 ·obtain ⟨p,mp,e⟩:=List.mem_map.mp m
  exact n p mp e
 ·rcases List.mem_cons.mp m with rfl | m
  ·exact nb
  ·exact h.nw p m
 ·rcases List.mem_cons.mp m with rfl | m
  ·exact e
  ·exact h.st p m
def made {C x dx l:Ad} {ox ol:HO} (h:Hd B L H) (nx:H x=none) (ndx:H dx=none) (ne:dx≠x) (k:∀ b u,b≠x->upd (upd H dx (.own x)) x (.ins C dx []) b=some u->H' b=some u)
  (nl:upd (upd H dx (.own x)) x (.ins C dx []) l=none) (ex:H' x=some ox) (el:H' l=some ol):Hd B ((l,ol)::(x,ox)::(dx,.own x)::L) H':=by
 have h1:Hd B ((dx,.own x)::L) (upd H dx (.own x)):=h.new ndx;have h2:Hd B ((x,.ins C dx [])::(dx,.own x)::L) (upd (upd H dx (.own x)) x (.ins C dx [])):=h1.new (by rw [zF (Ne.symm ne)];exact nx);have h3:Hd B ((x,ox)::(dx,.own x)::L) H':=h2.chg 0 rfl k ex;refine h3.add (λp m=>?_) (h2.free nl) el;rcases List.mem_cons.mp m with rfl | m
 ·exact zI (h2.get 0 rfl) nl
 ·exact zI (h2.st p (q1y _ m)) nl
def made0 {C x dx:Ad} {ox:HO} (h:Hd B L H) (nx:H x=none) (ndx:H dx=none) (ne:dx≠x) (k:∀ b u,b≠x->upd (upd H dx (.own x)) x (.ins C dx []) b=some u->H' b=some u) (ex:H' x=some ox):Hd B ((x,ox)::(dx,.own x)::L) H':=by
 have h1:Hd B ((dx,.own x)::L) (upd H dx (.own x)):=h.new ndx;have h2:Hd B ((x,.ins C dx [])::(dx,.own x)::L) (upd (upd H dx (.own x)) x (.ins C dx [])):=h1.new (by rw [zF (Ne.symm ne)];exact nx);exact h2.chg 0 rfl k ex
def perm {B:Hp} {L L':Jn} {H:Hp} (h:Hd B L H) (p:L.Perm L'):Hd B L' H:=⟨(p.map Prod.fst).nodup h.nd,λq m=>h.nw q (p.mem_iff.mpr m),λq m=>h.st q (p.mem_iff.mpr m),h.sm⟩
end Hd
section
variable {X:Cx} {st:Stmt} {t:TS} {e:Expr} {te:TE}
inductive tMid (t:TS) (D:Ends) (σ:St) (H:Hp):Prop
 | mk (M:St->Hp->Prop) (_:t { D with nx:=M } σ H) (_:∀ σ' H',M σ' H'->D.nx σ' H')
def xz (h:PS X st t):PS X st (tMid t):=by
 intro pins s σ H D I q;obtain ⟨M,q,k⟩:=q;refine thn (h pins s σ H _ I q) λf s1 z=>?_
 cases f with
 | next=>exact let ⟨σ',H',I',z⟩:=z;⟨σ',H',I',k _ _ z⟩
 | ret v=>exact z
 | brk=>exact z
 | cont=>exact z
end
def but (H:Hp) (ls:Jh):Hp:=λb=>if b∈ls then none else H b
def Yo {H:Hp} {ls:Jh} {b:Ad} (h:b∈ls):but H ls b=none:=by unfold but;rw [if_pos h]
def yv {H:Hp} {ls:Jh} {b:Ad} {o:HO} (h:H b=some o) (n:b ∉ ls):but H ls b=some o:=by unfold but;rw [if_neg n];exact h
def zc8 {H:Hp} {ls:Jh}:Same (but H ls) H:=λb o z=>by
 unfold but at z
 split at z
 ·cases z
 ·exact z
namespace Hd
variable {B B':Hp} {L:Jn} {H H':Hp} {a:Ad} {o:HO}
def but1 (h:H a=some o):Hd (but H [a]) [(a,o)] H:=⟨by simp,λp m=>by rw [List.mem_singleton.mp m];exact Yo (by simp),λp m=>by rw [List.mem_singleton.mp m];exact h,zc8⟩
def into (h:Hd B [(a,o)] H):Same B (but H [a]):=λb u z=>yv (h.sm _ _ z) (by
 intro q;have q:=List.mem_singleton.mp q;subst q;rw [h.nw _ (List.mem_singleton.mpr rfl)] at z;cases z)
def weak (h:Hd B' L H) (s:Same B B'):Hd B L H:=⟨h.nd,λp m=>s.free (h.nw p m),h.st,s.trans h.sm⟩
def back {L:Jn} {o':HO} (h:Hd B L H) (i:Nat) (e:L[i]?=some (a,o)) (k:Hd (but H [a]) [(a,o')] H'):Hd B (L.set i (a,o')) H' :=
 h.chg i e (λc u n z=>k.sm _ _ (yv z (by simp [n]))) (k.get 0 rfl)
end Hd
end L2
namespace L2
open PySem
namespace Hd
variable {B:Hp} {L:Jn} {H H' J:Hp} {a b:Ad} {o o':HO}
def grow (h:Hd B L H) (n:H a=none):Hd (upd B a o) L (upd H a o):=by
 refine ⟨h.nd,λp q=>?_,λp q=>?_,λb u z=>?_⟩
 ·rw [zF (zI (h.st p q) n)];exact h.nw p q
 ·rw [zF (zI (h.st p q) n)];exact h.st p q
 ·by_cases e:b=a
  ·subst e;rw [zr] at z ⊢;exact z
  ·rw [zF e] at z ⊢;exact h.sm _ _ z
def settle (m:Hd B ((a,o)::L) H):Hd (upd B a o) L H:=by
 have h:=m.tl;have na:a ∉ L.map Prod.fst:=(List.nodup_cons.mp m.nd).1;refine ⟨h.nd,λp q=>?_,h.st,λb u z=>?_⟩
 ·rw [zF (λe=>na (by rw [← e];exact List.mem_map_of_mem q))];exact h.nw p q
 ·by_cases e:b=a
  ·subst e;rw [zr] at z;cases z;exact m.get 0 rfl
  ·rw [zF e] at z;exact m.sm _ _ z
def settled (m:Hd B ((a,o)::L) H):Same B (upd B a o):=yq (Same.refl _) (m.nw (a,o) (q1z ..))
def fnew {p:Ad×HO} (h:Hd B (p::L) H) (n:H a=none):Hd B (p::(a,o)::L) (upd H a o):=(h.new n).perm (List.Perm.swap _ _ _)
def fput (h:Hd B ((a,o)::L) H):Hd B ((a,o')::L) (upd H a o'):=h.put 0 rfl
end Hd
namespace Hd
variable {B:Hp} {L L2:Jn} {H H' J:Hp} {a b:Ad} {o o':HO}
def join (m:Hd B L H) (h:Hd H L2 J):Hd B (L++L2) J:=by
 refine ⟨?_,λp q=>?_,λp q=>?_,λb u z=>h.sm _ _ (m.sm _ _ z)⟩
 ·rw [Jl]
  refine List.nodup_append.mpr ⟨m.nd,h.nd,λx hx y hy e=>?_⟩;obtain ⟨p,hp,rfl⟩:=List.mem_map.mp hx;obtain ⟨q,hq,rfl⟩:=List.mem_map.mp hy;have:=m.st p hp;rw [e,h.nw q hq] at this;cases this
 ·rcases List.mem_append.mp q with q | q
  ·exact m.nw p q
  ·exact m.free (h.nw p q)
 ·rcases List.mem_append.mp q with q | q
  ·exact h.sm _ _ (m.st p q)
  ·exact h.st p q
def settles {S:Jn}:∀ {B:Hp},Hd B (S++L) H->∃ B',Same B B'/\(∀ p∈S,B' p.1=some p.2)/\Hd B' L H:=by
 induction S with
 | nil=>exact λ{B} h=>⟨B,Same.refl _,(λp m=>by cases m),h⟩
 | cons p S ih =>
  intro B h;obtain ⟨a,o⟩:=p;obtain ⟨B',s,e,h'⟩:=ih (Hd.settle h);refine ⟨B',(Hd.settled h).trans s,λp m=>?_,h'⟩;rcases List.mem_cons.mp m with rfl | m
  ·exact s _ _ zr
  ·exact e p m
end Hd
namespace Hd
def over {B J J2:Hp} {L:Jn} (h:Hd B L J) (s:Same J J2):∃ B2,Same B B2/\Hd B2 L J2/\∀ a o,J2 a=some o->a ∉ L.map Prod.fst->B2 a=some o:=by
 classical
 refine ⟨λa=>if a∈L.map Prod.fst then none else J2 a,λa o e=>?_,⟨h.nd,λp q=>?_,λp q=>s _ _ (h.st p q),λa o e=>?_⟩,λa o e n=>?_⟩
 ·have na:a ∉ L.map Prod.fst:=λm=>by
   obtain ⟨p,hp,rfl⟩:=List.mem_map.mp m;rw [h.nw p hp] at e;cases e
  show (if _ then _ else _)=_;rw [if_neg na];exact s _ _ (h.sm _ _ e)
 ·show (if _ then _ else _)=_
  rw [if_pos (List.mem_map_of_mem q)]
 ·have e:(if a∈L.map Prod.fst then none else J2 a)=some o:=e
  split at e
  ·cases e
  ·exact e
 ·show (if _ then _ else _)=_
  rw [if_neg n];exact e
end Hd
def yA {H X:Hp} {t:Ad} {o:HO} (h:upd H t o=X) (n:H t=none):Same H X/\X t=some o:=by
 subst h;exact ⟨yq (Same.refl _) n,zr⟩
def hdM {B H H2:Hp} {L:Jn} {C x dx:Ad} {ox:HO} (h:Hd B L H) (nx:H x=none) (ndx:H dx=none) (ne:dx≠x) (k:∀ b u,b≠x->upd (upd H dx (.own x)) x (.ins C dx []) b=some u->H2 b=some u) (ex:H2 x=some ox):∃ B',Same B B'/\B' x=some ox/\Hd B' L H2:=by
 have h2:=h.made0 nx ndx ne k ex;exact ⟨_,h2.settled.trans h2.settle.settled,by rw [zF (Ne.symm ne)];exact zr,h2.settle.settle⟩
end L2
namespace L2
open PySem PySem.Spec PyProof.Rows
def but_inv {H:Hp} {a b:Ad} {o:HO} (h:but H [a] b=some o):b≠a/\H b=some o:=by
 unfold but at h
 split at h
 ·cases h
 ·rename_i z;exact ⟨λe=>z (by rw [e];exact List.mem_singleton_self a),h⟩
def but_free {H:Hp} {a b:Ad} (n:but H [a] b=none) (ne:b≠a):H b=none:=by
 unfold but at n;rw [if_neg (by simp [ne])] at n;exact n
section
variable {X:Cx} {pins:Jd} {σ σ':St} {H H':Hp} {s s':Sh} {a:Ad} {xs:Jo}
end
namespace Hd
variable {B:Hp} {L L':Jn} {H:Hp}
def split (h:Hd B L H) (s:List.Sublist L' L):Same B (but H (L'.map Prod.fst))/\Hd (but H (L'.map Prod.fst)) L' H:=by
 refine ⟨λb o z=>yv (h.sm _ _ z) λm=>?_,(h.sub s).nd,λp m=>Yo (List.mem_map_of_mem m),(h.sub s).st,zc8⟩;obtain ⟨p,mp,e⟩:=List.mem_map.mp m;have:=h.nw p (s.subset mp);rw [e] at this;rw [this] at z;cases z
end Hd
section
variable {prog:Program} {w:World} {A:Around} {s:Sh}
end
section
variable {prog:Program} {w:World} {A:Around} {E:Ja} {s:Sh}
end
section
variable {X:Cx} {e:Expr} {te:TE} {p p' pos pos':Pos}
end
end L2
namespace L2
open PySem PySem.Spec PyProof.Rows PyProof
section
variable {X:Cx}
end
end L2
namespace L2
open PySem PySem.Spec PyProof.Rows
def ints_at {ns:Jc} {us:Je} (h:Vals (ns.map V.int) us) (i:Nat) (v:Vl) (e:us[i]?=some v):∃ n t,ns[i]?=some n/\v=.int n t:=by
 induction ns generalizing us i with
 | nil=>cases h;cases e
 | cons n ns ih =>
  cases h with
  | cons r rr =>
   cases i with
   | zero=>obtain ⟨t,rfl⟩:=r;cases (show some _=some v from e);exact ⟨n,t,rfl,rfl⟩
   | succ i=>exact ih rr i e
def zda {vs:Jo} {us:Je} (h:Vals vs us):us.length=vs.length:=by
 induction h with
 | nil=>rfl
 | cons _ _ ih=>rw [q3x,q3x,ih]
section
variable {X:Cx}
def zb1 (hc:X.calm=true):Zy X (.builtin "max") (λxs H Q=>∃ (p:Ad) (ns:Jc),xs=[.ref p]/\SqL X.K H p (ns.map V.int)/\0<ns.length/\∀ m,m∈ns->(∀ v∈ns,v<=m)->Q (.int m) H):=by
 intro pins s σ H xs us Q I r h;obtain ⟨p,ns,rfl,hp,h0,q⟩:=h;obtain ⟨u,rfl,ru⟩:=r.one;cases (show u=Value.ref p from ru);obtain ⟨its,rv,pl,_⟩:=I.list hp;obtain ⟨ys,hy⟩:=(zc3 rv).allInts.items;have hl:s.heap.IsList p (intItems ys):=hy ▸ pl.isList;have e1:=zda rv;rw [Jj] at e1
 have hsz:ys.size=ns.length:=by
  have z:its.toArray.size=(intItems ys).size:=by rw [hy]
  simp [intItems] at z;omega
 have hne:0<ys.size:=by omega
 refine max_intList (I.ok.hd hc) hl hne λv h' tk hv hk=>?_
 have z:its[argBest (λi j=>decide (numAt ys i > numAt ys j)) (ys.size-1)]?=some v:=by
  rw [← hy] at hv;simpa using hv
 obtain ⟨n,t,en,rfl⟩:=ints_at rv _ v z
 have nu:∀ (j:Nat) (n':Int),ns[j]?=some n'->n'=numAt ys j:=λj n' e=>by
  obtain ⟨u,eu,ru⟩:=rv.get (show (ns.map V.int)[j]?=some (.int n') by rw [List.getElem?_map,e];rfl);obtain ⟨t',rfl⟩:=(show ∃ t',u=Value.int n' t' from ru);obtain ⟨t2,e2⟩:=intItems_at (xs:=ys) (i:=j) (v:=.int n' t') (by rw [← hy];simpa using eu);injection e2
 refine ⟨.int n,H,I.kept hk,⟨_,rfl⟩,q n (List.mem_of_getElem? en) λv' hv'=>?_⟩;obtain ⟨j,hj,ej⟩:=List.getElem_of_mem hv';have a1:=nu j v' (by rw [List.getElem?_eq_getElem hj,ej]);have a2:=nu _ n en;have a3:=(argBest_gt (numAt ys) (ys.size-1)).2 j (by omega);rw [a1,a2];exact a3
end
def zak {xs:Jo} {b:Int} (hb:0<=b):cutV xs none (some b)=xs.take b.toNat:=by
 unfold cutV;rw [HT.sIx_none,sIx_pos hb,List.drop_zero,Nat.sub_zero];rw [List.take_eq_take_iff];omega
def ze2 {xs:Jo} {a:Int} (ha:0<=a):cutV xs (some a) none=xs.drop a.toNat:=by
 unfold cutV;rw [HT.sIx_none,sIx_pos ha];by_cases h:a.toNat<=xs.length
 ·rw [Nat.min_eq_left h]
  exact List.take_of_length_le (by rw [List.length_drop];omega)
 ·have e1:xs.drop xs.length=[]:=List.drop_length
  have e2:xs.drop a.toNat=[]:=List.drop_eq_nil_of_le (by omega);rw [Nat.min_eq_right (by omega),e1,e2];simp
def ItS (lo c:Int) (n:Nat):It:=⟨λi _=>i<n,λi H x H'=>H'=H/\x=.int (lo+i*c),λi _=>n<=i⟩
section
variable {X:Cx} {tg:Expr}
end
section
variable {X:Cx}
end
section
variable {X:Cx} {pins:Jd} {σ σ':St} {H H':Hp} {s s':Sh} {a:Ad} {xs:Jo}
def Part (H H':Hp):Prop:=∀ b o,(∀ x u,o≠.frz x u)->H b=some o->H' b=some o
def lsts (L:List (Ad×Jo)):Jn:=L.map λp=>(p.1,.lst p.2)
inductive tMidT (t:TT) (σ:St) (H:Hp) (Q:(Bool->Hp->Prop)):Prop
 | mk (M:Bool->Hp->Prop) (_:t σ H M) (_:∀ b H',M b H'->Q b H')
def pt_mid {e:Expr} {t:TT} (h:PT X e t):PT X e (tMidT t):=by
 intro pins s σ H Q I q;obtain ⟨M,q,k⟩:=q;exact thn (h pins s σ H _ I q) λb s1 z=>let ⟨H',I',z⟩:=z;⟨H',I',k _ _ z⟩
end
section
variable {X:Cx} {pins:Jd} {σ:St} {H:Hp} {s:Sh}
def clsV:V->Vl
 | .ref a=>.ref a
 | .ty n=>.type n
 | _=>.none
def isClsV:V->Bool
 | .ref _=>true
 | .ty _=>true
 | _=>false
end
section
variable {prog:Program} {w:World} {A:Around} {E:Ja} {s:Sh}
end
section
variable {X:Cx} {pos:Pos}
inductive rAnyB (K:Fg) (xs:Jo) (H:Hp) (Q:VK):Prop
 | mk (p:Ad) (bs:List Bool) (_:xs=[.ref p]) (_:SqL K H p (bs.map V.bl)) (_:Q (.bl (bs.any id)) H)
def bools_at {bs:List Bool} {us:Je} (h:Vals (bs.map V.bl) us) (i:Nat) (v:Vl) (e:us[i]?=some v):∃ b,bs[i]?=some b/\v=.bool b:=by
 induction bs generalizing us i with
 | nil=>cases h;cases e
 | cons b bs ih =>
  cases h with
  | cons r rr =>
   cases i with
   | zero=>cases (show _=Value.bool b from r);cases (show some _=some v from e);exact ⟨b,rfl,rfl⟩
   | succ i=>exact ih rr i e
def zeh (bs:List Bool):((List.range bs.length).any λi=>(bs[i]?).getD false)=bs.any id:=by
 induction bs with
 | nil=>rfl
 | cons n ns ih =>
  rw [q3x,List.range_succ_eq_map,List.any_cons,List.any_map,List.any_cons,← ih];rfl
def zb2 (hc:X.calm=true):Zy X (.builtin "any") (rAnyB X.K):=by
 intro pins s σ H xs us Q I r h;obtain ⟨p,bs,rfl,hp,q⟩:=h;obtain ⟨u,rfl,ru⟩:=r.one;cases (show u=Value.ref p from ru);obtain ⟨its,rv,pl,_⟩:=I.list hp;have hl:=pl.isList;have hlt:p<s.heap.objs.size:=by obtain ⟨_,e,_⟩:=hl;exact Heap.lt_size e
 refine call_any_walk (wpAny_pyIter_list hl ?_)
 refine ⟨s.heap.objs.size,[s.heap.objs.size,p],[s.heap.objs.size],its.toArray.size,_,_,λi=>(bs[i]?).getD false,rfl,Walks.list (A:=X.A.in1) (I.ok.hd hc) _ p (Nat.ne_of_lt hlt) its.toArray,
  ⟨⟨_,Heap.get?_push_size _ rfl,rfl,rfl⟩,hl.push _⟩,λi v s' Q' E' hP hQ=>?_,λh' tk hk=>?_⟩
 ·obtain ⟨n,e,rfl⟩:=bools_at rv i v (by simpa using hP)
  simp only [e,Option.getD_some] at hQ;exact wpAny_truthy_bool hQ
 ·have ek:((List.range its.toArray.size).any λi=>(bs[i]?).getD false)=bs.any id:=by
   have:=zda rv;rw [Jj] at this;rw [List.size_toArray,this];exact zeh bs
  rw [ek];exact ⟨.bl _,H,I.kept λb o e=>hk b o (λhm=>by rw [List.mem_singleton.mp hm] at e;exact Nat.lt_irrefl _ (Heap.lt_size e)) (Heap.get?_push_of_some _ e),rfl,q⟩
end
structure Sees1 (X:Cx) (scope:Scope) (cl:List (Str×Ad)) (x0:Str):Prop where
 kind:scope.kind=.function
 clos:closureFor scope X.env=pure cl
 one:∀ n acc,cellsFrom n scope.names acc=(x0,n)::acc
 push:∀ h,pushCells h scope.names=h.push { cls:=.type "cell",data:=.cell none }
 names:∀ y∈scope.names,y.2=.local->scope.names.lookup y.1=some .local
 sub:∀ x c,cl.lookup x=some c->X.env.cells.lookup x=some c
 has:∀ x,((compEnvC scope cl 0 X.env).kindOf x=some .cell∨(compEnvC scope cl 0 X.env).kindOf x=some .free)->x=x0∨∃ c,cl.lookup x=some c
section
variable {X:Cx} {pins:Jd} {σ:St} {H3:Hp} {s3:Sh} {scope:Scope} {cl:List (Str×Ad)} {x0:Str} {NY:Jg} {fp:Jh}
end
section
variable {X:Cx} {tg:Expr}
end
structure MkN (K:Fg) (C:Ad):Prop where
 makes:PySem.W.makesIn K C=true
 init:PySem.W.findIn K (.ref C) "__init__"=some (some (.builtin "object.__init__"))
 kp:PySem.W.keepIn K (.ref C)=true
def tMakeN (C:Ad):TE:=λ_ H Q=>∀ x dx,H x=none->H dx=none->dx≠x->Q (.ref x) (upd (upd H dx (.own x)) x (.ins C dx []))
section
variable {X:Cx} {C:Ad} {x:Str} {p pos:Pos}
def pe_makeN (M:MkN X.K C) (hg:Gl X x) (hm:X.mg x=some (.ref C)) (hdb:(x == ("__debug__":Str))=false:=by decide):PE X (.Call (.Name x p) [] [] pos) (tMakeN C):=by
 intro pins s σ H Q I h;refine wpAny_Call_Name_kw (YC I hg hm ?_ hdb);refine PySem.W.callWith_K0 I.kIn M.kp ?_;have I2:=Inv.made (C:=C) I;have q:=h (s.heap.objs.size+1) s.heap.objs.size (I.hok.fresh (Nat.le_succ _)) (I.hok.fresh (Nat.le_refl _)) (Nat.ne_of_lt (Nat.lt_succ_self _));refine wpAny_call (make_map0 I.kIn M.makes M.init (λself=>PySem.W.Looks.of_pure (PySem.W.oi_bind self)) ?_);have Y:=PySem.W.makes_of (M:=model X.prog X.w) I.kIn M.makes
 have e2:((s.heap.push PySem.W.emptyDict).push (PySem.W.instObj C s.heap.objs.size)).get? (s.heap.objs.size+1)=some (PySem.W.instObj C s.heap.objs.size):=by
  have:=Heap.get?_push_size (s.heap.push PySem.W.emptyDict) (o:=PySem.W.instObj C s.heap.objs.size) rfl
  rwa [Heap.size_push] at this
 have t1:PySem.W.Looks (model X.prog X.w) ((s.heap.push PySem.W.emptyDict).push (PySem.W.instObj C s.heap.objs.size)) (typeOf (.ref (s.heap.objs.size+1))) (.ref C):=(PySem.W.Looks.ld e2).andThen .now;have kp:∀ b o,s.heap.get? b=some o->((s.heap.push PySem.W.emptyDict).push (PySem.W.instObj C s.heap.objs.size)).get? b=some o:=λb o e=>Heap.get?_push_of_some _ (Heap.get?_push_of_some _ e);have t2:PySem.W.Looks (model X.prog X.w) ((s.heap.push PySem.W.emptyDict).push (PySem.W.instObj C s.heap.objs.size)) (isInstance (.ref (s.heap.objs.size+1)) (.type "object")) true:=t1.andThen (Y.top.keeps kp);refine codeAny_call_builtin PySem.W.oi_plain PySem.W.entry_oi (PySem.W.check_slot PySem.W.oi_kind PySem.W.oi_split t2 (PySem.W.oi_args _) ?_);rw [PySem.W.oi_run];exact q0y ⟨rfl,.ref (s.heap.objs.size+1),_,I2,rfl,q⟩
end
structure FunD (K:Fg) (x qual:Str) (st:Stmt) (f:Ad) (fd:FuncData) (ds:Array Vl):Prop where
 ex:∃ (oc:Vl) (od:Option Ad) (kV doc pm:Vl) (an:Option Ad) (cdv ct:Vl) (osl:Array (Jf)) (T:Ad) (o:Obj) (n:Nat),
  fd=PySem.W.fnOf x qual (yS st) (yu st) (zg st) (.ref T) kV doc pm an cdv ct/\K.lookup f=some ⟨oc,od,.func fd,osl⟩/\PySem.W.codeIn K cdv qual=true/\K.lookup T=some o/\o.data=.seq ds n
 kp:PySem.W.keepIn K (.ref f)=true
section
variable {P:Program} {w:World} {K:Fg} {mg:J0} {base:Heap}
end
section
variable {X:Cx} {CX:CXT} {k:Nat} {C:Ad} {ps:Jg} {sp:Sp} {E:XK} {x m:Str} {p pos apos:Pos} {e o:Expr} {es:Ji} {ta:TE} {t:TA}
end
end L2
namespace My
open PySem PySem.W PyProof.Rows
def zar (x y:Int):Builtin.bitAnd x y / 2=Builtin.bitAnd (x / 2) (y / 2)/\Builtin.bitAnd x y % 2=(x % 2)*(y % 2):=by
 have h:=kbt_halves x y;rcases (by omega:x % 2=0∨x % 2=1) with a | a <;> rcases (by omega:y % 2=0∨y % 2=1) with b | b <;>
  (rw [a,b] at h ⊢;simp at h ⊢;omega)
def zcl (x y:Int):Builtin.bitOr x y / 2=Builtin.bitOr (x / 2) (y / 2)/\Builtin.bitOr x y % 2=max (x % 2) (y % 2):=by
 rw [bitOr_and,bitOr_and];have h:=kbt_halves x y;rcases (by omega:x % 2=0∨x % 2=1) with a | a <;> rcases (by omega:y % 2=0∨y % 2=1) with b | b <;>
  (rw [a,b] at h ⊢;simp at h;omega)
def XQ (x y:Int):Builtin.bitXor x y / 2=Builtin.bitXor (x / 2) (y / 2)/\Builtin.bitXor x y % 2=(x % 2+y % 2) % 2:=by
 rw [bitXor_and,bitXor_and];have h:=kbt_halves x y;rcases (by omega:x % 2=0∨x % 2=1) with a | a <;> rcases (by omega:y % 2=0∨y % 2=1) with b | b <;>
  (rw [a,b] at h ⊢;simp at h;omega)
def xF (x:Int) (k:Nat):x / 2 ^ (k+1)=x / 2 / 2 ^ k:=by
 rw [Int.ediv_ediv_of_nonneg (by decide),Int.pow_succ,Int.mul_comm]
def and_bit (k:Nat):∀ x y:Int,Builtin.bitAnd x y / 2 ^ k % 2=(x / 2 ^ k % 2)*(y / 2 ^ k % 2):=by
 induction k with
 | zero=>intro x y;simpa using (zar x y).2
 | succ k ih=>intro x y;rw [xF,xF,xF,(zar x y).1,ih]
def or_bit (k:Nat):∀ x y:Int,Builtin.bitOr x y / 2 ^ k % 2=max (x / 2 ^ k % 2) (y / 2 ^ k % 2):=by
 induction k with
 | zero=>intro x y;simpa using (zcl x y).2
 | succ k ih=>intro x y;rw [xF,xF,xF,(zcl x y).1,ih]
def xor_bit (k:Nat):∀ x y:Int,Builtin.bitXor x y / 2 ^ k % 2=(x / 2 ^ k % 2+y / 2 ^ k % 2) % 2:=by
 induction k with
 | zero=>intro x y;simpa using (XQ x y).2
 | succ k ih=>intro x y;rw [xF,xF,xF,(XQ x y).1,ih]
def In (n:Nat) (x:Int):Prop:=-(2 ^ n)<=x/\x<2 ^ n
def zc4 {n:Nat} {x:Int}:In (n+1) x↔In n (x / 2):=by
 unfold In;rw [Int.pow_succ];constructor
 ·intro h;omega
 ·intro h;omega
def YD {x:Int} (h:In 0 x):x=0∨x=-1:=by
 unfold In at h;omega
def and_in (n:Nat):∀ x y:Int,In n x->In n y->In n (Builtin.bitAnd x y):=by
 induction n with
 | zero =>
  intro x y hx hy;rcases YD hx with a | a <;> rcases YD hy with b | b <;> (subst a;subst b;unfold In;decide)
 | succ n ih=>intro x y hx hy;rw [zc4] at *;rw [(zar x y).1];exact ih _ _ hx hy
def or_in (n:Nat):∀ x y:Int,In n x->In n y->In n (Builtin.bitOr x y):=by
 induction n with
 | zero =>
  intro x y hx hy;rcases YD hx with a | a <;> rcases YD hy with b | b <;> (subst a;subst b;unfold In;decide)
 | succ n ih=>intro x y hx hy;rw [zc4] at *;rw [(zcl x y).1];exact ih _ _ hx hy
def xor_in (n:Nat):∀ x y:Int,In n x->In n y->In n (Builtin.bitXor x y):=by
 induction n with
 | zero =>
  intro x y hx hy;rcases YD hx with a | a <;> rcases YD hy with b | b <;> (subst a;subst b;unfold In;decide)
 | succ n ih=>intro x y hx hy;rw [zc4] at *;rw [(XQ x y).1];exact ih _ _ hx hy
def kept (n:Int):Int:=Int.fmod (n+9223372036854775808) 18446744073709551616-9223372036854775808
def Kin (x:Int):Prop:=-9223372036854775808<=x/\x<=9223372036854775807
structure Free (op:Int->Int->Int):Prop where
 cl:∀ a b,Kin a->Kin b->Kin (op a b)
 cm:∀ a b,Kin a->Kin b->op a b=op b a
 as:∀ a b c,Kin a->Kin b->Kin c->op (op a b) c=op a (op b c)
end My
namespace L2
open PySem PySem.Spec PyProof.Rows
section
variable {X:Cx} {σ₀:St}
end
end L2
namespace FM
open PySem L2
abbrev Kin (x:Int):Prop:=-9223372036854775808<=x/\x<=9223372036854775807
def kept (n:Int):Int:=(n+9223372036854775808) % (2*9223372036854775808)-9223372036854775808
def signs:Jg:=["+","-","*","/","rest","least","most","<","=","&","|","^"]
def doneR (sg:Str) (a b:Int):Option Int :=
 if sg="+" then some (kept (a+b)) else if sg="-" then some (kept (a-b)) else if sg="*" then some (kept (a*b))
 else if sg="/" then (if b=0 then none else some (kept (a.fdiv b))) else if sg="rest" then (if b=0 then none else some (a.fmod b))
 else if sg="least" then some (if b<a then b else a) else if sg="most" then some (if b > a then b else a)
 else if sg="<" then some (if a<b then 1 else 0) else if sg="=" then some (if a=b then 1 else 0)
 else if sg="&" then some (Builtin.bitAnd a b) else if sg="|" then some (Builtin.bitOr a b) else some (Builtin.bitXor a b)
def bitDue (sg:Str) (a b:Int):Int:=if sg="&" then a*b else if sg="|" then (if b > a then b else a) else (a+b) % 2
def pw_pos (n:Nat):(0:Int)<2 ^ n:=by
 induction n with
 | zero=>decide
 | succ n ih=>rw [Int.pow_succ];omega
def fbit (x:Int) (n:Nat):x.fdiv (2 ^ n) % 2=x / 2 ^ n % 2:=by rw [Int.fdiv_eq_ediv_of_nonneg _ (Int.le_of_lt (pw_pos n))]
def in63 {x:Int}:Kin x↔My.In 63 x:=by
 unfold Kin My.In;have e:(2:Int) ^ 63=9223372036854775808:=by decide
 rw [e];omega
def bits_ok {sg:Str} (hs:sg="&"∨sg="|"∨sg="^") {a b:Int} (ha:Kin a) (hb:Kin b):∃ r,doneR sg a b=some r/\Kin r/\∀ n:Nat,r.fdiv (2 ^ n) % 2=bitDue sg (a.fdiv (2 ^ n) % 2) (b.fdiv (2 ^ n) % 2):=by
 rcases hs with rfl | rfl | rfl
 ·exact ⟨_,rfl,in63.mpr (My.and_in 63 a b (in63.mp ha) (in63.mp hb)),λn=>by rw [fbit,fbit,fbit,My.and_bit];rfl⟩
 ·refine ⟨_,rfl,in63.mpr (My.or_in 63 a b (in63.mp ha) (in63.mp hb)),λn=>?_⟩
  rw [fbit,fbit,fbit,My.or_bit];show max _ _=if _ > _ then _ else _
  split <;> omega
 ·exact ⟨_,rfl,in63.mpr (My.xor_in 63 a b (in63.mp ha) (in63.mp hb)),λn=>by rw [fbit,fbit,fbit,My.xor_bit];rfl⟩
def XI (n:Int):Kin (kept n):=by unfold kept;omega
def done_in {sg:Str} (hs:sg∈signs) {a b r:Int} (ha:Kin a) (hb:Kin b) (h:doneR sg a b=some r):Kin r:=by
 simp only [signs,List.mem_cons,List.not_mem_nil,or_false] at hs
 have bit:(sg="&"∨sg="|"∨sg="^")->Kin r:=λz=>by
  obtain ⟨r',e,k,_⟩:=bits_ok z ha hb;rw [e] at h;cases h;exact k
 rcases hs with rfl | rfl | rfl | rfl | rfl | rfl | rfl | rfl | rfl | rfl | rfl | rfl
 ·cases h;exact XI _
 ·cases h;exact XI _
 ·cases h;exact XI _
 ·have h':(if b=0 then none else some (kept (a.fdiv b)))=some r:=h
  split at h'
  ·cases h'
  ·cases h';exact XI _
 ·have h':(if b=0 then none else some (a.fmod b))=some r:=h
  split at h'
  ·cases h'
  ·rename_i z
   cases h';rcases (by omega:0<b∨b<0) with p | p
   ·have h1:=Int.fmod_nonneg_of_pos a p
    have h2:=Int.fmod_lt_of_pos a p;omega
   ·have h1:a.fmod b<=0:=by
     have e:=Int.neg_fmod_neg a b;have h3:=Int.fmod_nonneg_of_pos (-a) (show 0 < -b by omega);omega
    have h2:b<a.fmod b:=by
     have e:=Int.neg_fmod_neg a b;have h3:=Int.fmod_lt_of_pos (-a) (show 0 < -b by omega);omega
    omega
 ·have h':some (if b<a then b else a)=some r:=h
  cases h';split <;> omega
 ·have h':some (if b > a then b else a)=some r:=h
  cases h';split <;> omega
 ·have h':some (if a<b then (1:Int) else 0)=some r:=h
  cases h';split <;> omega
 ·have h':some (if a=b then (1:Int) else 0)=some r:=h
  cases h';split <;> omega
 ·exact bit (.inl rfl)
 ·exact bit (.inr (.inl rfl))
 ·exact bit (.inr (.inr rfl))
inductive Fm | num (n:Int) | here | cell (r:Int) | shi (r by' other:Int) | loc (at':Int) | at' (r:Int) (p:Fm) | pair (sg:Str) (l r:Fm) | cho (t l r:Fm)
inductive Res | ok (n:Int) | nought | outside
 deriving DecidableEq
structure SpotD where
 lens:Jc
 cells:Jc
 place:Int
 own:Jc
structure Cs where
 num:Ad
 here:Ad
 cell:Ad
 shi:Ad
 loc:Ad
 at':Ad
 pair:Ad
 cho:Ad
 spot:Ad
def FormAt (c:Cs) (H:Hp):Fm->Ad->Prop
 | .num n,x=>∃ dx,H x=some (.ins c.num dx [("number",.int n)])
 | .here,x=>∃ dx,H x=some (.ins c.here dx [])
 | .cell r,x=>∃ dx,H x=some (.ins c.cell dx [("row",.int r)])
 | .shi r b o,x=>∃ dx,H x=some (.ins c.shi dx [("row",.int r),("by",.int b),("other",.int o)])
 | .loc a,x=>∃ dx,H x=some (.ins c.loc dx [("at",.int a)])
 | .at' r p,x=>∃ dx y,H x=some (.ins c.at' dx [("row",.int r),("place",.ref y)])/\FormAt c H p y
 | .pair sg l r,x=>∃ dx y z,H x=some (.ins c.pair dx [("sign",.str sg),("left",.ref y),("right",.ref z)])/\FormAt c H l y/\FormAt c H r z
 | .cho t l r,x=>∃ dx u y z,H x=some (.ins c.cho dx [("test",.ref u),("left",.ref y),("right",.ref z)])/\FormAt c H t u/\FormAt c H l y/\FormAt c H r z
theorem FormAt.same {c:Cs} {H H':Hp} (s:Same H H'):∀ {F:Fm} {x:Ad},FormAt c H F x->FormAt c H' F x
 | .num _,_,⟨dx,h⟩=>⟨dx,s _ _ h⟩
 | .here,_,⟨dx,h⟩=>⟨dx,s _ _ h⟩
 | .cell _,_,⟨dx,h⟩=>⟨dx,s _ _ h⟩
 | .shi _ _ _,_,⟨dx,h⟩=>⟨dx,s _ _ h⟩
 | .loc _,_,⟨dx,h⟩=>⟨dx,s _ _ h⟩
 | .at' _ _,_,⟨dx,y,h,p⟩=>⟨dx,y,s _ _ h,FormAt.same s p⟩
 | .pair _ _ _,_,⟨dx,y,z,h,p,q⟩=>⟨dx,y,z,s _ _ h,FormAt.same s p,FormAt.same s q⟩
 | .cho _ _ _,_,⟨dx,u,y,z,h,o,p,q⟩=>⟨dx,u,y,z,s _ _ h,FormAt.same s o,FormAt.same s p,FormAt.same s q⟩
structure SpotAt (c:Cs) (K:Fg) (H:Hp) (x:Ad) (S:SpotD):Prop where
 ex:∃ dx l f e o,H x=some (.ins c.spot dx [("lengths",.ref l),("functions",.ref f),("cells",.ref e),("place",.int S.place),("own",.ref o)])/\SqL K H l (S.lens.map V.int)/\SqL K H e (S.cells.map V.int)/\SqL K H o (S.own.map V.int)
def SpotD.start (S:SpotD) (r:Int):Int:=(S.lens.take r.toNat).sum
def SpotD.len (S:SpotD) (r:Int):Int:=S.lens.getD r.toNat 0
def SpotD.cellAt (S:SpotD) (r q:Int):Int:=S.cells.getD (S.start r+q).toNat 0
structure SpotOk (S:SpotD):Prop where
 ln:∀ v∈S.lens,0<=v
 tot:(S.cells.length:Int)=S.lens.sum
 ck:∀ v∈S.cells,Kin v
 ok':∀ v∈S.own,Kin v
 pl:Kin S.place
def SpotD.has (S:SpotD) (r:Int):Prop:=0<=r/\r.toNat<S.lens.length
def cell_in {S:SpotD} (o:SpotOk S) {r q:Int} (h:S.has r) (h0:0<=q) (h1:q<S.len r):0<=S.start r+q/\S.start r+q<S.cells.length/\Kin (S.cellAt r q):=by
 have m:=zdc o.ln r.toNat;have m2:=zdc o.ln (r.toNat+1);have e:=zat h.2;have t:=o.tot;unfold SpotD.start SpotD.len at *;have a:0<=(S.lens.take r.toNat).sum+q:=by omega
 have b:(S.lens.take r.toNat).sum+q<S.cells.length:=by omega
 refine ⟨a,b,?_⟩;unfold SpotD.cellAt SpotD.start;exact o.ck _ (L2.getD_mem (by omega))
def ev (S:SpotD):Fm->Res
 | .num n=>.ok n
 | .here=>.ok S.place
 | .cell r=>if S.len r=1 then .ok (S.cellAt r 0) else .ok (S.cellAt r S.place)
 | .shi r b o=>if 0<=S.place+b/\S.place+b<S.len r then .ok (S.cellAt r (S.place+b)) else .ok o
 | .loc a=>.ok (S.own.getD a.toNat 0)
 | .at' r p=>match ev S p with
  | .ok q=>if 0<=q/\q<S.len r then .ok (S.cellAt r q) else .outside
  | e=>e
 | .pair sg l r=>match ev S l with
  | .ok a=>(match ev S r with
   | .ok b=>(match doneR sg a b with
    | some n=>.ok n
    | none=>.nought)
   | e=>e)
  | e=>e
 | .cho t l r=>match ev S t with
  | .ok a=>if a≠0 then ev S l else ev S r
  | e=>e
def WF (S:SpotD):Fm->Prop
 | .num n=>Kin n
 | .here=>True
 | .cell r=>S.has r/\1<=S.len r/\(S.len r≠1->0<=S.place/\S.place<S.len r)
 | .shi r _ o=>S.has r/\Kin o
 | .loc a=>0<=a/\a.toNat<S.own.length
 | .at' r p=>S.has r/\WF S p
 | .pair sg l r=>sg∈signs/\WF S l/\WF S r
 | .cho t l r=>WF S t/\WF S l/\WF S r
theorem ZM {S:SpotD} (o:SpotOk S):∀ {F:Fm} {n:Int},WF S F->ev S F=.ok n->Kin n
 | .num _,_,h,e=>by cases e;exact h
 | .here,_,_,e=>by cases e;exact o.pl
 | .cell r,n,h,e=>by
  unfold ev at e
  split at e
  ·rename_i z;cases e;exact (cell_in o h.1 (by omega) (by omega)).2.2
  ·rename_i z;cases e;exact (cell_in o h.1 (h.2.2 z).1 (h.2.2 z).2).2.2
 | .shi r b o',n,h,e=>by
  unfold ev at e
  split at e
  ·rename_i z;cases e;exact (cell_in o h.1 z.1 z.2).2.2
  ·cases e;exact h.2
 | .loc a,n,h,e=>by cases e;exact o.ok' _ (L2.getD_mem h.2)
 | .at' r p,n,h,e=>by
  unfold ev at e
  split at e
  ·rename_i q hq
   split at e
   ·rename_i z;cases e;exact (cell_in o h.1 z.1 z.2).2.2
   ·cases e
  ·rename_i e' hq;exact absurd e (hq n)
 | .pair sg l r,n,h,e=>by
  unfold ev at e
  split at e
  ·rename_i a ha
   split at e
   ·rename_i b hb
    split at e
    ·rename_i m hm;cases e;exact done_in h.1 (ZM o h.2.1 ha) (ZM o h.2.2 hb) hm
    ·cases e
   ·rename_i e' hq;exact absurd e (hq n)
  ·rename_i e' hq;exact absurd e (hq n)
 | .cho t l r,n,h,e=>by
  unfold ev at e
  split at e
  ·split at e
   ·exact ZM o h.2.1 e
   ·exact ZM o h.2.2 e
  ·rename_i e' hq;exact absurd e (hq n)
end FM
namespace L2
open PySem PySem.Spec PyProof.Rows
structure Air (X:Cx) (H:Hp) (h:Heap) (e:Ad) (cls:Vl):Prop where
 be:X.base.get? e=none
 se:X.s₀.heap.get? e=none
 fe:H e=none
 tr:∃ oe vs T oT ts x,h.get? e=some oe/\oe.cls=cls/\oe.data=.fields vs/\vs[1]?=some (.ref T)/\T≠e/\h.get? T=some oT/\oT.data=.fields ts/\ts[3]?=some x/\X.base.get? T=none/\X.s₀.heap.get? T=none/\H T=none
section
variable {X:Cx} {pins:Jd} {σ:St} {H:Hp} {s:Sh} {e:Ad} {cls:Vl}
end
section
variable {prog:Program} {w:World} {A:Around} {R:Result->Sh->Prop} {s:Sh}
end
section
variable {X:Cx} {pins:Jd} {σ:St} {H H':Hp} {s s':Sh} {e C T:Ad}
end
section
variable {X:Cx} {tg:Expr}
end
end L2
namespace F2
open PySem L2
abbrev Kin:=FM.Kin
abbrev SpotD:=FM.SpotD
abbrev Res:=FM.Res
mutual
inductive Fm
 | num (n:Int) | here | cell (r:Int) | shi (r b o:Int) | loc (a:Int) | at' (r:Int) (p:Fm) | pair (sg:Str) (l r:Fm) | cho (t l r:Fm) | call (a:Int) (hs:Fms)
inductive Fms
 | nil | cons (f:Fm) (r:Fms)
end
instance:Inhabited Fm:=⟨.here⟩
def Fms.len:Fms->Nat
 | .nil=>0
 | .cons _ r=>r.len+1
structure Cs extends FM.Cs where
 call:Ad
mutual
def FormAt (c:Cs) (H:Hp):Fm->Ad->Prop
 | .num n,x=>∃ dx,H x=some (.ins c.num dx [("number",.int n)])
 | .here,x=>∃ dx,H x=some (.ins c.here dx [])
 | .cell r,x=>∃ dx,H x=some (.ins c.cell dx [("row",.int r)])
 | .shi r b o,x=>∃ dx,H x=some (.ins c.shi dx [("row",.int r),("by",.int b),("other",.int o)])
 | .loc a,x=>∃ dx,H x=some (.ins c.loc dx [("at",.int a)])
 | .at' r p,x=>∃ dx y,H x=some (.ins c.at' dx [("row",.int r),("place",.ref y)])/\FormAt c H p y
 | .pair sg l r,x=>∃ dx y z,H x=some (.ins c.pair dx [("sign",.str sg),("left",.ref y),("right",.ref z)])/\FormAt c H l y/\FormAt c H r z
 | .cho t l r,x=>∃ dx u y z,H x=some (.ins c.cho dx [("test",.ref u),("left",.ref y),("right",.ref z)])/\FormAt c H t u/\FormAt c H l y/\FormAt c H r z
 | .call a hs,x=>∃ dx l ys,H x=some (.ins c.call dx [("at",.int a),("handed",.ref l)])/\H l=some (.lst (ys.map V.ref))/\FormsAt c H hs ys
def FormsAt (c:Cs) (H:Hp):Fms->Jh->Prop
 | .nil,ys=>ys=[]
 | .cons f r,ys=>∃ y t,ys=y::t/\FormAt c H f y/\FormsAt c H r t
end
mutual
theorem FormAt.same {c:Cs} {H H':Hp} (s:Same H H'):∀ {F:Fm} {x:Ad},FormAt c H F x->FormAt c H' F x
 | .num _,_,h=>by obtain ⟨dx,h⟩:=h;exact ⟨dx,s _ _ h⟩
 | .here,_,h=>by obtain ⟨dx,h⟩:=h;exact ⟨dx,s _ _ h⟩
 | .cell _,_,h=>by obtain ⟨dx,h⟩:=h;exact ⟨dx,s _ _ h⟩
 | .shi _ _ _,_,h=>by obtain ⟨dx,h⟩:=h;exact ⟨dx,s _ _ h⟩
 | .loc _,_,h=>by obtain ⟨dx,h⟩:=h;exact ⟨dx,s _ _ h⟩
 | .at' _ _,_,h=>by obtain ⟨dx,y,h,p⟩:=h;exact ⟨dx,y,s _ _ h,FormAt.same s p⟩
 | .pair _ _ _,_,h=>by obtain ⟨dx,y,z,h,p,q⟩:=h;exact ⟨dx,y,z,s _ _ h,FormAt.same s p,FormAt.same s q⟩
 | .cho _ _ _,_,h=>by obtain ⟨dx,u,y,z,h,o,p,q⟩:=h;exact ⟨dx,u,y,z,s _ _ h,FormAt.same s o,FormAt.same s p,FormAt.same s q⟩
 | .call _ _,_,h=>by obtain ⟨dx,l,ys,h,e,p⟩:=h;exact ⟨dx,l,ys,s _ _ h,s _ _ e,FormsAt.same s p⟩
theorem FormsAt.same {c:Cs} {H H':Hp} (s:Same H H'):∀ {F:Fms} {ys:Jh},FormsAt c H F ys->FormsAt c H' F ys
 | .nil,_,h=>h
 | .cons _ _,_,h=>by obtain ⟨y,t,e,p,q⟩:=h;exact ⟨y,t,e,FormAt.same s p,FormsAt.same s q⟩
end
theorem FormsAt.len {c:Cs} {H:Hp}:∀ {F:Fms} {ys:Jh},FormsAt c H F ys->ys.length=F.len
 | .nil,_,h=>by cases (show _=[] from h);rfl
 | .cons _ r,_,h=>by
  obtain ⟨y,t,e,_,q⟩:=h;subst e;show t.length+1=r.len+1;rw [FormsAt.len q]
abbrev Fn:=Nat×Fm
def bodyOf (fs:List Fn) (a:Int):Fm:=(fs.getD a.toNat (0,.here)).2
def YE (fs:List Fn) (a:Int):Nat:=(fs.getD a.toNat (0,.here)).1
structure FunsAt (c:Cs) (K:Fg) (H:Hp) (f:Ad) (fs:List Fn):Prop where
 ex:∃ ts:Jh,SqL K H f (ts.map V.ref)/\ts.length=fs.length/\∀ i,i<fs.length->∃ b,SqT K H (ts.getD i 0) [.int ((fs.getD i (0,.here)).1:Int),.ref b]/\FormAt c H (fs.getD i (0,.here)).2 b
def sqt_same {K:Fg} {H H':Hp} {a:Ad} {xs:Jo} (h:SqT K H a xs) (s:Same H H'):SqT K H' a xs:=by
 rcases h with h | h
 ·exact .inl (h.imp (λz=>s _ _ z) λ⟨o,z⟩=>⟨o,s _ _ z⟩)
 ·exact .inr h
def FunsAt.same {c:Cs} {K:Fg} {H H':Hp} {f:Ad} {fs:List Fn} (h:FunsAt c K H f fs) (s:Same H H'):FunsAt c K H' f fs:=by
 obtain ⟨ts,a,b,d⟩:=h.ex;exact ⟨ts,yV a s,b,λi hi=>let ⟨x,p,q⟩:=d i hi;⟨x,sqt_same p s,q.same s⟩⟩
structure SpotAt (c:Cs) (K:Fg) (H:Hp) (x:Ad) (S:SpotD) (fs:List Fn):Prop where
 ex:∃ dx l f e o,H x=some (.ins c.spot dx [("lengths",.ref l),("functions",.ref f),("cells",.ref e),("place",.int S.place),("own",.ref o)])/\SqL K H l (S.lens.map V.int)/\FunsAt c K H f fs/\SqL K H e (S.cells.map V.int)/\SqL K H o (S.own.map V.int)
inductive RL | ok (l:Jc) | bad (e:Res)
mutual
def ev (cl:Int->Jc->Res) (S:SpotD):Fm->Res
 | .num n=>.ok n
 | .here=>.ok S.place
 | .cell r=>if S.len r=1 then .ok (S.cellAt r 0) else .ok (S.cellAt r S.place)
 | .shi r b o=>if 0<=S.place+b/\S.place+b<S.len r then .ok (S.cellAt r (S.place+b)) else .ok o
 | .loc a=>.ok (S.own.getD a.toNat 0)
 | .at' r p=>match ev cl S p with
  | .ok q=>if 0<=q/\q<S.len r then .ok (S.cellAt r q) else .outside
  | e=>e
 | .pair sg l r=>match ev cl S l with
  | .ok a=>(match ev cl S r with
   | .ok b=>(match FM.doneR sg a b with
    | some n=>.ok n
    | none=>.nought)
   | e=>e)
  | e=>e
 | .cho t l r=>match ev cl S t with
  | .ok a=>if a≠0 then ev cl S l else ev cl S r
  | e=>e
 | .call a hs=>match evs cl S hs with
  | .ok l=>cl a l
  | .bad e=>e
def evs (cl:Int->Jc->Res) (S:SpotD):Fms->RL
 | .nil=>.ok []
 | .cons f r=>match ev cl S f with
  | .ok n=>(match evs cl S r with
   | .ok l=>.ok (n::l)
   | .bad e=>.bad e)
  | e=>.bad e
end
def Yn (fs:List Fn) (S:SpotD):Nat->Int->Jc->Res
 | 0,_,_=>.outside
 | k+1,a,l=>ev (Yn fs S k) { S with own:=l } (bodyOf fs a)
mutual
def WF (fs:List Fn) (k:Nat) (S:SpotD):Fm->Prop
 | .num n=>Kin n
 | .here=>True
 | .cell r=>S.has r/\1<=S.len r/\(S.len r≠1->0<=S.place/\S.place<S.len r)
 | .shi r _ o=>S.has r/\Kin o
 | .loc a=>0<=a/\a.toNat<S.own.length
 | .at' r p=>S.has r/\WF fs k S p
 | .pair sg l r=>sg∈FM.signs/\WF fs k S l/\WF fs k S r
 | .cho t l r=>WF fs k S t/\WF fs k S l/\WF fs k S r
 | .call a hs=>0<=a/\a.toNat<k/\a.toNat<fs.length/\hs.len=YE fs a/\WFs fs k S hs
def WFs (fs:List Fn) (k:Nat) (S:SpotD):Fms->Prop
 | .nil=>True
 | .cons f r=>WF fs k S f/\WFs fs k S r
end
def Bodies (fs:List Fn):Prop:=∀ (a:Int) (S:SpotD) (l:Jc),0<=a->a.toNat<fs.length->l.length=YE fs a->WF fs a.toNat { S with own:=l } (bodyOf fs a)
mutual
theorem WF.mono {fs:List Fn} {j k:Nat} {S:SpotD} (h:j<=k):∀ {F:Fm},WF fs j S F->WF fs k S F
 | .num _,w=>w
 | .here,w=>w
 | .cell _,w=>w
 | .shi _ _ _,w=>w
 | .loc _,w=>w
 | .at' _ _,w=>⟨w.1,WF.mono h w.2⟩
 | .pair _ _ _,w=>⟨w.1,WF.mono h w.2.1,WF.mono h w.2.2⟩
 | .cho _ _ _,w=>⟨WF.mono h w.1,WF.mono h w.2.1,WF.mono h w.2.2⟩
 | .call _ _,w=>⟨w.1,by have:=w.2.1;omega,w.2.2.1,w.2.2.2.1,WFs.mono h w.2.2.2.2⟩
theorem WFs.mono {fs:List Fn} {j k:Nat} {S:SpotD} (h:j<=k):∀ {F:Fms},WFs fs j S F->WFs fs k S F
 | .nil,_=>trivial
 | .cons _ _,w=>⟨WF.mono h w.1,WFs.mono h w.2⟩
end
mutual
theorem Z6 {fs:List Fn} (hb:Bodies fs) {S T:SpotD} {j k k':Nat} (h1:j<=k) (h2:j<=k') (ih:∀ a l,0<=a->a.toNat<j->a.toNat<fs.length->l.length=YE fs a->Yn fs T k a l=Yn fs T k' a l):∀ {F:Fm},WF fs j S F->ev (Yn fs T k) S F=ev (Yn fs T k') S F
 | .num _,_=>rfl
 | .here,_=>rfl
 | .cell _,_=>rfl
 | .shi _ _ _,_=>rfl
 | .loc _,_=>rfl
 | .at' r p,w=>by unfold ev;rw [Z6 hb h1 h2 ih w.2]
 | .pair sg l r,w=>by unfold ev;rw [Z6 hb h1 h2 ih w.2.1,Z6 hb h1 h2 ih w.2.2]
 | .cho t l r,w=>by unfold ev;rw [Z6 hb h1 h2 ih w.1,Z6 hb h1 h2 ih w.2.1,Z6 hb h1 h2 ih w.2.2]
 | .call a hs,w=>by
  unfold ev;obtain ⟨e,el⟩:=zd0 hb h1 h2 ih w.2.2.2.2;rw [e]
  cases z:evs (Yn fs T k') S hs with
  | bad _=>rfl
  | ok l =>
   exact ih a l w.1 w.2.1 w.2.2.1 (by rw [el l z];exact w.2.2.2.1)
theorem zd0 {fs:List Fn} (hb:Bodies fs) {S T:SpotD} {j k k':Nat} (h1:j<=k) (h2:j<=k') (ih:∀ a l,0<=a->a.toNat<j->a.toNat<fs.length->l.length=YE fs a->Yn fs T k a l=Yn fs T k' a l):∀ {F:Fms},WFs fs j S F->evs (Yn fs T k) S F=evs (Yn fs T k') S F/\∀ l,evs (Yn fs T k') S F=.ok l->l.length=F.len
 | .nil,_=>⟨rfl,λl e=>by cases (show RL.ok []=RL.ok l from e);rfl⟩
 | .cons f r,w=>by
  have e1:=Z6 hb h1 h2 ih w.1;obtain ⟨e2,el⟩:=zd0 hb h1 h2 ih w.2;refine ⟨by unfold evs;rw [e1,e2],λl e=>?_⟩;unfold evs at e
  split at e
  ·split at e
   ·rename_i l' z
    cases e;show l'.length+1=r.len+1;rw [el l' z]
   ·cases e
  ·cases e
end
theorem evs_bad {cl:Int->Jc->Res} {S:SpotD} (n:Int):∀ {F:Fms},evs cl S F≠.bad (.ok n)
 | .nil=>λe=>by cases (show RL.ok []=RL.bad _ from e)
 | .cons f r=>λe=>by
  unfold evs at e
  split at e
  ·split at e
   ·cases e
   ·rename_i e' z
    cases e;exact evs_bad n z
  ·rename_i e' z
   injection e with e
   exact z n e
mutual
theorem ZM {fs:List Fn} {S:SpotD} (o:FM.SpotOk S) {k:Nat} {cl:Int->Jc->Res} (hc:∀ a l n,0<=a->a.toNat<k->a.toNat<fs.length->l.length=YE fs a->(∀ v∈l,Kin v)->cl a l=.ok n->Kin n):∀ {F:Fm} {n:Int},WF fs k S F->ev cl S F=.ok n->Kin n
 | .num _,_,h,e=>by cases (show FM.Res.ok _=FM.Res.ok _ from e);exact h
 | .here,_,_,e=>by cases (show FM.Res.ok _=FM.Res.ok _ from e);exact o.pl
 | .cell r,n,h,e=>by
  unfold ev at e
  split at e
  ·rename_i z;cases e;exact (FM.cell_in o h.1 (by omega) (by omega)).2.2
  ·rename_i z;cases e;exact (FM.cell_in o h.1 (h.2.2 z).1 (h.2.2 z).2).2.2
 | .shi r b o',n,h,e=>by
  unfold ev at e
  split at e
  ·rename_i z;cases e;exact (FM.cell_in o h.1 z.1 z.2).2.2
  ·cases e;exact h.2
 | .loc a,n,h,e=>by cases (show FM.Res.ok _=FM.Res.ok _ from e);exact o.ok' _ (L2.getD_mem h.2)
 | .at' r p,n,h,e=>by
  unfold ev at e
  split at e
  ·rename_i q hq
   split at e
   ·rename_i z;cases e;exact (FM.cell_in o h.1 z.1 z.2).2.2
   ·cases e
  ·rename_i e' hq;exact absurd e (hq n)
 | .pair sg l r,n,h,e=>by
  unfold ev at e
  split at e
  ·rename_i a ha
   split at e
   ·rename_i b hb
    split at e
    ·rename_i m hm;cases e;exact FM.done_in h.1 (ZM o hc h.2.1 ha) (ZM o hc h.2.2 hb) hm
    ·cases e
   ·rename_i e' hq;exact absurd e (hq n)
  ·rename_i e' hq;exact absurd e (hq n)
 | .cho t l r,n,h,e=>by
  unfold ev at e
  split at e
  ·split at e
   ·exact ZM o hc h.2.1 e
   ·exact ZM o hc h.2.2 e
  ·rename_i e' hq;exact absurd e (hq n)
 | .call a hs,n,h,e=>by
  unfold ev at e
  split at e
  ·rename_i l z
   obtain ⟨q1,q2⟩:=evs_kin o hc h.2.2.2.2 z;exact hc a l n h.1 h.2.1 h.2.2.1 (by rw [q1];exact h.2.2.2.1) q2 e
  ·rename_i e' z
   cases e'
   ·exact absurd z (evs_bad _)
   ·cases e
   ·cases e
theorem evs_kin {fs:List Fn} {S:SpotD} (o:FM.SpotOk S) {k:Nat} {cl:Int->Jc->Res} (hc:∀ a l n,0<=a->a.toNat<k->a.toNat<fs.length->l.length=YE fs a->(∀ v∈l,Kin v)->cl a l=.ok n->Kin n):∀ {F:Fms} {l:Jc},WFs fs k S F->evs cl S F=.ok l->l.length=F.len/\∀ v∈l,Kin v
 | .nil,l,_,e=>by cases (show RL.ok []=RL.ok l from e);exact ⟨rfl,λv hv=>nomatch hv⟩
 | .cons f r,l,h,e=>by
  unfold evs at e
  split at e
  ·rename_i n hn
   split at e
   ·rename_i l' z
    cases e;obtain ⟨q1,q2⟩:=evs_kin o hc h.2 z;refine ⟨by show l'.length+1=r.len+1;rw [q1],λv hv=>?_⟩;rcases List.mem_cons.mp hv with rfl | hv
    ·exact ZM o hc h.1 hn
    ·exact q2 v hv
   ·cases e
  ·cases e
end
abbrev SpotOk:=FM.SpotOk
end F2
namespace L2
open PySem PySem.Spec PyProof.Rows
section
variable {X:Cx}
def fold_rep (c:Nat):∀ (n:Nat) (a:Array Nat),List.foldl (λx1 x2=>x1++x2) a (List.replicate n #[c])=a++(List.replicate n c).toArray:=by
 intro n
 induction n with
 | zero=>intro a;simp
 | succ n ih=>intro a;rw [List.replicate_succ,List.foldl_cons,ih];apply Array.ext';simp [List.replicate_succ]
def rMulS:R2:=λx y H Q=>∃ (c:Nat) (n:Int),x=.str ⟨#[c]⟩/\y=.int n/\0<=n/\n<=100/\Q (.str ⟨(List.replicate n.toNat c).toArray⟩) H
def Y4:OpR X (binaryOp .Mult) rMulS:=by
 intro pins s σ H x y v u Q I rx ry h;obtain ⟨c,n,rfl,rfl,h0,h1,q⟩:=h;obtain ⟨t,rfl⟩:=rx;obtain ⟨t',rfl⟩:=ry;have hl:(⟨#[c]⟩:Str).length=1:=rfl;refine PySem.P.mul_str (by simp;omega) (λ_ _=>?_) (λ_ _=>?_) ?_
 ·rw [hl]
  have:(100:Int)<=(2 ^ 63-1) / n∨n=0:=by
   by_cases e:n=0
   ·exact .inr e
   ·exact .inl ((Int.le_ediv_iff_mul_le (by omega)).mpr (by omega))
  rcases this with z | z
  ·omega
  ·omega
 ·rw [hl,Nat.one_mul]
  have:n.toNat<=100:=by omega
  unfold Builtin.Str.tooLong;have SL:(100:Nat)<sizeLine:=by decide
  exact decide_eq_false (by omega)
 ·split
  ·have:n=0:=by omega
   subst this;exact ⟨by decide,.str _,H,I.tok _,⟨_,rfl⟩,q⟩
  ·split
   ·rename_i h2 h3
    have:n=1:=by simpa [hl] using h3
    subst this;exact ⟨.str _,H,I,⟨_,rfl⟩,q⟩
   ·have e:(⟨List.foldl (λx1 x2=>x1++x2) #[] (List.replicate n.toNat #[c])⟩:Str)=⟨(List.replicate n.toNat c).toArray⟩:=by rw [fold_rep];simp
    have SL:(100:Nat)<sizeLine:=by decide
    refine ⟨?_,.str _,H,I.tok _,⟨_,rfl⟩,?_⟩
    ·show (⟨List.foldl (λx1 x2=>x1++x2) #[] (List.replicate n.toNat #[c])⟩:Str).length<=_
     rw [e];simp [Str.length];omega
    show Q (.str ⟨List.foldl (λx1 x2=>x1++x2) #[] (List.replicate n.toNat #[c])⟩) H;rw [e];exact q
end
end L2
namespace L2
open PySem PySem.Spec PyProof.Rows
open Sem (wp)
def ItB (tp:Bool) (h:Heap) (j l:Ad) (k:Nat):Prop:=match tp with | true=>h.IsTupleIter j l k | false=>h.IsListIter j l k
@[reducible] def IsTa (h:Heap) (T:Ad) (xs:Array Vl):Prop:=h.get? T=some { cls:=.type "tuple",data:=.seq xs }
structure ZAp (z TI TO:Ad) (ps:List (Ad×Ad)):Prop where
 iz:TI≠z
 oz:TO≠z
 io:TI≠TO
 j:∀ p∈ps,p.1≠z/\p.1≠TI/\p.1≠TO
 t:∀ p∈ps,p.2≠z/\p.2≠TO/\∀ r∈ps,p.2≠r.1
 nd:∀ (a b:Nat) p r,ps[a]?=some p->ps[b]?=some r->p.1=r.1->a=b
section
variable {prog:Program} {w:World} {A:Around} {E:Ja} {s:Sh}
def ZK (z TO:Ad) (ps:List (Ad×Ad)) (h g:Heap):Prop:=∀ c o,c≠z->c≠TO->(∀ p∈ps,c≠p.1)->h.get? c=some o->g.get? c=some o
structure ZMid (tp:Bool) (z TI TO:Ad) (ps:List (Ad×Ad)) (us:Je) (k:Nat) (h:Heap) (i:Nat) (g:Heap):Prop where
 zz:IsZip g z TI TO .ellipsis
 o:∃ a:Array Vl,IsTa g TO a/\a.size=ps.length/\∀ t,t<i->a[t]?=us[t]?
 j:∀ (t:Nat) p,ps[t]?=some p->ItB tp g p.1 p.2 (if t<i then k+1 else k)
 n:g.objs.size=h.objs.size
 kk:ZK z TO ps h g
end
section
variable {X:Cx} {pins:Jd} {σ:St} {H:Hp} {s:Sh} {h':Heap}
def Inv.turnedT {its:Jh} {T:Ad} {o:HO} {t':Nat} (I:Inv X pins σ H s) (k:∀ b u,b ∉ its->s.heap.get? b=some u->h'.get? b=some u) (hf:∀ b∈its,YX X pins H b) (hT:s.heap.objs.size<=T) (new:ObjOk X.prog X.w (upd H T o) h' T o) :
  Inv X pins σ (upd H T o) { s with heap:=h',toks:=t' }:=by
 have fr:=I.hok.fresh hT;have neT:∀ {b:Ad} {u:Obj},s.heap.get? b=some u->b≠T:=λe=>Nat.ne_of_lt (q2z (Heap.lt_size e) hT);have ni:∀ {b:Ad} {u:HO},H b=some u->b ∉ its:=λe m=>by rw [(hf _ m).1] at e;cases e
 refine I.step (g':=s.gens) (d':=s.drawn) (ch:=its) (λb hb=>?_) (λb u _ _ hc e _=>k b u hc e) (λb u _ _ hc e _=>⟨u.slots,k b u hc e⟩) (λb u _ e n=>by rw [zF (neT e)];exact n)
  (λb u hc e=>⟨u,k b u hc e⟩) (λb ys e=>by rw [zF (zI e fr)];exact e) (λb u v e=>by rw [zF (zI e fr)];exact e) (λb ps e=>⟨#[],by rw [zF (zI e fr),e];simp⟩) (λm hm=>?_) (λb u e=>?_) I.bare
 ·obtain ⟨_,f1,_,f3,f4,f5⟩:=hf b hb
  exact ⟨f3,f1,f4,f5⟩
 ·obtain ⟨ob,es,ep,ho,r⟩:=hm
  exact ⟨ob,es,ep,k _ ob (λm=>(hf _ m).2.1 rfl) ho,r⟩
 ·by_cases hb:b=T
  ·subst hb;rw [zr] at e;cases e;exact new
  ·rw [zF hb] at e
   refine (I.hok b u e).stay (λc v hc q=>k c v ?_ q) (λc q=>by rw [zF (zI q fr)];exact q) λc ys q=>by rw [zF (zI q fr)];exact q
   rcases hc with z | z
   ·rw [z];exact ni e
   ·exact ni z
def Inv.turnedL {its:Jh} {t':Nat} (I:Inv X pins σ H s) (k:∀ b u,b ∉ its->s.heap.get? b=some u->h'.get? b=some u) (hf:∀ b∈its,YX X pins H b):Inv X pins σ H { s with heap:=h',toks:=t' }:=by
 have ni:∀ {b:Ad} {u:HO},H b=some u->b ∉ its:=λe m=>by rw [(hf _ m).1] at e;cases e
 refine I.step (g':=s.gens) (d':=s.drawn) (ch:=its) (λb hb=>?_) (λb u _ _ hc e _=>k b u hc e) (λb u _ _ hc e _=>⟨u.slots,k b u hc e⟩) (λ_ _ _ _ n=>n)
  (λb u hc e=>⟨u,k b u hc e⟩) (λ_ _ e=>e) (λ_ _ _ e=>e) (λb ps e=>⟨#[],by rw [e];simp⟩) (λm hm=>?_) (λb u e=>?_) I.bare
 ·obtain ⟨_,f1,_,f3,f4,f5⟩:=hf b hb
  exact ⟨f3,f1,f4,f5⟩
 ·obtain ⟨ob,es,ep,ho,r⟩:=hm
  exact ⟨ob,es,ep,k _ ob (λm=>(hf _ m).2.1 rfl) ho,r⟩
 ·refine (I.hok b u e).stay (λc v hc q=>k c v ?_ q) (λ_ q=>q) λ_ _ q=>q
  rcases hc with z | z
  ·rw [z];exact ni e
  ·exact ni z
end
structure ZAt (tp:Bool) (z TI TO:Ad) (ps:List (Ad×Ad)) (i:Nat) (h:Heap):Prop where
 z0:IsZip h z TI TO .none
 i0:IsTa h TI (ps.map λp=>Value.ref p.1).toArray
 o0:∃ a:Array Vl,IsTa h TO a/\a.size=ps.length
 j0:∀ p∈ps,ItB tp h p.1 p.2 i
end L2
namespace L2
open PySem PySem.Spec PyProof.Rows
open Sem (wp)
open AutoSeq1 (wpAny_loadPart')
abbrev kwS (t:Tok):List (Str×Vl):=[("start",.int 1 t)]
section
variable {prog:Program} {w:World} {A:Around} {E:Ja} {s:Sh}
def en_new (l:Ad) (items:Array Vl) (n:Nat) (t:Tok) (od:Option Ad) (sl:Array (Jf)) :
  Meets (Builtin.«enumerate.__new__» ⟨[.type "enumerate",.ref l],kwS t⟩) (λ_ R s=>s.heap.get? l=some { cls:=.type "list",dict:=od,data:=.seq items n,slots:=sl } /\
   R (.ok (.ret (.ref (s.heap.push { cls:=.type "list_iterator",data:=.fields #[.ref l,.int 0 0] }).objs.size)))
    { s with heap:=(s.heap.push { cls:=.type "list_iterator",data:=.fields #[.ref l,.int 0 0] }).push { cls:=.type "enumerate",data:=.fields #[.none,.bool false,.ref s.heap.objs.size,rawInt 1,.none,.none] } }) :=
 .of_wp λprog w A R s h=>by
  obtain ⟨hp,g,d,tk,os⟩:=s;obtain ⟨hl,h⟩:=h;have hs:=sub_enumerate;have hL:Heap.IsList (Shared.heap ⟨hp,g,d,tk,os⟩) l items:=⟨_,hl,rfl,n,rfl⟩
  wp_walk using wpAny_loadPart' hl
  refine wpAny_stack_any λst=>q0y ?_;dsimp only
  split
  ·rename_i c _ _ _ _ _;cases (c == Value.type "enumerate") <;> (wp_walk using wpAny_loadPart' hl,wpAny_pyIter_list hL;exact ⟨_,rfl,h⟩)
  ·wp_walk using wpAny_loadPart' hl,wpAny_pyIter_list hL;exact ⟨_,rfl,h⟩
def oi_meets {T newId:String} {self a:Vl} {t:Tok} (hl:typeLookup (.type T) "__init__"=pure (some (.builtin "object.__init__")))
  (hm:Bind.madeBy (.type T)=pure (some newId)) (hne:(some newId != some "object.__new__")=true) :
  Meets (Builtin.«object.__init__» ⟨[self,a],kwS t⟩) (λ_ R s=>s.TypeIs self T/\R (.ok (.ret .none)) s):=by
 refine Meets.of_wp λprog w A R s hs=>?_;obtain ⟨hT,hq⟩:=hs
 repeat (any_goals (first | assumption | wp_step))
 exact ⟨_,rfl,hq⟩
def ao_en (obj a:Vl) (t:Tok):argsOk "object.__init__" ⟨[obj,a],kwS t⟩:=by unfold argsOk;kernel_rfl
def tc_en (a:Vl) (t:Tok):checkTypeCall "enumerate" ⟨[a],kwS t⟩=pure ():=by kernel_rfl
def cb_en (a:Vl) (t:Tok):checkBuiltinCall "enumerate.__new__" ⟨[.type "enumerate",a],kwS t⟩=pure ():=by kernel_rfl
def call_en {l:Ad} {items:Array Vl} {t:Tok} {Q:Ja} (hl:s.heap.IsList l items) (hQ:∀ h',IsEnum h' (s.heap.objs.size+1) s.heap.objs.size 1 .none->h'.IsListIter s.heap.objs.size l 0->(∀ b o,s.heap.get? b=some o->h'.get? b=some o)->Q (.ref (s.heap.objs.size+1)) { s with heap:=h' }) :
  wpAny (model prog w) A (call (.type "enumerate") [.ref l] (kwS t)) Q E s:=by
 have ft:=F.called_enumerate;obtain ⟨c,tl,hmro⟩:=ft.mro;have hmade:=ft.made;have hsub:=ft.sub;have hct:=tc_en (.ref l) t;refine wpAny_call (codeAny_of_tree ?_);show wpAny _ _ (callAny (.type "enumerate") _) _ _ _;refine q0y ⟨Code.quiet_builtin _ (by decide +kernel),codeAny_builtin F.entry_type_call ?_⟩;rw [Around.under_plain (weight_type_call_type "enumerate" [.ref l] (kwS t)) (units_type_call_type "enumerate" [.ref l] (kwS t))];have h1:=ft.notType;have h2:=ft.canCreate
 repeat (any_goals (first | assumption | wp_step))
 obtain ⟨⟨c',od,dt,sl⟩,hl,hc,n,hd⟩:=hl;replace hc:c'=.type "list":=hc;replace hd:dt=.seq items n:=hd;subst hc hd;have hz:(s.heap.push { cls:=.type "list_iterator",data:=.fields #[.ref l,.int 0 0] }).objs.size=s.heap.objs.size+1:=Heap.size_push ..;refine codeAny_mono (codeAny_call_builtin ft.plain F.entry_enumerate_new (wpAny_of_eq (cb_en (.ref l) t) (en_new l items n t od sl prog w A.in1 (wants (λobj s₁=>s₁.TypeIs obj "enumerate"/\Q obj s₁) E) s ⟨hl,?_⟩))) λr s₁ hr=>?_
 ·show _/\_
  rw [hz]
  have he:IsEnum ((s.heap.push { cls:=.type "list_iterator",data:=.fields #[.ref l,.int 0 0] }).push { cls:=.type "enumerate",data:=.fields #[.none,.bool false,.ref s.heap.objs.size,rawInt 1,.none,.none] }) (s.heap.objs.size+1) s.heap.objs.size 1 .none:=by
   have:=Heap.get?_push_size (s.heap.push { cls:=.type "list_iterator",data:=.fields #[.ref l,.int 0 0] }) (o:={ cls:=.type "enumerate",data:=.fields #[.none,.bool false,.ref s.heap.objs.size,rawInt 1,.none,.none] }) rfl;rw [hz] at this;exact this
  refine ⟨⟨_,he,rfl⟩,hQ _ he ⟨_,Heap.get?_push_of_some _ (Heap.get?_push_size _ rfl),rfl,rfl⟩ λb o e=>Heap.get?_push_of_some _ (Heap.get?_push_of_some _ e)⟩
 ·cases r with
  | error e=>exact hr
  | ok fl =>
   cases fl with
   | ret obj =>
    obtain ⟨hT,hq⟩:s₁.TypeIs obj "enumerate"/\Q obj s₁:=hr;have hli:=ft.init.lookup;have hbi:=ft.init.bind obj
    repeat (any_goals (first | assumption | wp_step))
    refine codeAny_mono (codeAny_call_builtin ft.init.plain F.entry_object_init (ft.init.check _ _ _ _ _ _ _ _ hT (ao_en obj (.ref l) t) (oi_meets ft.init.lookup ft.made (by decide) prog w A.in1 (wants (λr s₂=>r=.none/\Q obj s₂) E) s₁ ⟨hT,rfl,hq⟩))) λr₂ s₂ hr₂=>?_
    cases r₂ with
    | error e=>exact hr₂
    | ok fl₂ =>
     cases fl₂ with
     | ret r =>
      obtain ⟨rfl,hq⟩:r=.none/\Q obj s₂:=hr₂
      repeat (any_goals (first | assumption | wp_step))
     | _=>exact hr₂.elim
   | _=>exact hr.elim
def ze1 {M:Model} {env:Env} {pos:Pos} {T:String} {e:Expr} {rest:Ji} {kws:List Keyword} {Q:Ja}
  (h:wpAny M A (spliced (backTo pos (starEach (e::rest) env))) (λvs s1=>wpAny M A (evalAll ((backToKw pos (keywordEach kws env)).map λx=>x.snd)) (λks s2=>wpAny M A (call (.type T) vs (((backToKw pos (keywordEach kws env)).filterMap λx=>x.fst).zip ks)) Q E s2) E s1) E s)
  (he:starEach (e::rest) env=(false,eval e env)::starEach rest env) (hall:((backToKw pos (keywordEach kws env)).all λx=>x.fst.isSome)=true) (hany:(((backTo pos (starEach (e::rest) env)).any λx=>x.fst) || (backToKw pos (keywordEach kws env)).any λx=>x.fst.isNone)=false) :
  wpAny M A (callWith pos (.type T) [] (backTo pos (starEach (e::rest) env)) (backToKw pos (keywordEach kws env))) Q E s:=by
 exact PySem.W.callWith_of (P:=λ_=>True) hany (λh _=>⟨.machine,.inr (.inl rfl),PySem.W.Looks.now⟩) (PyProof.Rows.evalArgs_kw2 hall (wpAny_mono h (λvs s1 h1=>wpAny_mono h1 (λks s2 h2=>⟨trivial,h2⟩) λ_ _ x=>x) λ_ _ x=>x) he)
end
def ItE (K:Fg) (l:Ad):It :=
  ⟨λi H=>∃ xs:Jo,SqL K H l xs/\i<xs.length,
   λi H x H'=>∃ T v,x=.ref T/\H T=none/\H'=upd H T (.tup [.int ((i+1:Nat):Int),v])/\∀ xs,SqL K H l xs->xs[i]?=some v,
   λi H=>∃ xs,SqL K H l xs/\xs.length=i⟩
structure EAt (e it l:Ad) (i:Nat) (h:Heap):Prop where
 e0:∃ old,IsEnum h e it ((i+1:Nat):Int) old
 j0:h.IsListIter it l i
def dr_list {prog:Program} {w:World} {A:Around} (hh:A.handled=none) (it l:Ad) (hl:l≠it) (items:Array Vl):Draws prog w A it [it,l] (items.size+1) (λi x=>∃ j,i=j+1/\items[j]?=some x) (λi h=>∃ j,i=j+1/\h.IsListIter it l j/\h.IsList l items) where
 live:=λi h ⟨j,_,⟨o,e,_⟩,_⟩=>⟨o,e⟩
 frame:=λi h h' ⟨j,ej,⟨o,e,r⟩,⟨o2,e2,r2⟩⟩ k=>⟨j,ej,⟨o,k _ (by simp) _ e,r⟩,⟨o2,k _ (by simp) _ e2,r2⟩⟩
 item:=λi s Q E hi ⟨j,ej,a,b⟩ q=>by
  subst ej;have hj:j<items.size:=by omega
  refine wpAny_nextOf_list_item a b (Array.getElem?_eq_getElem hj) λh' a' sb=>?_;obtain ⟨o2,e2,r2⟩:=b;exact q _ h' s.toks ⟨j,rfl,Array.getElem?_eq_getElem hj⟩ ⟨j+1,rfl,a',o2,sb.extBut _ _ hl e2,r2⟩ sb
 done:=λs Q E ⟨j,ej,a,b⟩ q=>by
  obtain rfl:j=items.size:=by omega
  exact wpAny_nextOf_list_end hh a b (by simp) λh' e ex ho=>q h' e ex ho
def turn_en {P:Program} {w:World} {K:Fg} {es:Ji} {kt:Nat} {pos:Pos} {e it l:Ad} (h1:e≠it) (h2:l≠e) (h3:l≠it) :
  Turn P w K (.Tuple es kt pos) (ItE K l) [e,it] e (EAt e it l) where
 mem:=q1z
 obj:=λi h st b hb=>by
  rcases List.mem_cons.mp hb with rfl | hb
  ·obtain ⟨old,z⟩:=st.e0;exact ⟨_,z,λv q=>by cases q⟩
  ·cases List.mem_singleton.mp hb
   obtain ⟨o,eo,_,d⟩:=st.j0;exact ⟨o,eo,λv q=>by rw [d] at q;cases q⟩
 keep:=λi h h' st k=>by
  obtain ⟨old,z⟩:=st.e0;obtain ⟨o,eo,r⟩:=st.j0;exact ⟨⟨old,k _ (by simp) _ z⟩,o,k _ (by simp) _ eo,r⟩
 item:=by
  intro X hP hw hK hc i pins s σ H E I hf st hg;subst hP hw hK;obtain ⟨xs,hx,il⟩:=hg;obtain ⟨is,r1,p1,_⟩:=I.list hx;have W:=WalksT.enumerateD (dr_list (prog:=X.prog) (w:=X.w) (A:=X.A.in1) (I.ok.hd hc) it l h3 is.toArray) e h1 (by simp [h1,h2.symm]) (by simp);obtain ⟨old,z⟩:=st.e0;have lx:=r1.length;refine W.item (i+1) s _ _ (by simp;omega) ⟨⟨old,z⟩,i,rfl,st.j0,p1.isList⟩ λT vals h' tk pt hT hTu mid hk=>?_;obtain ⟨t,x,⟨j,ej,ex⟩,rfl⟩:=pt;obtain rfl:i=j:=Nat.succ.inj ej;refine ⟨_,rfl,W.go es kt pos (i+1) T _ _ _ mid λh2 st2 hk2=>?_⟩
  have hv:∃ v,xs[i]?=some v/\RelV v x:=by
   obtain ⟨v,ev⟩:∃ v,xs[i]?=some v:=⟨_,List.getElem?_eq_getElem il⟩;obtain ⟨u,hu,ru⟩:=r1.get ev;rw [List.getElem?_toArray] at ex;rw [hu] at ex;cases ex;exact ⟨v,ev,ru⟩
  obtain ⟨v,ev,rv⟩:=hv;have nw:=W.apart _ _ _ mid;obtain ⟨oT,eT,rT⟩:=hTu;have fr:=I.hok.fresh hT;obtain ⟨⟨old2,z2⟩,j,ej,a1,_⟩:=st2;obtain rfl:i+1=j:=Nat.succ.inj ej;refine ⟨.ref T,upd H T (.tup [.int ((i+1:Nat):Int),v]),I.turnedT (its:=[e,it]) (t':=tk) (λb o nb eb=>hk2 _ _ nb (hk _ _ nb eb)) hf hT ⟨by show 2<=sizeLine;decide,[.int ((i+1:Nat):Int) t,x],.cons ⟨_,rfl⟩ (.cons rv .nil),oT,hk2 _ _ nw eT,rT⟩,rfl,⟨T,v,rfl,fr,rfl,λys hy=>by rw [I.list_inj hy hx];exact ev⟩,⟨⟨old2,z2⟩,a1⟩,λb hb=>?_⟩;have:b≠T:=λz=>by subst z;exact nw hb
  rw [zF this];exact (hf b hb).1
 done:=by
  intro X hP hw hK hc i pins s σ H E I hf st hg;subst hP hw hK;obtain ⟨xs,hx,le⟩:=hg;obtain ⟨is,r1,p1,_⟩:=I.list hx;have W:=WalksT.enumerateD (dr_list (prog:=X.prog) (w:=X.w) (A:=X.A.in1) (I.ok.hd hc) it l h3 is.toArray) e h1 (by simp [h1,h2.symm]) (by simp);obtain ⟨old,z⟩:=st.e0;have lx:=r1.length;have ei:is.toArray.size=i:=by simp;omega
  rw [ei] at W;exact W.done s _ _ ⟨⟨old,z⟩,i,rfl,st.j0,p1.isList⟩ λh' tk hk=>⟨rfl,I.turnedL (its:=[e,it]) (t':=tk) (λb o nb eb=>hk _ _ nb eb) hf⟩
 self:=λ_ _ _ _ _ st h=>by
  obtain ⟨old,z⟩:=st.e0;exact wpAny_pyIter_enum z h
section
variable {X:Cx} {es:Ji} {kt:Nat} {tp:Pos}
inductive iEn_S (K:Fg) (R:(It->Hp->Prop)) (vs:Jo) (H1:Hp):Prop
 | mk (l:Ad) (_:vs=[.ref l]) (_:∃ xs,SqL K H1 l xs) (_:R (ItE K l) H1)
def iEn (K:Fg) (ta:TA):TI:=λσ H R=>ta σ H λvs H1=>iEn_S K R vs H1
def pi_enum {a:Expr} {ta:TA} {p pos kp cp:Pos} {j:Nat} (hg:Gl X "enumerate") (hm:X.mg "enumerate"=none) (ha:PA X [a] ta) (hs:starEach [a] X.env=(false,eval a X.env)::starEach [] X.env:=by rfl) (hall:(backToKw pos (keywordEach [⟨some "start",.Constant (.int 1) j cp,kp⟩] X.env)).all (·.1.isSome)=true:=by rfl) (hks:(backToKw pos (keywordEach [⟨some "start",.Constant (.int 1) j cp,kp⟩] X.env)).filterMap (·.1)=[("start":Str)]:=by rfl) (hpl:((backTo pos (starEach [a] X.env)).any (·.1) || (backToKw pos (keywordEach [⟨some "start",.Constant (.int 1) j cp,kp⟩] X.env)).any (·.1.isNone))=false:=by rfl):PI X (.Tuple es kt tp) (.Call (.Name "enumerate" p) [a] [⟨some "start",.Constant (.int 1) j cp,kp⟩] pos) (iEn X.K ta):=by
 intro pins s σ H R I h;refine wpAny_Call_Name_kw (zag I hg hm boot_enumerate ?_);refine ze1 (thn (ha pos pins s σ H _ I h) λus s1 ⟨vs,H1,I1,r1,q1⟩=>?_) hs hall hpl;refine thn ((pk_cons (nm:=some "start") (kpos:=kp) (zd (i:=1) (j:=j) (pos:=cp)) pk_nil) pos pins s1 σ H1 (λzs H2=>zs=[.int 1]/\H2=H1) I1 ⟨rfl,rfl⟩) λws s2 ⟨zs,H2,I2,rz,e1,e2⟩=>?_;subst e1 e2;obtain ⟨l,e,⟨xs,hx⟩,q⟩:=q1;subst e;obtain ⟨u,rfl,ru⟩:=XT r1;obtain ⟨w,rfl,rw'⟩:=XT rz;cases (show u=Value.ref l from ru);obtain ⟨t,rfl⟩:=(show ∃ t,w=Value.int 1 t from rw');rw [hks];obtain ⟨is,r2,p1,_⟩:=I2.list hx;have hL:=p1.isList;have lt:l<s2.heap.objs.size:=by obtain ⟨o,e,_⟩:=hL;exact Heap.lt_size e
 refine call_en (t:=t) hL λh' a1 a2 hk=>?_;refine wpAny_pyIter_enum (s:={ s2 with heap:=h' }) a1 ?_;have N:∀ {a b:Nat},¬ a=b->@Ne Ad a b:=λh=>h;have lt':@LT.lt Nat _ l s2.heap.objs.size:=lt;refine ⟨_,_,_,_,H2,rfl,I2.kept (t':=s2.toks) λb o e=>hk b o e,turn_en (l:=l) (N (by omega)) (N (by omega)) (N (by omega)),⟨⟨_,a1⟩,a2⟩,λb hb=>?_,q⟩
 have:@LE.le Nat _ s2.heap.objs.size b:=by
  rcases List.mem_cons.mp hb with rfl | hb
  ·exact Nat.le_succ _
  ·cases List.mem_singleton.mp hb;exact Nat.le_refl _
 exact I2.fpOk this (I2.hok.fresh this)
end
def for_en {K:Fg} {l:Ad} {xs:Jo} {g:TG} {tb:TS} {D:Ends} {σ:St} {H:Hp} (Pv:Nat->St->Hp->Prop) (h0:Pv 0 σ H) (hl:∀ i σ H,i<=xs.length->Pv i σ H->SqL K H l xs)
  (hs:∀ i x σ H T,xs[i]?=some x->Pv i σ H->H T=none->g (.ref T) σ (upd H T (.tup [.int ((i+1:Nat):Int),x])) λσ2 H2=>tb { D with nx:=Pv (i+1),ct:=Pv (i+1),bk:=D.nx } σ2 H2) (hd:∀ σ H,Pv xs.length σ H->D.nx σ H) :
  tFor_S g tb D σ (ItE K l) H:=by
 refine ⟨λi m σ H=>m=xs.length-i/\i<=xs.length/\Pv i σ H,⟨xs.length,by simp,Nat.zero_le _,h0⟩,?_⟩;rintro i m σ H ⟨rfl,hi,p⟩;have q1:=hl i σ H hi p;by_cases hlt:i<xs.length
 ·refine .inr ⟨⟨xs,q1,hlt⟩,Pv (i+1),λσ' H' p'=>⟨xs.length-(i+1),by omega,rfl,hlt,p'⟩,λx H' y=>?_⟩
  obtain ⟨T,v,e,nT,e',y1⟩:=y;subst e e';exact hs i v σ H T (y1 xs q1) p nT
 ·have e:i=xs.length:=by omega
  subst e;exact .inl ⟨⟨xs,q1,rfl⟩,hd σ H p⟩
end L2
namespace L2
open PySem PySem.Spec PyProof.Rows
section
variable {X:Cx} {pins:Jd} {σ σ':St} {H H':Hp} {s s':Sh} {a:Ad} {kvs:Jm}
def Inv.hideD (I:Inv X pins σ H s) (e:H a=some (.dK kvs)):∃ (ob:Obj) (es:Array DictEntry) (ep:Nat) (vs:List (Key×Vl)),KV kvs vs/\(ob.ExactDict/\ob.data=.dict es ep/\PySem.KeysOf (yj X.prog X.w) es/\PySem.Pairs (yj X.prog X.w) es.toList vs/\(vs.map (λx=>x.fst)).Nodup)/\s.heap.get? a=some ob/\(a == sysModules)=false/\kvs.length<=sizeLine/\Inv X ((a,ob)::pins) σ (but H [a]) s:=by
 obtain ⟨hz,hS,vs,r,ob,es,ep,ea,c1,c2,c3⟩:=I.hok a _ e
 have ne:∀ {b:Ad} {o:HO},H b=some o->o≠.dK kvs->b ∉ [a]:=λ{b o} z y m=>by
  cases List.mem_singleton.mp m;rw [e] at z;injection z with z;exact y z.symm
 have nn:∀ {b:Ad},H b=none->but H [a] b=none:=λ{b} z=>by
  unfold but;split
  ·rfl
  ·exact z
 refine ⟨ob,es,ep,vs,r,⟨c1,c2,c3⟩,ea,hS,hz,I.ok,I.os,I.bare,⟨I.base.keep,I.base.slot,λb o q m x=>nn (I.base.free b o q m x),I.base.there,λb ys q=>yv (I.base.tups b ys q) (ne (I.base.tups b ys q) (λz=>by cases z)),λb o u q=>yv (I.base.frzs b o u q) (ne (I.base.frzs b o u q) (λz=>by cases z)),λb ps q=>let ⟨more,z⟩:=I.base.tbls b ps q;⟨more,yv z (ne z (λz=>by cases z))⟩⟩,I.loc,I.cell,nn I.free,λx c q=>nn (I.freeC x c q),λp m=>?_,λb u q=>?_,I.len⟩
 ·rcases List.mem_append.mp m with m | m
  ·have q:=I.pin p (List.mem_append_left _ m)
   exact ⟨q.1,nn q.2.1,q.2.2⟩
  ·rcases List.mem_cons.mp m with rfl | m
   ·refine ⟨ea,Yo (List.mem_singleton_self a),λz=>?_,λz=>?_,λv z=>by rw [c2] at z;cases z⟩
    ·have:=I.free
     rw [← z] at this;have e':H a=some (.dK kvs):=e;rw [e'] at this;cases this
    ·obtain ⟨_,o,q,_⟩:=I.ok.funs.mem z
     have:=I.base.free a o q (I.ok.frf a z) (λy=>I.ok.exfs a y z);rw [e] at this;cases this
   ·have q:=I.pin p (q2y _ m)
    exact ⟨q.1,nn q.2.1,q.2.2⟩
 ·obtain ⟨nb,q⟩:=but_inv q
  exact (I.hok b u q).stay (λ_ _ _ z=>z) (λc z=>yv z (ne z (λy=>by cases y))) (λc ys z=>yv z (ne z (λy=>by cases y)))
end
def kV_rel {P:Program} {w:World} {k:Key} {u:Vl} (h:(yj P w).is k u=true):RelV (kV k) u:=by
 rcases yz h with ⟨i,t,rfl,rfl⟩ | ⟨x,t,rfl,rfl⟩
 ·exact ⟨t,rfl⟩
 ·exact ⟨t,rfl⟩
def Itk (kvs:Jm):It:=⟨λi _=>i<kvs.length,λi H x H'=>H'=H/\∃ p,kvs[i]?=some p/\x=kV p.1,λi _=>kvs.length<=i⟩
def tTrue:TT:=λ_ H Q=>Q true H
def Ifs (X:Cx) (ifs:Ji) (tt:TT):Prop:=(ifs=[]/\tt=tTrue)∨∃ tst,ifs=[tst]/\PT X tst tt
def Ifs.len {X:Cx} {ifs:Ji} {tt:TT} (h:Ifs X ifs tt):ifs.length<=1:=by
 rcases h with ⟨rfl,_⟩ | ⟨_,rfl,_⟩
 ·exact Nat.zero_le _
 ·exact Nat.le_refl _
section
variable {X:Cx} {tg:Expr}
end
section
variable {X:Cx}
end
section
variable {X:Cx} {tg:Expr}
end
section
variable {X:Cx}
theorem XS:∀ {xs:Jo} {us:Je},xs.length=us.length->(∀ (i:Nat) x v,xs[i]?=some x->us[i]?=some v->RelV x v)->Vals xs us
 | [],[],_,_=>.nil
 | x::xs,u::us,hl,h=>.cons (h 0 x u rfl rfl) (XS (Nat.succ.inj hl) λi a b ea eb=>h (i+1) a b ea eb)
def ze8 (hc:X.calm=true):Zy X (.type "list") (λxs H Q=>∃ (p:Ad) (kvs:Jm),xs=[.ref p]/\H p=some (.dK kvs)/\kvs.length<=sizeLine/\∀ D,H D=none->Q (.ref D) (upd H D (.lst (kvs.map λq=>kV q.1)))):=by
 intro pins s σ H xs us Q I r h;obtain ⟨d,kvs,rfl,hd,hl,q⟩:=h;obtain ⟨u,rfl,ru⟩:=XT r;cases ru;obtain ⟨ob,es,ep,vs,rk,cc,eob,hS,hz,_⟩:=I.hideD hd;have lk:kvs.length=vs.length:=rk.length;have DA:Heap.DictAt (yj X.prog X.w) s.heap d vs ep:=⟨ob,es,eob,cc⟩;refine PySem.W.kdl_call (PySem.W.kdl_dict (knd:=yj X.prog X.w) (kvs:=vs) (ep:=ep) hS) (I.ok.hd hc) DA (by omega) λh' tk acc c' hk hD ha=>?_;refine ⟨.ref s.heap.objs.size,_,I.laid (t':=tk) hk (Nat.le_refl _) (show ObjOk X.prog X.w _ h' _ (.lst (kvs.map λq=>kV q.1)) from ⟨by rw [Jj];exact hl,acc.toList,c',?_,by simpa using hD⟩),rfl,q _ (I.hok.fresh (Nat.le_refl _))⟩;refine XS (by rw [Jj];exact lk.trans (ha.1.symm.trans Array.length_toList.symm)) λi x v hx hv=>?_;obtain ⟨k,y,e1,e2⟩:=ha.2 i v (by rw [← Array.getElem?_toList];exact hv);have e3:(kvs.map (·.1))[i]?=some k:=by rw [rk.keys,List.getElem?_map,e1];rfl
 rw [List.getElem?_map] at e3 hx
 cases e4:kvs[i]? with
 | none=>rw [e4] at hx;cases hx
 | some p =>
  rw [e4] at e3 hx;cases hx;have e3:p.1=k:=Option.some.inj e3;show RelV (kV p.1) v;rw [e3];exact kV_rel e2
end
end L2
set_option exponentiation.threshold 3000
namespace L2
open PySem PySem.Spec PyProof.Rows
def numS (n:Int):Str:=Str.ofString (toString n)
section
variable {X:Cx}
def Zp:Zy X (.type "str") (λxs H Q=>∃ n:Int,xs=[.int n]/\-(2 ^ 200)<n/\n<2 ^ 200/\Q (.str (numS n)) H):=by
 intro pins s σ H xs us Q I rs h;obtain ⟨n,rfl,h1,h2,q⟩:=h
 obtain ⟨u,rfl⟩:∃ u,us=[Value.int n u]:=by
  cases rs with
  | cons r1 r2=>cases r2;obtain ⟨u,rfl⟩:=r1;exact ⟨u,rfl⟩
 exact P.str_of_int (shown (N:=2 ^ 200) h1 h2 (by decide)) ⟨.str _,H,I.tok _,⟨_,rfl⟩,q⟩
def zdp (m:Nat):lt' (numS (m:Int))=(Nat.toDigits 10 m).map Char.toNat:=PySem.W.KIN.signs_num m
def zdo (m:Nat):lt' (numS (-((m+1:Nat):Int)))=45::(Nat.toDigits 10 (m+1)).map Char.toNat:=by
 show (PySem.Str.ofString (toString (Int.negSucc m))).cps.toList=_;rw [signs_ofString];show ("-"++Nat.repr (m+1)).toList.map Char.toNat=_;rw [String.toList_append,Jl,Nat.toList_repr];rfl
end
end L2
namespace K22
open PySem L2 FM
abbrev rq (a:Ad):Jp:=some (.ref a)
abbrev iq (n:Int):Jp:=some (.int n)
def top (i:Nat):Stmt:=PySem.Challenge.pw_rowbreadth_k22_rows_and_functions_read.main.body.getD i (.Pass ⟨0,0,0,0⟩)
abbrev zci:Stmt:=top 16
def sc_kept:FnScope ["number"] ["number"] (zg zci):=scK
abbrev Yv:Stmt:=top 35
def sc_is_sign:FnScope ["word"] ["word"] (zg Yv):=scK
abbrev ZT:Stmt:=top 55
def sc_words_of:FnScope ["line","apart","word"] ["line"] (zg ZT):=scK
abbrev Zj:Stmt:=top 56
def sc_is_made_of:FnScope ["word","signs","sign"] ["word","signs"] (zg Zj):=scK
abbrev Yw:Stmt:=top 57
def sc_is_name:FnScope ["word"] ["word"] (zg Yw):=scK
abbrev Zk:Stmt:=top 58
def sc_figures_of:FnScope ["word"] ["word"] (zg Zk):=scK
abbrev yr:Stmt:=top 59
def sc_is_written_as_number:FnScope ["word","figures"] ["word"] (zg yr):=scK
abbrev ZC:Stmt:=top 60
def sc_number_in:FnScope ["word","number"] ["word"] (zg ZC):=scK
abbrev ZA:Stmt:=top 65
def zcc:FnScope ["reading","wanted"] ["reading","wanted"] (zg ZA):=scK
abbrev xc:Stmt:=top 66
def Xg:FnScope ["reading"] ["reading"] (zg xc):=scK
abbrev ZB:Stmt:=top 67
def sc_read_name:FnScope ["reading","word"] ["reading"] (zg ZB):=scK
abbrev xN:Stmt:=top 68
def sc_read_number:FnScope ["reading","least","most","number"] ["reading","least","most"] (zg xN):=scK
abbrev ZU:Stmt:=top 69
def sc_read_row:FnScope ["reading","name"] ["reading"] (zg ZU):=scK
abbrev xq:Stmt:=top 70
def sc_read_forms:FnScope ["reading","many","forms"] ["reading","many"] (zg xq):=scK
abbrev ZN:Stmt:=top 71
def sc_read_at:FnScope ["reading","row"] ["reading"] (zg ZN):=scK
abbrev xp:Stmt:=top 72
def sc_read_shifted:FnScope ["reading","row","by"] ["reading"] (zg xp):=scK
abbrev Zc:Stmt:=top 73
def sc_read_pair:FnScope ["reading","sign","forms"] ["reading","sign"] (zg Zc):=scK
abbrev y8:Stmt:=top 74
def sc_read_choice:FnScope ["reading","forms"] ["reading"] (zg y8):=scK
abbrev Ze:Stmt:=top 75
def sc_read_call:FnScope ["reading","name","head"] ["reading","name"] (zg Ze):=scK
abbrev yd:Stmt:=top 76
def sc_read_behind_bracket:FnScope ["reading","word"] ["reading"] (zg yd):=scK
abbrev yW:Stmt:=top 77
def sc_read_bracket:FnScope ["reading","form"] ["reading"] (zg yW):=scK
abbrev Zi:Stmt:=top 78
def sc_named_form:FnScope ["reading","name"] ["reading","name"] (zg Zi):=scK
abbrev Zd:Stmt:=top 79
def sc_read_form:FnScope ["reading","word","number"] ["reading"] (zg Zd):=scK
abbrev ZV:Stmt:=top 89
def zdd:FnScope ["form"] ["form"] (zg ZV):=scK
abbrev xr:Stmt:=top 90
def sc_forms_within:FnScope ["form","found","at"] ["form"] (zg xr):=scK
abbrev Zf:Stmt:=top 91
def sc_body_size:FnScope ["at","functions","known"] ["at","functions","known"] (zg Zf):=scK
abbrev Zb:Stmt:=top 92
def sc_size_with:FnScope ["form","functions","known","size","part"] ["form","functions","known"] (zg Zb):=scK
abbrev Yp:Stmt:=top 93
def sc_size_of:FnScope ["form","functions"] ["form","functions"] (zg Yp):=scK
abbrev xu:Stmt:=top 94
def sc_body_depth:FnScope ["at","functions","known"] ["at","functions","known"] (zg xu):=scK
abbrev xt:Stmt:=top 95
def sc_depth_with:FnScope ["form","functions","known","deepest","waiting","pair","part","depth","inner"] ["form","functions","known"] (zg xt):=scK
abbrev Z2:Stmt:=top 96
def sc_depth_of:FnScope ["form","functions"] ["form","functions"] (zg Z2):=scK
abbrev yC:Stmt:=top 115
def sc_refuse_within_till:FnScope ["draft","reading"] ["draft","reading"] (zg yC):=scK
abbrev xn:Stmt:=top 116
def sc_refuse_taken:FnScope ["reading","name"] ["reading","name"] (zg xn):=scK
abbrev xb:Stmt:=top 117
def sc_read_new_name:FnScope ["reading","name"] ["reading"] (zg xb):=scK
abbrev xa:Stmt:=top 118
def sc_read_row_line:FnScope ["draft","reading","name","length"] ["draft","reading"] (zg xa):=scK
abbrev yO:Stmt:=top 119
def sc_read_parameters:FnScope ["reading","function","own","word"] ["reading","function"] (zg yO):=scK
abbrev xT:Stmt:=top 120
def sc_check_forms:FnScope ["draft","line","forms","form"] ["draft","line","forms"] (zg xT):=scK
abbrev xf:Stmt:=top 121
def sc_read_def_line:FnScope ["draft","reading","name","body","many"] ["draft","reading"] (zg xf):=scK
abbrev Zh:Stmt:=top 134
def sc_read_words:FnScope ["draft","reading","word"] ["draft","reading"] (zg Zh):=scK
abbrev zcg:Stmt:=top 135
def sc_read:FnScope ["text","draft","lines","number","line","words","program"] ["text"] (zg zcg):=scK
abbrev Ys:Stmt:=top 137
def sc_l_mixed:FnScope ["_law_cell","_law_k","_law_mixed_here"] ["_law_cell","_law_k"] (zg Ys):=scK
abbrev Yq:Stmt:=top 138
def zef:FnScope ["_law_found"] ["_law_found"] (zg Yq):=scK
abbrev zch:Stmt:=top 139
def sc_l_is:FnScope ["_law_found","_law_due"] ["_law_found","_law_due"] (zg zch):=scK
abbrev xO:Stmt:=top 140
def sc_l_number_by:FnScope ["_law_cell","_law_how","_law_edges"] ["_law_cell"] (zg xO):=scK
abbrev ZD:Stmt:=top 141
def sc_l_sign_by:FnScope ["_law_cell","_law_some"] ["_law_cell"] (zg ZD):=scK
abbrev xR:Stmt:=top 142
def sc_l_kept_word:FnScope ["_law_word","_law_some"] ["_law_word"] (zg xR):=scK
abbrev xP:Stmt:=top 143
def sc_l_near_kept:FnScope ["_law_cell","_law_some","_law_word"] ["_law_cell"] (zg xP):=scK
abbrev ZF:Stmt:=top 144
def sc_l_name_by:FnScope ["_law_cell","_law_others","_law_some","_law_size","_law_mixed_here","_law_name","_law_k","_law_base","_law_at"] ["_law_cell","_law_others"] (zg ZF):=scK
abbrev ZY:Stmt:=top 145
def sc_l_spaced:FnScope ["_law_words","_law_cell","_law_mixed_here","_law_line","_law_ahead","_law_word","_law_gap"] ["_law_words","_law_cell"] (zg ZY):=scK
abbrev ZG:Stmt:=top 146
def sc_l_leaf_by:FnScope ["_law_cell","_law_known","_law_how","_law_rest","_law_mixed_here","_law_at","_law_row","_law_by","_law_other","_law_words","_law_number"] ["_law_cell","_law_known"] (zg ZG):=scK
abbrev ZW:Stmt:=top 147
def sc_l_wanted:FnScope ["_law_how","_law_rest","_law_known"] ["_law_how","_law_rest","_law_known"] (zg ZW):=scK
abbrev ZX:Stmt:=top 148
def sc_l_top_by:FnScope ["_law_how","_law_rest","_law_parts","_law_known","_law_inner","_law_part","_law_size","_law_deep","_law_row","_law_words","_law_due","_law_at"] ["_law_how","_law_rest","_law_parts","_law_known"] (zg ZX):=scK
abbrev ZZ:Stmt:=top 149
def sc_l_pushed:FnScope ["_law_cell","_law_pile","_law_known","_law_rest","_law_want","_law_leaf","_law_top"] ["_law_cell","_law_pile","_law_known"] (zg ZZ):=scK
abbrev xQ:Stmt:=top 150
def sc_l_like_leaf:FnScope ["_law_form","_law_due"] ["_law_form","_law_due"] (zg xQ):=scK
abbrev Zu:Stmt:=top 151
def sc_l_like:FnScope ["_law_form","_law_due","_law_k"] ["_law_form","_law_due"] (zg Zu):=scK
abbrev ZE:Stmt:=top 152
def sc_l_numbers:FnScope ["_law_found","_law_due","_law_k"] ["_law_found","_law_due"] (zg ZE):=scK
abbrev Yr:Stmt:=top 153
def sc_l_texts:FnScope ["_law_found","_law_due","_law_k"] ["_law_found","_law_due"] (zg Yr):=scK
abbrev xS:Stmt:=top 154
def sc_l_functions:FnScope ["_law_found","_law_counts","_law_bodies","_law_k"] ["_law_found","_law_counts","_law_bodies"] (zg xS):=scK
abbrev Yu:Stmt:=top 155
def sc_l_begun:FnScope ["_law_known"] [] (zg Yu):=scK
abbrev Yt:Stmt:=top 156
def sc_l_lined:FnScope ["_law_known","_law_words","_law_cell"] ["_law_known","_law_words","_law_cell"] (zg Yt):=scK
abbrev Z0:Stmt:=top 157
def sc_l_opened:FnScope ["_law_known","_law_cell","_law_others","_law_rest","_law_name","_law_many","_law_k","_law_mixed_here"] ["_law_known","_law_cell"] (zg Z0):=scK
abbrev Z1:Stmt:=top 158
def sc_l_closed:FnScope ["_law_known","_law_top","_law_cell","_law_words"] ["_law_known","_law_top","_law_cell"] (zg Z1):=scK
abbrev X2:Stmt:=top 159
def sc_law:FnScope ["_law_script","_law_known","_law_pile","_law_cell","_law_told"] ["_law_script"] (zg X2):=scK
abbrev xV:Stmt:=yR (top 40) 0
def X0:FnScope ["self","number"] ["self","number"] (zg xV):=scK
abbrev ZI:Stmt:=yR (top 42) 0
def zce:FnScope ["self","row"] ["self","row"] (zg ZI):=scK
abbrev xv:Stmt:=yR (top 43) 0
def XD:FnScope ["self","row","by","other"] ["self","row","by","other"] (zg xv):=scK
abbrev Zl:Stmt:=yR (top 44) 0
def zav:FnScope ["self","at"] ["self","at"] (zg Zl):=scK
abbrev Yx:Stmt:=yR (top 45) 0
def zeg:FnScope ["self","row","place"] ["self","row","place"] (zg Yx):=scK
abbrev ZH:Stmt:=yR (top 46) 0
def zcd:FnScope ["self","sign","left","right"] ["self","sign","left","right"] (zg ZH):=scK
abbrev xW:Stmt:=yR (top 47) 0
def X1:FnScope ["self","test","left","right"] ["self","test","left","right"] (zg xW):=scK
abbrev ZJ:Stmt:=yR (top 48) 0
def zcf:FnScope ["self","at","handed"] ["self","at","handed"] (zg ZJ):=scK
abbrev xw:Stmt:=yR (top 64) 0
def XE:FnScope ["self","line","words","rows","heads"] ["self","line","words","rows","heads"] (zg xw):=scK
abbrev yK:Stmt:=yR (top 64) 1
def YH:FnScope ["self"] ["self"] (zg yK):=scK
abbrev yD:Stmt:=yR (top 64) 2
def Z8:FnScope ["self"] ["self"] (zg yD):=scK
abbrev xy:Stmt:=yR (top 87) 0
def XF:FnScope ["self","lengths","functions","steps"] ["self","lengths","functions","steps"] (zg xy):=scK
abbrev xU:Stmt:=yR (top 113) 0
def XZ:FnScope ["self","program","names","lines"] ["self","program","names","lines"] (zg xU):=scK
abbrev Zm:Stmt:=yR (top 114) 0
def zaw:FnScope ["self"] ["self"] (zg Zm):=scK
section
variable {P:Program} {w:World} {K:Fg} {mg:J0} {base:Heap}
structure Ints (K:Fg) (mg:J0):Prop where
 isi:mg "isinstance"=none
 int:mg "int"=none
 bool:mg "bool"=none
 ii:PySem.W.kitOne K (.type "int") (.type "int")=some true
 ib:PySem.W.kitOne K (.type "int") (.type "bool")=some false
def ok_whole (d:zB K mg "_law_whole" Yq ["_law_found"]) (N:Ints K mg):Ok P w K mg base (CXe P w base) 1 "_law_whole" ["_law_found"] (sp1 λ_=>.bl true):=by
 obtain ⟨f,fd,m,F,b⟩:=d;refine ⟨f,fd,m,F.kp,b,F.okE zef len1 λcdv A outer s H vs Q E hr h=>?_⟩;obtain ⟨n,rfl,k⟩:=h;refine ⟨_,ze (zi (yb (zf zp rfl N.isi PyProof.Rows.boot_isinstance (za (pv 0) (za (yY N.int PyProof.Rows.boot_int) zc)))
  (yt (pe_not (zf zp rfl N.isi PyProof.Rows.boot_isinstance (za (pv 0) (za (yY N.bool PyProof.Rows.boot_bool) zc))))))),?_⟩
 refine ⟨_,rfl,_,_,.type "int",.type "int",true,rfl,rfl,(λu r=>r),.inl (.int n),N.ii,true,rfl,?_⟩;exact zP ⟨_,rfl,_,_,.type "bool",.type "int",false,rfl,rfl,(λu r=>r),.inl (.int n),N.ib,false,rfl,k⟩
inductive spI_Number (C:Ad) (vs:Jo) (H:Hp) (Q:VK) (_:XK):Prop
 | mk (x dx:Ad) (u0:V) (_:vs=[.ref x,u0]) (_:H x=some (.ins C dx [])) (_:∀ H',(∀ b o,b≠x->H b=some o->H' b=some o)->H' x=some (.ins C dx [("number",u0)])->Q .non H')
def zet {C:Ad} (d:yp K C "Number.__init__" xV ["self","number"]) (cl:Cls K C) (n0:NoAttr K C "number"):OkI P w K mg base (CXe P w base) 1 C ["self","number"] (spI_Number C):=by
 obtain ⟨f,fd,m,F,bd⟩:=d;refine ⟨f,fd,m,bd,F.okE X0 (by rintro vs H Q E ⟨_,_,_,e,_⟩;rw [e];rfl) λcdv A outer s H vs Q E hr h=>?_⟩;obtain ⟨x,dx,u0,rfl,hx,k⟩:=h;refine ⟨_,(ze (zR (pv 0) (pv 1) rfl)),?_⟩;refine ⟨_,rfl,_,rfl,x,C,dx,[],rfl,hx,cl,n0,(by show 0<1000;decide),?_⟩
 exact k _ (λb o nb z=>by
  rw [zF nb];exact z) zr
inductive spI_Cell (C:Ad) (vs:Jo) (H:Hp) (Q:VK) (_:XK):Prop
 | mk (x dx:Ad) (u0:V) (_:vs=[.ref x,u0]) (_:H x=some (.ins C dx [])) (_:∀ H',(∀ b o,b≠x->H b=some o->H' b=some o)->H' x=some (.ins C dx [("row",u0)])->Q .non H')
def okI_Cell {C:Ad} (d:yp K C "Cell.__init__" ZI ["self","row"]) (cl:Cls K C) (n0:NoAttr K C "row"):OkI P w K mg base (CXe P w base) 1 C ["self","row"] (spI_Cell C):=by
 obtain ⟨f,fd,m,F,bd⟩:=d;refine ⟨f,fd,m,bd,F.okE zce (by rintro vs H Q E ⟨_,_,_,e,_⟩;rw [e];rfl) λcdv A outer s H vs Q E hr h=>?_⟩;obtain ⟨x,dx,u0,rfl,hx,k⟩:=h;refine ⟨_,(ze (zR (pv 0) (pv 1) rfl)),?_⟩;refine ⟨_,rfl,_,rfl,x,C,dx,[],rfl,hx,cl,n0,(by show 0<1000;decide),?_⟩
 exact k _ (λb o nb z=>by
  rw [zF nb];exact z) zr
inductive spI_Shifted (C:Ad) (vs:Jo) (H:Hp) (Q:VK) (_:XK):Prop
 | mk (x dx:Ad) (u0 u1 u2:V) (_:vs=[.ref x,u0,u1,u2]) (_:H x=some (.ins C dx [])) (_:∀ H',(∀ b o,b≠x->H b=some o->H' b=some o)->H' x=some (.ins C dx [("row",u0),("by",u1),("other",u2)])->Q .non H')
def zdn {C:Ad} (d:yp K C "Shifted.__init__" xv ["self","row","by","other"]) (cl:Cls K C) (n0:NoAttr K C "row") (n1:NoAttr K C "by") (n2:NoAttr K C "other"):OkI P w K mg base (CXe P w base) 1 C ["self","row","by","other"] (spI_Shifted C):=by
 obtain ⟨f,fd,m,F,bd⟩:=d;refine ⟨f,fd,m,bd,F.okE XD (by rintro vs H Q E ⟨_,_,_,_,_,e,_⟩;rw [e];rfl) λcdv A outer s H vs Q E hr h=>?_⟩;obtain ⟨x,dx,u0,u1,u2,rfl,hx,k⟩:=h;refine ⟨_,(zb (zR (pv 0) (pv 1) rfl) (zb (zR (pv 0) (pv 2) rfl) (ze (zR (pv 0) (pv 3) rfl)))),?_⟩;refine ⟨_,rfl,_,rfl,x,C,dx,[],rfl,hx,cl,n0,(by show 0<1000;decide),?_⟩;refine ⟨_,rfl,_,rfl,x,C,dx,[("row",u0)],rfl,zr,cl,n1,(by show 1<1000;decide),?_⟩;refine ⟨_,rfl,_,rfl,x,C,dx,[("row",u0),("by",u1)],rfl,zr,cl,n2,(by show 2<1000;decide),?_⟩
 exact k _ (λb o nb z=>by
  rw [zF nb,zF nb,zF nb];exact z) zr
inductive spI_Local (C:Ad) (vs:Jo) (H:Hp) (Q:VK) (_:XK):Prop
 | mk (x dx:Ad) (u0:V) (_:vs=[.ref x,u0]) (_:H x=some (.ins C dx [])) (_:∀ H',(∀ b o,b≠x->H b=some o->H' b=some o)->H' x=some (.ins C dx [("at",u0)])->Q .non H')
def okI_Local {C:Ad} (d:yp K C "Local.__init__" Zl ["self","at"]) (cl:Cls K C) (n0:NoAttr K C "at"):OkI P w K mg base (CXe P w base) 1 C ["self","at"] (spI_Local C):=by
 obtain ⟨f,fd,m,F,bd⟩:=d;refine ⟨f,fd,m,bd,F.okE zav (by rintro vs H Q E ⟨_,_,_,e,_⟩;rw [e];rfl) λcdv A outer s H vs Q E hr h=>?_⟩;obtain ⟨x,dx,u0,rfl,hx,k⟩:=h;refine ⟨_,(ze (zR (pv 0) (pv 1) rfl)),?_⟩;refine ⟨_,rfl,_,rfl,x,C,dx,[],rfl,hx,cl,n0,(by show 0<1000;decide),?_⟩
 exact k _ (λb o nb z=>by
  rw [zF nb];exact z) zr
inductive spI_At (C:Ad) (vs:Jo) (H:Hp) (Q:VK) (_:XK):Prop
 | mk (x dx:Ad) (u0 u1:V) (_:vs=[.ref x,u0,u1]) (_:H x=some (.ins C dx [])) (_:∀ H',(∀ b o,b≠x->H b=some o->H' b=some o)->H' x=some (.ins C dx [("row",u0),("place",u1)])->Q .non H')
def okI_At {C:Ad} (d:yp K C "At.__init__" Yx ["self","row","place"]) (cl:Cls K C) (n0:NoAttr K C "row") (n1:NoAttr K C "place"):OkI P w K mg base (CXe P w base) 1 C ["self","row","place"] (spI_At C):=by
 obtain ⟨f,fd,m,F,bd⟩:=d;refine ⟨f,fd,m,bd,F.okE zeg (by rintro vs H Q E ⟨_,_,_,_,e,_⟩;rw [e];rfl) λcdv A outer s H vs Q E hr h=>?_⟩;obtain ⟨x,dx,u0,u1,rfl,hx,k⟩:=h;refine ⟨_,(zb (zR (pv 0) (pv 1) rfl) (ze (zR (pv 0) (pv 2) rfl))),?_⟩;refine ⟨_,rfl,_,rfl,x,C,dx,[],rfl,hx,cl,n0,(by show 0<1000;decide),?_⟩;refine ⟨_,rfl,_,rfl,x,C,dx,[("row",u0)],rfl,zr,cl,n1,(by show 1<1000;decide),?_⟩
 exact k _ (λb o nb z=>by
  rw [zF nb,zF nb];exact z) zr
inductive spI_Pair (C:Ad) (vs:Jo) (H:Hp) (Q:VK) (_:XK):Prop
 | mk (x dx:Ad) (u0 u1 u2:V) (_:vs=[.ref x,u0,u1,u2]) (_:H x=some (.ins C dx [])) (_:∀ H',(∀ b o,b≠x->H b=some o->H' b=some o)->H' x=some (.ins C dx [("sign",u0),("left",u1),("right",u2)])->Q .non H')
def okI_Pair {C:Ad} (d:yp K C "Pair.__init__" ZH ["self","sign","left","right"]) (cl:Cls K C) (n0:NoAttr K C "sign") (n1:NoAttr K C "left") (n2:NoAttr K C "right"):OkI P w K mg base (CXe P w base) 1 C ["self","sign","left","right"] (spI_Pair C):=by
 obtain ⟨f,fd,m,F,bd⟩:=d;refine ⟨f,fd,m,bd,F.okE zcd (by rintro vs H Q E ⟨_,_,_,_,_,e,_⟩;rw [e];rfl) λcdv A outer s H vs Q E hr h=>?_⟩;obtain ⟨x,dx,u0,u1,u2,rfl,hx,k⟩:=h;refine ⟨_,(zb (zR (pv 0) (pv 1) rfl) (zb (zR (pv 0) (pv 2) rfl) (ze (zR (pv 0) (pv 3) rfl)))),?_⟩;refine ⟨_,rfl,_,rfl,x,C,dx,[],rfl,hx,cl,n0,(by show 0<1000;decide),?_⟩;refine ⟨_,rfl,_,rfl,x,C,dx,[("sign",u0)],rfl,zr,cl,n1,(by show 1<1000;decide),?_⟩;refine ⟨_,rfl,_,rfl,x,C,dx,[("sign",u0),("left",u1)],rfl,zr,cl,n2,(by show 2<1000;decide),?_⟩
 exact k _ (λb o nb z=>by
  rw [zF nb,zF nb,zF nb];exact z) zr
inductive spI_Choice (C:Ad) (vs:Jo) (H:Hp) (Q:VK) (_:XK):Prop
 | mk (x dx:Ad) (u0 u1 u2:V) (_:vs=[.ref x,u0,u1,u2]) (_:H x=some (.ins C dx [])) (_:∀ H',(∀ b o,b≠x->H b=some o->H' b=some o)->H' x=some (.ins C dx [("test",u0),("left",u1),("right",u2)])->Q .non H')
def zeu {C:Ad} (d:yp K C "Choice.__init__" xW ["self","test","left","right"]) (cl:Cls K C) (n0:NoAttr K C "test") (n1:NoAttr K C "left") (n2:NoAttr K C "right"):OkI P w K mg base (CXe P w base) 1 C ["self","test","left","right"] (spI_Choice C):=by
 obtain ⟨f,fd,m,F,bd⟩:=d;refine ⟨f,fd,m,bd,F.okE X1 (by rintro vs H Q E ⟨_,_,_,_,_,e,_⟩;rw [e];rfl) λcdv A outer s H vs Q E hr h=>?_⟩;obtain ⟨x,dx,u0,u1,u2,rfl,hx,k⟩:=h;refine ⟨_,(zb (zR (pv 0) (pv 1) rfl) (zb (zR (pv 0) (pv 2) rfl) (ze (zR (pv 0) (pv 3) rfl)))),?_⟩;refine ⟨_,rfl,_,rfl,x,C,dx,[],rfl,hx,cl,n0,(by show 0<1000;decide),?_⟩;refine ⟨_,rfl,_,rfl,x,C,dx,[("test",u0)],rfl,zr,cl,n1,(by show 1<1000;decide),?_⟩;refine ⟨_,rfl,_,rfl,x,C,dx,[("test",u0),("left",u1)],rfl,zr,cl,n2,(by show 2<1000;decide),?_⟩
 exact k _ (λb o nb z=>by
  rw [zF nb,zF nb,zF nb];exact z) zr
inductive spI_Source (C:Ad) (vs:Jo) (H:Hp) (Q:VK) (_:XK):Prop
 | mk (x dx:Ad) (u0 u1 u2:V) (_:vs=[.ref x,u0,u1,u2]) (_:H x=some (.ins C dx [])) (_:∀ H',(∀ b o,b≠x->H b=some o->H' b=some o)->H' x=some (.ins C dx [("program",u0),("names",u1),("lines",u2)])->Q .non H')
def zes {C:Ad} (d:yp K C "Source.__init__" xU ["self","program","names","lines"]) (cl:Cls K C) (n0:NoAttr K C "program") (n1:NoAttr K C "names") (n2:NoAttr K C "lines"):OkI P w K mg base (CXe P w base) 1 C ["self","program","names","lines"] (spI_Source C):=by
 obtain ⟨f,fd,m,F,bd⟩:=d;refine ⟨f,fd,m,bd,F.okE XZ (by rintro vs H Q E ⟨_,_,_,_,_,e,_⟩;rw [e];rfl) λcdv A outer s H vs Q E hr h=>?_⟩;obtain ⟨x,dx,u0,u1,u2,rfl,hx,k⟩:=h;refine ⟨_,(zb (zR (pv 0) (pv 1) rfl) (zb (zR (pv 0) (pv 2) rfl) (ze (zR (pv 0) (pv 3) rfl)))),?_⟩;refine ⟨_,rfl,_,rfl,x,C,dx,[],rfl,hx,cl,n0,(by show 0<1000;decide),?_⟩;refine ⟨_,rfl,_,rfl,x,C,dx,[("program",u0)],rfl,zr,cl,n1,(by show 1<1000;decide),?_⟩;refine ⟨_,rfl,_,rfl,x,C,dx,[("program",u0),("names",u1)],rfl,zr,cl,n2,(by show 2<1000;decide),?_⟩
 exact k _ (λb o nb z=>by
  rw [zF nb,zF nb,zF nb];exact z) zr
inductive spI_Call (K:Fg) (C:Ad) (vs:Jo) (H:Hp) (Q:VK) (_:XK):Prop
 | mk (x dx h:Ad) (u0:V) (xs:Jo) (_:vs=[.ref x,u0,.ref h]) (_:H x=some (.ins C dx [])) (_:SqL K H h xs) (_:∀ H' l,H l=none->(∀ b o,b≠x->H b=some o->H' b=some o)->H' l=some (.lst xs)->H' x=some (.ins C dx [("at",u0),("handed",.ref l)])->Q .non H')
def okI_Call {C:Ad} (d:yp K C "Call.__init__" ZJ ["self","at","handed"]) (hlist:mg "list"=none) (cl:Cls K C) (n0:NoAttr K C "at") (n1:NoAttr K C "handed"):OkI P w K mg base (CXe P w base) 1 C ["self","at","handed"] (spI_Call K C):=by
 obtain ⟨f,fd,m,F,bd⟩:=d;refine ⟨f,fd,m,bd,F.okE zcf (by rintro vs H Q E ⟨_,_,_,_,_,e,_⟩;rw [e];rfl) λcdv A outer s H vs Q E hr h=>?_⟩;obtain ⟨x,dx,h,u0,xs,rfl,hx,hh,k⟩:=h;refine ⟨_,(zb (zR (pv 0) (pv 1) rfl) (ze (zR (pv 0) (yH xG (by rfl) hlist PyProof.Rows.boot_list (za (pv 2) zc)) rfl))),?_⟩;refine ⟨_,rfl,_,rfl,x,C,dx,[],rfl,hx,cl,n0,(by show 0<1000;decide),?_⟩
 have h2:SqL K (upd H x (.ins C dx [("at",u0)])) h xs:=by
  rcases hh with (z | ⟨o,z⟩) | z
  ·exact .inl (.inl (by rw [zF (λe=>by subst e;rw [hx] at z;cases z)];exact z))
  ·exact .inl (.inr ⟨o,by rw [zF (λe=>by subst e;rw [hx] at z;cases z)];exact z⟩)
  ·exact .inr z
 refine ⟨_,rfl,h,_,rfl,.inl h2,λl nl=>?_⟩;have nx:l≠x:=λe=>by subst e;rw [zr] at nl;cases nl
 refine ⟨_,rfl,x,C,dx,[("at",u0)],rfl,(by rw [zF (Ne.symm nx)];exact zr),cl,n1,(by show 1<1000;decide),?_⟩;refine k _ l (by rw [zF nx] at nl;exact nl) (λb o nb z=>?_) (by rw [zF nx];exact zr) zr;rw [zF nb];have nl':b≠l:=λe=>by subst e;rw [zF nb] at nl;rw [nl] at z;cases z
 rw [zF nl',zF nb];exact z
end
end K22
namespace K22
open PySem L2
def pe_gstr {X:Cx} {x z:Str} {t:Tok} {pos:Pos} (hm:X.mg x=some (.str z t)) (hg:Gl X x:=by rfl) (hd:(x == ("__debug__":Str))=false:=by decide):PE X (.Name x pos) (tC (.str z)):=zck hg hm (v:=.str z) ⟨_,rfl⟩ hd
def zae {α:Type} {f:α->V} {l:List α} {i:Nat} {x:V} (h:(l.map f)[i]?=some x):∃ a,l[i]?=some a/\x=f a:=by
 rw [List.getElem?_map] at h;obtain ⟨a,e,r⟩:=Option.map_eq_some_iff.mp h;exact ⟨a,e,r.symm⟩
theorem Y8 (w:Str):∀ l:Jg,inV (.str w) (l.map V.str)=decide (w∈l)
 | []=>by simp [inV]
 | x::l=>by
  have ih:=Y8 w l;unfold inV at ih ⊢;rw [List.map_cons,List.any_cons,ih,Bool.eq_iff_iff];simp only [eqV,Bool.or_eq_true,decide_eq_true_eq,List.mem_cons];constructor
  ·rintro (h | h)
   ·exact .inl (by have h:=h;simp at h;exact h.symm)
   ·exact .inr h
  ·rintro (h | h)
   ·exact .inl (decide_eq_true (by rw [h]))
   ·exact .inr h
def hasS (y:Str) (c:Nat):Bool:=!(Builtin.Str.occurrences y ⟨#[c]⟩ 0 y.length 1).isEmpty
def Yf (z y:Str):Bool:=z.cps.toList.all (hasS y)
def letS:Str:="abcdefghijklmnopqrstuvwxyz"
def figS:Str:="0123456789"
def keptWs:Jg:=["row","def","let","put","fold","run","till","end","at","in","of","into","where","most","here","shift","if","rest","least","sum","product","both","either","odd","chain","capped"]
def Zz (z:Str):Bool:=decide (1<=z.length) && decide (z.length<=12) && (Yf z letS && decide (z ∉ keptWs))
def yN (z:Str):Str:=if Txt.startswith z "-"=true then Txt.slice z (some 1) none else z
def isWr (z:Str):Bool:=(decide (1<=(yN z).length) && decide ((yN z).length<=19) && Yf (yN z) figS) && (decide (z="0") || !Txt.startswith (yN z) "0")
section
variable {P:Program} {w:World} {K:Fg} {mg:J0} {base:Heap}
inductive spMO (vs:Jo) (H:Hp) (Q:VK) (_:XK):Prop
 | mk (z y:Str) (_:vs=[.str z,.str y]) (_:z.length<=100000) (_:∀ H',Same H H'->Q (.bl (Yf z y)) H')
def zem (d:zB K mg "is_made_of" Zj ["word","signs"]) (hall:mg "all"=none):Ok P w K mg base CX0 1 "is_made_of" ["word","signs"] spMO:=by
 obtain ⟨g,fd,m,F,b⟩:=d;refine ⟨g,fd,m,F.kp,b,F.ok sc_is_made_of (by rintro vs H Q E ⟨_,_,e,_⟩;rw [e];rfl) λcdv A outer s H vs Q E hr h=>?_⟩;obtain ⟨z,y,rfl,hz,q⟩:=h;have nd:=sc_is_made_of.nd;have SL:(100000:Nat)<sizeLine:=by decide
 refine ⟨_,(ze (zi (zf (call_all rfl) (by rfl) hall PyProof.Rows.boot_all (za (Zw ["sign","signs"] [none,some 1] rfl rfl rfl (pi_str (pv 0)) (λs3 H3 fp=>⟨ya (i:=0) (Jq ["sign","signs"]) rfl (Or.inl rfl),(Zn op_in_str (pv 0) (pv 1) rfl)⟩)) zc)))),?_⟩;dsimp only [ZR,Cx.nox,Cx.wish];refine ⟨_,rfl,z,rfl,_,rfl,λD nD=>?_⟩;refine comp_v (D:=D) (xs:=sgs z) (λi σ J=>∃ u,σ=[u,some (.str y)]/\Hd H [(D,.lst (((z.cps.toList.take i).map (hasS y)).map V.bl))] J) ⟨none,rfl,Hd.base.new nD⟩ ?_ ?_
 ·rintro i x σ J hi ⟨u,rfl,h⟩
  obtain ⟨c,ec,rfl⟩:=zae hi;have il:=(List.getElem?_eq_some_iff.mp ec).1;have zl:z.cps.toList.length=z.length:=by simp [Str.length]
  refine ⟨_,rfl,_,rfl,_,_,rfl,rfl,_,h.get 0 rfl,by rw [Jj,Jj,List.length_take];omega,_,rfl,?_⟩;rw [List.take_add_one,ec,Jl,Jl];exact h.put 0 rfl
 rintro σ J ⟨u,rfl,h⟩;unfold sgs at h;rw [Jj,List.take_length] at h;refine ⟨D,z.cps.toList.map (hasS y),rfl,h.lst 0 rfl,?_⟩;have e:(z.cps.toList.map (hasS y)).all id=Yf z y:=by rw [List.all_map];rfl
 rw [e];exact q _ h.sm
def spFO:Sp:=λvs H Q _=>∃ z:Str,vs=[.str z]/\z.length<=100000/\Q (.str (yN z)) H
def ok_figs (d:zB K mg "figures_of" Zk ["word"]):Ok P w K mg base CX0 1 "figures_of" ["word"] spFO:=by
 obtain ⟨g,fd,m,F,b⟩:=d;refine ⟨g,fd,m,F.kp,b,F.ok sc_figures_of (by rintro vs H Q E ⟨_,e,_⟩;rw [e];rfl) λcdv A outer s H vs Q E hr h=>?_⟩;obtain ⟨z,rfl,hz,q⟩:=h;have nd:=sc_figures_of.nd;have SL:(100000:Nat)<sizeLine:=by decide
 refine ⟨_,(zb (zC (zG (xB PySem.F.plainAttrs_str PySem.F.slot_str_startswith PySem.F.type_str_startswith zbf (pv 0) (za zk zc))) (ze (zi (y9 YR (pv 0) (xX zd) xY))) zh)
   (ze (zi (pv 0)))),?_⟩
 dsimp only [ZR,Cx.nox,Cx.wish];unfold yN at q;refine ⟨_,rfl,rfl,_,_,rfl,rfl,_,rfl,?_⟩;by_cases hs:Txt.startswith z "-"=true
 ·rw [if_pos hs] at q
  rw [hs];exact zP ⟨_,rfl,_,rfl,_,rfl,by omega,q⟩
 ·rw [if_neg hs] at q
  rw [Bool.eq_false_iff.mpr hs];exact zH ⟨_,rfl,q⟩
def spNm:Sp:=λvs H Q _=>∃ z:Str,vs=[.str z]/\z.length<=100000/\∀ H',Same H H'->Q (.bl (Zz z)) H'
def zeq {kw:Ad} {t1 t2:Tok} (d:zB K mg "is_name" Yw ["word"]) (hlen:mg "len"=none) (hLE:mg "LETTERS"=some (.str letS t1)) (hLN:mg "LONGEST_NAME"=some (.int 12 t2)) (hKW:mg "KEPT_WORDS"=some (.ref kw)) (hkw:∀ H,SqT K H kw (keptWs.map V.str)) (MO:Ok P w K mg base CX0 1 "is_made_of" ["word","signs"] spMO):Ok P w K mg base CX0 2 "is_name" ["word"] spNm:=by
 obtain ⟨g,fd,m,F,b⟩:=d;refine ⟨g,fd,m,F.kp,b,F.ok sc_is_name (by rintro vs H Q E ⟨_,e,_⟩;rw [e];rfl) λcdv A outer s H vs Q E hr h=>?_⟩;obtain ⟨z,rfl,hz,q⟩:=h;have nd:=sc_is_name.nd;have hr1:Room 1 _:=hr;have SL:(100000:Nat)<sizeLine:=by decide
 refine ⟨_,(ze (zi (yb (pe_chain zbc zbc zd (zf Zq (by rfl) hlen PySem.boot_len (za (pv 0) zc)) (yE hLN)) (yb (zx MO hr1 (by rfl) zE (za (pv 0) (za (pe_gstr hLE) zc))) (yt (Zn zco (pv 0) (zM hKW) rfl)))))),?_⟩;dsimp only [ZR,Cx.nox,Cx.wish];unfold Zz at q;refine ⟨_,rfl,_,rfl,by omega,_,_,rfl,rfl,_,rfl,?_⟩;by_cases h1:1<=z.length
 ·rw [decide_eq_true (show (1:Int)<=(z.length:Nat) by omega)]
  rw [decide_eq_true h1] at q;refine zP ⟨_,_,rfl,rfl,_,rfl,?_⟩;by_cases h2:z.length<=12
  ·rw [decide_eq_true (show ((z.length:Nat):Int)<=12 by omega)]
   rw [decide_eq_true h2] at q;refine zP ⟨_,rfl,_,_,rfl,hz,λJ sJ=>⟨_,rfl,?_⟩⟩
   cases hm:Yf z letS with
   | false =>
    rw [hm] at q;exact zH (q J sJ)
   | true =>
    rw [hm] at q;refine zP ⟨_,rfl,kw,_,rfl,.inr (hkw J),rfl,?_,?_⟩
    ·rw [List.all_map];exact List.all_eq_true.mpr λ_ _=>rfl
    ·rw [Y8,if_pos rfl]
     have:=q J sJ;rw [decide_not] at this;exact this
  ·rw [decide_eq_false (show ¬ ((z.length:Nat):Int)<=12 by omega)]
   rw [decide_eq_false h2] at q;exact zH (q H (Same.refl _))
 ·rw [decide_eq_false (show ¬ (1:Int)<=(z.length:Nat) by omega)]
  rw [decide_eq_false h1] at q;exact zH ⟨_,rfl,zH (q H (Same.refl _))⟩
end
end K22
namespace K22
open PySem L2 PySem.NumText
def Y9 (y:Str) (c:Nat):hasS y c=decide (c∈y.cps.toList):=StrLaws.found_one y c
def zbs:figS.cps.toList=[48,49,50,51,52,53,54,55,56,57]:=by decide +kernel
def made_figs {z:Str} (h:Yf z figS=true):AllDigits z.cps.toList:=λc m=>by
 have:=List.all_eq_true.mp h c m;rw [Y9,zbs] at this;have:=of_decide_eq_true this;simp only [List.mem_cons,List.not_mem_nil,or_false] at this;omega
def Zt (z:Str) (c:Nat):Txt.startswith z ⟨#[c]⟩=decide (z.cps.toList[0]?=some c):=by
 obtain ⟨⟨l⟩⟩:=z
 cases l with
 | nil=>rfl
 | cons a l =>
  unfold Txt.startswith Builtin.Str.subAt;have e1:decide (0+(⟨#[c]⟩:Str).length<=(⟨⟨a::l⟩⟩:Str).length)=true:=decide_eq_true (by show 0+1<=(a::l).length;simp);have e2:(⟨a::l⟩:Array Nat).extract 0 (0+1)=#[a]:=by apply Array.ext';simp
  show (decide (0+(⟨#[c]⟩:Str).length<=(⟨⟨a::l⟩⟩:Str).length) && ((⟨a::l⟩:Array Nat).extract 0 (0+1) == #[c]))=decide ((a::l)[0]?=some c);rw [e1,e2,Bool.true_and,Bool.eq_iff_iff];simp
def zba {z:Str} (h:1<=z.cps.toList.length):(Txt.slice z (some 1) none).cps.toList=z.cps.toList.drop 1:=by
 have e:Txt.slice z (some 1) none=StrLaws.sliceText z (some 1) none:=rfl;rw [e,StrLaws.sliceText_from ⟨by decide,by omega⟩];show ((z.cps.toList.drop 1).take _).toArray.toList=_;rw [List.toList_toArray,List.take_of_length_le (by rw [List.length_drop];omega)]
def wr_reads {z:Str} (h:isWr z=true):∃ n,intText? z=some n/\z.length<=20:=by
 have zl:z.cps.toList.length=z.length:=by simp [Str.length]
 unfold isWr at h;simp only [Bool.and_eq_true,decide_eq_true_eq] at h;obtain ⟨⟨⟨h1,h2⟩,h3⟩,_⟩:=h;have ad:=made_figs h3;unfold yN at h1 h2 h3 ad;by_cases hs:Txt.startswith z "-"=true
 ·rw [if_pos hs] at h1 h2 ad
  have e:("-":Str)=⟨#[45]⟩:=by decide +kernel
  rw [e,Zt] at hs;have hs:=of_decide_eq_true hs
  obtain ⟨cs,ec⟩:∃ cs,z.cps.toList=45::cs:=by
   cases hz:z.cps.toList with
   | nil=>rw [hz] at hs;cases hs
   | cons a cs=>rw [hz] at hs;cases hs;exact ⟨cs,rfl⟩
  have es:(Txt.slice z (some 1) none).cps.toList=cs:=by rw [zba (by rw [ec];simp),ec];rfl
  have el:(Txt.slice z (some 1) none).length=cs.length:=by rw [← es];simp [Str.length]
  rw [es] at ad;rw [el] at h1 h2;have l20:z.length<=20:=by rw [← zl,ec,q3x];omega
  exact ⟨_,intText_neg ec ad (λz=>by rw [z] at h1;exact absurd h1 (by decide)) (by omega),l20⟩
 ·rw [if_neg hs] at h1 h2 ad
  exact ⟨_,intText_digits ad (λz=>by rw [z] at zl;have:(0:Nat)=_:=zl;omega) (by omega),by omega⟩
def YJ (z:Str):Option Int:=if isWr z=true then (match intText? z with | some n=>if FM.kept n=n then some n else none | none=>none) else none
def numV:Option Int->V
 | some n=>.int n
 | none=>.non
section
variable {P:Program} {w:World} {K:Fg} {mg:J0} {base:Heap}
inductive spWr (vs:Jo) (H:Hp) (Q:VK) (_:XK):Prop
 | mk (z:Str) (_:vs=[.str z]) (_:z.length<=100000) (_:∀ H',Same H H'->Q (.bl (isWr z)) H')
def figs_len (z:Str):(yN z).length<=z.length:=by
 unfold yN
 split
 ·exact Txt.slice_le z _ _
 ·exact Nat.le_refl _
def ok_wr {t1 t2:Tok} (d:zB K mg "is_written_as_number" yr ["word"]) (hlen:mg "len"=none) (hFI:mg "FIGURES"=some (.str figS t1)) (hMF:mg "MOST_FIGURES"=some (.int 19 t2)) (FO:Ok P w K mg base CX0 1 "figures_of" ["word"] spFO) (MO:Ok P w K mg base CX0 1 "is_made_of" ["word","signs"] spMO):Ok P w K mg base CX0 2 "is_written_as_number" ["word"] spWr:=by
 obtain ⟨g,fd,m,F,b⟩:=d;refine ⟨g,fd,m,F.kp,b,F.ok sc_is_written_as_number (by rintro vs H Q E ⟨_,e,_⟩;rw [e];rfl) λcdv A outer s H vs Q E hr h=>?_⟩;obtain ⟨z,rfl,hz,q⟩:=h;have nd:=sc_is_written_as_number.nd;have hr1:Room 1 _:=hr;have SL:(100000:Nat)<sizeLine:=by decide
 have fl:=figs_len z;refine ⟨_,(zb (zq (i:=1) nd rfl (Or.inl rfl) (zx FO hr1 (by rfl) zE (za (pv 0) zc)))
   (zb (zC (z8 (zL (zdf zbc zbc zd (zf Zq (by rfl) hlen PySem.boot_len (za (pv 1) zc)) (yE hMF))) (zT (zL (zG (zx MO hr1 (by rfl) zE (za (pv 1) (za (pe_gstr hFI) zc))))))).pt (ze (zi zW)) zh)
   (ze (zi (pe_or (Zn zU (pv 0) zk (zu _)) (yt (pe_not (xB PySem.F.plainAttrs_str PySem.F.slot_str_startswith PySem.F.type_str_startswith zbf (pv 1) (za zk zc))))))))),?_⟩
 dsimp only [ZR,Cx.nox,Cx.wish];refine ⟨_,rfl,z,rfl,hz,?_⟩;unfold isWr at q;generalize yN z=f at q fl ⊢;refine ⟨_,rfl,_,rfl,by omega,_,_,rfl,rfl,_,rfl,?_⟩;by_cases h1:1<=f.length
 ·rw [decide_eq_true (show (1:Int)<=(f.length:Nat) by omega)]
  rw [decide_eq_true h1] at q;refine zP ⟨_,_,rfl,rfl,_,rfl,?_⟩;by_cases h2:f.length<=19
  ·rw [decide_eq_true (show ((f.length:Nat):Int)<=19 by omega)]
   rw [decide_eq_true h2] at q;refine zH ⟨_,rfl,_,_,rfl,by omega,λJ sJ=>⟨_,rfl,?_⟩⟩
   cases hm:Yf f figS with
   | false =>
    rw [hm] at q;exact zP (q J sJ)
   | true =>
    rw [hm] at q;refine zH ⟨_,rfl,rfl,_,rfl,?_⟩;rw [show decide (V.str z=V.str "0")=decide (z="0") from decide_eq_decide.mpr ⟨V.str.inj,λh=>by rw [h]⟩];by_cases h3:z="0"
    ·rw [decide_eq_true h3] at q ⊢
     exact zP (q J sJ)
    ·rw [decide_eq_false h3] at q ⊢
     exact zH ⟨_,rfl,rfl,_,_,rfl,rfl,_,rfl,q J sJ⟩
  ·rw [decide_eq_false (show ¬ ((f.length:Nat):Int)<=19 by omega)]
   rw [decide_eq_false h2] at q;exact zP (zP (q H (Same.refl _)))
 ·rw [decide_eq_false (show ¬ (1:Int)<=(f.length:Nat) by omega)]
  rw [decide_eq_false h1] at q;exact zH ⟨_,rfl,zP (zP (q H (Same.refl _)))⟩
def spNi:Sp:=λvs H Q _=>∃ z:Str,vs=[.str z]/\z.length<=100000/\∀ H',Same H H'->Q (numV (YJ z)) H'
def zct (d:zB K mg "number_in" ZC ["word"]) (hint:mg "int"=none) (IW:Ok P w K mg base CX0 2 "is_written_as_number" ["word"] spWr) (KP:Ok P w K mg base (CXe P w base) 1 "kept" ["number"] (sp1 λn=>.int (FM.kept n))):Ok P w K mg base CX0 3 "number_in" ["word"] spNi:=by
 obtain ⟨g,fd,m,F,b⟩:=d;refine ⟨g,fd,m,F.kp,b,F.ok sc_number_in (by rintro vs H Q E ⟨_,e,_⟩;rw [e];rfl) λcdv A outer s H vs Q E hr h=>?_⟩;obtain ⟨z,rfl,hz,q⟩:=h;have nd:=sc_number_in.nd;have hr2:Room 2 _:=hr;have hr1:Room 1 _:=hr.mono (by decide);refine ⟨_,(zb (zC (zL (zG (zx IW hr2 (by rfl) zE (za (pv 0) zc)))) (ze (zi xi)) zh)
   (zb (zq (i:=1) nd rfl (Or.inl rfl) (yH za1 (by rfl) hint PyProof.Rows.boot_int (za (pv 0) zc)))
   (zb (zC (zm yQ (zx KP hr1 (by rfl) z9 (za (pv 1) zc)) (pv 1) (zu _)) (ze (zi xi)) zh)
   (ze (zi (pv 1)))))),?_⟩
 refine ⟨_,rfl,z,rfl,hz,λJ sJ=>⟨_,rfl,?_⟩⟩;unfold YJ at q;by_cases hw:isWr z=true
 ·rw [if_pos hw] at q
  rw [hw];obtain ⟨n,hn,zl⟩:=wr_reads hw;rw [hn] at q;refine zH ⟨_,rfl,z,n,rfl,hn,by omega,?_⟩;refine ⟨_,rfl,n,rfl,_,rfl,rfl,_,rfl,?_⟩;rw [show decide (V.int (FM.kept n)=V.int n)=decide (FM.kept n=n) from decide_eq_decide.mpr ⟨V.int.inj,λh=>by rw [h]⟩];by_cases hk:FM.kept n=n
  ·rw [decide_eq_true hk]
   have q:Q (numV (if FM.kept n=n then some n else none)) J:=q J sJ;rw [if_pos hk] at q;exact zH ⟨_,rfl,q⟩
  ·rw [decide_eq_false hk]
   have q:Q (numV (if FM.kept n=n then some n else none)) J:=q J sJ;rw [if_neg hk] at q;exact zP q
 ·rw [if_neg hw] at q
  rw [Bool.eq_false_iff.mpr hw];exact zP (q J sJ)
end
end K22
namespace K22
open PySem L2
variable {P:Program} {w:World} {K:Fg} {mg:J0} {base:Heap}
inductive Er
 | bad | noName | twice | mn_ | long | deep | uneven | crossed
 deriving DecidableEq
structure Rdg where
 rows:Jg
 heads:List (Str×Nat)
 own:Option (Jg)
abbrev Pr (α:Type):=Except Er (α×Jg)
def signsL:Jg:=["+","-","*","/","rest","least","most","<","=","&","|","^"]
def plc (n:Str):Jg->Option Nat
 | []=>none
 | x::l=>if x=n then some 0 else (plc n l).map (·+1)
def yJ (p:Jg->Pr F2.Fm):Nat->Jg->Pr (List F2.Fm)
 | 0,ws=>.ok ([],ws)
 | k+1,ws=>(p ws).bind λx=>(yJ p k x.2).bind λy=>.ok (x.1::y.1,y.2)
def pWord (want:Str):Jg->Pr Unit
 | []=>.error .bad
 | w::r=>if w=want then .ok ((),r) else .error .bad
def ZP:Jg->Pr Str
 | []=>.error .bad
 | w::r=>if Zz w=true then .ok (w,r) else .error .bad
def pNum (lo hi:Int):Jg->Pr Int
 | []=>.error .bad
 | w::r=>match YJ w with
  | some n=>if lo<=n/\n<=hi then .ok (n,r) else .error .bad
  | none=>.error .bad
def pRow (R:Rdg) (ws:Jg):Pr Nat:=(ZP ws).bind λx=>match plc x.1 R.rows with
 | some i=>.ok (i,x.2)
 | none=>.error .noName
def Xb:List F2.Fm->F2.Fms
 | []=>.nil
 | f::l=>.cons f (Xb l)
def yF (R:Rdg) (p:Jg->Pr F2.Fm):Jg->Pr F2.Fm
 | []=>.error .bad
 | w::r =>
  if w∈signsL then (yJ p 2 r).bind λy=>.ok (.pair w (y.1.getD 0 .here) (y.1.getD 1 .here),y.2)
  else if w="if" then (yJ p 3 r).bind λy=>.ok (.cho (y.1.getD 0 .here) (y.1.getD 1 .here) (y.1.getD 2 .here),y.2)
  else if Zz w=true then match plc w (R.heads.map Prod.fst) with
   | some i=>(yJ p (R.heads.getD i ("",0)).2 r).bind λy=>.ok (.call i (Xb y.1),y.2)
   | none=>.error .noName
  else if w="at"/\R.own=none then (pRow R r).bind λx=>(p x.2).bind λy=>.ok (.at' x.1 y.1,y.2)
  else if w="shift"/\R.own=none then (pRow R r).bind λx=>(pNum (-400) 400 x.2).bind λy=>(pNum (-9223372036854775808) 9223372036854775807 y.2).bind λz=>.ok (.shi x.1 y.1 z.1,z.2)
  else .error .bad
def YS (R:Rdg) (w:Str):Except Er F2.Fm:=match R.own with
 | none=>match plc w R.rows with
  | some i=>.ok (.cell i)
  | none=>.error .noName
 | some o=>match plc w o with
  | some i=>.ok (.loc i)
  | none=>.error .noName
def zX (R:Rdg):Nat->Jg->Pr F2.Fm
 | _,[]=>.error .bad
 | n,w::r =>
  if w="(" then match n with
   | 0=>.error .deep
   | n+1=>(yF R (zX R n) r).bind λx=>(pWord ")" x.2).bind λy=>.ok (x.1,y.2)
  else if w="here" then .ok (.here,r)
  else if Zz w=true then (YS R w).bind λf=>.ok (f,r)
  else match YJ w with
   | some i=>.ok (.num i,r)
   | none=>.error .bad
structure Rg where
 C:Ad
 r:Ad
 dx:Ad
 wa:Ad
 ra:Ad
 ha:Ad
 ln:Int
 ov:V
abbrev Rg.o (g:Rg) (p b:Int):HO:=.ins g.C g.dx [("line",.int g.ln),("words",.ref g.wa),("rows",.ref g.ra),("heads",.ref g.ha),("own",g.ov),("passed",.int p),("brackets",.int b)]
structure RCls (K:Fg) (C:Ad):Prop where
 c:Cls K C
 n0:NoAttr K C "line"
 n1:NoAttr K C "words"
 n2:NoAttr K C "rows"
 n3:NoAttr K C "heads"
 n4:NoAttr K C "own"
 n5:NoAttr K C "passed"
 n6:NoAttr K C "brackets"
structure RAt (B:Hp) (g:Rg) (ws:Jg) (p:Nat) (b:Int) (L:Jn) (H:Hp):Prop where
 h:Hd B ((g.r,g.o p b)::L) H
 w:B g.wa=some (.lst (ws.map V.str))
 l:ws.length<=50000
inductive spHM (C:Ad) (vs:Jo) (H:Hp) (Q:VK) (_:XK):Prop
 | mk (g:Rg) (B:Hp) (L:Jn) (ws:Jg) (p:Nat) (b:Int) (_:vs=[.ref g.r]) (_:g.C=C) (_:RAt B g ws p b L H) (_:Q (.bl (decide (p<ws.length))) H)
def zdl {C:Ad} (d:zas K C "has_more" "Reading.has_more" yK ["self"]) (cC:RCls K C) (hlen:mg "len"=none):OkM P w K mg base CX0 1 C "has_more" ["self"] (spHM C):=by
 obtain ⟨f,fd,m,F,bd⟩:=d;refine ⟨f,fd,m,bd,F.ok YH (by rintro vs H Q E ⟨_,_,_,_,_,_,e,_⟩;rw [e];rfl) λcdv A outer s H vs Q E hr h=>?_⟩;obtain ⟨g,B,L,ws,p,b,rfl,rfl,A1,q⟩:=h;have hx:=A1.h.get 0 rfl;refine ⟨_,(ze (zi (Zn Y5 (zo (pv 0) rfl) (zf zj (by rfl) hlen PySem.boot_len (za (zo (pv 0) rfl) zc)) (zu _)))),?_⟩;dsimp only [ZR,Cx.nox,Cx.wish];refine ⟨_,rfl,g.r,g.C,g.dx,_,_,rfl,hx,cC.c,cC.n5,rfl,_,rfl,g.r,g.C,g.dx,_,_,rfl,hx,cC.c,cC.n1,rfl,g.wa,_,rfl,.inl (SqL.of (A1.h.sm _ _ A1.w)),_,_,rfl,rfl,?_⟩;rw [Jj];rw [show decide ((p:Int)<(ws.length:Int))=decide (p<ws.length) from decide_eq_decide.mpr (by omega)];exact q
inductive spNW (C:Ad) (vs:Jo) (H:Hp) (Q:VK) (_:XK):Prop
 | mk (g:Rg) (B:Hp) (L:Jn) (ws:Jg) (p:Nat) (b:Int) (x:Str) (r:Jg) (_:vs=[.ref g.r]) (_:g.C=C) (_:RAt B g ws p b L H) (_:ws.drop p=x::r) (_:∀ H',RAt B g ws (p+1) b L H'->ws.drop (p+1)=r->Q (.str x) H')
def zcv {C:Ad} (d:zas K C "next_word" "Reading.next_word" yD ["self"]) (rC:RCls K C) (HM:OkM P w K mg base CX0 1 C "has_more" ["self"] (spHM C)):OkM P w K mg base CX0 2 C "next_word" ["self"] (spNW C):=by
 obtain ⟨f,fd,m,F,bd⟩:=d;refine ⟨f,fd,m,bd,F.ok Z8 (by rintro vs H Q E ⟨_,_,_,_,_,_,_,_,e,_⟩;rw [e];rfl) λcdv A outer s H vs Q E hr h=>?_⟩;obtain ⟨g,B,L,ws,p,b,x,r,rfl,rfl,A1,ew,q⟩:=h;have hr1:Room 1 _:=hr;have cC:=rC.c;have hx:=A1.h.get 0 rfl
 have pl:p<ws.length:=by
  have:=congrArg List.length ew;rw [List.length_drop,q3x] at this;omega
 have ex:ws[p]?=some x:=by
  have:=congrArg (λl:Jg=>l[0]?) ew;simpa using this
 have er:ws.drop (p+1)=r:=by rw [← List.tail_drop,ew];rfl
 refine ⟨_,(zb (zC (zL (zG (xZ HM cC hr1 zE (pv 0)))) zV zh)
   (zb (zR (pv 0) (zA yI (zo (pv 0) rfl) zd) rfl)
   (ze (zi (zn zK (zo (pv 0) rfl) (zA ZL (zo (pv 0) rfl) zd) (λ_ _=>rfl)))))),?_⟩
 dsimp only [ZR,Cx.nox,Cx.wish];refine ⟨_,rfl,g.r,g.dx,_,rfl,hx,rfl,g,B,L,ws,p,b,rfl,rfl,A1,_,rfl,?_⟩;rw [decide_eq_true pl];refine zH ⟨_,rfl,g.r,g.C,g.dx,_,_,rfl,hx,cC,rC.n5,rfl,_,_,rfl,rfl,_,rfl,g.r,g.C,g.dx,_,rfl,hx,cC,rC.n5,(by show 7<1000;decide),?_⟩;have h2:Hd B ((g.r,g.o ((p:Int)+1) b)::L) (upd H g.r (g.o ((p:Int)+1) b)):=A1.h.put 0 rfl;have ep:((p+1:Nat):Int)=(p:Int)+1:=by omega
 have A2:RAt B g ws (p+1) b L (upd H g.r (g.o ((p:Int)+1) b)):=⟨by rw [ep];exact h2,A1.w,A1.l⟩;have hx2:=h2.get 0 rfl;refine ⟨_,rfl,g.r,g.C,g.dx,_,_,rfl,hx2,cC,rC.n1,rfl,_,rfl,g.r,g.C,g.dx,_,_,rfl,hx2,cC,rC.n5,rfl,_,_,rfl,rfl,g.wa,_,_,_,rfl,rfl,SqL.of (h2.sm _ _ A1.w),?_,q _ A2 er⟩;rw [show (p:Int)+1-1=p by omega];exact zQ (by rw [List.getElem?_map,ex];rfl)
def RAt.over {B:Hp} {g:Rg} {ws:Jg} {p:Nat} {b:Int} {L:Jn} {H H':Hp} (h:RAt B g ws p b L H) (s:Same H H'):∃ B',Same B B'/\RAt B' g ws p b L H':=by
 obtain ⟨B',sB,h',_⟩:=h.h.over s;exact ⟨B',sB,h',sB _ _ h.w,h.l⟩
def spRW (C:Ad):Sp:=λvs H Q _=>∃ (g:Rg) (B:Hp) (L:Jn) (ws:Jg) (p:Nat) (b:Int) (x:Str) (r:Jg),vs=[.ref g.r,.str x]/\g.C=C/\RAt B g ws p b L H/\ws.drop p=x::r/\∀ H',RAt B g ws (p+1) b L H'->ws.drop (p+1)=r->Q .non H'
def zcp {C:Ad} (d:zB K mg "read_word" ZA ["reading","wanted"]) (rC:RCls K C) (NW:OkM P w K mg base CX0 2 C "next_word" ["self"] (spNW C)):Ok P w K mg base CX0 3 "read_word" ["reading","wanted"] (spRW C):=by
 obtain ⟨f,fd,m,F,bd⟩:=d;refine ⟨f,fd,m,F.kp,bd,F.ok zcc (by rintro vs H Q E ⟨_,_,_,_,_,_,_,_,e,_⟩;rw [e];rfl) λcdv A outer s H vs Q E hr h=>?_⟩;obtain ⟨g,B,L,ws,p,b,x,r,rfl,rfl,A1,ew,q⟩:=h;have hr2:Room 2 _:=hr;have cC:=rC.c;refine ⟨_,(ze (zC (zm yQ (xZ NW cC hr2 zE (pv 0)) (pv 1) (zu _)) zV zh)),?_⟩;refine ⟨_,rfl,g.r,g.dx,_,rfl,A1.h.get 0 rfl,rfl,g,B,L,ws,p,b,x,r,rfl,rfl,A1,ew,λH' A2 er=>⟨_,rfl,rfl,_,rfl,?_⟩⟩;rw [decide_eq_true rfl];exact zH (q H' A2 er)
def spLE (C:Ad):Sp:=λvs H Q _=>∃ (g:Rg) (B:Hp) (L:Jn) (ws:Jg) (p:Nat) (b:Int),vs=[.ref g.r]/\g.C=C/\RAt B g ws p b L H/\ws.drop p=[]/\Q .non H
def zdk {C:Ad} (d:zB K mg "read_line_end" xc ["reading"]) (rC:RCls K C) (HM:OkM P w K mg base CX0 1 C "has_more" ["self"] (spHM C)):Ok P w K mg base CX0 2 "read_line_end" ["reading"] (spLE C):=by
 obtain ⟨f,fd,m,F,bd⟩:=d;refine ⟨f,fd,m,F.kp,bd,F.ok Xg (by rintro vs H Q E ⟨_,_,_,_,_,_,e,_⟩;rw [e];rfl) λcdv A outer s H vs Q E hr h=>?_⟩;obtain ⟨g,B,L,ws,p,b,rfl,rfl,A1,ew,q⟩:=h;have hr1:Room 1 _:=hr;have cC:=rC.c
 have pl:¬ p<ws.length:=by
  have:=congrArg List.length ew;rw [List.length_drop] at this;have e:([]:Jg).length=0:=rfl;omega
 refine ⟨_,(ze (zC (zG (xZ HM cC hr1 zE (pv 0))) zV zh)),?_⟩;refine ⟨_,rfl,g.r,g.dx,_,rfl,A1.h.get 0 rfl,rfl,g,B,L,ws,p,b,rfl,rfl,A1,_,rfl,?_⟩;rw [decide_eq_false pl];exact zH q
def spRN (C:Ad):Sp:=λvs H Q _=>∃ (g:Rg) (B:Hp) (L:Jn) (ws:Jg) (p:Nat) (b:Int) (x:Str) (r:Jg),vs=[.ref g.r]/\g.C=C/\RAt B g ws p b L H/\ZP (ws.drop p)=.ok (x,r)/\x.length<=100000/\∀ B' H',Same B B'->RAt B' g ws (p+1) b L H'->ws.drop (p+1)=r->Q (.str x) H'
def zcr {C:Ad} (d:zB K mg "read_name" ZB ["reading"]) (rC:RCls K C) (NW:OkM P w K mg base CX0 2 C "next_word" ["self"] (spNW C)) (NM:Ok P w K mg base CX0 2 "is_name" ["word"] spNm):Ok P w K mg base CX0 3 "read_name" ["reading"] (spRN C):=by
 obtain ⟨f,fd,m,F,bd⟩:=d;refine ⟨f,fd,m,F.kp,bd,F.ok sc_read_name (by rintro vs H Q E ⟨_,_,_,_,_,_,_,_,e,_⟩;rw [e];rfl) λcdv A outer s H vs Q E hr h=>?_⟩;obtain ⟨g,B,L,ws,p,b,x,r,rfl,rfl,A1,en,xl,q⟩:=h;have hr2:Room 2 _:=hr;have cC:=rC.c;have nd:=sc_read_name.nd
 obtain ⟨ew,hn⟩:ws.drop p=x::r/\Zz x=true:=by
  cases hd:ws.drop p with
  | nil=>rw [hd] at en;cases en
  | cons y l =>
   rw [hd] at en;have en:(if Zz y=true then Except.ok (y,l) else .error .bad:Pr Str)=.ok (x,r):=en;by_cases hy:Zz y=true
   ·rw [if_pos hy] at en;cases en;exact ⟨rfl,hy⟩
   ·rw [if_neg hy] at en;cases en
 refine ⟨_,(zb (zq (i:=1) nd rfl (Or.inl rfl) (xZ NW cC hr2 zE (pv 0)))
   (zb (zC (zL (zG (zx NM hr2 (by rfl) zE (za (pv 1) zc)))) zV zh)
   (ze (zi (pv 1))))),?_⟩
 refine ⟨_,rfl,g.r,g.dx,_,rfl,A1.h.get 0 rfl,rfl,g,B,L,ws,p,b,x,r,rfl,rfl,A1,ew,λH' A2 er=>⟨_,rfl,x,rfl,xl,λJ sJ=>⟨_,rfl,?_⟩⟩⟩;rw [hn];obtain ⟨B',sB,A3⟩:=A2.over sJ;exact zH ⟨_,rfl,q B' J sB A3 er⟩
def zS (i:Nat):Jg->Jm
 | []=>[]
 | x::l=>(.inr x,.int i)::zS (i+1) l
theorem yL (n:Str):∀ (l:Jg) (i:Nat),zZ (zS i l) (.inr n)=(plc n l).map λj=>V.int ((i+j:Nat):Int)
 | [],_=>rfl
 | x::l,i=>by
  have ih:=yL n l (i+1);unfold plc;by_cases h:x=n
  ·subst h
   rw [if_pos rfl];show zZ (((Sum.inr x:Key),V.int i)::zS (i+1) l) _=_;simp [zZ]
  ·rw [if_neg h]
   have e:zZ (zS i (x::l)) (.inr n)=zZ (zS (i+1) l) (.inr n):=by
    show zZ (((Sum.inr x:Key),V.int i)::zS (i+1) l) _=_;simp [zZ,h]
   rw [e,ih]
   cases plc n l with
   | none=>rfl
   | some j=>show some (V.int ((i+1+j:Nat):Int))=some (V.int ((i+(j+1):Nat):Int));congr 2;omega
inductive spNu (C:Ad) (vs:Jo) (H:Hp) (Q:VK) (_:XK):Prop
 | mk (g:Rg) (B:Hp) (L:Jn) (ws:Jg) (p:Nat) (b lo hi n:Int) (r:Jg) (_:vs=[.ref g.r,.int lo,.int hi]) (_:g.C=C) (_:RAt B g ws p b L H) (_:pNum lo hi (ws.drop p)=.ok (n,r)) (_:(∀ x∈ws,x.length<=50000)) (_:∀ B' H',Same B B'->RAt B' g ws (p+1) b L H'->ws.drop (p+1)=r->Q (.int n) H')
def X8 {C:Ad} (d:zB K mg "read_number" xN ["reading","least","most"]) (rC:RCls K C) (NW:OkM P w K mg base CX0 2 C "next_word" ["self"] (spNW C)) (NI:Ok P w K mg base CX0 3 "number_in" ["word"] spNi):Ok P w K mg base CX0 4 "read_number" ["reading","least","most"] (spNu C):=by
 obtain ⟨f,fd,m,F,bd⟩:=d;refine ⟨f,fd,m,F.kp,bd,F.ok sc_read_number (by rintro vs H Q E ⟨_,_,_,_,_,_,_,_,_,_,e,_⟩;rw [e];rfl) λcdv A outer s H vs Q E hr h=>?_⟩;obtain ⟨g,B,L,ws,p,b,lo,hi,n,r,rfl,rfl,A1,en,xl,q⟩:=h;have hr3:Room 3 _:=hr;have hr2:Room 2 _:=hr.mono (by decide);have cC:=rC.c;have nd:=sc_read_number.nd
 obtain ⟨x,ew,hn,hl,hh⟩:∃ x,ws.drop p=x::r/\YJ x=some n/\lo<=n/\n<=hi:=by
  cases hd:ws.drop p with
  | nil=>rw [hd] at en;cases en
  | cons y l =>
   rw [hd] at en;have en:(match YJ y with | some n=>if lo<=n/\n<=hi then Except.ok (n,l) else .error .bad | none=>.error .bad:Pr Int)=.ok (n,r):=en
   cases hy:YJ y with
   | none=>rw [hy] at en;cases en
   | some k =>
    rw [hy] at en;have en:(if lo<=k/\k<=hi then Except.ok (k,l) else .error .bad:Pr Int)=.ok (n,r):=en;by_cases hk:lo<=k/\k<=hi
    ·rw [if_pos hk] at en;cases en;exact ⟨y,rfl,hy,hk.1,hk.2⟩
    ·rw [if_neg hk] at en;cases en
 have mx:x∈ws:=List.mem_of_mem_drop (show x∈ws.drop p by rw [ew];exact q1z);refine ⟨_,(zb (zq (i:=3) nd rfl (Or.inl rfl) (zx NI hr3 (by rfl) zE (za (xZ NW cC hr2 zE (pv 0)) zc)))
   (zb (zC (z8 (zm YU (pv 3) xi (zu _)) (zT (zL (zdf zbc zbc (pv 1) (pv 3) (pv 2))))).pt zV zh)
   (ze (zi (pv 3))))),?_⟩
 refine ⟨_,rfl,g.r,g.dx,_,rfl,A1.h.get 0 rfl,rfl,g,B,L,ws,p,b,x,r,rfl,rfl,A1,ew,λH' A2 er=>⟨x,rfl,Nat.le_trans (xl x mx) (by decide),λJ sJ=>?_⟩⟩;rw [hn];obtain ⟨B',sB,A3⟩:=A2.over sJ;refine ⟨_,rfl,rfl,_,rfl,?_⟩;rw [show decide (numV (some n)=V.non)=false from decide_eq_false (λz=>by cases z)];refine zH ⟨_,rfl,_,rfl,_,_,rfl,rfl,_,rfl,?_⟩;rw [decide_eq_true hl];refine zP ⟨_,rfl,_,_,rfl,rfl,_,rfl,?_⟩;rw [decide_eq_true hh];exact zH ⟨_,rfl,q B' J sB A3 er⟩
def spRo (C:Ad):Sp:=λvs H Q _=>∃ (g:Rg) (B:Hp) (L:Jn) (ws:Jg) (p:Nat) (b:Int) (R:Rdg) (i:Nat) (r:Jg),vs=[.ref g.r]/\g.C=C/\RAt B g ws p b L H/\B g.ra=some (.dK (zS 0 R.rows))/\pRow R (ws.drop p)=.ok (i,r)/\(∀ x∈ws,x.length<=50000)/\∀ B' H',Same B B'->RAt B' g ws (p+1) b L H'->ws.drop (p+1)=r->Q (.int i) H'
def zdi {C:Ad} (d:zB K mg "read_row" ZU ["reading"]) (rC:RCls K C) (RN:Ok P w K mg base CX0 3 "read_name" ["reading"] (spRN C)):Ok P w K mg base CX0 4 "read_row" ["reading"] (spRo C):=by
 obtain ⟨f,fd,m,F,bd⟩:=d;refine ⟨f,fd,m,F.kp,bd,F.ok sc_read_row (by rintro vs H Q E ⟨_,_,_,_,_,_,_,_,_,e,_⟩;rw [e];rfl) λcdv A outer s H vs Q E hr h=>?_⟩;obtain ⟨g,B,L,ws,p,b,R,i,r,rfl,rfl,A1,er',en,xl,q⟩:=h;have hr3:Room 3 _:=hr;have hu:=Nat.lt_of_le_of_lt (Nat.add_le_add_left (show 1<=64 by decide) _) hr.units;have cC:=rC.c;have nd:=sc_read_row.nd
 obtain ⟨x,hn,hp⟩:∃ x,ZP (ws.drop p)=.ok (x,r)/\plc x R.rows=some i:=by
  unfold pRow at en
  cases hx:ZP (ws.drop p) with
  | error e=>rw [hx] at en;cases en
  | ok y =>
   rw [hx] at en;have en:(match plc y.1 R.rows with | some i=>Except.ok (i,y.2) | none=>.error .noName:Pr Nat)=.ok (i,r):=en
   cases hy:plc y.1 R.rows with
   | none=>rw [hy] at en;cases en
   | some k=>rw [hy] at en;cases en;exact ⟨y.1,rfl,hy⟩
 have mx:x.length<=50000:=by
  cases hd:ws.drop p with
  | nil=>rw [hd] at hn;cases hn
  | cons y l =>
   have my:y∈ws:=List.mem_of_mem_drop (show y∈ws.drop p by rw [hd];exact q1z);rw [hd] at hn;have hn:(if Zz y=true then Except.ok (y,l) else .error .bad:Pr Str)=.ok (x,r):=hn;by_cases hy:Zz y=true
   ·rw [if_pos hy] at hn;cases hn;exact xl _ my
   ·rw [if_neg hy] at hn;cases hn
 have gv:zZ (zS 0 R.rows) (.inr x)=some (V.int i):=by rw [yL,hp];show some (V.int ((0+i:Nat):Int))=_;rw [Nat.zero_add]
 refine ⟨_,(zb (zq (i:=1) nd rfl (Or.inl rfl) (zx RN hr3 (by rfl) zE (za (pv 0) zc)))
   (zb (zC (Z4 (Yz hu (pv 1) (zo (pv 0) rfl)) rfl) zV zh)
   (ze (zi (zJ hu (zo (pv 0) rfl) (pv 1) (λ_ _=>rfl)))))),?_⟩
 refine ⟨_,rfl,g,B,L,ws,p,b,x,r,rfl,rfl,A1,hn,Nat.le_trans mx (by decide),λB' H' sB A2 er=>?_⟩;have hx:=A2.h.get 0 rfl;have ed:=A2.h.sm _ _ (sB _ _ er');have dg:DGet H' g.ra (.str x) (some (V.int i)):=by rw [← gv];exact DGet.k (k:=.inr x) ed
 refine ⟨_,rfl,_,rfl,g.r,g.C,g.dx,_,_,rfl,hx,rC.c,rC.n2,rfl,g.ra,_,rfl,dg,_,rfl,?_⟩;exact zH ⟨_,rfl,g.r,g.C,g.dx,_,_,rfl,hx,rC.c,rC.n2,rfl,_,rfl,g.ra,_,rfl,dg,q B' H' sB A2 er⟩
def szU (n:Nat) (h:n<=100000:=by decide):n<=sizeLine:=Nat.le_trans h (by decide)
def tyL {K:Fg} {H:Hp} {a:Ad} {xs:Jo} (h:H a=some (.lst xs)):tyV K "list" (.ref a) H:=.inl ⟨rfl,_,SqL.of h⟩
def ye:Jh->List (Str×Nat)->Jm
 | t::ts,x::l=>(.inr x.1,.ref t)::ye ts l
 | _,_=>[]
structure RdAt (B:Hp) (g:Rg) (R:Rdg):Prop where
 r:B g.ra=some (.dK (zS 0 R.rows))
 h:∃ ts:Jh,ts.length=R.heads.length/\B g.ha=some (.dK (ye ts R.heads))/\∀ (i:Nat) t,ts[i]?=some t->∃ x,R.heads[i]?=some x/\B t=some (.tup [.int i,.int x.2])
 o:(R.own=none/\g.ov=.non)∨∃ o oa,R.own=some o/\g.ov=.ref oa/\B oa=some (.dK (zS 0 o))
 m:∀ x∈R.heads,x.2<=6
def RdAt.same {B B':Hp} {g:Rg} {R:Rdg} (h:RdAt B g R) (s:Same B B'):RdAt B' g R:=by
 obtain ⟨ts,e1,e2,e3⟩:=h.h;refine ⟨s _ _ h.r,⟨ts,e1,s _ _ e2,λi t e=>?_⟩,?_,h.m⟩
 ·obtain ⟨x,ex,et⟩:=e3 i t e
  exact ⟨x,ex,s _ _ et⟩
 ·rcases h.o with e | ⟨o,oa,a1,a2,a3⟩
  ·exact .inl e
  ·exact .inr ⟨o,oa,a1,a2,s _ _ a3⟩
def YW (ws:Jg):Prop:=∀ x∈ws,x.length<=50000
inductive spFm (C:Ad) (c:F2.Cs) (n:Nat) (vs:Jo) (H:Hp) (Q:VK) (_:XK):Prop
 | mk (g:Rg) (B:Hp) (L:Jn) (ws:Jg) (p:Nat) (R:Rdg) (f:F2.Fm) (r:Jg) (_:vs=[.ref g.r]) (_:g.C=C) (_:RAt B g ws p (30-(n:Int)) L H) (_:RdAt B g R) (_:zX R n (ws.drop p)=.ok (f,r)) (_:YW ws) (_:∀ B' H' p' y,Same B B'->RAt B' g ws p' (30-(n:Int)) L H'->ws.drop p'=r->F2.FormAt c B' f y->Q (.ref y) H')
inductive spFs (C:Ad) (c:F2.Cs) (n:Nat) (vs:Jo) (H:Hp) (Q:VK) (_:XK):Prop
 | mk (g:Rg) (B:Hp) (L:Jn) (ws:Jg) (p:Nat) (R:Rdg) (k:Nat) (fs:List F2.Fm) (r:Jg) (_:vs=[.ref g.r,.int k]) (_:g.C=C) (_:RAt B g ws p (30-(n:Int)) L H) (_:RdAt B g R) (_:yJ (zX R n) k (ws.drop p)=.ok (fs,r)) (_:YW ws) (_:k<=100) (_:∀ B' H' p' l ys,Same B B'->RAt B' g ws p' (30-(n:Int)) L H'->ws.drop p'=r->B' l=some (.lst (ys.map V.ref))->Paired (F2.FormAt c B') fs ys->fs.length=k->Q (.ref l) H')
def zay {C:Ad} {c:F2.Cs} {n k:Nat} (d:zB K mg "read_forms" xq ["reading","many"]) (hlen:mg "len"=none) (RF:Ok P w K mg base CX0 k "read_form" ["reading"] (spFm C c n)):Ok P w K mg base CX0 (k+1) "read_forms" ["reading","many"] (spFs C c n):=by
 obtain ⟨f,fd,m,F,bd⟩:=d;refine ⟨f,fd,m,F.kp,bd,F.ok sc_read_forms (by rintro vs H Q E ⟨_,_,_,_,_,_,_,_,_,e,_⟩;rw [e];rfl) λcdv A outer s H vs Q E hr h=>?_⟩;obtain ⟨g,B,L,ws,p,R,kk,fs,r,rfl,rfl,A1,RA,en,wo,k100,q⟩:=h;have hrk:Room k _:=hr;have nd:=sc_read_forms.nd;have SL:(1000:Nat)<sizeLine:=by decide
 refine ⟨_,(zb (zq (i:=2) nd rfl (Or.inl rfl) (zN zc))
   (zb (Z9 PassesOwn.never (zm Y5 (zf zj (by rfl) hlen PySem.boot_len (za (pv 2) zc)) (pv 1) (zu _)) (ze (zY (xB PySem.F.plainAttrs_list PySem.F.slot_list_append PySem.F.type_list_append yh (pv 2) (za (zx RF hrk (by rfl) zE (za (pv 0) zc)) zc)))))
   (ze (zi (pv 2))))),?_⟩
 refine ⟨szU 0,λl nl=>?_⟩;have h0:Hd B ((g.r,g.o p (30-(n:Int)))::(l,.lst (([]:Jh).map V.ref))::L) (upd H l (.lst [])):=A1.h.fnew nl;refine ⟨λmm σ J=>∃ (B1:Hp) (p1:Nat) (fs1 fs2:List F2.Fm) (ys:Jh),σ=[rq g.r,iq kk,rq l]/\Same B B1/\RAt B1 g ws p1 (30-(n:Int)) ((l,.lst (ys.map V.ref))::L) J/\Paired (F2.FormAt c B1) fs1 ys/\fs1.length+mm=kk/\fs=fs1++fs2/\yJ (zX R n) mm (ws.drop p1)=.ok (fs2,r),⟨kk,B,p,[],fs,[],rfl,Same.refl _,⟨h0,A1.w,A1.l⟩,.nil,Nat.zero_add _,rfl,en⟩,?_⟩;rintro mm σ J ⟨B1,p1,fs1,fs2,ys,rfl,sB,A2,pf,hm,ef,e2⟩;have yl:=Paired.length pf;have hl:=A2.h.get 1 rfl;refine ⟨_,rfl,l,_,rfl,.inl (SqL.of hl),_,rfl,_,_,rfl,rfl,_,rfl,?_⟩;rw [Jj];by_cases hz:mm=0
 ·subst hz
  rw [decide_eq_false (by omega)];have e2:(Except.ok ([],ws.drop p1):Pr (List F2.Fm))=.ok (fs2,r):=e2;cases e2;rw [q3y] at ef;subst ef;have h3:Hd B1 ((l,.lst (ys.map V.ref))::(g.r,g.o p1 (30-(n:Int)))::L) J:=A2.h.perm (List.Perm.swap _ _ _);have h4:=h3.settle;have s4:=h3.settled;refine zH ⟨_,rfl,q _ J p1 l ys (sB.trans s4) ⟨h4,s4 _ _ A2.w,A2.l⟩ rfl zr (Paired.mapP pf λ_ _ z=>z.same s4) (by omega)⟩
 ·obtain ⟨m1,rfl⟩:∃ m1,mm=m1+1:=⟨mm-1,by omega⟩
  rw [decide_eq_true (by omega)]
  obtain ⟨f1,r1,fs3,e3,e4,rfl⟩:∃ f1 r1 fs3,zX R n (ws.drop p1)=.ok (f1,r1)/\yJ (zX R n) m1 r1=.ok (fs3,r)/\fs2=f1::fs3:=by
   unfold yJ at e2
   cases h1:zX R n (ws.drop p1) with
   | error e=>rw [h1] at e2;cases e2
   | ok x =>
    rw [h1] at e2;have e2:(yJ (zX R n) m1 x.2).bind (λy=>(Except.ok (x.1::y.1,y.2):Pr (List F2.Fm)))=.ok (fs2,r):=e2
    cases h2:yJ (zX R n) m1 x.2 with
    | error e=>rw [h2] at e2;cases e2
    | ok y=>rw [h2] at e2;cases e2;exact ⟨x.1,x.2,y.1,rfl,h2,rfl⟩
  refine zP ⟨λσ' H'=>∃ m',m'<m1+1/\_,λ_ _ z=>z,?_⟩;refine ⟨_,rfl,tyL hl,_,rfl,g,B1,_,ws,p1,R,f1,r1,rfl,rfl,A2,RA.same sB,e3,wo,λB2 J2 p2 y s2 A3 er fy=>?_⟩;refine ⟨l,_,_,rfl,rfl,A3.h.get 1 rfl,by rw [Jj];omega,m1,Nat.lt_succ_self _,B2,p2,fs1++[f1],fs3,ys++[y],rfl,sB.trans s2,⟨?_,A3.w,A3.l⟩,Paired.snoc (Paired.mapP pf λ_ _ z=>z.same s2) fy,by rw [Jk];show fs1.length+1+m1=kk;omega,by rw [ef,List.append_assoc];rfl,by rw [er];exact e4⟩;rw [Jl];exact A3.h.put 1 rfl
def RAt.made {B:Hp} {g:Rg} {ws:Jg} {p:Nat} {b:Int} {L:Jn} {H H2:Hp} {C x dx:Ad} {ox:HO} (h:RAt B g ws p b L H) (nx:H x=none) (ndx:H dx=none) (ne:dx≠x) (k:∀ b u,b≠x->upd (upd H dx (.own x)) x (.ins C dx []) b=some u->H2 b=some u) (ex:H2 x=some ox):∃ B',Same B B'/\B' x=some ox/\RAt B' g ws p b L H2:=by
 obtain ⟨B',s,e,h'⟩:=hdM h.h nx ndx ne k ex;exact ⟨B',s,e,h',s _ _ h.w,h.l⟩
inductive spPa (C:Ad) (c:F2.Cs) (n:Nat) (vs:Jo) (H:Hp) (Q:VK) (_:XK):Prop
 | mk (g:Rg) (B:Hp) (L:Jn) (ws:Jg) (p:Nat) (R:Rdg) (sg:Str) (fs:List F2.Fm) (r:Jg) (_:vs=[.ref g.r,.str sg]) (_:g.C=C) (_:RAt B g ws p (30-(n:Int)) L H) (_:RdAt B g R) (_:yJ (zX R n) 2 (ws.drop p)=.ok (fs,r)) (_:YW ws) (_:∀ B' H' p' y,Same B B'->RAt B' g ws p' (30-(n:Int)) L H'->ws.drop p'=r->F2.FormAt c B' (.pair sg (fs.getD 0 .here) (fs.getD 1 .here)) y->Q (.ref y) H')
def zcq {C:Ad} {c:F2.Cs} {n k:Nat} (hk:2<=k) (d:zB K mg "read_pair" Zc ["reading","sign"]) (hPa:mg "Pair"=some (.ref c.pair)) (IP:OkI P w K mg base (CXe P w base) 1 c.pair ["self","sign","left","right"] (spI_Pair c.pair)) (FS:Ok P w K mg base CX0 k "read_forms" ["reading","many"] (spFs C c n)):Ok P w K mg base CX0 (k+1) "read_pair" ["reading","sign"] (spPa C c n):=by
 obtain ⟨f,fd,m,F,bd⟩:=d;refine ⟨f,fd,m,F.kp,bd,F.ok sc_read_pair (by rintro vs H Q E ⟨_,_,_,_,_,_,_,_,_,e,_⟩;rw [e];rfl) λcdv A outer s H vs Q E hr h=>?_⟩;obtain ⟨g,B,L,ws,p,R,sg,fs,r,rfl,rfl,A1,RA,en,wo,q⟩:=h;have hrk:Room k _:=hr;have hr2:Room 2 _:=hr.mono hk;have nd:=sc_read_pair.nd;refine ⟨_,(zb (zq (i:=2) nd rfl (Or.inl rfl) (zx FS hrk (by rfl) zE (za (pv 0) (za zd zc))))
   (ze (zi (Zv IP hPa hr2 (by rfl) z9 (za (pv 1) (za (zn zK (pv 2) zd (λ_ _=>rfl)) (za (zn zK (pv 2) zd (λ_ _=>rfl)) zc))))))),?_⟩
 refine ⟨_,rfl,g,B,L,ws,p,R,2,fs,r,rfl,rfl,A1,RA,en,wo,by decide,λB1 H1 p1 l ys s1 A2 er el pf fl=>?_⟩
 match fs,ys,pf,fl with
 | [f1,f2],[y1,y2],.cons h1 (.cons h2 .nil),_ =>
 have sl:SqL K H1 l ([y1,y2].map V.ref):=SqL.of (A2.h.sm _ _ el);refine ⟨_,rfl,_,rfl,l,_,_,_,rfl,rfl,sl,rfl,_,rfl,l,_,_,_,rfl,rfl,sl,rfl,λx dx nx ndx ne=>⟨x,dx,_,_,_,rfl,zr,λH2 k2 ex=>?_⟩⟩;obtain ⟨B2,s2,e2,A3⟩:=A2.made nx ndx ne k2 ex;exact ⟨rfl,q B2 H2 p1 x (s1.trans s2) A3 er ⟨dx,y1,y2,e2,h1.same s2,h2.same s2⟩⟩
def spCh (C:Ad) (c:F2.Cs) (n:Nat):Sp:=λvs H Q _=>∃ (g:Rg) (B:Hp) (L:Jn) (ws:Jg) (p:Nat) (R:Rdg) (fs:List F2.Fm) (r:Jg),vs=[.ref g.r]/\g.C=C/\RAt B g ws p (30-(n:Int)) L H/\RdAt B g R/\yJ (zX R n) 3 (ws.drop p)=.ok (fs,r)/\YW ws/\∀ B' H' p' y,Same B B'->RAt B' g ws p' (30-(n:Int)) L H'->ws.drop p'=r->F2.FormAt c B' (.cho (fs.getD 0 .here) (fs.getD 1 .here) (fs.getD 2 .here)) y->Q (.ref y) H'
def X9 {C:Ad} {c:F2.Cs} {n k:Nat} (hk:2<=k) (d:zB K mg "read_choice" y8 ["reading"]) (hCo:mg "Choice"=some (.ref c.cho)) (IC:OkI P w K mg base (CXe P w base) 1 c.cho ["self","test","left","right"] (spI_Choice c.cho)) (FS:Ok P w K mg base CX0 k "read_forms" ["reading","many"] (spFs C c n)):Ok P w K mg base CX0 (k+1) "read_choice" ["reading"] (spCh C c n):=by
 obtain ⟨f,fd,m,F,bd⟩:=d;refine ⟨f,fd,m,F.kp,bd,F.ok sc_read_choice (by rintro vs H Q E ⟨_,_,_,_,_,_,_,_,e,_⟩;rw [e];rfl) λcdv A outer s H vs Q E hr h=>?_⟩;obtain ⟨g,B,L,ws,p,R,fs,r,rfl,rfl,A1,RA,en,wo,q⟩:=h;have hrk:Room k _:=hr;have hr2:Room 2 _:=hr.mono hk;have nd:=sc_read_choice.nd;refine ⟨_,(zb (zq (i:=1) nd rfl (Or.inl rfl) (zx FS hrk (by rfl) zE (za (pv 0) (za zd zc))))
   (ze (zi (Zv IC hCo hr2 (by rfl) z9 (za (zn zK (pv 1) zd (λ_ _=>rfl)) (za (zn zK (pv 1) zd (λ_ _=>rfl)) (za (zn zK (pv 1) zd (λ_ _=>rfl)) zc))))))),?_⟩
 refine ⟨_,rfl,g,B,L,ws,p,R,3,fs,r,rfl,rfl,A1,RA,en,wo,by decide,λB1 H1 p1 l ys s1 A2 er el pf fl=>?_⟩
 match fs,ys,pf,fl with
 | [f1,f2,f3],[y1,y2,y3],.cons h1 (.cons h2 (.cons h3 .nil)),_ =>
 have sl:SqL K H1 l ([y1,y2,y3].map V.ref):=SqL.of (A2.h.sm _ _ el);refine ⟨_,rfl,l,_,_,_,rfl,rfl,sl,rfl,_,rfl,l,_,_,_,rfl,rfl,sl,rfl,_,rfl,l,_,_,_,rfl,rfl,sl,rfl,λx dx nx ndx ne=>⟨x,dx,_,_,_,rfl,zr,λH2 k2 ex=>?_⟩⟩;obtain ⟨B2,s2,e2,A3⟩:=A2.made nx ndx ne k2 ex;exact ⟨rfl,q B2 H2 p1 x (s1.trans s2) A3 er ⟨dx,y1,y2,y3,e2,h1.same s2,h2.same s2,h3.same s2⟩⟩
inductive spAt (C:Ad) (c:F2.Cs) (n:Nat) (vs:Jo) (H:Hp) (Q:VK) (_:XK):Prop
 | mk (g:Rg) (B:Hp) (L:Jn) (ws:Jg) (p:Nat) (R:Rdg) (i:Nat) (f:F2.Fm) (r1 r:Jg) (_:vs=[.ref g.r]) (_:g.C=C) (_:RAt B g ws p (30-(n:Int)) L H) (_:RdAt B g R) (_:pRow R (ws.drop p)=.ok (i,r1)) (_:zX R n r1=.ok (f,r)) (_:YW ws) (_:∀ B' H' p' y,Same B B'->RAt B' g ws p' (30-(n:Int)) L H'->ws.drop p'=r->F2.FormAt c B' (.at' i f) y->Q (.ref y) H')
def zej {C:Ad} {c:F2.Cs} {n k:Nat} (hk:4<=k) (d:zB K mg "read_at" ZN ["reading"]) (hAt:mg "At"=some (.ref c.at')) (IA:OkI P w K mg base (CXe P w base) 1 c.at' ["self","row","place"] (spI_At c.at')) (RR:Ok P w K mg base CX0 4 "read_row" ["reading"] (spRo C)) (RF:Ok P w K mg base CX0 k "read_form" ["reading"] (spFm C c n)):Ok P w K mg base CX0 (k+1) "read_at" ["reading"] (spAt C c n):=by
 obtain ⟨f,fd,m,F,bd⟩:=d;refine ⟨f,fd,m,F.kp,bd,F.ok sc_read_at (by rintro vs H Q E ⟨_,_,_,_,_,_,_,_,_,_,e,_⟩;rw [e];rfl) λcdv A outer s H vs Q E hr h=>?_⟩;obtain ⟨g,B,L,ws,p,R,i,fm,r1,r,rfl,rfl,A1,RA,e1,e2,wo,q⟩:=h;have hrk:Room k _:=hr;have hr4:Room 4 _:=hr.mono hk;have hr2:Room 2 _:=hr4.mono (by decide);have nd:=sc_read_at.nd;refine ⟨_,(zb (zq (i:=1) nd rfl (Or.inl rfl) (zx RR hr4 (by rfl) zE (za (pv 0) zc)))
   (ze (zi (Zv IA hAt hr2 (by rfl) z9 (za (pv 1) (za (zx RF hrk (by rfl) zE (za (pv 0) zc)) zc)))))),?_⟩
 refine ⟨_,rfl,g,B,L,ws,p,_,R,i,r1,rfl,rfl,A1,RA.r,e1,wo,λB1 H1 s1 A2 er=>?_⟩;refine ⟨_,rfl,_,rfl,g,B1,L,ws,p+1,R,fm,r,rfl,rfl,A2,RA.same s1,by rw [er];exact e2,wo,λB2 H2 p2 y s2 A3 er2 fy=>?_⟩;refine λx dx nx ndx ne=>⟨x,dx,_,_,rfl,zr,λH3 k3 ex=>?_⟩;obtain ⟨B3,s3,e3,A4⟩:=A3.made nx ndx ne k3 ex;exact ⟨rfl,q B3 H3 p2 x (s1.trans (s2.trans s3)) A4 er2 ⟨dx,y,e3,fy.same s3⟩⟩
inductive spSh (C:Ad) (c:F2.Cs) (vs:Jo) (H:Hp) (Q:VK) (_:XK):Prop
 | mk (g:Rg) (B:Hp) (L:Jn) (ws:Jg) (p:Nat) (b:Int) (R:Rdg) (i:Nat) (n1 n2:Int) (r1 r2 r:Jg) (_:vs=[.ref g.r]) (_:g.C=C) (_:RAt B g ws p b L H) (_:RdAt B g R) (_:pRow R (ws.drop p)=.ok (i,r1)) (_:pNum (-400) 400 r1=.ok (n1,r2)) (_:pNum (-9223372036854775808) 9223372036854775807 r2=.ok (n2,r)) (_:YW ws) (_:∀ B' H' p' y,Same B B'->RAt B' g ws p' b L H'->ws.drop p'=r->F2.FormAt c B' (.shi i n1 n2) y->Q (.ref y) H')
def XG {C:Ad} {c:F2.Cs} {t1 t2:Tok} (d:zB K mg "read_shifted" xp ["reading"]) (hFS:mg "FARTHEST_SHIFT"=some (.int 400 t1)) (hHA:mg "HALF"=some (.int 9223372036854775808 t2)) (hSh:mg "Shifted"=some (.ref c.shi)) (IS:OkI P w K mg base (CXe P w base) 1 c.shi ["self","row","by","other"] (spI_Shifted c.shi)) (RR:Ok P w K mg base CX0 4 "read_row" ["reading"] (spRo C)) (NU:Ok P w K mg base CX0 4 "read_number" ["reading","least","most"] (spNu C)):Ok P w K mg base CX0 5 "read_shifted" ["reading"] (spSh C c):=by
 obtain ⟨f,fd,m,F,bd⟩:=d;refine ⟨f,fd,m,F.kp,bd,F.ok sc_read_shifted (by rintro vs H Q E ⟨_,_,_,_,_,_,_,_,_,_,_,_,_,e,_⟩;rw [e];rfl) λcdv A outer s H vs Q E hr h=>?_⟩;obtain ⟨g,B,L,ws,p,b,R,i,n1,n2,r1,r2,r,rfl,rfl,A1,RA,e1,e2,e3,wo,q⟩:=h;have hr4:Room 4 _:=hr;have hr2:Room 2 _:=hr.mono (by decide);have nd:=sc_read_shifted.nd;refine ⟨_,(zb (zq (i:=1) nd rfl (Or.inl rfl) (zx RR hr4 (by rfl) zE (za (pv 0) zc)))
   (zb (zq (i:=2) nd rfl (Or.inl rfl) (zx NU hr4 (by rfl) zE (za (pv 0) (za (Y2 ZS (yE hFS)) (za (yE hFS) zc)))))
   (ze (zi (Zv IS hSh hr2 (by rfl) z9 (za (pv 1) (za (pv 2) (za (zx NU hr4 (by rfl) zE (za (pv 0) (za (Y2 ZS (yE hHA)) (za (zA ZL (yE hHA) zd) zc)))) zc)))))))),?_⟩
 refine ⟨_,rfl,g,B,L,ws,p,b,R,i,r1,rfl,rfl,A1,RA.r,e1,wo,λB1 H1 s1 A2 er=>?_⟩;refine ⟨_,rfl,_,rfl,g,B1,L,ws,p+1,b,-400,400,n1,r2,rfl,rfl,A2,by rw [er];exact e2,wo,λB2 H2 s2 A3 er2=>?_⟩;refine ⟨_,rfl,_,rfl,_,rfl,_,rfl,_,_,rfl,rfl,g,B2,L,ws,p+1+1,b,_,_,n2,r,rfl,rfl,A3,by rw [er2];exact e3,wo,λB3 H3 s3 A4 er3=>?_⟩;refine λx dx nx ndx ne=>⟨x,dx,_,_,_,rfl,zr,λH4 k4 ex=>?_⟩;obtain ⟨B4,s4,e4,A5⟩:=A4.made nx ndx ne k4 ex;exact ⟨rfl,q B4 H4 _ x (s1.trans (s2.trans (s3.trans s4))) A5 er3 ⟨dx,e4⟩⟩
theorem xM (n:Str):∀ (ts:Jh) (l:List (Str×Nat)),ts.length=l.length->zZ (ye ts l) (.inr n)=((plc n (l.map Prod.fst)).bind λj=>ts[j]?).map V.ref
 | [],[],_=>rfl
 | t::ts,x::l,e=>by
  have ih:=xM n ts l (Nat.succ.inj e);rw [List.map_cons];unfold plc;by_cases h:x.1=n
  ·rw [if_pos h]
   show zZ (((Sum.inr x.1:Key),V.ref t)::ye ts l) _=_;simp [zZ,h]
  ·rw [if_neg h]
   have e:zZ (ye (t::ts) (x::l)) (.inr n)=zZ (ye ts l) (.inr n):=by
    show zZ (((Sum.inr x.1:Key),V.ref t)::ye ts l) _=_;simp [zZ,h]
   rw [e,ih]
   cases plc n (l.map Prod.fst) with
   | none=>rfl
   | some j=>rfl
theorem plc_lt {n:Str}:∀ {l:Jg} {i:Nat},plc n l=some i->i<l.length
 | [],_,h=>by cases h
 | x::l,i,h=>by
  unfold plc at h;by_cases e:x=n
  ·rw [if_pos e] at h;cases h;exact Nat.succ_pos _
  ·rw [if_neg e] at h
   obtain ⟨j,ej,rfl⟩:=Option.map_eq_some_iff.mp h;exact Nat.succ_lt_succ (plc_lt ej)
def RAt.made2 {B:Hp} {g:Rg} {ws:Jg} {p:Nat} {b:Int} {L:Jn} {H H2:Hp} {C x dx l:Ad} {ox ol:HO} (h:RAt B g ws p b L H) (nx:H x=none) (ndx:H dx=none) (nl:upd (upd H dx (.own x)) x (.ins C dx []) l=none) (k:∀ b u,b≠x->upd (upd H dx (.own x)) x (.ins C dx []) b=some u->H2 b=some u) (el:H2 l=some ol) (ex:H2 x=some ox):∃ B',Same B B'/\B' x=some ox/\B' l=some ol/\RAt B' g ws p b L H2:=by
 have lx:l≠x:=λz=>by rw [z,zr] at nl;cases nl
 have nl1:H l=none:=by
  rw [zF lx] at nl;by_cases z:l=dx
  ·rw [z,zr] at nl;cases nl
  ·rwa [zF z] at nl
 have k2:∀ b u,H b=some u->H2 b=some u:=λb u e=>k b u (zI e nx) (by rw [zF (zI e nx),zF (zI e ndx)];exact e)
 have n1:B x=none:=by
  cases r:B x with
  | none=>rfl
  | some o=>have:=h.h.sm _ _ r;rw [nx] at this;cases this
 have n2:B l=none:=by
  cases r:B l with
  | none=>rfl
  | some o=>have:=h.h.sm _ _ r;rw [nl1] at this;cases this
 have sB:Same B (upd (upd B l ol) x ox):=(yq (Same.refl _) n2).trans (yq (Same.refl _) (by rw [zF (Ne.symm lx)];exact n1));refine ⟨upd (upd B l ol) x ox,sB,zr,by rw [zF lx];exact zr,⟨h.h.nd,λq m=>?_,λq m=>k2 _ _ (h.h.st q m),λb u e=>?_⟩,sB _ _ h.w,h.l⟩
 ·have:=h.h.st q m
  rw [zF (zI this nx),zF (zI this nl1)];exact h.h.nw q m
 ·by_cases z:b=x
  ·subst z;rw [zr] at e;rw [ex];exact e
  ·rw [zF z] at e
   by_cases z2:b=l
   ·subst z2;rw [zr] at e;rw [el];exact e
   ·rw [zF z2] at e;exact k2 _ _ (h.h.sm _ _ e)
theorem zdz {c:F2.Cs} {H:Hp}:∀ {fs:List F2.Fm} {ys:Jh},Paired (F2.FormAt c H) fs ys->F2.FormsAt c H (Xb fs) ys
 | [],[],_=>rfl
 | _::_,_::_,.cons h t=>⟨_,_,rfl,h,zdz t⟩
inductive spCa (C:Ad) (c:F2.Cs) (n:Nat) (vs:Jo) (H:Hp) (Q:VK) (_:XK):Prop
 | mk (g:Rg) (B:Hp) (L:Jn) (ws:Jg) (p:Nat) (R:Rdg) (nm:Str) (i:Nat) (fs:List F2.Fm) (r:Jg) (_:vs=[.ref g.r,.str nm]) (_:g.C=C) (_:RAt B g ws p (30-(n:Int)) L H) (_:RdAt B g R) (_:plc nm (R.heads.map Prod.fst)=some i) (_:(R.heads.getD i ("",0)).2<=100) (_:yJ (zX R n) (R.heads.getD i ("",0)).2 (ws.drop p)=.ok (fs,r)) (_:YW ws) (_:∀ B' H' p' y,Same B B'->RAt B' g ws p' (30-(n:Int)) L H'->ws.drop p'=r->F2.FormAt c B' (.call i (Xb fs)) y->Q (.ref y) H')
def zcs {C:Ad} {c:F2.Cs} {n k:Nat} (hk:2<=k) (d:zB K mg "read_call" Ze ["reading","name"]) (rC:RCls K C) (hCa:mg "Call"=some (.ref c.call)) (IC:OkI P w K mg base (CXe P w base) 1 c.call ["self","at","handed"] (spI_Call K c.call)) (FS:Ok P w K mg base CX0 k "read_forms" ["reading","many"] (spFs C c n)):Ok P w K mg base CX0 (k+1) "read_call" ["reading","name"] (spCa C c n):=by
 obtain ⟨f,fd,m,F,bd⟩:=d;refine ⟨f,fd,m,F.kp,bd,F.ok sc_read_call (by rintro vs H Q E ⟨_,_,_,_,_,_,_,_,_,_,e,_⟩;rw [e];rfl) λcdv A outer s H vs Q E hr h=>?_⟩;obtain ⟨g,B,L,ws,p,R,nm,i,fs,r,rfl,rfl,A1,RA,en,h6,e2,wo,q⟩:=h;have hrk:Room k _:=hr;have hr2:Room 2 _:=hr.mono hk;have hu:=Nat.lt_of_le_of_lt (Nat.add_le_add_left (show 1<=64 by decide) _) hr.units;have nd:=sc_read_call.nd;obtain ⟨ts,tl,eh,et⟩:=RA.h;have il:i<R.heads.length:=by have:=plc_lt en;rwa [Jj] at this
 obtain ⟨t,eti⟩:∃ t,ts[i]?=some t:=⟨_,List.getElem?_eq_getElem (by omega)⟩;obtain ⟨x,ex,ett⟩:=et i t eti;have gx:R.heads.getD i ("",0)=x:=by rw [q1x,ex];rfl
 rw [gx] at h6 e2;have gv:zZ (ye ts R.heads) (.inr nm)=some (V.ref t):=by rw [xM nm ts R.heads tl,en];show (ts[i]?).map V.ref=_;rw [eti];rfl
 have hx:=A1.h.get 0 rfl;have dg:DGet H g.ha (.str nm) (some (V.ref t)):=by rw [← gv];exact DGet.k (k:=.inr nm) (A1.h.sm _ _ eh)
 refine ⟨_,(zb (zC (Z4 (Yz hu (pv 1) (zo (pv 0) rfl)) rfl) zV zh)
   (zb (zq (i:=2) nd rfl (Or.inl rfl) (zJ hu (zo (pv 0) rfl) (pv 1) (λ_ _=>rfl)))
   (ze (zi (Zv IC hCa hr2 (by rfl) z9 (za (zn zy (pv 2) zd (λ_ _=>rfl)) (za (zx FS hrk (by rfl) zE (za (pv 0) (za (zn zy (pv 2) zd (λ_ _=>rfl)) zc))) zc))))))),?_⟩
 refine ⟨_,rfl,_,rfl,g.r,g.C,g.dx,_,_,rfl,hx,rC.c,rC.n3,rfl,g.ha,_,rfl,dg,_,rfl,?_⟩;refine zH ⟨_,rfl,g.r,g.C,g.dx,_,_,rfl,hx,rC.c,rC.n3,rfl,_,rfl,g.ha,_,rfl,dg,?_⟩;have st:SqT K H t [.int i,.int x.2]:=SqT.of (A1.h.sm _ _ ett);refine ⟨_,rfl,t,_,_,_,rfl,rfl,st,rfl,_,rfl,_,rfl,t,_,_,_,rfl,rfl,st,rfl,g,B,L,ws,p,R,x.2,fs,r,rfl,rfl,A1,RA,e2,wo,h6,λB1 H1 p1 l ys s1 A2 er el pf fl=>?_⟩;have eH:=A2.h.sm _ _ el;refine λxx dx nx ndx ne=>⟨xx,dx,l,_,_,rfl,zr,SqL.of (by rw [zF (zI eH nx),zF (zI eH ndx)];exact eH),λH2 l2 nl2 k2 el2 ex2=>?_⟩;obtain ⟨B2,s2,e3,e4,A3⟩:=A2.made2 nx ndx nl2 k2 el2 ex2;exact ⟨rfl,q B2 H2 p1 xx (s1.trans s2) A3 er ⟨dx,l2,ys,e3,e4,zdz (Paired.mapP pf λ_ _ z=>z.same s2)⟩⟩
inductive spNf (C:Ad) (c:F2.Cs) (vs:Jo) (H:Hp) (Q:VK) (_:XK):Prop
 | mk (g:Rg) (B:Hp) (L:Jn) (ws:Jg) (p:Nat) (b:Int) (R:Rdg) (nm:Str) (f:F2.Fm) (_:vs=[.ref g.r,.str nm]) (_:g.C=C) (_:RAt B g ws p b L H) (_:RdAt B g R) (_:YS R nm=.ok f) (_:∀ B' H' y,Same B B'->RAt B' g ws p b L H'->F2.FormAt c B' f y->Q (.ref y) H')
def za0 {C:Ad} {c:F2.Cs} (d:zB K mg "named_form" Zi ["reading","name"]) (rC:RCls K C) (hCe:mg "Cell"=some (.ref c.cell)) (hLo:mg "Local"=some (.ref c.loc)) (ICe:OkI P w K mg base (CXe P w base) 1 c.cell ["self","row"] (spI_Cell c.cell)) (ILo:OkI P w K mg base (CXe P w base) 1 c.loc ["self","at"] (spI_Local c.loc)):Ok P w K mg base CX0 3 "named_form" ["reading","name"] (spNf C c):=by
 obtain ⟨f,fd,m,F,bd⟩:=d;refine ⟨f,fd,m,F.kp,bd,F.ok sc_named_form (by rintro vs H Q E ⟨_,_,_,_,_,_,_,_,_,e,_⟩;rw [e];rfl) λcdv A outer s H vs Q E hr h=>?_⟩;obtain ⟨g,B,L,ws,p,b,R,nm,fm,rfl,rfl,A1,RA,en,q⟩:=h;have hr2:Room 2 _:=hr;have hu:=Nat.lt_of_le_of_lt (Nat.add_le_add_left (show 1<=64 by decide) _) hr.units;have nd:=sc_named_form.nd;have hx:=A1.h.get 0 rfl;refine ⟨_,(zb (zC (y6 (zm YU (zo (pv 0) rfl) xi (zu _)) (yP (Z4 (X6 hu (pv 1) (zo (pv 0) rfl)) rfl))).pt (ze (zi (Zv ICe hCe hr2 (by rfl) z9 (za (zJ hu (zo (pv 0) rfl) (pv 1) (λ_ _=>rfl)) zc)))) zh)
   (zb (zC (y6 (zm zcn (zo (pv 0) rfl) xi (zu _)) (yP (Z4 (X6 hu (pv 1) (zo (pv 0) rfl)) rfl))).pt (ze (zi (Zv ILo hLo hr2 (by rfl) z9 (za (zJ hu (zo (pv 0) rfl) (pv 1) (λ_ _=>rfl)) zc)))) zh)
   zV)),?_⟩
 refine ⟨_,rfl,g.r,g.C,g.dx,_,_,rfl,hx,rC.c,rC.n4,rfl,rfl,_,rfl,?_⟩;rcases RA.o with ⟨e1,e2⟩ | ⟨o,oa,e1,e2,e3⟩
 ·unfold YS at en
  rw [e1] at en
  obtain ⟨i,ei,rfl⟩:∃ i:Nat,plc nm R.rows=some i/\fm=.cell i:=by
   cases hp:plc nm R.rows with
   | none=>rw [hp] at en;cases en
   | some i=>rw [hp] at en;cases en;exact ⟨i,rfl,rfl⟩
  have gv:zZ (zS 0 R.rows) (.inr nm)=some (V.int i):=by rw [yL,ei];show some (V.int ((0+i:Nat):Int))=_;rw [Nat.zero_add]
  have dg:DGet H g.ra (.str nm) (some (V.int i)):=by rw [← gv];exact DGet.k (k:=.inr nm) (A1.h.sm _ _ RA.r)
  rw [show decide (g.ov=V.non)=true from decide_eq_true e2];refine zP ⟨_,rfl,_,rfl,g.r,g.C,g.dx,_,_,rfl,hx,rC.c,rC.n2,rfl,g.ra,_,rfl,dg,_,rfl,?_⟩;refine zP ⟨_,rfl,g.r,g.C,g.dx,_,_,rfl,hx,rC.c,rC.n2,rfl,_,rfl,g.ra,_,rfl,dg,?_⟩;refine λx dx nx ndx ne=>⟨x,dx,_,rfl,zr,λH2 k2 ex=>?_⟩;obtain ⟨B2,s2,e4,A3⟩:=A1.made nx ndx ne k2 ex;exact ⟨rfl,q B2 H2 x s2 A3 ⟨dx,e4⟩⟩
 ·unfold YS at en
  rw [e1] at en;have en:(match plc nm o with | some i=>Except.ok (.loc i) | none=>.error .noName:Except Er F2.Fm)=.ok fm:=en
  obtain ⟨i,ei,rfl⟩:∃ i:Nat,plc nm o=some i/\fm=.loc i:=by
   cases hp:plc nm o with
   | none=>rw [hp] at en;cases en
   | some i=>rw [hp] at en;cases en;exact ⟨i,rfl,rfl⟩
  have gv:zZ (zS 0 o) (.inr nm)=some (V.int i):=by rw [yL,ei];show some (V.int ((0+i:Nat):Int))=_;rw [Nat.zero_add]
  have dg:DGet H oa (.str nm) (some (V.int i)):=by rw [← gv];exact DGet.k (k:=.inr nm) (A1.h.sm _ _ e3)
  have hd:decide (g.ov=V.non)=false:=decide_eq_false (by rw [e2];exact λz=>by cases z);rw [hd];refine zH (zH ⟨_,rfl,g.r,g.C,g.dx,_,_,rfl,hx,rC.c,rC.n4,rfl,rfl,_,rfl,?_⟩);rw [hd];refine zP ⟨_,rfl,_,rfl,g.r,g.C,g.dx,_,_,rfl,hx,rC.c,rC.n4,rfl,oa,_,e2,dg,_,rfl,?_⟩;refine zP ⟨_,rfl,g.r,g.C,g.dx,_,_,rfl,hx,rC.c,rC.n4,rfl,_,rfl,oa,_,e2,dg,?_⟩;refine λx dx nx ndx ne=>⟨x,dx,_,rfl,zr,λH2 k2 ex=>?_⟩;obtain ⟨B2,s2,e4,A3⟩:=A1.made nx ndx ne k2 ex;exact ⟨rfl,q B2 H2 x s2 A3 ⟨dx,e4⟩⟩
structure TopHas (w:World) (K:Fg) (mg:J0) (x:Str) (a:Ad) (l:Jg):Prop where
 g:mg x=some (.ref a)
 T:YG w K a
 lo:(a == sysModules)=false
 h:∀ z,∃ r,PySem.W.nsIn K a z=some r/\r.isSome=decide (z∈l)
def xH {α β:Type} {e:Except Er α} {f:α->Except Er β} {y:β} (h:e.bind f=.ok y):∃ x,e=.ok x/\f x=.ok y:=by
 cases e with
 | error e=>cases h
 | ok x=>exact ⟨x,rfl,h⟩
def spSgn:Sp:=λvs H Q _=>∃ z:Str,vs=[.str z]/\Q (.bl (decide (z∈signsL))) H
def zep {aS:Ad} (d:zB K mg "is_sign" Yv ["word"]) (T:TopHas w K mg "SIGNS" aS signsL):Ok P w K mg base CX0 1 "is_sign" ["word"] spSgn:=by
 obtain ⟨f,fd,m,F,bd⟩:=d;refine ⟨f,fd,m,F.kp,bd,F.ok sc_is_sign (by rintro vs H Q E ⟨_,e,_⟩;rw [e];rfl) λcdv A outer s H vs Q E hr h=>?_⟩;obtain ⟨z,rfl,q⟩:=h;have nd:=sc_is_sign.nd;obtain ⟨r,e1,e2⟩:=T.h z;refine ⟨_,(ze (zi (Zn op_in_top (pv 0) (zM T.g) rfl))),?_⟩;refine ⟨_,rfl,z,aS,r,rfl,rfl,T.T,T.lo,e1,?_⟩;rw [e2];exact q
inductive spBe (C:Ad) (c:F2.Cs) (n:Nat) (vs:Jo) (H:Hp) (Q:VK) (_:XK):Prop
 | mk (g:Rg) (B:Hp) (L:Jn) (ws:Jg) (p:Nat) (R:Rdg) (f:F2.Fm) (r:Jg) (_:vs=[.ref g.r]) (_:g.C=C) (_:RAt B g ws p (30-(n:Int)) L H) (_:RdAt B g R) (_:yF R (zX R n) (ws.drop p)=.ok (f,r)) (_:YW ws) (_:∀ B' H' p' y,Same B B'->RAt B' g ws p' (30-(n:Int)) L H'->ws.drop p'=r->F2.FormAt c B' f y->Q (.ref y) H')
def ok_behind {C:Ad} {c:F2.Cs} {n k:Nat} (hk:4<=k) (d:zB K mg "read_behind_bracket" yd ["reading"]) (rC:RCls K C) (NW:OkM P w K mg base CX0 2 C "next_word" ["self"] (spNW C)) (SG:Ok P w K mg base CX0 1 "is_sign" ["word"] spSgn) (NM:Ok P w K mg base CX0 2 "is_name" ["word"] spNm) (RP:Ok P w K mg base CX0 (k+2) "read_pair" ["reading","sign"] (spPa C c n)) (RCH:Ok P w K mg base CX0 (k+2) "read_choice" ["reading"] (spCh C c n)) (RCA:Ok P w K mg base CX0 (k+2) "read_call" ["reading","name"] (spCa C c n)) (RAT:Ok P w K mg base CX0 (k+1) "read_at" ["reading"] (spAt C c n)) (RSH:Ok P w K mg base CX0 5 "read_shifted" ["reading"] (spSh C c)):Ok P w K mg base CX0 (k+3) "read_behind_bracket" ["reading"] (spBe C c n):=by
 obtain ⟨f,fd,m,F,bd⟩:=d;refine ⟨f,fd,m,F.kp,bd,F.ok sc_read_behind_bracket (by rintro vs H Q E ⟨_,_,_,_,_,_,_,_,e,_⟩;rw [e];rfl) λcdv A outer s H vs Q E hr h=>?_⟩;obtain ⟨g,B,L,ws,p,R,fm,r,rfl,rfl,A1,RA,en,wo,q⟩:=h;have hrk:Room (k+2) _:=hr;have hrk1:Room (k+1) _:=hr.mono (by omega);have hr5:Room 5 _:=hr.mono (by omega);have hr2:Room 2 _:=hr.mono (by omega);have hr1:Room 1 _:=hr.mono (by omega);have cC:=rC.c;have nd:=sc_read_behind_bracket.nd
 obtain ⟨x,r0,ew⟩:∃ x r0,ws.drop p=x::r0:=by
  cases hd:ws.drop p with
  | nil=>rw [hd] at en;cases en
  | cons y l=>exact ⟨y,l,rfl⟩
 have mx:x.length<=50000:=wo x (List.mem_of_mem_drop (show x∈ws.drop p by rw [ew];exact q1z));rw [ew] at en;refine ⟨_,(zb (zq (i:=1) nd rfl (Or.inl rfl) (xZ NW cC hr2 zE (pv 0)))
   (zb (zC (zG (zx SG hr1 (by rfl) zE (za (pv 1) zc))) (ze (zi (zx RP hrk (by rfl) zE (za (pv 0) (za (pv 1) zc))))) zh)
   (zb (zC (zm zU (pv 1) zk (zu _)) (ze (zi (zx RCH hrk (by rfl) zE (za (pv 0) zc)))) zh)
   (zb (zC (zG (zx NM hr2 (by rfl) zE (za (pv 1) zc))) (ze (zi (zx RCA hrk (by rfl) zE (za (pv 0) (za (pv 1) zc))))) zh)
   (zb (zC (y6 (zm zU (pv 1) zk (zu _)) (yP (zm YU (zo (pv 0) rfl) xi (zu _)))).pt (ze (zi (zx RAT hrk1 (by rfl) zE (za (pv 0) zc)))) zh)
   (zb (zC (y6 (zm zU (pv 1) zk (zu _)) (yP (zm YU (zo (pv 0) rfl) xi (zu _)))).pt (ze (zi (zx RSH hr5 (by rfl) zE (za (pv 0) zc)))) zh)
   zV)))))),?_⟩
 refine ⟨_,rfl,g.r,g.dx,_,rfl,A1.h.get 0 rfl,rfl,g,B,L,ws,p,_,x,r0,rfl,rfl,A1,ew,λH1 A2 er=>?_⟩;subst er;have en:(if x∈signsL then (yJ (zX R n) 2 (ws.drop (p+1))).bind λy=>(.ok (.pair x (y.1.getD 0 .here) (y.1.getD 1 .here),y.2):Pr F2.Fm)
  else if x="if" then (yJ (zX R n) 3 (ws.drop (p+1))).bind λy=>.ok (.cho (y.1.getD 0 .here) (y.1.getD 1 .here) (y.1.getD 2 .here),y.2)
  else if Zz x=true then match plc x (R.heads.map Prod.fst) with
   | some i=>(yJ (zX R n) (R.heads.getD i ("",0)).2 (ws.drop (p+1))).bind λy=>.ok (.call i (Xb y.1),y.2)
   | none=>.error .noName
  else if x="at"/\R.own=none then (pRow R (ws.drop (p+1))).bind λx=>(zX R n x.2).bind λy=>.ok (.at' x.1 y.1,y.2)
  else if x="shift"/\R.own=none then (pRow R (ws.drop (p+1))).bind λx=>(pNum (-400) 400 x.2).bind λy=>(pNum (-9223372036854775808) 9223372036854775807 y.2).bind λz=>.ok (.shi x.1 y.1 z.1,z.2)
  else .error .bad)=.ok (fm,r):=en
 refine ⟨_,rfl,x,rfl,_,rfl,?_⟩;by_cases hs:x∈signsL
 ·rw [decide_eq_true hs]
  rw [if_pos hs] at en;obtain ⟨y,e1,e2⟩:=xH en;cases e2;exact zP ⟨_,rfl,_,rfl,g,B,L,ws,p+1,R,x,y.1,y.2,rfl,rfl,A2,RA,e1,wo,q⟩
 rw [decide_eq_false hs];rw [if_neg hs] at en;refine zH ⟨_,rfl,rfl,_,rfl,?_⟩;by_cases hi:x="if"
 ·rw [if_pos hi] at en
  obtain ⟨y,e1,e2⟩:=xH en;cases e2;rw [decide_eq_true (congrArg V.str hi)];exact zP ⟨_,rfl,g,B,L,ws,p+1,R,y.1,y.2,rfl,rfl,A2,RA,e1,wo,q⟩
 rw [if_neg hi] at en;rw [decide_eq_false (λz=>hi (V.str.inj z))];refine zH ⟨_,rfl,x,rfl,Nat.le_trans mx (by decide),λJ sJ=>⟨_,rfl,?_⟩⟩;obtain ⟨B2,sB,A3⟩:=A2.over sJ;have RA2:=RA.same sB;have q2:∀ B' H' p' y,Same B2 B'->RAt B' g ws p' (30-(n:Int)) L H'->ws.drop p'=r->F2.FormAt c B' fm y->Q (.ref y) H':=λB' H' p' y s=>q B' H' p' y (sB.trans s);by_cases hn:Zz x=true
 ·rw [if_pos hn] at en
  rw [hn]
  cases hp:plc x (R.heads.map Prod.fst) with
  | none=>rw [hp] at en;cases en
  | some i =>
   rw [hp] at en;obtain ⟨y,e1,e2⟩:=xH en;cases e2
   have hm:(R.heads.getD i ("",0)).2<=100:=by
    have il:i<R.heads.length:=by have:=plc_lt hp;rwa [Jj] at this
    have:=RA.m _ (List.getElem_mem il);rw [q1x,List.getElem?_eq_getElem il];exact Nat.le_trans this (by decide)
   exact zP ⟨_,rfl,_,rfl,g,B2,L,ws,p+1,R,x,i,y.1,y.2,rfl,rfl,A3,RA2,hp,hm,e1,wo,q2⟩
 rw [if_neg hn] at en;rw [Bool.eq_false_iff.mpr hn];have hx:=A3.h.get 0 rfl
 have ho:decide (g.ov=V.non)=decide (R.own=none):=by
  rcases RA.o with ⟨a,b⟩ | ⟨o,oa,a,b,_⟩
  ·rw [a,b];rfl
  ·rw [a,b];rfl
 refine zH ⟨_,rfl,rfl,_,rfl,?_⟩;by_cases ha:x="at"/\R.own=none
 ·rw [if_pos ha] at en
  rw [decide_eq_true (congrArg V.str ha.1)];refine zP ⟨_,rfl,g.r,g.C,g.dx,_,_,rfl,hx,rC.c,rC.n4,rfl,rfl,_,rfl,?_⟩;rw [ho,decide_eq_true ha.2];obtain ⟨y,e1,e2⟩:=xH en;obtain ⟨z,e3,e4⟩:=xH e2;cases e4;exact zP ⟨_,rfl,g,B2,L,ws,p+1,R,y.1,z.1,y.2,z.2,rfl,rfl,A3,RA2,e1,e3,wo,q2⟩
 rw [if_neg ha] at en
 have hsh:x="shift"/\R.own=none:=by
  by_cases hh:x="shift"/\R.own=none
  ·exact hh
  ·rw [if_neg hh] at en;cases en
 rw [if_pos hsh] at en;rw [decide_eq_false (λz=>by cases (V.str.inj z).symm.trans hsh.1)];refine zH (zH ⟨_,rfl,rfl,_,rfl,?_⟩);rw [decide_eq_true (congrArg V.str hsh.1)];refine zP ⟨_,rfl,g.r,g.C,g.dx,_,_,rfl,hx,rC.c,rC.n4,rfl,rfl,_,rfl,?_⟩;rw [ho,decide_eq_true hsh.2];obtain ⟨y,e1,e2⟩:=xH en;obtain ⟨z,e3,e4⟩:=xH e2;obtain ⟨u,e5,e6⟩:=xH e4;cases e6;exact zP ⟨_,rfl,g,B2,L,ws,p+1,_,R,y.1,z.1,u.1,y.2,z.2,u.2,rfl,rfl,A3,RA2,e1,e3,e5,wo,q2⟩
inductive spBr (C:Ad) (c:F2.Cs) (n:Nat) (vs:Jo) (H:Hp) (Q:VK) (_:XK):Prop
 | mk (g:Rg) (B:Hp) (L:Jn) (ws:Jg) (p:Nat) (R:Rdg) (f:F2.Fm) (r0 r:Jg) (_:vs=[.ref g.r]) (_:g.C=C) (_:RAt B g ws p (30-((n+1:Nat):Int)) L H) (_:RdAt B g R) (_:yF R (zX R n) (ws.drop p)=.ok (f,r0)) (h4':pWord ")" r0=.ok ((),r)) (_:YW ws) (_:∀ B' H' p' y,Same B B'->RAt B' g ws p' (30-((n+1:Nat):Int)) L H'->ws.drop p'=r->F2.FormAt c B' f y->Q (.ref y) H')
def zer {C:Ad} {c:F2.Cs} {n k:Nat} {t1:Tok} (hk:4<=k) (d:zB K mg "read_bracket" yW ["reading"]) (rC:RCls K C) (hMB:mg "MOST_BRACKETS"=some (.int 30 t1)) (RW:Ok P w K mg base CX0 3 "read_word" ["reading","wanted"] (spRW C)) (BB:Ok P w K mg base CX0 k "read_behind_bracket" ["reading"] (spBe C c n)):Ok P w K mg base CX0 (k+1) "read_bracket" ["reading"] (spBr C c n):=by
 obtain ⟨f,fd,m,F,bd⟩:=d;refine ⟨f,fd,m,F.kp,bd,F.ok sc_read_bracket (by rintro vs H Q E ⟨_,_,_,_,_,_,_,_,_,e,_⟩;rw [e];rfl) λcdv A outer s H vs Q E hr h=>?_⟩;obtain ⟨g,B,L,ws,p,R,fm,r0,r,rfl,rfl,A1,RA,en,ec,wo,q⟩:=h;have hrk:Room k _:=hr;have hr3:Room 3 _:=hr.mono (by omega);have nd:=sc_read_bracket.nd;have hx:=A1.h.get 0 rfl;refine ⟨_,(zb (zC (zm zU (zo (pv 0) rfl) (yE hMB) (zu _)) zV zh)
   (zb (zR (pv 0) (zA yI (zo (pv 0) rfl) zd) rfl)
   (zb (zq (i:=1) nd rfl (Or.inl rfl) (zx BB hrk (by rfl) zE (za (pv 0) zc)))
   (zb (zY (zx RW hr3 (by rfl) zE (za (pv 0) (za zk zc))))
   (zb (zR (pv 0) (zA ZL (zo (pv 0) rfl) zd) rfl)
   (ze (zi (pv 1)))))))),?_⟩
 refine ⟨_,rfl,g.r,g.C,g.dx,_,_,rfl,hx,rC.c,rC.n6,rfl,rfl,_,rfl,?_⟩;rw [decide_eq_false (λz=>by have:=V.int.inj z;omega)];refine zH ⟨_,rfl,g.r,g.C,g.dx,_,_,rfl,hx,rC.c,rC.n6,rfl,_,_,rfl,rfl,_,rfl,g.r,g.C,g.dx,_,rfl,hx,rC.c,rC.n6,(by show 7<1000;decide),?_⟩;have e1:(30:Int)-((n+1:Nat):Int)+1=30-(n:Int):=by omega
 have A2:RAt B g ws p (30-(n:Int)) L (upd H g.r (g.o p ((30:Int)-((n+1:Nat):Int)+1))):=by
  rw [e1];exact ⟨A1.h.put 0 rfl,A1.w,A1.l⟩
 refine ⟨_,rfl,g,B,L,ws,p,R,fm,r0,rfl,rfl,A2,RA,en,wo,λB' H' p' y sB A3 er fy=>?_⟩
 obtain ⟨rfl⟩:r0=(")":Str)::r:=by
  cases r0 with
  | nil=>cases ec
  | cons z l =>
   have ec:(if z=")" then .ok ((),l) else .error .bad:Pr Unit)=.ok ((),r):=ec;by_cases hz:z=")"
   ·rw [if_pos hz] at ec;cases ec;rw [hz]
   ·rw [if_neg hz] at ec;cases ec
 refine ⟨_,rfl,g,B',L,ws,p',_,")",r,rfl,rfl,A3,er,λH2 A4 er2=>?_⟩;have hx2:=A4.h.get 0 rfl;refine ⟨_,rfl,g.r,g.C,g.dx,_,_,rfl,hx2,rC.c,rC.n6,rfl,_,_,rfl,rfl,_,rfl,g.r,g.C,g.dx,_,rfl,hx2,rC.c,rC.n6,(by show 7<1000;decide),?_⟩;have e2:(30:Int)-(n:Int)-1=30-((n+1:Nat):Int):=by omega
 have A5:RAt B' g ws (p'+1) (30-((n+1:Nat):Int)) L (upd H2 g.r (g.o ((p'+1:Nat):Int) ((30:Int)-(n:Int)-1))):=by
  rw [e2];exact ⟨A4.h.put 0 rfl,A4.w,A4.l⟩
 exact ⟨_,rfl,q B' _ (p'+1) y sB A5 er2 fy⟩
def spNever:Sp:=λ_ _ _ _=>False
def ok_nevr {nm:Str} {ps N:Jg} {st:Stmt} {k:Nat} (d:zB K mg nm st ps) (sc:FnScope N ps (zg st)):Ok P w K mg base CX0 (k+1) nm ps spNever:=by
 obtain ⟨f,fd,m,F,b⟩:=d;exact ⟨f,fd,m,F.kp,b,F.ok sc (λ_ _ _ _ h=>h.elim) λ_ _ _ _ _ _ _ _ _ h=>h.elim⟩
def spBrN (C:Ad) (c:F2.Cs):Nat->Sp
 | 0=>spNever
 | n+1=>spBr C c n
def Y6 {C:Ad} {c:F2.Cs} {n k:Nat} (hk:3<=k) (d:zB K mg "read_form" Zd ["reading"]) (rC:RCls K C) (mN:MkN K c.here) (hHe:mg "Here"=some (.ref c.here)) (hNu:mg "Number"=some (.ref c.num)) (INu:OkI P w K mg base (CXe P w base) 1 c.num ["self","number"] (spI_Number c.num)) (NW:OkM P w K mg base CX0 2 C "next_word" ["self"] (spNW C)) (NM:Ok P w K mg base CX0 2 "is_name" ["word"] spNm) (NI:Ok P w K mg base CX0 3 "number_in" ["word"] spNi) (NF:Ok P w K mg base CX0 3 "named_form" ["reading","name"] (spNf C c)) (BR:Ok P w K mg base CX0 k "read_bracket" ["reading"] (spBrN C c n)):Ok P w K mg base CX0 (k+1) "read_form" ["reading"] (spFm C c n):=by
 obtain ⟨f,fd,m,F,bd⟩:=d;refine ⟨f,fd,m,F.kp,bd,F.ok sc_read_form (by rintro vs H Q E ⟨_,_,_,_,_,_,_,_,e,_⟩;rw [e];rfl) λcdv A outer s H vs Q E hr h=>?_⟩;obtain ⟨g,B,L,ws,p,R,fm,r,rfl,rfl,A1,RA,en,wo,q⟩:=h;have hrk:Room k _:=hr;have hr3:Room 3 _:=hr.mono (by omega);have hr2:Room 2 _:=hr.mono (by omega);have cC:=rC.c;have nd:=sc_read_form.nd
 obtain ⟨x,r0,ew⟩:∃ x r0,ws.drop p=x::r0:=by
  cases hd:ws.drop p with
  | nil=>rw [hd] at en;unfold zX at en;cases en
  | cons y l=>exact ⟨y,l,rfl⟩
 have mx:x.length<=50000:=wo x (List.mem_of_mem_drop (show x∈ws.drop p by rw [ew];exact q1z));rw [ew] at en;unfold zX at en;refine ⟨_,(zb (zq (i:=1) nd rfl (Or.inl rfl) (xZ NW cC hr2 zE (pv 0)))
   (zb (zC (zm zU (pv 1) zk (zu _)) (ze (zi (zx BR hrk (by rfl) zE (za (pv 0) zc)))) zh)
   (zb (zC (zm zU (pv 1) zk (zu _)) (ze (zi (pe_makeN mN (by rfl) hHe))) zh)
   (zb (zC (zG (zx NM hr2 (by rfl) zE (za (pv 1) zc))) (ze (zi (zx NF hr3 (by rfl) zE (za (pv 0) (za (pv 1) zc))))) zh)
   (zb (zq (i:=2) nd rfl (Or.inl rfl) (zx NI hr3 (by rfl) zE (za (pv 1) zc)))
   (zb (zC (zm YU (pv 2) xi (zu _)) zV zh)
   (ze (zi (Zv INu hNu hr2 (by rfl) z9 (za (pv 2) zc)))))))))),?_⟩
 refine ⟨_,rfl,g.r,g.dx,_,rfl,A1.h.get 0 rfl,rfl,g,B,L,ws,p,_,x,r0,rfl,rfl,A1,ew,λH1 A2 er=>?_⟩;subst er;refine ⟨_,rfl,rfl,_,rfl,?_⟩;by_cases hb:x="("
 ·rw [if_pos hb] at en
  rw [decide_eq_true (congrArg V.str hb)]
  cases n with
  | zero=>cases en
  | succ n =>
   obtain ⟨y,e1,e2⟩:=xH en;obtain ⟨z,e3,e4⟩:=xH e2;cases e4;exact zP ⟨_,rfl,g,B,L,ws,p+1,R,y.1,y.2,z.2,rfl,rfl,A2,RA,e1,e3,wo,q⟩
 rw [if_neg hb] at en;rw [decide_eq_false (λz=>hb (V.str.inj z))];refine zH ⟨_,rfl,rfl,_,rfl,?_⟩;by_cases hh:x="here"
 ·rw [if_pos hh] at en
  cases en;rw [decide_eq_true (congrArg V.str hh)];refine zP λy dx nx ndx ne=>?_;obtain ⟨B2,s2,e4,A3⟩:=A2.made nx ndx ne (λ_ _ _ e=>e) zr;exact q B2 _ (p+1) y s2 A3 rfl ⟨dx,e4⟩
 rw [if_neg hh] at en;rw [decide_eq_false (λz=>hh (V.str.inj z))];refine zH ⟨_,rfl,x,rfl,Nat.le_trans mx (by decide),λJ sJ=>⟨_,rfl,?_⟩⟩;obtain ⟨B2,sB,A3⟩:=A2.over sJ;have RA2:=RA.same sB;by_cases hn:Zz x=true
 ·rw [if_pos hn] at en
  rw [hn];obtain ⟨y,e1,e2⟩:=xH en;cases e2;exact zP ⟨_,rfl,_,rfl,g,B2,L,ws,p+1,_,R,x,fm,rfl,rfl,A3,RA2,e1,λB3 H3 z s3 A4 fz=>q B3 H3 _ z (sB.trans s3) A4 rfl fz⟩
 rw [if_neg hn] at en;rw [Bool.eq_false_iff.mpr hn];refine zH ⟨_,rfl,x,rfl,Nat.le_trans mx (by decide),λJ2 sJ2=>?_⟩;obtain ⟨B3,sB3,A4⟩:=A3.over sJ2
 cases hi:YJ x with
 | none=>rw [hi] at en;cases en
 | some i =>
  rw [hi] at en;cases en;refine ⟨_,rfl,rfl,_,rfl,?_⟩;rw [show decide (numV (some i)=V.non)=false from decide_eq_false (λz=>by cases z)];refine zH ⟨_,rfl,λy dx nx ndx ne=>⟨y,dx,_,rfl,zr,λH2 k2 ex=>?_⟩⟩;obtain ⟨B4,s4,e4,A5⟩:=A4.made nx ndx ne k2 ex;exact ⟨rfl,q B4 H2 (p+1) y (sB.trans (sB3.trans s4)) A5 rfl ⟨dx,e4⟩⟩
structure Dg where
 C:Ad
 d:Ad
 dd:Ad
 ra:Ad
 la:Ad
 ha:Ad
 fa:Ad
 ta:Ad
 va:Ad
 na:Ad
abbrev Dg.o (g:Dg):HO:=.ins g.C g.dd [("rows",.ref g.ra),("lengths",.ref g.la),("heads",.ref g.ha),("functions",.ref g.fa),("tills",.ref g.ta),("levels",.ref g.va),("lines",.ref g.na)]
structure DCls (K:Fg) (C:Ad):Prop where
 c:Cls K C
 n0:NoAttr K C "rows"
 n1:NoAttr K C "lengths"
 n2:NoAttr K C "heads"
 n3:NoAttr K C "functions"
 n4:NoAttr K C "tills"
 n5:NoAttr K C "levels"
 n6:NoAttr K C "lines"
structure Dr where
 rows:Jg
 lens:Jc
 heads:List (Str×Nat)
 fns:List F2.Fn
abbrev Dg.L (g:Dg) (ts us:Jh) (D:Dr):Jn:=[(g.ra,.dK (zS 0 D.rows)),(g.la,.lst (D.lens.map V.int)),(g.ha,.dK (ye ts D.heads)),(g.fa,.lst (us.map V.ref))]
structure DrAt (B:Hp) (c:F2.Cs) (g:Dg) (D:Dr) (ts us:Jh):Prop where
 d:B g.d=some g.o
 tl:ts.length=D.heads.length
 t:∀ (i:Nat) t,ts[i]?=some t->∃ x,D.heads[i]?=some x/\B t=some (.tup [.int i,.int x.2])
 ul:us.length=D.fns.length
 u:∀ (i:Nat) u,us[i]?=some u->∃ fn y,D.fns[i]?=some fn/\B u=some (.tup [.int fn.1,.ref y])/\F2.FormAt c B fn.2 y
 hf:D.heads.length=D.fns.length
 rl:D.rows.length=D.lens.length
 r12:D.rows.length<=12
 f8:D.fns.length<=8
 m:∀ x∈D.heads,x.2<=6
def DrAt.same {B B':Hp} {c:F2.Cs} {g:Dg} {D:Dr} {ts us:Jh} (h:DrAt B c g D ts us) (s:Same B B'):DrAt B' c g D ts us:=by
 refine ⟨s _ _ h.d,h.tl,λi t e=>?_,h.ul,λi u e=>?_,h.hf,h.rl,h.r12,h.f8,h.m⟩
 ·obtain ⟨x,a,b⟩:=h.t i t e
  exact ⟨x,a,s _ _ b⟩
 ·obtain ⟨fn,y,a,b,d⟩:=h.u i u e
  exact ⟨fn,y,a,s _ _ b,d.same s⟩
theorem Xv (x:Str):∀ (l:Jg) (i:Nat),zS i (l++[x])=zS i l++[(.inr x,.int ((i+l.length:Nat):Int))]
 | [],i=>rfl
 | y::l,i=>by
  show _::zS (i+1) (l++[x])=_::(zS (i+1) l++_);rw [Xv x l (i+1)];congr 4;show V.int ((i+1+l.length:Nat):Int)=V.int ((i+(l.length+1):Nat):Int);congr 2;omega
theorem xj:∀ (l:Jg) (i:Nat),(zS i l).length=l.length
 | [],_=>rfl
 | _::l,i=>congrArg (·+1) (xj l (i+1))
def zac {x:Str} {l:Jg} (h:plc x l=none):yX (zS 0 l) (.inr x) (.int l.length)=zS 0 (l++[x]):=by
 rw [Y1 _ (by rw [yL,h];rfl),Xv,Nat.zero_add]
theorem YI {C:Ad} {c:F2.Cs} {t1:Tok} (dF:zB K mg "read_form" Zd ["reading"]) (dFs:zB K mg "read_forms" xq ["reading","many"]) (dP:zB K mg "read_pair" Zc ["reading","sign"]) (dC:zB K mg "read_choice" y8 ["reading"]) (dK':zB K mg "read_call" Ze ["reading","name"]) (dA:zB K mg "read_at" ZN ["reading"]) (dBB:zB K mg "read_behind_bracket" yd ["reading"]) (dBr:zB K mg "read_bracket" yW ["reading"]) (rC:RCls K C) (mN:MkN K c.here) (hlen:mg "len"=none) (hMB:mg "MOST_BRACKETS"=some (.int 30 t1)) (hHe:mg "Here"=some (.ref c.here)) (hNu:mg "Number"=some (.ref c.num)) (hPa:mg "Pair"=some (.ref c.pair)) (hCo:mg "Choice"=some (.ref c.cho)) (hCa:mg "Call"=some (.ref c.call)) (hAt:mg "At"=some (.ref c.at'))
  (INu:OkI P w K mg base (CXe P w base) 1 c.num ["self","number"] (spI_Number c.num)) (IP:OkI P w K mg base (CXe P w base) 1 c.pair ["self","sign","left","right"] (spI_Pair c.pair)) (IC:OkI P w K mg base (CXe P w base) 1 c.cho ["self","test","left","right"] (spI_Choice c.cho)) (ICa:OkI P w K mg base (CXe P w base) 1 c.call ["self","at","handed"] (spI_Call K c.call)) (IA:OkI P w K mg base (CXe P w base) 1 c.at' ["self","row","place"] (spI_At c.at'))
  (NW:OkM P w K mg base CX0 2 C "next_word" ["self"] (spNW C)) (NM:Ok P w K mg base CX0 2 "is_name" ["word"] spNm) (NI:Ok P w K mg base CX0 3 "number_in" ["word"] spNi) (NF:Ok P w K mg base CX0 3 "named_form" ["reading","name"] (spNf C c)) (SG:Ok P w K mg base CX0 1 "is_sign" ["word"] spSgn) (RW:Ok P w K mg base CX0 3 "read_word" ["reading","wanted"] (spRW C)) (RR:Ok P w K mg base CX0 4 "read_row" ["reading"] (spRo C)) (RSH:Ok P w K mg base CX0 5 "read_shifted" ["reading"] (spSh C c)):∀ n,Ok P w K mg base CX0 (5*n+4) "read_form" ["reading"] (spFm C c n)
 | 0=>Y6 (k:=3) (by decide) dF rC mN hHe hNu INu NW NM NI NF (ok_nevr (k:=2) dBr sc_read_bracket)
 | n+1=>by
  have RF:=YI dF dFs dP dC dK' dA dBB dBr rC mN hlen hMB hHe hNu hPa hCo hCa hAt INu IP IC ICa IA NW NM NI NF SG RW RR RSH n;have FS:=zay dFs hlen RF;have RP:=zcq (by omega) dP hPa IP FS;have RCH:=X9 (by omega) dC hCo IC FS;have RCA:=zcs (by omega) dK' rC hCa ICa FS;have RAT:=zej (by omega) dA hAt IA RR RF;have BB:=ok_behind (by omega) dBB rC NW SG NM RP RCH RCA RAT RSH;have BR:=zer (by omega) dBr rC hMB RW BB;exact Y6 (k:=5*n+8) (by omega) dF rC mN hHe hNu INu NW NM NI NF BR
inductive spWT (vs:Jo) (H:Hp) (Q:VK) (_:XK):Prop
 | mk (g:Dg) (r:V) (_:vs=[.ref g.d,r]) (_:H g.d=some g.o) (_:H g.ta=some (.lst [])) (_:DCls K g.C) (_:Q .non H)
def X7 (d:zB K mg "refuse_within_till" yC ["draft","reading"]) (hlen:mg "len"=none):Ok P w K mg base CX0 1 "refuse_within_till" ["draft","reading"] (spWT (K:=K)):=by
 obtain ⟨f,fd,m,F,bd⟩:=d;refine ⟨f,fd,m,F.kp,bd,F.ok sc_refuse_within_till (by rintro vs H Q E ⟨_,_,e,_⟩;rw [e];rfl) λcdv A outer s H vs Q E hr h=>?_⟩;obtain ⟨g,r,rfl,hx,ht,DC,q⟩:=h;have nd:=sc_refuse_within_till.nd;refine ⟨_,(ze (zC (zm xI (zf zj (by rfl) hlen PySem.boot_len (za (zo (pv 0) rfl) zc)) zd (zu _)) zV zh)),?_⟩;refine ⟨_,rfl,g.d,g.C,g.dd,_,_,rfl,hx,DC.c,DC.n4,rfl,g.ta,_,rfl,.inl (SqL.of ht),_,_,rfl,rfl,_,rfl,?_⟩;exact zH q
inductive spRT (C:Ad) (vs:Jo) (H:Hp) (Q:VK) (_:XK):Prop
 | mk (g:Rg) (p b:Int) (nm:Str) (k1 k2:Jm) (_:vs=[.ref g.r,.str nm]) (_:g.C=C) (_:H g.r=some (g.o p b)) (_:H g.ra=some (.dK k1)) (_:H g.ha=some (.dK k2)) (_:zZ k1 (.inr nm)=none) (_:zZ k2 (.inr nm)=none) (_:Q .non H)
def ok_taken {C:Ad} (d:zB K mg "refuse_taken" xn ["reading","name"]) (rC:RCls K C):Ok P w K mg base CX0 1 "refuse_taken" ["reading","name"] (spRT C):=by
 obtain ⟨f,fd,m,F,bd⟩:=d;refine ⟨f,fd,m,F.kp,bd,F.ok sc_refuse_taken (by rintro vs H Q E ⟨_,_,_,_,_,_,e,_⟩;rw [e];rfl) λcdv A outer s H vs Q E hr h=>?_⟩;obtain ⟨g,p,b,nm,k1,k2,rfl,rfl,hx,h1,h2,e1,e2,q⟩:=h;have nd:=sc_refuse_taken.nd;have hu:=Nat.lt_of_le_of_lt (Nat.add_le_add_left (show 1<=64 by decide) _) hr.units;have g1:DGet H g.ra (.str nm) none:=by rw [← e1];exact DGet.k (k:=.inr nm) h1
 have g2:DGet H g.ha (.str nm) none:=by rw [← e2];exact DGet.k (k:=.inr nm) h2
 refine ⟨_,(ze (zC (z8 (Z4 (X6 hu (pv 1) (zo (pv 0) rfl)) rfl) (zT (Z4 (X6 hu (pv 1) (zo (pv 0) rfl)) rfl))).pt zV zh)),?_⟩;refine ⟨_,rfl,_,rfl,g.r,g.C,g.dx,_,_,rfl,hx,rC.c,rC.n2,rfl,g.ra,_,rfl,g1,_,rfl,?_⟩;refine zH ⟨_,rfl,_,rfl,g.r,g.C,g.dx,_,_,rfl,hx,rC.c,rC.n3,rfl,g.ha,_,rfl,g2,_,rfl,?_⟩;exact zH q
end K22
namespace F2
open PySem L2
def Fms.toL:Fms->List Fm
 | .nil=>[]
 | .cons f r=>f::r.toL
def partsF:Fm->List Fm
 | .at' _ p=>[p]
 | .pair _ l r=>[l,r]
 | .cho t l r=>[t,l,r]
 | .call _ gs=>gs.toL
 | _=>[]
mutual
def nodes:Fm->Nat
 | .at' _ p=>nodes p+1
 | .pair _ l r=>nodes l+nodes r+1
 | .cho t l r=>nodes t+nodes l+nodes r+1
 | .call _ gs=>nodesL gs+1
 | _=>1
def nodesL:Fms->Nat
 | .nil=>0
 | .cons f r=>nodes f+nodesL r
end
theorem nodesL_eq:∀ gs:Fms,nodesL gs=(gs.toL.map nodes).sum
 | .nil=>by unfold nodesL;rfl
 | .cons f r=>by
  unfold nodesL;rw [nodesL_eq r];rfl
def nodes_eq (F:Fm):nodes F=((partsF F).map nodes).sum+1:=by
  cases F with
  | num n=>unfold nodes;rfl
  | here=>unfold nodes;rfl
  | cell r=>unfold nodes;rfl
  | shi r b o=>unfold nodes;rfl
  | loc a=>unfold nodes;rfl
  | at' r p=>(conv=>lhs;unfold nodes);show _=nodes p+0+1;omega
  | pair s l r=>(conv=>lhs;unfold nodes);show _=nodes l+(nodes r+0)+1;omega
  | cho t l r=>(conv=>lhs;unfold nodes);show _=nodes t+(nodes l+(nodes r+0))+1;omega
  | call a gs=>(conv=>lhs;unfold nodes);rw [nodesL_eq];rfl
def clsOf (c:Cs):Fm->Ad
 | .num _=>c.num
 | .here=>c.here
 | .cell _=>c.cell
 | .shi _ _ _=>c.shi
 | .loc _=>c.loc
 | .at' _ _=>c.at'
 | .pair _ _ _=>c.pair
 | .cho _ _ _=>c.cho
 | .call _ _=>c.call
def PartsAt (c:Cs) (H:Hp) (F:Fm) (x:Ad) (Ps:List (Fm×Ad)):Prop:=∃ dx fl,H x=some (.ins (clsOf c F) dx fl)/\match F with
 | .at' r p=>∃ y,fl=([("row",.int r),("place",.ref y)]:List (Str×V))/\Ps=[(p,y)]
 | .pair s l r=>∃ y z,fl=([("sign",.str s),("left",.ref y),("right",.ref z)]:List (Str×V))/\Ps=[(l,y),(r,z)]
 | .cho t l r=>∃ u y z,fl=([("test",.ref u),("left",.ref y),("right",.ref z)]:List (Str×V))/\Ps=[(t,u),(l,y),(r,z)]
 | .call a gs=>∃ l,fl=([("at",.int a),("handed",.ref l)]:List (Str×V))/\H l=some (.lst (Ps.map λp=>V.ref p.2))
 | _=>Ps=[]
def PartsAt.same {c:Cs} {H H':Hp} {F:Fm} {x:Ad} {Ps:List (Fm×Ad)} (h:PartsAt c H F x Ps) (s:Same H H'):PartsAt c H' F x Ps:=by
 obtain ⟨dx,fl,a,b⟩:=h;refine ⟨dx,fl,s _ _ a,?_⟩
 cases F with
 | call a gs=>obtain ⟨l,e,e2⟩:=b;exact ⟨l,e,s _ _ e2⟩
 | num n=>exact b
 | here=>exact b
 | cell r=>exact b
 | shi r b' o=>exact b
 | loc a=>exact b
 | at' r p=>exact b
 | pair s l r=>exact b
 | cho t l r=>exact b
theorem XC {c:Cs} {H:Hp}:∀ {gs:Fms} {ys:Jh},FormsAt c H gs ys->∃ Ps:List (Fm×Ad),Ps.map Prod.fst=gs.toL/\Ps.map Prod.snd=ys/\∀ p∈Ps,FormAt c H p.1 p.2
 | .nil,ys,h=>by cases (show ys=[] from h);exact ⟨[],rfl,rfl,λp hp=>nomatch hp⟩
 | .cons f r,ys,h=>by
  obtain ⟨y,t,rfl,h1,h2⟩:=h;obtain ⟨Ps,a,b,d⟩:=XC h2;refine ⟨(f,y)::Ps,by rw [List.map_cons,a];rfl,by rw [List.map_cons,b],λp hp=>?_⟩;rcases List.mem_cons.mp hp with rfl | hp
  ·exact h1
  ·exact d p hp
def parts_at {c:Cs} {H:Hp} {F:Fm} {x:Ad} (h:FormAt c H F x):∃ Ps,PartsAt c H F x Ps/\Ps.map Prod.fst=partsF F/\∀ p∈Ps,FormAt c H p.1 p.2:=by
 cases F with
 | num n=>obtain ⟨dx,e⟩:=h;exact ⟨[],⟨dx,_,e,rfl⟩,rfl,λp hp=>nomatch hp⟩
 | here=>obtain ⟨dx,e⟩:=h;exact ⟨[],⟨dx,_,e,rfl⟩,rfl,λp hp=>nomatch hp⟩
 | cell r=>obtain ⟨dx,e⟩:=h;exact ⟨[],⟨dx,_,e,rfl⟩,rfl,λp hp=>nomatch hp⟩
 | shi r b o=>obtain ⟨dx,e⟩:=h;exact ⟨[],⟨dx,_,e,rfl⟩,rfl,λp hp=>nomatch hp⟩
 | loc a=>obtain ⟨dx,e⟩:=h;exact ⟨[],⟨dx,_,e,rfl⟩,rfl,λp hp=>nomatch hp⟩
 | at' r p =>
  obtain ⟨dx,y,e,f⟩:=h;exact ⟨[(p,y)],⟨dx,_,e,y,rfl,rfl⟩,rfl,λq hq=>by cases List.mem_singleton.mp hq;exact f⟩
 | pair s l r =>
  obtain ⟨dx,y,z,e,f,g⟩:=h;refine ⟨[(l,y),(r,z)],⟨dx,_,e,y,z,rfl,rfl⟩,rfl,λq hq=>?_⟩;simp only [List.mem_cons,List.not_mem_nil,or_false] at hq;rcases hq with rfl | rfl
  ·exact f
  ·exact g
 | cho t l r =>
  obtain ⟨dx,u,y,z,e,d,f,g⟩:=h;refine ⟨[(t,u),(l,y),(r,z)],⟨dx,_,e,u,y,z,rfl,rfl⟩,rfl,λq hq=>?_⟩;simp only [List.mem_cons,List.not_mem_nil,or_false] at hq;rcases hq with rfl | rfl | rfl
  ·exact d
  ·exact f
  ·exact g
 | call a gs =>
  obtain ⟨dx,l,ys,e,el,f⟩:=h;obtain ⟨Ps,p1,p2,p3⟩:=XC f;refine ⟨Ps,⟨dx,_,e,l,rfl,?_⟩,p1,p3⟩;rw [el,← p2,List.map_map];rfl
end F2
namespace K22
open PySem L2 FM
structure KForm (K:Fg) (c:F2.Cs) (C:Ad) (bA bP bO bK:Bool):Prop where
 cl:Cls K C
 k1:PySem.W.findIn K (.ref C) "__class__"=some (some (.builtin "object.__class__"))
 k2:PySem.W.specialIn K (.builtin "object.__class__") "__get__"=some (some (.builtin "getset_descriptor.__get__"))
 k3:PySem.W.takesIn K (.builtin "object.__class__")=some true
 k4:PySem.W.mroIn K C (.type "object")=some true
 a:PySem.W.kitOne K (.ref C) (.ref c.at')=some bA
 p:PySem.W.kitOne K (.ref C) (.ref c.pair)=some bP
 o:PySem.W.kitOne K (.ref C) (.ref c.cho)=some bO
 k:PySem.W.kitOne K (.ref C) (.ref c.call)=some bK
def KForm.ty {K:Fg} {c:F2.Cs} {C:Ad} {bA bP bO bK:Bool} (s:KForm K c C bA bP bO bK) {H:Hp} {x dx:Ad} {fl:List (Str×V)} (h:H x=some (.ins C dx fl)):TyX K H (.ref x) (.ref C):=.inl (.ins h s.cl s.k1 s.k2 s.k3 s.k4)
structure LooksK (K:Fg) (c:F2.Cs):Prop where
 num:KForm K c c.num false false false false
 here:KForm K c c.here false false false false
 cell:KForm K c c.cell false false false false
 shi:KForm K c c.shi false false false false
 loc:KForm K c c.loc false false false false
 at':KForm K c c.at' true false false false
 pair:KForm K c c.pair false true false false
 cho:KForm K c c.cho false false true false
 call:KForm K c c.call false false false true
 aP:NoAttr K c.at' "place"
 pL:NoAttr K c.pair "left"
 pR:NoAttr K c.pair "right"
 oT:NoAttr K c.cho "test"
 oL:NoAttr K c.cho "left"
 oR:NoAttr K c.cho "right"
 kH:NoAttr K c.call "handed"
 kA:NoAttr K c.call "at"
end K22
namespace F2
def isAt:Fm->Bool
 | .at' _ _=>true
 | _=>false
def isPair:Fm->Bool
 | .pair _ _ _=>true
 | _=>false
def isCho:Fm->Bool
 | .cho _ _ _=>true
 | _=>false
def isCall:Fm->Bool
 | .call _ _=>true
 | _=>false
end F2
namespace K22
open PySem L2 FM
def LooksK.of {K:Fg} {c:F2.Cs} (L:LooksK K c) (F:F2.Fm):KForm K c (F2.clsOf c F) (F2.isAt F) (F2.isPair F) (F2.isCho F) (F2.isCall F):=by
 cases F with
 | num n=>exact L.num
 | here=>exact L.here
 | cell r=>exact L.cell
 | shi r b o=>exact L.shi
 | loc a=>exact L.loc
 | at' r p=>exact L.at'
 | pair s l r=>exact L.pair
 | cho t l r=>exact L.cho
 | call a gs=>exact L.call
section
variable {P:Program} {w:World} {K:Fg} {mg:J0} {base:Heap}
inductive spParts (c:F2.Cs) (vs:Jo) (H:Hp) (Q:VK) (_:XK):Prop
 | mk (x:Ad) (F:F2.Fm) (Ps:List (F2.Fm×Ad)) (_:vs=[.ref x]) (_:F2.PartsAt c H F x Ps) (_:∀ H' l,Hd H [(l,.lst (Ps.map λp=>V.ref p.2))] H'->Q (.ref l) H')
def ok_parts {c:F2.Cs} (d:zB K mg "parts_of" ZV ["form"]) (hisi:mg "isinstance"=none) (hlist:mg "list"=none) (hAt:mg "At"=some (.ref c.at')) (hPa:mg "Pair"=some (.ref c.pair)) (hCo:mg "Choice"=some (.ref c.cho)) (hCa:mg "Call"=some (.ref c.call)) (L:LooksK K c):Ok P w K mg base (CXe P w base) 1 "parts_of" ["form"] (spParts c):=by
 obtain ⟨g,fd,m,F,b⟩:=d;refine ⟨g,fd,m,F.kp,b,F.okE zdd (by rintro vs H Q E ⟨_,_,_,e,_⟩;rw [e];rfl) λcdv A outer s H vs Q E hr h=>?_⟩;obtain ⟨x,G,Ps,rfl,⟨dx,fl,hx,hp⟩,q⟩:=h;refine ⟨_,(zb (zC (zG (zf zp (by rfl) hisi PyProof.Rows.boot_isinstance (za (pv 0) (za (zM hAt) zc)))) (ze (zi (zN (za (zo (pv 0) rfl) zc)))) zh)
   (zb (zC (zG (zf zp (by rfl) hisi PyProof.Rows.boot_isinstance (za (pv 0) (za (zM hPa) zc)))) (ze (zi (zN (za (zo (pv 0) rfl) (za (zo (pv 0) rfl) zc))))) zh)
   (zb (zC (zG (zf zp (by rfl) hisi PyProof.Rows.boot_isinstance (za (pv 0) (za (zM hCo) zc)))) (ze (zi (zN (za (zo (pv 0) rfl) (za (zo (pv 0) rfl) (za (zo (pv 0) rfl) zc)))))) zh)
   (zb (zC (zG (zf zp (by rfl) hisi PyProof.Rows.boot_isinstance (za (pv 0) (za (zM hCa) zc)))) (ze (zi (yH xG (by rfl) hlist PyProof.Rows.boot_list (za (zo (pv 0) rfl) zc)))) zh)
   (ze (zi (zN zc))))))),?_⟩
 by_cases hl:∃ C,KForm K c C false false false false/\H x=some (.ins C dx fl)/\Ps=[]
 ·obtain ⟨C,s,hx,e⟩:=hl
  refine ⟨_,rfl,_,_,.ref c.at',_,false,rfl,rfl,(λu r=>r),s.ty hx,s.a,false,rfl,zH ?_⟩;refine ⟨_,rfl,_,_,.ref c.pair,_,false,rfl,rfl,(λu r=>r),s.ty hx,s.p,false,rfl,zH ?_⟩;refine ⟨_,rfl,_,_,.ref c.cho,_,false,rfl,rfl,(λu r=>r),s.ty hx,s.o,false,rfl,zH ?_⟩;refine ⟨_,rfl,_,_,.ref c.call,_,false,rfl,rfl,(λu r=>r),s.ty hx,s.k,false,rfl,zH ?_⟩;exact ⟨(by show 0<=sizeLine;decide),λl nl=>q _ l (by subst e;exact Hd.base.new nl)⟩
 cases G with
 | num n=>exact absurd ⟨_,L.num,hx,hp⟩ hl
 | here=>exact absurd ⟨_,L.here,hx,hp⟩ hl
 | cell r=>exact absurd ⟨_,L.cell,hx,hp⟩ hl
 | shi r b o=>exact absurd ⟨_,L.shi,hx,hp⟩ hl
 | loc a=>exact absurd ⟨_,L.loc,hx,hp⟩ hl
 | at' r p =>
  obtain ⟨y,rfl,rfl⟩:=hp;refine ⟨_,rfl,_,_,.ref c.at',_,true,rfl,rfl,(λu r=>r),L.at'.ty hx,L.at'.a,true,rfl,zP ?_⟩;exact ⟨_,rfl,x,_,dx,_,.ref y,rfl,hx,L.at'.cl,L.aP,rfl,(by show 1<=sizeLine;decide),λl nl=>q _ l (Hd.base.new nl)⟩
 | pair s' l' r' =>
  obtain ⟨y,z,rfl,rfl⟩:=hp;refine ⟨_,rfl,_,_,.ref c.at',_,false,rfl,rfl,(λu r=>r),L.pair.ty hx,L.pair.a,false,rfl,zH ?_⟩;refine ⟨_,rfl,_,_,.ref c.pair,_,true,rfl,rfl,(λu r=>r),L.pair.ty hx,L.pair.p,true,rfl,zP ?_⟩;exact ⟨_,rfl,x,_,dx,_,.ref y,rfl,hx,L.pair.cl,L.pL,rfl,_,rfl,x,_,dx,_,.ref z,rfl,hx,L.pair.cl,L.pR,rfl,(by show 2<=sizeLine;decide),λl nl=>q _ l (Hd.base.new nl)⟩
 | cho t l' r' =>
  obtain ⟨u,y,z,rfl,rfl⟩:=hp;refine ⟨_,rfl,_,_,.ref c.at',_,false,rfl,rfl,(λu r=>r),L.cho.ty hx,L.cho.a,false,rfl,zH ?_⟩;refine ⟨_,rfl,_,_,.ref c.pair,_,false,rfl,rfl,(λu r=>r),L.cho.ty hx,L.cho.p,false,rfl,zH ?_⟩;refine ⟨_,rfl,_,_,.ref c.cho,_,true,rfl,rfl,(λu r=>r),L.cho.ty hx,L.cho.o,true,rfl,zP ?_⟩;exact ⟨_,rfl,x,_,dx,_,.ref u,rfl,hx,L.cho.cl,L.oT,rfl,_,rfl,x,_,dx,_,.ref y,rfl,hx,L.cho.cl,L.oL,rfl,_,rfl,x,_,dx,_,.ref z,rfl,hx,L.cho.cl,L.oR,rfl,(by show 3<=sizeLine;decide),λl nl=>q _ l (Hd.base.new nl)⟩
 | call a gs =>
  obtain ⟨hd,rfl,el⟩:=hp;refine ⟨_,rfl,_,_,.ref c.at',_,false,rfl,rfl,(λu r=>r),L.call.ty hx,L.call.a,false,rfl,zH ?_⟩;refine ⟨_,rfl,_,_,.ref c.pair,_,false,rfl,rfl,(λu r=>r),L.call.ty hx,L.call.p,false,rfl,zH ?_⟩;refine ⟨_,rfl,_,_,.ref c.cho,_,false,rfl,rfl,(λu r=>r),L.call.ty hx,L.call.o,false,rfl,zH ?_⟩;refine ⟨_,rfl,_,_,.ref c.call,_,true,rfl,rfl,(λu r=>r),L.call.ty hx,L.call.k,true,rfl,zP ?_⟩;exact ⟨_,rfl,x,_,dx,_,.ref hd,rfl,hx,L.call.cl,L.kH,rfl,hd,_,rfl,.inl (SqL.of el),λl nl=>q _ l (Hd.base.new nl)⟩
def SumP (Ps:List (F2.Fm×Ad)) (F:F2.Fm):Prop:=∀ (own φ:F2.Fm->Int),(∀ G,φ G=own G+((F2.partsF G).map φ).sum)->(Ps.map λp=>own p.1).sum=φ F
def HerP (Ps:List (F2.Fm×Ad)) (F:F2.Fm):Prop:=∀ R:F2.Fm->Prop,(∀ G,R G->∀ g∈F2.partsF G,R g)->R F->∀ p∈Ps,R p.1
inductive spWithin (c:F2.Cs) (vs:Jo) (H:Hp) (Q:VK) (_:XK):Prop
 | mk (x:Ad) (F:F2.Fm) (B:Hp) (_:vs=[.ref x]) (_:Same B H) (_:F2.FormAt c B F x) (_:F2.nodes F<=2000) (_:∀ H' l Ps,Hd H [(l,.lst (Ps.map λp=>V.ref p.2))] H'->(∀ p∈Ps,F2.FormAt c B p.1 p.2)->Ps.length=F2.nodes F->SumP Ps F->HerP Ps F->Q (.ref l) H')
def ok_within {c:F2.Cs} (d:zB K mg "forms_within" xr ["form"]) (hlen:mg "len"=none) (PO:Ok P w K mg base (CXe P w base) 1 "parts_of" ["form"] (spParts c)):Ok P w K mg base CX0 2 "forms_within" ["form"] (spWithin c):=by
 obtain ⟨g,fd,m,F,b⟩:=d;refine ⟨g,fd,m,F.kp,b,F.ok sc_forms_within (by rintro vs H Q E ⟨_,_,_,e,_⟩;rw [e];rfl) λcdv A outer s H vs Q E hr h=>?_⟩;obtain ⟨x,G,B,rfl,sB,hx,hn,q⟩:=h;have nd:=sc_forms_within.nd;have hr1:=hr;have SL:(3000:Nat)<sizeLine:=by decide
 refine ⟨_,(zb (zq (i:=1) nd rfl (Or.inl rfl) (zN (za (pv 0) zc)))
   (zb (zq (i:=2) nd rfl (Or.inl rfl) zd)
   (zb (Z9 PassesOwn.never (zm Y5 (pv 2) (zf zj (by rfl) hlen PySem.boot_len (za (pv 1) zc)) (zu _)) (zb (zY (xB PySem.F.plainAttrs_list PySem.F.slot_list_extend PySem.F.type_list_extend zbh (pv 1) (za (zx PO hr1 (by rfl) z9 (za (zn zK (pv 1) (pv 2) (λ_ _=>rfl)) zc)) zc)))
   (ze (zq (i:=2) nd rfl (Or.inl rfl) (zA yI (pv 2) zd)))))
   (ze (zi (pv 1)))))),?_⟩
 refine ⟨_,rfl,(by show 1<=sizeLine;decide),λl nl=>?_⟩;have h0:Hd H [(l,.lst (([]++[(G,x)]:List (F2.Fm×Ad)).map λp=>V.ref p.2))] (upd H l (.lst [.ref x])):=Hd.base.new nl;refine ⟨λm σ J=>∃ (done todo:List (F2.Fm×Ad)),σ=[rq x,rq l,iq done.length]/\Hd H [(l,.lst ((done++todo).map λp=>V.ref p.2))] J/\(∀ p∈done++todo,F2.FormAt c B p.1 p.2)/\m=(todo.map λp=>F2.nodes p.1).sum/\done.length+m=F2.nodes G/\(∀ (own φ:F2.Fm->Int),(∀ G,φ G=own G+((F2.partsF G).map φ).sum)->((done.map λp=>own p.1).sum+(todo.map λp=>φ p.1).sum=φ G))/\HerP (done++todo) G,⟨_,[],[(G,x)],rfl,h0,(λp hp=>by cases List.mem_singleton.mp hp;exact hx),rfl,by simp,(λown φ _=>by simp),λR _ h p hp=>by cases List.mem_singleton.mp hp;exact h⟩,?_⟩;rintro m σ J ⟨done,todo,rfl,h,hA,rfl,hm,hs,hh⟩;refine ⟨_,rfl,_,rfl,l,_,rfl,.inl (h.lst 0 rfl),_,_,rfl,rfl,_,rfl,?_⟩;rw [Jj,Jk];refine xL (λz=>?_) (λz=>?_)
 ·have z:(done.length:Int)<((done.length+todo.length:Nat):Int):=by simpa using z
  cases todo with
  | nil=>simp at z
  | cons p rest =>
   refine ⟨λσ' H'=>∃ m',m'<((p::rest).map λp=>F2.nodes p.1).sum/\_,λ_ _ q=>q,?_⟩;obtain ⟨Qs,q1,q2,q3⟩:=F2.parts_at (hA p (q2y _ q1z));have ne:=F2.nodes_eq p.1
   have qn:(Qs.map λp=>F2.nodes p.1).sum+1=F2.nodes p.1:=by
    rw [ne,← q2,List.map_map];rfl
   have pa:((done++p::rest).map λp=>V.ref p.2)[done.length]?=some (V.ref p.2):=by
    rw [List.getElem?_map,List.getElem?_append_right (Nat.le_refl _),Nat.sub_self];rfl
   have len:∀ ps:List (F2.Fm×Ad),ps.length<=(ps.map λp=>F2.nodes p.1).sum:=λps=>by
    induction ps with
    | nil=>exact Nat.le_refl _
    | cons a t ih =>
     rw [List.map_cons,List.sum_cons,q3x,F2.nodes_eq];omega
   have b1:=len rest;have b2:=len Qs;rw [List.map_cons,List.sum_cons] at hm;refine ⟨_,rfl,.inl ⟨rfl,_,h.lst 0 rfl⟩,_,rfl,_,rfl,l,_,_,_,rfl,rfl,h.lst 0 rfl,zQ pa,p.2,p.1,Qs,rfl,q1.same (sB.trans h.sm),λJ1 l1 h1=>?_⟩;have h2:=h.same h1.sm;refine ⟨l,l1,_,_,rfl,rfl,h2.get 0 rfl,h1.get 0 rfl,(by rw [Jj,Jj,Jk,q3x];omega),?_⟩;have h3:=h2.put (o':=.lst (((done++[p])++(rest++Qs)).map λp=>V.ref p.2)) 0 rfl
   have el:((done++p::rest).map λp=>V.ref p.2)++(Qs.map λp=>V.ref p.2)=((done++[p])++(rest++Qs)).map λp=>V.ref p.2:=by
    rw [← List.map_append];congr 1;simp
   rw [el];refine ⟨_,rfl,_,_,rfl,rfl,?_⟩;refine ⟨((rest++Qs).map λp=>F2.nodes p.1).sum,?_,done++[p],rest++Qs,?_,h3,λr hr=>?_,rfl,?_,λown φ ad=>?_,λR her h0 r hr=>?_⟩
   ·rw [Jl,List.sum_append,List.map_cons,List.sum_cons]
    omega
   ·rw [Jk]
    rfl
   ·rcases List.mem_append.mp hr with hr | hr
    ·rcases List.mem_append.mp hr with hr | hr
     ·exact hA r (List.mem_append_left _ hr)
     ·cases List.mem_singleton.mp hr
      exact hA _ (q2y _ q1z)
    ·rcases List.mem_append.mp hr with hr | hr
     ·exact hA r (q2y _ (q1y _ hr))
     ·exact q3 r hr
   ·rw [Jl,List.sum_append,Jk]
    show done.length+1+_=_;omega
   ·have e:=hs own φ ad
    rw [List.map_cons,List.sum_cons] at e;have ep:=ad p.1;rw [← q2,List.map_map] at ep;have ep:φ p.1=own p.1+(Qs.map λp=>φ p.1).sum:=ep;rw [Jl,List.sum_append,Jl,List.sum_append];show _+(own p.1+0)+_=_;omega
   ·rcases List.mem_append.mp hr with hr | hr
    ·rcases List.mem_append.mp hr with hr | hr
     ·exact hh R her h0 r (List.mem_append_left _ hr)
     ·cases List.mem_singleton.mp hr
      exact hh R her h0 _ (q2y _ q1z)
    ·rcases List.mem_append.mp hr with hr | hr
     ·exact hh R her h0 r (q2y _ (q1y _ hr))
     ·exact her p.1 (hh R her h0 p (q2y _ q1z)) r.1 (by rw [← q2];exact List.mem_map_of_mem hr)
 ·have z:¬ (done.length:Int)<((done.length+todo.length:Nat):Int):=by simpa using z
  have e:todo=[]:=List.eq_nil_of_length_eq_zero (by omega);subst e;rw [q3y] at h hA hh;exact ⟨_,rfl,q _ l done h hA (by simpa using hm) (λown φ ad=>by have:=hs own φ ad;simpa using this) hh⟩
end
end K22
namespace F2
open PySem L2
mutual
def sz (S:Nat->Int):Fm->Int
 | .at' _ p=>sz S p+1
 | .pair _ l r=>sz S l+sz S r+1
 | .cho t l r=>sz S t+sz S l+sz S r+1
 | .call a gs=>szL S gs+S a.toNat+1
 | _=>1
def szL (S:Nat->Int):Fms->Int
 | .nil=>0
 | .cons f r=>sz S f+szL S r
end
def szOwn (S:Nat->Int):Fm->Int
 | .call a _=>S a.toNat+1
 | _=>1
theorem szL_eq (S:Nat->Int):∀ gs:Fms,szL S gs=(gs.toL.map (sz S)).sum
 | .nil=>by unfold szL;rfl
 | .cons f r=>by
  unfold szL;rw [szL_eq S r];rfl
def sz_eq (S:Nat->Int) (F:Fm):sz S F=szOwn S F+((partsF F).map (sz S)).sum:=by
  cases F with
  | num n=>unfold sz;rfl
  | here=>unfold sz;rfl
  | cell r=>unfold sz;rfl
  | shi r b o=>unfold sz;rfl
  | loc a=>unfold sz;rfl
  | at' r p=>(conv=>lhs;unfold sz);show _=1+(sz S p+0);omega
  | pair s l r=>(conv=>lhs;unfold sz);show _=1+(sz S l+(sz S r+0));omega
  | cho t l r=>(conv=>lhs;unfold sz);show _=1+(sz S t+(sz S l+(sz S r+0)));omega
  | call a gs=>(conv=>lhs;unfold sz);rw [szL_eq];show _=S a.toNat+1+((gs.toL).map (sz S)).sum;omega
mutual
def CL (n:Nat):Fm->Prop
 | .at' _ p=>CL n p
 | .pair _ l r=>CL n l/\CL n r
 | .cho t l r=>CL n t/\CL n l/\CL n r
 | .call a gs=>0<=a/\a.toNat<n/\CLs n gs
 | _=>True
def CLs (n:Nat):Fms->Prop
 | .nil=>True
 | .cons f r=>CL n f/\CLs n r
end
theorem CLs.all {n:Nat}:∀ {gs:Fms},CLs n gs->∀ g∈gs.toL,CL n g
 | .nil,_,g,hg=>nomatch hg
 | .cons f r,h,g,hg=>by
  unfold CLs at h;rcases List.mem_cons.mp hg with rfl | hg
  ·exact h.1
  ·exact CLs.all h.2 g hg
def CL.parts {n:Nat} (F:Fm) (h:CL n F):∀ g∈partsF F,CL n g:=by
 intro g hg
 cases F with
 | num n=>exact nomatch hg
 | here=>exact nomatch hg
 | cell r=>exact nomatch hg
 | shi r b o=>exact nomatch hg
 | loc a=>exact nomatch hg
 | at' r p=>unfold CL at h;cases List.mem_singleton.mp hg;exact h
 | pair s l r =>
  unfold CL at h;simp only [partsF,List.mem_cons,List.not_mem_nil,or_false] at hg;rcases hg with rfl | rfl
  ·exact h.1
  ·exact h.2
 | cho t l r =>
  unfold CL at h;simp only [partsF,List.mem_cons,List.not_mem_nil,or_false] at hg;rcases hg with rfl | rfl | rfl
  ·exact h.1
  ·exact h.2.1
  ·exact h.2.2
 | call a gs=>unfold CL at h;exact h.2.2.all g hg
mutual
theorem CL.mono {j k:Nat} (h:j<=k):∀ {F:Fm},CL j F->CL k F
 | .num _,_=>by unfold CL;trivial
 | .here,_=>by unfold CL;trivial
 | .cell _,_=>by unfold CL;trivial
 | .shi _ _ _,_=>by unfold CL;trivial
 | .loc _,_=>by unfold CL;trivial
 | .at' _ _,q=>by unfold CL at q ⊢;exact CL.mono h q
 | .pair _ _ _,q=>by unfold CL at q ⊢;exact ⟨CL.mono h q.1,CL.mono h q.2⟩
 | .cho _ _ _,q=>by unfold CL at q ⊢;exact ⟨CL.mono h q.1,CL.mono h q.2.1,CL.mono h q.2.2⟩
 | .call _ _,q=>by unfold CL at q ⊢;exact ⟨q.1,by have:=q.2.1;omega,CLs.mono h q.2.2⟩
theorem CLs.mono {j k:Nat} (h:j<=k):∀ {F:Fms},CLs j F->CLs k F
 | .nil,_=>by unfold CLs;trivial
 | .cons _ _,q=>by unfold CLs at q ⊢;exact ⟨CL.mono h q.1,CLs.mono h q.2⟩
end
def body (fs:List Fn) (i:Nat):Fm:=(fs.getD i (0,.here)).2
structure Told (fs:List Fn) (v:(Nat->Int)->Fm->Int) (S:Nat->Int):Prop where
 few:fs.length<=1000
 eq:∀ i,i<fs.length->S i=v S (body fs i)
 cl:∀ i,i<fs.length->CL i (body fs i)
 nd:∀ i,i<fs.length->nodes (body fs i)<=2000
structure Kn (S:Nat->Int) (N:Nat) (kvs:Jm):Prop where
 nd:(kvs.map (·.1)).Nodup
 lt:∀ k∈kvs.map (·.1),∃ i:Nat,i<N/\k=.inl (i:Int)
 v:∀ (i:Nat) u,zZ kvs (.inl (i:Int))=some u->u=.int (S i)
theorem zc1:∀ (N:Nat) (l:Jm),(l.map (·.1)).Nodup->(∀ k∈l.map (·.1),∃ i:Nat,i<N/\k=.inl (i:Int))->l.length<=N
 | 0,l,_,h=>by
  cases l with
  | nil=>exact Nat.le_refl _
  | cons a t=>obtain ⟨i,z,_⟩:=h a.1 q1z;omega
 | N+1,l,nd,h=>by
  by_cases z:(Sum.inl (N:Int):Key)∈l.map (·.1)
  ·have e:=zc1 N (Zx l (.inl (N:Int))) (zab nd) λk hk=>by
    obtain ⟨p,hp,rfl⟩:=List.mem_map.mp hk;obtain ⟨i,z,e⟩:=h p.1 (List.mem_map_of_mem (zbu hp));refine ⟨i,?_,e⟩;by_cases q:i=N
    ·have:=(List.mem_filter.mp hp).2
     rw [e,q] at this;simp at this
    ·omega
   have:=zbv nd z;omega
  ·have e:=zc1 N l nd λk hk=>by
    obtain ⟨i,z',e⟩:=h k hk;refine ⟨i,?_,e⟩;by_cases q:i=N
    ·rw [e,q] at hk;exact absurd hk z
    ·omega
   omega
def Kn.nil {S:Nat->Int} {N:Nat}:Kn S N []:=⟨List.nodup_nil,(λk hk=>nomatch hk),λi u h=>by cases h⟩
def Kn.len {S:Nat->Int} {N:Nat} {kvs:Jm} (h:Kn S N kvs):kvs.length<=N:=zc1 N _ h.nd h.lt
def zbk {kvs:Jm} {k:Key} {v u:V} (h:zZ kvs k=some u):(yX kvs k v).map (·.1)=kvs.map (·.1):=by
 unfold yX;rw [Zs,h,if_pos (by rfl),List.map_map];apply List.map_congr_left;intro p _;show (if p.1=k then (p.1,v) else p).1=p.1
 split <;> rfl
def Kn.put {S:Nat->Int} {N:Nat} {kvs:Jm} (h:Kn S N kvs) {i:Nat} (hi:i<N):Kn S N (yX kvs (.inl (i:Int)) (.int (S i))):=by
 have v:∀ (j:Nat) u,zZ (yX kvs (.inl (i:Int)) (.int (S i))) (.inl (j:Int))=some u->u=.int (S j):=λj u e=>by
  rw [XU] at e
  split at e
  ·rename_i q
   injection q with q
   have q:j=i:=by omega
   subst q;injection e with e
   exact e.symm
  ·exact h.v j u e
 cases z:zZ kvs (.inl (i:Int)) with
 | some u=>exact ⟨by rw [zbk z];exact h.nd,by rw [zbk z];exact h.lt,v⟩
 | none =>
  refine ⟨nd_putK _ h.nd z,λk hk=>?_,v⟩;rw [Y1 _ z,Jl] at hk;rcases List.mem_append.mp hk with hk | hk
  ·exact h.lt k hk
  ·cases List.mem_singleton.mp hk
   exact ⟨i,hi,rfl⟩
end F2
namespace K22
open PySem L2 FM
section
variable {P:Program} {w:World} {K:Fg} {mg:J0} {base:Heap}
inductive spBody (c:F2.Cs) (K:Fg) (v:(Nat->Int)->F2.Fm->Int) (n:Nat) (vs:Jo) (H:Hp) (Q:VK) (_:XK):Prop
 | mk (a:Nat) (fa kd:Ad) (fs:List F2.Fn) (S:Nat->Int) (B:Hp) (kvs:Jm) (_:vs=[.int a,.ref fa,.ref kd]) (_:a<n) (_:a<fs.length) (_:F2.Told fs v S) (_:F2.FunsAt c K B fa fs) (_:Hd B [(kd,.dK kvs)] H) (_:F2.Kn S fs.length kvs) (_:∀ H' kvs',Hd B [(kd,.dK kvs')] H'->F2.Kn S fs.length kvs'->Q (.int (S a)) H')
inductive spForm (c:F2.Cs) (K:Fg) (v:(Nat->Int)->F2.Fm->Int) (n:Nat) (vs:Jo) (H:Hp) (Q:VK) (_:XK):Prop
 | mk (x fa kd:Ad) (F:F2.Fm) (fs:List F2.Fn) (S:Nat->Int) (B:Hp) (kvs:Jm) (_:vs=[.ref x,.ref fa,.ref kd]) (_:F2.FormAt c B F x) (_:F2.CL n F) (_:F2.CL fs.length F) (_:F2.nodes F<=2000) (_:F2.Told fs v S) (_:F2.FunsAt c K B fa fs) (_:Hd B [(kd,.dK kvs)] H) (_:F2.Kn S fs.length kvs) (_:∀ H' kvs',Hd B [(kd,.dK kvs')] H'->F2.Kn S fs.length kvs'->Q (.int (v S F)) H')
def ok_bs {c:F2.Cs} {n k:Nat} (d:zB K mg "body_size" Zf ["at","functions","known"]) (SW:∀ n',n=n'+1->Ok P w K mg base CX0 k "size_with" ["form","functions","known"] (spForm c K F2.sz n')):Ok P w K mg base CX0 (k+1) "body_size" ["at","functions","known"] (spBody c K F2.sz n):=by
 obtain ⟨g,fd,m,F,b⟩:=d;refine ⟨g,fd,m,F.kp,b,F.ok sc_body_size (by rintro vs H Q E ⟨_,_,_,_,_,_,_,e,_⟩;rw [e];rfl) λcdv A outer s H vs Q E hr h=>?_⟩;obtain ⟨a,fa,kd,fs,S,B,kvs,rfl,hn,hl,T,hF,h,hk,q⟩:=h;obtain ⟨n',rfl⟩:∃ n',n=n'+1:=⟨n-1,by omega⟩;have SW:=SW n' rfl;have nd:=sc_body_size.nd;have hr1:=hr;have hu:=Nat.lt_of_le_of_lt (Nat.add_le_add_left (show 1<=64 by decide) _) hr.units;have SL:(3000:Nat)<sizeLine:=by decide
 refine ⟨_,(zb (zC (Z4 (Yz hu (pv 0) (pv 2)) rfl) (ze (y4 hu (pv 2) (pv 0) (zx SW hr1 (by rfl) zE (za (zn zy (zn zK (pv 1) (pv 0) (λ_ _=>rfl)) zd (λ_ _=>rfl)) (za (pv 1) (za (pv 2) zc)))) rfl)) zh)
   (ze (zi (zJ hu (pv 2) (pv 0) (λ_ _=>rfl))))),?_⟩
 refine ⟨_,rfl,_,rfl,kd,_,rfl,DGet.k (k:=.inl a) (h.get 0 rfl),_,rfl,?_⟩
 cases z:zZ kvs (.inl (a:Int)) with
 | some u =>
  have gu:=DGet.k (k:=.inl (a:Int)) (h.get 0 rfl);rw [z] at gu;rw [hk.v a u z] at gu;exact zH ⟨_,rfl,_,rfl,kd,_,rfl,gu,q _ _ h hk⟩
 | none =>
  refine zP ?_;obtain ⟨ts,f1,f2,f3⟩:=hF.ex;obtain ⟨y,f4,f5⟩:=f3 a hl
  have et:(ts.map V.ref)[a]?=some (V.ref (ts.getD a 0)):=by
   rw [List.getElem?_map,List.getElem?_eq_getElem (by omega),q1x,List.getElem?_eq_getElem (by omega)];rfl
  refine ⟨_,rfl,_,rfl,fa,_,_,_,rfl,rfl,h.sql f1,zQ et,_,_,_,_,rfl,rfl,h.sqt f4,rfl,_,rfl,_,rfl,?_⟩;refine ⟨y,fa,kd,_,fs,S,B,kvs,rfl,f5,(T.cl a hl).mono (by omega),(T.cl a hl).mono (by omega),T.nd a hl,T,hF,h,hk,λH1 kvs1 h1 hk1=>?_⟩;have hk2:=hk1.put hl;have e:F2.sz S (fs.getD a (0,.here)).2=S a:=(T.eq a hl).symm;rw [e];have le:=hk1.len;have le2:=T.few;have h2:=h1.put (o':=.dK (yX kvs1 (.inl (a:Int)) (.int (S a)))) 0 rfl;refine ⟨_,rfl,_,rfl,kd,_,rfl,DPut.k (k:=.inl (a:Int)) (h1.get 0 rfl) (by omega),?_⟩;have gu:=DGet.k (k:=.inl (a:Int)) (h2.get 0 rfl);rw [XU,if_pos rfl] at gu;exact ⟨_,rfl,_,rfl,kd,_,rfl,gu,q _ _ h2 hk2⟩
def join {B:Hp} {L:Jn} {J J1:Hp} {a:Ad} {o:HO} (h:Hd B L J) (h':Hd J [(a,o)] J1):Hd B ((a,o)::L) J1 :=
 (h.same h'.sm).add (λp hp e=>by have:=h.st p hp;rw [e,h'.nw _ q1z] at this;cases this) (h.sm.free (h'.nw _ q1z)) (h'.get 0 rfl)
def ok_sw {c:F2.Cs} {n k:Nat} (d:zB K mg "size_with" Zb ["form","functions","known"]) (hisi:mg "isinstance"=none) (hCa:mg "Call"=some (.ref c.call)) (L:LooksK K c) (hk2:2<=k) (WI:Ok P w K mg base CX0 2 "forms_within" ["form"] (spWithin c)) (BS:Ok P w K mg base CX0 k "body_size" ["at","functions","known"] (spBody c K F2.sz n)):Ok P w K mg base CX0 (k+1) "size_with" ["form","functions","known"] (spForm c K F2.sz n):=by
 obtain ⟨g,fd,m,F,b⟩:=d;refine ⟨g,fd,m,F.kp,b,F.ok sc_size_with (by rintro vs H Q E ⟨_,_,_,_,_,_,_,_,e,_⟩;rw [e];rfl) λcdv A outer s H vs Q E hr h=>?_⟩;obtain ⟨x,fa,kd,G,fs,S,B,kvs,rfl,hx,hc,hc',hn,T,hF,h,hk,q⟩:=h;have nd:=sc_size_with.nd;have hr1:=hr;have hr2:=hr.mono hk2;refine ⟨_,(zb (zq (i:=3) nd rfl (Or.inl rfl) zd)
   (zb (xh PassesOwn.never rfl (xg (zx WI hr2 (by rfl) zE (za (pv 0) zc))) (ya (i:=4) nd rfl (Or.inl rfl)) (zb (zq (i:=3) nd rfl (Or.inl rfl) (zA yI (pv 3) zd))
   (ze (zC (zG (zf zp (by rfl) hisi PyProof.Rows.boot_isinstance (za (pv 4) (za (zM hCa) zc)))) (ze (zq (i:=3) nd rfl (Or.inl rfl) (zA yI (pv 3) (zx BS hr1 (by rfl) zE (za (zo (pv 4) rfl) (za (pv 1) (za (pv 2) zc))))))) zh))))
   (ze (zi (pv 3))))),?_⟩
 refine ⟨_,rfl,x,G,B,rfl,h.sm,hx,hn,λH1 l Ps h1 hA hl hS hH=>?_⟩;have h:=join h h1;refine ⟨l,rfl,⟨_,h.lst 0 rfl⟩,?_⟩;have hc1:=hH (F2.CL n) F2.CL.parts hc;have hc2:=hH (F2.CL fs.length) F2.CL.parts hc';refine Xa (K:=K) (a:=l) (xs:=Ps.map λp=>V.ref p.2) (λi σ J=>∃ (u:Jp) (kvs':Jm),σ=[some (.ref x),some (.ref fa),some (.ref kd),some (.int ((Ps.take i).map λp=>F2.szOwn S p.1).sum),u]/\Hd B [(l,.lst (Ps.map λp=>V.ref p.2)),(kd,.dK kvs')] J/\F2.Kn S fs.length kvs') ⟨none,kvs,rfl,h,hk⟩ (λi σ J hi ⟨u,kvs',_,h,_⟩=>h.lst 0 rfl) ?_ ?_
 ·clear h hk
  rintro i y σ J hi ⟨u,kvs',rfl,h,hk⟩
  obtain ⟨p,hp,rfl⟩:∃ p,Ps[i]?=some p/\y=V.ref p.2:=by
   rw [List.getElem?_map] at hi
   cases ez:Ps[i]? with
   | none=>rw [ez] at hi;cases hi
   | some z=>rw [ez] at hi;exact ⟨z,rfl,by injection hi with hi;exact hi.symm⟩
  have mp:=List.mem_of_getElem? hp
  have et:((Ps.take (i+1)).map λp=>F2.szOwn S p.1).sum=((Ps.take i).map λp=>F2.szOwn S p.1).sum+F2.szOwn S p.1:=by
   rw [List.take_add_one,hp,Jl,List.sum_append];show _+(F2.szOwn S p.1+0)=_;omega
  rw [et];generalize ((Ps.take i).map λp=>F2.szOwn S p.1).sum=N;obtain ⟨Rs,⟨dx,fl,px,pp⟩,-,-⟩:=F2.parts_at (hA p mp);have px:=h.sm _ _ px;have kf:=L.of p.1;refine ⟨_,rfl,_,_,rfl,rfl,_,rfl,_,_,.ref c.call,_,F2.isCall p.1,rfl,rfl,(λu r=>r),kf.ty px,kf.k,F2.isCall p.1,rfl,?_⟩;have c1:=hc1 p mp;have c2:=hc2 p mp;have hAp:=hA p mp;obtain ⟨G',y⟩:=p
  cases G' with
  | call a gs =>
   refine zP ?_;obtain ⟨l',e',-⟩:=pp;have c1:F2.CL n (.call a gs):=c1;have c2:F2.CL fs.length (.call a gs):=c2;unfold F2.CL at c1 c2;obtain ⟨a',rfl⟩:∃ a':Nat,a=a':=⟨a.toNat,by omega⟩;rw [q0z] at c1 c2;have px:J y=some (.ins c.call dx fl):=px;have sp:=h.split (L':=[(kd,.dK kvs')]) (.cons _ (List.Sublist.refl _));refine ⟨_,rfl,_,rfl,y,_,dx,_,.int a',rfl,px,L.call.cl,L.kA,by rw [e'];rfl,_,rfl,_,rfl,?_⟩;refine ⟨a',fa,kd,fs,S,but J [kd],kvs',rfl,c1.2.1,c2.2.1,T,hF.same sp.1,sp.2,hk,λJ1 kvs1 h1 hk1=>?_⟩;refine ⟨_,_,rfl,rfl,some (V.ref y),kvs1,?_,h.back 1 rfl h1,hk1⟩;show [some (V.ref x),some (V.ref fa),some (V.ref kd),some (V.int (N+1+S a')),some (V.ref y)]=[some (V.ref x),some (V.ref fa),some (V.ref kd),some (V.int (N+(S a'+1))),some (V.ref y)];rw [Int.add_assoc,Int.add_comm 1]
  | num n=>exact zH ⟨_,kvs',rfl,h,hk⟩
  | here=>exact zH ⟨_,kvs',rfl,h,hk⟩
  | cell r=>exact zH ⟨_,kvs',rfl,h,hk⟩
  | shi r b o=>exact zH ⟨_,kvs',rfl,h,hk⟩
  | loc a=>exact zH ⟨_,kvs',rfl,h,hk⟩
  | at' r p=>exact zH ⟨_,kvs',rfl,h,hk⟩
  | pair s l r=>exact zH ⟨_,kvs',rfl,h,hk⟩
  | cho t l r=>exact zH ⟨_,kvs',rfl,h,hk⟩
 ·rintro σ J ⟨u,kvs',rfl,h,hk⟩
  rw [Jj,List.take_length,hS (F2.szOwn S) (F2.sz S) (F2.sz_eq S)];exact ⟨_,rfl,q _ _ h.tl hk⟩
theorem all_sw {c:F2.Cs} (dB:zB K mg "body_size" Zf ["at","functions","known"]) (d:zB K mg "size_with" Zb ["form","functions","known"]) (hisi:mg "isinstance"=none) (hCa:mg "Call"=some (.ref c.call)) (L:LooksK K c) (WI:Ok P w K mg base CX0 2 "forms_within" ["form"] (spWithin c)):∀ n,Ok P w K mg base CX0 (2*n+4) "size_with" ["form","functions","known"] (spForm c K F2.sz n)
 | 0=>ok_sw d hisi hCa L (by decide) WI (ok_bs (k:=2) dB λn' e=>by omega)
 | n+1=>ok_sw d hisi hCa L (by omega) WI (ok_bs (k:=2*n+4) dB λn' e=>by cases e;exact all_sw dB d hisi hCa L WI n)
inductive spOf (c:F2.Cs) (K:Fg) (v:(Nat->Int)->F2.Fm->Int) (vs:Jo) (H:Hp) (Q:VK) (_:XK):Prop
 | mk (x fa:Ad) (F:F2.Fm) (fs:List F2.Fn) (S:Nat->Int) (_:vs=[.ref x,.ref fa]) (_:F2.FormAt c H F x) (_:fs.length<=8) (_:F2.CL fs.length F) (_:F2.nodes F<=2000) (_:F2.Told fs v S) (_:F2.FunsAt c K H fa fs) (_:∀ H',Same H H'->Q (.int (v S F)) H')
def ok_so {c:F2.Cs} (d:zB K mg "size_of" Yp ["form","functions"]) (SW:Ok P w K mg base CX0 20 "size_with" ["form","functions","known"] (spForm c K F2.sz 8)):Ok P w K mg base CX0 21 "size_of" ["form","functions"] (spOf c K F2.sz):=by
 obtain ⟨g,fd,m,F,b⟩:=d;refine ⟨g,fd,m,F.kp,b,F.ok sc_size_of (by rintro vs H Q E ⟨_,_,_,_,_,e,_⟩;rw [e];rfl) λcdv A outer s H vs Q E hr h=>?_⟩;obtain ⟨x,fa,G,fs,S,rfl,hx,h8,hc,hn,T,hF,q⟩:=h;have nd:=sc_size_of.nd;have hr1:=hr;refine ⟨_,(ze (zi (zx SW hr1 (by rfl) zE (za (pv 0) (za (pv 1) (za Ya zc)))))),?_⟩;refine ⟨_,rfl,_,rfl,λkd nk=>?_⟩;exact ⟨x,fa,kd,G,fs,S,H,[],rfl,hx,hc.mono h8,hc,hn,T,hF,Hd.base.new nk,F2.Kn.nil,λH' kvs' h' _=>q _ h'.sm⟩
end
end K22
namespace F2
open PySem L2
def mx (l:Jc):Int:=l.foldr max 0
theorem mx_nn:∀ l:Jc,0<=mx l
 | []=>Int.le_refl _
 | a::t=>by have:=mx_nn t;show 0<=max a (mx t);omega
def mx_cons (a:Int) (t:Jc):mx (a::t)=max a (mx t):=rfl
theorem mx_append:∀ a b:Jc,mx (a++b)=max (mx a) (mx b)
 | [],b=>by have:=mx_nn b;show mx b=max 0 (mx b);omega
 | x::t,b=>by
  have:=mx_append t b;show max x (mx (t++b))=max (max x (mx t)) (mx b);omega
theorem mx_add {d:Int} (hd:0<=d):∀ l:Jc,max d (mx (l.map λx=>d+x))=d+mx l
 | []=>by show max d 0=d+0;omega
 | x::t=>by
  have:=mx_add hd t;have:=mx_nn t;show max d (max (d+x) (mx (t.map λx=>d+x)))=d+max x (mx t);omega
mutual
def dp (S:Nat->Int):Fm->Int
 | .at' _ p=>dp S p
 | .pair _ l r=>max (dp S l) (dp S r)
 | .cho t l r=>max (dp S t) (max (dp S l) (dp S r))+1
 | .call a gs=>max (S a.toNat) (dpL S gs)
 | _=>0
def dpL (S:Nat->Int):Fms->Int
 | .nil=>0
 | .cons f r=>max (dp S f) (dpL S r)
end
def incF (F:Fm):Int:=if isCho F then 1 else 0
def extF (S:Nat->Int):Fm->Int
 | .call a _=>S a.toNat
 | _=>0
theorem dpL_eq (S:Nat->Int):∀ gs:Fms,dpL S gs=mx (gs.toL.map (dp S))
 | .nil=>by unfold dpL;rfl
 | .cons f r=>by
  unfold dpL;rw [dpL_eq S r];rfl
mutual
theorem dp_nn (S:Nat->Int):∀ F:Fm,0<=dp S F
 | .num _=>by unfold dp;exact Int.le_refl _
 | .here=>by unfold dp;exact Int.le_refl _
 | .cell _=>by unfold dp;exact Int.le_refl _
 | .shi _ _ _=>by unfold dp;exact Int.le_refl _
 | .loc _=>by unfold dp;exact Int.le_refl _
 | .at' _ p=>by unfold dp;exact dp_nn S p
 | .pair _ l r=>by unfold dp;have:=dp_nn S l;omega
 | .cho t l r=>by unfold dp;have:=dp_nn S t;omega
 | .call a gs=>by unfold dp;have:=dpL_nn S gs;omega
theorem dpL_nn (S:Nat->Int):∀ gs:Fms,0<=dpL S gs
 | .nil=>by unfold dpL;exact Int.le_refl _
 | .cons f r=>by unfold dpL;have:=dpL_nn S r;omega
end
def dp_eq (S:Nat->Int) (F:Fm):dp S F=incF F+max (extF S F) (mx ((partsF F).map (dp S))):=by
  cases F with
  | num n=>unfold dp;rfl
  | here=>unfold dp;rfl
  | cell r=>unfold dp;rfl
  | shi r b o=>unfold dp;rfl
  | loc a=>unfold dp;rfl
  | at' r p=>(conv=>lhs;unfold dp);have:=dp_nn S p;show _=0+max 0 (max (dp S p) 0);omega
  | pair s l r=>(conv=>lhs;unfold dp);have:=dp_nn S l;show _=0+max 0 (max (dp S l) (max (dp S r) 0));omega
  | cho t l r=>(conv=>lhs;unfold dp);have:=dp_nn S t;show _=1+max 0 (max (dp S t) (max (dp S l) (max (dp S r) 0)));omega
  | call a gs=>(conv=>lhs;unfold dp);rw [dpL_eq];show _=0+max (S a.toNat) (mx ((gs.toL).map (dp S)));omega
theorem nodes_len:∀ l:List Fm,l.length<=(l.map nodes).sum
 | []=>Nat.le_refl _
 | a::t=>by
  have:=nodes_len t;rw [List.map_cons,List.sum_cons,q3x,nodes_eq];omega
def isCall_ex {F:Fm} (h:isCall F=true):∃ a gs,F=.call a gs:=by
 cases F with
 | call a gs=>exact ⟨a,gs,rfl⟩
 | _=>cases h
def ext_no {S:Nat->Int} {F:Fm} (h:isCall F=false):extF S F=0:=by
 cases F with
 | call a gs=>cases h
 | _=>rfl
structure WD where
 F:Fm
 y:Ad
 d:Int
 t:Ad
structure WAt (c:Cs) (n N:Nat) (H:Hp) (p:WD):Prop where
 t:H p.t=some (.tup [.ref p.y,.int p.d])
 f:FormAt c H p.F p.y
 c1:CL n p.F
 c2:CL N p.F
 d:0<=p.d
def WAt.same {c:Cs} {n N:Nat} {H H':Hp} {p:WD} (h:WAt c n N H p) (s:Same H H'):WAt c n N H' p:=⟨s _ _ h.t,h.f.same s,h.c1,h.c2,h.d⟩
end F2
namespace K22
open PySem L2 FM
section
variable {P:Program} {w:World} {K:Fg} {mg:J0} {base:Heap}
def ok_bd {c:F2.Cs} {n k:Nat} (d:zB K mg "body_depth" xu ["at","functions","known"]) (DW:∀ n',n=n'+1->Ok P w K mg base CX0 k "depth_with" ["form","functions","known"] (spForm c K F2.dp n')):Ok P w K mg base CX0 (k+1) "body_depth" ["at","functions","known"] (spBody c K F2.dp n):=by
 obtain ⟨g,fd,m,F,b⟩:=d;refine ⟨g,fd,m,F.kp,b,F.ok sc_body_depth (by rintro vs H Q E ⟨_,_,_,_,_,_,_,e,_⟩;rw [e];rfl) λcdv A outer s H vs Q E hr h=>?_⟩;obtain ⟨a,fa,kd,fs,S,B,kvs,rfl,hn,hl,T,hF,h,hk,q⟩:=h;obtain ⟨n',rfl⟩:∃ n',n=n'+1:=⟨n-1,by omega⟩;have DW:=DW n' rfl;have nd:=sc_body_depth.nd;have hr1:=hr;have hu:=Nat.lt_of_le_of_lt (Nat.add_le_add_left (show 1<=64 by decide) _) hr.units;have SL:(3000:Nat)<sizeLine:=by decide
 refine ⟨_,(zb (zC (Z4 (Yz hu (pv 0) (pv 2)) rfl) (ze (y4 hu (pv 2) (pv 0) (zx DW hr1 (by rfl) zE (za (zn zy (zn zK (pv 1) (pv 0) (λ_ _=>rfl)) zd (λ_ _=>rfl)) (za (pv 1) (za (pv 2) zc)))) rfl)) zh)
   (ze (zi (zJ hu (pv 2) (pv 0) (λ_ _=>rfl))))),?_⟩
 refine ⟨_,rfl,_,rfl,kd,_,rfl,DGet.k (k:=.inl a) (h.get 0 rfl),_,rfl,?_⟩
 cases z:zZ kvs (.inl (a:Int)) with
 | some u =>
  have gu:=DGet.k (k:=.inl (a:Int)) (h.get 0 rfl);rw [z] at gu;rw [hk.v a u z] at gu;exact zH ⟨_,rfl,_,rfl,kd,_,rfl,gu,q _ _ h hk⟩
 | none =>
  refine zP ?_;obtain ⟨ts,f1,f2,f3⟩:=hF.ex;obtain ⟨y,f4,f5⟩:=f3 a hl
  have et:(ts.map V.ref)[a]?=some (V.ref (ts.getD a 0)):=by
   rw [List.getElem?_map,List.getElem?_eq_getElem (by omega),q1x,List.getElem?_eq_getElem (by omega)];rfl
  refine ⟨_,rfl,_,rfl,fa,_,_,_,rfl,rfl,h.sql f1,zQ et,_,_,_,_,rfl,rfl,h.sqt f4,rfl,_,rfl,_,rfl,?_⟩;refine ⟨y,fa,kd,_,fs,S,B,kvs,rfl,f5,(T.cl a hl).mono (by omega),(T.cl a hl).mono (by omega),T.nd a hl,T,hF,h,hk,λH1 kvs1 h1 hk1=>?_⟩;have hk2:=hk1.put hl;have e:F2.dp S (fs.getD a (0,.here)).2=S a:=(T.eq a hl).symm;rw [e];have le:=hk1.len;have le2:=T.few;have h2:=h1.put (o':=.dK (yX kvs1 (.inl (a:Int)) (.int (S a)))) 0 rfl;refine ⟨_,rfl,_,rfl,kd,_,rfl,DPut.k (k:=.inl (a:Int)) (h1.get 0 rfl) (by omega),?_⟩;have gu:=DGet.k (k:=.inl (a:Int)) (h2.get 0 rfl);rw [XU,if_pos rfl] at gu;exact ⟨_,rfl,_,rfl,kd,_,rfl,gu,q _ _ h2 hk2⟩
def grow {B H:Hp} {L:Jn} {t:Ad} {o:HO} (h:Hd B L H) (n:H t=none):Hd (upd B t o) L (upd H t o):=by
 refine ⟨h.nd,λp m=>?_,λp m=>?_,λb u z=>?_⟩
 ·rw [zF (zI (h.st p m) n)];exact h.nw p m
 ·rw [zF (zI (h.st p m) n)];exact h.st p m
 ·by_cases e:b=t
  ·subst e;rw [zr] at z ⊢;exact z
  ·rw [zF e] at z ⊢
   exact h.sm _ _ z
def ok_dw {c:F2.Cs} {n k:Nat} (d:zB K mg "depth_with" xt ["form","functions","known"]) (hisi:mg "isinstance"=none) (hCa:mg "Call"=some (.ref c.call)) (L:LooksK K c) (hk2:2<=k) (hlen:mg "len"=none) (hmax:mg "max"=none) (hCo:mg "Choice"=some (.ref c.cho)) (PO:Ok P w K mg base (CXe P w base) 1 "parts_of" ["form"] (spParts c)) (BD:Ok P w K mg base CX0 k "body_depth" ["at","functions","known"] (spBody c K F2.dp n)):Ok P w K mg base CX0 (k+1) "depth_with" ["form","functions","known"] (spForm c K F2.dp n):=by
 obtain ⟨g,fd,m,F,b⟩:=d;refine ⟨g,fd,m,F.kp,b,F.ok sc_depth_with (by rintro vs H Q E ⟨_,_,_,_,_,_,_,_,e,_⟩;rw [e];rfl) λcdv A outer s H vs Q E hr h=>?_⟩;obtain ⟨x,fa,kd,G,fs,S,B,kvs,rfl,hx,hc,hc',hn,T,hF,h,hk,q⟩:=h;have nd:=sc_depth_with.nd;have hr1:=hr;have hr2:=hr.mono (show 1<=k by omega);have SL:(3000:Nat)<sizeLine:=by decide
 refine ⟨_,(zb (zq (i:=3) nd rfl (Or.inl rfl) zd)
   (zb (zq (i:=4) nd rfl (Or.inl rfl) (zN (za (yG (za (pv 0) (za zd zc))) zc)))
   (zb (Z9 PassesOwn.never (zm xI (zf zj (by rfl) hlen PySem.boot_len (za (pv 4) zc)) zd (zu _)) (zb (zq (i:=5) nd rfl (Or.inl rfl) (pe_bm0 PySem.F.plainAttrs_list PySem.F.slot_list_pop PySem.F.type_list_pop mt_pop (pv 4)))
   (zb (zq (i:=6) nd rfl (Or.inl rfl) (zn zy (pv 5) zd (λ_ _=>rfl)))
   (zb (zq (i:=7) nd rfl (Or.inr rfl) (zn zy (pv 5) zd (λ_ _=>rfl)))
   (zb (xz (zC (zG (zf zp (by rfl) hisi PyProof.Rows.boot_isinstance (za (pv 6) (za (zM hCo) zc)))) (ze (zq (i:=7) nd rfl (Or.inr rfl) (zA yI (pv 7) zd))) zh))
   (zb (zq (i:=3) nd rfl (Or.inl rfl) (zf (Xq rfl) (by rfl) hmax PyProof.Rows.boot_max (za (pv 3) (za (pv 7) zc))))
   (zb (xz (zC (zG (zf zp (by rfl) hisi PyProof.Rows.boot_isinstance (za (pv 6) (za (zM hCa) zc)))) (ze (zq (i:=3) nd rfl (Or.inl rfl) (zf (Xq rfl) (by rfl) hmax PyProof.Rows.boot_max (za (pv 3) (za (zA yI (pv 7) (zx BD hr1 (by rfl) zE (za (zo (pv 6) rfl) (za (pv 1) (za (pv 2) zc))))) zc))))) zh))
   (ze (zY (xB PySem.F.plainAttrs_list PySem.F.slot_list_extend PySem.F.type_list_extend zbh (pv 4) (za (Zw ["inner","depth"] [none,some 7] rfl rfl rfl (xg (zx PO hr2 (by rfl) z9 (za (pv 6) zc))) (λs3 H3 fp=>⟨ya (i:=0) (Jq ["inner","depth"]) rfl (Or.inl rfl),(yG (za (pv 0) (za (pv 1) zc)))⟩)) zc)))))))))))
   (ze (zi (pv 3)))))),?_⟩
 refine ⟨_,rfl,(by show 2<=sizeLine;decide),λt nt=>⟨(by show 1<=sizeLine;decide),λwl nw=>?_⟩⟩;have sB:Same B (upd B t (.tup [.ref x,.int 0])):=yq (Same.refl _) (h.free nt);have h:=grow (o:=.tup [.ref x,.int 0]) h nt;have h:=h.new (o:=.lst ([(⟨G,x,0,t⟩:F2.WD)].map λp=>V.ref p.t)) nw;refine ⟨λm σ J=>∃ (B':Hp) (Ws:List F2.WD) (dst:Int) (kvs':Jm) (u5 u6 u7:Jp),σ=[rq x,rq fa,rq kd,iq dst,rq wl,u5,u6,u7,none]/\Same B B'/\Hd B' [(wl,.lst (Ws.map λp=>V.ref p.t)),(kd,.dK kvs')] J/\(∀ p∈Ws,F2.WAt c n fs.length B' p)/\m=(Ws.map λp=>F2.nodes p.F).sum/\m<=2000/\F2.Kn S fs.length kvs'/\0<=dst/\max dst (F2.mx (Ws.map λp=>p.d+F2.dp S p.F))=F2.dp S G,⟨_,_,[⟨G,x,0,t⟩],0,kvs,none,none,none,rfl,sB,h,(λp hp=>by cases List.mem_singleton.mp hp;exact ⟨zr,hx.same sB,hc,hc',Int.le_refl _⟩),rfl,(by show F2.nodes G+0<=2000;omega),hk,Int.le_refl _,by have:=F2.dp_nn S G;show max 0 (max (0+F2.dp S G) 0)=_;omega⟩,?_⟩;clear h sB hk;rintro m σ J ⟨B',Ws,dst,kvs',u5,u6,u7,rfl,sB,h,hA,rfl,hm,hk,hd0,hd⟩;refine ⟨_,rfl,wl,_,rfl,.inl (h.lst 0 rfl),_,_,rfl,rfl,_,rfl,?_⟩;rw [Jj];refine xL (λz=>?_) (λz=>?_)
 ·rcases List.eq_nil_or_concat Ws with e | ⟨rest,p,e⟩
  ·subst e;simp at z
  rw [List.concat_eq_append] at e;subst e;refine ⟨λσ' H'=>∃ m',m'<((rest++[p]).map λp=>F2.nodes p.F).sum/\_,λ_ _ q=>q,?_⟩;have pw:=hA p (q2y _ q1z)
  have pl:((rest++[p]).map λp=>V.ref p.t)[((rest++[p]).map λp=>V.ref p.t).length-1]?=some (V.ref p.t):=by
   rw [Jj,Jk,List.getElem?_map,List.getElem?_append_right (by simp)];simp
  have dl:((rest++[p]).map λp=>V.ref p.t).dropLast=rest.map λp=>V.ref p.t:=by
   rw [Jl];exact List.dropLast_concat
  refine ⟨_,rfl,.inl ⟨rfl,_,h.lst 0 rfl⟩,wl,_,_,rfl,rfl,h.get 0 rfl,pl,?_⟩;rw [dl];have h:=h.put (o':=.lst (rest.map λp=>V.ref p.t)) 0 rfl;generalize upd J wl (.lst (rest.map λp=>V.ref p.t))=J1 at h ⊢;have kf:=L.of p.F;obtain ⟨Qs,⟨dx,fl,px,pp⟩,q2,q3⟩:=F2.parts_at pw.f;have pa:F2.PartsAt c B' p.F p.y Qs:=⟨dx,fl,px,pp⟩;have pxJ:=h.sm _ _ px;refine ⟨_,rfl,p.t,_,_,_,rfl,rfl,SqT.of (h.sm _ _ pw.t),rfl,?_⟩;refine ⟨_,rfl,p.t,_,_,_,rfl,rfl,SqT.of (h.sm _ _ pw.t),rfl,?_⟩;refine ⟨λσ' H'=>H'=J1/\σ'=[rq x,rq fa,rq kd,iq dst,rq wl,rq p.t,rq p.y,iq (p.d+F2.incF p.F),none],?_,?_⟩
  ·refine ⟨_,rfl,_,_,.ref c.cho,_,F2.isCho p.F,rfl,rfl,(λu r=>r),kf.ty pxJ,kf.o,F2.isCho p.F,rfl,?_⟩
   unfold F2.incF
   cases F2.isCho p.F with
   | true=>exact zP ⟨_,rfl,_,_,rfl,rfl,rfl,rfl⟩
   | false=>exact zH ⟨rfl,by rw [show p.d+(if (false:Bool)=true then (1:Int) else 0)=p.d by simp];rfl⟩
  rintro σ' H' ⟨rfl,rfl⟩;have inn:0<=F2.incF p.F:=by unfold F2.incF;split <;> omega
  have dd:=pw.d;generalize hdd:p.d+F2.incF p.F=dep;refine ⟨_,rfl,_,rfl,_,_,rfl,?_⟩;generalize hd1:(if dep > dst then dep else dst)=ds1;refine ⟨λσ' H'=>∃ ds2 kvs2,ds2=max ds1 (dep+F2.extF S p.F)/\F2.Kn S fs.length kvs2/\Hd B' [(wl,.lst (rest.map λp=>V.ref p.t)),(kd,.dK kvs2)] H'/\σ'=[rq x,rq fa,rq kd,iq ds2,rq wl,rq p.t,rq p.y,iq dep,none],?_,?_⟩
  ·refine ⟨_,rfl,_,_,.ref c.call,_,F2.isCall p.F,rfl,rfl,(λu r=>r),kf.ty pxJ,kf.k,F2.isCall p.F,rfl,?_⟩
   cases ec:F2.isCall p.F with
   | false=>exact zH ⟨ds1,kvs',by rw [F2.ext_no ec,← hd1];split <;> omega,hk,h,rfl⟩
   | true =>
    obtain ⟨a,gs,ef⟩:=F2.isCall_ex ec;have c1:=pw.c1;have c2:=pw.c2;rw [ef] at pp c1 c2 pxJ;rw [ef];obtain ⟨l',e',-⟩:=pp;unfold F2.CL at c1 c2;obtain ⟨a',rfl⟩:∃ a':Nat,a=a':=⟨a.toNat,by omega⟩;rw [q0z] at c1 c2;have sp:=h.split (L':=[(kd,.dK kvs')]) (.cons _ (List.Sublist.refl _));refine zP ⟨_,rfl,_,rfl,_,rfl,p.y,_,dx,_,.int a',rfl,pxJ,L.call.cl,L.kA,by rw [e'];rfl,_,rfl,_,rfl,?_⟩;refine ⟨a',fa,kd,fs,S,but H' [kd],kvs',rfl,c1.2.1,c2.2.1,T,hF.same (sB.trans sp.1),sp.2,hk,λJ2 kvs1 h1 hk1=>?_⟩;refine ⟨_,_,rfl,rfl,_,_,rfl,_,kvs1,?_,hk1,h.back 1 rfl h1,rfl⟩;show (if dep+S a' > ds1 then dep+S a' else ds1)=max ds1 (dep+S a')
    split <;> omega
  rintro σ' J2 ⟨ds2,kvs2,e2,hk2,h2,rfl⟩;refine ⟨_,rfl,.inl ⟨rfl,_,h2.lst 0 rfl⟩,_,rfl,p.y,p.F,Qs,rfl,pa.same h2.sm,λJ3 ql h3=>?_⟩;have h3:=join h2 h3
  have qn:(Qs.map λq=>F2.nodes q.1).sum+1=F2.nodes p.F:=by
   rw [F2.nodes_eq p.F,← q2,List.map_map];rfl
  have ql1:Qs.length<=(Qs.map λq=>F2.nodes q.1).sum:=by
   have:=F2.nodes_len (Qs.map Prod.fst);rw [Jj,List.map_map] at this;exact this
  have ql2:rest.length<=(rest.map λq=>F2.nodes q.F).sum:=by
   have:=F2.nodes_len (rest.map F2.WD.F);rw [Jj,List.map_map] at this;exact this
  have em:((rest++[p]).map λp=>F2.nodes p.F).sum=(rest.map λq=>F2.nodes q.F).sum+F2.nodes p.F:=by
   rw [Jl,List.sum_append];show _+(F2.nodes p.F+0)=_;omega
  rw [em] at hm;refine ⟨ql,rfl,⟨_,h3.lst 0 rfl⟩,_,rfl,λD nD=>?_⟩;have h0:=h3.new (o:=.lst (([]:List F2.WD).map λp=>V.ref p.t)) nD;refine YF (K:=K) (a:=ql) (D:=D) (xs:=Qs.map λp=>V.ref p.2) (λi σ J=>∃ (u:Jp) (B2:Hp) (Us:List F2.WD),σ=[u,iq dep]/\Same B' B2/\Hd B2 [(D,.lst (Us.map λp=>V.ref p.t)),(ql,.lst (Qs.map λp=>V.ref p.2)),(wl,.lst (rest.map λp=>V.ref p.t)),(kd,.dK kvs2)] J/\(∀ p∈Us,F2.WAt c n fs.length B2 p)/\Us.map (λu=>(u.F,u.d))=(Qs.take i).map λq=>(q.1,dep)) ⟨none,B',[],rfl,Same.refl _,h0,(λp hp=>nomatch hp),rfl⟩ (λi σ J _ ⟨_,_,_,_,_,h,_⟩=>h.lst 1 rfl) ?_ ?_
  ·clear h0
   rintro i y σ J4 hi ⟨u,B2,Us,rfl,sB2,h4,hA4,hU⟩
   obtain ⟨r,hr',rfl⟩:∃ r,Qs[i]?=some r/\y=V.ref r.2:=by
    rw [List.getElem?_map] at hi
    cases ez:Qs[i]? with
    | none=>rw [ez] at hi;cases hi
    | some z=>rw [ez] at hi;exact ⟨z,rfl,by injection hi with hi;exact hi.symm⟩
   have il:=(List.getElem?_eq_some_iff.mp hr').1;have mr:=List.mem_of_getElem? hr'
   have lu:Us.length<=i:=by
    have:=congrArg List.length hU;rw [Jj,Jj,List.length_take] at this;omega
   refine ⟨_,rfl,_,rfl,(by show 2<=sizeLine;decide),λtt ntt=>?_⟩;have nB:=h4.free ntt;have h5:=grow (o:=.tup [.ref r.2,.int dep]) h4 ntt;have s5:Same B2 (upd B2 tt (.tup [.ref r.2,.int dep])):=yq (Same.refl _) nB;refine ⟨_,h5.get 0 rfl,(by rw [Jj];omega),?_⟩;have h6:=h5.put (o':=.lst ((Us++[(⟨r.1,r.2,dep,tt⟩:F2.WD)]).map λp=>V.ref p.t)) 0 rfl;have el:((Us++[(⟨r.1,r.2,dep,tt⟩:F2.WD)]).map λp=>V.ref p.t)=(Us.map λp=>V.ref p.t)++[V.ref tt]:=by rw [Jl];rfl
   refine ⟨_,_,Us++[⟨r.1,r.2,dep,tt⟩],rfl,sB2.trans s5,by rw [el] at h6 ⊢;exact h6,λv hv=>?_,?_⟩
   ·rcases List.mem_append.mp hv with hv | hv
    ·exact (hA4 v hv).same s5
    ·cases List.mem_singleton.mp hv
     have mr':r.1∈F2.partsF p.F:=by rw [← q2];exact List.mem_map_of_mem mr
     exact ⟨zr,((q3 r mr).same sB2).same s5,pw.c1.parts _ _ mr',pw.c2.parts _ _ mr',by show 0<=dep;omega⟩
   ·rw [Jl,hU,List.take_add_one,hr',Jl]
    rfl
  ·rintro σ J4 ⟨u,B2,Us,rfl,sB2,h4,hA4,hU⟩
   rw [Jj,List.take_length] at hU
   have lu:Us.length=Qs.length:=by
    have:=congrArg List.length hU
    rwa [Jj,Jj] at this
   refine ⟨wl,D,_,_,rfl,rfl,h4.get 2 rfl,h4.get 0 rfl,(by rw [Jj,Jj];omega),?_⟩;have h5:=(h4.put (o':=.lst ((rest++Us).map λp=>V.ref p.t)) 2 rfl).tl.tl;have el:((rest++Us).map λp=>V.ref p.t)=(rest.map λp=>V.ref p.t)++Us.map λp=>V.ref p.t:=List.map_append
   have en:((rest++Us).map λp=>F2.nodes p.F).sum=(rest.map λp=>F2.nodes p.F).sum+(Qs.map λq=>F2.nodes q.1).sum:=by
    rw [Jl,List.sum_append];have:=congrArg (List.map λz=>F2.nodes z.1) hU;rw [List.map_map,List.map_map] at this;have this:(Us.map λp=>F2.nodes p.F)=Qs.map λq=>F2.nodes q.1:=this;rw [this]
   refine ⟨((rest++Us).map λp=>F2.nodes p.F).sum,by rw [en,em];omega,B2,rest++Us,ds2,kvs2,_,_,_,rfl,sB.trans sB2,by rw [el] at h5 ⊢;exact h5,λv hv=>?_,rfl,by rw [en];omega,hk2,?_,?_⟩
   ·rcases List.mem_append.mp hv with hv | hv
    ·exact (hA v (List.mem_append_left _ hv)).same sB2
    ·exact hA4 v hv
   ·rw [e2,← hd1];split <;> omega
   ·have eU:(Us.map λp=>p.d+F2.dp S p.F)=((F2.partsF p.F).map (F2.dp S)).map λx=>dep+x:=by
     have:=congrArg (List.map λz:F2.Fm×Int=>z.2+F2.dp S z.1) hU;rw [List.map_map,List.map_map] at this;have this:(Us.map λp=>p.d+F2.dp S p.F)=Qs.map λq=>dep+F2.dp S q.1:=this;rw [this,← q2,List.map_map,List.map_map];rfl
    have ma:=F2.mx_add (d:=dep) (by omega) ((F2.partsF p.F).map (F2.dp S));have mn:=F2.mx_nn ((F2.partsF p.F).map (F2.dp S));have de:=F2.dp_eq S p.F;rw [Jl,F2.mx_append,eU];rw [Jl,F2.mx_append] at hd;have hd:max dst (max (F2.mx (rest.map λp=>p.d+F2.dp S p.F)) (max (p.d+F2.dp S p.F) 0))=F2.dp S G:=hd;have hd1:max dep dst=ds1:=by rw [← hd1];split <;> omega
    generalize F2.mx (rest.map λp=>p.d+F2.dp S p.F)=R at *;generalize F2.mx (((F2.partsF p.F).map (F2.dp S)).map λx=>dep+x)=U at *;generalize F2.mx ((F2.partsF p.F).map (F2.dp S))=M at *;generalize F2.dp S p.F=dF at *;generalize F2.dp S G=dG at *;generalize F2.extF S p.F=ex at *;generalize F2.incF p.F=ic at *;omega
 ·have e:Ws=[]:=List.eq_nil_of_length_eq_zero (by
   by_cases e:Ws.length=0
   ·exact e
   ·exact absurd (by simp;omega) z)
  subst e;have e:dst=F2.dp S G:=by rw [← hd];show dst=max dst 0;omega
  rw [e];exact ⟨_,rfl,q _ _ (h.tl.weak sB) hk⟩
theorem all_dw {c:F2.Cs} (dB:zB K mg "body_depth" xu ["at","functions","known"]) (d:zB K mg "depth_with" xt ["form","functions","known"]) (hisi:mg "isinstance"=none) (hCa:mg "Call"=some (.ref c.call)) (L:LooksK K c) (hlen:mg "len"=none) (hmax:mg "max"=none) (hCo:mg "Choice"=some (.ref c.cho)) (PO:Ok P w K mg base (CXe P w base) 1 "parts_of" ["form"] (spParts c)):∀ n,Ok P w K mg base CX0 (2*n+4) "depth_with" ["form","functions","known"] (spForm c K F2.dp n)
 | 0=>ok_dw d hisi hCa L (by decide) hlen hmax hCo PO (ok_bd (k:=2) dB λn' e=>by omega)
 | n+1=>ok_dw d hisi hCa L (by omega) hlen hmax hCo PO (ok_bd (k:=2*n+4) dB λn' e=>by cases e;exact all_dw dB d hisi hCa L hlen hmax hCo PO n)
def ok_do {c:F2.Cs} (d:zB K mg "depth_of" Z2 ["form","functions"]) (DW:Ok P w K mg base CX0 20 "depth_with" ["form","functions","known"] (spForm c K F2.dp 8)):Ok P w K mg base CX0 21 "depth_of" ["form","functions"] (spOf c K F2.dp):=by
 obtain ⟨g,fd,m,F,b⟩:=d;refine ⟨g,fd,m,F.kp,b,F.ok sc_depth_of (by rintro vs H Q E ⟨_,_,_,_,_,e,_⟩;rw [e];rfl) λcdv A outer s H vs Q E hr h=>?_⟩;obtain ⟨x,fa,G,fs,S,rfl,hx,h8,hc,hn,T,hF,q⟩:=h;have nd:=sc_depth_of.nd;have hr1:=hr;refine ⟨_,(ze (zi (zx DW hr1 (by rfl) zE (za (pv 0) (za (pv 1) (za Ya zc)))))),?_⟩;refine ⟨_,rfl,_,rfl,λkd nk=>?_⟩;exact ⟨x,fa,kd,G,fs,S,H,[],rfl,hx,hc.mono h8,hc,hn,T,hF,Hd.base.new nk,F2.Kn.nil,λH' kvs' h' _=>q _ h'.sm⟩
end
end K22
namespace K22
open PySem L2
section
variable {P:Program} {w:World} {K:Fg} {mg:J0} {base:Heap}
def spNN (C:Ad):Sp:=λvs H Q _=>∃ (g:Rg) (B:Hp) (L:Jn) (ws:Jg) (p:Nat) (b:Int) (x:Str) (r:Jg) (k1 k2:Jm),vs=[.ref g.r]/\g.C=C/\RAt B g ws p b L H/\ZP (ws.drop p)=.ok (x,r)/\x.length<=100000/\(g.ra,HO.dK k1)∈L/\(g.ha,HO.dK k2)∈L/\zZ k1 (.inr x)=none/\zZ k2 (.inr x)=none/\∀ B' H',Same B B'->RAt B' g ws (p+1) b L H'->ws.drop (p+1)=r->Q (.str x) H'
def zdj {C:Ad} (d:zB K mg "read_new_name" xb ["reading"]) (RN:Ok P w K mg base CX0 3 "read_name" ["reading"] (spRN C)) (RT:Ok P w K mg base CX0 1 "refuse_taken" ["reading","name"] (spRT C)):Ok P w K mg base CX0 4 "read_new_name" ["reading"] (spNN C):=by
 obtain ⟨f,fd,m,F,bd⟩:=d;refine ⟨f,fd,m,F.kp,bd,F.ok sc_read_new_name (by rintro vs H Q E ⟨_,_,_,_,_,_,_,_,_,_,e,_⟩;rw [e];rfl) λcdv A outer s H vs Q E hr h=>?_⟩;obtain ⟨g,B,L,ws,p,b,x,r,k1,k2,rfl,rfl,A1,en,xl,m1,m2,e1,e2,q⟩:=h;have hr3:Room 3 _:=hr;have hr1:Room 1 _:=hr.mono (by decide);have nd:=sc_read_new_name.nd;refine ⟨_,(zb (zq (i:=1) nd rfl (Or.inl rfl) (zx RN hr3 (by rfl) zE (za (pv 0) zc)))
   (zb (zY (zx RT hr1 (by rfl) zE (za (pv 0) (za (pv 1) zc))))
   (ze (zi (pv 1))))),?_⟩
 refine ⟨_,rfl,g,B,L,ws,p,b,x,r,rfl,rfl,A1,en,xl,λB' H' sB A2 er=>?_⟩;refine ⟨_,rfl,_,rfl,g,_,b,x,k1,k2,rfl,rfl,A2.h.get 0 rfl,A2.h.st _ (q1y _ m1),A2.h.st _ (q1y _ m2),e1,e2,?_⟩;exact ⟨_,rfl,q B' H' sB A2 er⟩
inductive spRL (K:Fg) (C:Ad) (c:F2.Cs) (vs:Jo) (H:Hp) (Q:VK) (_:XK):Prop
 | mk (g:Rg) (dg:Dg) (B:Hp) (L0:Jn) (ws:Jg) (p:Nat) (b:Int) (D:Dr) (ts us:Jh) (x:Str) (n:Int) (r1:Jg) (_:vs=[.ref dg.d,.ref g.r]) (_:g.C=C) (_:g.ra=dg.ra) (_:g.ha=dg.ha) (_:DCls K dg.C) (_:RAt B g ws p b (dg.L ts us D++(dg.ta,.lst [])::L0) H) (_:DrAt B c dg D ts us) (_:YW ws) (_:ZP (ws.drop p)=.ok (x,r1)) (_:pNum 1 400 r1=.ok (n,[])) (_:plc x D.rows=none) (_:plc x (D.heads.map Prod.fst)=none) (_:D.rows.length<12) (_:∀ B' H',Same B B'->Hd B' (dg.L ts us { D with rows:=D.rows++[x],lens:=D.lens++[n] }++(dg.ta,.lst [])::L0) H'->DrAt B' c dg { D with rows:=D.rows++[x],lens:=D.lens++[n] } ts us->Q .non H')
def zbb {ws:Jg} {p:Nat} {x:Str} {r:Jg} (wo:YW ws) (h:ZP (ws.drop p)=.ok (x,r)):x.length<=100000:=by
 cases hd:ws.drop p with
 | nil=>rw [hd] at h;cases h
 | cons y l =>
  have my:y∈ws:=List.mem_of_mem_drop (show y∈ws.drop p by rw [hd];exact q1z);rw [hd] at h;have h:(if Zz y=true then Except.ok (y,l) else .error .bad:Pr Str)=.ok (x,r):=h;by_cases hy:Zz y=true
  ·rw [if_pos hy] at h;cases h;exact Nat.le_trans (wo _ my) (by decide)
  ·rw [if_neg hy] at h;cases h
def zdh {C:Ad} {c:F2.Cs} {t1 t2:Tok} (d:zB K mg "read_row_line" xa ["draft","reading"]) (hlen:mg "len"=none) (hMC:mg "MOST_CELLS"=some (.int 400 t1)) (hMR:mg "MOST_ROWS"=some (.int 12 t2)) (WT:Ok P w K mg base CX0 1 "refuse_within_till" ["draft","reading"] (spWT (K:=K))) (NN:Ok P w K mg base CX0 4 "read_new_name" ["reading"] (spNN C)) (NU:Ok P w K mg base CX0 4 "read_number" ["reading","least","most"] (spNu C)) (LE:Ok P w K mg base CX0 2 "read_line_end" ["reading"] (spLE C)):Ok P w K mg base CX0 5 "read_row_line" ["draft","reading"] (spRL K C c):=by
 obtain ⟨f,fd,m,F,bd⟩:=d;refine ⟨f,fd,m,F.kp,bd,F.ok sc_read_row_line (by rintro vs H Q E ⟨_,_,_,_,_,_,_,_,_,_,_,_,_,e,_⟩;rw [e];rfl) λcdv A outer s H vs Q E hr h=>?_⟩;obtain ⟨g,dg,B,L0,ws,p,b,D,ts,us,x,n,r1,rfl,rfl,hra,hha,DC,A1,DA,wo,en,em,px,ph,r12,q⟩:=h;have hr4:Room 4 _:=hr;have hr2:Room 2 _:=hr.mono (by decide);have hr1:Room 1 _:=hr.mono (by decide);have hu:=Nat.lt_of_le_of_lt (Nat.add_le_add_left (show 1<=64 by decide) _) hr.units;have nd:=sc_read_row_line.nd;have SL:(100000:Nat)<sizeLine:=by decide
 refine ⟨_,(zb (zY (zx WT hr1 (by rfl) zE (za (pv 0) (za (pv 1) zc))))
   (zb (zq (i:=2) nd rfl (Or.inl rfl) (zx NN hr4 (by rfl) zE (za (pv 1) zc)))
   (zb (zq (i:=3) nd rfl (Or.inl rfl) (zx NU hr4 (by rfl) zE (za (pv 1) (za zd (za (yE hMC) zc)))))
   (zb (zY (zx LE hr2 (by rfl) zE (za (pv 1) zc)))
   (zb (zC (zm zU (zf zj (by rfl) hlen PySem.boot_len (za (zo (pv 0) rfl) zc)) (yE hMR) (zu _)) zV zh)
   (zb (y4 hu (zo (pv 0) rfl) (pv 2) (zf zj (by rfl) hlen PySem.boot_len (za (zo (pv 0) rfl) zc)) rfl)
   (ze (zY (xB PySem.F.plainAttrs_list PySem.F.slot_list_append PySem.F.type_list_append yh (zo (pv 0) rfl) (za (pv 3) zc)))))))))),?_⟩
 refine ⟨_,rfl,_,rfl,dg,_,rfl,A1.h.sm _ _ DA.d,A1.h.get 5 rfl,DC,?_⟩;refine ⟨_,rfl,g,B,_,ws,p,b,x,r1,_,_,rfl,rfl,A1,en,zbb wo en,(by rw [hra];exact q1z),(by rw [hha];exact .tail _ (.tail _ (.head _))),(by rw [yL,px];rfl),(by rw [xM _ _ _ DA.tl,ph];rfl),λB1 H1 s1 A2 er=>?_⟩;subst er;refine ⟨_,rfl,g,B1,_,ws,p+1,b,1,400,n,[],rfl,rfl,A2,em,wo,λB2 H2 s2 A3 er2=>?_⟩;refine ⟨_,rfl,g,B2,_,ws,p+1+1,b,rfl,rfl,A3,er2,?_⟩;have D2:=DA.same (s1.trans s2);have hx:=A3.h.sm _ _ D2.d;refine ⟨_,rfl,dg.d,dg.C,dg.dd,_,_,rfl,hx,DC.c,DC.n1,rfl,dg.la,_,rfl,.inl (SqL.of (A3.h.get 2 rfl)),rfl,_,rfl,?_⟩;rw [Jj,decide_eq_false (λz=>by have z:=V.int.inj z;have:=DA.rl;omega)];refine zH ⟨_,rfl,dg.d,dg.C,dg.dd,_,_,rfl,hx,DC.c,DC.n1,rfl,dg.la,_,rfl,.inl (SqL.of (A3.h.get 2 rfl)),?_⟩;rw [Jj,← DA.rl];have nl:(zS 0 D.rows).length<sizeLine:=by rw [xj];omega
 have h4:Hd B2 ((g.r,g.o ((p+1+1:Nat):Int) b)::(dg.ra,.dK (zS 0 (D.rows++[x])))::(dg.la,.lst (D.lens.map V.int))::(dg.ha,.dK (ye ts D.heads))::(dg.fa,.lst (us.map V.ref))::(dg.ta,.lst [])::L0) (upd H2 dg.ra (.dK (yX (zS 0 D.rows) (.inr x) (.int D.rows.length)))):=by
  rw [zac px];exact A3.h.put 1 rfl
 refine ⟨_,rfl,dg.d,dg.C,dg.dd,_,_,rfl,hx,DC.c,DC.n0,rfl,_,rfl,dg.ra,_,rfl,DPut.k (k:=.inr x) (A3.h.get 1 rfl) nl,?_⟩
 have h5:Hd B2 ((g.r,g.o ((p+1+1:Nat):Int) b)::(dg.ra,.dK (zS 0 (D.rows++[x])))::(dg.la,.lst ((D.lens++[n]).map V.int))::(dg.ha,.dK (ye ts D.heads))::(dg.fa,.lst (us.map V.ref))::(dg.ta,.lst [])::L0) (upd (upd H2 dg.ra (.dK (yX (zS 0 D.rows) (.inr x) (.int D.rows.length)))) dg.la (.lst (D.lens.map V.int++[.int n]))):=by
  rw [Jl];exact h4.put 2 rfl
 have D3:DrAt B2 c dg { D with rows:=D.rows++[x],lens:=D.lens++[n] } ts us:=⟨D2.d,D2.tl,D2.t,D2.ul,D2.u,D2.hf,(by show (D.rows++[x]).length=(D.lens++[n]).length;rw [Jk,Jk,D2.rl];rfl),(by show (D.rows++[x]).length<=12;rw [Jk];show D.rows.length+1<=12;omega),D2.f8,D2.m⟩;refine ⟨_,rfl,dg.d,dg.C,dg.dd,_,_,rfl,h4.sm _ _ D2.d,DC.c,DC.n1,rfl,tyL (h4.get 2 rfl),_,rfl,dg.la,_,_,rfl,rfl,h4.get 2 rfl,(by rw [Jj,← DA.rl];omega),q B2 _ (s1.trans s2) h5.tl D3⟩
structure ParsOk (fn:Str) (k1 k2:Jm) (ps:Jg):Prop where
 nm:∀ x∈ps,Zz x=true
 nd:ps.Nodup
 nf:fn ∉ ps
 t1:∀ x∈ps,zZ k1 (.inr x)=none
 t2:∀ x∈ps,zZ k2 (.inr x)=none
 l6:ps.length<=6
theorem xA {n:Str}:∀ {l:Jg},n ∉ l->plc n l=none
 | [],_=>rfl
 | x::l,h=>by
  unfold plc;rw [if_neg (λe=>h (by rw [e];exact q1z)),xA (λm=>h (q1y _ m))];rfl
inductive spPs (C:Ad) (vs:Jo) (H:Hp) (Q:VK) (_:XK):Prop
 | mk (g:Rg) (B:Hp) (L:Jn) (ws:Jg) (p:Nat) (b:Int) (fn:Str) (ps r:Jg) (k1 k2:Jm) (_:vs=[.ref g.r,.str fn]) (_:g.C=C) (_:RAt B g ws p b L H) (_:ws.drop p=ps++("=":Str)::r) (_:YW ws) (_:(g.ra,HO.dK k1)∈L) (_:(g.ha,HO.dK k2)∈L) (_:ParsOk fn k1 k2 ps) (_:∀ B' H' oa p',Same B B'->RAt B' g ws p' b L H'->ws.drop p'=r->B' oa=some (.dK (zS 0 ps))->Q (.ref oa) H')
def zaz {C:Ad} {t1:Tok} (d:zB K mg "read_parameters" yO ["reading","function"]) (rC:RCls K C) (hlen:mg "len"=none) (hMP:mg "MOST_PARAMETERS"=some (.int 6 t1)) (NW:OkM P w K mg base CX0 2 C "next_word" ["self"] (spNW C)) (NM:Ok P w K mg base CX0 2 "is_name" ["word"] spNm) (RT:Ok P w K mg base CX0 1 "refuse_taken" ["reading","name"] (spRT C)):Ok P w K mg base CX0 3 "read_parameters" ["reading","function"] (spPs C):=by
 obtain ⟨f,fd,m,F,bd⟩:=d;refine ⟨f,fd,m,F.kp,bd,F.ok sc_read_parameters (by rintro vs H Q E ⟨_,_,_,_,_,_,_,_,_,_,_,e,_⟩;rw [e];rfl) λcdv A outer s H vs Q E hr h=>?_⟩;obtain ⟨g,B,L,ws,p,b,fn,ps,r,k1,k2,rfl,rfl,A1,en,wo,m1,m2,PO,q⟩:=h;have hr2:Room 2 _:=hr;have hr1:Room 1 _:=hr.mono (by decide);have hu:=Nat.lt_of_le_of_lt (Nat.add_le_add_left (show 1<=64 by decide) _) hr.units;have cC:=rC.c;have nd:=sc_read_parameters.nd;have SL:(1000:Nat)<sizeLine:=by decide
 refine ⟨_,(zb (zq (i:=2) nd rfl (Or.inl rfl) Ya)
   (zb (zq (i:=3) nd rfl (Or.inl rfl) (xZ NW cC hr2 zE (pv 0)))
   (zb (Z9 PassesOwn.never (zm yQ (pv 3) zk (zu _)) (zb (zC (z8 (zm zU (zf Xr (by rfl) hlen PySem.boot_len (za (pv 2) zc)) (yE hMP) (zu _)) (zT (zL (zG (zx NM hr2 (by rfl) zE (za (pv 3) zc)))))).pt zV zh)
   (zb (zC (z8 (zm zU (pv 3) (pv 1) (zu _)) (zT (Z4 (X6 hu (pv 3) (pv 2)) rfl))).pt zV zh)
   (zb (zY (zx RT hr1 (by rfl) zE (za (pv 0) (za (pv 3) zc))))
   (zb (y4 hu (pv 2) (pv 3) (zf Xr (by rfl) hlen PySem.boot_len (za (pv 2) zc)) rfl)
   (ze (zq (i:=3) nd rfl (Or.inl rfl) (xZ NW cC hr2 zE (pv 0)))))))))
   (ze (zi (pv 2)))))),?_⟩
 refine λoa no=>?_;have A2:RAt B g ws p b ((oa,.dK (zS 0 (ps.take 0)))::L) (upd H oa (.dK [])):=⟨A1.h.fnew no,A1.w,A1.l⟩
 obtain ⟨x0,r0,e0⟩:∃ x0 r0,ws.drop p=x0::r0:=by
  rw [en];cases ps with
  | nil=>exact ⟨_,_,rfl⟩
  | cons y l=>exact ⟨_,_,rfl⟩
 refine ⟨_,rfl,g.r,g.dx,_,rfl,A2.h.get 0 rfl,rfl,g,B,_,ws,p,b,x0,r0,rfl,rfl,A2,e0,λH2 A3 er=>?_⟩;refine ⟨λmm σ J=>∃ (B1:Hp) (i:Nat) (x:Str) (r1:Jg),i+mm=ps.length/\ps.drop i++("=":Str)::r=x::r1/\σ=[some (.ref g.r),some (.str fn),some (.ref oa),some (.str x)]/\Same B B1/\RAt B1 g ws (p+1+i) b ((oa,.dK (zS 0 (ps.take i)))::L) J/\ws.drop (p+1+i)=r1,⟨ps.length,B,0,x0,r0,Nat.zero_add _,by rw [← e0,en];rfl,rfl,Same.refl _,A3,er⟩,?_⟩;rintro mm σ J ⟨B1,i,x,r1,him,ex,rfl,sB,A4,er1⟩;refine ⟨_,rfl,rfl,_,rfl,?_⟩
 cases hd:ps.drop i with
 | nil =>
  rw [hd] at ex;have ex:("=":Str)::r=x::r1:=ex;obtain ⟨rfl,rfl⟩:=List.cons.inj ex;rw [decide_eq_true rfl]
  have hi:i=ps.length:=by
   have:=congrArg List.length hd;rw [List.length_drop] at this;have e:([]:Jg).length=0:=rfl;omega
  have h3:Hd B1 ((oa,.dK (zS 0 (ps.take i)))::(g.r,g.o ((p+1+i:Nat):Int) b)::L) J:=A4.h.perm (List.Perm.swap _ _ _);rw [hi,List.take_length,← hi] at h3;exact zH ⟨_,rfl,q _ J oa _ (sB.trans h3.settled) ⟨h3.settle,h3.settled _ _ A4.w,A4.l⟩ er1 zr⟩
 | cons y l =>
  rw [hd] at ex;have ex:y::(l++("=":Str)::r)=x::r1:=ex;obtain ⟨rfl,rfl⟩:=List.cons.inj ex
  have il:i<ps.length:=by
   have:=congrArg List.length hd;rw [List.length_drop,q3x] at this;omega
  have ey:ps[i]?=some y:=by
   have:=congrArg (λl:Jg=>l[0]?) hd;simpa using this
  have my:y∈ps:=List.mem_of_getElem? ey;have hl:ps.drop (i+1)=l:=by rw [← List.tail_drop,hd];rfl
  have hy:=PO.nm y my;have hne:y≠"=":=λz=>by rw [z] at hy;exact absurd hy (by decide +kernel)
  have yw:y∈ws:=List.mem_of_mem_drop (show y∈ws.drop p by rw [en];exact List.mem_append_left _ my);have l6:=PO.l6;have tl:(ps.take i).length=i:=by rw [List.length_take];omega
  have ny:y ∉ ps.take i:=λz=>by
   have n:=PO.nd;rw [← List.take_append_drop i ps,hd] at n;exact (List.nodup_append.mp n).2.2 y z y q1z rfl
  rw [decide_eq_false (λz=>hne (V.str.inj z))];refine zP ⟨λσ' H'=>∃ m',m'<mm/\_,λ_ _ z=>z,?_⟩;have ho:=A4.h.get 1 rfl;refine ⟨_,rfl,oa,_,rfl,ho,rfl,_,rfl,?_⟩;rw [xj,tl,decide_eq_false (λz=>by have z:=V.int.inj z;omega)];refine zH ⟨_,rfl,y,rfl,Nat.le_trans (wo y yw) (by decide),λJ1 s1=>⟨_,rfl,?_⟩⟩;rw [hy];obtain ⟨B2,s2,A5⟩:=A4.over s1;refine zH ⟨_,rfl,_,rfl,rfl,_,rfl,?_⟩;rw [decide_eq_false (λz=>PO.nf (by rw [← V.str.inj z];exact my))]
  have hgo:DGet J1 oa (.str y) none:=by
   have:=DGet.k (k:=.inr y) (A5.h.get 1 rfl);rw [yL,xA ny] at this;exact this
  refine zH ⟨_,rfl,_,rfl,oa,_,rfl,hgo,_,rfl,?_⟩;refine zH ⟨_,rfl,_,rfl,g,_,b,y,k1,k2,rfl,rfl,A5.h.get 0 rfl,A5.h.st _ (.tail _ (.tail _ m1)),A5.h.st _ (.tail _ (.tail _ m2)),PO.t1 y my,PO.t2 y my,?_⟩;refine ⟨_,rfl,oa,_,rfl,A5.h.get 1 rfl,?_⟩;rw [xj];have et:ps.take (i+1)=ps.take i++[y]:=by rw [List.take_add_one,ey];rfl
  have h6:Hd B2 ((g.r,g.o ((p+1+i:Nat):Int) b)::(oa,.dK (zS 0 (ps.take (i+1))))::L) (upd J1 oa (.dK (yX (zS 0 (ps.take i)) (.inr y) (.int (ps.take i).length)))):=by
   rw [zac (xA ny),← et];exact A5.h.put 1 rfl
  refine ⟨_,rfl,_,rfl,oa,_,rfl,DPut.k (k:=.inr y) (A5.h.get 1 rfl) (by rw [xj];omega),?_⟩
  obtain ⟨x2,r2,e2⟩:∃ x2 r2,l++("=":Str)::r=x2::r2:=by
   cases l with
   | nil=>exact ⟨_,_,rfl⟩
   | cons y l=>exact ⟨_,_,rfl⟩
  have A6:RAt B2 g ws (p+1+i) b ((oa,.dK (zS 0 (ps.take (i+1))))::L) _:=⟨h6,A5.w,A5.l⟩;refine ⟨_,rfl,g.r,g.dx,_,rfl,A6.h.get 0 rfl,rfl,g,B2,_,ws,_,b,x2,r2,rfl,rfl,A6,by rw [er1,e2],λH7 A7 er7=>?_⟩;exact ⟨mm-1,by omega,B2,i+1,x2,r2,by omega,by rw [hl,e2],rfl,sB.trans s2,A7,er7⟩
end
end K22
namespace L2
open PySem
def pe_fldK {X:Cx} {K:Fg} {e:Expr} {f:Str} {pos:Pos} {ta:TE} (h:X.K=K) (he:PE X e ta) (hb:attributeBase e f X.env (eval e X.env)=eval e X.env):PE X (.Attribute e f pos) (tFld K ta f):=h ▸ zo he hb
end L2
namespace K22
open PySem L2
variable {P:Program} {w:World} {K:Fg} {mg:J0} {base:Heap}
def list_at {Ps:List (F2.Fm×Ad)} {i:Nat} {y:V} (h:(Ps.map λp=>V.ref p.2)[i]?=some y):∃ p,Ps[i]?=some p/\y=V.ref p.2:=by
 rw [List.getElem?_map] at h;obtain ⟨a,e,r⟩:=Option.map_eq_some_iff.mp h;exact ⟨a,e,r.symm⟩
structure CkOk (fs:List F2.Fn) (S T:Nat->Int) (forms:List F2.Fm):Prop where
 f8:fs.length<=8
 ts:F2.Told fs F2.sz S
 tt:F2.Told fs F2.dp T
 cl:∀ F∈forms,F2.CL fs.length F
 nd:∀ F∈forms,F2.nodes F<=2000
 s60:∀ F∈forms,F2.sz S F<=60
 d7:∀ F∈forms,F2.dp T F<=7
inductive spCk (K:Fg) (c:F2.Cs) (vs:Jo) (H:Hp) (Q:VK) (_:XK):Prop
 | mk (g:Dg) (ln:V) (fo:Ad) (fs:List F2.Fn) (S T:Nat->Int) (Ps:List (F2.Fm×Ad)) (_:vs=[.ref g.d,ln,.ref fo]) (_:H g.d=some g.o) (_:DCls K g.C) (_:H fo=some (.lst (Ps.map λp=>V.ref p.2))) (_:∀ p∈Ps,F2.FormAt c H p.1 p.2) (_:F2.FunsAt c K H g.fa fs) (_:CkOk fs S T (Ps.map Prod.fst)) (_:Ps.length<=3) (_:∀ H',Same H H'->Q .non H')
def ok_check {c:F2.Cs} {t1 t2:Tok} (d:zB K mg "check_forms" xT ["draft","line","forms"]) (hany:mg "any"=none) (hGS:mg "GREATEST_SIZE"=some (.int 60 t1)) (hGD:mg "GREATEST_DEPTH"=some (.int 7 t2)) (SO:Ok P w K mg base CX0 21 "size_of" ["form","functions"] (spOf c K F2.sz)) (DO:Ok P w K mg base CX0 21 "depth_of" ["form","functions"] (spOf c K F2.dp)):Ok P w K mg base CX0 22 "check_forms" ["draft","line","forms"] (spCk K c):=by
 obtain ⟨f,fd,m,F,bd⟩:=d;refine ⟨f,fd,m,F.kp,bd,F.ok sc_check_forms (by rintro vs H Q E ⟨_,_,_,_,_,_,_,e,_⟩;rw [e];rfl) λcdv A outer s H vs Q E hr h=>?_⟩;obtain ⟨g,ln,fo,fs,S,T,Ps,rfl,hx,DC,ef,fa,FA,CO,l3,q⟩:=h;have hr21:Room 21 _:=hr;have nd:=sc_check_forms.nd;have SL:(1000:Nat)<sizeLine:=by decide
 refine ⟨_,(zb (zC (zG (zf (zb2 rfl) (by rfl) hany PyProof.Rows.boot_any (za (Zw ["form","draft"] [none,some 0] rfl rfl rfl (xg (pv 2)) (λs3 H3 fp=>⟨ya (i:=0) (Jq ["form","draft"]) rfl (Or.inl rfl),(Zn xI (zx SO hr21 (by rfl) zE (za (pv 0) (za (pe_fldK (K:=K) rfl (pv 1) rfl) zc))) (yE hGS) (zu _))⟩)) zc))) zV zh)
   (ze (zC (zG (zf (zb2 rfl) (by rfl) hany PyProof.Rows.boot_any (za (Zw ["form","draft"] [none,some 0] rfl rfl rfl (xg (pv 2)) (λs3 H3 fp=>⟨ya (i:=0) (Jq ["form","draft"]) rfl (Or.inl rfl),(Zn xI (zx DO hr21 (by rfl) zE (za (pv 0) (za (pe_fldK (K:=K) rfl (pv 1) rfl) zc))) (yE hGD) (zu _))⟩)) zc))) zV zh))),?_⟩
 have SQ:Same H H:=Same.refl _;refine ⟨_,rfl,fo,rfl,⟨_,SqL.of (SQ _ _ ef)⟩,_,rfl,λD nD=>?_⟩;refine YF (K:=K) (a:=fo) (D:=D) (xs:=Ps.map λp=>V.ref p.2) (λi σ J=>∃ u,σ=[u,rq g.d]/\Hd H [(D,.lst (((Ps.take i).map λp=>false).map V.bl))] J) ⟨none,rfl,Hd.base.new nD⟩ (λi σ J _ ⟨_,_,h⟩=>SqL.of (h.sm _ _ (SQ _ _ ef))) ?_ ?_
 ·rintro i y σ J hy ⟨u,rfl,h⟩
  obtain ⟨p,hp,rfl⟩:=list_at hy;have mp:=List.mem_of_getElem? hp;have mf:=List.mem_map_of_mem (f:=Prod.fst) mp;have sH:=SQ.trans h.sm;refine ⟨_,rfl,_,rfl,g.d,g.C,g.dd,_,_,rfl,sH _ _ hx,DC.c,DC.n3,rfl,p.2,g.fa,p.1,fs,S,rfl,(fa p mp).same sH,CO.f8,CO.cl _ mf,CO.nd _ mf,CO.ts,FA.same sH,λJ2 s2=>?_⟩;have h2:=h.same s2;refine ⟨_,_,rfl,rfl,_,h2.get 0 rfl,(by rw [Jj,Jj,List.length_take];omega),_,rfl,?_⟩;have bd:=CO.s60 _ mf;rw [decide_eq_false (by omega)];have h3:=h2.put (o':=.lst (((Ps.take (i+1)).map λp=>false).map V.bl)) 0 rfl
  have e:(((Ps.take (i+1)).map λp=>false).map V.bl)=(((Ps.take i).map λp=>false).map V.bl)++[V.bl false]:=by
   rw [List.take_add_one,hp,Jl,Jl];rfl
  rw [e] at h3 ⊢;exact h3
 rintro σ J ⟨u,rfl,h⟩;rw [Jj,List.take_length] at h;refine ⟨D,_,rfl,h.lst 0 rfl,?_⟩;have e:(Ps.map λp=>false).any id=false:=by rw [List.any_map];exact List.any_eq_false.mpr (λ_ _ z=>by cases z)
 rw [e];refine ⟨_,rfl,zH ?_⟩;have SQ:Same H J:=h.sm;clear nD h e;refine ⟨_,rfl,fo,rfl,⟨_,SqL.of (SQ _ _ ef)⟩,_,rfl,λD nD=>?_⟩;refine YF (K:=K) (a:=fo) (D:=D) (xs:=Ps.map λp=>V.ref p.2) (λi σ J'=>∃ u,σ=[u,rq g.d]/\Hd J [(D,.lst (((Ps.take i).map λp=>false).map V.bl))] J') ⟨none,rfl,Hd.base.new nD⟩ (λi σ J' _ ⟨_,_,h⟩=>SqL.of (h.sm _ _ (SQ _ _ ef))) ?_ ?_
 ·rintro i y σ J' hy ⟨u,rfl,h⟩
  obtain ⟨p,hp,rfl⟩:=list_at hy;have mp:=List.mem_of_getElem? hp;have mf:=List.mem_map_of_mem (f:=Prod.fst) mp;have sH:=SQ.trans h.sm;refine ⟨_,rfl,_,rfl,g.d,g.C,g.dd,_,_,rfl,sH _ _ hx,DC.c,DC.n3,rfl,p.2,g.fa,p.1,fs,T,rfl,(fa p mp).same sH,CO.f8,CO.cl _ mf,CO.nd _ mf,CO.tt,FA.same sH,λJ2 s2=>?_⟩;have h2:=h.same s2;refine ⟨_,_,rfl,rfl,_,h2.get 0 rfl,(by rw [Jj,Jj,List.length_take];omega),_,rfl,?_⟩;have bd:=CO.d7 _ mf;rw [decide_eq_false (by omega)];have h3:=h2.put (o':=.lst (((Ps.take (i+1)).map λp=>false).map V.bl)) 0 rfl
  have e:(((Ps.take (i+1)).map λp=>false).map V.bl)=(((Ps.take i).map λp=>false).map V.bl)++[V.bl false]:=by
   rw [List.take_add_one,hp,Jl,Jl];rfl
  rw [e] at h3 ⊢;exact h3
 rintro σ J' ⟨u,rfl,h⟩;rw [Jj,List.take_length] at h;refine ⟨D,_,rfl,h.lst 0 rfl,?_⟩;have e:(Ps.map λp=>false).any id=false:=by rw [List.any_map];exact List.any_eq_false.mpr (λ_ _ z=>by cases z)
 rw [e];exact ⟨_,rfl,zH (q _ (SQ.trans h.sm))⟩
def x9 {B:Hp} {l:Jh} (hl:∀ a∈l,∃ kvs,B a=some (.dK kvs)) {x:Ad} {o:HO} (h:B x=some o) (n:∀ kvs,o≠.dK kvs):x ∉ l:=λm=>by
 obtain ⟨k,e⟩:=hl x m;rw [h] at e;exact n k (Option.some.inj e)
mutual
theorem Zg {c:F2.Cs} {B:Hp} {l:Jh} (hl:∀ a∈l,∃ kvs,B a=some (.dK kvs)):∀ {F:F2.Fm} {x:Ad},F2.FormAt c B F x->F2.FormAt c (but B l) F x
 | .num _,_,h=>by obtain ⟨dx,h⟩:=h;exact ⟨dx,yv h (x9 hl h (λ_ z=>by cases z))⟩
 | .here,_,h=>by obtain ⟨dx,h⟩:=h;exact ⟨dx,yv h (x9 hl h (λ_ z=>by cases z))⟩
 | .cell _,_,h=>by obtain ⟨dx,h⟩:=h;exact ⟨dx,yv h (x9 hl h (λ_ z=>by cases z))⟩
 | .shi _ _ _,_,h=>by obtain ⟨dx,h⟩:=h;exact ⟨dx,yv h (x9 hl h (λ_ z=>by cases z))⟩
 | .loc _,_,h=>by obtain ⟨dx,h⟩:=h;exact ⟨dx,yv h (x9 hl h (λ_ z=>by cases z))⟩
 | .at' _ _,_,h=>by obtain ⟨dx,y,h,p⟩:=h;exact ⟨dx,y,yv h (x9 hl h (λ_ z=>by cases z)),Zg hl p⟩
 | .pair _ _ _,_,h=>by obtain ⟨dx,y,z,h,p,q⟩:=h;exact ⟨dx,y,z,yv h (x9 hl h (λ_ z=>by cases z)),Zg hl p,Zg hl q⟩
 | .cho _ _ _,_,h=>by obtain ⟨dx,u,y,z,h,o,p,q⟩:=h;exact ⟨dx,u,y,z,yv h (x9 hl h (λ_ z=>by cases z)),Zg hl o,Zg hl p,Zg hl q⟩
 | .call _ _,_,h=>by obtain ⟨dx,l',ys,h,e,p⟩:=h;exact ⟨dx,l',ys,yv h (x9 hl h (λ_ z=>by cases z)),yv e (x9 hl e (λ_ z=>by cases z)),zbq hl p⟩
theorem zbq {c:F2.Cs} {B:Hp} {l:Jh} (hl:∀ a∈l,∃ kvs,B a=some (.dK kvs)):∀ {F:F2.Fms} {ys:Jh},F2.FormsAt c B F ys->F2.FormsAt c (but B l) F ys
 | .nil,_,h=>h
 | .cons _ _,_,h=>by obtain ⟨y,t,e,p,q⟩:=h;exact ⟨y,t,e,Zg hl p,zbq hl q⟩
end
section
variable {B:Hp} {g:Rg} {ws:Jg} {p:Nat} {b:Int} {dg:Dg} {ts us:Jh} {D:Dr} {L0:Jn} {H:Hp}
def RAt.lay (h:RAt B g ws p b (dg.L ts us D++L0) H):∃ B1,Same B B1/\B1 dg.ra=some (.dK (zS 0 D.rows))/\B1 dg.ha=some (.dK (ye ts D.heads))/\B dg.ra=none/\B dg.ha=none/\RAt B1 g ws p b ((dg.la,.lst (D.lens.map V.int))::(dg.fa,.lst (us.map V.ref))::L0) H:=by
 have h1:Hd B ((dg.ra,.dK (zS 0 D.rows))::(g.r,g.o p b)::(dg.la,.lst (D.lens.map V.int))::(dg.ha,.dK (ye ts D.heads))::(dg.fa,.lst (us.map V.ref))::L0) H:=h.h.perm (List.Perm.swap _ _ _);have h2:=h1.settle;have s1:=h1.settled;have h3:Hd (upd B dg.ra (.dK (zS 0 D.rows))) ((dg.ha,.dK (ye ts D.heads))::(g.r,g.o p b)::(dg.la,.lst (D.lens.map V.int))::(dg.fa,.lst (us.map V.ref))::L0) H:=h2.perm (((List.Perm.swap _ _ _).cons _).trans (List.Perm.swap _ _ _));have s2:=h3.settled;exact ⟨_,s1.trans s2,s2 _ _ zr,zr,h1.nw _ q1z,h1.nw _ (.tail _ (.tail _ (.tail _ (.head _)))),h3.settle,(s1.trans s2) _ _ h.w,h.l⟩
def same_but2 {B2:Hp} {x y:Ad} (s:Same B B2) (e1:B x=none) (e2:B y=none):Same B (but B2 [x,y]):=λa o e=>yv (s _ _ e) (λm=>by
 rcases List.mem_cons.mp m with rfl | m
 ·rw [e1] at e;cases e
 ·cases List.mem_singleton.mp m;rw [e2] at e;cases e)
def RAt.unlay {ho:HO} (hn:dg.ra≠dg.ha) (h:RAt B g ws p b ((dg.la,ho)::(dg.fa,.lst (us.map V.ref))::L0) H) (e1:B dg.ra=some (.dK (zS 0 D.rows))) (e2:B dg.ha=some (.dK (ye ts D.heads))):RAt (but B [dg.ra,dg.ha]) g ws p b ((dg.ra,.dK (zS 0 D.rows))::(dg.la,ho)::(dg.ha,.dK (ye ts D.heads))::(dg.fa,.lst (us.map V.ref))::L0) H:=by
 have s:Same (but B [dg.ra,dg.ha]) B:=zc8;have h1:Hd (but B [dg.ra,dg.ha]) ((g.r,g.o p b)::(dg.la,ho)::(dg.fa,.lst (us.map V.ref))::L0) H:=h.h.weak s
 have no:∀ a o,B a=some o->∀ q∈((g.r,g.o p b)::(dg.la,ho)::(dg.fa,HO.lst (us.map V.ref))::L0),q.1≠a:=λa o e q m z=>by
  have:=h.h.nw q m;rw [z,e] at this;cases this
 have h2:=h1.add (no _ _ e2) (Yo (by simp)) (h.h.sm _ _ e2)
 have h3:=h2.add (a:=dg.ra) (λq m=>by
  rcases List.mem_cons.mp m with rfl | m
  ·exact Ne.symm hn
  ·exact no _ _ e1 q m) (Yo (by simp)) (h.h.sm _ _ e1)
 refine ⟨h3.perm (((List.Perm.swap _ _ _).cons _).trans ((List.Perm.swap _ _ _).trans (((List.Perm.swap _ _ _).cons _).cons _))),yv h.w (λm=>?_),h.l⟩;rcases List.mem_cons.mp m with z | m
 ·have:=h.w;rw [z,e1] at this;cases this
 ·have:=h.w;rw [List.mem_singleton.mp m,e2] at this;cases this
def RAt.lns (h:RAt B g ws p b (dg.L ts us D++L0) H):dg.ra≠dg.ha:=h.h.ne 1 3 rfl rfl (by decide)
def DrAt.funs {c:F2.Cs} {K:Fg} (h:DrAt B c dg D ts us) (s:Same B H) (e:H dg.fa=some (.lst (us.map V.ref))):F2.FunsAt c K H dg.fa D.fns:=by
 refine ⟨us,SqL.of e,h.ul,λi hi=>?_⟩;have hu:i<us.length:=by rw [h.ul];exact hi
 obtain ⟨fn,y,a,b,d⟩:=h.u i _ (List.getElem?_eq_getElem hu);have e1:us.getD i 0=us[i]:=by rw [q1x,List.getElem?_eq_getElem hu];rfl
 have e2:D.fns.getD i (0,.here)=fn:=by rw [q1x,a];rfl
 rw [e1,e2];exact ⟨y,SqT.of (s _ _ b),d.same s⟩
end
theorem XA (t:Ad) (x:Str×Nat):∀ (ts:Jh) (l:List (Str×Nat)),ts.length=l.length->ye (ts++[t]) (l++[x])=ye ts l++[(.inr x.1,.ref t)]
 | [],[],_=>rfl
 | u::ts,y::l,e=>by
  show _::ye (ts++[t]) (l++[x])=_::(ye ts l++_);rw [XA t x ts l (Nat.succ.inj e)]
theorem zaj:∀ (ts:Jh) (l:List (Str×Nat)),ts.length=l.length->(ye ts l).length=l.length
 | [],[],_=>rfl
 | u::ts,y::l,e=>congrArg (·+1) (zaj ts l (Nat.succ.inj e))
def DrAt.def_ {B:Hp} {c:F2.Cs} {g:Dg} {D:Dr} {ts us:Jh} {t u y:Ad} {x:Str} {n:Nat} {f:F2.Fm} (h:DrAt B c g D ts us) (et:B t=some (.tup [.int D.fns.length,.int n])) (eu:B u=some (.tup [.int n,.ref y])) (fy:F2.FormAt c B f y) (l8:D.fns.length<8) (n6:n<=6):DrAt B c g { D with heads:=D.heads++[(x,n)],fns:=D.fns++[(n,f)] } (ts++[t]) (us++[u]):=by
 refine ⟨h.d,by show (ts++[t]).length=(D.heads++[(x,n)]).length;rw [Jk,Jk,h.tl];rfl,λi t' e=>?_,by show (us++[u]).length=(D.fns++[(n,f)]).length;rw [Jk,Jk,h.ul];rfl,λi u' e=>?_,by show (D.heads++[(x,n)]).length=(D.fns++[(n,f)]).length;rw [Jk,Jk,h.hf];rfl,h.rl,h.r12,by show (D.fns++[(n,f)]).length<=8;rw [Jk];show D.fns.length+1<=8;omega,λz m=>?_⟩
 ·by_cases hi:i<ts.length
  ·rw [q3z hi] at e
   obtain ⟨x',a,b⟩:=h.t i t' e;exact ⟨x',by show (D.heads++[(x,n)])[i]?=_;rw [q3z (by rw [← h.tl];exact hi)];exact a,b⟩
  ·have hi2:i=ts.length:=by
    have:=(List.getElem?_eq_some_iff.mp e).1;rw [Jk] at this;have e:[t].length=1:=rfl;omega
   subst hi2;rw [List.getElem?_append_right (Nat.le_refl _),Nat.sub_self] at e;cases e;refine ⟨(x,n),?_,?_⟩
   ·show (D.heads++[(x,n)])[ts.length]?=_;rw [h.tl,List.getElem?_append_right (Nat.le_refl _),Nat.sub_self];rfl
   ·rw [h.tl,h.hf];exact et
 ·by_cases hi:i<us.length
  ·rw [q3z hi] at e
   obtain ⟨fn,y',a,b,d⟩:=h.u i u' e;exact ⟨fn,y',by show (D.fns++[(n,f)])[i]?=_;rw [q3z (by rw [← h.ul];exact hi)];exact a,b,d⟩
  ·have hi2:i=us.length:=by
    have:=(List.getElem?_eq_some_iff.mp e).1;rw [Jk] at this;have e:[u].length=1:=rfl;omega
   subst hi2;rw [List.getElem?_append_right (Nat.le_refl _),Nat.sub_self] at e;cases e;refine ⟨(n,f),y,?_,eu,fy⟩;show (D.fns++[(n,f)])[us.length]?=_;rw [h.ul,List.getElem?_append_right (Nat.le_refl _),Nat.sub_self];rfl
 ·rcases List.mem_append.mp m with m | m
  ·exact h.m z m
  ·cases List.mem_singleton.mp m;exact n6
structure DefOk (D:Dr) (nm:Str) (ps:Jg) (S T:Nat->Int) (body:F2.Fm):Prop where
 r:plc nm D.rows=none
 h:plc nm (D.heads.map Prod.fst)=none
 ns:∀ x∈ps,Zz x=true
 nd:ps.Nodup
 nf:nm ∉ ps
 t1:∀ x∈ps,plc x D.rows=none
 t2:∀ x∈ps,plc x (D.heads.map Prod.fst)=none
 l6:ps.length<=6
 l8:D.fns.length<8
 ck:CkOk D.fns S T [body]
def Dr.def_ (D:Dr) (nm:Str) (ps:Jg) (body:F2.Fm):Dr:={ D with heads:=D.heads++[(nm,ps.length)],fns:=D.fns++[(ps.length,body)] }
inductive spDL (K:Fg) (C:Ad) (c:F2.Cs) (vs:Jo) (H:Hp) (Q:VK) (_:XK):Prop
 | mk (g:Rg) (dg:Dg) (B:Hp) (L0:Jn) (ws:Jg) (p:Nat) (D:Dr) (ts us:Jh) (nm:Str) (ps r2:Jg) (body:F2.Fm) (S T:Nat->Int) (_:vs=[.ref dg.d,.ref g.r]) (_:g.C=C) (_:g.ra=dg.ra) (_:g.ha=dg.ha) (_:DCls K dg.C) (_:RAt B g ws p 0 (dg.L ts us D++(dg.ta,.lst [])::L0) H) (_:DrAt B c dg D ts us) (_:YW ws) (_:ZP (ws.drop p)=.ok (nm,ps++("=":Str)::r2)) (_:zX ⟨D.rows,D.heads,some ps⟩ 30 r2=.ok (body,[])) (_:DefOk D nm ps S T body) (_:∀ B' H' ts' us',Same B B'->Hd B' (dg.L ts' us' (D.def_ nm ps body)++(dg.ta,.lst [])::L0) H'->DrAt B' c dg (D.def_ nm ps body) ts' us'->Q .non H')
def zdm {C:Ad} {c:F2.Cs} {t1:Tok} (d:zB K mg "read_def_line" xf ["draft","reading"]) (rC:RCls K C) (hlen:mg "len"=none) (hMF:mg "MOST_FUNCTIONS"=some (.int 8 t1)) (WT:Ok P w K mg base CX0 1 "refuse_within_till" ["draft","reading"] (spWT (K:=K))) (NN:Ok P w K mg base CX0 4 "read_new_name" ["reading"] (spNN C)) (PS:Ok P w K mg base CX0 3 "read_parameters" ["reading","function"] (spPs C)) (RF:Ok P w K mg base CX0 154 "read_form" ["reading"] (spFm C c 30)) (LE:Ok P w K mg base CX0 2 "read_line_end" ["reading"] (spLE C)) (CK:Ok P w K mg base CX0 22 "check_forms" ["draft","line","forms"] (spCk K c)):Ok P w K mg base CX0 155 "read_def_line" ["draft","reading"] (spDL K C c):=by
 obtain ⟨f,fd,m,F,bd⟩:=d;refine ⟨f,fd,m,F.kp,bd,F.ok sc_read_def_line (by rintro vs H Q E ⟨_,_,_,_,_,_,_,_,_,_,_,_,_,_,_,e,_⟩;rw [e];rfl) λcdv A outer s H vs Q E hr h=>?_⟩;obtain ⟨g,dg,B,L0,ws,p,D,ts,us,nm,ps,r2,body,S,T,rfl,rfl,hra,hha,DC,A1,DA,wo,en,ef,DO,q⟩:=h;have hrf:Room 154 _:=hr;have hrc:Room 22 _:=hr.mono (by decide);have hr4:Room 4 _:=hr.mono (by decide);have hr3:Room 3 _:=hr.mono (by decide);have hr2:Room 2 _:=hr.mono (by decide);have hr1:Room 1 _:=hr.mono (by decide);have hu:=Nat.lt_of_le_of_lt (Nat.add_le_add_left (show 1<=64 by decide) _) hr.units;have nd:=sc_read_def_line.nd;have SL:(100000:Nat)<sizeLine:=by decide
 refine ⟨_,(zb (zY (zx WT hr1 (by rfl) zE (za (pv 0) (za (pv 1) zc))))
   (zb (zq (i:=2) nd rfl (Or.inl rfl) (zx NN hr4 (by rfl) zE (za (pv 1) zc)))
   (zb (zR (pv 1) (zx PS hr3 (by rfl) zE (za (pv 1) (za (pv 2) zc))) rfl)
   (zb (zq (i:=3) nd rfl (Or.inl rfl) (zx RF hrf (by rfl) zE (za (pv 1) zc)))
   (zb (zY (zx LE hr2 (by rfl) zE (za (pv 1) zc)))
   (zb (zC (zm zU (zf zj (by rfl) hlen PySem.boot_len (za (zo (pv 0) rfl) zc)) (yE hMF) (zu _)) zV zh)
   (zb (zY (zx CK hrc (by rfl) zE (za (pv 0) (za (zo (pv 1) rfl) (za (zN (za (pv 3) zc)) zc)))))
   (zb (zq (i:=4) nd rfl (Or.inl rfl) (zf Xr (by rfl) hlen PySem.boot_len (za (zo (pv 1) rfl) zc)))
   (zb (y4 hu (zo (pv 0) rfl) (pv 2) (yG (za (zf zj (by rfl) hlen PySem.boot_len (za (zo (pv 0) rfl) zc)) (za (pv 4) zc))) rfl)
   (ze (zY (xB PySem.F.plainAttrs_list PySem.F.slot_list_append PySem.F.type_list_append yh (zo (pv 0) rfl) (za (yG (za (pv 4) (za (pv 3) zc))) zc))))))))))))),?_⟩
 refine ⟨_,rfl,_,rfl,dg,_,rfl,A1.h.sm _ _ DA.d,A1.h.get 5 rfl,DC,?_⟩;have m1:(g.ra,HO.dK (zS 0 D.rows))∈(dg.L ts us D++(dg.ta,.lst [])::L0):=by rw [hra];exact .head _
 have m2:(g.ha,HO.dK (ye ts D.heads))∈(dg.L ts us D++(dg.ta,.lst [])::L0):=by rw [hha];exact .tail _ (.tail _ (.head _))
 refine ⟨_,rfl,g,B,_,ws,p,_,nm,_,_,_,rfl,rfl,A1,en,zbb wo en,m1,m2,(by rw [yL,DO.r];rfl),(by rw [xM _ _ _ DA.tl,DO.h];rfl),λB1 H1 s1 A2 er=>?_⟩;refine ⟨_,rfl,_,rfl,g,B1,_,ws,p+1,0,nm,ps,r2,_,_,rfl,rfl,A2,er,wo,m1,m2,⟨DO.ns,DO.nd,DO.nf,λx mx=>by rw [yL,DO.t1 x mx];rfl,λx mx=>by rw [xM _ _ _ DA.tl,DO.t2 x mx];rfl,DO.l6⟩,λB2 H2 oa p2 s2 A3 er2 eo=>?_⟩;refine ⟨_,rfl,g.r,g.C,g.dx,_,rfl,A3.h.get 0 rfl,rC.c,rC.n4,(by show 7<1000;decide),?_⟩;obtain ⟨g',hg'⟩:∃ g':Rg,g'={ g with ov:=.ref oa }:=⟨_,rfl⟩
 have A4:RAt B2 g' ws p2 0 (dg.L ts us D++(dg.ta,.lst [])::L0) (upd H2 g.r (.ins g.C g.dx (Z3 "own" (.ref oa) [("line",.int g.ln),("words",.ref g.wa),("rows",.ref g.ra),("heads",.ref g.ha),("own",g.ov),("passed",.int ((p2:Nat):Int)),("brackets",.int 0)]))):=by
  subst hg';exact ⟨A3.h.put 0 rfl,A3.w,A3.l⟩
 generalize (upd H2 g.r (.ins g.C g.dx (Z3 "own" (.ref oa) [("line",.int g.ln),("words",.ref g.wa),("rows",.ref g.ra),("heads",.ref g.ha),("own",g.ov),("passed",.int ((p2:Nat):Int)),("brackets",.int 0)])))=H3 at A4 ⊢;have hn:=A4.lns;obtain ⟨B3,s3,er3,eh3,nr3,nh3,A5⟩:=A4.lay;have A5:RAt B3 g' ws p2 (30-((30:Nat):Int)) _ _:=A5;have gr:g'.r=g.r:=by rw [hg']
 have gC:g'.C=g.C:=by rw [hg']
 have gra:g'.ra=dg.ra:=by rw [hg'];exact hra
 have gha:g'.ha=dg.ha:=by rw [hg'];exact hha
 have gov:g'.ov=.ref oa:=by rw [hg']
 have D3:=DA.same (s1.trans (s2.trans s3));have RA:RdAt B3 g' ⟨D.rows,D.heads,some ps⟩:=⟨by rw [gra];exact er3,⟨ts,D3.tl,by rw [gha];exact eh3,D3.t⟩,.inr ⟨ps,oa,rfl,gov,s3 _ _ eo⟩,D3.m⟩;rw [← gr];have rC':RCls K g'.C:=by rw [gC];exact rC
 refine ⟨_,rfl,g',B3,_,ws,p2,⟨D.rows,D.heads,some ps⟩,body,[],rfl,gC,A5,RA,by rw [er2];exact ef,wo,λB4 H4 p4 y s4 A6 er4 fy=>?_⟩;have A6:RAt B4 g' ws p4 0 _ H4:=A6;refine ⟨_,rfl,g',B4,_,ws,p4,0,rfl,gC,A6,er4,?_⟩
 have dk:∀ a∈[dg.ra,dg.ha],∃ kvs,B4 a=some (.dK kvs):=λa m=>by
  rcases List.mem_cons.mp m with rfl | m
  ·exact ⟨_,s4 _ _ er3⟩
  ·cases List.mem_singleton.mp m;exact ⟨_,s4 _ _ eh3⟩
 have A7:=RAt.unlay (D:=D) (ts:=ts) hn A6 (s4 _ _ er3) (s4 _ _ eh3);have fy7:=Zg dk fy;have s7:Same B2 (but B4 [dg.ra,dg.ha]):=same_but2 (s3.trans s4) nr3 nh3;have D7:=DA.same (s1.trans (s2.trans s7));have eo4:B4 oa=some (.dK (zS 0 ps)):=s4 _ _ (s3 _ _ eo);generalize but B4 [dg.ra,dg.ha]=B7 at A7 fy7 s7 D7;have hx:=A7.h.sm _ _ D7.d;refine ⟨_,rfl,dg.d,dg.C,dg.dd,_,_,rfl,hx,DC.c,DC.n3,rfl,dg.fa,_,rfl,.inl (SqL.of (A7.h.get 4 rfl)),rfl,_,rfl,?_⟩;have l8:=DO.l8;have ul:=DA.ul;rw [Jj,decide_eq_false (λz=>by have z:=V.int.inj z;omega)];refine zH ⟨_,rfl,_,rfl,g'.r,g'.C,g'.dx,_,_,rfl,A7.h.get 0 rfl,rC'.c,rC'.n0,rfl,_,rfl,szU 1,λl nl=>?_⟩;obtain ⟨sl,el⟩:=yA (H:=H4) (t:=l) (o:=.lst [.ref y]) rfl nl;have h8:=A7.h.same sl;generalize upd H4 l (.lst [.ref y])=H5 at sl el h8;refine ⟨dg,_,l,D.fns,S,T,[(body,y)],rfl,h8.sm _ _ D7.d,DC,el,λq m=>by cases List.mem_singleton.mp m;exact fy7.same h8.sm,D7.funs h8.sm (h8.get 4 rfl),DO.ck,(by show 1<=3;decide),λH6 s6=>?_⟩;have h9:=h8.same s6;have hd9:=h9.sm _ _ D7.d;refine ⟨_,rfl,g'.r,g'.C,g'.dx,_,_,rfl,h9.get 0 rfl,rC'.c,rC'.n4,rfl,oa,_,congrArg (λz=>[z]) gov,s6 _ _ (sl _ _ (A6.h.sm _ _ eo4)),?_⟩;rw [xj];refine ⟨_,rfl,dg.d,dg.C,dg.dd,_,_,rfl,hd9,DC.c,DC.n3,rfl,dg.fa,_,rfl,.inl (SqL.of (h9.get 4 rfl)),_,rfl,szU 2,λt nt=>?_⟩;rw [Jj,ul];have h10:=h9.grow (o:=.tup [.int D.fns.length,.int ps.length]) nt;have s10:Same B7 (upd B7 t (.tup [.int D.fns.length,.int ps.length])):=yq (Same.refl _) (h9.free nt);have et:(upd B7 t (.tup [.int D.fns.length,.int ps.length])) t=some (.tup [.int D.fns.length,.int ps.length]):=zr;generalize upd B7 t (.tup [.int D.fns.length,.int ps.length])=B10 at h10 s10 et;generalize upd H6 t (.tup [.int D.fns.length,.int ps.length])=H10 at h10;have nl:(ye ts D.heads).length<sizeLine:=by rw [zaj _ _ DA.tl,DA.hf];omega
 have pk:yX (ye ts D.heads) (.inr nm) (.ref t)=ye (ts++[t]) (D.heads++[(nm,ps.length)]):=by
  rw [Y1 _ (by rw [xM _ _ _ DA.tl,DO.h];rfl),XA _ _ _ _ DA.tl]
 refine ⟨_,rfl,dg.d,dg.C,dg.dd,_,_,rfl,h10.sm _ _ (s10 _ _ D7.d),DC.c,DC.n2,rfl,_,rfl,dg.ha,_,rfl,DPut.k (k:=.inr nm) (h10.get 3 rfl) nl,?_⟩;have h11:=h10.put (o':=.dK (yX (ye ts D.heads) (.inr nm) (.ref t))) 3 rfl;generalize upd H10 dg.ha (.dK (yX (ye ts D.heads) (.inr nm) (.ref t)))=H11 at h11;refine ⟨_,rfl,dg.d,dg.C,dg.dd,_,_,rfl,h11.sm _ _ (s10 _ _ D7.d),DC.c,DC.n3,rfl,tyL (h11.get 4 rfl),_,rfl,_,rfl,szU 2,λu nu=>?_⟩;have h12:=h11.grow (o:=.tup [.int ps.length,.ref y]) nu;have s12:Same B10 (upd B10 u (.tup [.int ps.length,.ref y])):=yq (Same.refl _) (h11.free nu);have eu:(upd B10 u (.tup [.int ps.length,.ref y])) u=some (.tup [.int ps.length,.ref y]):=zr;generalize upd B10 u (.tup [.int ps.length,.ref y])=B12 at h12 s12 eu;generalize upd H11 u (.tup [.int ps.length,.ref y])=H12 at h12;refine ⟨dg.fa,_,_,rfl,rfl,h12.get 4 rfl,by rw [Jj];omega,?_⟩;have h13:=h12.put (o':=.lst (us.map V.ref++[.ref u])) 4 rfl;have D12:=(D7.same (s10.trans s12)).def_ (x:=nm) (s12 _ _ et) eu (fy7.same (s10.trans s12)) DO.l8 DO.l6;refine q B12 _ (ts++[t]) (us++[u]) (s1.trans (s2.trans (s7.trans (s10.trans s12)))) ?_ D12;have eus:(us++[u]).map V.ref=us.map V.ref++[.ref u]:=by rw [Jl];rfl
 have:=h13.tl;unfold Dr.def_;dsimp only [Dg.L];rw [eus,← pk];exact this
inductive spWords (vs:Jo) (H:Hp) (Q:VK) (_:XK):Prop
 | mk (z:Str) (_:vs=[.str z]) (_:z.length<=50000) (_:∀ (H':Hp) (D:Ad),Hd H [(D,.lst ((yB z).map V.str))] H'->Q (.ref D) H')
def zdw {l:List Nat} {f:Nat->List Nat} {k:Nat} (h:∀ a,(f a).length<=k):(l.flatMap f).length<=k*l.length:=by
 induction l with
 | nil=>simp
 | cons a l ih =>
  rw [List.flatMap_cons,Jk,q3x,Nat.mul_add];have:=h a;omega
def yZ (z:Str):z.length=(lt' z).length:=by simp [Str.length]
def len_r1 (z:Str):(Txt.replace z "(" " ( ").length<=3*z.length:=by
 have a1:("(":Str)=⟨#[40]⟩:=by decide
 rw [yZ,yZ z,a1,Xh];refine zdw λa=>?_
 split
 ·decide
 ·simp
def len_ap (z:Str):(apart z).length<=3*z.length:=by
 rw [yZ,yZ z,zaq];refine zdw λa=>?_;unfold gB
 split
 ·decide
 ·split
  ·decide
  ·simp
def zbi (z:Str):(Txt.split (apart z) " ").length<=3*z.length+2:=by
 have h:=PyProof.Rows.len_le_of_split (l:=(Txt.split (apart z) " ").map λy=>(y,(0:Tok))) (x:=apart z) (y:=" ") (by rw [List.map_map];exact List.map_id _);rw [Jj] at h;have:=len_ap z;omega
def ok_words (d:zB K mg "words_of" ZT ["line"]):Ok P w K mg base CX0 1 "words_of" ["line"] spWords:=by
 obtain ⟨f,fd,m,F,bd⟩:=d;refine ⟨f,fd,m,F.kp,bd,F.okT sc_words_of (by decide +kernel) (by rintro vs H Q E ⟨_,e,_⟩;rw [e];rfl) λcdv A outer s H vs Q E hr h=>?_⟩;obtain ⟨z,rfl,hz,k⟩:=h;have nd:=sc_words_of.nd;refine ⟨_,psst_cons (pst_set (i:=1) nd rfl (Or.inl rfl) (Xu (Xu (PE.pet (pv 0)))))
  (ze (zi (pe_compF ["word"] [none] rfl rfl rfl (xg (xB PySem.F.plainAttrs_str PySem.F.slot_str_split PySem.F.type_str_split zds (pv 1) (za zk zc))) (λs3 H3 fp=>⟨ya (i:=0) (Jq ["word"]) rfl (Or.inl rfl),(zm yQ (pv 0) zk (zu _)),(pv 0)⟩)))),?_⟩
 have l1:=len_r1 z;have l2:=len_ap z;have l3:=zbi z;have SL:(200000:Nat)<sizeLine:=by decide
 refine ⟨_,rfl,z,rfl,?_,_,rfl,?_,?_⟩
 ·show z.length+(z.length+1)*3<=16777216
  omega
 ·show (Txt.replace z "(" " ( ").length+((Txt.replace z "(" " ( ").length+1)*3<=16777216
  omega
 refine ⟨_,rfl,rfl,apart z," ",rfl,rfl,rfl,?_,λS nS=>?_⟩
 ·omega
 refine ⟨S,rfl,⟨_,SqL.of zr⟩,_,rfl,λD nD=>?_⟩;refine ze5 (K:=K) (a:=S) (D:=D) (xs:=(Txt.split (apart z) " ").map V.str) (λi σ H2=>∃ u,σ=[u]/\Hd H [(D,.lst ((((Txt.split (apart z) " ").take i).filter λw:Str=>w != "").map V.str)),(S,.lst ((Txt.split (apart z) " ").map V.str))] H2) ?_ (λi σ H2 _ ⟨_,_,h⟩=>h.lst 1 rfl) ?_ ?_
 ·exact ⟨none,rfl,(Hd.base.new nS).new nD⟩
 ·rintro i x σ H2 hi ⟨u,rfl,h⟩
  rw [List.getElem?_map] at hi;obtain ⟨y,hy,rfl⟩:=Option.map_eq_some_iff.mp hi;have hlt:i<(Txt.split (apart z) " ").length:=(List.getElem?_eq_some_iff.mp hy).1;have hy':(Txt.split (apart z) " ")[i]=y:=(List.getElem?_eq_some_iff.mp hy).2;have et:(Txt.split (apart z) " ").take (i+1)=(Txt.split (apart z) " ").take i++[y]:=by rw [List.take_succ,hy];rfl
  refine ⟨_,rfl,rfl,?_⟩;have ed:(!decide (V.str y=V.str ("":Str)))=(y != ""):=by rw [zc6];rfl
  rw [ed];refine ⟨_,rfl,?_⟩;refine xL (λq=>?_) (λq=>?_)
  ·refine ⟨_,rfl,_,h.get 0 rfl,?_,some (.str y),rfl,?_⟩
   ·rw [Jj]
    have:=List.length_filter_le (λw:Str=>w != "") ((Txt.split (apart z) " ").take i);rw [List.length_take] at this;omega
   ·rw [et,List.filter_append,Jl]
    have:[y].filter (λw:Str=>w != "")=[y]:=by rw [List.filter_cons,if_pos q];rfl
    rw [this];exact h.put 0 rfl
  ·refine ⟨some (.str y),rfl,?_⟩
   rw [et,List.filter_append];have:[y].filter (λw:Str=>w != "")=[]:=by rw [List.filter_cons,if_neg q];rfl
   rw [this,q3y];exact h
 ·rintro σ H2 ⟨u,rfl,h⟩
  rw [Jj,List.take_length] at h;exact k _ D (h.sub (List.Sublist.cons₂ _ (List.nil_sublist _)))
end K22
namespace L2
open PySem PySem.Spec
inductive rTopNotIn (w:World) (K:Fg) (x y:V) (H:Hp) (Q:VK):Prop
 | mk (k:Str) (a:Ad) (r:Jf) (_:x=.str k) (_:y=.ref a) (_:YG w K a) (_:(a == sysModules)=false) (_:PySem.W.nsIn K a k=some r) (_:Q (.bl (!r.isSome)) H)
def zcm {X:Cx}:OpR X (compareOp .NotIn) (rTopNotIn X.w X.K):=by
 intro pins s σ H x y v u Q I rx ry h;obtain ⟨k,a,r,rfl,rfl,⟨es,n,hl,hk⟩,lo,e,q⟩:=h;obtain ⟨t,rfl⟩:=(show ∃ t,v=Value.str k t from rx);cases (show u=Value.ref a from ry);refine wpAny_notIn_of (strKind_is X.prog X.w k t) lo (PySem.W.mapOf_K (prog:=X.prog) I.kIn hl hk) ?_;rw [PySem.W.find_K hl e];exact ⟨.bl (!r.isSome),H,I.tok _,rfl,q⟩
end L2
namespace K22
open PySem L2
section
variable {P:Program} {w:World} {K:Fg} {mg:J0} {base:Heap}
inductive spI_Rd (C:Ad) (vs:Jo) (H:Hp) (Q:VK) (_:XK):Prop
 | mk (x dx:Ad) (u0 u1 u2 u3:V) (_:vs=[.ref x,u0,u1,u2,u3]) (_:H x=some (.ins C dx [])) (_:∀ H',(∀ b o,b≠x->H b=some o->H' b=some o)->H' x=some (.ins C dx [("line",u0),("words",u1),("rows",u2),("heads",u3),("own",V.non),("passed",V.int 0),("brackets",V.int 0)])->Q .non H')
def okI_Rd {C:Ad} (d:yp K C "Reading.__init__" xw ["self","line","words","rows","heads"]) (rC:RCls K C):OkI P w K mg base (CXe P w base) 1 C ["self","line","words","rows","heads"] (spI_Rd C):=by
 obtain ⟨f,fd,m,F,bd⟩:=d;refine ⟨f,fd,m,bd,F.okE XE (by rintro vs H Q E ⟨_,_,_,_,_,_,e,_⟩;rw [e];rfl) λcdv A outer s H vs Q E hr h=>?_⟩;obtain ⟨x,dx,u0,u1,u2,u3,rfl,hx,k⟩:=h;refine ⟨_,(zb (zR (pv 0) (pv 1) rfl)
   (zb (zR (pv 0) (pv 2) rfl)
   (zb (zR (pv 0) (pv 3) rfl)
   (zb (zR (pv 0) (pv 4) rfl)
   (zb (zR (pv 0) xi rfl)
   (zb (zR (pv 0) zd rfl)
   (ze (zR (pv 0) zd rfl)))))))),?_⟩
 refine ⟨_,rfl,_,rfl,x,C,dx,[],rfl,hx,rC.c,rC.n0,(by show 0<1000;decide),?_⟩;refine ⟨_,rfl,_,rfl,x,C,dx,[("line",u0)],rfl,zr,rC.c,rC.n1,(by show 1<1000;decide),?_⟩;refine ⟨_,rfl,_,rfl,x,C,dx,[("line",u0),("words",u1)],rfl,zr,rC.c,rC.n2,(by show 2<1000;decide),?_⟩;refine ⟨_,rfl,_,rfl,x,C,dx,[("line",u0),("words",u1),("rows",u2)],rfl,zr,rC.c,rC.n3,(by show 3<1000;decide),?_⟩;refine ⟨_,rfl,x,C,dx,[("line",u0),("words",u1),("rows",u2),("heads",u3)],rfl,zr,rC.c,rC.n4,(by show 4<1000;decide),?_⟩;refine ⟨_,rfl,x,C,dx,[("line",u0),("words",u1),("rows",u2),("heads",u3),("own",V.non)],rfl,zr,rC.c,rC.n5,(by show 5<1000;decide),?_⟩;refine ⟨_,rfl,x,C,dx,[("line",u0),("words",u1),("rows",u2),("heads",u3),("own",V.non),("passed",V.int 0)],rfl,zr,rC.c,rC.n6,(by show 6<1000;decide),?_⟩
 exact k _ (λb o nb z=>by
  rw [zF nb,zF nb,zF nb,zF nb,zF nb,zF nb,zF nb];exact z) zr
inductive spI_Dr (C:Ad) (vs:Jo) (H:Hp) (Q:VK) (_:XK):Prop
 | mk (x dx:Ad) (_:vs=[.ref x]) (_:H x=some (.ins C dx [])) (_:∀ H' ra la ha fa ta va na l0,Hd (but H [x]) [(x,.ins C dx [("rows",.ref ra),("lengths",.ref la),("heads",.ref ha),("functions",.ref fa),("tills",.ref ta),("levels",.ref va),("lines",.ref na)]),(na,.lst []),(va,.lst [.ref l0]),(l0,.lst []),(ta,.lst []),(fa,.lst []),(ha,.dK []),(la,.lst []),(ra,.dK [])] H'->Q .non H')
def okI_Dr {C:Ad} (d:yp K C "Draft.__init__" Zm ["self"]) (DC:DCls K C):OkI P w K mg base (CXe P w base) 1 C ["self"] (spI_Dr C):=by
 obtain ⟨f,fd,m,F,bd⟩:=d;refine ⟨f,fd,m,bd,F.okE zaw (by rintro vs H Q E ⟨_,_,e,_⟩;rw [e];rfl) λcdv A outer s H vs Q E hr h=>?_⟩;obtain ⟨x,dx,rfl,hx,q⟩:=h;refine ⟨_,(zb (zR (pv 0) Ya rfl)
   (zb (zR (pv 0) (zN zc) rfl)
   (zb (zR (pv 0) Ya rfl)
   (zb (zR (pv 0) (zN zc) rfl)
   (zb (zR (pv 0) (zN zc) rfl)
   (zb (zR (pv 0) (zN (za (zN zc) zc)) rfl)
   (ze (zR (pv 0) (zN zc) rfl)))))))),?_⟩
 dsimp only [ZR,Cx.nox,Cx.wish];have h:Hd (but H [x]) [(x,.ins C dx [])] H:=Hd.but1 hx;intro ra nra;have h:=h.fnew (o:=.dK []) nra;refine ⟨_,rfl,x,C,dx,[],rfl,h.get 0 rfl,DC.c,DC.n0,(by show 0<1000;decide),?_⟩;have h:=h.fput (o':=.ins C dx [("rows",.ref ra)]);refine ⟨szU 0,λla nla=>?_⟩;have h:=h.fnew (o:=.lst []) nla;refine ⟨_,rfl,x,C,dx,[("rows",.ref ra)],rfl,h.get 0 rfl,DC.c,DC.n1,(by show 1<1000;decide),?_⟩;have h:=h.fput (o':=.ins C dx [("rows",.ref ra),("lengths",.ref la)]);intro ha nha;have h:=h.fnew (o:=.dK []) nha;refine ⟨_,rfl,x,C,dx,[("rows",.ref ra),("lengths",.ref la)],rfl,h.get 0 rfl,DC.c,DC.n2,(by show 2<1000;decide),?_⟩;have h:=h.fput (o':=.ins C dx [("rows",.ref ra),("lengths",.ref la),("heads",.ref ha)]);refine ⟨szU 0,λfa nfa=>?_⟩;have h:=h.fnew (o:=.lst []) nfa;refine ⟨_,rfl,x,C,dx,[("rows",.ref ra),("lengths",.ref la),("heads",.ref ha)],rfl,h.get 0 rfl,DC.c,DC.n3,(by show 3<1000;decide),?_⟩;have h:=h.fput (o':=.ins C dx [("rows",.ref ra),("lengths",.ref la),("heads",.ref ha),("functions",.ref fa)]);refine ⟨szU 0,λta nta=>?_⟩;have h:=h.fnew (o:=.lst []) nta;refine ⟨_,rfl,x,C,dx,[("rows",.ref ra),("lengths",.ref la),("heads",.ref ha),("functions",.ref fa)],rfl,h.get 0 rfl,DC.c,DC.n4,(by show 4<1000;decide),?_⟩;have h:=h.fput (o':=.ins C dx [("rows",.ref ra),("lengths",.ref la),("heads",.ref ha),("functions",.ref fa),("tills",.ref ta)]);refine ⟨szU 0,λl0 nl0=>⟨szU 1,λva nva=>?_⟩⟩;have h:=h.fnew (o:=.lst []) nl0;have h:=h.fnew (o:=.lst [.ref l0]) nva;refine ⟨_,rfl,x,C,dx,[("rows",.ref ra),("lengths",.ref la),("heads",.ref ha),("functions",.ref fa),("tills",.ref ta)],rfl,h.get 0 rfl,DC.c,DC.n5,(by show 5<1000;decide),?_⟩;have h:=h.fput (o':=.ins C dx [("rows",.ref ra),("lengths",.ref la),("heads",.ref ha),("functions",.ref fa),("tills",.ref ta),("levels",.ref va)]);refine ⟨szU 0,λna nna=>?_⟩;have h:=h.fnew (o:=.lst []) nna;refine ⟨_,rfl,x,C,dx,[("rows",.ref ra),("lengths",.ref la),("heads",.ref ha),("functions",.ref fa),("tills",.ref ta),("levels",.ref va)],rfl,h.get 0 rfl,DC.c,DC.n6,(by show 6<1000;decide),?_⟩;have h:=h.fput (o':=.ins C dx [("rows",.ref ra),("lengths",.ref la),("heads",.ref ha),("functions",.ref fa),("tills",.ref ta),("levels",.ref va),("lines",.ref na)]);exact q _ ra la ha fa ta va na l0 h
def linesL:Jg:=["row","def","let","put","fold","run","till","end"]
structure LineFn (P:Program) (w:World) (K:Fg) (mg:J0) (base:Heap) (aL:Ad) (k:Nat) (x:Str) (sp:Sp):Prop where
 ex:∃ (f:Ad) (fd:FuncData),PySem.W.nsIn K aL x=some (some (.ref f))/\FnOk P w K mg base CX0 k f fd ["draft","reading"] sp/\PySem.W.keepIn K (.ref f)=true/\Binds K fd ["draft","reading"] []
def LineFn.of {aL f:Ad} {k k':Nat} {x nm:Str} {sp:Sp} (a:PySem.W.nsIn K aL x=some (some (.ref f))) (m:mg nm=some (.ref f)) (h:Ok P w K mg base CX0 k nm ["draft","reading"] sp) (hk:k<=k'):LineFn P w K mg base aL k' x sp:=by
 obtain ⟨f',fd,m',kp,bd,F⟩:=h;rw [m] at m';cases m';exact ⟨f,fd,a,F.mono hk,kp,bd⟩
inductive spRWs (P:Program) (w:World) (K:Fg) (mg:J0) (base:Heap) (C aL:Ad) (k:Nat) (vs:Jo) (H:Hp) (Q:VK) (E:XK):Prop
 | mk (g:Rg) (d:V) (B:Hp) (L:Jn) (ws:Jg) (b:Int) (x:Str) (r:Jg) (sp:Sp) (_:vs=[d,.ref g.r]) (_:g.C=C) (_:RAt B g ws 0 b L H) (_:ws=x::r) (_:x∈linesL) (_:LineFn P w K mg base aL k x sp) (_:∀ H',RAt B g ws 1 b L H'->sp [d,.ref g.r] H' (λ_ J=>Q .non J) E0)
def zax {C aL:Ad} {k:Nat} (hk:2<=k) (d:zB K mg "read_words" Zh ["draft","reading"]) (rC:RCls K C) (T:TopHas w K mg "LINES" aL linesL) (NW:OkM P w K mg base CX0 2 C "next_word" ["self"] (spNW C)):Ok P w K mg base CX0 (k+1) "read_words" ["draft","reading"] (spRWs P w K mg base C aL k):=by
 obtain ⟨f,fd,m,F,bd⟩:=d;refine ⟨f,fd,m,F.kp,bd,F.ok sc_read_words (by rintro vs H Q E ⟨_,_,_,_,_,_,_,_,_,e,_⟩;rw [e];rfl) λcdv A outer s H vs Q E hr h=>?_⟩;obtain ⟨g,dv,B,L,ws,b,x,r,sp,rfl,rfl,A1,ew,xm,LF,q⟩:=h;have hrk:Room k _:=hr;have hr2:Room 2 _:=hr.mono hk;have cC:=rC.c;have nd:=sc_read_words.nd;obtain ⟨ro,e1,e2⟩:=T.h x;rw [decide_eq_true xm] at e2;obtain ⟨f',fd',a',F',kp',bd'⟩:=LF.ex;refine ⟨_,(zb (zq (i:=2) nd rfl (Or.inl rfl) (xZ NW cC hr2 zE (pv 1)))
   (zb (zC (zm zcm (pv 2) (zM T.g) rfl) zV zh)
   (ze (zY (pe_callV (CX:=CX0) (k:=k) (zn ix_top (zM T.g) (pv 2) (λ_ _=>rfl)) hrk zE (za (pv 0) (za (pv 1) zc))))))),?_⟩
 refine ⟨_,rfl,g.r,g.dx,_,rfl,A1.h.get 0 rfl,rfl,g,B,L,ws,0,b,x,r,rfl,rfl,A1,ew,λH1 A2 er=>?_⟩;refine ⟨_,rfl,x,aL,ro,rfl,rfl,T.T,T.lo,e1,?_⟩;rw [e2];refine ⟨_,rfl,zH ⟨_,rfl,aL,x,_,.ref f',rfl,rfl,T.T,a',rfl,f',fd',_,sp,rfl,F',kp',bd',_,rfl,_,rfl,q H1 A2⟩⟩
end
end K22
namespace L2
open PySem
def pe_okI0 {X:Cx} {CX:CXT} {k:Nat} {C:Ad} {ps:Jg} {sp:Sp} {E:XK} {x:Str} {p pos:Pos} (h:OkI X.prog X.w X.K X.mg X.base CX k C ps sp) (hm:X.mg x=some (.ref C)) (hr:Room (k+1) X.A) (hg:Gl X x) (hx:xk CX X E) (hdb:(x == ("__debug__":Str))=false:=by decide):PE X (.Call (.Name x p) [] [] pos) (tMake C sp [] E tNil):=by
 obtain ⟨f,fd,a,b,d⟩:=h;exact pe_make0 a d hr hg hm b .nil hx hdb
def zb9 {K:Fg} {H:Hp} {x C dx a:Ad} {fl:List (Str×V)} {xs:Jo} (hx:H x=some (.ins C dx fl)) (ha:SqL K H a xs):SqL K (but H [x]) a xs:=by
 have ne:∀ {o:HO},H a=some o->o≠.ins C dx fl->a ∉ [x]:=λ{o} z n m=>by
  cases List.mem_singleton.mp m;rw [hx] at z;injection z with z;exact n z.symm
 rcases ha with (z | ⟨o,z⟩) | z
 ·exact .inl (.inl (yv z (ne z (λq=>by cases q))))
 ·exact .inl (.inr ⟨o,yv z (ne z (λq=>by cases q))⟩)
 ·exact .inr z
end L2
namespace K22
open PySem L2
structure ProgC (K:Fg) (C:Ad):Prop where
 c:Cls K C
 n0:NoAttr K C "lengths"
 n1:NoAttr K C "functions"
 n2:NoAttr K C "steps"
section
variable {P:Program} {w:World} {K:Fg} {mg:J0} {base:Heap}
def za9 (K:Fg) (C:Ad):Sp:=λvs H Q _=>∃ (x dx a b c:Ad) (xs ys zs:Jo),vs=[.ref x,.ref a,.ref b,.ref c]/\H x=some (.ins C dx [])/\SqL K H a xs/\SqL K H b ys/\SqL K H c zs/\∀ H' la lb lc,(H la=none/\H lb=none/\H lc=none)->(∀ b o,b≠x->H b=some o->H' b=some o)->H' la=some (.lst xs)->H' lb=some (.lst ys)->H' lc=some (.lst zs)->H' x=some (.ins C dx [("lengths",.ref la),("functions",.ref lb),("steps",.ref lc)])->Q .non H'
def okI_ProgF {C:Ad} (d:yp K C "Program.__init__" xy ["self","lengths","functions","steps"]) (hlist:mg "list"=none) (pc:ProgC K C):OkI P w K mg base (CXe P w base) 1 C ["self","lengths","functions","steps"] (za9 K C):=by
 obtain ⟨f,fd,m,F,bd⟩:=d;refine ⟨f,fd,m,bd,F.okE XF (by rintro vs H Q E ⟨_,_,_,_,_,_,_,_,e,_⟩;rw [e];rfl) λcdv A outer s H vs Q E hr h=>?_⟩;obtain ⟨x,dx,a,b,c,xs,ys,zs,rfl,hx,ha,hb,hc,k⟩:=h;refine ⟨_,(zb (zR (pv 0) (yH xG (by rfl) hlist PyProof.Rows.boot_list (za (pv 1) zc)) rfl)
   (zb (zR (pv 0) (yH xG (by rfl) hlist PyProof.Rows.boot_list (za (pv 2) zc)) rfl)
   (ze (zR (pv 0) (yH xG (by rfl) hlist PyProof.Rows.boot_list (za (pv 3) zc)) rfl)))),?_⟩
 have h:=Hd.but1 hx;have ha:=zb9 hx ha;have hb:=zb9 hx hb;have hc:=zb9 hx hc;have nb:∀ b' o,b'≠x->H b'=some o->but H [x] b'=some o:=λb' o n z=>yv z (λe=>n (List.mem_singleton.mp e));have fre:∀ {L:Jn} {J:Hp} {l:Ad} {o:HO} (i:Nat),Hd (but H [x]) L J->L[i]?=some (x,o)->J l=none->H l=none:=λ{L J l o} i hh e n=>but_free (hh.free n) (zI (hh.get i e) n).symm;refine ⟨_,rfl,a,_,rfl,.inl (h.sql ha),λla nla=>?_⟩;have fa:=fre 0 h rfl nla;have h:=h.new (o:=.lst xs) nla;refine ⟨_,rfl,x,C,dx,[],rfl,h.get 1 rfl,pc.c,pc.n0,(by show 0<1000;decide),?_⟩;have h:=h.put (o':=.ins C dx [("lengths",.ref la)]) 1 rfl;refine ⟨_,rfl,b,_,rfl,.inl (h.sql hb),λlb nlb=>?_⟩;have fb:=fre 1 h rfl nlb;have h:=h.new (o:=.lst ys) nlb;refine ⟨_,rfl,x,C,dx,[("lengths",.ref la)],rfl,h.get 2 rfl,pc.c,pc.n1,(by show 1<1000;decide),?_⟩;have h:=h.put (o':=.ins C dx [("lengths",.ref la),("functions",.ref lb)]) 2 rfl;refine ⟨_,rfl,c,_,rfl,.inl (h.sql hc),λlc nlc=>?_⟩;have fc:=fre 2 h rfl nlc;have h:=h.new (o:=.lst zs) nlc;refine ⟨_,rfl,x,C,dx,[("lengths",.ref la),("functions",.ref lb)],rfl,h.get 3 rfl,pc.c,pc.n2,(by show 2<1000;decide),?_⟩;have h:=h.put (o':=.ins C dx [("lengths",.ref la),("functions",.ref lb),("steps",.ref lc)]) 3 rfl;exact k _ la lb lc ⟨fa,fb,fc⟩ (λb' o n z=>h.sm _ _ (nb b' o n z)) (h.get 2 rfl) (h.get 1 rfl) (h.get 0 rfl) (h.get 3 rfl)
abbrev Dg.L0 (g:Dg) (l0:Ad):Jn:=[(l0,.lst []),(g.va,.lst [.ref l0]),(g.na,.lst [])]
inductive spRead (P:Program) (w:World) (K:Fg) (mg:J0) (base:Heap) (C aL CD CP CS:Ad) (k:Nat) (vs:Jo) (H:Hp) (Q:VK) (E:XK):Prop
 | mk (z:Str) (ls:Jg) (W:Nat->Hp->Dg->Jn->Prop) (_:vs=[.str z]) (_:Txt.split z "\n"=ls) (hz:z.length<=10000000) (hl:ls.length<=100000) (_:∀ y∈ls,y.length<=15000)
  (hs:∀ i B B' dg L,W i B dg L->Same B B'->W i B' dg L)
  (h3:∀ B dg l0,Same H B->dg.C=CD->B dg.d=some dg.o->W 0 B dg (dg.L [] [] ⟨[],[],[],[]⟩++(dg.ta,.lst [])::dg.L0 l0))
  (h4:∀ i y B dg L,ls[i]?=some y->W i B dg L->yB y=[]->W (i+1) B dg L)
  (h5:∀ i y B dg L x r,ls[i]?=some y->W i B dg L->yB y=x::r->B dg.d=some dg.o->dg.C=CD->x∈linesL/\∃ sp,LineFn P w K mg base aL k x sp/\∀ g H',g.C=C->g.ra=dg.ra->g.ha=dg.ha->g.ln=((i+1:Nat):Int)->g.ov=.non->RAt B g (x::r) 1 0 L H'->∀ Q':VK,(∀ v J B' L',Same B B'->Hd B' L' J->W (i+1) B' dg L'->Q' v J)->sp [.ref dg.d,.ref g.r] H' Q' E0)
  (h6:∀ B dg L J,Same H B->W ls.length B dg L->Hd B L J->dg.C=CD->∃ lens us st kvs lv l0 nl,(dg.ta,HO.lst [])∈L/\(dg.la,HO.lst lens)∈L/\(dg.fa,HO.lst us)∈L/\(dg.va,HO.lst (.ref l0::lv))∈L/\(l0,HO.lst st)∈L/\(dg.ra,HO.dK kvs)∈L/\(dg.na,HO.lst nl)∈L/\kvs.length<=1000 /\
   ∀ H' so sd pr pd la lb lc na,Same J H'->H' so=some (.ins CS sd [("program",.ref pr),("names",.ref na),("lines",.ref dg.na)])->H' pr=some (.ins CP pd [("lengths",.ref la),("functions",.ref lb),("steps",.ref lc)])->H' la=some (.lst lens)->H' lb=some (.lst us)->H' lc=some (.lst st)->H' na=some (.lst (kvs.map λq=>kV q.1))->Q (.ref so) H')
def ok_read {C aL CD CP CS:Ad} {k:Nat} (hk:2<=k) (d:zB K mg "read" zcg ["text"]) (rC:RCls K C) (dC:DCls K CD) (hlen:mg "len"=none) (hlist:mg "list"=none) (hen:mg "enumerate"=none) (hRe:mg "Reading"=some (.ref C)) (hDr:mg "Draft"=some (.ref CD)) (hPr:mg "Program"=some (.ref CP)) (hSo:mg "Source"=some (.ref CS))
  (IR:OkI P w K mg base (CXe P w base) 1 C ["self","line","words","rows","heads"] (spI_Rd C)) (ID:OkI P w K mg base (CXe P w base) 1 CD ["self"] (spI_Dr CD)) (IP:OkI P w K mg base (CXe P w base) 1 CP ["self","lengths","functions","steps"] (za9 K CP)) (IS:OkI P w K mg base (CXe P w base) 1 CS ["self","program","names","lines"] (spI_Source CS))
  (WO:Ok P w K mg base CX0 1 "words_of" ["line"] spWords) (RWS:Ok P w K mg base CX0 (k+1) "read_words" ["draft","reading"] (spRWs P w K mg base C aL k)):Ok P w K mg base CX0 (k+2) "read" ["text"] (spRead P w K mg base C aL CD CP CS k):=by
 obtain ⟨f,fd,m,F,bd⟩:=d;refine ⟨f,fd,m,F.kp,bd,F.ok sc_read (by rintro vs H Q E ⟨_,_,_,e,_⟩;rw [e];rfl) λcdv A outer s H vs Q E hr h=>?_⟩;obtain ⟨z,ls,W,rfl,ez,hz,hl,h2,hs,h3,h4,h5,h6⟩:=h;have hrk:Room (k+1) _:=hr;have hr2:Room 2 _:=hr.mono (by omega);have hr1:Room 1 _:=hr.mono (by omega);have nd:=sc_read.nd;have SL:(16000000:Nat)<sizeLine:=by decide
 refine ⟨_,(zb (zq (i:=1) nd rfl (Or.inl rfl) (pe_okI0 ID hDr hr2 (by rfl) z9))
   (zb (zq (i:=2) nd rfl (Or.inl rfl) (xB PySem.F.plainAttrs_str PySem.F.slot_str_split PySem.F.type_str_split zds (pv 0) (za zk zc)))
   (zb (xh PassesOwn.never rfl (pi_enum rfl hen (za (pv 2) zc)) (pg_tup rfl (zdg (ya (i:=3) nd rfl (Or.inl rfl)) (zdg (ya (i:=4) nd rfl (Or.inl rfl)) pgs_nil))) (zb (zq (i:=5) nd rfl (Or.inl rfl) (zx WO hr1 (by rfl) zE (za (pv 4) zc)))
   (ze (zC (zm xI (zf zj (by rfl) hlen PySem.boot_len (za (pv 5) zc)) zd (zu _)) (ze (zY (zx RWS hrk (by rfl) zE (za (pv 1) (za (Zv IR hRe hr2 (by rfl) z9 (za (pv 3) (za (pv 5) (za (zo (pv 1) rfl) (za (zo (pv 1) rfl) zc))))) zc))))) zh))))
   (zb (zC (zm xI (zf zj (by rfl) hlen PySem.boot_len (za (zo (pv 1) rfl) zc)) zd (zu _)) zV zh)
   (zb (zq (i:=6) nd rfl (Or.inl rfl) (Zv IP hPr hr2 (by rfl) z9 (za (zo (pv 1) rfl) (za (zo (pv 1) rfl) (za (zn zK (zo (pv 1) rfl) zd (λ_ _=>rfl)) zc)))))
   (ze (zi (Zv IS hSo hr2 (by rfl) z9 (za (pv 6) (za (yH (ze8 rfl) (by rfl) hlist PyProof.Rows.boot_list (za (zo (pv 1) rfl) zc)) (za (zo (pv 1) rfl) zc))))))))))),?_⟩
 refine λdx ddx nx ndx ne=>⟨dx,ddx,rfl,zr,λH1 ra la ha fa ta va na l0 h=>⟨rfl,?_⟩⟩;obtain ⟨dg,edg⟩:∃ dg:Dg,dg=⟨CD,dx,ddx,ra,la,ha,fa,ta,va,na⟩:=⟨_,rfl⟩;have s0:Same H (but (upd (upd H ddx (.own dx)) dx (.ins CD ddx [])) [dx]):=λb o e=>yv (by rw [zF (zI e nx),zF (zI e ndx)];exact e) (λm=>zI e nx (List.mem_singleton.mp m))
 have hd1:Hd (upd (but (upd (upd H ddx (.own dx)) dx (.ins CD ddx [])) [dx]) dg.d dg.o) (dg.L [] [] ⟨[],[],[],[]⟩++(dg.ta,.lst [])::dg.L0 l0) H1:=by
  subst edg;exact h.settle.perm (List.reverse_perm _).symm
 have s1:Same H (upd (but (upd (upd H ddx (.own dx)) dx (.ins CD ddx [])) [dx]) dg.d dg.o):=s0.trans (by subst edg;exact h.settled);have ed1:(upd (but (upd (upd H ddx (.own dx)) dx (.ins CD ddx [])) [dx]) dg.d dg.o) dg.d=some dg.o:=zr;have eC:dg.C=CD:=by rw [edg]
 have edx:dx=dg.d:=by rw [edg]
 generalize (upd (but (upd (upd H ddx (.own dx)) dx (.ins CD ddx [])) [dx]) dg.d dg.o)=B1 at hd1 s1 ed1;rw [edx];clear h s0 edx edg;refine ⟨_,rfl,rfl,z,"
",rfl,rfl,rfl,by omega,λS nS=>?_⟩
 rw [ez];have hd2:=hd1.grow (o:=.lst (ls.map V.str)) nS;have sS:Same B1 (upd B1 S (.lst (ls.map V.str))):=yq (Same.refl _) (hd1.free nS);have eS:(upd B1 S (.lst (ls.map V.str))) S=some (.lst (ls.map V.str)):=zr;generalize upd B1 S (.lst (ls.map V.str))=B2 at hd2 sS eS;generalize upd H1 S (.lst (ls.map V.str))=H2 at hd2;refine ⟨_,rfl,S,rfl,⟨_,SqL.of (hd2.sm _ _ eS)⟩,?_⟩;refine for_en (K:=K) (l:=S) (xs:=ls.map V.str) (λi σ J=>∃ (B:Hp) (L:Jn) (u1 u2 u3:Jp),σ=[some (.str z),some (.ref dg.d),some (.ref S),u1,u2,u3,none]/\Same B2 B/\Hd B L J/\W i B dg L) ⟨B2,_,none,none,none,rfl,Same.refl _,hd2,h3 B2 dg l0 (s1.trans sS) eC (sS _ _ ed1)⟩ (λi σ J _ ⟨B,L,_,_,_,_,sB,h,_⟩=>SqL.of (h.sm _ _ (sB _ _ eS))) ?_ ?_
 ·rintro i x σ J T hx ⟨B,L,u1,u2,u3,rfl,sB,hd,hW⟩ nT
  rw [List.getElem?_map] at hx;obtain ⟨y,ey,rfl⟩:=Option.map_eq_some_iff.mp hx;have my:=h2 y (List.mem_of_getElem? ey);have sT:Same J (upd J T (.tup [.int ((i+1:Nat):Int),.str y])):=yq (Same.refl _) nT;have hdT:=hd.same sT;refine ⟨T,_,rfl,SqT.of zr,rfl,_,_,rfl,_,_,rfl,rfl,?_⟩;generalize upd J T (.tup [.int ((i+1:Nat):Int),.str y])=J1 at hdT;refine ⟨_,rfl,y,rfl,by omega,λJ2 D hD=>?_⟩;have hL:=hD.get 0 rfl;have hd3:=hdT.same hD.sm;refine ⟨_,rfl,D,_,rfl,.inl (SqL.of hL),_,_,rfl,rfl,_,rfl,?_⟩;rw [Jj]
  cases hw:yB y with
  | nil =>
   rw [show decide ((0:Int)<(([]:Jg).length:Nat))=false from rfl];exact zH ⟨B,L,_,_,_,rfl,sB,hd3,h4 i y B dg L ey hW hw⟩
  | cons x r =>
   rw [hw] at hL;rw [show decide ((0:Int)<((x::r).length:Nat))=true from decide_eq_true (by rw [q3x];omega)];obtain ⟨B3,s3,hd4,ov⟩:=hdT.over hD.sm
   have eD:B3 D=some (.lst ((x::r).map V.str)):=ov _ _ hL (λm=>by
    obtain ⟨q,mq,eq⟩:=List.mem_map.mp m;have:=hdT.st q mq;rw [eq,hD.nw _ q1z] at this;cases this)
   have ed3:=s3 _ _ (sB _ _ (sS _ _ ed1));have edJ:=hd4.sm _ _ ed3;obtain ⟨xm,sp,LF,hsp⟩:=h5 i y B3 dg L x r ey (hs i B B3 dg L hW s3) hw ed3 eC;rw [← eC] at dC;refine zP ⟨_,rfl,_,rfl,_,rfl,_,rfl,dg.d,dg.C,dg.dd,_,_,rfl,edJ,dC.c,dC.n0,rfl,_,rfl,dg.d,dg.C,dg.dd,_,_,rfl,edJ,dC.c,dC.n2,rfl,?_⟩;refine λrx rdx nx ndx ne=>⟨rx,rdx,_,_,_,_,rfl,zr,λJ3 k3 ex=>⟨rfl,?_⟩⟩;have hd5:=(hd4.made0 nx ndx ne k3 ex).sub (.cons₂ _ (.cons _ (List.Sublist.refl _)))
   have wl:(x::r).length<=50000:=by
    have a:=zbi y;have b:=List.length_filter_le (λw:Str=>w != "") (Txt.split (apart y) " ");have c:(yB y).length<=(Txt.split (apart y) " ").length:=b;rw [hw] at c;omega
   have A1:RAt B3 ⟨C,rx,rdx,D,dg.ra,dg.ha,((i+1:Nat):Int),.non⟩ (x::r) 0 0 L J3:=⟨hd5,eD,wl⟩;refine ⟨⟨C,rx,rdx,D,dg.ra,dg.ha,((i+1:Nat):Int),.non⟩,_,B3,L,x::r,0,x,r,sp,rfl,rfl,A1,rfl,xm,LF,λJ4 A2=>?_⟩;exact hsp _ J4 rfl rfl rfl rfl rfl A2 _ λv J5 B5 L5 s5 hd6 hW5=>⟨B5,L5,_,_,_,rfl,sB.trans (s3.trans s5),hd6,hW5⟩
 ·rintro σ J ⟨B,L,u1,u2,u3,rfl,sB,hd,hW⟩
  rw [Jj] at hW;obtain ⟨lens,us,st,kvs,lv,l0',nl,m1,m2,m3,m4,m5,m6,m7,kl,q⟩:=h6 B dg L J ((s1.trans sS).trans sB) hW hd eC;have edJ:=hd.sm _ _ (sB _ _ (sS _ _ ed1));rw [← eC] at dC;refine ⟨_,rfl,dg.d,dg.C,dg.dd,_,_,rfl,edJ,dC.c,dC.n4,rfl,dg.ta,_,rfl,.inl (SqL.of (hd.st _ m1)),_,_,rfl,rfl,_,rfl,?_⟩;refine zH ⟨_,rfl,dg.d,dg.C,dg.dd,_,_,rfl,edJ,dC.c,dC.n1,rfl,_,rfl,dg.d,dg.C,dg.dd,_,_,rfl,edJ,dC.c,dC.n3,rfl,_,rfl,dg.d,dg.C,dg.dd,_,_,rfl,edJ,dC.c,dC.n5,rfl,dg.va,_,_,_,rfl,rfl,SqL.of (hd.st _ m4),zQ (xs:=V.ref l0'::lv) (j:=0) (v:=.ref l0') rfl,?_⟩;refine λpx pdx npx npdx npe=>?_;have up1:∀ b o,J b=some o->(upd (upd J pdx (.own px)) px (.ins CP pdx [])) b=some o:=λb o e=>by rw [zF (zI e npx),zF (zI e npdx)];exact e
  refine ⟨px,pdx,dg.la,dg.fa,l0',lens,us,st,rfl,zr,?_,?_,?_,λH5 la' lb' lc' fr k5 e1 e2 e3 e4=>⟨rfl,?_⟩⟩
  ·exact SqL.of (up1 _ _ (hd.st _ m2))
  ·exact SqL.of (up1 _ _ (hd.st _ m3))
  ·exact SqL.of (up1 _ _ (hd.st _ m5))
  have s5:Same J H5:=λb o e=>k5 b o (zI e npx) (up1 _ _ e);refine ⟨_,rfl,_,rfl,dg.d,dg.C,dg.dd,_,_,rfl,s5 _ _ edJ,dC.c,dC.n0,rfl,dg.ra,kvs,rfl,s5 _ _ (hd.st _ m6),by omega,λnD nnD=>?_⟩;obtain ⟨s6,e6⟩:=yA (H:=H5) (t:=nD) (o:=.lst (kvs.map λq=>kV q.1)) rfl nnD;generalize upd H5 nD (.lst (kvs.map λq=>kV q.1))=H6 at s6 e6;refine ⟨_,rfl,dg.d,dg.C,dg.dd,_,_,rfl,s6 _ _ (s5 _ _ edJ),dC.c,dC.n6,rfl,?_⟩;refine λsx sdx nsx nsdx nse=>⟨sx,sdx,_,_,_,rfl,zr,λH7 k7 e7=>⟨rfl,?_⟩⟩;have s7:Same H6 H7:=λb o e=>k7 b o (zI e nsx) (by rw [zF (zI e nsx),zF (zI e nsdx)];exact e);exact q H7 sx sdx px pdx la' lb' lc' nD (s5.trans (s6.trans s7)) e7 (s7 _ _ (s6 _ _ e4)) (s7 _ _ (s6 _ _ e1)) (s7 _ _ (s6 _ _ e2)) (s7 _ _ (s6 _ _ e3)) (s7 _ _ e6)
end
end K22
namespace K22
open PySem L2 PySem.NumText
def Z7 (m:Nat):AllDigits ((Nat.toDigits 10 m).map Char.toNat):=λc hc=>by
 obtain ⟨ch,hch,e⟩:=List.mem_map.mp hc;have r:=PyProof.Rows.digit_range (Nat.isDigit_of_mem_toDigits (by decide) (by decide) hch);rw [← e];exact r
def Xp (m:Nat):((Nat.toDigits 10 m).map Char.toNat)≠[]:=λe=>by
 have h:=toDigits_len_ge 10 m;rw [List.map_eq_nil_iff.mp e] at h;exact absurd h (by decide)
def zd4:∀ m:Nat,0<m->((Nat.toDigits 10 m).map Char.toNat)[0]?≠some 48:=by
 intro m
 induction m using Nat.strongRecOn with
 | _ m ih =>
  intro hm;by_cases h:m<10
  ·rw [Nat.toDigits_of_lt_base h]
   have:∀ d:Nat,d<10->0<d->([Nat.digitChar d].map Char.toNat)[0]?≠some 48:=by decide
   exact this m h hm
  ·have hm':m % 10<10:=Nat.mod_lt m (by decide)
   have t:Nat.toDigits 10 (m / 10)++Nat.toDigits 10 (m % 10)=Nat.toDigits 10 (10*(m / 10)+m % 10):=Nat.toDigits_append_toDigits (by decide) (by omega) hm';rw [Nat.div_add_mod] at t;rw [← t,Jl];have ne:=Xp (m / 10);have:=ih (m / 10) (by omega) (by omega);rw [q3z (List.length_pos_iff.mpr ne)];exact this
theorem XM:∀ (k m:Nat),m<10 ^ (k+1)->((Nat.toDigits 10 m).map Char.toNat).length<=k+1
 | 0,m,h=>by rw [Nat.toDigits_of_lt_base (by simpa using h)];exact Nat.le_refl _
 | k+1,m,h=>by
  by_cases h1:m<10
  ·rw [Nat.toDigits_of_lt_base h1];show 1<=k+2;omega
  ·have hm':m % 10<10:=Nat.mod_lt m (by decide)
   have t:Nat.toDigits 10 (m / 10)++Nat.toDigits 10 (m % 10)=Nat.toDigits 10 (10*(m / 10)+m % 10):=Nat.toDigits_append_toDigits (by decide) (by omega) hm';rw [Nat.div_add_mod] at t;rw [← t,Jl,Jk];have a:=XM k (m / 10) (by rw [Nat.pow_succ] at h;omega);have b:((Nat.toDigits 10 (m % 10)).map Char.toNat).length=1:=by rw [Nat.toDigits_of_lt_base hm'];rfl
   omega
def Ye {z:Str} (h:AllDigits z.cps.toList):Yf z figS=true:=List.all_eq_true.mpr λc m=>by
 have:=h c m;rw [Y9,zbs];refine decide_eq_true ?_;simp only [List.mem_cons,List.not_mem_nil,or_false];omega
def Yb {n:Int} (h1:-9223372036854775808<=n) (h2:n<=9223372036854775807):YJ (numS n)=some n:=by
 have hk:FM.kept n=n:=by
  unfold FM.kept;omega
 unfold YJ;by_cases h0:0<=n
 ·obtain ⟨m,rfl⟩:=Int.eq_ofNat_of_zero_le h0
  have el:(numS (m:Int)).cps.toList=(Nat.toDigits 10 m).map Char.toNat:=zdp m;have hl:=XM 18 m (by have:(10:Nat) ^ 19=10000000000000000000:=(by decide);omega)
  have zl:(numS (m:Int)).length=((Nat.toDigits 10 m).map Char.toNat).length:=by rw [← el];simp [Str.length]
  have it:=intText_digits (x:=numS (m:Int)) (by rw [el];exact Z7 m) (by rw [el];exact Xp m) (by rw [zl];omega);rw [el,PySem.W.KIN.val_back] at it
  have fo:yN (numS (m:Int))=numS (m:Int):=by
   unfold yN;rw [if_neg];rw [show ("-":Str)=⟨#[45]⟩ by decide +kernel,Zt,decide_eq_true_eq,el];intro e;have:=Z7 m 45 (List.mem_of_getElem? e);omega
  have wr:isWr (numS (m:Int))=true:=by
   unfold isWr;rw [fo,Ye (by rw [el];exact Z7 m),decide_eq_true (show 1<=(numS (m:Int)).length by rw [zl];exact List.length_pos_iff.mpr (Xp m)),decide_eq_true (show (numS (m:Int)).length<=19 by rw [zl];exact hl)];by_cases hm:m=0
   ·subst hm
    rw [show numS ((0:Nat):Int)="0" by decide +kernel,decide_eq_true rfl];rfl
   ·rw [show ("0":Str)=⟨#[48]⟩ by decide +kernel,Zt,el,decide_eq_false (p:=_[0]?=some 48) (zd4 m (by omega)),Bool.not_false,Bool.or_true]
    rfl
  rw [if_pos wr,it];show (if FM.kept (m:Int)=m then some (m:Int) else none)=_;rw [if_pos hk]
 ·obtain ⟨m,rfl⟩:∃ m:Nat,n=-((m+1:Nat):Int):=⟨(-n-1).toNat,by omega⟩
  have el:(numS (-((m+1:Nat):Int))).cps.toList=45::(Nat.toDigits 10 (m+1)).map Char.toNat:=zdo m;have hl:=XM 18 (m+1) (by have:(10:Nat) ^ 19=10000000000000000000:=(by decide);omega)
  have zl:(numS (-((m+1:Nat):Int))).length=((Nat.toDigits 10 (m+1)).map Char.toNat).length+1:=by
   have:(numS (-((m+1:Nat):Int))).length=(numS (-((m+1:Nat):Int))).cps.toList.length:=by simp [Str.length]
   rw [this,el,q3x]
  have it:=intText_neg (x:=numS (-((m+1:Nat):Int))) el (Z7 (m+1)) (Xp (m+1)) (by rw [zl];omega);rw [PySem.W.KIN.val_back] at it
  have st:Txt.startswith (numS (-((m+1:Nat):Int))) "-"=true:=by
   rw [show ("-":Str)=⟨#[45]⟩ by decide +kernel,Zt,el];rfl
  have fo:(yN (numS (-((m+1:Nat):Int)))).cps.toList=(Nat.toDigits 10 (m+1)).map Char.toNat:=by
   unfold yN;rw [if_pos st,zba (by rw [el];simp),el];rfl
  have fl:(yN (numS (-((m+1:Nat):Int)))).length=((Nat.toDigits 10 (m+1)).map Char.toNat).length:=by rw [← fo];simp [Str.length]
  have wr:isWr (numS (-((m+1:Nat):Int)))=true:=by
   unfold isWr;rw [Ye (by rw [fo];exact Z7 (m+1)),decide_eq_true (show 1<=(yN (numS (-((m+1:Nat):Int)))).length by rw [fl];exact List.length_pos_iff.mpr (Xp (m+1))),decide_eq_true (show (yN (numS (-((m+1:Nat):Int)))).length<=19 by rw [fl];exact hl)];rw [show Txt.startswith (yN (numS (-((m+1:Nat):Int)))) "0"=false by rw [show ("0":Str)=⟨#[48]⟩ by decide +kernel,Zt,fo];exact decide_eq_false (zd4 (m+1) (by omega))];rw [Bool.not_false,Bool.or_true];rfl
  rw [if_pos wr,it];show (if FM.kept (-((m+1:Nat):Int))=_ then some (-((m+1:Nat):Int)) else none)=_;rw [if_pos hk]
end K22
namespace K22
open PySem L2
variable {P:Program} {w:World} {K:Fg} {mg:J0} {base:Heap}
def SgnN (l:List Nat):Prop:=∀ a∈l,a≠32/\a≠40/\a≠41/\a≠10
def WG (w:Str):Prop:=w="("∨w=")"∨(lt' w≠[]/\SgnN (lt' w))
def brk (w:Str):Bool:=decide (w="("∨w=")")
def zc0 {x y:Str} (h:lt' x=lt' y):x=y:=by
 obtain ⟨⟨a⟩⟩:=x;obtain ⟨⟨b⟩⟩:=y;have h:a=b:=h;rw [h]
def map_inj:∀ {xs ys:Jg},xs.map lt'=ys.map lt'->xs=ys:=by
 intro xs
 induction xs with
 | nil=>intro ys h;cases ys with
  | nil=>rfl
  | cons=>cases h
 | cons x xs ih=>intro ys h;cases ys with
  | nil=>cases h
  | cons y ys=>injection h with h1 h2;rw [zc0 h1,ih h2]
def xD (x y:Str):lt' (x++y)=lt' x++lt' y:=by
 show (x.cps++y.cps).toList=_;rw [Array.toList_append]
def Za (x y:Str):(x++y).length=x.length+y.length:=by rw [yZ,yZ x,yZ y,xD,Jk]
def Zo (n c:Nat):(⟨(List.replicate n c).toArray⟩:Str).length=n:=by rw [yZ];show (List.replicate n c).length=n;simp
def brk_in {w:Str} (h:WG w):(!(Builtin.Str.occurrences ("()":Str) w 0 ("()":Str).length 1).isEmpty)=brk w:=by
 rcases h with rfl | rfl | ⟨h1,h2⟩
 ·decide +kernel
 ·decide +kernel
 ·have hb:brk w=false:=decide_eq_false λz=>by
   rcases z with rfl | rfl
   ·exact (h2 40 (by decide)).2.1 rfl
   ·exact (h2 41 (by decide)).2.2.1 rfl
  rw [hb,Bool.eq_false_iff];intro q;obtain ⟨i,hi,hs⟩:=(StrLaws.found_iff _ _).mp q
  obtain ⟨a,ha⟩:∃ a,a∈lt' w:=by
   cases hw:lt' w with
   | nil=>exact absurd hw h1
   | cons a l=>exact ⟨a,q1z⟩
  have hs:(("()":Str).cps.extract i (i+w.length) == w.cps)=true:=hs;have hs:=eq_of_beq hs;have hm:a∈("()":Str).cps.extract i (i+w.length):=by rw [hs];exact Array.mem_toList_iff.mp ha
  have hm:a∈("()":Str).cps:=by
   obtain ⟨j,hj,e⟩:=Array.mem_iff_getElem.mp hm;rw [Array.getElem_extract] at e;rw [← e];exact Array.getElem_mem _
  have:a=40∨a=41:=by
   have e:("()":Str).cps=#[40,41]:=by decide +kernel
   rw [e] at hm;simpa using hm
  rcases this with rfl | rfl
  ·exact (h2 40 ha).2.1 rfl
  ·exact (h2 41 ha).2.2.1 rfl
def WG.free {w:Str} (h:WG w):10 ∉ lt' w:=by
 rcases h with rfl | rfl | ⟨_,h⟩
 ·decide
 ·decide
 ·exact λm=>(h 10 m).2.2.2 rfl
def Wd.snoc {z w:Str} {due:List (List Nat)} {b:Bool} (h:Wd (lt' z) due b) (hw:WG w) (hb:b=true->brk w=true):∃ b',Wd (lt' (z++w)) (due++[lt' w]) b'/\(b'=true->brk w=false):=by
 rw [xD];rcases hw with rfl | rfl | ⟨h1,h2⟩
 ·exact ⟨false,h.bracket (c:=40) (.inl rfl),λz=>by cases z⟩
 ·exact ⟨false,h.bracket (c:=41) (.inr rfl),λz=>by cases z⟩
 ·have nb:brk w=false:=decide_eq_false λz=>by
   rcases z with rfl | rfl
   ·exact (h2 40 (by decide)).2.1 rfl
   ·exact (h2 41 (by decide)).2.2.1 rfl
  cases b with
  | true=>rw [nb] at hb;exact absurd (hb rfl) (by decide)
  | false=>exact ⟨true,h.word (λa ha=>⟨(h2 a ha).1,(h2 a ha).2.1,(h2 a ha).2.2.1⟩) h1,λ_=>nb⟩
def Wd.sp {z:Str} {due:List (List Nat)} {b:Bool} (h:Wd (lt' z) due b) (g:Nat):∃ b',Wd (lt' (z++(⟨(List.replicate g 32).toArray⟩:Str))) due b'/\(b'=true->g=0/\b=true):=by
 rw [xD]
 cases g with
 | zero=>exact ⟨b,by show Wd (lt' z++[]) due b;rw [q3y];exact h,λz=>⟨rfl,z⟩⟩
 | succ g=>exact ⟨false,h.spaces g,λz=>by cases z⟩
def Y0 (g:Nat):10 ∉ lt' (⟨(List.replicate g 32).toArray⟩:Str):=λm=>by
 have m:10∈List.replicate g 32:=m;rw [List.mem_replicate] at m;exact absurd m.2 (by decide)
def spMx:Sp:=λvs H Q _=>∃ a k:Int,vs=[.int a,.int k]/\∀ n,0<=n->n<2147483629->Q (.int n) H
def ok_mixed (d:zB K mg "_law_mixed" Ys ["_law_cell","_law_k"]):Ok P w K mg base (CXe P w base) 1 "_law_mixed" ["_law_cell","_law_k"] spMx:=by
 obtain ⟨g,fd,m,F,b⟩:=d;refine ⟨g,fd,m,F.kp,b,F.okE sc_l_mixed (by rintro vs H Q E ⟨_,_,e,_⟩;rw [e];rfl) λcdv A outer s H vs Q E hr h=>?_⟩;obtain ⟨a,k,rfl,q⟩:=h;have nd:=sc_l_mixed.nd;refine ⟨_,(zb (zq (i:=2) nd rfl (Or.inl rfl) (zA zO (zA YT (zA yI (zA yI (zA zO (pv 0) zd) (zA YT zd (pv 1))) zd) zd) zd))
   (ze (zi (zA zO (zA YT (pv 2) (pv 2)) zd)))),?_⟩
 refine ⟨_,rfl,_,_,rfl,rfl,(by show (0:Int)<2147483647;decide),_,rfl,_,_,rfl,rfl,.inl ⟨by decide,by decide⟩,_,_,rfl,rfl,_,_,rfl,rfl,_,_,rfl,rfl,.inr ⟨by decide,by decide⟩,_,_,rfl,rfl,(by show (0:Int)<2147483647;decide),?_⟩;have z0:=Int.emod_nonneg ((a % 2147483647+5*k+1)*48271) (show (2147483647:Int)≠0 by decide);have z1:=Int.emod_lt_of_pos ((a % 2147483647+5*k+1)*48271) (show (0:Int)<2147483647 by decide);show XB 2 (.int ((a % 2147483647+5*k+1)*48271 % 2147483647)) _ _ _;generalize (a % 2147483647+5*k+1)*48271 % 2147483647=z at z0 z1;exact ⟨_,rfl,_,rfl,_,_,rfl,rfl,.inl ⟨by omega,by omega⟩,_,_,rfl,rfl,(by show (0:Int)<2147483629;decide),q _ (Int.emod_nonneg _ (by decide)) (Int.emod_lt_of_pos _ (by decide))⟩
inductive spSpc (vs:Jo) (H:Hp) (Q:VK) (_:XK):Prop
 | mk (a:Ad) (ws:Jg) (c:Int) (_:vs=[.ref a,.int c]) (_:H a=some (.lst (ws.map V.str))) (_:∀ w∈ws,WG w/\w.length<=20) (_:ws.length<=500) (_:∀ z:Str,yB z=ws->10 ∉ lt' z->z.length<=15000->Q (.str z) H)
def ok_spaced (d:zB K mg "_law_spaced" ZY ["_law_words","_law_cell"]) (MX:Ok P w K mg base (CXe P w base) 1 "_law_mixed" ["_law_cell","_law_k"] spMx):Ok P w K mg base CX0 2 "_law_spaced" ["_law_words","_law_cell"] spSpc:=by
 obtain ⟨f,fd,m,F,bd⟩:=d;refine ⟨f,fd,m,F.kp,bd,F.ok sc_l_spaced (by rintro vs H Q E ⟨_,_,_,e,_⟩;rw [e];rfl) λcdv A outer s H vs Q E hr h=>?_⟩;obtain ⟨a,ws,c,rfl,ha,wg,l5,q⟩:=h;have hr1:Room 1 _:=hr;have nd:=sc_l_spaced.nd;have SL:(100000:Nat)<sizeLine:=by decide
 refine ⟨_,(zb (zq (i:=2) nd rfl (Or.inl rfl) (zx MX hr1 (by rfl) z9 (za (pv 1) (za zd zc))))
   (zb (zq (i:=3) nd rfl (Or.inl rfl) (zA Y4 zk (zA zO (pv 2) zd)))
   (zb (zq (i:=4) nd rfl (Or.inl rfl) zk)
   (zb (xh PassesOwn.never rfl (xg (pv 0)) (ya (i:=5) nd rfl (Or.inl rfl)) (zb (zq (i:=2) nd rfl (Or.inl rfl) (zA zO (zA yI (zA YT (pv 2) zd) zd) zd))
   (zb (zq (i:=6) nd rfl (Or.inl rfl) (zA zO (zA z5 (pv 2) zd) zd))
   (zb (xz (zC (y6 (zm zU (pv 6) zd (zu _)) (y6 (zm Y3 (pv 4) zk rfl) (yP (zm Y3 (pv 5) zk rfl)))).pt (ze (zq (i:=6) nd rfl (Or.inl rfl) zd)) zh))
   (zb (zq (i:=3) nd rfl (Or.inl rfl) (zA ym (zA ym (pv 3) (zA Y4 zk (pv 6))) (pv 5)))
   (ze (zq (i:=4) nd rfl (Or.inl rfl) (pv 5))))))))
   (ze (zi (zA ym (pv 3) (zA Y4 zk (zA zO (zA z5 (pv 2) zd) zd))))))))),?_⟩
 refine ⟨_,rfl,c,4,rfl,λm0 m0p m0l=>?_⟩;have e3:0<=m0 % 3/\m0 % 3<3:=⟨Int.emod_nonneg _ (by decide),Int.emod_lt_of_pos _ (by decide)⟩;refine ⟨_,rfl,_,_,rfl,rfl,(by show (0:Int)<3;decide),32,_,rfl,rfl,e3.1,by omega,?_⟩;obtain ⟨b0,w0,w1⟩:=Wd.sp (z:="") Wd.nil (m0 % 3).toNat;rw [xD] at w0;have b0f:b0=true->False:=λz=>by cases (w1 z).2
 refine ⟨_,rfl,a,rfl,⟨_,SqL.of ha⟩,?_⟩;refine Xa (K:=K) (a:=a) (xs:=ws.map V.str) (λi σ J=>∃ (mx:Int) (z ah:Str) (u5 u6:Jp) (b:Bool),σ=[some (.ref a),some (.int c),some (.int mx),some (.str z),some (.str ah),u5,u6]/\J=H/\0<=mx/\Wd (lt' z) ((ws.take i).map lt') b/\(b=true->brk ah=false)/\WG ah/\10 ∉ lt' z/\z.length<=22*i+2) ?_ (λi σ J _ ⟨_,_,_,_,_,_,_,e,_⟩=>by rw [e];exact SqL.of ha) ?_ ?_
 ·refine ⟨m0,_,"(",none,none,b0,rfl,rfl,m0p,w0,λz=>(b0f z).elim,.inl rfl,Y0 _,?_⟩
  rw [Zo];omega
 ·rintro i x σ J hi ⟨mx,z,ah,u5,u6,b,rfl,rfl,mp,wd,hb,ga,fz,zl⟩
  obtain ⟨y,ey,rfl⟩:=zae hi;have il:i<ws.length:=(List.getElem?_eq_some_iff.mp ey).1;have my:=wg y (List.mem_of_getElem? ey);refine ⟨_,rfl,_,_,rfl,rfl,.inr ⟨by decide,by decide⟩,_,_,rfl,rfl,_,_,rfl,rfl,(by show (0:Int)<2147483647;decide),?_⟩;have mp2:=Int.emod_nonneg (mx*48271+11) (show (2147483647:Int)≠0 by decide);generalize (mx*48271+11) % 2147483647=mx2 at mp2 ⊢;refine ⟨_,rfl,_,_,rfl,rfl,⟨by decide,by decide⟩,_,_,rfl,rfl,(by show (0:Int)<3;decide),?_⟩;have g0:0<=mx2 / 16 % 3/\mx2 / 16 % 3<3:=⟨Int.emod_nonneg _ (by decide),Int.emod_lt_of_pos _ (by decide)⟩;generalize mx2 / 16 % 3=gp at g0 ⊢;refine ⟨λσ' J'=>∃ g:Int,σ'=[some (.ref a),some (.int c),some (.int mx2),some (.str z),some (.str ah),some (.str y),some (.int g)]/\J'=J/\0<=g/\g<3/\(g=0->brk ah=true∨brk y=true),?_,?_⟩
  ·refine ⟨_,rfl,rfl,_,rfl,?_⟩
   by_cases hg:gp=0
   ·subst hg
    refine zP ⟨_,rfl,ah,"()",rfl,rfl,_,rfl,?_⟩;rw [brk_in ga]
    cases ha':brk ah with
    | true=>exact zH ⟨0,rfl,rfl,by omega,by omega,λ_=>.inl rfl⟩
    | false =>
     refine zP ⟨_,rfl,y,"()",rfl,rfl,_,rfl,?_⟩;rw [brk_in my.1]
     cases hy':brk y with
     | true=>exact zH ⟨0,rfl,rfl,by omega,by omega,λ_=>.inr rfl⟩
     | false=>exact zP ⟨1,rfl,rfl,by omega,by omega,λz=>by omega⟩
   ·rw [decide_eq_false (λz=>hg (V.int.inj z))]
    exact zH (zH ⟨gp,rfl,rfl,g0.1,g0.2,λz=>absurd z hg⟩)
  rintro σ' J' ⟨g,rfl,rfl,gl,gh,gz⟩;obtain ⟨b1,wd1,hb1⟩:=Wd.sp wd g.toNat
  have hb2:b1=true->brk y=true:=λz=>by
   obtain ⟨e1,e2⟩:=hb1 z;rcases gz (by omega) with q | q
   ·rw [hb e2] at q;cases q
   ·exact q
  obtain ⟨b3,wd3,hb3⟩:=Wd.snoc wd1 my.1 hb2;have l1:(z++(⟨(List.replicate g.toNat 32).toArray⟩:Str)).length<=22*i+4:=by rw [Za,Zo];omega
  have l2:(z++(⟨(List.replicate g.toNat 32).toArray⟩:Str)++y).length<=22*(i+1)+2:=by rw [Za];have:=my.2;omega
  have fz2:10 ∉ lt' (z++(⟨(List.replicate g.toNat 32).toArray⟩:Str)++y):=by
   rw [xD,xD];intro m;rcases List.mem_append.mp m with m | m
   ·rcases List.mem_append.mp m with m | m
    ·exact fz m
    ·exact Y0 _ m
   ·exact my.1.free m
  have et:(ws.take (i+1)).map lt'=(ws.take i).map lt'++[lt' y]:=by rw [List.take_add_one,ey,Jl];rfl
  refine ⟨_,rfl,_,rfl,32,g,rfl,rfl,gl,by omega,_,_,rfl,rfl,?_,_,rfl,_,_,rfl,rfl,?_,?_⟩
  ·rw [Zo];omega
  ·have:=my.2;omega
  exact ⟨_,rfl,mx2,_,y,_,_,b3,rfl,rfl,mp2,by rw [et];exact wd3,hb3,my.1,fz2,l2⟩
 ·rintro σ J ⟨mx,z,ah,u5,u6,b,rfl,rfl,mp,wd,hb,ga,fz,zl⟩
  rw [Jj] at wd zl;rw [List.take_length] at wd;have g0:0<=mx / 256 % 2/\mx / 256 % 2<2:=⟨Int.emod_nonneg _ (by decide),Int.emod_lt_of_pos _ (by decide)⟩;obtain ⟨b1,wd1,hb1⟩:=Wd.sp wd (mx / 256 % 2).toNat;refine ⟨_,rfl,_,rfl,_,_,rfl,rfl,⟨by decide,by decide⟩,_,_,rfl,rfl,(by show (0:Int)<2;decide),32,_,rfl,rfl,g0.1,by omega,_,_,rfl,rfl,?_,?_⟩
  ·rw [Zo];omega
  refine q _ (map_inj (Wd.words wd1)) ?_ ?_
  ·rw [xD]
   intro m;rcases List.mem_append.mp m with m | m
   ·exact fz m
   ·exact Y0 _ m
  ·rw [Za,Zo];omega
def Lw (l:List Nat):Prop:=∀ a∈l,97<=a/\a<=122
def NmG (z:Str):Prop:=Lw (lt' z)/\1<=z.length/\z.length<=12
instance (l:List Nat):Decidable (Lw l):=by unfold Lw;exact inferInstance
instance (z:Str):Decidable (NmG z):=by unfold NmG;exact inferInstance
def Lw.app {x y:List Nat} (h:Lw x) (g:Lw y):Lw (x++y):=λa m=>by
 rcases List.mem_append.mp m with m | m
 ·exact h a m
 ·exact g a m
def Xi:letS.cps.toList=(List.range 26).map (·+97):=by decide +kernel
def nm_of {z:Str} (h:NmG z) (k:z ∉ keptWs):Zz z=true:=by
 unfold Zz;rw [decide_eq_true h.2.1,decide_eq_true h.2.2,decide_eq_true k,Bool.and_true,Bool.and_true,Bool.true_and];refine List.all_eq_true.mpr λc m=>?_;rw [Y9,Xi];have:=h.1 c m;exact decide_eq_true (List.mem_map.mpr ⟨c-97,List.mem_range.mpr (by omega),by omega⟩)
def NmG.wg {z:Str} (h:NmG z):WG z:=by
 refine .inr (.inr ⟨λe=>?_,λa m=>?_⟩)
 ·have:=h.2.1;rw [yZ,e] at this;exact absurd this (by decide)
 ·have:=h.1 a m;omega
def XX {z:Str} {j:Int} (h0:0<=j) (h:j<=z.length):lt' (Txt.slice z none (some j))=(lt' z).take j.toNat:=by
 have e:Txt.slice z none (some j)=StrLaws.sliceText z none (some j):=rfl;rw [e,StrLaws.sliceText_to ⟨h0,by rw [yZ] at h;exact h⟩];show ((lt' z).drop 0).take (j-0).toNat=_;rw [List.drop_zero,Int.sub_zero]
def zed {z:Str} {j:Int} (h0:0<=j) (h:j<=z.length):lt' (Txt.slice z (some j) none)=(lt' z).drop j.toNat:=by
 have e:Txt.slice z (some j) none=StrLaws.sliceText z (some j) none:=rfl;rw [e,StrLaws.sliceText_from ⟨h0,by rw [yZ] at h;exact h⟩];show ((lt' z).drop j.toNat).take _=_;refine List.take_of_length_le ?_;rw [List.length_drop];show _<=(((lt' z).length:Int)-j).toNat;omega
def slice_all {z:Str} {j:Int} (h:(z.length:Int)<=j):Txt.slice z none (some j)=z:=by
 have e:Txt.slice z none (some j)=StrLaws.sliceText z none (some (z.length:Int)):=by
  show StrLaws.sliceText z none (some j)=_;unfold StrLaws.sliceText
  have e1:Builtin.Str.strSliceIndices none (some j) 1 z.length=Builtin.Str.strSliceIndices none (some (z.length:Int)) 1 z.length:=by
   unfold Builtin.Str.strSliceIndices;have a1:¬ (j<0):=by omega
   have a2:¬ ((z.length:Int)<0):=by omega
   have a3:min j (z.length:Int)=z.length:=by omega
   simp only [a1,a2,a3,if_false]
   try simp
  rw [e1]
 refine zc0 ?_;have e2:Txt.slice z none (some (z.length:Int))=StrLaws.sliceText z none (some (z.length:Int)):=rfl;rw [e,← e2,XX (by omega) (by omega)];exact List.take_of_length_le (by rw [yZ];omega)
def zb7 {z:Str} {j:Int} {c:Nat} (h:NmG z) (h0:0<=j) (hj:j<z.length) (hc:97<=c/\c<=122):NmG (Txt.slice z none (some j)++(⟨#[c]⟩:Str)++Txt.slice z (some (j+1)) none)/\(Txt.slice z none (some j)++(⟨#[c]⟩:Str)++Txt.slice z (some (j+1)) none).length=z.length:=by
 have e:lt' (Txt.slice z none (some j)++(⟨#[c]⟩:Str)++Txt.slice z (some (j+1)) none)=(lt' z).take j.toNat++[c]++(lt' z).drop (j.toNat+1):=by
  rw [xD,xD,XX h0 (by omega),zed (by omega) (by omega)];rw [show (j+1).toNat=j.toNat+1 by omega]
 have zl:=yZ z
 have l:(Txt.slice z none (some j)++(⟨#[c]⟩:Str)++Txt.slice z (some (j+1)) none).length=z.length:=by
  rw [yZ,e,Jk,Jk,List.length_take,List.length_drop,List.length_singleton];omega
 refine ⟨⟨?_,by rw [l];exact h.2.1,by rw [l];exact h.2.2⟩,l⟩;rw [e];refine Lw.app (Lw.app (λa m=>h.1 a (List.mem_of_mem_take m)) (λa m=>?_)) (λa m=>h.1 a (List.mem_of_mem_drop m));rw [List.mem_singleton.mp m];exact hc
def xE {m:Int} (h0:0<=m) (h:m<26):atI letS.cps.toList m=some (97+m.toNat):=by
 obtain ⟨k,rfl⟩:=Int.eq_ofNat_of_zero_le h0;refine zQ ?_;have hk:k<26:=by omega
 rw [Xi,List.getElem?_map,List.getElem?_range hk];show some (k+97)=some (97+((k:Nat):Int).toNat);rw [q0z,Nat.add_comm]
theorem XV:∀ {l r:Jg},l.Nodup->(∀ x∈l,x∈r)->l.length<=r.length
 | [],_,_,_=>Nat.zero_le _
 | a::l,r,nd,s=>by
  have ma:=s a q1z;have nd':=List.nodup_cons.mp nd;have:=XV (l:=l) (r:=r.erase a) nd'.2 λx m=>(List.mem_erase_of_ne (λe=>nd'.1 (by rw [← e];exact m))).mpr (s x (q1y _ m));rw [List.length_erase_of_mem ma] at this;have:0<r.length:=List.length_pos_of_mem ma;rw [q3x];omega
def nm2 (k:Nat):Str:=⟨#[97+k / 26 % 26,97+k % 26]⟩
def nm2_g (k:Nat):NmG (nm2 k):=by
 refine ⟨λa m=>?_,by show 1<=2;decide,by show 2<=12;decide⟩;have m:a∈[97+k / 26 % 26,97+k % 26]:=m;simp only [List.mem_cons,List.not_mem_nil,or_false] at m;omega
def nm2_inj {j k:Nat} (h1:26<=j) (h2:j<700) (h3:26<=k) (h4:k<700) (e:nm2 j=nm2 k):j=k:=by
 have e:(⟨#[97+j / 26 % 26,97+j % 26]⟩:Str)=⟨#[97+k / 26 % 26,97+k % 26]⟩:=e;have e1:#[97+j / 26 % 26,97+j % 26]=#[97+k / 26 % 26,97+k % 26]:=congrArg Str.cps e;have e2:=Array.toList_inj.mpr e1;simp only [List.cons.injEq,and_true] at e2;omega
def nm2_free {l:Jg} (n:Nat) (hn:n<=600) (hl:l.length<n):∃ k,26<=k/\k<26+n/\nm2 k ∉ l:=by
 refine Classical.byContradiction λh=>?_;have all:∀ k,26<=k->k<26+n->nm2 k∈l:=λk h1 h2=>Classical.byContradiction λq=>h ⟨k,h1,h2,q⟩
 have nd:((List.range n).map λi=>nm2 (26+i)).Nodup:=by
  refine List.Pairwise.map _ (R:=λa b=>a<n/\b<n/\a≠b) (λa b h e=>h.2.2 (by have:=nm2_inj (by omega) (by omega) (by omega) (by omega) e;omega)) ?_;refine List.Pairwise.imp_of_mem (R:=λa b=>a<b) (λha hb h=>⟨List.mem_range.mp ha,List.mem_range.mp hb,by omega⟩) List.pairwise_lt_range
 have:=XV nd λx m=>by
  obtain ⟨i,mi,rfl⟩:=List.mem_map.mp m;have:=List.mem_range.mp mi;exact all _ (by omega) (by omega)
 rw [Jj,List.length_range] at this;omega
def YQ:Str:="row def let put fold run till end at in of into where most here shift if rest least sum product both"
def some26:Txt.words (YQ++(" either odd chain capped":Str))=keptWs:=by decide +kernel
def words22:(Txt.words YQ).length=22/\∀ w∈Txt.words YQ,NmG (Txt.slice w none (some (-1)))/\NmG w/\w.length<=7:=by decide +kernel
inductive spNb (vs:Jo) (H:Hp) (Q:VK) (_:XK):Prop
 | mk (c:Int) (_:vs=[.int c]) (_:∀ n H',-9223372036854775808<=n->n<=9223372036854775807->Same H H'->Q (.int n) H')
def zcu (d:zB K mg "_law_number_by" xO ["_law_cell"]):Ok P w K mg base CX0 1 "_law_number_by" ["_law_cell"] spNb:=by
 obtain ⟨f,fd,m,F,bd⟩:=d;refine ⟨f,fd,m,F.kp,bd,F.ok sc_l_number_by (by rintro vs H Q E ⟨_,e,_⟩;rw [e];rfl) λcdv A outer s H vs Q E hr h=>?_⟩;obtain ⟨c,rfl,q⟩:=h;have nd:=sc_l_number_by.nd;refine ⟨_,(zb (zq (i:=1) nd rfl (Or.inl rfl) (zA zO (pv 0) zd))
   (zb (zC (zm zU (pv 1) zd (zu _)) (ze (zi (zA ZL (zA zO (zA z5 (pv 0) zd) zd) zd))) zh)
   (zb (zC (zm zU (pv 1) zd (zu _)) (zb (zq (i:=2) nd rfl (Or.inl rfl) (zN (za zd (za (Y2 ZS zd) (za zd (za (Y2 ZS zd) (za zd (za (Y2 ZS zd) zc))))))))
   (ze (zi (zn zK (pv 2) (zA zO (zA z5 (pv 0) zd) zd) (λ_ _=>rfl))))) zh)
   (ze (zi (zA ZL (zA zO (zA YT (zA z5 (pv 0) zd) zd) zd) zd)))))),?_⟩
 refine ⟨_,rfl,_,_,rfl,rfl,(by show (0:Int)<3;decide),_,rfl,rfl,_,rfl,?_⟩;have h7:0<=c / 3 % 7/\c / 3 % 7<7:=⟨Int.emod_nonneg _ (by decide),Int.emod_lt_of_pos _ (by decide)⟩;refine xL (λ_=>⟨_,rfl,_,_,rfl,rfl,⟨by decide,by decide⟩,_,_,rfl,rfl,(by show (0:Int)<7;decide),_,_,rfl,rfl,q _ H (by omega) (by omega) (Same.refl _)⟩) (λ_=>⟨_,rfl,rfl,_,rfl,?_⟩);refine xL (λ_=>?_) (λ_=>?_)
 ·refine ⟨_,rfl,_,rfl,_,rfl,szU 6,λl nl=>?_⟩
  have h6:0<=c / 3 % 6/\c / 3 % 6<6:=⟨Int.emod_nonneg _ (by decide),Int.emod_lt_of_pos _ (by decide)⟩;obtain ⟨k,ek⟩:∃ k:Nat,c / 3 % 6=k:=⟨(c / 3 % 6).toNat,by omega⟩;have k6:k<6:=by omega
  have k7:∀ k,k<6->∃ n:Int,([9223372036854775807,-9223372036854775808,1000000000,-1,400,-9999999999].map V.int)[k]?=some (.int n)/\-9223372036854775808<=n/\n<=9223372036854775807:=λk h=>by
   match k,h with
   | 0,_=>exact ⟨_,rfl,by decide,by decide⟩
   | 1,_=>exact ⟨_,rfl,by decide,by decide⟩
   | 2,_=>exact ⟨_,rfl,by decide,by decide⟩
   | 3,_=>exact ⟨_,rfl,by decide,by decide⟩
   | 4,_=>exact ⟨_,rfl,by decide,by decide⟩
   | 5,_=>exact ⟨_,rfl,by decide,by decide⟩
  obtain ⟨n,en,n1,n2⟩:=k7 k k6;exact ⟨_,rfl,_,rfl,_,_,rfl,rfl,⟨by decide,by decide⟩,_,_,rfl,rfl,(by show (0:Int)<6;decide),l,_,_,_,rfl,rfl,SqL.of zr,by rw [ek];exact zQ en,q n _ n1 n2 (yq (Same.refl _) nl)⟩
 ·refine ⟨_,rfl,_,_,rfl,rfl,⟨by decide,by decide⟩,_,_,rfl,rfl,.inr ⟨by decide,by decide⟩,_,_,rfl,rfl,(by show (0:Int)<18446744073709551616;decide),_,_,rfl,rfl,?_⟩
  have z0:=Int.emod_nonneg (c / 3*2862933555777941757) (show (18446744073709551616:Int)≠0 by decide);have z1:=Int.emod_lt_of_pos (c / 3*2862933555777941757) (show (0:Int)<18446744073709551616 by decide);generalize c / 3*2862933555777941757 % 18446744073709551616=z at z0 z1;exact q _ H (by omega) (by omega) (Same.refl _)
inductive spKw (vs:Jo) (H:Hp) (Q:VK) (_:XK):Prop
 | mk (z:Str) (_:vs=[.str z]) (_:∀ H',Same H H'->Q (.bl (decide (z∈keptWs))) H')
def zcy (d:zB K mg "_law_kept_word" xR ["_law_word"]):Ok P w K mg base CX0 1 "_law_kept_word" ["_law_word"] spKw:=by
 obtain ⟨f,fd,m,F,bd⟩:=d;refine ⟨f,fd,m,F.kp,bd,F.ok sc_l_kept_word (by rintro vs H Q E ⟨_,e,_⟩;rw [e];rfl) λcdv A outer s H vs Q E hr h=>?_⟩;obtain ⟨z,rfl,q⟩:=h;have nd:=sc_l_kept_word.nd;refine ⟨_,(zb (zq (i:=1) nd rfl (Or.inl rfl) zk)
   (ze (zi (Zn zbd (pv 0) (pe_bm0 PySem.F.plainAttrs_str PySem.F.slot_str_split PySem.F.type_str_split zbg (zA ym (pv 1) zk)) rfl)))),?_⟩
 refine ⟨_,rfl,_,rfl,YQ," either odd chain capped",rfl,rfl,by decide +kernel,?_⟩;refine ⟨rfl,_,rfl,rfl,by decide +kernel,by decide +kernel,by decide +kernel,λa na=>?_⟩;rw [some26];refine ⟨a,_,rfl,.inl (SqL.of zr),rfl,?_,?_⟩
 ·rw [List.all_map];exact List.all_eq_true.mpr λ_ _=>rfl
 ·rw [Y8]
  exact q _ (yq (Same.refl _) na)
def spNg (vs:Jo) (H:Hp) (Q:VK) (_:XK):Prop:=∃ c:Int,vs=[.int c]/\∀ z H',NmG z->Same H H'->Q (.str z) H'
def zcw (d:zB K mg "_law_near_kept" xP ["_law_cell"]):Ok P w K mg base CX0 1 "_law_near_kept" ["_law_cell"] spNg:=by
 obtain ⟨f,fd,m,F,bd⟩:=d;refine ⟨f,fd,m,F.kp,bd,F.ok sc_l_near_kept (by rintro vs H Q E ⟨_,e,_⟩;rw [e];rfl) λcdv A outer s H vs Q E hr h=>?_⟩;obtain ⟨c,rfl,q⟩:=h;have nd:=sc_l_near_kept.nd;have SL:(1000:Nat)<sizeLine:=by decide
 refine ⟨_,(zb (zq (i:=1) nd rfl (Or.inl rfl) zk)
   (zb (zq (i:=2) nd rfl (Or.inl rfl) (zn zK (pe_bm0 PySem.F.plainAttrs_str PySem.F.slot_str_split PySem.F.type_str_split zbg (pv 1)) (zA zO (pv 0) zd) (λ_ _=>rfl)))
   (zb (zC (zm zU (zA zO (zA z5 (pv 0) zd) zd) zd (zu _)) (ze (zi (zA ym (pv 2) (zn Yj zk (zA zO (zA z5 (pv 0) zd) zd) (λ_ _=>rfl))))) zh)
   (ze (zi (y9 YR (pv 2) xY (xX (Y2 ZS zd)))))))),?_⟩
 refine ⟨_,rfl,rfl,YQ,rfl,rfl,by decide +kernel,by decide +kernel,by decide +kernel,λa na=>?_⟩;have h22:0<=c % 22/\c % 22<22:=⟨Int.emod_nonneg _ (by decide),Int.emod_lt_of_pos _ (by decide)⟩;obtain ⟨k,ek⟩:∃ k:Nat,c % 22=k:=⟨(c % 22).toNat,by omega⟩;obtain ⟨y,ey⟩:∃ y,(Txt.words YQ)[k]?=some y:=⟨_,List.getElem?_eq_getElem (by rw [words22.1];omega)⟩;obtain ⟨y1,y2,y3⟩:=words22.2 y (List.mem_of_getElem? ey);have s1:=yq (o:=.lst ((Txt.words YQ).map V.str)) (Same.refl H) na;refine ⟨_,rfl,_,_,rfl,rfl,(by show (0:Int)<22;decide),a,_,_,_,rfl,rfl,SqL.of zr,by rw [ek];exact zQ (by rw [List.getElem?_map,ey];rfl),?_⟩;refine ⟨_,rfl,_,_,rfl,rfl,⟨by decide,by decide⟩,_,_,rfl,rfl,(by show (0:Int)<2;decide),rfl,_,rfl,?_⟩;refine xL (λ_=>?_) (λ_=>?_)
 ·have h26:0<=c / 44 % 26/\c / 44 % 26<26:=⟨Int.emod_nonneg _ (by decide),Int.emod_lt_of_pos _ (by decide)⟩
  refine ⟨_,rfl,_,rfl,_,_,rfl,rfl,⟨by decide,by decide⟩,_,_,rfl,rfl,(by show (0:Int)<26;decide),letS,_,_,rfl,rfl,by decide +kernel,xE h26.1 h26.2,_,_,rfl,rfl,?_,q _ _ ?_ s1⟩
  ·show y.length+1<=sizeLine;omega
  ·refine ⟨?_,?_,?_⟩
   ·rw [xD]
    exact Lw.app y2.1 λa m=>by
     have:a=97+(c / 44 % 26).toNat:=by simpa using m
     omega
   ·rw [Za];exact Nat.le_trans y2.2.1 (Nat.le_add_right _ _)
   ·rw [Za];show y.length+1<=12;omega
 ·exact ⟨_,rfl,_,rfl,_,rfl,y,rfl,by omega,q _ _ y1 s1⟩
inductive spName (K:Fg) (vs:Jo) (H:Hp) (Q:VK) (_:XK):Prop
 | mk (a:Ad) (os:Jg) (c:Int) (_:vs=[.int c,.ref a]) (_:SqL K H a (os.map V.str)) (_:∀ z∈os,NmG z) (_:os.length<=100) (_:∀ z H',NmG z->z ∉ os->z ∉ keptWs->Same H H'->Q (.str z) H')
def zel (d:zB K mg "_law_name_by" ZF ["_law_cell","_law_others"]) (hlen:mg "len"=none) (hrg:mg "range"=none) (MX:Ok P w K mg base (CXe P w base) 1 "_law_mixed" ["_law_cell","_law_k"] spMx) (KW:Ok P w K mg base CX0 1 "_law_kept_word" ["_law_word"] spKw) (NK:Ok P w K mg base CX0 1 "_law_near_kept" ["_law_cell"] spNg):Ok P w K mg base CX0 2 "_law_name_by" ["_law_cell","_law_others"] (spName K):=by
 obtain ⟨f,fd,m,F,bd⟩:=d;refine ⟨f,fd,m,F.kp,bd,F.ok sc_l_name_by (by rintro vs H Q E ⟨_,_,_,e,_⟩;rw [e];rfl) λcdv A outer s H vs Q E hr h=>?_⟩;obtain ⟨a,os,c,rfl,ha,og,l1,q⟩:=h;have hr1:Room 1 _:=hr;have nd:=sc_l_name_by.nd;have SL:(100000:Nat)<sizeLine:=by decide
 refine ⟨_,(zb (zq (i:=2) nd rfl (Or.inl rfl) zk)
   (zb (zq (i:=3) nd rfl (Or.inl rfl) (zA yI (zA zO (pv 0) zd) zd))
   (zb (zq (i:=4) nd rfl (Or.inl rfl) (zx MX hr1 (by rfl) z9 (za (zA z5 (pv 0) zd) (za zd zc))))
   (zb (zq (i:=5) nd rfl (Or.inl rfl) (zA Y4 (zn Yj (pv 2) (zA zO (pv 4) zd) (λ_ _=>rfl)) (pv 3)))
   (zb (xz (zC (zm zU (zA zO (zA z5 (pv 4) zd) zd) zd (zu _)) (zb (zq (i:=5) nd rfl (Or.inl rfl) zk)
   (ze (xh PassesOwn.never rfl (yM rfl hrg (za (pv 3) zc)) (ya (i:=6) nd rfl (Or.inl rfl)) (zb (zq (i:=4) nd rfl (Or.inl rfl) (zA zO (zA yI (zA YT (pv 4) zd) zd) zd))
   (ze (zq (i:=5) nd rfl (Or.inl rfl) (zA ym (pv 5) (zn Yj (pv 2) (zA zO (zA z5 (pv 4) zd) zd) (λ_ _=>rfl))))))))) zh))
   (zb (xz (zC (zm zU (zA zO (zA z5 (pv 4) zd) zd) zd (zu _)) (ze (zq (i:=5) nd rfl (Or.inl rfl) (zx NK hr1 (by rfl) zE (za (zA z5 (pv 4) zd) zc)))) zh))
   (zb (xz (zC (y6 (zm xI (zf zj (by rfl) hlen PySem.boot_len (za (pv 1) zc)) zd (zu _)) (yP (zm zU (zA zO (zA z5 (pv 4) zd) zd) zd (zu _)))).pt (zb (zq (i:=7) nd rfl (Or.inl rfl) (zn zK (pv 1) (zA zO (zA z5 (pv 4) zd) (zf zj (by rfl) hlen PySem.boot_len (za (pv 1) zc))) (λ_ _=>rfl)))
   (zb (zq (i:=8) nd rfl (Or.inl rfl) (zA zO (zA z5 (pv 4) zd) (zf Zq (by rfl) hlen PySem.boot_len (za (pv 7) zc))))
   (ze (zq (i:=5) nd rfl (Or.inl rfl) (zA ym (zA ym (y9 YR (pv 7) xY (xX (pv 8))) (zn Yj (pv 2) (zA zO (zA z5 (pv 4) zd) zd) (λ_ _=>rfl))) (y9 YR (pv 7) (xX (zA yI (pv 8) zd)) xY)))))) zh))
   (zb (xz (zC (y6 (zm xI (zf zj (by rfl) hlen PySem.boot_len (za (pv 1) zc)) zd (zu _)) (yP (zm zU (zA zO (zA z5 (pv 4) zd) zd) zd (zu _)))).pt (zb (zq (i:=7) nd rfl (Or.inl rfl) (zn zK (pv 1) (zA zO (zA z5 (pv 4) zd) (zf zj (by rfl) hlen PySem.boot_len (za (pv 1) zc))) (λ_ _=>rfl)))
   (ze (zq (i:=5) nd rfl (Or.inl rfl) (y9 YR (zA ym (pv 7) (zn Yj (pv 2) (zA zO (zA z5 (pv 4) zd) zd) (λ_ _=>rfl))) xY (xX zd))))) zh))
   (zb (zq (i:=8) nd rfl (Or.inl rfl) (zA zO (zA z5 (pv 4) zd) (zf Zq (by rfl) hlen PySem.boot_len (za (pv 5) zc))))
   (zb (zq (i:=6) nd rfl (Or.inl rfl) zd)
   (zb (Z9 PassesOwn.never (z8 (zm zbd (pv 5) (pv 1) rfl) (zT (zG (zx KW hr1 (by rfl) zE (za (pv 5) zc))))).pt (zb (zC (zm Y5 (pv 6) zd (zu _)) (ze (zq (i:=5) nd rfl (Or.inl rfl) (zA ym (zA ym (y9 YR (pv 5) xY (xX (pv 8))) (zn Yj (pv 2) (pv 6) (λ_ _=>rfl))) (y9 YR (pv 5) (xX (zA yI (pv 8) zd)) xY)))) (ze (zq (i:=5) nd rfl (Or.inl rfl) (zA ym (zn Yj (pv 2) (zA zO (zA z5 (pv 6) zd) zd) (λ_ _=>rfl)) (zn Yj (pv 2) (zA zO (pv 6) zd) (λ_ _=>rfl))))))
   (ze (zq (i:=6) nd rfl (Or.inl rfl) (zA yI (pv 6) zd)))))
   (ze (zi (pv 5)))))))))))))),?_⟩
 refine ⟨_,rfl,_,_,rfl,rfl,(by show (0:Int)<12;decide),_,_,rfl,rfl,?_⟩;have h12:0<=c % 12/\c % 12<12:=⟨Int.emod_nonneg _ (by decide),Int.emod_lt_of_pos _ (by decide)⟩;generalize c % 12=sz at h12;refine ⟨_,rfl,_,_,rfl,rfl,⟨by decide,by decide⟩,_,3,rfl,λm0 m0p m0l=>?_⟩;have h26:0<=m0 % 26/\m0 % 26<26:=⟨Int.emod_nonneg _ (by decide),Int.emod_lt_of_pos _ (by decide)⟩;refine ⟨_,rfl,_,rfl,_,_,rfl,rfl,(by show (0:Int)<26;decide),letS,_,_,rfl,rfl,by decide +kernel,xE h26.1 h26.2,_,rfl,_,_,rfl,rfl,by omega,by omega,?_⟩
 have n0:NmG (⟨(List.replicate (sz+1).toNat (97+(m0 % 26).toNat)).toArray⟩:Str):=by
  refine ⟨λb m=>?_,?_,?_⟩
  ·have m:b∈List.replicate (sz+1).toNat (97+(m0 % 26).toNat):=m
   rw [(List.mem_replicate.mp m).2];omega
  ·rw [Zo];omega
  ·rw [Zo];omega
 generalize (⟨(List.replicate (sz+1).toNat (97+(m0 % 26).toNat)).toArray⟩:Str)=z0 at n0;obtain ⟨PSt,hPSt⟩:∃ PSt:St->Hp->Prop,PSt=λσ J=>∃ (mx:Int) (z:Str) (u6 u7 u8:Jp),σ=[some (.int c),some (.ref a),some (.str letS),some (.int (sz+1)),some (.int mx),some (.str z),u6,u7,u8]/\Same H J/\0<=mx/\NmG z:=⟨_,rfl⟩;have ol:(os.map V.str).length=os.length:=List.length_map ..;refine ⟨PSt,?_,?_⟩
 ·subst hPSt
  refine ⟨_,rfl,_,_,rfl,rfl,⟨by decide,by decide⟩,_,_,rfl,rfl,(by show (0:Int)<3;decide),rfl,_,rfl,?_⟩;refine xL (λ_=>?_) (λ_=>⟨m0,z0,none,none,none,rfl,Same.refl _,m0p,n0⟩);refine ⟨_,rfl,_,rfl,(by show -(2 ^ 62)<=sz+1;omega),(by show sz+1<2 ^ 62;omega),?_⟩;refine Zr (n:=(sz+1).toNat) (λi σ J=>∃ (mx:Int) (z:Str) (u6:Jp),σ=[some (.int c),some (.ref a),some (.str letS),some (.int (sz+1)),some (.int mx),some (.str z),u6,none,none]/\J=H/\0<=mx/\Lw (lt' z)/\z.length=i) ⟨m0,"",none,rfl,rfl,m0p,(λb m=>by cases m),rfl⟩ ?_ ?_
  ·rintro i σ J hi ⟨mx,z,u6,rfl,rfl,mp,lz,zl⟩
   refine ⟨_,rfl,_,_,rfl,rfl,.inr ⟨by decide,by decide⟩,_,_,rfl,rfl,_,_,rfl,rfl,(by show (0:Int)<2147483647;decide),?_⟩;have mp2:=Int.emod_nonneg (mx*48271+11) (show (2147483647:Int)≠0 by decide);generalize (mx*48271+11) % 2147483647=mx2 at mp2;have g26:0<=mx2 / 8 % 26/\mx2 / 8 % 26<26:=⟨Int.emod_nonneg _ (by decide),Int.emod_lt_of_pos _ (by decide)⟩;refine ⟨_,rfl,_,rfl,_,rfl,_,_,rfl,rfl,⟨by decide,by decide⟩,_,_,rfl,rfl,(by show (0:Int)<26;decide),letS,_,_,rfl,rfl,by decide +kernel,xE g26.1 g26.2,_,_,rfl,rfl,?_,?_⟩
   ·show z.length+1<=sizeLine;omega
   refine ⟨mx2,_,_,rfl,rfl,mp2,?_,?_⟩
   ·rw [xD]
    exact Lw.app lz λb m=>by
     have:b=97+(mx2 / 8 % 26).toNat:=by simpa using m
     omega
   ·rw [Za,zl];rfl
  ·rintro σ J ⟨mx,z,u6,rfl,rfl,mp,lz,zl⟩
   exact ⟨mx,z,u6,none,none,rfl,Same.refl _,mp,lz,by omega,by omega⟩
 rintro σ J hσ;rw [hPSt] at hσ;obtain ⟨mx,z,u6,u7,u8,rfl,sJ,mp,nz⟩:=hσ;refine ⟨PSt,?_,?_⟩
 ·subst hPSt
  refine ⟨_,rfl,_,_,rfl,rfl,⟨by decide,by decide⟩,_,_,rfl,rfl,(by show (0:Int)<7;decide),rfl,_,rfl,?_⟩;refine xL (λ_=>?_) (λ_=>⟨mx,z,u6,u7,u8,rfl,sJ,mp,nz⟩);exact ⟨_,rfl,_,_,rfl,rfl,⟨by decide,by decide⟩,_,rfl,λz' J' nz' s'=>⟨mx,z',u6,u7,u8,rfl,sJ.trans s',mp,nz'⟩⟩
 clear mp nz sJ;rintro σ J hσ;rw [hPSt] at hσ;obtain ⟨mx,z,u6,u7,u8,rfl,sJ,mp,nz⟩:=hσ;refine ⟨PSt,?_,?_⟩
 ·subst hPSt
  refine ⟨_,rfl,a,_,rfl,.inl (yV ha sJ),_,_,rfl,rfl,_,rfl,?_⟩;rw [ol];refine xL (λho=>?_) (λ_=>zH ⟨mx,z,u6,u7,u8,rfl,sJ,mp,nz⟩);have ho:0<os.length:=by have:=of_decide_eq_true ho;omega
  refine ⟨_,rfl,_,_,rfl,rfl,⟨by decide,by decide⟩,_,_,rfl,rfl,(by show (0:Int)<3;decide),rfl,_,rfl,?_⟩;refine xL (λ_=>?_) (λ_=>⟨mx,z,u6,u7,u8,rfl,sJ,mp,nz⟩);obtain ⟨k,ek,kl⟩:∃ k:Nat,mx / 21 % (os.length:Int)=k/\k<os.length:=⟨(mx / 21 % (os.length:Int)).toNat,by have:=Int.emod_nonneg (mx / 21) (show ((os.length:Nat):Int)≠0 by omega);omega,by have a:=Int.emod_nonneg (mx / 21) (show ((os.length:Nat):Int)≠0 by omega);have:=Int.emod_lt_of_pos (mx / 21) (show (0:Int)<(os.length:Nat) by omega);omega⟩;obtain ⟨y,ey⟩:∃ y,os[k]?=some y:=⟨_,List.getElem?_eq_getElem kl⟩;have gy:=og y (List.mem_of_getElem? ey);refine ⟨_,rfl,_,rfl,_,_,rfl,rfl,⟨by decide,by decide⟩,_,rfl,a,_,rfl,.inl (yV ha sJ),_,_,rfl,rfl,(by rw [ol];omega),a,_,_,_,rfl,rfl,yV ha sJ,by rw [ol,ek];exact zQ (by rw [List.getElem?_map,ey];rfl),?_⟩;have g26:0<=mx / 300 % 26/\mx / 300 % 26<26:=⟨Int.emod_nonneg _ (by decide),Int.emod_lt_of_pos _ (by decide)⟩;have yl:(0:Int)<(y.length:Nat):=by have:=gy.2.1;omega
  have at0:=Int.emod_nonneg (mx / 5) (show ((y.length:Nat):Int)≠0 by omega);have at1:=Int.emod_lt_of_pos (mx / 5) yl;refine ⟨_,rfl,_,_,rfl,rfl,⟨by decide,by decide⟩,_,rfl,_,rfl,by have:=gy.2.2;omega,_,_,rfl,rfl,yl,?_⟩;generalize mx / 5 % (y.length:Int)=at' at at0 at1;have ty:=zb7 (c:=97+(mx / 300 % 26).toNat) gy at0 at1 (by omega);have ysl:y.length<=sizeLine:=by have:=gy.2.2;omega
  have sa:=Txt.slice_le y none (some at');have sb:=Txt.slice_le y (some (at'+1)) none;refine ⟨_,rfl,_,rfl,_,rfl,y,rfl,ysl,_,rfl,_,rfl,_,_,rfl,rfl,⟨by decide,by decide⟩,_,_,rfl,rfl,(by show (0:Int)<26;decide),letS,_,_,rfl,rfl,by decide +kernel,xE g26.1 g26.2,_,_,rfl,rfl,?_,?_⟩
  ·show _+1<=sizeLine;have:=gy.2.2;omega
  refine ⟨_,rfl,_,rfl,_,_,rfl,rfl,_,rfl,y,rfl,ysl,_,_,rfl,rfl,?_,?_⟩
  ·rw [Za];show _+1+_<=sizeLine;have:=gy.2.2;omega
  exact ⟨mx,_,u6,_,_,rfl,sJ,mp,ty.1⟩
 clear mp nz sJ;rintro σ J hσ;rw [hPSt] at hσ;obtain ⟨mx,z,u6,u7,u8,rfl,sJ,mp,nz⟩:=hσ;refine ⟨PSt,?_,?_⟩
 ·subst hPSt
  refine ⟨_,rfl,a,_,rfl,.inl (yV ha sJ),_,_,rfl,rfl,_,rfl,?_⟩;rw [ol];refine xL (λho=>?_) (λ_=>zH ⟨mx,z,u6,u7,u8,rfl,sJ,mp,nz⟩);have ho:0<os.length:=by have:=of_decide_eq_true ho;omega
  refine ⟨_,rfl,_,_,rfl,rfl,⟨by decide,by decide⟩,_,_,rfl,rfl,(by show (0:Int)<9;decide),rfl,_,rfl,?_⟩;refine xL (λ_=>?_) (λ_=>⟨mx,z,u6,u7,u8,rfl,sJ,mp,nz⟩);obtain ⟨k,ek,kl⟩:∃ k:Nat,mx / 63 % (os.length:Int)=k/\k<os.length:=⟨(mx / 63 % (os.length:Int)).toNat,by have:=Int.emod_nonneg (mx / 63) (show ((os.length:Nat):Int)≠0 by omega);omega,by have a:=Int.emod_nonneg (mx / 63) (show ((os.length:Nat):Int)≠0 by omega);have:=Int.emod_lt_of_pos (mx / 63) (show (0:Int)<(os.length:Nat) by omega);omega⟩;obtain ⟨y,ey⟩:∃ y,os[k]?=some y:=⟨_,List.getElem?_eq_getElem kl⟩;have gy:=og y (List.mem_of_getElem? ey);refine ⟨_,rfl,_,rfl,_,_,rfl,rfl,⟨by decide,by decide⟩,_,rfl,a,_,rfl,.inl (yV ha sJ),_,_,rfl,rfl,(by rw [ol];omega),a,_,_,_,rfl,rfl,yV ha sJ,by rw [ol,ek];exact zQ (by rw [List.getElem?_map,ey];rfl),?_⟩;have g26:0<=mx / 300 % 26/\mx / 300 % 26<26:=⟨Int.emod_nonneg _ (by decide),Int.emod_lt_of_pos _ (by decide)⟩;refine ⟨_,rfl,_,rfl,_,rfl,_,_,rfl,rfl,⟨by decide,by decide⟩,_,_,rfl,rfl,(by show (0:Int)<26;decide),letS,_,_,rfl,rfl,by decide +kernel,xE g26.1 g26.2,_,_,rfl,rfl,?_,?_⟩
  ·show y.length+1<=sizeLine;have:=gy.2.2;omega
  have yl:(y++(⟨#[97+(mx / 300 % 26).toNat]⟩:Str)).length=y.length+1:=by rw [Za];rfl
  have lw:Lw (lt' (y++(⟨#[97+(mx / 300 % 26).toNat]⟩:Str))):=by
   rw [xD]
   exact Lw.app gy.1 λb m=>by
    have:b=97+(mx / 300 % 26).toNat:=by simpa using m
    omega
  generalize (y++(⟨#[97+(mx / 300 % 26).toNat]⟩:Str))=yy at yl lw;refine ⟨_,rfl,yy,rfl,by have:=gy.2.2;omega,?_⟩;refine ⟨mx,_,u6,_,_,rfl,sJ,mp,?_⟩;by_cases h13:yy.length<=12
  ·rw [slice_all (by omega)]
   exact ⟨lw,by omega,h13⟩
  ·have e:=XX (z:=yy) (j:=12) (by decide) (by omega)
   have el:(Txt.slice yy none (some 12)).length=12:=by rw [yZ,e,List.length_take];have:=yZ yy;omega
   exact ⟨by rw [e];exact λb m=>lw b (List.mem_of_mem_take m),by omega,by omega⟩
 clear mp nz sJ;rintro σ J hσ;rw [hPSt] at hσ;obtain ⟨mx,z,u6,u7,u8,rfl,sJ,mp,nz⟩:=hσ;clear hPSt;have zl:(0:Int)<(z.length:Nat):=by have:=nz.2.1;omega
 have at0:=Int.emod_nonneg (mx / 5) (show ((z.length:Nat):Int)≠0 by omega);have at1:=Int.emod_lt_of_pos (mx / 5) zl;refine ⟨_,rfl,_,_,rfl,rfl,⟨by decide,by decide⟩,_,rfl,_,rfl,by have:=nz.2.2;omega,_,_,rfl,rfl,zl,?_⟩;generalize mx / 5 % (z.length:Int)=at' at at0 at1;obtain ⟨n,hn⟩:∃ n,n=(os++keptWs).length+1:=⟨_,rfl⟩;have kl26:keptWs.length=26:=rfl;have n600:n<=600:=by rw [hn,Jk];omega
 refine ⟨λmm σ J=>∃ (k:Nat) (z:Str),σ=[some (.int c),some (.ref a),some (.str letS),some (.int (sz+1)),some (.int mx),some (.str z),some (.int k),u7,some (.int at')]/\Same H J/\NmG z/\(k<26->at'<z.length)/\k+mm=26+n/\(∀ j,26<=j->j+1<k->nm2 j∈os++keptWs)/\(26<k->z=nm2 (k-1)),⟨26+n,0,z,rfl,sJ,nz,λ_=>at1,by omega,λj h1 h2=>by omega,λh=>by omega⟩,?_⟩;clear nz at1 zl sJ;rintro mm σ J ⟨k,z,rfl,sJ,nz,hat,hk,hA,hB⟩;have all':(os.map V.str).all (λx=>match x with | .str _=>true | _=>true)=true:=by rw [List.all_map];exact List.all_eq_true.mpr λ_ _=>rfl
 refine ⟨_,rfl,_,rfl,a,_,rfl,.inl (yV ha sJ),rfl,by rw [List.all_map];exact List.all_eq_true.mpr λ_ _=>rfl,_,rfl,?_⟩;rw [Y8]
 have next:z∈os++keptWs->k<26+n:=λhz=>by
  refine Classical.byContradiction λhc=>?_;obtain ⟨j,j1,j2,j3⟩:=nm2_free (l:=os++keptWs) n n600 (by omega);by_cases e:j+1<k
  ·exact j3 (hA j j1 e)
  ·have e2:j=k-1:=by omega
   rw [e2,← hB (by omega)] at j3;exact j3 hz
 by_cases ho:z∈os
 ·rw [decide_eq_true ho]
  have hz:z∈os++keptWs:=List.mem_append_left _ ho;have kn:=next hz;refine zP (zP ?_);refine ⟨λσ' H'=>∃ m',m'<mm/\_,λ_ _ z=>z,?_⟩;refine ⟨_,rfl,_,_,rfl,rfl,_,rfl,?_⟩;by_cases k26:k<26
  ·rw [decide_eq_true (show ((k:Nat):Int)<26 by omega)]
   have ty:=zb7 (c:=97+((k:Nat):Int).toNat) nz at0 (hat k26) (by omega);have zsl:z.length<=sizeLine:=by have:=nz.2.2;omega
   have sa:=Txt.slice_le z none (some at');have sb:=Txt.slice_le z (some (at'+1)) none;refine zP ⟨_,rfl,_,rfl,_,rfl,z,rfl,zsl,_,rfl,_,rfl,letS,_,_,rfl,rfl,by decide +kernel,xE (by omega) (by omega),_,_,rfl,rfl,?_,?_⟩
   ·show _+1<=sizeLine;have:=nz.2.2;omega
   refine ⟨_,rfl,_,rfl,_,_,rfl,rfl,_,rfl,z,rfl,zsl,_,_,rfl,rfl,?_,?_⟩
   ·rw [Za];show _+1+_<=sizeLine;have:=nz.2.2;omega
   exact ⟨_,rfl,_,_,rfl,rfl,mm-1,by omega,k+1,_,rfl,sJ,ty.1,λ_=>by rw [ty.2];exact hat k26,by omega,λj j1 j2=>by omega,λh=>by omega⟩
  ·rw [decide_eq_false (show ¬ ((k:Nat):Int)<26 by omega)]
   have g1:0<=((k:Nat):Int) / 26 % 26/\((k:Nat):Int) / 26 % 26<26:=⟨Int.emod_nonneg _ (by decide),Int.emod_lt_of_pos _ (by decide)⟩;have g2:0<=((k:Nat):Int) % 26/\((k:Nat):Int) % 26<26:=⟨Int.emod_nonneg _ (by decide),Int.emod_lt_of_pos _ (by decide)⟩;refine zH ⟨_,rfl,_,rfl,_,_,rfl,rfl,⟨by decide,by decide⟩,_,_,rfl,rfl,(by show (0:Int)<26;decide),letS,_,_,rfl,rfl,by decide +kernel,xE g1.1 g1.2,?_⟩;refine ⟨_,rfl,_,rfl,_,_,rfl,rfl,(by show (0:Int)<26;decide),letS,_,_,rfl,rfl,by decide +kernel,xE g2.1 g2.2,_,_,rfl,rfl,(by show 1+1<=sizeLine;decide),?_⟩
   have e2:(⟨#[97+(((k:Nat):Int) / 26 % 26).toNat]⟩:Str)++(⟨#[97+(((k:Nat):Int) % 26).toNat]⟩:Str)=nm2 k:=by
    refine zc0 ?_;rw [xD];show [97+(((k:Nat):Int) / 26 % 26).toNat]++[97+(((k:Nat):Int) % 26).toNat]=[97+k / 26 % 26,97+k % 26];rw [show (((k:Nat):Int) / 26 % 26).toNat=k / 26 % 26 by omega,show (((k:Nat):Int) % 26).toNat=k % 26 by omega];rfl
   rw [e2];refine ⟨_,rfl,_,_,rfl,rfl,mm-1,by omega,k+1,nm2 k,rfl,sJ,nm2_g k,λh=>by omega,by omega,λj j1 j2=>?_,λ_=>rfl⟩;by_cases e:j+1<k
   ·exact hA j j1 e
   ·have e3:j=k-1:=by omega
    rw [e3,← hB (by omega)];exact hz
 ·rw [decide_eq_false ho]
  refine zH ⟨_,rfl,z,rfl,λJ2 s2=>⟨_,rfl,?_⟩⟩;by_cases hk':z∈keptWs
  ·rw [decide_eq_true hk']
   have hz:z∈os++keptWs:=q2y _ hk';have kn:=next hz;refine zP ?_;refine ⟨λσ' H'=>∃ m',m'<mm/\_,λ_ _ z=>z,?_⟩;refine ⟨_,rfl,_,_,rfl,rfl,_,rfl,?_⟩;by_cases k26:k<26
   ·rw [decide_eq_true (show ((k:Nat):Int)<26 by omega)]
    have ty:=zb7 (c:=97+((k:Nat):Int).toNat) nz at0 (hat k26) (by omega);have zsl:z.length<=sizeLine:=by have:=nz.2.2;omega
    have sa:=Txt.slice_le z none (some at');have sb:=Txt.slice_le z (some (at'+1)) none;refine zP ⟨_,rfl,_,rfl,_,rfl,z,rfl,zsl,_,rfl,_,rfl,letS,_,_,rfl,rfl,by decide +kernel,xE (by omega) (by omega),_,_,rfl,rfl,?_,?_⟩
    ·show _+1<=sizeLine;have:=nz.2.2;omega
    refine ⟨_,rfl,_,rfl,_,_,rfl,rfl,_,rfl,z,rfl,zsl,_,_,rfl,rfl,?_,?_⟩
    ·rw [Za];show _+1+_<=sizeLine;have:=nz.2.2;omega
    exact ⟨_,rfl,_,_,rfl,rfl,mm-1,by omega,k+1,_,rfl,(sJ.trans s2),ty.1,λ_=>by rw [ty.2];exact hat k26,by omega,λj j1 j2=>by omega,λh=>by omega⟩
   ·rw [decide_eq_false (show ¬ ((k:Nat):Int)<26 by omega)]
    have g1:0<=((k:Nat):Int) / 26 % 26/\((k:Nat):Int) / 26 % 26<26:=⟨Int.emod_nonneg _ (by decide),Int.emod_lt_of_pos _ (by decide)⟩;have g2:0<=((k:Nat):Int) % 26/\((k:Nat):Int) % 26<26:=⟨Int.emod_nonneg _ (by decide),Int.emod_lt_of_pos _ (by decide)⟩;refine zH ⟨_,rfl,_,rfl,_,_,rfl,rfl,⟨by decide,by decide⟩,_,_,rfl,rfl,(by show (0:Int)<26;decide),letS,_,_,rfl,rfl,by decide +kernel,xE g1.1 g1.2,?_⟩;refine ⟨_,rfl,_,rfl,_,_,rfl,rfl,(by show (0:Int)<26;decide),letS,_,_,rfl,rfl,by decide +kernel,xE g2.1 g2.2,_,_,rfl,rfl,(by show 1+1<=sizeLine;decide),?_⟩
    have e2:(⟨#[97+(((k:Nat):Int) / 26 % 26).toNat]⟩:Str)++(⟨#[97+(((k:Nat):Int) % 26).toNat]⟩:Str)=nm2 k:=by
     refine zc0 ?_;rw [xD];show [97+(((k:Nat):Int) / 26 % 26).toNat]++[97+(((k:Nat):Int) % 26).toNat]=[97+k / 26 % 26,97+k % 26];rw [show (((k:Nat):Int) / 26 % 26).toNat=k / 26 % 26 by omega,show (((k:Nat):Int) % 26).toNat=k % 26 by omega];rfl
    rw [e2];refine ⟨_,rfl,_,_,rfl,rfl,mm-1,by omega,k+1,nm2 k,rfl,(sJ.trans s2),nm2_g k,λh=>by omega,by omega,λj j1 j2=>?_,λ_=>rfl⟩;by_cases e:j+1<k
    ·exact hA j j1 e
    ·have e3:j=k-1:=by omega
     rw [e3,← hB (by omega)];exact hz
  ·rw [decide_eq_false hk']
   exact zH ⟨_,rfl,q z J2 nz ho hk' (sJ.trans s2)⟩
end K22
namespace F2
open PySem L2
mutual
theorem sz_congr {S T:Nat->Int} {n:Nat} (h:∀ i,i<n->S i=T i):∀ {F:Fm},CL n F->sz S F=sz T F
 | .num _,_=>by unfold sz;rfl
 | .here,_=>by unfold sz;rfl
 | .cell _,_=>by unfold sz;rfl
 | .shi _ _ _,_=>by unfold sz;rfl
 | .loc _,_=>by unfold sz;rfl
 | .at' _ _,q=>by unfold CL at q;unfold sz;rw [sz_congr h q]
 | .pair _ _ _,q=>by unfold CL at q;unfold sz;rw [sz_congr h q.1,sz_congr h q.2]
 | .cho _ _ _,q=>by unfold CL at q;unfold sz;rw [sz_congr h q.1,sz_congr h q.2.1,sz_congr h q.2.2]
 | .call _ _,q=>by unfold CL at q;unfold sz;rw [za6 h q.2.2,h _ q.2.1]
theorem za6 {S T:Nat->Int} {n:Nat} (h:∀ i,i<n->S i=T i):∀ {F:Fms},CLs n F->szL S F=szL T F
 | .nil,_=>by unfold szL;rfl
 | .cons _ _,q=>by unfold CLs at q;unfold szL;rw [sz_congr h q.1,za6 h q.2]
end
mutual
theorem dp_congr {S T:Nat->Int} {n:Nat} (h:∀ i,i<n->S i=T i):∀ {F:Fm},CL n F->dp S F=dp T F
 | .num _,_=>by unfold dp;rfl
 | .here,_=>by unfold dp;rfl
 | .cell _,_=>by unfold dp;rfl
 | .shi _ _ _,_=>by unfold dp;rfl
 | .loc _,_=>by unfold dp;rfl
 | .at' _ _,q=>by unfold CL at q;unfold dp;rw [dp_congr h q]
 | .pair _ _ _,q=>by unfold CL at q;unfold dp;rw [dp_congr h q.1,dp_congr h q.2]
 | .cho _ _ _,q=>by unfold CL at q;unfold dp;rw [dp_congr h q.1,dp_congr h q.2.1,dp_congr h q.2.2]
 | .call _ _,q=>by unfold CL at q;unfold dp;rw [zbw h q.2.2,h _ q.2.1]
theorem zbw {S T:Nat->Int} {n:Nat} (h:∀ i,i<n->S i=T i):∀ {F:Fms},CLs n F->dpL S F=dpL T F
 | .nil,_=>by unfold dpL;rfl
 | .cons _ _,q=>by unfold CLs at q;unfold dpL;rw [dp_congr h q.1,zbw h q.2]
end
mutual
theorem nodes_sz {S:Nat->Int} (h:∀ i,0<=S i):∀ F:Fm,(nodes F:Int)<=sz S F
 | .num _=>by unfold sz nodes;omega
 | .here=>by unfold sz nodes;omega
 | .cell _=>by unfold sz nodes;omega
 | .shi _ _ _=>by unfold sz nodes;omega
 | .loc _=>by unfold sz nodes;omega
 | .at' _ p=>by unfold sz nodes;have:=nodes_sz h p;omega
 | .pair _ l r=>by unfold sz nodes;have:=nodes_sz h l;have:=nodes_sz h r;omega
 | .cho t l r=>by unfold sz nodes;have:=nodes_sz h t;have:=nodes_sz h l;have:=nodes_sz h r;omega
 | .call a gs=>by unfold sz nodes;have:=zbe h gs;have:=h a.toNat;omega
theorem zbe {S:Nat->Int} (h:∀ i,0<=S i):∀ F:Fms,(nodesL F:Int)<=szL S F
 | .nil=>by unfold szL nodesL;omega
 | .cons f r=>by unfold szL nodesL;have:=nodes_sz h f;have:=zbe h r;omega
end
theorem CLs_of {n:Nat}:∀ {gs:Fms},(∀ g∈gs.toL,CL n g)->CLs n gs
 | .nil,_=>by unfold CLs;trivial
 | .cons f r,h=>by unfold CLs;exact ⟨h f q1z,CLs_of λg hg=>h g (q1y _ hg)⟩
def CL_of {n:Nat} {F:Fm} (h:∀ g∈partsF F,CL n g) (hc:∀ a gs,F=.call a gs->0<=a/\a.toNat<n):CL n F:=by
 cases F with
 | num n=>unfold CL;trivial
 | here=>unfold CL;trivial
 | cell r=>unfold CL;trivial
 | shi r b o=>unfold CL;trivial
 | loc a=>unfold CL;trivial
 | at' r p=>unfold CL;exact h p q1z
 | pair s l r=>unfold CL;exact ⟨h l q1z,h r (q1y _ q1z)⟩
 | cho t l r=>unfold CL;exact ⟨h t q1z,h l (q1y _ q1z),h r (q1y _ (q1y _ q1z))⟩
 | call a gs=>unfold CL;exact ⟨(hc a gs rfl).1,(hc a gs rfl).2,CLs_of h⟩
end F2
namespace K22
open PySem L2
variable {P:Program} {w:World} {K:Fg} {mg:J0} {base:Heap}
def Sof (hs:List (Int×Int)):Nat->Int:=λi=>(hs.getD i (0,0)).1
def Dof (hs:List (Int×Int)):Nat->Int:=λi=>(hs.getD i (0,0)).2
structure Kw where
 names:Jg
 lens:Jc
 calls:Jg
 counts:List Nat
 heads:List (Int×Int)
 bodies:List F2.Fm
 own:Option (Jg)
 near:List Nat
 far:List Nat
def Kw.R (W:Kw):Rdg:=⟨W.names,W.calls.zip W.counts,W.own⟩
def Kw.fns (W:Kw):List F2.Fn:=W.counts.zip W.bodies
def Kw.D (W:Kw):Dr:=⟨W.names,W.lens,W.calls.zip W.counts,W.fns⟩
def NmK (z:Str):Prop:=NmG z/\z ∉ keptWs
def NmK.nm {z:Str} (h:NmK z):Zz z=true:=nm_of h.1 h.2
structure Kw.Ok (W:Kw):Prop where
 g:∀ z∈W.names++W.calls++W.own.getD [],NmK z
 nd:(W.names++W.calls++W.own.getD []).Nodup
 cl:W.counts.length=W.calls.length
 hl:W.heads.length=W.calls.length
 bl:W.bodies.length=W.calls.length
 nl:W.lens.length=W.names.length
 n12:W.names.length<=12
 c8:W.calls.length<=8
 c6:∀ k∈W.counts,k<=6
 o6:(W.own.getD []).length<=6
 near:∀ k∈W.near,k<W.names.length
 far:∀ k∈W.far,k<W.names.length
 ts:F2.Told W.fns F2.sz (Sof W.heads)
 td:F2.Told W.fns F2.dp (Dof W.heads)
 nn:∀ i,0<=Sof W.heads i
 nnd:∀ i,0<=Dof W.heads i
structure Pt where
 ws:Jg
 F:F2.Fm
 s:Int
 d:Int
 b:Nat
structure PtOk (W:Kw) (p:Pt):Prop where
 rd:∀ n r,p.b<=n->zX W.R n (p.ws++r)=.ok (p.F,r)
 s:p.s=F2.sz (Sof W.heads) p.F
 d:p.d=F2.dp (Dof W.heads) p.F
 c:F2.CL W.calls.length p.F
 g:∀ w∈p.ws,WG w/\w.length<=20
 l:p.ws.length<=6*F2.nodes p.F
 s60:p.s<=60
 d7:p.d<=7
 b30:p.b<=30
theorem Yy {x:Str}:∀ {l:Jg} {i:Nat},l.Nodup->l[i]?=some x->plc x l=some i
 | [],i,_,e=>by cases e
 | y::l,0,_,e=>by
  unfold plc;rw [if_pos (by simpa using e)]
 | y::l,i+1,nd,e=>by
  have e:l[i]?=some x:=e;have nd':=List.nodup_cons.mp nd;unfold plc;rw [if_neg (λz=>nd'.1 (by rw [z];exact List.mem_of_getElem? e)),Yy nd'.2 e];rfl
def nm_ne {z:Str} (h:NmK z):z≠"("/\z≠"here":=by
 constructor
 ·rintro rfl;exact absurd h.1 (by decide +kernel)
 ·rintro rfl;exact h.2 (by decide)
def pf_here (R:Rdg) (n:Nat) (r:Jg):zX R n ("here"::r)=.ok (.here,r):=by
 unfold zX;rw [if_neg (by decide),if_pos rfl]
def pf_name {R:Rdg} {z:Str} {f:F2.Fm} (h:NmK z) (hf:YS R z=.ok f) (n:Nat) (r:Jg):zX R n (z::r)=.ok (f,r):=by
 unfold zX;rw [if_neg (nm_ne h).1,if_neg (nm_ne h).2,if_pos h.nm,hf];rfl
def YA {m:Int} (h1:-9223372036854775808<=m) (h2:m<=9223372036854775807):numS m≠"("/\numS m≠"here"/\Zz (numS m)=false/\WG (numS m)/\(numS m).length<=20:=by
 have hl:=XM 18
 have key:∃ l:List Nat,lt' (numS m)=l/\l≠[]/\(∀ a∈l,a=45∨48<=a/\a<=57)/\l.length<=20:=by
  have p19:(10:Nat) ^ 19=10000000000000000000:=by decide
  by_cases h0:0<=m
  ·obtain ⟨k,rfl⟩:=Int.eq_ofNat_of_zero_le h0
   have:=hl k (by omega);exact ⟨_,zdp k,Xp k,λa ha=>.inr (Z7 k a ha),by omega⟩
  ·obtain ⟨k,rfl⟩:∃ k:Nat,m=-((k+1:Nat):Int):=⟨(-m-1).toNat,by omega⟩
   have:=hl (k+1) (by omega);refine ⟨_,zdo k,by simp,λa ha=>?_,by rw [q3x];omega⟩;rcases List.mem_cons.mp ha with rfl | ha
   ·exact .inl rfl
   ·exact .inr (Z7 (k+1) a ha)
 obtain ⟨l,e,ne,ha,hl⟩:=key;have zl:=yZ (numS m);refine ⟨λz=>?_,λz=>?_,?_,.inr (.inr ⟨by rw [e];exact ne,λa m=>?_⟩),by rw [zl,e];exact hl⟩
 ·rw [z] at e
  have:=ha 40 (by rw [← e];decide);omega
 ·rw [z] at e
  have:=ha 104 (by rw [← e];decide);omega
 ·rw [Bool.eq_false_iff]
  intro q;unfold Zz at q;simp only [Bool.and_eq_true] at q
  obtain ⟨a,ma⟩:∃ a,a∈l:=by
   cases l with
   | nil=>exact absurd rfl ne
   | cons a l=>exact ⟨a,q1z⟩
  have h3:=List.all_eq_true.mp q.2.1 a (by show a∈lt' (numS m);rw [e];exact ma);rw [Y9,Xi] at h3;obtain ⟨i,_,ei⟩:=List.mem_map.mp (of_decide_eq_true h3);have:=ha a ma;omega
 ·have:=ha a (by rw [← e];exact m)
  omega
def pf_num {R:Rdg} {m:Int} (h1:-9223372036854775808<=m) (h2:m<=9223372036854775807) (n:Nat) (r:Jg):zX R n (numS m::r)=.ok (.num m,r):=by
 obtain ⟨a,b,c,_⟩:=YA h1 h2;unfold zX;rw [if_neg a,if_neg b,if_neg (by rw [c];decide),Yb h1 h2]
def X5 {R:Rdg} {n:Nat} {ws r:Jg} {f:F2.Fm} (h:yF R (zX R n) (ws++(")":Str)::r)=.ok (f,")"::r)):zX R (n+1) ("("::(ws++(")":Str)::r))=.ok (f,r):=by
 unfold zX;rw [if_pos rfl];show (yF R (zX R n) (ws++(")":Str)::r)).bind _=_;rw [h];simp [Except.bind,pWord]
def z7 (ps:List Pt):Jg:=ps.flatMap Pt.ws
theorem YB {W:Kw} {n:Nat} (r:Jg):∀ {ps:List Pt},(∀ p∈ps,PtOk W p/\p.b<=n)->yJ (zX W.R n) ps.length (z7 ps++r)=.ok (ps.map Pt.F,r)
 | [],_=>rfl
 | p::ps,h=>by
  have h1:=h p q1z;have ih:=YB (ps:=ps) r λq m=>h q (q1y _ m);show ((zX W.R n) (z7 (p::ps)++r)).bind _=_;have e:z7 (p::ps)++r=p.ws++(z7 ps++r):=by unfold z7;rw [List.flatMap_cons,List.append_assoc]
  rw [e,h1.1.rd n _ h1.2];show (yJ (zX W.R n) ps.length (z7 ps++r)).bind _=_;rw [ih];rfl
mutual
def DueAt (H:Hp):F2.Fm->Ad->Prop
 | .num n,x=>H x=some (.tup [.str "number",.int n])
 | .here,x=>H x=some (.tup [.str "here"])
 | .cell r,x=>H x=some (.tup [.str "cell",.int r])
 | .loc a,x=>H x=some (.tup [.str "local",.int a])
 | .shi r b o,x=>H x=some (.tup [.str "shift",.int r,.int b,.int o])
 | .at' r p,x=>∃ y,H x=some (.tup [.str "at",.int r,.ref y])/\DueAt H p y
 | .pair sg l r,x=>∃ y z,H x=some (.tup [.str "pair",.str sg,.ref y,.ref z])/\DueAt H l y/\DueAt H r z
 | .cho t l r,x=>∃ u y z,H x=some (.tup [.str "choice",.ref u,.ref y,.ref z])/\DueAt H t u/\DueAt H l y/\DueAt H r z
 | .call a hs,x=>∃ l ys,H x=some (.tup [.str "call",.int a,.ref l])/\H l=some (.lst (ys.map V.ref))/\DuesAt H hs ys
def DuesAt (H:Hp):F2.Fms->Jh->Prop
 | .nil,ys=>ys=[]
 | .cons f r,ys=>∃ y t,ys=y::t/\DueAt H f y/\DuesAt H r t
end
mutual
theorem DueAt.same {H H':Hp} (s:Same H H'):∀ {F:F2.Fm} {x:Ad},DueAt H F x->DueAt H' F x
 | .num _,_,h=>s _ _ h
 | .here,_,h=>s _ _ h
 | .cell _,_,h=>s _ _ h
 | .shi _ _ _,_,h=>s _ _ h
 | .loc _,_,h=>s _ _ h
 | .at' _ _,_,h=>by obtain ⟨y,h,p⟩:=h;exact ⟨y,s _ _ h,DueAt.same s p⟩
 | .pair _ _ _,_,h=>by obtain ⟨y,z,h,p,q⟩:=h;exact ⟨y,z,s _ _ h,DueAt.same s p,DueAt.same s q⟩
 | .cho _ _ _,_,h=>by obtain ⟨u,y,z,h,o,p,q⟩:=h;exact ⟨u,y,z,s _ _ h,DueAt.same s o,DueAt.same s p,DueAt.same s q⟩
 | .call _ _,_,h=>by obtain ⟨l,ys,h,e,p⟩:=h;exact ⟨l,ys,s _ _ h,s _ _ e,DuesAt.same s p⟩
theorem DuesAt.same {H H':Hp} (s:Same H H'):∀ {F:F2.Fms} {ys:Jh},DuesAt H F ys->DuesAt H' F ys
 | .nil,_,h=>h
 | .cons _ _,_,h=>by obtain ⟨y,t,e,p,q⟩:=h;exact ⟨y,t,e,DueAt.same s p,DuesAt.same s q⟩
end
def KLs (H:Hp) (kvs:Jm) (k:Str) (xs:Jo):Prop:=∃ a,zZ kvs (.inr k)=some (.ref a)/\H a=some (.lst xs)
structure KLf (H:Hp) (kd:Ad) (W:Kw):Prop where
 ex:∃ kvs,H kd=some (.dK kvs)/\((W.own=none/\zZ kvs (.inr "own")=some .non)∨∃ o,W.own=some o/\KLs H kvs "own" (o.map V.str))/\KLs H kvs "names" (W.names.map V.str)/\KLs H kvs "near" (W.near.map λk:Nat=>V.int k)/\KLs H kvs "far" (W.far.map λk:Nat=>V.int k)
def KLs.same {H H':Hp} {kvs:Jm} {k:Str} {xs:Jo} (h:KLs H kvs k xs) (s:Same H H'):KLs H' kvs k xs:=by
 obtain ⟨a,e,f⟩:=h;exact ⟨a,e,s _ _ f⟩
def KLf.same {H H':Hp} {kd:Ad} {W:Kw} (h:KLf H kd W) (s:Same H H'):KLf H' kd W:=by
 obtain ⟨kvs,a,b,c,d,e⟩:=h.ex;refine ⟨kvs,s _ _ a,?_,c.same s,d.same s,e.same s⟩;rcases b with b | ⟨o,b1,b2⟩
 ·exact .inl b
 ·exact .inr ⟨o,b1,b2.same s⟩
structure LfOk (W:Kw) (p:Pt):Prop where
 o:PtOk W p
 s:p.s=1
 d:p.d=0
 b:p.b<=1
structure LfK (W:Kw):Prop where
 g:∀ z∈W.names++W.own.getD [],NmK z
 nd:W.names.Nodup
 od:(W.own.getD []).Nodup
 near:∀ k∈W.near,k<W.names.length
 far:∀ k∈W.far,k<W.names.length
 n12:W.names.length<=12
 o6:(W.own.getD []).length<=6
 nl:W.near.length<=12
 fl:W.far.length<=12
def Lf.of {W:Kw} {F:F2.Fm} {ws:Jg} {b:Nat} (hb:b<=1) (rd:∀ n r,b<=n->zX W.R n (ws++r)=.ok (F,r)) (h1:∀ S,F2.sz S F=1) (h2:∀ S,F2.dp S F=0) (h3:∀ n,F2.CL n F) (g:∀ w∈ws,WG w/\w.length<=20) (l:ws.length<=6):LfOk W ⟨ws,F,1,0,b⟩:=by
 have hn:1<=F2.nodes F:=by rw [F2.nodes_eq];omega
 exact ⟨⟨rd,(h1 _).symm,(h2 _).symm,h3 _,g,(by show ws.length<=6*F2.nodes F;omega),(by show (1:Int)<=60;decide),(by show (0:Int)<=7;decide),(by show b<=30;omega)⟩,rfl,rfl,hb⟩
def lf_here {W:Kw}:LfOk W ⟨["here"],.here,1,0,0⟩:=Lf.of (by decide) (λn r _=>pf_here _ n r) (λ_=>by unfold F2.sz;rfl) (λ_=>by unfold F2.dp;rfl) (λ_=>by unfold F2.CL;trivial) (λw m=>by cases List.mem_singleton.mp m;exact ⟨.inr (.inr ⟨by decide,by unfold SgnN;decide⟩),by decide⟩) (by decide)
def lf_num {W:Kw} {m:Int} (h1:-9223372036854775808<=m) (h2:m<=9223372036854775807):LfOk W ⟨[numS m],.num m,1,0,0⟩:=Lf.of (by decide) (λn r _=>pf_num h1 h2 n r) (λ_=>by unfold F2.sz;rfl) (λ_=>by unfold F2.dp;rfl) (λ_=>by unfold F2.CL;trivial) (λw m=>by cases List.mem_singleton.mp m;exact (YA h1 h2).2.2.2) (by show 1<=6;decide)
def NmK.wl {z:Str} (h:NmK z):WG z/\z.length<=20:=⟨h.1.wg,Nat.le_trans h.1.2.2 (by decide)⟩
def lf_loc {W:Kw} {o:Jg} {i:Nat} {z:Str} (h:LfK W) (ho:W.own=some o) (e:o[i]?=some z):LfOk W ⟨[z],.loc i,1,0,0⟩:=by
 have hz:=h.g z (q2y _ (by rw [ho];exact List.mem_of_getElem? e));have od:o.Nodup:=by have:=h.od;rw [ho] at this;exact this
 refine Lf.of (by decide) (λn r _=>pf_name hz ?_ n r) (λ_=>by unfold F2.sz;rfl) (λ_=>by unfold F2.dp;rfl) (λ_=>by unfold F2.CL;trivial) (λw m=>by cases List.mem_singleton.mp m;exact hz.wl) (by show 1<=6;decide);unfold YS Kw.R;rw [ho];show (match plc z o with | some i=>Except.ok (F2.Fm.loc i) | none=>Except.error Er.noName)=_;rw [Yy od e]
def lf_cell {W:Kw} {i:Nat} {z:Str} (h:LfK W) (ho:W.own=none) (e:W.names[i]?=some z):LfOk W ⟨[z],.cell i,1,0,0⟩:=by
 have hz:=h.g z (List.mem_append_left _ (List.mem_of_getElem? e));refine Lf.of (by decide) (λn r _=>pf_name hz ?_ n r) (λ_=>by unfold F2.sz;rfl) (λ_=>by unfold F2.dp;rfl) (λ_=>by unfold F2.CL;trivial) (λw m=>by cases List.mem_singleton.mp m;exact hz.wl) (by show 1<=6;decide);unfold YS Kw.R;rw [ho];show (match plc z W.names with | some i=>Except.ok (F2.Fm.cell i) | none=>Except.error Er.noName)=_;rw [Yy h.nd e]
def pr_row {R:Rdg} {z:Str} {i:Nat} (h:NmK z) (e:plc z R.rows=some i) (r:Jg):pRow R (z::r)=.ok (i,r):=by
 unfold pRow ZP;dsimp only;rw [if_pos h.nm];show (match plc z R.rows with | some i=>Except.ok (i,r) | none=>.error .noName:Pr Nat)=_;rw [e]
def pn_num {lo hi m:Int} (h1:-9223372036854775808<=m) (h2:m<=9223372036854775807) (hl:lo<=m) (hh:m<=hi) (r:Jg):pNum lo hi (numS m::r)=.ok (m,r):=by
 unfold pNum;dsimp only;rw [Yb h1 h2];show (if lo<=m/\m<=hi then Except.ok (m,r) else .error .bad:Pr Int)=_;rw [if_pos ⟨hl,hh⟩]
def lf_shi {W:Kw} {i:Nat} {z:Str} {b o:Int} (h:LfK W) (ho:W.own=none) (e:W.names[i]?=some z) (b1:-400<=b) (b2:b<=400) (o1:-9223372036854775808<=o) (o2:o<=9223372036854775807):LfOk W ⟨["(","shift",z,numS b,numS o,")"],.shi i b o,1,0,1⟩:=by
 have hz:=h.g z (List.mem_append_left _ (List.mem_of_getElem? e));refine Lf.of (by decide) (λn r hn=>?_) (λ_=>by unfold F2.sz;rfl) (λ_=>by unfold F2.dp;rfl) (λ_=>by unfold F2.CL;trivial) (λw m=>?_) (by show 6<=6;decide)
 ·obtain ⟨n,rfl⟩:∃ k,n=k+1:=⟨n-1,by omega⟩
  refine X5 (ws:=["shift",z,numS b,numS o]) ?_;show yF W.R _ ("shift"::z::numS b::numS o::")"::r)=_;unfold yF;dsimp only;rw [if_neg (by decide),if_neg (by decide),if_neg (by decide +kernel),if_neg (by rintro ⟨z,_⟩;exact absurd z (by decide)),if_pos ⟨rfl,ho⟩,pr_row (R:=W.R) hz (Yy h.nd e)];show (pNum (-400) 400 (numS b::numS o::")"::r)).bind _=_;rw [pn_num (by omega) (by omega) b1 b2];show (pNum (-9223372036854775808) 9223372036854775807 (numS o::")"::r)).bind _=_;rw [pn_num o1 o2 o1 o2];rfl
 ·simp only [List.mem_cons,List.not_mem_nil,or_false] at m
  rcases m with rfl | rfl | rfl | rfl | rfl | rfl
  ·exact ⟨.inl rfl,by decide⟩
  ·exact ⟨.inr (.inr ⟨by decide,by unfold SgnN;decide⟩),by decide⟩
  ·exact hz.wl
  ·exact (YA (by omega) (by omega)).2.2.2
  ·exact (YA o1 o2).2.2.2
  ·exact ⟨.inr (.inl rfl),by decide⟩
def ext (B H H':Hp):Hp:=λa=>if (H a).isSome=true then B a else H' a
def yk {B H H':Hp} {a:Ad} (n:H a=none):ext B H H' a=H' a:=by unfold ext;rw [n];rfl
def yc {B H H':Hp} (s:Same B H):Same B (ext B H H'):=λa o e=>by unfold ext;rw [s a o e];exact e
theorem ext_sub {B H H':Hp} (s:Same B H) (s':Same H H'):Same (ext B H H') H':=λa o e=>by
 unfold ext at e
 cases z:H a with
 | none=>rw [z] at e;exact e
 | some u=>rw [z] at e;exact s' _ _ (s _ _ e)
theorem Yl {B H H' H'':Hp} (s:Same H' H''):Same (ext B H H') (ext B H H''):=λa o e=>by
 unfold ext at e ⊢
 cases z:H a with
 | none=>rw [z] at e;exact s _ _ e
 | some u=>rw [z] at e;exact e
def hd_ext {B H H':Hp} {L:Jn} (h:Hd B L H) (s:Same H H'):Hd (ext B H H') L H' :=
 ⟨h.nd,λp m=>by unfold ext;rw [h.st p m];exact h.nw p m,λp m=>s _ _ (h.st p m),ext_sub h.sm s⟩
structure PtAs' (H:Hp) (x wa da:Ad) (p:Pt):Prop where
 t:H x=some (.tup [.ref wa,.ref da,.int p.s,.int p.d,.int p.b])
 w:H wa=some (.lst (p.ws.map V.str))
 d:DueAt H p.F da
def Yd {m:Int} {n:Nat} (h:0<n):∃ k:Nat,m % (n:Int)=k/\k<n:=⟨(m % (n:Int)).toNat,by have:=Int.emod_nonneg m (show ((n:Nat):Int)≠0 by omega);omega,by have a:=Int.emod_nonneg m (show ((n:Nat):Int)≠0 by omega);have:=Int.emod_lt_of_pos m (show (0:Int)<(n:Nat) by omega);omega⟩
def yg {H:Hp} {kd:Ad} {kvs:Jm} {k:Str} {v:V} (h:H kd=some (.dK kvs)) (e:zZ kvs (.inr k)=some v):DGet H kd (.str k) (some v):=by rw [← e];exact DGet.k (k:=.inr k) h
inductive spLf (vs:Jo) (H:Hp) (Q:VK) (_:XK):Prop
 | mk (c:Int) (kd:Ad) (W:Kw) (_:vs=[.int c,.ref kd]) (_:KLf H kd W) (_:LfK W) (_:∀ p x H',Same H H'->(∀ B,Same B H->∃ wa da,PtAs' H' x wa da p/\PtAs' (ext B H H') x wa da p)->LfOk W p->Q (.ref x) H')
def X3 {H J H1 H2 H3:Hp} {wl dl t:Ad} {p:Pt} (sJ:Same H J) (e1:upd J wl (.lst (p.ws.map V.str))=H1) (n1:J wl=none) {o:HO} (e2:upd H1 dl o=H2) (n2:H1 dl=none) (d2:∀ X:Hp,X dl=some o->DueAt X p.F dl) (e3:upd H2 t (.tup [.ref wl,.ref dl,.int p.s,.int p.d,.int p.b])=H3) (n3:H2 t=none):Same H H3/\∀ B,Same B H->∃ wa da,PtAs' H3 t wa da p/\PtAs' (ext B H H3) t wa da p:=by
 obtain ⟨s1,a1⟩:=yA e1 n1;obtain ⟨s2,a2⟩:=yA e2 n2;obtain ⟨s3,a3⟩:=yA e3 n3;have z1:H wl=none:=sJ.free n1;have z2:H dl=none:=sJ.free (s1.free n2);have z3:H t=none:=sJ.free (s1.free (s2.free n3));refine ⟨sJ.trans (s1.trans (s2.trans s3)),λB _=>⟨wl,dl,⟨a3,s3 _ _ (s2 _ _ a1),d2 _ (s3 _ _ a2)⟩,⟨?_,?_,d2 _ ?_⟩⟩⟩
 ·rw [yk z3];exact a3
 ·rw [yk z1];exact s3 _ _ (s2 _ _ a1)
 ·rw [yk z2];exact s3 _ _ a2
def zeo (d:zB K mg "_law_leaf_by" ZG ["_law_cell","_law_known"]) (hlen:mg "len"=none) (hstr:mg "str"=none) (MX:Ok P w K mg base (CXe P w base) 1 "_law_mixed" ["_law_cell","_law_k"] spMx) (NB:Ok P w K mg base CX0 1 "_law_number_by" ["_law_cell"] spNb):Ok P w K mg base CX0 2 "_law_leaf_by" ["_law_cell","_law_known"] spLf:=by
 obtain ⟨f,fd,m,F,bd⟩:=d;refine ⟨f,fd,m,F.kp,bd,F.ok sc_l_leaf_by (by rintro vs H Q E ⟨_,_,_,e,_⟩;rw [e];rfl) λcdv A outer s H vs Q E hr h=>?_⟩;obtain ⟨c,kd,W,rfl,KL,LK,q⟩:=h;have hr1:Room 1 _:=hr;have hu:=Nat.lt_of_le_of_lt (Nat.add_le_add_left (show 1<=64 by decide) _) hr.units;have nd:=sc_l_leaf_by.nd;obtain ⟨kvs,ek,ko,⟨na,vn,en⟩,⟨ne,vne,ene⟩,⟨fa,vfa,efa⟩⟩:=KL.ex;refine ⟨_,(zb (zq (i:=2) nd rfl (Or.inl rfl) (zA zO (pv 0) zd))
   (zb (zq (i:=3) nd rfl (Or.inl rfl) (zA z5 (pv 0) zd))
   (zb (zq (i:=4) nd rfl (Or.inl rfl) (zx MX hr1 (by rfl) z9 (za (pv 3) (za zd zc))))
   (zb (zC (zm zU (pv 2) zd (zu _)) (ze (zi (yG (za (zN (za zk zc)) (za (yG (za zk zc)) (za zd (za zd (za zd zc)))))))) zh)
   (zb (xz (zC (zm zcn (zJ hu (pv 1) zk (λ_ _=>rfl)) xi (zu _)) (ze (zC (y6 (zm xI (pv 2) zd (zu _)) (yP (zm xI (zf zj (by rfl) hlen PySem.boot_len (za (zJ hu (pv 1) zk (λ_ _=>rfl)) zc)) zd (zu _)))).pt (zb (zq (i:=5) nd rfl (Or.inl rfl) (zA zO (pv 3) (zf zj (by rfl) hlen PySem.boot_len (za (zJ hu (pv 1) zk (λ_ _=>rfl)) zc))))
   (ze (zi (yG (za (zN (za (zn zK (zJ hu (pv 1) zk (λ_ _=>rfl)) (pv 5) (λ_ _=>rfl)) zc)) (za (yG (za zk (za (pv 5) zc))) (za zd (za zd (za zd zc))))))))) zh)) (ze (zC (y6 (zm zU (pv 2) zd (zu _)) (yP (zm xI (zf zj (by rfl) hlen PySem.boot_len (za (zJ hu (pv 1) zk (λ_ _=>rfl)) zc)) zd (zu _)))).pt (zb (zq (i:=6) nd rfl (Or.inl rfl) (zn zK (zJ hu (pv 1) zk (λ_ _=>rfl)) (zA zO (pv 3) (zf zj (by rfl) hlen PySem.boot_len (za (zJ hu (pv 1) zk (λ_ _=>rfl)) zc))) (λ_ _=>rfl)))
   (ze (zi (yG (za (zN (za (zn zK (zJ hu (pv 1) zk (λ_ _=>rfl)) (pv 6) (λ_ _=>rfl)) zc)) (za (yG (za zk (za (pv 6) zc))) (za zd (za zd (za zd zc))))))))) (ze (zC (y6 (zm zU (pv 2) zd (zu _)) (yP (zm xI (zf zj (by rfl) hlen PySem.boot_len (za (zJ hu (pv 1) zk (λ_ _=>rfl)) zc)) zd (zu _)))).pt (zb (zq (i:=6) nd rfl (Or.inl rfl) (zn zK (zJ hu (pv 1) zk (λ_ _=>rfl)) (zA zO (pv 3) (zf zj (by rfl) hlen PySem.boot_len (za (zJ hu (pv 1) zk (λ_ _=>rfl)) zc))) (λ_ _=>rfl)))
   (zb (zq (i:=7) nd rfl (Or.inl rfl) (zA ZL (zA zO (pv 4) zd) zd))
   (zb (zq (i:=8) nd rfl (Or.inl rfl) (zx NB hr1 (by rfl) zE (za (zA z5 (pv 3) zd) zc)))
   (zb (zq (i:=9) nd rfl (Or.inl rfl) (zN (za zk (za zk (za (zn zK (zJ hu (pv 1) zk (λ_ _=>rfl)) (pv 6) (λ_ _=>rfl)) (za (yH Zp (by rfl) hstr PyProof.Rows.boot_str (za (pv 7) zc)) (za (yH Zp (by rfl) hstr PyProof.Rows.boot_str (za (pv 8) zc)) (za zk zc))))))))
   (ze (zi (yG (za (pv 9) (za (yG (za zk (za (pv 6) (za (pv 7) (za (pv 8) zc))))) (za zd (za zd (za zd zc)))))))))))) zh))))))
   (zb (zq (i:=10) nd rfl (Or.inl rfl) (zx NB hr1 (by rfl) zE (za (pv 3) zc)))
   (ze (zi (yG (za (zN (za (yH Zp (by rfl) hstr PyProof.Rows.boot_str (za (pv 10) zc)) zc)) (za (yG (za zk (za (pv 10) zc))) (za zd (za zd (za zd zc)))))))))))))),?_⟩
 refine ⟨_,rfl,_,_,rfl,rfl,(by show (0:Int)<4;decide),_,rfl,_,_,rfl,rfl,⟨by decide,by decide⟩,_,rfl,_,_,rfl,λmx mxp mxl=>?_⟩;have h4:0<=c % 4/\c % 4<4:=⟨Int.emod_nonneg _ (by decide),Int.emod_lt_of_pos _ (by decide)⟩;generalize c % 4=how at h4;generalize c / 4=rest;refine ⟨_,rfl,rfl,_,rfl,?_⟩;refine xL (λ_=>?_) (λe1=>?_)
 ·refine ⟨szU 1,λwl nwl=>⟨szU 1,λdl ndl=>⟨szU 5,λt nt=>?_⟩⟩⟩
  have:=X3 (p:=⟨["here"],.here,1,0,0⟩) (Same.refl _) rfl nwl rfl ndl (λX e=>e) rfl nt;exact q _ t _ this.1 this.2 lf_here
 have SL:(1000:Nat)<sizeLine:=by decide
 refine ⟨λσ J=>σ=[iq c,rq kd,iq how,iq rest,iq mx,none,none,none,none,none,none]/\J=H,?_,?_⟩
 ·rcases ko with ⟨eo,vo⟩ | ⟨o,eo,oa,vo,eoa⟩
  ·refine ⟨_,rfl,kd,_,rfl,yg ek vo,rfl,_,rfl,?_⟩
   refine zH ⟨_,rfl,rfl,_,rfl,?_⟩;refine xL (λe2=>?_) (λe2=>zH ?_)
   ·refine ⟨_,rfl,kd,_,rfl,yg ek vne,ne,_,rfl,.inl (SqL.of ene),_,_,rfl,rfl,_,rfl,?_⟩
    rw [Jj];refine xL (λl0=>?_) (λ_=>?_)
    ·have l0:0<W.near.length:=by have:=of_decide_eq_true l0;omega
     obtain ⟨k,ekk,kl⟩:=Yd (m:=rest) l0;obtain ⟨r,er⟩:∃ r,W.near[k]?=some r:=⟨_,List.getElem?_eq_getElem kl⟩;have rl:=LK.near r (List.mem_of_getElem? er);obtain ⟨z,ez⟩:∃ z,W.names[r]?=some z:=⟨_,List.getElem?_eq_getElem rl⟩;refine ⟨_,rfl,kd,_,rfl,yg ek vne,_,rfl,_,rfl,kd,_,rfl,yg ek vne,ne,_,rfl,.inl (SqL.of ene),_,_,rfl,rfl,by rw [Jj];omega,ne,_,_,_,rfl,rfl,SqL.of ene,by rw [Jj,ekk];exact zQ (by rw [List.getElem?_map,er];rfl),?_⟩;refine ⟨_,rfl,kd,_,rfl,yg ek vn,_,rfl,na,_,_,_,rfl,rfl,SqL.of en,zQ (by rw [List.getElem?_map,ez];rfl),szU 1,λwl nwl=>⟨_,rfl,szU 2,λdl ndl=>⟨szU 5,λt nt=>?_⟩⟩⟩;have:=X3 (p:=⟨[z],.cell r,1,0,0⟩) (Same.refl _) rfl nwl rfl ndl (λX e=>e) rfl nt;exact q _ t _ this.1 this.2 (lf_cell LK eo ez)
    ·refine ⟨_,rfl,rfl,_,rfl,?_⟩
     have e2:how=2:=V.int.inj (of_decide_eq_true e2);rw [decide_eq_false (λz=>by have:=V.int.inj z;omega)];exact zH (zH ⟨rfl,rfl⟩)
   ·refine ⟨_,rfl,rfl,_,rfl,?_⟩
    refine xL (λe3=>?_) (λe3=>zH ⟨rfl,rfl⟩);refine ⟨_,rfl,kd,_,rfl,yg ek vfa,fa,_,rfl,.inl (SqL.of efa),_,_,rfl,rfl,_,rfl,?_⟩;rw [Jj];refine xL (λl0=>?_) (λ_=>⟨rfl,rfl⟩);have l0:0<W.far.length:=by have:=of_decide_eq_true l0;omega
    obtain ⟨k,ekk,kl⟩:=Yd (m:=rest) l0;obtain ⟨r,er⟩:∃ r,W.far[k]?=some r:=⟨_,List.getElem?_eq_getElem kl⟩;have rl:=LK.far r (List.mem_of_getElem? er);obtain ⟨z,ez⟩:∃ z,W.names[r]?=some z:=⟨_,List.getElem?_eq_getElem rl⟩;refine ⟨_,rfl,kd,_,rfl,yg ek vfa,_,rfl,_,rfl,kd,_,rfl,yg ek vfa,fa,_,rfl,.inl (SqL.of efa),_,_,rfl,rfl,by rw [Jj];omega,fa,_,_,_,rfl,rfl,SqL.of efa,by rw [Jj,ekk];exact zQ (by rw [List.getElem?_map,er];rfl),?_⟩;refine ⟨_,rfl,_,_,rfl,rfl,(by show (0:Int)<801;decide),_,_,rfl,rfl,?_⟩;have h8:0<=mx % 801/\mx % 801<801:=⟨Int.emod_nonneg _ (by decide),Int.emod_lt_of_pos _ (by decide)⟩;obtain ⟨by',eby,b1,b2⟩:∃ by':Int,mx % 801-400=by'/\-400<=by'/\by'<=400:=⟨_,rfl,by omega,by omega⟩
    rw [eby];refine ⟨_,rfl,_,_,rfl,rfl,⟨by decide,by decide⟩,_,rfl,λn J n1 n2 sJ=>?_⟩;refine ⟨_,rfl,kd,_,rfl,yg (sJ _ _ ek) vn,_,rfl,na,_,_,_,rfl,rfl,SqL.of (sJ _ _ en),zQ (by rw [List.getElem?_map,ez];rfl),_,rfl,by',rfl,by omega,by omega,_,rfl,n,rfl,by omega,by omega,szU 6,λwl nwl=>?_⟩;refine ⟨_,rfl,_,rfl,_,rfl,_,rfl,szU 4,λdl ndl=>⟨szU 5,λt nt=>?_⟩⟩;have:=X3 (p:=⟨["(","shift",z,numS by',numS n,")"],.shi r by' n,1,0,1⟩) sJ rfl nwl rfl ndl (λX e=>e) rfl nt;exact q _ t _ this.1 this.2 (lf_shi LK eo ez b1 b2 n1 n2)
  ·refine ⟨_,rfl,kd,_,rfl,yg ek vo,rfl,_,rfl,?_⟩
   refine zP ⟨_,rfl,_,_,rfl,rfl,_,rfl,?_⟩;refine xL (λe2=>?_) (λe2=>zH ⟨rfl,rfl⟩);refine ⟨_,rfl,kd,_,rfl,yg ek vo,oa,_,rfl,.inl (SqL.of eoa),_,_,rfl,rfl,_,rfl,?_⟩;rw [Jj];refine xL (λl0=>?_) (λ_=>⟨rfl,rfl⟩);have l0:0<o.length:=by have:=of_decide_eq_true l0;omega
   obtain ⟨k,ekk,kl⟩:=Yd (m:=rest) l0;obtain ⟨z,ez⟩:∃ z,o[k]?=some z:=⟨_,List.getElem?_eq_getElem kl⟩;refine ⟨_,rfl,_,rfl,kd,_,rfl,yg ek vo,oa,_,rfl,.inl (SqL.of eoa),_,_,rfl,rfl,by rw [Jj];omega,?_⟩;rw [Jj,ekk];refine ⟨_,rfl,kd,_,rfl,yg ek vo,_,rfl,oa,_,_,_,rfl,rfl,SqL.of eoa,zQ (by rw [List.getElem?_map,ez];rfl),szU 1,λwl nwl=>⟨_,rfl,szU 2,λdl ndl=>⟨szU 5,λt nt=>?_⟩⟩⟩;have:=X3 (p:=⟨[z],.loc k,1,0,0⟩) (Same.refl _) rfl nwl rfl ndl (λX e=>e) rfl nt;exact q _ t _ this.1 this.2 (lf_loc LK eo ez)
 ·rintro σ J ⟨rfl,rfl⟩
  refine ⟨_,rfl,_,rfl,λn J n1 n2 sJ=>?_⟩;refine ⟨_,rfl,n,rfl,by omega,by omega,szU 1,λwl nwl=>⟨_,rfl,szU 2,λdl ndl=>⟨szU 5,λt nt=>?_⟩⟩⟩;have:=X3 (p:=⟨[numS n],.num n,1,0,0⟩) sJ rfl nwl rfl ndl (λX e=>e) rfl nt;exact q _ t _ this.1 this.2 (lf_num n1 n2)
structure PtA where
 p:Pt
 x:Ad
 wa:Ad
 da:Ad
structure PtAs (H:Hp) (q:PtA):Prop where
 t:H q.x=some (.tup [.ref q.wa,.ref q.da,.int q.p.s,.int q.p.d,.int q.p.b])
 w:H q.wa=some (.lst (q.p.ws.map V.str))
 d:DueAt H q.p.F q.da
def PtAs.same {H H':Hp} {q:PtA} (h:PtAs H q) (s:Same H H'):PtAs H' q:=⟨s _ _ h.t,s _ _ h.w,h.d.same s⟩
def PtAs'.as {H:Hp} {x wa da:Ad} {p:Pt} (h:PtAs' H x wa da p):PtAs H ⟨p,x,wa,da⟩:=⟨h.t,h.w,h.d⟩
structure KCa (H:Hp) (kd:Ad) (W:Kw):Prop where
 ex:∃ (kvs:Jm) (hts:Jh),H kd=some (.dK kvs)/\KLs H kvs "calls" (W.calls.map V.str)/\KLs H kvs "counts" (W.counts.map λk:Nat=>V.int k)/\KLs H kvs "heads" (hts.map V.ref)/\hts.length=W.heads.length/\∀ (i:Nat) t,hts[i]?=some t->∃ h,W.heads[i]?=some h/\H t=some (.tup [.int h.1,.int h.2])
def KCa.same {H H':Hp} {kd:Ad} {W:Kw} (h:KCa H kd W) (s:Same H H'):KCa H' kd W:=by
 obtain ⟨kvs,hts,a,b,c,d,e,f⟩:=h.ex;refine ⟨kvs,hts,s _ _ a,b.same s,c.same s,d.same s,e,λi t z=>?_⟩;obtain ⟨h,x,y⟩:=f i t z;exact ⟨h,x,s _ _ y⟩
def XR (W:Kw) (how rest:Int):Int :=
 if how=2/\W.own=none/\0<W.far.length then 1
 else if how=3∨how=4 then how-1
 else if how=5/\0<W.calls.length then (W.counts.getD (rest % (W.calls.length:Int)).toNat 0:Nat)
 else -1
inductive spWa (vs:Jo) (H:Hp) (Q:VK) (_:XK):Prop
 | mk (how rest:Int) (kd:Ad) (W:Kw) (_:vs=[.int how,.int rest,.ref kd]) (_:KLf H kd W) (_:KCa H kd W) (_:W.counts.length=W.calls.length) (_:Q (.int (XR W how rest)) H)
def ok_wanted (d:zB K mg "_law_wanted" ZW ["_law_how","_law_rest","_law_known"]) (hlen:mg "len"=none):Ok P w K mg base CX0 1 "_law_wanted" ["_law_how","_law_rest","_law_known"] spWa:=by
 obtain ⟨f,fd,m,F,bd⟩:=d;refine ⟨f,fd,m,F.kp,bd,F.ok sc_l_wanted (by rintro vs H Q E ⟨_,_,_,_,e,_⟩;rw [e];rfl) λcdv A outer s H vs Q E hr h=>?_⟩;obtain ⟨how,rest,kd,W,rfl,KL,KC,cl,q⟩:=h;have hu:=Nat.lt_of_le_of_lt (Nat.add_le_add_left (show 1<=64 by decide) _) hr.units;have nd:=sc_l_wanted.nd;obtain ⟨kvs,ek,ko,⟨na,vn,en⟩,⟨ne,vne,ene⟩,⟨fa,vfa,efa⟩⟩:=KL.ex;obtain ⟨kvs',hts,ek',⟨ca,vca,eca⟩,⟨co,vco,eco⟩,⟨he,vhe,ehe⟩,hl,hh⟩:=KC.ex;rw [ek] at ek';cases ek';unfold XR at q;refine ⟨_,(zb (xz (zC (y6 (zm zU (pv 0) zd (zu _)) (y6 (zm YU (zJ hu (pv 2) zk (λ_ _=>rfl)) xi (zu _)) (yP (zm xI (zf zj (by rfl) hlen PySem.boot_len (za (zJ hu (pv 2) zk (λ_ _=>rfl)) zc)) zd (zu _))))).pt (ze (zi zd)) zh))
   (zb (zC (z8 (zm zU (pv 0) zd (zu _)) (zT (zm zU (pv 0) zd (zu _)))).pt (ze (zi (zA ZL (pv 0) zd))) zh)
   (zb (zC (y6 (zm zU (pv 0) zd (zu _)) (yP (zm xI (zf zj (by rfl) hlen PySem.boot_len (za (zJ hu (pv 2) zk (λ_ _=>rfl)) zc)) zd (zu _)))).pt (ze (zi (zn zK (zJ hu (pv 2) zk (λ_ _=>rfl)) (zA zO (pv 1) (zf zj (by rfl) hlen PySem.boot_len (za (zJ hu (pv 2) zk (λ_ _=>rfl)) zc))) (λ_ _=>rfl)))) zh)
   (ze (zi (Y2 ZS zd)))))),?_⟩
 refine ⟨λσ J=>σ=[iq how,iq rest,rq kd]/\J=H/\¬ (how=2/\W.own=none/\0<W.far.length),?_,?_⟩
 ·refine ⟨_,rfl,rfl,_,rfl,?_⟩
  by_cases h2:how=2
  ·rw [decide_eq_true (congrArg V.int h2)]
   rcases ko with ⟨eo,vo⟩ | ⟨o,eo,oa,vo,eoa⟩
   ·refine zP ⟨_,rfl,kd,_,rfl,yg ek vo,rfl,_,rfl,?_⟩
    refine zP ⟨_,rfl,kd,_,rfl,yg ek vfa,fa,_,rfl,.inl (SqL.of efa),_,_,rfl,rfl,_,rfl,?_⟩;rw [Jj];refine xL (λl0=>?_) (λl0=>⟨rfl,rfl,λz=>l0 (decide_eq_true (by have:=z.2.2;omega))⟩);rw [if_pos ⟨h2,eo,by have:=of_decide_eq_true l0;omega⟩] at q;exact q
   ·refine zP ⟨_,rfl,kd,_,rfl,yg ek vo,rfl,_,rfl,?_⟩
    exact zH (zH ⟨rfl,rfl,λz=>by rw [eo] at z;cases z.2.1⟩)
  ·rw [decide_eq_false (λz=>h2 (V.int.inj z))]
   exact zH (zH ⟨rfl,rfl,λz=>h2 z.1⟩)
 rintro σ J ⟨rfl,rfl,n2⟩;rw [if_neg n2] at q;refine ⟨_,rfl,rfl,_,rfl,?_⟩;by_cases h3:how=3
 ·rw [decide_eq_true (congrArg V.int h3)]
  rw [if_pos (.inl h3)] at q;exact zP (zP ⟨_,rfl,_,_,rfl,rfl,q⟩)
 rw [decide_eq_false (λz=>h3 (V.int.inj z))];refine zH ⟨_,rfl,rfl,_,rfl,?_⟩;by_cases h4:how=4
 ·rw [decide_eq_true (congrArg V.int h4)]
  rw [if_pos (.inr h4)] at q;exact zP ⟨_,rfl,_,_,rfl,rfl,q⟩
 rw [decide_eq_false (λz=>h4 (V.int.inj z))];rw [if_neg (λz=>by rcases z with z | z <;> contradiction)] at q;refine zH ⟨_,rfl,rfl,_,rfl,?_⟩;by_cases h5:how=5
 ·rw [decide_eq_true (congrArg V.int h5)]
  refine zP ⟨_,rfl,kd,_,rfl,yg ek vca,ca,_,rfl,.inl (SqL.of eca),_,_,rfl,rfl,_,rfl,?_⟩;rw [Jj];refine xL (λl0=>?_) (λl0=>?_)
  ·have l0:0<W.calls.length:=by have:=of_decide_eq_true l0;omega
   rw [if_pos ⟨h5,l0⟩] at q;obtain ⟨k,ekk,kl⟩:=Yd (m:=rest) l0;rw [ekk,q0z,q1x,List.getElem?_eq_getElem (by omega)] at q;refine ⟨_,rfl,kd,_,rfl,yg ek vco,_,rfl,_,rfl,kd,_,rfl,yg ek vca,ca,_,rfl,.inl (SqL.of eca),_,_,rfl,rfl,by rw [Jj];omega,co,_,_,_,rfl,rfl,SqL.of eco,by rw [Jj,ekk];exact zQ (by rw [List.getElem?_map,List.getElem?_eq_getElem (by omega)];rfl),q⟩
  ·rw [if_neg (λz=>l0 (decide_eq_true (by have:=z.2;omega)))] at q
   exact ⟨_,rfl,q⟩
 ·rw [decide_eq_false (λz=>h5 (V.int.inj z))]
  rw [if_neg (λz=>h5 z.1)] at q;exact zH (zH ⟨_,rfl,q⟩)
structure PtOk0 (W:Kw) (p:Pt):Prop where
 rd:∀ n r,p.b<=n->zX W.R n (p.ws++r)=.ok (p.F,r)
 s:p.s=F2.sz (Sof W.heads) p.F
 d:p.d=F2.dp (Dof W.heads) p.F
 c:F2.CL W.calls.length p.F
 g:∀ w∈p.ws,WG w/\w.length<=20
 l:p.ws.length<=6*F2.nodes p.F
def PtOk0.ok {W:Kw} {p:Pt} (h:PtOk0 W p) (a:p.s<=60) (b:p.d<=7) (c:p.b<=30):PtOk W p:=⟨h.rd,h.s,h.d,h.c,h.g,h.l,a,b,c⟩
theorem toL_of:∀ fs:List F2.Fm,(Xb fs).toL=fs
 | []=>rfl
 | f::l=>congrArg (f::·) (toL_of l)
def all_g {W:Kw} {ps:List Pt} (h:∀ p∈ps,PtOk W p):∀ w∈z7 ps,WG w/\w.length<=20:=λw m=>by
 obtain ⟨p,mp,mw⟩:=List.mem_flatMap.mp m;exact (h p mp).g w mw
theorem all_l {W:Kw}:∀ {ps:List Pt},(∀ p∈ps,PtOk W p)->(z7 ps).length<=6*((ps.map Pt.F).map F2.nodes).sum
 | [],_=>Nat.le_refl _
 | p::ps,h=>by
  have ih:=all_l (ps:=ps) λq m=>h q (q1y _ m);have:=(h p q1z).l;unfold z7 at ih ⊢;rw [List.flatMap_cons,Jk,List.map_cons,List.map_cons,List.sum_cons];omega
theorem all_s {W:Kw}:∀ {ps:List Pt},(∀ p∈ps,PtOk W p)->(ps.map Pt.s).sum=((ps.map Pt.F).map (F2.sz (Sof W.heads))).sum
 | [],_=>rfl
 | p::ps,h=>by
  have ih:=all_s (ps:=ps) λq m=>h q (q1y _ m);rw [List.map_cons,List.map_cons,List.map_cons,List.sum_cons,List.sum_cons,ih,(h p q1z).s]
theorem all_d {W:Kw}:∀ {ps:List Pt},(∀ p∈ps,PtOk W p)->F2.mx (ps.map Pt.d)=F2.mx ((ps.map Pt.F).map (F2.dp (Dof W.heads)))
 | [],_=>rfl
 | p::ps,h=>by
  have ih:=all_d (ps:=ps) λq m=>h q (q1y _ m);rw [List.map_cons,List.map_cons,List.map_cons,F2.mx_cons,F2.mx_cons,ih,(h p q1z).d]
def zb8 {W:Kw} {ps:List Pt} {hd:Jg} {F:F2.Fm} {s d:Int} {m:Nat} (h:∀ p∈ps,PtOk W p) (hm:∀ p∈ps,p.b<=m) (hp:F2.partsF F=ps.map Pt.F)
  (rd:∀ n r,m<=n->yF W.R (zX W.R n) (hd++(z7 ps++r))=(yJ (zX W.R n) ps.length (z7 ps++r)).bind λy=>.ok (F,y.2)) (hs:s=F2.szOwn (Sof W.heads) F+(ps.map Pt.s).sum) (hd':d=F2.incF F+max (F2.extF (Dof W.heads) F) (F2.mx (ps.map Pt.d))) (hc:∀ a gs,F=.call a gs->0<=a/\a.toNat<W.calls.length) (hg:∀ w∈hd,WG w/\w.length<=20) (hl:hd.length<=4):PtOk0 W ⟨("(":Str)::hd++z7 ps++[(")":Str)],F,s,d,1+m⟩:=by
 refine ⟨λn r hn=>?_,?_,?_,?_,λw mw=>?_,?_⟩
 ·obtain ⟨n,rfl⟩:∃ k,n=k+1:=⟨n-1,by have:1+m<=n:=hn;omega⟩
  have e:(("(":Str)::hd++z7 ps++[(")":Str)])++r=("(":Str)::((hd++z7 ps)++(")":Str)::r):=by simp
  show zX W.R (n+1) ((("(":Str)::hd++z7 ps++[(")":Str)])++r)=_;rw [e];refine X5 ?_;rw [List.append_assoc,rd n _ (by have:1+m<=n+1:=hn;omega),YB _ λp mp=>⟨h p mp,by have:=hm p mp;have:1+m<=n+1:=hn;omega⟩];rfl
 ·rw [F2.sz_eq,hp,← all_s h];exact hs
 ·rw [F2.dp_eq,hp,← all_d h];exact hd'
 ·exact F2.CL_of (λg mg=>by rw [hp] at mg;obtain ⟨p,mp,rfl⟩:=List.mem_map.mp mg;exact (h p mp).c) hc
 ·rcases List.mem_append.mp mw with mw | mw
  ·rcases List.mem_append.mp mw with mw | mw
   ·rcases List.mem_cons.mp mw with rfl | mw
    ·exact ⟨.inl rfl,by decide⟩
    ·exact hg w mw
   ·exact all_g h w mw
  ·cases List.mem_singleton.mp mw;exact ⟨.inr (.inl rfl),by decide⟩
 ·show (("(":Str)::hd++z7 ps++[(")":Str)]).length<=6*F2.nodes F
  rw [F2.nodes_eq,hp];have:=all_l h;rw [Jk,Jk,q3x,List.length_singleton];omega
def sign_w {sg:Str} (h:sg∈signsL):WG sg/\sg.length<=20:=by
 have:∀ s∈signsL,(lt' s≠[]/\SgnN (lt' s))/\s.length<=20:=by unfold SgnN;decide
 exact ⟨.inr (.inr (this sg h).1),(this sg h).2⟩
def top_pair {W:Kw} {p1 p2:Pt} {sg:Str} {m:Nat} (h:∀ p∈[p1,p2],PtOk W p) (hm:∀ p∈[p1,p2],p.b<=m) (hsg:sg∈signsL):PtOk0 W ⟨("(":Str)::[sg]++z7 [p1,p2]++[(")":Str)],.pair sg p1.F p2.F,1+([p1,p2].map Pt.s).sum,F2.mx ([p1,p2].map Pt.d),1+m⟩:=by
 refine zb8 h hm rfl (λn r hn=>?_) rfl ?_ (λa gs z=>by cases z) (λw mw=>by cases List.mem_singleton.mp mw;exact sign_w hsg) (by show 1<=4;decide)
 ·show yF W.R _ (sg::(z7 [p1,p2]++r))=_
  unfold yF;dsimp only;rw [if_pos hsg];have mo:yJ (zX W.R n) 2 (z7 [p1,p2]++r)=_:=YB (ps:=[p1,p2]) r λp mp=>⟨h p mp,by have:=hm p mp;omega⟩;show _=(yJ (zX W.R n) 2 (z7 [p1,p2]++r)).bind _;rw [mo];rfl
 ·show _=0+max 0 _
  have:=F2.mx_nn ([p1,p2].map Pt.d);omega
def top_cho {W:Kw} {p1 p2 p3:Pt} {m:Nat} (h:∀ p∈[p1,p2,p3],PtOk W p) (hm:∀ p∈[p1,p2,p3],p.b<=m):PtOk0 W ⟨("(":Str)::["if"]++z7 [p1,p2,p3]++[(")":Str)],.cho p1.F p2.F p3.F,1+([p1,p2,p3].map Pt.s).sum,F2.mx ([p1,p2,p3].map Pt.d)+1,1+m⟩:=by
 refine zb8 h hm rfl (λn r hn=>?_) rfl ?_ (λa gs z=>by cases z) (λw mw=>by cases List.mem_singleton.mp mw;exact ⟨.inr (.inr ⟨by decide,by unfold SgnN;decide⟩),by decide⟩) (by show 1<=4;decide)
 ·show yF W.R _ ("if"::(z7 [p1,p2,p3]++r))=_
  unfold yF;dsimp only;rw [if_neg (by decide),if_pos rfl];have mo:yJ (zX W.R n) 3 (z7 [p1,p2,p3]++r)=_:=YB (ps:=[p1,p2,p3]) r λp mp=>⟨h p mp,by have:=hm p mp;omega⟩;show _=(yJ (zX W.R n) 3 (z7 [p1,p2,p3]++r)).bind _;rw [mo];rfl
 ·show _=1+max 0 _
  have:=F2.mx_nn ([p1,p2,p3].map Pt.d);omega
def top_at {W:Kw} {p1:Pt} {i:Nat} {z:Str} {m:Nat} (hK:LfK W) (ho:W.own=none) (e:W.names[i]?=some z) (h:∀ p∈[p1],PtOk W p) (hm:∀ p∈[p1],p.b<=m):PtOk0 W ⟨("(":Str)::["at",z]++z7 [p1]++[(")":Str)],.at' i p1.F,1+([p1].map Pt.s).sum,F2.mx ([p1].map Pt.d),1+m⟩:=by
 have hz:=hK.g z (List.mem_append_left _ (List.mem_of_getElem? e));refine zb8 h hm rfl (λn r hn=>?_) rfl ?_ (λa gs z=>by cases z) (λw mw=>?_) (by show 2<=4;decide)
 ·show yF W.R _ ("at"::z::(z7 [p1]++r))=_
  unfold yF;dsimp only;rw [if_neg (by decide),if_neg (by decide),if_neg (by decide +kernel),if_pos ⟨rfl,ho⟩,pr_row (R:=W.R) hz (Yy hK.nd e)];have e1:z7 [p1]++r=p1.ws++r:=by unfold z7;simp
  have hp:=h p1 q1z;have mo:yJ (zX W.R n) 1 (z7 [p1]++r)=_:=YB (ps:=[p1]) r λp mp=>⟨h p mp,by have:=hm p mp;omega⟩;show _=(yJ (zX W.R n) 1 (z7 [p1]++r)).bind _;rw [mo];show (zX W.R n (z7 [p1]++r)).bind _=_;rw [e1,hp.rd n r (by have:=hm p1 q1z;omega)];rfl
 ·show _=0+max 0 _
  have:=F2.mx_nn ([p1].map Pt.d);omega
 ·simp only [List.mem_cons,List.not_mem_nil,or_false] at mw
  rcases mw with rfl | rfl
  ·exact ⟨.inr (.inr ⟨by decide,by unfold SgnN;decide⟩),by decide⟩
  ·exact hz.wl
def top_call {W:Kw} {ps:List Pt} {k:Nat} {z:Str} {m:Nat} (hW:W.Ok) (e:W.calls[k]?=some z) (hk:ps.length=W.counts.getD k 0) (h:∀ p∈ps,PtOk W p) (hm:∀ p∈ps,p.b<=m):PtOk0 W ⟨("(":Str)::[z]++z7 ps++[(")":Str)],.call k (Xb (ps.map Pt.F)),1+(ps.map Pt.s).sum+(W.heads.getD k (0,0)).1,max (F2.mx (ps.map Pt.d)) (W.heads.getD k (0,0)).2,1+m⟩:=by
 have hz:=hW.g z (List.mem_append_left _ (q2y _ (List.mem_of_getElem? e)));have kl:=(List.getElem?_eq_some_iff.mp e).1;refine zb8 h hm (toL_of _) (λn r hn=>?_) ?_ ?_ (λa gs q=>?_) (λw mw=>by cases List.mem_singleton.mp mw;exact hz.wl) (by show 1<=4;decide)
 ·show yF W.R _ (z::(z7 ps++r))=_
  unfold yF;dsimp only
  have hi:z ∉ signsL:=λq=>by
   have:∀ s∈signsL,¬ NmK s:=by
    intro s ms hs;have:∀ s∈signsL,NmG s->s∈keptWs:=by decide +kernel
    exact hs.2 (this s ms hs.1)
   exact this z q hz
  have hf:z≠"if":=by rintro rfl;exact hz.2 (by decide)
  have cd:W.calls.Nodup:=(List.nodup_append.mp (List.nodup_append.mp hW.nd).1).2.1
  have ef:(W.R.heads.map Prod.fst)=W.calls:=by
   show (W.calls.zip W.counts).map Prod.fst=_;rw [List.map_fst_zip (by rw [hW.cl];exact Nat.le_refl _)]
  rw [if_neg hi,if_neg hf,if_pos hz.nm,ef,Yy cd e]
  have eg:(W.R.heads.getD k ("",0)).2=ps.length:=by
   show ((W.calls.zip W.counts).getD k ("",0)).2=_;rw [hk,q1x,q1x,List.getElem?_eq_getElem (by rw [List.length_zip,hW.cl];omega),List.getElem?_eq_getElem (by rw [hW.cl];exact kl),Option.getD_some,List.getElem_zip];rfl
  show (yJ (zX W.R n) (W.R.heads.getD k ("",0)).2 (z7 ps++r)).bind _=_;rw [eg,YB (ps:=ps) r λp mp=>⟨h p mp,by have:=hm p mp;omega⟩];rfl
 ·show _=(Sof W.heads ((k:Int).toNat)+1)+_
  rw [q0z];show _=(W.heads.getD k (0,0)).1+1+_;omega
 ·show _=0+max (Dof W.heads ((k:Int).toNat)) _
  rw [q0z];show _=0+max (W.heads.getD k (0,0)).2 _;omega
 ·cases q
  exact ⟨by omega,by rw [q0z];exact kl⟩
end K22
namespace L2
open PySem
def XJ {X:Cx} {K:Fg} (e:X.K=K):IxR X (rIxT K):=by subst e;exact zy
end L2
namespace K22
open PySem L2
variable {P:Program} {w:World} {K:Fg} {mg:J0} {base:Heap}
def mx_is {l:Jc} {m:Int} (h1:m∈l++[0]) (h2:∀ v∈l++[0],v<=m):m=F2.mx l:=by
 have a:∀ {l:Jc} {v:Int},v∈l->v<=F2.mx l:=λ{l v} h=>by
  induction l with
  | nil=>cases h
  | cons x l ih =>
   rw [F2.mx_cons];rcases List.mem_cons.mp h with rfl | h
   ·omega
   ·have:=ih h;omega
 have b:∀ l:Jc,(∀ v∈l,v<=m)->0<=m->F2.mx l<=m:=λl=>by
  induction l with
  | nil=>intro _ h;exact h
  | cons x l ih =>
   intro h h0;rw [F2.mx_cons];have:=ih (λv hv=>h v (q1y _ hv)) h0;have:=h x q1z;omega
 have h0:0<=m:=h2 0 (q2y _ q1z);have c:=b l (λv hv=>h2 v (List.mem_append_left _ hv)) h0;rcases List.mem_append.mp h1 with h1 | h1
 ·have:=a h1;omega
 ·cases List.mem_singleton.mp h1
  have:=F2.mx_nn l;omega
def col {H H1:Hp} {pa D:Ad} {qs:List PtA} {f:PtA->V} {Q:VK} {σY:St} {g:TG} {te:TE} (hp:H pa=some (.lst (qs.map λq=>V.ref q.x))) (hl:qs.length<=1000) (s1:Same H H1) (nD:H1 D=none)
  (hs:∀ (q:PtA) (u:Jp) (J:Hp) (R:St->V->Hp->Prop),q∈qs->Same H J->R [some (.ref q.x)] (f q) J->g (.ref q.x) [u] J λσ3 H3=>te σ3 H3 λv H4=>R σ3 v H4) (hq:∀ J,Hd H1 [(D,.lst (qs.map f))] J->Q (.ref D) J) (e0:σY=[none]):CompW (Itl K pa) g te σY (upd H1 D (.lst [])) D Q:=by
 subst e0;have SL:(3000:Nat)<sizeLine:=by decide
 have h0:Hd H1 [(D,.lst ((qs.take 0).map f))] (upd H1 D (.lst [])):=Hd.base.new nD;refine YF (K:=K) (a:=pa) (D:=D) (xs:=qs.map λq=>V.ref q.x) (λi σ J=>∃ u,σ=[u]/\Hd H1 [(D,.lst ((qs.take i).map f))] J) ⟨none,rfl,h0⟩ (λi σ J _ ⟨_,_,h⟩=>SqL.of (h.sm _ _ (s1 _ _ hp))) ?_ ?_
 ·clear h0
  rintro i y σ J hi ⟨u,rfl,h⟩;obtain ⟨q,hq',rfl⟩:=zae hi;have il:=(List.getElem?_eq_some_iff.mp hq').1;refine hs q u J _ (List.mem_of_getElem? hq') (s1.trans h.sm) ⟨_,h.get 0 rfl,(by rw [Jj,List.length_take];omega),_,rfl,?_⟩;have h2:=h.put (o':=.lst ((qs.take (i+1)).map f)) 0 rfl;have e:(qs.take (i+1)).map f=(qs.take i).map f++[f q]:=by rw [List.take_add_one,hq',Jl];rfl
  rw [e] at h2 ⊢;exact h2
 ·rintro σ J ⟨u,rfl,h⟩
  rw [Jj,List.take_length] at h;exact hq _ h
inductive spSb (vs:Jo) (H:Hp) (Q:VK) (_:XK):Prop
 | mk (c:Int) (_:vs=[.int c]) (_:∀ sg H',sg∈signsL->Same H H'->Q (.str sg) H')
def zei (d:zB K mg "_law_sign_by" ZD ["_law_cell"]):Ok P w K mg base CX0 1 "_law_sign_by" ["_law_cell"] spSb:=by
 obtain ⟨f,fd,m,F,bd⟩:=d;refine ⟨f,fd,m,F.kp,bd,F.okB sc_l_sign_by (by rintro vs H Q E ⟨_,e,_⟩;rw [e];rfl) λcdv A outer s H vs Q E hr h=>?_⟩;obtain ⟨c,rfl,q⟩:=h;have nd:=sc_l_sign_by.nd;refine ⟨_,(Z5 (pw_ks (i:=1) nd rfl (Or.inl rfl) rfl)
   (pb_one (PW1.mk (zi (zn zK (pv 1) (zA zO (pv 0) zd) (λ_ _=>rfl)))))),?_⟩
 refine ⟨szU 12,λl nl=>?_⟩;have s0:Same H (upd H l (.lst (signsL.map V.str))):=yq (Same.refl H) nl;have e0:upd H l (.lst (signsL.map V.str)) l=some (.lst (signsL.map V.str)):=zr;revert s0 e0;show Same H (upd H l (.lst [.str "+",.str "-",.str "*",.str "/",.str "rest",.str "least",.str "most",.str "<",.str "=",.str "&",.str "|",.str "^"]))->upd H l (.lst [.str "+",.str "-",.str "*",.str "/",.str "rest",.str "least",.str "most",.str "<",.str "=",.str "&",.str "|",.str "^"]) l=some (.lst (signsL.map V.str))->_;generalize upd H l (.lst [.str "+",.str "-",.str "*",.str "/",.str "rest",.str "least",.str "most",.str "<",.str "=",.str "&",.str "|",.str "^"])=H1;intro s0 e0;obtain ⟨k,ek,kl⟩:=Yd (m:=c) (n:=12) (by decide);obtain ⟨sg,es⟩:∃ sg,signsL[k]?=some sg:=⟨_,List.getElem?_eq_getElem kl⟩;exact ⟨_,rfl,_,rfl,_,_,rfl,rfl,(by show (0:Int)<12;decide),l,_,_,_,rfl,rfl,SqL.of e0,by rw [show (12:Int)=((12:Nat):Int) from rfl,ek];exact zQ (xs:=signsL.map V.str) (by rw [List.getElem?_map,es];rfl),q sg _ (List.mem_of_getElem? es) s0⟩
def len1 {α:Type} {l:List α} (h:l.length=1):∃ a,l=[a]:=by
 match l,h with
 | [a],_=>exact ⟨a,rfl⟩
def len2 {α:Type} {l:List α} (h:l.length=2):∃ a b,l=[a,b]:=by
 match l,h with
 | [a,b],_=>exact ⟨a,b,rfl⟩
def len3 {α:Type} {l:List α} (h:l.length=3):∃ a b c,l=[a,b,c]:=by
 match l,h with
 | [a,b,c],_=>exact ⟨a,b,c,rfl⟩
theorem zc5 {H:Hp} {W:Kw}:∀ {qs:List PtA},(∀ q∈qs,PtAs H q)->DuesAt H (Xb ((qs.map PtA.p).map Pt.F)) (qs.map PtA.da)
 | [],_=>rfl
 | q::qs,h=>⟨q.da,qs.map PtA.da,rfl,(h q q1z).d,zc5 (W:=W) λr m=>h r (q1y _ m)⟩
inductive spTop (vs:Jo) (H:Hp) (Q:VK) (_:XK):Prop
 | mk (how rest:Int) (pa kd:Ad) (qs:List PtA) (W:Kw) (_:vs=[.int how,.int rest,.ref pa,.ref kd]) (_:H pa=some (.lst (qs.map λq=>V.ref q.x))) (B:Hp) (hB:Same B H) (_:∀ q∈qs,PtAs B q/\PtOk W q.p) (_:KLf H kd W) (_:KCa H kd W) (_:W.Ok) (_:LfK W) (_:(qs.length:Int)=XR W how rest) (_:qs.length<=10) (_:∀ q H',Same H H'->PtAs H' q->PtAs (ext B H H') q->PtOk0 W q.p->Q (.ref q.x) H')
def ok_top_by (d:zB K mg "_law_top_by" ZX ["_law_how","_law_rest","_law_parts","_law_known"]) (hlen:mg "len"=none) (hsum:mg "sum"=none) (hmax:mg "max"=none) (SB:Ok P w K mg base CX0 1 "_law_sign_by" ["_law_cell"] spSb):Ok P w K mg base CX0 2 "_law_top_by" ["_law_how","_law_rest","_law_parts","_law_known"] spTop:=by
 obtain ⟨f,fd,m,F,bd⟩:=d;refine ⟨f,fd,m,F.kp,bd,F.ok sc_l_top_by (by rintro vs H Q E ⟨_,_,_,_,_,_,e,_⟩;rw [e];rfl) λcdv A outer s H vs Q E hr h=>?_⟩;obtain ⟨how,rest,pa,kd,qs,W,rfl,hp,B0,hB,hqB,KL,KC,WO,LK,hw,l10,q⟩:=h;have hq:∀ q∈qs,PtAs H q/\PtOk W q.p:=λq m=>⟨(hqB q m).1.same hB,(hqB q m).2⟩;have hr1:Room 1 _:=hr;have hu:=Nat.lt_of_le_of_lt (Nat.add_le_add_left (show 1<=64 by decide) _) hr.units;have nd:=sc_l_top_by.nd;have SL:(100000:Nat)<sizeLine:=by decide
 refine ⟨_,(zb (ps_compC (i:=4) ["_law_part"] [none] rfl rfl rfl (xg (pv 2)) (λs3 H3 fp=>⟨ya (i:=0) (Jq ["_law_part"]) rfl (Or.inl rfl),(zn (XJ (K:=K) rfl) (pv 0) zd (λ_ _=>rfl))⟩) nd rfl (Or.inl rfl))
   (zb (zq (i:=6) nd rfl (Or.inl rfl) (zA yI zd (zf (call_sum rfl) (by rfl) hsum PyProof.Rows.boot_sum (za (Zw ["_law_part"] [none] rfl rfl rfl (xg (pv 2)) (λs3 H3 fp=>⟨ya (i:=0) (Jq ["_law_part"]) rfl (Or.inl rfl),(zn (XJ (K:=K) rfl) (pv 0) zd (λ_ _=>rfl))⟩)) zc))))
   (zb (zq (i:=7) nd rfl (Or.inl rfl) (zf (zb1 rfl) (by rfl) hmax PyProof.Rows.boot_max (za (zA xC (Zw ["_law_part"] [none] rfl rfl rfl (xg (pv 2)) (λs3 H3 fp=>⟨ya (i:=0) (Jq ["_law_part"]) rfl (Or.inl rfl),(zn (XJ (K:=K) rfl) (pv 0) zd (λ_ _=>rfl))⟩)) (zN (za zd zc))) zc)))
   (zb (xz (zC (zm zU (pv 0) zd (zu _)) (zb (zq (i:=8) nd rfl (Or.inl rfl) (zn zK (zJ hu (pv 3) zk (λ_ _=>rfl)) (zA zO (pv 1) (zf zj (by rfl) hlen PySem.boot_len (za (zJ hu (pv 3) zk (λ_ _=>rfl)) zc))) (λ_ _=>rfl)))
   (zb (zq (i:=9) nd rfl (Or.inl rfl) (zN (za zk (za zk (za (zn zK (zJ hu (pv 3) zk (λ_ _=>rfl)) (pv 8) (λ_ _=>rfl)) zc)))))
   (ze (zq (i:=10) nd rfl (Or.inl rfl) (yG (za zk (za (pv 8) (za (zn zK (pv 4) zd (λ_ _=>rfl)) zc)))))))) (ze (zC (zm zU (pv 0) zd (zu _)) (zb (zq (i:=9) nd rfl (Or.inl rfl) (zN (za zk (za (zx SB hr1 (by rfl) zE (za (pv 1) zc)) zc))))
   (ze (zq (i:=10) nd rfl (Or.inl rfl) (yG (za zk (za (zn zK (pv 9) zd (λ_ _=>rfl)) (za (zn zK (pv 4) zd (λ_ _=>rfl)) (za (zn zK (pv 4) zd (λ_ _=>rfl)) zc)))))))) (ze (zC (zm zU (pv 0) zd (zu _)) (zb (zq (i:=9) nd rfl (Or.inl rfl) (zN (za zk (za zk zc))))
   (zb (zq (i:=10) nd rfl (Or.inl rfl) (yG (za zk (za (zn zK (pv 4) zd (λ_ _=>rfl)) (za (zn zK (pv 4) zd (λ_ _=>rfl)) (za (zn zK (pv 4) zd (λ_ _=>rfl)) zc))))))
   (ze (ps_aug (i:=7) nd rfl (Or.inl rfl) zd ip_add)))) (zb (zq (i:=11) nd rfl (Or.inl rfl) (zA zO (pv 1) (zf zj (by rfl) hlen PySem.boot_len (za (zJ hu (pv 3) zk (λ_ _=>rfl)) zc))))
   (zb (zq (i:=9) nd rfl (Or.inl rfl) (zN (za zk (za (zn zK (zJ hu (pv 3) zk (λ_ _=>rfl)) (pv 11) (λ_ _=>rfl)) zc))))
   (zb (zq (i:=10) nd rfl (Or.inl rfl) (yG (za zk (za (pv 11) (za (pv 4) zc)))))
   (zb (ps_aug (i:=6) nd rfl (Or.inl rfl) (zn zy (zn zK (zJ hu (pv 3) zk (λ_ _=>rfl)) (pv 11) (λ_ _=>rfl)) zd (λ_ _=>rfl)) ip_add)
   (ze (zq (i:=7) nd rfl (Or.inl rfl) (zf (Xq rfl) (by rfl) hmax PyProof.Rows.boot_max (za (pv 7) (za (zn zy (zn zK (zJ hu (pv 3) zk (λ_ _=>rfl)) (pv 11) (λ_ _=>rfl)) zd (λ_ _=>rfl)) zc)))))))))))))))
   (zb (xh PassesOwn.never rfl (xg (pv 2)) (ya (i:=5) nd rfl (Or.inl rfl)) (ze (zq (i:=9) nd rfl (Or.inl rfl) (zA xC (pv 9) (zn zy (pv 5) zd (λ_ _=>rfl))))))
   (ze (zi (yG (za (zA xC (pv 9) (zN (za zk zc))) (za (pv 10) (za (pv 6) (za (pv 7) (za (zA yI zd (zf (zb1 rfl) (by rfl) hmax PyProof.Rows.boot_max (za (zA xC (Zw ["_law_part"] [none] rfl rfl rfl (xg (pv 2)) (λs3 H3 fp=>⟨ya (i:=0) (Jq ["_law_part"]) rfl (Or.inl rfl),(zn (XJ (K:=K) rfl) (pv 0) zd (λ_ _=>rfl))⟩)) (zN (za zd zc))) zc))) zc))))))))))))),?_⟩
 refine ⟨_,rfl,pa,rfl,⟨_,SqL.of hp⟩,_,rfl,λD nD=>?_⟩;refine col (K:=K) (f:=λq=>.ref q.da) hp (by omega) (Same.refl _) nD (λp u J R mp sJ r=>⟨_,rfl,p.x,_,_,_,rfl,rfl,SqT.of (sJ _ _ (hq p mp).1.t),rfl,r⟩) (λJ h=>?_) rfl;have eI:=h.get 0 rfl;have s1:=h.sm;have zD:=nD;clear h nD;refine ⟨_,rfl,pa,rfl,⟨_,SqL.of (s1 _ _ hp)⟩,_,rfl,λD2 nD2=>?_⟩;refine col (K:=K) (f:=λq=>.int q.p.s) hp (by omega) s1 nD2 (λp u J R mp sJ r=>⟨_,rfl,p.x,_,_,_,rfl,rfl,SqT.of (sJ _ _ (hq p mp).1.t),rfl,r⟩) (λJ2 h2=>?_) rfl;have eS:∀ f:Pt->Int,(qs.map λq=>V.int (f q.p))=((qs.map PtA.p).map f).map V.int:=λf=>by rw [List.map_map,List.map_map];rfl
 have eI:=h2.sm _ _ eI;have s2:=s1.trans h2.sm;refine ⟨D2,_,rfl,SqL.of (by rw [← eS];exact h2.get 0 rfl),_,_,rfl,rfl,?_⟩;clear h2 nD2;refine ⟨_,rfl,pa,rfl,⟨_,SqL.of (s2 _ _ hp)⟩,_,rfl,λD3 nD3=>?_⟩;refine col (K:=K) (f:=λq=>.int q.p.d) hp (by omega) s2 nD3 (λp u J R mp sJ r=>⟨_,rfl,p.x,_,_,_,rfl,rfl,SqT.of (sJ _ _ (hq p mp).1.t),rfl,r⟩) (λJ3 h3=>?_) rfl;refine ⟨szU 1,λzl nz=>?_⟩;have h4:=h3.new (o:=.lst [.int 0]) nz;refine ⟨D3,zl,_,_,rfl,rfl,h4.get 1 rfl,h4.get 0 rfl,(by rw [Jj];show _+1<=_;omega),λpl npl=>?_⟩;have h5:=h4.new (o:=.lst ((((qs.map PtA.p).map Pt.d)++[0]).map V.int)) npl;have e5:(((qs.map PtA.p).map Pt.d)++[0]).map V.int=(qs.map λq=>V.int q.p.d)++[V.int 0]:=by rw [Jl,eS];rfl
 rw [← e5];refine ⟨pl,_,rfl,h5.lst 0 rfl,(by rw [Jk];show 0<_+1;omega),λmm m1 m2=>?_⟩;have em:=mx_is m1 m2;have s5:Same H _:=s2.trans h5.sm;have eI5:=h5.sm _ _ eI;clear h3 h4 h5 npl nz nD3 s1 s2 eI m1 m2;generalize upd _ pl _=J5 at s5 eI5 ⊢;subst em;have KL5:=KL.same s5;have KC5:=KC.same s5;obtain ⟨kvs,ek,ko,⟨na,vn,en⟩,⟨ne,vne,ene⟩,⟨fa,vfa,efa⟩⟩:=KL5.ex;obtain ⟨kvs',hts,ek',⟨ca,vca,eca⟩,⟨co,vco,eco⟩,⟨he,vhe,ehe⟩,hl,hh⟩:=KC5.ex;rw [ek] at ek';cases ek';have hqo:∀ p∈qs.map PtA.p,PtOk W p:=λp mp=>by obtain ⟨q,mq,rfl⟩:=List.mem_map.mp mp;exact (hq q mq).2
 refine ⟨λσ J=>∃ (hd:Jg) (G:F2.Fm) (sz dp:Int) (wl dl:Ad) (u5 u8 u11:Jp),σ=[iq how,iq rest,rq pa,rq kd,rq D,u5,iq sz,iq dp,u8,rq wl,rq dl,u11]/\Same J5 J/\J wl=some (.lst ((("(":Str)::hd).map V.str))/\DueAt J G dl/\(∀ J',Same J J'->DueAt (ext B0 H J') G dl)/\hd.length<=4/\∀ m,(∀ p∈qs.map PtA.p,p.b<=m)->PtOk0 W ⟨("(":Str)::hd++z7 (qs.map PtA.p)++[(")":Str)],G,sz,dp,1+m⟩,?_,?_⟩
 ·unfold XR at hw
  refine ⟨_,rfl,rfl,_,rfl,?_⟩;by_cases h2:how=2
  ·rw [decide_eq_true (congrArg V.int h2)]
   by_cases hA:how=2/\W.own=none/\0<W.far.length
   ·rw [if_pos hA] at hw
    obtain ⟨_,eo,l0⟩:=hA;obtain ⟨q1,rfl⟩:=len1 (show qs.length=1 by omega);obtain ⟨k,ekk,kl⟩:=Yd (m:=rest) l0;obtain ⟨r,er⟩:∃ r,W.far[k]?=some r:=⟨_,List.getElem?_eq_getElem kl⟩;have rl:=LK.far r (List.mem_of_getElem? er);obtain ⟨z,ez⟩:∃ z,W.names[r]?=some z:=⟨_,List.getElem?_eq_getElem rl⟩;refine zP ⟨_,rfl,kd,_,rfl,yg ek vfa,_,rfl,_,rfl,kd,_,rfl,yg ek vfa,fa,_,rfl,.inl (SqL.of efa),_,_,rfl,rfl,by rw [Jj];omega,fa,_,_,_,rfl,rfl,SqL.of efa,by rw [Jj,ekk];exact zQ (by rw [List.getElem?_map,er];rfl),?_⟩;refine ⟨_,rfl,kd,_,rfl,yg ek vn,_,rfl,na,_,_,_,rfl,rfl,SqL.of en,zQ (by rw [List.getElem?_map,ez];rfl),szU 3,λwl nwl=>?_⟩;obtain ⟨sw,ew⟩:=yA (H:=J5) (t:=wl) rfl nwl;generalize upd J5 wl _=J6 at sw ew ⊢;refine ⟨_,rfl,_,rfl,D,_,_,_,rfl,rfl,SqL.of (sw _ _ eI5),rfl,szU 3,λdl ndl=>?_⟩;obtain ⟨sd,ed⟩:=yA (H:=J6) (t:=dl) rfl ndl;generalize upd J6 dl _=J7 at sd ed ⊢;exact ⟨["at",z],.at' r q1.p.F,_,_,wl,dl,_,_,_,rfl,sw.trans sd,sd _ _ ew,⟨q1.da,ed,((hq q1 q1z).1.d.same s5).same (sw.trans sd)⟩,(λJ' sJ'=>⟨q1.da,by rw [yk ((s5.trans sw).free ndl)];exact sJ' _ _ ed,(hqB q1 q1z).1.d.same (yc hB)⟩),by show 2<=4;decide,λm hm=>top_at LK eo ez hqo hm⟩
   ·rw [if_neg hA,if_neg (by omega),if_neg (by omega)] at hw;omega
  rw [decide_eq_false (λz=>h2 (V.int.inj z))];rw [if_neg (λz=>h2 z.1)] at hw;refine zH ⟨_,rfl,rfl,_,rfl,?_⟩;by_cases h3:how=3
  ·rw [decide_eq_true (congrArg V.int h3)]
   rw [if_pos (.inl h3)] at hw;obtain ⟨q1,q2,rfl⟩:=len2 (show qs.length=2 by omega);refine zP ⟨_,rfl,_,rfl,λsg J6 hsg sw0=>⟨szU 2,λwl nwl=>?_⟩⟩;obtain ⟨sw,ew⟩:=yA (H:=J6) (t:=wl) rfl nwl;generalize upd J6 wl _=J7 at sw ew ⊢;have eI7:=sw _ _ (sw0 _ _ eI5);refine ⟨_,rfl,wl,_,_,_,rfl,rfl,SqL.of ew,rfl,_,rfl,D,_,_,_,rfl,rfl,SqL.of eI7,rfl,_,rfl,D,_,_,_,rfl,rfl,SqL.of eI7,rfl,szU 4,λdl ndl=>?_⟩;obtain ⟨sd,ed⟩:=yA (H:=J7) (t:=dl) rfl ndl;generalize upd J7 dl _=J8 at sd ed ⊢;have sa:=sw0.trans (sw.trans sd);exact ⟨[sg],.pair sg q1.p.F q2.p.F,_,_,wl,dl,_,_,_,rfl,sa,sd _ _ ew,⟨q1.da,q2.da,ed,((hq q1 (.head _)).1.d.same s5).same sa,((hq q2 (.tail _ (.head _))).1.d.same s5).same sa⟩,(λJ' sJ'=>⟨q1.da,q2.da,by rw [yk ((s5.trans (sw0.trans sw)).free ndl)];exact sJ' _ _ ed,(hqB q1 (.head _)).1.d.same (yc hB),(hqB q2 (.tail _ (.head _))).1.d.same (yc hB)⟩),by show 1<=4;decide,λm hm=>top_pair hqo hm hsg⟩
  rw [decide_eq_false (λz=>h3 (V.int.inj z))];refine zH ⟨_,rfl,rfl,_,rfl,?_⟩;by_cases h4:how=4
  ·rw [decide_eq_true (congrArg V.int h4)]
   rw [if_pos (.inr h4)] at hw;obtain ⟨q1,q2,q3,rfl⟩:=len3 (show qs.length=3 by omega);refine zP ⟨szU 2,λwl nwl=>?_⟩;obtain ⟨sw,ew⟩:=yA (H:=J5) (t:=wl) rfl nwl;generalize upd J5 wl _=J7 at sw ew ⊢;have eI7:=sw _ _ eI5;refine ⟨_,rfl,D,_,_,_,rfl,rfl,SqL.of eI7,rfl,_,rfl,D,_,_,_,rfl,rfl,SqL.of eI7,rfl,_,rfl,D,_,_,_,rfl,rfl,SqL.of eI7,rfl,szU 4,λdl ndl=>?_⟩;obtain ⟨sd,ed⟩:=yA (H:=J7) (t:=dl) rfl ndl;generalize upd J7 dl _=J8 at sd ed ⊢;have sa:=sw.trans sd;refine ⟨_,rfl,_,_,rfl,rfl,?_⟩;exact ⟨["if"],.cho q1.p.F q2.p.F q3.p.F,_,_,wl,dl,_,_,_,rfl,sa,sd _ _ ew,⟨q1.da,q2.da,q3.da,ed,((hq q1 (.head _)).1.d.same s5).same sa,((hq q2 (.tail _ (.head _))).1.d.same s5).same sa,((hq q3 (.tail _ (.tail _ (.head _)))).1.d.same s5).same sa⟩,(λJ' sJ'=>⟨q1.da,q2.da,q3.da,by rw [yk ((s5.trans sw).free ndl)];exact sJ' _ _ ed,(hqB q1 (.head _)).1.d.same (yc hB),(hqB q2 (.tail _ (.head _))).1.d.same (yc hB),(hqB q3 (.tail _ (.tail _ (.head _)))).1.d.same (yc hB)⟩),by show 1<=4;decide,λm hm=>top_cho hqo hm⟩
  rw [decide_eq_false (λz=>h4 (V.int.inj z))];rw [if_neg (λz=>by rcases z with z | z <;> contradiction)] at hw;by_cases hD:how=5/\0<W.calls.length
  ·rw [if_pos hD] at hw
   obtain ⟨_,l0⟩:=hD;obtain ⟨k,ekk,kl⟩:=Yd (m:=rest) l0;rw [ekk,q0z] at hw;obtain ⟨z,ez⟩:∃ z,W.calls[k]?=some z:=⟨_,List.getElem?_eq_getElem kl⟩;obtain ⟨ht,eht⟩:∃ ht,hts[k]?=some ht:=⟨_,List.getElem?_eq_getElem (by rw [hl,WO.hl];exact kl)⟩;obtain ⟨hd',ehd,eht2⟩:=hh k ht eht;have ghd:W.heads.getD k (0,0)=hd':=by rw [q1x,ehd];rfl
   refine zH ⟨_,rfl,_,rfl,kd,_,rfl,yg ek vca,ca,_,rfl,.inl (SqL.of eca),_,_,rfl,rfl,by rw [Jj];omega,?_⟩;rw [Jj,ekk];refine ⟨_,rfl,kd,_,rfl,yg ek vca,_,rfl,ca,_,_,_,rfl,rfl,SqL.of eca,zQ (by rw [List.getElem?_map,ez];rfl),szU 2,λwl nwl=>?_⟩;obtain ⟨sw,ew⟩:=yA (H:=J5) (t:=wl) rfl nwl;generalize upd J5 wl _=J7 at sw ew ⊢;refine ⟨_,rfl,_,rfl,szU 3,λdl ndl=>?_⟩;obtain ⟨sd,ed⟩:=yA (H:=J7) (t:=dl) rfl ndl;generalize upd J7 dl _=J8 at sd ed ⊢;have sa:=sw.trans sd;have gh:∀ i:Nat,∀ v:V,[V.int hd'.1,V.int hd'.2][i]?=some v->True:=λ_ _ _=>trivial;refine ⟨_,rfl,_,rfl,kd,_,rfl,yg (sa _ _ ek) vhe,_,rfl,he,_,_,_,rfl,rfl,SqL.of (sa _ _ ehe),zQ (by rw [List.getElem?_map,eht];rfl),ht,_,_,_,rfl,rfl,SqT.of (sa _ _ eht2),rfl,_,_,rfl,rfl,?_⟩;refine ⟨_,rfl,_,rfl,kd,_,rfl,yg (sa _ _ ek) vhe,_,rfl,he,_,_,_,rfl,rfl,SqL.of (sa _ _ ehe),zQ (by rw [List.getElem?_map,eht];rfl),ht,_,_,_,rfl,rfl,SqT.of (sa _ _ eht2),rfl,_,_,rfl,?_⟩;refine ⟨[z],.call k (Xb ((qs.map PtA.p).map Pt.F)),_,_,wl,dl,_,_,_,rfl,sa,sd _ _ ew,⟨D,qs.map PtA.da,ed,?_,zc5 (W:=W) λq mq=>((hq q mq).1.same s5).same sa⟩,(λJ' sJ'=>⟨D,qs.map PtA.da,by rw [yk ((s5.trans sw).free ndl)];exact sJ' _ _ ed,by rw [yk zD,List.map_map];exact sJ' _ _ (sa _ _ eI5),zc5 (W:=W) λq mq=>(hqB q mq).1.same (yc hB)⟩),by show 1<=4;decide,λm hm=>?_⟩
   ·rw [List.map_map];exact sa _ _ eI5
   ·have:=top_call WO ez (by rw [Jj];omega) hqo hm
    rw [ghd] at this;have em:∀ x y:Int,(if y > x then y else x)=max x y:=λx y=>by split <;> omega
    rw [em];exact this
  ·rw [if_neg hD] at hw;omega
 ·rintro σ J ⟨hd,G,sz,dp,wl,dl,u5,u8,u11,rfl,sJ,ew,dd,dx,hl4,top⟩
  have s6:=s5.trans sJ;refine ⟨_,rfl,pa,rfl,⟨_,SqL.of (s6 _ _ hp)⟩,?_⟩;refine Xa (K:=K) (a:=pa) (xs:=qs.map λq=>V.ref q.x) (λi σ J'=>∃ (wi:Ad) (u:Jp),σ=[iq how,iq rest,rq pa,rq kd,rq D,u,iq sz,iq dp,u8,rq wi,rq dl,u11]/\Same J J'/\J' wi=some (.lst ((("(":Str)::hd++z7 ((qs.take i).map PtA.p)).map V.str))) ⟨wl,u5,rfl,Same.refl _,by show J wl=some (.lst ((("(":Str)::hd++[]).map V.str));rw [q3y];exact ew⟩ (λi σ J' _ ⟨_,_,_,s',_⟩=>SqL.of (s' _ _ (s6 _ _ hp))) ?_ ?_
  ·rintro i x σ J' hi ⟨wi,u,rfl,s',ewi⟩
   obtain ⟨q1,eq1,rfl⟩:=zae hi;have hq1:=hq q1 (List.mem_of_getElem? eq1);have g1:=hq1.1.same (s6.trans s')
   have lw:q1.p.ws.length<=6*60:=by
    have a:=hq1.2.l;have b:=F2.nodes_sz WO.nn q1.p.F;have c:=hq1.2.s60;have e:=hq1.2.s;omega
   have lt:(("(":Str)::hd++z7 ((qs.take i).map PtA.p)).length<=5+360*10:=by
    rw [Jk,q3x]
    have a:=all_l (W:=W) (ps:=(qs.take i).map PtA.p) λp mp=>by
     obtain ⟨q,mq,rfl⟩:=List.mem_map.mp mp;exact (hq q (List.mem_of_mem_take mq)).2
    have b:∀ l:List PtA,(∀ q∈l,q∈qs)->(((l.map PtA.p).map Pt.F).map F2.nodes).sum<=60*l.length:=λl=>by
     induction l with
     | nil=>intro _;exact Nat.le_refl _
     | cons q l ih =>
      intro h;have:=ih λr m=>h r (q1y _ m);have hh:=(hq q (h q q1z)).2;have b:=F2.nodes_sz WO.nn q.p.F;have c:=hh.s60;have e:=hh.s;rw [List.map_cons,List.map_cons,List.map_cons,List.sum_cons,q3x];omega
    have c:=b (qs.take i) λq m=>List.mem_of_mem_take m;rw [List.length_take] at c;omega
   refine ⟨_,rfl,_,rfl,q1.x,_,_,_,rfl,rfl,SqT.of g1.t,rfl,wi,q1.wa,_,_,rfl,rfl,ewi,g1.w,(by rw [Jj,Jj];omega),λp np=>?_⟩;obtain ⟨sp,ep⟩:=yA (H:=J') (t:=p) rfl np;refine ⟨p,_,rfl,s'.trans sp,?_⟩;rw [ep,← List.map_append,List.take_add_one,eq1]
   have e9:z7 ((qs.take i++[q1]).map PtA.p)=z7 ((qs.take i).map PtA.p)++q1.p.ws:=by
    unfold z7;rw [Jl,List.flatMap_append];show _++(q1.p.ws++[])=_;rw [q3y]
   show some (HO.lst ((("(":Str)::hd++z7 ((qs.take i).map PtA.p)++q1.p.ws).map V.str))=some (HO.lst ((("(":Str)::hd++z7 ((qs.take i++[q1]).map PtA.p)).map V.str));rw [e9,List.append_assoc]
  ·rintro σ J' ⟨wi,u,rfl,s',ewi⟩
   rw [Jj,List.take_length] at ewi;have s7:=s6.trans s'
   have ltA:(z7 (qs.map PtA.p)).length<=3600:=by
    have a:=all_l hqo
    have b:∀ l:List PtA,(∀ q∈l,q∈qs)->(((l.map PtA.p).map Pt.F).map F2.nodes).sum<=60*l.length:=λl=>by
     induction l with
     | nil=>intro _;exact Nat.le_refl _
     | cons q l ih =>
      intro h;have:=ih λr m=>h r (q1y _ m);have hh:=(hq q (h q q1z)).2;have b:=F2.nodes_sz WO.nn q.p.F;have c:=hh.s60;have e:=hh.s;rw [List.map_cons,List.map_cons,List.map_cons,List.sum_cons,q3x];omega
    have c:=b qs λq m=>m;omega
   refine ⟨_,rfl,szU 1,λbl nbl=>?_⟩;obtain ⟨sb,eb⟩:=yA (H:=J') (t:=bl) (o:=.lst [.str ")"]) rfl nbl;generalize upd J' bl _=J8 at sb eb ⊢;refine ⟨wi,bl,_,_,rfl,rfl,sb _ _ ewi,eb,(by rw [Jj,Jk,q3x];show _+1<=_;omega),λwf nwf=>?_⟩;obtain ⟨sf,ef⟩:=yA (H:=J8) (t:=wf) rfl nwf;generalize upd J8 wf _=J9 at sf ef ⊢;have s9:=s7.trans (sb.trans sf);refine ⟨_,rfl,_,rfl,_,rfl,_,rfl,pa,rfl,⟨_,SqL.of (s9 _ _ hp)⟩,_,rfl,λD4 nD4=>?_⟩;refine col (K:=K) (f:=λq:PtA=>V.int ((q.p.b:Nat):Int)) hp (by omega) s9 nD4 (λp u J R mp sJ r=>⟨_,rfl,p.x,_,_,_,rfl,rfl,SqT.of (sJ _ _ (hq p mp).1.t),rfl,r⟩) (λJ10 h10=>?_) rfl;refine ⟨szU 1,λzl nz=>?_⟩;have h11:=h10.new (o:=.lst [.int 0]) nz;have eB:(qs.map λq:PtA=>V.int ((q.p.b:Nat):Int))=(qs.map λq:PtA=>((q.p.b:Nat):Int)).map V.int:=by rw [List.map_map];rfl
   refine ⟨D4,zl,_,_,rfl,rfl,h11.get 1 rfl,h11.get 0 rfl,(by rw [Jj];show _+1<=_;omega),λpl npl=>?_⟩;have h12:=h11.new (o:=.lst (((qs.map λq:PtA=>((q.p.b:Nat):Int))++[0]).map V.int)) npl;have e12:((qs.map λq:PtA=>((q.p.b:Nat):Int))++[0]).map V.int=(qs.map λq:PtA=>V.int ((q.p.b:Nat):Int))++[V.int 0]:=by rw [Jl,eB];rfl
   rw [← e12];refine ⟨pl,_,rfl,h12.lst 0 rfl,(by rw [Jk];show 0<_+1;omega),λmm m1 m2=>?_⟩;have s12:=h12.sm;generalize upd _ pl _=J12 at s12 ⊢;have mm0:0<=mm:=m2 0 (q2y _ q1z);obtain ⟨mn,emn⟩:∃ mn:Nat,mm=mn:=⟨mm.toNat,by omega⟩
   have tp:=top mn λp mp=>by
    obtain ⟨q,mq,rfl⟩:=List.mem_map.mp mp;have:=m2 ((q.p.b:Nat):Int) (List.mem_append_left _ (List.mem_map.mpr ⟨q,mq,rfl⟩));omega
   refine ⟨_,_,rfl,rfl,szU 5,λt nt=>?_⟩;obtain ⟨st,et⟩:=yA (H:=J12) (t:=t) rfl nt;generalize upd J12 t _=J13 at st et ⊢;have zt:H t=none:=(s9.trans s12).free nt;have zw:H wf=none:=(s7.trans sb).free nwf
   have pT:PtAs J13 ⟨⟨("(":Str)::hd++z7 (qs.map PtA.p)++[(")":Str)],G,sz,dp,1+mn⟩,t,wf,dl⟩:=by
    refine ⟨?_,?_,?_⟩
    ·rw [et]
     show some (HO.tup [.ref wf,.ref dl,.int sz,.int dp,.int (1+mm)])=some (HO.tup [.ref wf,.ref dl,.int sz,.int dp,.int ((1+mn:Nat):Int)]);rw [emn];congr 1
    ·have:=st _ _ (s12 _ _ ef)
     rw [this,← List.map_singleton,← List.map_append]
    ·exact (((dd.same s').same (sb.trans sf)).same s12).same st
   refine q _ J13 ((s9.trans s12).trans st) pT ⟨?_,?_,dx _ (s'.trans ((sb.trans sf).trans (s12.trans st)))⟩ tp
   ·rw [yk zt];exact pT.t
   ·rw [yk zw];exact pT.w
structure PileAt (H:Hp) (W:Kw) (pl:Ad) (qs:List PtA):Prop where
 l:H pl=some (.lst (qs.map λq=>V.ref q.x))
 q:∀ q∈qs,PtAs H q/\PtOk W q.p
def PileAt.same {H H':Hp} {W:Kw} {pl:Ad} {qs:List PtA} (h:PileAt H W pl qs) (s:Same H H'):PileAt H' W pl qs:=⟨s _ _ h.l,λq m=>⟨(h.q q m).1.same s,(h.q q m).2⟩⟩
def PileAt.snoc {H H':Hp} {W:Kw} {pl pl':Ad} {qs qs2:List PtA} {q:PtA} (h:PileAt H W pl qs) (s:Same H H') (hs:∀ r∈qs2,r∈qs) (g:PtAs H' q) (o:PtOk W q.p) (e:H' pl'=some (.lst ((qs2.map λq=>V.ref q.x)++[.ref q.x]))):PileAt H' W pl' (qs2++[q]):=by
 refine ⟨by rw [e,Jl];rfl,λr m=>?_⟩;rcases List.mem_append.mp m with m | m
 ·exact ⟨(h.q r (hs r m)).1.same s,(h.q r (hs r m)).2⟩
 ·cases List.mem_singleton.mp m;exact ⟨g,o⟩
def wantI_le {W:Kw} (h:W.Ok) (how rest:Int) (h5:how<=5):XR W how rest<=6:=by
 unfold XR
 split
 ·decide
 ·split
  ·omega
  ·split
   ·rename_i hc
    obtain ⟨k,ek,kl⟩:=Yd (m:=rest) hc.2;rw [ek,q0z,q1x,List.getElem?_eq_getElem (by rw [h.cl];exact kl)];have:=h.c6 _ (List.getElem_mem (by rw [h.cl];exact kl));rw [Option.getD_some];omega
   ·decide
inductive spPu (vs:Jo) (H:Hp) (Q:VK) (_:XK):Prop
 | mk (c:Int) (pl kd:Ad) (qs:List PtA) (W:Kw) (B:Hp) (hB:Same B H) (_:vs=[.int c,.ref pl,.ref kd]) (_:PileAt B W pl qs) (_:KLf H kd W) (_:KCa H kd W) (_:W.Ok) (_:LfK W) (_:qs.length<=100) (_:∀ qs' pl' H',Same H H'->PileAt (ext B H H') W pl' qs'->0<qs'.length->qs'.length<=qs.length+1->Q (.ref pl') H')
def ok_pushed (d:zB K mg "_law_pushed" ZZ ["_law_cell","_law_pile","_law_known"]) (hlen:mg "len"=none) (WA:Ok P w K mg base CX0 1 "_law_wanted" ["_law_how","_law_rest","_law_known"] spWa) (LF:Ok P w K mg base CX0 2 "_law_leaf_by" ["_law_cell","_law_known"] spLf) (TB:Ok P w K mg base CX0 2 "_law_top_by" ["_law_how","_law_rest","_law_parts","_law_known"] spTop):Ok P w K mg base CX0 3 "_law_pushed" ["_law_cell","_law_pile","_law_known"] spPu:=by
 obtain ⟨f,fd,m,F,bd⟩:=d;refine ⟨f,fd,m,F.kp,bd,F.ok sc_l_pushed (by rintro vs H Q E ⟨_,_,_,_,_,_,_,e,_⟩;rw [e];rfl) λcdv A outer s H vs Q E hr h=>?_⟩;obtain ⟨c,pl,kd,qs,W,B0,hB,rfl,hpB,KL,KC,WO,LK,l100,q⟩:=h;have hp:=hpB.same hB;have hr2:Room 2 _:=hr;have hr1:Room 1 _:=hr.mono (by decide);have nd:=sc_l_pushed.nd;have SL:(100000:Nat)<sizeLine:=by decide
 refine ⟨_,(zb (zq (i:=3) nd rfl (Or.inl rfl) (zA z5 (pv 0) zd))
   (zb (zq (i:=4) nd rfl (Or.inl rfl) (zx WA hr1 (by rfl) zE (za (zA zO (pv 0) zd) (za (pv 3) (za (pv 2) zc)))))
   (zb (zq (i:=5) nd rfl (Or.inl rfl) (zx LF hr2 (by rfl) zE (za (pv 3) (za (pv 2) zc))))
   (zb (zC (z8 (zm Y5 (pv 4) zd (zu _)) (zT (zm Y5 (zf zj (by rfl) hlen PySem.boot_len (za (pv 1) zc)) (pv 4) (zu _)))).pt (ze (zi (zA xC (pv 1) (zN (za (pv 5) zc))))) zh)
   (zb (zq (i:=6) nd rfl (Or.inl rfl) (zx TB hr2 (by rfl) zE (za (zA zO (pv 0) zd) (za (pv 3) (za (y9 zcb (pv 1) (xX (zA ZL (zf zj (by rfl) hlen PySem.boot_len (za (pv 1) zc)) (pv 4))) xY) (za (pv 2) zc))))))
   (zb (zC (z8 (zm xI (zn zy (pv 6) zd (λ_ _=>rfl)) zd (zu _)) (z8 (zm xI (zn zy (pv 6) zd (λ_ _=>rfl)) zd (zu _)) (zT (zm xI (zn zy (pv 6) zd (λ_ _=>rfl)) zd (zu _))))).pt (ze (zi (zA xC (pv 1) (zN (za (pv 5) zc))))) zh)
   (ze (zi (zA xC (y9 zcb (pv 1) xY (xX (zA ZL (zf zj (by rfl) hlen PySem.boot_len (za (pv 1) zc)) (pv 4)))) (zN (za (pv 6) zc))))))))))),?_⟩
 have h6:0<=c % 6/\c % 6<6:=⟨Int.emod_nonneg _ (by decide),Int.emod_lt_of_pos _ (by decide)⟩;refine ⟨_,rfl,_,_,rfl,rfl,⟨by decide,by decide⟩,_,rfl,_,_,rfl,rfl,(by show (0:Int)<6;decide),_,rfl,_,rfl,_,_,kd,W,rfl,KL,KC,WO.cl,?_⟩;obtain ⟨wn,ewn,wle⟩:∃ wn,XR W (c % 6) (c / 6)=wn/\wn<=6:=⟨_,rfl,wantI_le WO _ _ (by omega)⟩;rw [ewn];refine ⟨_,rfl,_,rfl,_,kd,W,rfl,KL,LK,λp x H1 s1 px lo=>?_⟩;obtain ⟨wa,da,px1,px2⟩:=px B0 hB;have pq:=px1.as;have pqx:=px2.as;obtain ⟨ql,eql⟩:∃ ql:PtA,ql=⟨p,x,wa,da⟩:=⟨_,rfl⟩;rw [← eql] at pq pqx;have ol:PtOk W ql.p:=by rw [eql];exact lo.o
 have exq:x=ql.x:=by rw [eql]
 rw [exq];clear eql exq px px1 px2;have hp1:=hp.same s1;have ll:(qs.map λq=>V.ref q.x).length=qs.length:=List.length_map ..;refine ⟨_,rfl,_,_,rfl,rfl,_,rfl,?_⟩;by_cases w0:wn<0
 ·rw [decide_eq_true w0]
  refine zP (zP ⟨_,rfl,_,rfl,szU 1,λb nb=>?_⟩);obtain ⟨sb,eb⟩:=yA (H:=H1) (t:=b) rfl nb;generalize upd H1 b _=Jb at sb eb ⊢;refine ⟨pl,b,_,_,rfl,rfl,sb _ _ hp1.l,eb,(by rw [ll];show _+1<=_;omega),λr nr=>?_⟩;obtain ⟨sr,er⟩:=yA (H:=Jb) (t:=r) rfl nr;generalize upd Jb r _=Jr at sr er ⊢;exact q (qs++[ql]) r Jr (s1.trans (sb.trans sr)) (hpB.snoc (yc hB) (λ_ m=>m) (pqx.same (Yl (sb.trans sr))) ol (by rw [yk (s1.free (sb.free nr))];exact er)) (by rw [Jk];show 0<_+1;omega) (by rw [Jk];show _+1<=_;omega)
 rw [decide_eq_false w0];refine zH ⟨_,rfl,pl,_,rfl,.inl (SqL.of hp1.l),_,rfl,_,_,rfl,rfl,_,rfl,?_⟩;rw [ll];by_cases w1:(qs.length:Int)<wn
 ·rw [decide_eq_true w1]
  refine zP ⟨_,rfl,_,rfl,szU 1,λb nb=>?_⟩;obtain ⟨sb,eb⟩:=yA (H:=H1) (t:=b) rfl nb;generalize upd H1 b _=Jb at sb eb ⊢;refine ⟨pl,b,_,_,rfl,rfl,sb _ _ hp1.l,eb,(by rw [ll];show _+1<=_;omega),λr nr=>?_⟩;obtain ⟨sr,er⟩:=yA (H:=Jb) (t:=r) rfl nr;generalize upd Jb r _=Jr at sr er ⊢;exact q (qs++[ql]) r Jr (s1.trans (sb.trans sr)) (hpB.snoc (yc hB) (λ_ m=>m) (pqx.same (Yl (sb.trans sr))) ol (by rw [yk (s1.free (sb.free nr))];exact er)) (by rw [Jk];show 0<_+1;omega) (by rw [Jk];show _+1<=_;omega)
 rw [decide_eq_false w1];obtain ⟨n,en⟩:∃ n:Nat,(qs.length:Int)-wn=n:=⟨((qs.length:Int)-wn).toNat,by omega⟩;refine zH ⟨_,rfl,_,_,rfl,rfl,(by show (0:Int)<6;decide),_,rfl,_,rfl,_,rfl,pl,_,rfl,.inl (SqL.of hp1.l),_,rfl,_,_,rfl,rfl,_,rfl,pl,_,rfl,SqL.of hp1.l,λsl nsl=>?_⟩;rw [ll,en,ze2 (by omega),q0z,← List.map_drop];obtain ⟨ss,es⟩:=yA (H:=H1) (t:=sl) rfl nsl;generalize upd H1 sl _=H2 at ss es ⊢;have s2:=s1.trans ss;have dl:(qs.drop n).length=wn:=by rw [List.length_drop];omega
 refine ⟨_,rfl,_,_,sl,kd,qs.drop n,W,rfl,es,ext B0 H H2,ext_sub hB s2,λr m=>⟨((hpB.q r (List.mem_of_mem_drop m)).1.same (yc hB)),(hpB.q r (List.mem_of_mem_drop m)).2⟩,KL.same s2,KC.same s2,WO,LK,by rw [ewn];omega,by omega,λqt H3 s3 gt gtx ot=>?_⟩;have s13:=ss.trans s3;have hp3:=hp1.same s13;have pq3:=pq.same s13;have ge:=gt.t;refine ⟨_,rfl,qt.x,_,_,_,rfl,rfl,SqT.of ge,rfl,_,_,rfl,rfl,_,rfl,?_⟩;by_cases t1:qt.p.s > 60
 ·rw [decide_eq_true t1]
  refine zP (zP ⟨_,rfl,_,rfl,szU 1,λb nb=>?_⟩);obtain ⟨sb,eb⟩:=yA (H:=H3) (t:=b) rfl nb;generalize upd H3 b _=Jb at sb eb ⊢;refine ⟨pl,b,_,_,rfl,rfl,sb _ _ hp3.l,eb,(by rw [ll];show _+1<=_;omega),λr nr=>?_⟩;obtain ⟨sr,er⟩:=yA (H:=Jb) (t:=r) rfl nr;generalize upd Jb r _=Jr at sr er ⊢;exact q (qs++[ql]) r Jr ((s1.trans s13).trans (sb.trans sr)) (hpB.snoc (yc hB) (λ_ m=>m) (pqx.same (Yl (s13.trans (sb.trans sr)))) ol (by rw [yk ((s1.trans s13).free (sb.free nr))];exact er)) (by rw [Jk];show 0<_+1;omega) (by rw [Jk];show _+1<=_;omega)
 rw [decide_eq_false t1];refine zH ⟨_,rfl,qt.x,_,_,_,rfl,rfl,SqT.of ge,rfl,_,_,rfl,rfl,_,rfl,?_⟩;by_cases t2:qt.p.d > 7
 ·rw [decide_eq_true t2]
  refine zP (zP ⟨_,rfl,_,rfl,szU 1,λb nb=>?_⟩);obtain ⟨sb,eb⟩:=yA (H:=H3) (t:=b) rfl nb;generalize upd H3 b _=Jb at sb eb ⊢;refine ⟨pl,b,_,_,rfl,rfl,sb _ _ hp3.l,eb,(by rw [ll];show _+1<=_;omega),λr nr=>?_⟩;obtain ⟨sr,er⟩:=yA (H:=Jb) (t:=r) rfl nr;generalize upd Jb r _=Jr at sr er ⊢;exact q (qs++[ql]) r Jr ((s1.trans s13).trans (sb.trans sr)) (hpB.snoc (yc hB) (λ_ m=>m) (pqx.same (Yl (s13.trans (sb.trans sr)))) ol (by rw [yk ((s1.trans s13).free (sb.free nr))];exact er)) (by rw [Jk];show 0<_+1;omega) (by rw [Jk];show _+1<=_;omega)
 rw [decide_eq_false t2];refine zH ⟨_,rfl,qt.x,_,_,_,rfl,rfl,SqT.of ge,rfl,_,_,rfl,rfl,_,rfl,?_⟩;by_cases t3:((qt.p.b:Nat):Int) > 30
 ·rw [decide_eq_true t3]
  refine zP ⟨_,rfl,_,rfl,szU 1,λb nb=>?_⟩;obtain ⟨sb,eb⟩:=yA (H:=H3) (t:=b) rfl nb;generalize upd H3 b _=Jb at sb eb ⊢;refine ⟨pl,b,_,_,rfl,rfl,sb _ _ hp3.l,eb,(by rw [ll];show _+1<=_;omega),λr nr=>?_⟩;obtain ⟨sr,er⟩:=yA (H:=Jb) (t:=r) rfl nr;generalize upd Jb r _=Jr at sr er ⊢;exact q (qs++[ql]) r Jr ((s1.trans s13).trans (sb.trans sr)) (hpB.snoc (yc hB) (λ_ m=>m) (pqx.same (Yl (s13.trans (sb.trans sr)))) ol (by rw [yk ((s1.trans s13).free (sb.free nr))];exact er)) (by rw [Jk];show 0<_+1;omega) (by rw [Jk];show _+1<=_;omega)
 rw [decide_eq_false t3];refine zH ⟨_,rfl,_,rfl,pl,_,rfl,.inl (SqL.of hp3.l),_,rfl,_,_,rfl,rfl,_,rfl,pl,_,rfl,SqL.of hp3.l,λhl nhl=>?_⟩;rw [ll,en,zak (by omega),q0z,← List.map_take];obtain ⟨sh,eh⟩:=yA (H:=H3) (t:=hl) rfl nhl;generalize upd H3 hl _=H4 at sh eh ⊢;refine ⟨_,rfl,szU 1,λb nb=>?_⟩;obtain ⟨sb,eb⟩:=yA (H:=H4) (t:=b) rfl nb;generalize upd H4 b _=Jb at sb eb ⊢;refine ⟨hl,b,_,_,rfl,rfl,sb _ _ eh,eb,(by rw [Jj,List.length_take];show _+1<=_;omega),λr nr=>?_⟩;obtain ⟨sr,er⟩:=yA (H:=Jb) (t:=r) rfl nr;generalize upd Jb r _=Jr at sr er ⊢;have sx:=sh.trans (sb.trans sr);refine q (qs.take n++[qt]) r Jr ((s1.trans s13).trans sx) (hpB.snoc (yc hB) (λ_ m=>List.mem_of_mem_take m) (gtx.same λa o e=>?_) (ot.ok (by omega) (by omega) (by omega)) (by rw [yk ((s1.trans s13).free (sh.free (sb.free nr)))];exact er)) (by rw [Jk];show 0<_+1;omega) (by rw [Jk,List.length_take];show _+1<=_;omega);unfold ext at e ⊢
 cases z:H a with
 | some u=>rw [z] at e;rw [s2 _ _ z] at e;exact e
 | none =>
  rw [z] at e
  cases z2:H2 a with
  | some u=>rw [z2] at e;exact sx _ _ (s3 _ _ (by rw [z2];exact e))
  | none=>rw [z2] at e;exact sx _ _ e
structure LikeG (mg:J0) (c:F2.Cs) (CF:Ad):Prop where
 nu:mg "Number"=some (.ref c.num)
 he:mg "Here"=some (.ref c.here)
 ce:mg "Cell"=some (.ref c.cell)
 lo:mg "Local"=some (.ref c.loc)
 sh:mg "Shifted"=some (.ref c.shi)
 at_:mg "At"=some (.ref c.at')
 pa:mg "Pair"=some (.ref c.pair)
 co:mg "Choice"=some (.ref c.cho)
 ca:mg "Call"=some (.ref c.call)
 fo:mg "Form"=some (.ref CF)
structure LikeK (K:Fg) (c:F2.Cs) (CF:Ad):Prop where
 L:LooksK K c
 num:PySem.W.kitOne K (.ref c.num) (.ref c.num)=some true
 here:PySem.W.kitOne K (.ref c.here) (.ref c.here)=some true
 cell:PySem.W.kitOne K (.ref c.cell) (.ref c.cell)=some true
 shi:PySem.W.kitOne K (.ref c.shi) (.ref c.shi)=some true
 loc:PySem.W.kitOne K (.ref c.loc) (.ref c.loc)=some true
 fn:PySem.W.kitOne K (.ref c.num) (.ref CF)=some true
 fh:PySem.W.kitOne K (.ref c.here) (.ref CF)=some true
 fc:PySem.W.kitOne K (.ref c.cell) (.ref CF)=some true
 fs:PySem.W.kitOne K (.ref c.shi) (.ref CF)=some true
 fl:PySem.W.kitOne K (.ref c.loc) (.ref CF)=some true
 fa:PySem.W.kitOne K (.ref c.at') (.ref CF)=some true
 fp:PySem.W.kitOne K (.ref c.pair) (.ref CF)=some true
 fo:PySem.W.kitOne K (.ref c.cho) (.ref CF)=some true
 fk:PySem.W.kitOne K (.ref c.call) (.ref CF)=some true
 nN:NoAttr K c.num "number"
 cR:NoAttr K c.cell "row"
 lA:NoAttr K c.loc "at"
 sR:NoAttr K c.shi "row"
 sB:NoAttr K c.shi "by"
 sO:NoAttr K c.shi "other"
 aR:NoAttr K c.at' "row"
 pS:NoAttr K c.pair "sign"
def spIs:Sp:=λvs H Q _=>∃ n:Int,vs=[.int n,.int n]/\Q (.bl true) H
def ok_is (d:zB K mg "_law_is" zch ["_law_found","_law_due"]) (WH:Ok P w K mg base (CXe P w base) 1 "_law_whole" ["_law_found"] (sp1 λ_=>.bl true)):Ok P w K mg base (CXe P w base) 2 "_law_is" ["_law_found","_law_due"] spIs:=by
 obtain ⟨f,fd,m,F,bd⟩:=d;refine ⟨f,fd,m,F.kp,bd,F.okE sc_l_is (by rintro vs H Q E ⟨_,e,_⟩;rw [e];rfl) λcdv A outer s H vs Q E hr h=>?_⟩;obtain ⟨n,rfl,q⟩:=h;have hr1:Room 1 _:=hr;have nd:=sc_l_is.nd;refine ⟨_,(ze (zi (yb (zx WH hr1 (by rfl) z9 (za (pv 0) zc)) (yt (Zn zU (pv 0) (pv 1) (zu _)))))),?_⟩;refine ⟨_,rfl,n,rfl,true,rfl,zP ⟨_,rfl,_,rfl,rfl,?_⟩⟩;rw [decide_eq_true rfl];exact q
def isLeaf:F2.Fm->Bool
 | .num _=>true
 | .here=>true
 | .cell _=>true
 | .shi _ _ _=>true
 | .loc _=>true
 | _=>false
inductive spLL (c:F2.Cs) (vs:Jo) (H:Hp) (Q:VK) (_:XK):Prop
 | mk (x y:Ad) (G:F2.Fm) (_:vs=[.ref x,.ref y]) (_:F2.FormAt c H G x) (_:DueAt H G y) (_:isLeaf G=true) (_:Q (.bl true) H)
def zcx {c:F2.Cs} {CF:Ad} (d:zB K mg "_law_like_leaf" xQ ["_law_form","_law_due"]) (hisi:mg "isinstance"=none) (G:LikeG mg c CF) (L:LikeK K c CF) (IS:Ok P w K mg base (CXe P w base) 2 "_law_is" ["_law_found","_law_due"] spIs):Ok P w K mg base (CXe P w base) 3 "_law_like_leaf" ["_law_form","_law_due"] (spLL c):=by
 obtain ⟨f,fd,m,F,bd⟩:=d;refine ⟨f,fd,m,F.kp,bd,F.okE sc_l_like_leaf (by rintro vs H Q E ⟨_,_,_,e,_⟩;rw [e];rfl) λcdv A outer s H vs Q E hr h=>?_⟩;obtain ⟨x,y,X,rfl,hx,hy,hl,q⟩:=h;have hr2:Room 2 _:=hr;have nd:=sc_l_like_leaf.nd;refine ⟨_,(zb (zC (zm zU (zn zy (pv 1) zd (λ_ _=>rfl)) zk (zu _)) (ze (zi (yb (zf zp (by rfl) hisi PyProof.Rows.boot_isinstance (za (pv 0) (za (zM G.nu) zc))) (yt (zx IS hr2 (by rfl) z9 (za (zo (pv 0) rfl) (za (zn zy (pv 1) zd (λ_ _=>rfl)) zc))))))) zh)
   (zb (zC (zm zU (zn zy (pv 1) zd (λ_ _=>rfl)) zk (zu _)) (ze (zi (zf zp (by rfl) hisi PyProof.Rows.boot_isinstance (za (pv 0) (za (zM G.he) zc))))) zh)
   (zb (zC (zm zU (zn zy (pv 1) zd (λ_ _=>rfl)) zk (zu _)) (ze (zi (yb (zf zp (by rfl) hisi PyProof.Rows.boot_isinstance (za (pv 0) (za (zM G.ce) zc))) (yt (zx IS hr2 (by rfl) z9 (za (zo (pv 0) rfl) (za (zn zy (pv 1) zd (λ_ _=>rfl)) zc))))))) zh)
   (zb (zC (zm zU (zn zy (pv 1) zd (λ_ _=>rfl)) zk (zu _)) (ze (zi (yb (zf zp (by rfl) hisi PyProof.Rows.boot_isinstance (za (pv 0) (za (zM G.lo) zc))) (yt (zx IS hr2 (by rfl) z9 (za (zo (pv 0) rfl) (za (zn zy (pv 1) zd (λ_ _=>rfl)) zc))))))) zh)
   (zb (zC (z8 (zL (zG (zf zp (by rfl) hisi PyProof.Rows.boot_isinstance (za (pv 0) (za (zM G.sh) zc))))) (zT (zL (zG (zx IS hr2 (by rfl) z9 (za (zo (pv 0) rfl) (za (zn zy (pv 1) zd (λ_ _=>rfl)) zc))))))).pt (ze (zi zW)) zh)
   (ze (zi (yb (zx IS hr2 (by rfl) z9 (za (zo (pv 0) rfl) (za (zn zy (pv 1) zd (λ_ _=>rfl)) zc))) (yt (zx IS hr2 (by rfl) z9 (za (zo (pv 0) rfl) (za (zn zy (pv 1) zd (λ_ _=>rfl)) zc)))))))))))),?_⟩
 cases X with
 | num n =>
  obtain ⟨dx,ex⟩:=hx;have ey:H y=some (.tup [.str "number",.int n]):=hy;refine ⟨_,rfl,y,_,_,_,rfl,rfl,SqT.of ey,rfl,rfl,_,rfl,zP ?_⟩;refine ⟨_,rfl,_,_,.ref c.num,_,true,rfl,rfl,(λu r=>r),L.L.num.ty ex,L.num,true,rfl,zP ?_⟩;exact ⟨_,rfl,x,c.num,dx,_,_,rfl,ex,L.L.num.cl,L.nN,rfl,_,rfl,y,_,_,_,rfl,rfl,SqT.of ey,rfl,n,rfl,q⟩
 | here =>
  obtain ⟨dx,ex⟩:=hx;have ey:H y=some (.tup [.str "here"]):=hy;refine ⟨_,rfl,y,_,_,_,rfl,rfl,SqT.of ey,rfl,rfl,_,rfl,zH ?_⟩;refine ⟨_,rfl,y,_,_,_,rfl,rfl,SqT.of ey,rfl,rfl,_,rfl,zP ?_⟩;exact ⟨_,rfl,_,_,.ref c.here,_,true,rfl,rfl,(λu r=>r),L.L.here.ty ex,L.here,q⟩
 | cell r =>
  obtain ⟨dx,ex⟩:=hx;have ey:H y=some (.tup [.str "cell",.int r]):=hy;refine ⟨_,rfl,y,_,_,_,rfl,rfl,SqT.of ey,rfl,rfl,_,rfl,zH ?_⟩;refine ⟨_,rfl,y,_,_,_,rfl,rfl,SqT.of ey,rfl,rfl,_,rfl,zH ?_⟩;refine ⟨_,rfl,y,_,_,_,rfl,rfl,SqT.of ey,rfl,rfl,_,rfl,zP ?_⟩;refine ⟨_,rfl,_,_,.ref c.cell,_,true,rfl,rfl,(λu r=>r),L.L.cell.ty ex,L.cell,true,rfl,zP ?_⟩;exact ⟨_,rfl,x,c.cell,dx,_,_,rfl,ex,L.L.cell.cl,L.cR,rfl,_,rfl,y,_,_,_,rfl,rfl,SqT.of ey,rfl,r,rfl,q⟩
 | loc r =>
  obtain ⟨dx,ex⟩:=hx;have ey:H y=some (.tup [.str "local",.int r]):=hy;refine ⟨_,rfl,y,_,_,_,rfl,rfl,SqT.of ey,rfl,rfl,_,rfl,zH ?_⟩;refine ⟨_,rfl,y,_,_,_,rfl,rfl,SqT.of ey,rfl,rfl,_,rfl,zH ?_⟩;refine ⟨_,rfl,y,_,_,_,rfl,rfl,SqT.of ey,rfl,rfl,_,rfl,zH ?_⟩;refine ⟨_,rfl,y,_,_,_,rfl,rfl,SqT.of ey,rfl,rfl,_,rfl,zP ?_⟩;refine ⟨_,rfl,_,_,.ref c.loc,_,true,rfl,rfl,(λu r=>r),L.L.loc.ty ex,L.loc,true,rfl,zP ?_⟩;exact ⟨_,rfl,x,c.loc,dx,_,_,rfl,ex,L.L.loc.cl,L.lA,rfl,_,rfl,y,_,_,_,rfl,rfl,SqT.of ey,rfl,r,rfl,q⟩
 | shi r b o =>
  obtain ⟨dx,ex⟩:=hx;have ey:H y=some (.tup [.str "shift",.int r,.int b,.int o]):=hy;refine ⟨_,rfl,y,_,_,_,rfl,rfl,SqT.of ey,rfl,rfl,_,rfl,zH ?_⟩;refine ⟨_,rfl,y,_,_,_,rfl,rfl,SqT.of ey,rfl,rfl,_,rfl,zH ?_⟩;refine ⟨_,rfl,y,_,_,_,rfl,rfl,SqT.of ey,rfl,rfl,_,rfl,zH ?_⟩;refine ⟨_,rfl,y,_,_,_,rfl,rfl,SqT.of ey,rfl,rfl,_,rfl,zH ?_⟩;refine ⟨_,rfl,_,_,.ref c.shi,_,true,rfl,rfl,(λu r=>r),L.L.shi.ty ex,L.shi,true,rfl,zH ?_⟩;refine ⟨_,rfl,x,c.shi,dx,_,_,rfl,ex,L.L.shi.cl,L.sR,rfl,_,rfl,y,_,_,_,rfl,rfl,SqT.of ey,rfl,r,rfl,true,rfl,zH ?_⟩;refine ⟨_,rfl,x,c.shi,dx,_,_,rfl,ex,L.L.shi.cl,L.sB,rfl,_,rfl,y,_,_,_,rfl,rfl,SqT.of ey,rfl,b,rfl,true,rfl,zP ?_⟩;exact ⟨_,rfl,x,c.shi,dx,_,_,rfl,ex,L.L.shi.cl,L.sO,rfl,_,rfl,y,_,_,_,rfl,rfl,SqT.of ey,rfl,o,rfl,q⟩
 | at' r p=>cases hl
 | pair s l r=>cases hl
 | cho t l r=>cases hl
 | call a gs=>cases hl
def xJ (G:F2.Fm):1<=F2.nodes G:=by rw [F2.nodes_eq];omega
theorem zbp {c:F2.Cs} {H:Hp}:∀ {gs:F2.Fms} {ys ds:Jh} {i:Nat},F2.FormsAt c H gs ys->DuesAt H gs ds->i<ys.length->∃ g y d,ys[i]?=some y/\ds[i]?=some d/\F2.FormAt c H g y/\DueAt H g d/\F2.nodes g<=F2.nodesL gs
 | .nil,ys,ds,i,h,_,hi=>by cases (show ys=[] from h);exact absurd hi (Nat.not_lt_zero _)
 | .cons f r,ys,ds,i,h,k,hi=>by
  obtain ⟨y,t,rfl,a,b⟩:=h;obtain ⟨d,u,rfl,a',b'⟩:=k;have en:F2.nodesL (.cons f r)=F2.nodes f+F2.nodesL r:=by rw [F2.nodesL_eq,F2.nodesL_eq];rfl
  match i,hi with
  | 0,_=>exact ⟨f,y,d,rfl,rfl,a,a',by omega⟩
  | i+1,hi =>
   obtain ⟨g,y',d',e1,e2,e3,e4,e5⟩:=zbp (i:=i) b b' (Nat.lt_of_succ_lt_succ hi);exact ⟨g,y',d',e1,e2,e3,e4,by omega⟩
theorem zd1 {H:Hp}:∀ {gs:F2.Fms} {ds:Jh},DuesAt H gs ds->ds.length=gs.len
 | .nil,ds,h=>by cases (show ds=[] from h);rfl
 | .cons f r,ds,h=>by
  obtain ⟨d,u,rfl,_,b⟩:=h;show u.length+1=r.len+1;rw [zd1 b]
inductive spLi (c:F2.Cs) (n:Nat) (vs:Jo) (H:Hp) (Q:VK) (_:XK):Prop
 | mk (x y:Ad) (G:F2.Fm) (_:vs=[.ref x,.ref y]) (_:F2.FormAt c H G x) (_:DueAt H G y) (_:F2.nodes G<=n) (_:Q (.bl true) H)
def zen {c:F2.Cs} {CF:Ad} {n k:Nat} (hk:3<=k) (hn:n<=100) (d:zB K mg "_law_like" Zu ["_law_form","_law_due"]) (hisi:mg "isinstance"=none) (hlist:mg "list"=none) (hstr:mg "str"=none) (hlen:mg "len"=none) (hrg:mg "range"=none) (kl:PySem.W.kitOne K (.type "list") (.type "list")=some true) (ks:PySem.W.kitOne K (.type "str") (.type "str")=some true) (G:LikeG mg c CF) (L:LikeK K c CF) (IS:Ok P w K mg base (CXe P w base) 2 "_law_is" ["_law_found","_law_due"] spIs) (LL:Ok P w K mg base (CXe P w base) 3 "_law_like_leaf" ["_law_form","_law_due"] (spLL c)) (LI:Ok P w K mg base CX0 k "_law_like" ["_law_form","_law_due"] (spLi c n)):Ok P w K mg base CX0 (k+1) "_law_like" ["_law_form","_law_due"] (spLi c (n+1)):=by
 obtain ⟨f,fd,m,F,bd⟩:=d;refine ⟨f,fd,m,F.kp,bd,F.ok sc_l_like (by rintro vs H Q E ⟨_,_,_,e,_⟩;rw [e];rfl) λcdv A outer s H vs Q E hr h=>?_⟩;obtain ⟨x,y,X,rfl,hx,hy,hl,q⟩:=h;have hrk:Room k _:=hr;have hr3:Room 3 _:=hr.mono hk;have hr2:Room 2 _:=hr.mono (by omega);have nd:=sc_l_like.nd
 have leaf:∀ (C:Ad) (dx:Ad) (fl:List (Str×V)) (b1 b2 b3 b4:Bool) (t:Str) (vs:Jo),isLeaf X=true->KForm K c C b1 b2 b3 b4->PySem.W.kitOne K (.ref C) (.ref CF)=some true->H x=some (.ins C dx fl)->H y=some (.tup (.str t::vs))->t≠"at"->t≠"pair"->t≠"choice"->t≠"call"->∃ tt,PSs (ZR CX0 P w K mg base ["_law_form","_law_due","_law_k"] "_law_like" (zg Zu) f cdv A outer s H E).nox (yu Zu) tt/\tt { nx:=λ_ H'=>Q .non H',rt:=Q } (start ["_law_form","_law_due","_law_k"] [.ref x,.ref y]) H:=λC dx fl b1 b2 b3 b4 t vs lf kf kC ex ey n1 n2 n3 n4=>by
  refine ⟨_,(zb (zC (zL (zG (zf zp (by rfl) hisi PyProof.Rows.boot_isinstance (za (pv 0) (za (zM G.fo) zc))))) (ze (zi zW)) zh)
   (zb (zC (zm zU (zn zy (pv 1) zd (λ_ _=>rfl)) zk (zu _)) (ze (zi (yb (zf zp (by rfl) hisi PyProof.Rows.boot_isinstance (za (pv 0) (za (zM G.at_) zc))) (yb (zx IS hr2 (by rfl) z9 (za (zo (pv 0) rfl) (za (zn zy (pv 1) zd (λ_ _=>rfl)) zc))) (yt (zx LI hrk (by rfl) zE (za (zo (pv 0) rfl) (za (zn zy (pv 1) zd (λ_ _=>rfl)) zc)))))))) zh)
   (zb (zC (zm zU (zn zy (pv 1) zd (λ_ _=>rfl)) zk (zu _)) (zb (zC (z8 (zL (zG (zf zp (by rfl) hisi PyProof.Rows.boot_isinstance (za (pv 0) (za (zM G.pa) zc))))) (z8 (zL (zG (zf zp (by rfl) hisi PyProof.Rows.boot_isinstance (za (zo (pv 0) rfl) (za (yY hstr PyProof.Rows.boot_str) zc))))) (zT (zm yQ (zo (pv 0) rfl) (zn zy (pv 1) zd (λ_ _=>rfl)) (zu _))))).pt (ze (zi zW)) zh)
   (ze (zi (yb (zx LI hrk (by rfl) zE (za (zo (pv 0) rfl) (za (zn zy (pv 1) zd (λ_ _=>rfl)) zc))) (yt (zx LI hrk (by rfl) zE (za (zo (pv 0) rfl) (za (zn zy (pv 1) zd (λ_ _=>rfl)) zc)))))))) zh)
   (zb (zC (zm zU (zn zy (pv 1) zd (λ_ _=>rfl)) zk (zu _)) (zb (zC (z8 (zL (zG (zf zp (by rfl) hisi PyProof.Rows.boot_isinstance (za (pv 0) (za (zM G.co) zc))))) (zT (zL (zG (zx LI hrk (by rfl) zE (za (zo (pv 0) rfl) (za (zn zy (pv 1) zd (λ_ _=>rfl)) zc))))))).pt (ze (zi zW)) zh)
   (ze (zi (yb (zx LI hrk (by rfl) zE (za (zo (pv 0) rfl) (za (zn zy (pv 1) zd (λ_ _=>rfl)) zc))) (yt (zx LI hrk (by rfl) zE (za (zo (pv 0) rfl) (za (zn zy (pv 1) zd (λ_ _=>rfl)) zc)))))))) zh)
   (zb (zC (zm yQ (zn zy (pv 1) zd (λ_ _=>rfl)) zk (zu _)) (ze (zi (zx LL hr3 (by rfl) z9 (za (pv 0) (za (pv 1) zc))))) zh)
   (zb (zC (z8 (zL (zG (zf zp (by rfl) hisi PyProof.Rows.boot_isinstance (za (pv 0) (za (zM G.ca) zc))))) (zT (zL (zG (zx IS hr2 (by rfl) z9 (za (zo (pv 0) rfl) (za (zn zy (pv 1) zd (λ_ _=>rfl)) zc))))))).pt (ze (zi zW)) zh)
   (zb (zC (z8 (zL (zG (zf zp (by rfl) hisi PyProof.Rows.boot_isinstance (za (zo (pv 0) rfl) (za (yY hlist PyProof.Rows.boot_list) zc))))) (zT (zm yQ (zf zj (by rfl) hlen PySem.boot_len (za (zo (pv 0) rfl) zc)) (zf zj (by rfl) hlen PySem.boot_len (za (zn zy (pv 1) zd (λ_ _=>rfl)) zc)) (zu _)))).pt (ze (zi zW)) zh)
   (zb (xh PassesOwn.never rfl (yM rfl hrg (za (zf zj (by rfl) hlen PySem.boot_len (za (zn zy (pv 1) zd (λ_ _=>rfl)) zc)) zc)) (ya (i:=2) nd rfl (Or.inl rfl)) (ze (zC (zL (zG (zx LI hrk (by rfl) zE (za (zn zK (zo (pv 0) rfl) (pv 2) (λ_ _=>rfl)) (za (zn zK (zn zy (pv 1) zd (λ_ _=>rfl)) (pv 2) (λ_ _=>rfl)) zc))))) (ze (zi zW)) zh)))
   (ze (zi zW)))))))))),?_⟩
  refine ⟨_,rfl,_,_,.ref CF,_,true,rfl,rfl,(λu r=>r),kf.ty ex,kC,true,rfl,zH ?_⟩;refine ⟨_,rfl,y,_,_,_,rfl,rfl,SqT.of ey,zQ (xs:=V.str t::vs) (j:=0) rfl,rfl,_,rfl,?_⟩;rw [decide_eq_false (λz=>n1 (V.str.inj z))];refine zH ⟨_,rfl,y,_,_,_,rfl,rfl,SqT.of ey,zQ (xs:=V.str t::vs) (j:=0) rfl,rfl,_,rfl,?_⟩;rw [decide_eq_false (λz=>n2 (V.str.inj z))];refine zH ⟨_,rfl,y,_,_,_,rfl,rfl,SqT.of ey,zQ (xs:=V.str t::vs) (j:=0) rfl,rfl,_,rfl,?_⟩;rw [decide_eq_false (λz=>n3 (V.str.inj z))];refine zH ⟨_,rfl,y,_,_,_,rfl,rfl,SqT.of ey,zQ (xs:=V.str t::vs) (j:=0) rfl,rfl,_,rfl,?_⟩;rw [decide_eq_false (λz=>n4 (V.str.inj z))];exact zP ⟨_,rfl,_,rfl,x,y,X,rfl,hx,hy,lf,q⟩
 cases X with
 | num n=>obtain ⟨dx,ex⟩:=hx;exact leaf _ _ _ _ _ _ _ _ _ rfl L.L.num L.fn ex hy (by decide) (by decide) (by decide) (by decide)
 | here=>obtain ⟨dx,ex⟩:=hx;exact leaf _ _ _ _ _ _ _ _ _ rfl L.L.here L.fh ex hy (by decide) (by decide) (by decide) (by decide)
 | cell r=>obtain ⟨dx,ex⟩:=hx;exact leaf _ _ _ _ _ _ _ _ _ rfl L.L.cell L.fc ex hy (by decide) (by decide) (by decide) (by decide)
 | loc r=>obtain ⟨dx,ex⟩:=hx;exact leaf _ _ _ _ _ _ _ _ _ rfl L.L.loc L.fl ex hy (by decide) (by decide) (by decide) (by decide)
 | shi r b o=>obtain ⟨dx,ex⟩:=hx;exact leaf _ _ _ _ _ _ _ _ _ rfl L.L.shi L.fs ex hy (by decide) (by decide) (by decide) (by decide)
 | at' r p =>
  clear leaf;obtain ⟨dx,y1,ex,hp⟩:=hx;obtain ⟨d1,ey,hd⟩:=hy;have en:F2.nodes (.at' r p)=F2.nodes p+1:=by rw [F2.nodes_eq];show (F2.nodes p+0)+1=_;omega
  refine ⟨_,(zb (zC (zL (zG (zf zp (by rfl) hisi PyProof.Rows.boot_isinstance (za (pv 0) (za (zM G.fo) zc))))) (ze (zi zW)) zh)
   (zb (zC (zm zU (zn zy (pv 1) zd (λ_ _=>rfl)) zk (zu _)) (ze (zi (yb (zf zp (by rfl) hisi PyProof.Rows.boot_isinstance (za (pv 0) (za (zM G.at_) zc))) (yb (zx IS hr2 (by rfl) z9 (za (zo (pv 0) rfl) (za (zn zy (pv 1) zd (λ_ _=>rfl)) zc))) (yt (zx LI hrk (by rfl) zE (za (zo (pv 0) rfl) (za (zn zy (pv 1) zd (λ_ _=>rfl)) zc)))))))) zh)
   (zb (zC (zm zU (zn zy (pv 1) zd (λ_ _=>rfl)) zk (zu _)) (zb (zC (z8 (zL (zG (zf zp (by rfl) hisi PyProof.Rows.boot_isinstance (za (pv 0) (za (zM G.pa) zc))))) (z8 (zL (zG (zf zp (by rfl) hisi PyProof.Rows.boot_isinstance (za (zo (pv 0) rfl) (za (yY hstr PyProof.Rows.boot_str) zc))))) (zT (zm yQ (zo (pv 0) rfl) (zn zy (pv 1) zd (λ_ _=>rfl)) (zu _))))).pt (ze (zi zW)) zh)
   (ze (zi (yb (zx LI hrk (by rfl) zE (za (zo (pv 0) rfl) (za (zn zy (pv 1) zd (λ_ _=>rfl)) zc))) (yt (zx LI hrk (by rfl) zE (za (zo (pv 0) rfl) (za (zn zy (pv 1) zd (λ_ _=>rfl)) zc)))))))) zh)
   (zb (zC (zm zU (zn zy (pv 1) zd (λ_ _=>rfl)) zk (zu _)) (zb (zC (z8 (zL (zG (zf zp (by rfl) hisi PyProof.Rows.boot_isinstance (za (pv 0) (za (zM G.co) zc))))) (zT (zL (zG (zx LI hrk (by rfl) zE (za (zo (pv 0) rfl) (za (zn zy (pv 1) zd (λ_ _=>rfl)) zc))))))).pt (ze (zi zW)) zh)
   (ze (zi (yb (zx LI hrk (by rfl) zE (za (zo (pv 0) rfl) (za (zn zy (pv 1) zd (λ_ _=>rfl)) zc))) (yt (zx LI hrk (by rfl) zE (za (zo (pv 0) rfl) (za (zn zy (pv 1) zd (λ_ _=>rfl)) zc)))))))) zh)
   (zb (zC (zm yQ (zn zy (pv 1) zd (λ_ _=>rfl)) zk (zu _)) (ze (zi (zx LL hr3 (by rfl) z9 (za (pv 0) (za (pv 1) zc))))) zh)
   (zb (zC (z8 (zL (zG (zf zp (by rfl) hisi PyProof.Rows.boot_isinstance (za (pv 0) (za (zM G.ca) zc))))) (zT (zL (zG (zx IS hr2 (by rfl) z9 (za (zo (pv 0) rfl) (za (zn zy (pv 1) zd (λ_ _=>rfl)) zc))))))).pt (ze (zi zW)) zh)
   (zb (zC (z8 (zL (zG (zf zp (by rfl) hisi PyProof.Rows.boot_isinstance (za (zo (pv 0) rfl) (za (yY hlist PyProof.Rows.boot_list) zc))))) (zT (zm yQ (zf zj (by rfl) hlen PySem.boot_len (za (zo (pv 0) rfl) zc)) (zf zj (by rfl) hlen PySem.boot_len (za (zn zy (pv 1) zd (λ_ _=>rfl)) zc)) (zu _)))).pt (ze (zi zW)) zh)
   (zb (xh PassesOwn.never rfl (yM rfl hrg (za (zf zj (by rfl) hlen PySem.boot_len (za (zn zy (pv 1) zd (λ_ _=>rfl)) zc)) zc)) (ya (i:=2) nd rfl (Or.inl rfl)) (ze (zC (zL (zG (zx LI hrk (by rfl) zE (za (zn zK (zo (pv 0) rfl) (pv 2) (λ_ _=>rfl)) (za (zn zK (zn zy (pv 1) zd (λ_ _=>rfl)) (pv 2) (λ_ _=>rfl)) zc))))) (ze (zi zW)) zh)))
   (ze (zi zW)))))))))),?_⟩
  refine ⟨_,rfl,_,_,.ref CF,_,true,rfl,rfl,(λu r=>r),L.L.at'.ty ex,L.fa,true,rfl,zH ?_⟩;refine ⟨_,rfl,y,_,_,_,rfl,rfl,SqT.of ey,rfl,rfl,_,rfl,zP ?_⟩;refine ⟨_,rfl,_,_,.ref c.at',_,true,rfl,rfl,(λu r=>r),L.L.at'.ty ex,L.L.at'.a,true,rfl,zP ?_⟩;refine ⟨_,rfl,x,c.at',dx,_,_,rfl,ex,L.L.at'.cl,L.aR,rfl,_,rfl,y,_,_,_,rfl,rfl,SqT.of ey,rfl,r,rfl,true,rfl,zP ?_⟩;exact ⟨_,rfl,x,c.at',dx,_,_,rfl,ex,L.L.at'.cl,L.L.aP,rfl,_,rfl,y,_,_,_,rfl,rfl,SqT.of ey,rfl,y1,d1,p,rfl,hp,hd,by omega,q⟩
 | pair sg l r =>
  clear leaf;obtain ⟨dx,y1,y2,ex,hp1,hp2⟩:=hx;obtain ⟨d1,d2,ey,hd1,hd2⟩:=hy;have en:F2.nodes (.pair sg l r)=F2.nodes l+F2.nodes r+1:=by rw [F2.nodes_eq];show (F2.nodes l+(F2.nodes r+0))+1=_;omega
  have p1:=xJ l;have p2:=xJ r;refine ⟨_,(zb (zC (zL (zG (zf zp (by rfl) hisi PyProof.Rows.boot_isinstance (za (pv 0) (za (zM G.fo) zc))))) (ze (zi zW)) zh)
   (zb (zC (zm zU (zn zy (pv 1) zd (λ_ _=>rfl)) zk (zu _)) (ze (zi (yb (zf zp (by rfl) hisi PyProof.Rows.boot_isinstance (za (pv 0) (za (zM G.at_) zc))) (yb (zx IS hr2 (by rfl) z9 (za (zo (pv 0) rfl) (za (zn zy (pv 1) zd (λ_ _=>rfl)) zc))) (yt (zx LI hrk (by rfl) zE (za (zo (pv 0) rfl) (za (zn zy (pv 1) zd (λ_ _=>rfl)) zc)))))))) zh)
   (zb (zC (zm zU (zn zy (pv 1) zd (λ_ _=>rfl)) zk (zu _)) (zb (zC (z8 (zL (zG (zf zp (by rfl) hisi PyProof.Rows.boot_isinstance (za (pv 0) (za (zM G.pa) zc))))) (z8 (zL (zG (zf zp (by rfl) hisi PyProof.Rows.boot_isinstance (za (zo (pv 0) rfl) (za (yY hstr PyProof.Rows.boot_str) zc))))) (zT (zm yQ (zo (pv 0) rfl) (zn zy (pv 1) zd (λ_ _=>rfl)) (zu _))))).pt (ze (zi zW)) zh)
   (ze (zi (yb (zx LI hrk (by rfl) zE (za (zo (pv 0) rfl) (za (zn zy (pv 1) zd (λ_ _=>rfl)) zc))) (yt (zx LI hrk (by rfl) zE (za (zo (pv 0) rfl) (za (zn zy (pv 1) zd (λ_ _=>rfl)) zc)))))))) zh)
   (zb (zC (zm zU (zn zy (pv 1) zd (λ_ _=>rfl)) zk (zu _)) (zb (zC (z8 (zL (zG (zf zp (by rfl) hisi PyProof.Rows.boot_isinstance (za (pv 0) (za (zM G.co) zc))))) (zT (zL (zG (zx LI hrk (by rfl) zE (za (zo (pv 0) rfl) (za (zn zy (pv 1) zd (λ_ _=>rfl)) zc))))))).pt (ze (zi zW)) zh)
   (ze (zi (yb (zx LI hrk (by rfl) zE (za (zo (pv 0) rfl) (za (zn zy (pv 1) zd (λ_ _=>rfl)) zc))) (yt (zx LI hrk (by rfl) zE (za (zo (pv 0) rfl) (za (zn zy (pv 1) zd (λ_ _=>rfl)) zc)))))))) zh)
   (zb (zC (zm yQ (zn zy (pv 1) zd (λ_ _=>rfl)) zk (zu _)) (ze (zi (zx LL hr3 (by rfl) z9 (za (pv 0) (za (pv 1) zc))))) zh)
   (zb (zC (z8 (zL (zG (zf zp (by rfl) hisi PyProof.Rows.boot_isinstance (za (pv 0) (za (zM G.ca) zc))))) (zT (zL (zG (zx IS hr2 (by rfl) z9 (za (zo (pv 0) rfl) (za (zn zy (pv 1) zd (λ_ _=>rfl)) zc))))))).pt (ze (zi zW)) zh)
   (zb (zC (z8 (zL (zG (zf zp (by rfl) hisi PyProof.Rows.boot_isinstance (za (zo (pv 0) rfl) (za (yY hlist PyProof.Rows.boot_list) zc))))) (zT (zm yQ (zf zj (by rfl) hlen PySem.boot_len (za (zo (pv 0) rfl) zc)) (zf zj (by rfl) hlen PySem.boot_len (za (zn zy (pv 1) zd (λ_ _=>rfl)) zc)) (zu _)))).pt (ze (zi zW)) zh)
   (zb (xh PassesOwn.never rfl (yM rfl hrg (za (zf zj (by rfl) hlen PySem.boot_len (za (zn zy (pv 1) zd (λ_ _=>rfl)) zc)) zc)) (ya (i:=2) nd rfl (Or.inl rfl)) (ze (zC (zL (zG (zx LI hrk (by rfl) zE (za (zn zK (zo (pv 0) rfl) (pv 2) (λ_ _=>rfl)) (za (zn zK (zn zy (pv 1) zd (λ_ _=>rfl)) (pv 2) (λ_ _=>rfl)) zc))))) (ze (zi zW)) zh)))
   (ze (zi zW)))))))))),?_⟩
  refine ⟨_,rfl,_,_,.ref CF,_,true,rfl,rfl,(λu r=>r),L.L.pair.ty ex,L.fp,true,rfl,zH ?_⟩;refine ⟨_,rfl,y,_,_,_,rfl,rfl,SqT.of ey,rfl,rfl,_,rfl,zH ?_⟩;refine ⟨_,rfl,y,_,_,_,rfl,rfl,SqT.of ey,rfl,rfl,_,rfl,zP ?_⟩;refine ⟨_,rfl,_,_,.ref c.pair,_,true,rfl,rfl,(λu r=>r),L.L.pair.ty ex,L.L.pair.p,true,rfl,zH ?_⟩;refine ⟨_,rfl,x,c.pair,dx,_,_,rfl,ex,L.L.pair.cl,L.pS,rfl,_,_,.type "str",.type "str",true,rfl,rfl,(λu r=>r),.inl (.str _),ks,true,rfl,zH ?_⟩;refine ⟨_,rfl,x,c.pair,dx,_,_,rfl,ex,L.L.pair.cl,L.pS,rfl,_,rfl,y,_,_,_,rfl,rfl,SqT.of ey,rfl,rfl,_,rfl,?_⟩;rw [decide_eq_true rfl];refine zH ⟨_,rfl,x,c.pair,dx,_,_,rfl,ex,L.L.pair.cl,L.L.pL,rfl,_,rfl,y,_,_,_,rfl,rfl,SqT.of ey,rfl,y1,d1,l,rfl,hp1,hd1,by omega,true,rfl,zP ?_⟩;exact ⟨_,rfl,x,c.pair,dx,_,_,rfl,ex,L.L.pair.cl,L.L.pR,rfl,_,rfl,y,_,_,_,rfl,rfl,SqT.of ey,rfl,y2,d2,r,rfl,hp2,hd2,by omega,q⟩
 | cho t l r =>
  clear leaf;obtain ⟨dx,y0,y1,y2,ex,hp0,hp1,hp2⟩:=hx;obtain ⟨d0,d1,d2,ey,hd0,hd1,hd2⟩:=hy;have en:F2.nodes (.cho t l r)=F2.nodes t+F2.nodes l+F2.nodes r+1:=by rw [F2.nodes_eq];show (F2.nodes t+(F2.nodes l+(F2.nodes r+0)))+1=_;omega
  have p0:=xJ t;have p1:=xJ l;have p2:=xJ r;refine ⟨_,(zb (zC (zL (zG (zf zp (by rfl) hisi PyProof.Rows.boot_isinstance (za (pv 0) (za (zM G.fo) zc))))) (ze (zi zW)) zh)
   (zb (zC (zm zU (zn zy (pv 1) zd (λ_ _=>rfl)) zk (zu _)) (ze (zi (yb (zf zp (by rfl) hisi PyProof.Rows.boot_isinstance (za (pv 0) (za (zM G.at_) zc))) (yb (zx IS hr2 (by rfl) z9 (za (zo (pv 0) rfl) (za (zn zy (pv 1) zd (λ_ _=>rfl)) zc))) (yt (zx LI hrk (by rfl) zE (za (zo (pv 0) rfl) (za (zn zy (pv 1) zd (λ_ _=>rfl)) zc)))))))) zh)
   (zb (zC (zm zU (zn zy (pv 1) zd (λ_ _=>rfl)) zk (zu _)) (zb (zC (z8 (zL (zG (zf zp (by rfl) hisi PyProof.Rows.boot_isinstance (za (pv 0) (za (zM G.pa) zc))))) (z8 (zL (zG (zf zp (by rfl) hisi PyProof.Rows.boot_isinstance (za (zo (pv 0) rfl) (za (yY hstr PyProof.Rows.boot_str) zc))))) (zT (zm yQ (zo (pv 0) rfl) (zn zy (pv 1) zd (λ_ _=>rfl)) (zu _))))).pt (ze (zi zW)) zh)
   (ze (zi (yb (zx LI hrk (by rfl) zE (za (zo (pv 0) rfl) (za (zn zy (pv 1) zd (λ_ _=>rfl)) zc))) (yt (zx LI hrk (by rfl) zE (za (zo (pv 0) rfl) (za (zn zy (pv 1) zd (λ_ _=>rfl)) zc)))))))) zh)
   (zb (zC (zm zU (zn zy (pv 1) zd (λ_ _=>rfl)) zk (zu _)) (zb (zC (z8 (zL (zG (zf zp (by rfl) hisi PyProof.Rows.boot_isinstance (za (pv 0) (za (zM G.co) zc))))) (zT (zL (zG (zx LI hrk (by rfl) zE (za (zo (pv 0) rfl) (za (zn zy (pv 1) zd (λ_ _=>rfl)) zc))))))).pt (ze (zi zW)) zh)
   (ze (zi (yb (zx LI hrk (by rfl) zE (za (zo (pv 0) rfl) (za (zn zy (pv 1) zd (λ_ _=>rfl)) zc))) (yt (zx LI hrk (by rfl) zE (za (zo (pv 0) rfl) (za (zn zy (pv 1) zd (λ_ _=>rfl)) zc)))))))) zh)
   (zb (zC (zm yQ (zn zy (pv 1) zd (λ_ _=>rfl)) zk (zu _)) (ze (zi (zx LL hr3 (by rfl) z9 (za (pv 0) (za (pv 1) zc))))) zh)
   (zb (zC (z8 (zL (zG (zf zp (by rfl) hisi PyProof.Rows.boot_isinstance (za (pv 0) (za (zM G.ca) zc))))) (zT (zL (zG (zx IS hr2 (by rfl) z9 (za (zo (pv 0) rfl) (za (zn zy (pv 1) zd (λ_ _=>rfl)) zc))))))).pt (ze (zi zW)) zh)
   (zb (zC (z8 (zL (zG (zf zp (by rfl) hisi PyProof.Rows.boot_isinstance (za (zo (pv 0) rfl) (za (yY hlist PyProof.Rows.boot_list) zc))))) (zT (zm yQ (zf zj (by rfl) hlen PySem.boot_len (za (zo (pv 0) rfl) zc)) (zf zj (by rfl) hlen PySem.boot_len (za (zn zy (pv 1) zd (λ_ _=>rfl)) zc)) (zu _)))).pt (ze (zi zW)) zh)
   (zb (xh PassesOwn.never rfl (yM rfl hrg (za (zf zj (by rfl) hlen PySem.boot_len (za (zn zy (pv 1) zd (λ_ _=>rfl)) zc)) zc)) (ya (i:=2) nd rfl (Or.inl rfl)) (ze (zC (zL (zG (zx LI hrk (by rfl) zE (za (zn zK (zo (pv 0) rfl) (pv 2) (λ_ _=>rfl)) (za (zn zK (zn zy (pv 1) zd (λ_ _=>rfl)) (pv 2) (λ_ _=>rfl)) zc))))) (ze (zi zW)) zh)))
   (ze (zi zW)))))))))),?_⟩
  refine ⟨_,rfl,_,_,.ref CF,_,true,rfl,rfl,(λu r=>r),L.L.cho.ty ex,L.fo,true,rfl,zH ?_⟩;refine ⟨_,rfl,y,_,_,_,rfl,rfl,SqT.of ey,rfl,rfl,_,rfl,zH ?_⟩;refine ⟨_,rfl,y,_,_,_,rfl,rfl,SqT.of ey,rfl,rfl,_,rfl,zH ?_⟩;refine ⟨_,rfl,y,_,_,_,rfl,rfl,SqT.of ey,rfl,rfl,_,rfl,zP ?_⟩;refine ⟨_,rfl,_,_,.ref c.cho,_,true,rfl,rfl,(λu r=>r),L.L.cho.ty ex,L.L.cho.o,true,rfl,zH ?_⟩;refine ⟨_,rfl,x,c.cho,dx,_,_,rfl,ex,L.L.cho.cl,L.L.oT,rfl,_,rfl,y,_,_,_,rfl,rfl,SqT.of ey,rfl,y0,d0,t,rfl,hp0,hd0,by omega,true,rfl,zH ?_⟩;refine ⟨_,rfl,x,c.cho,dx,_,_,rfl,ex,L.L.cho.cl,L.L.oL,rfl,_,rfl,y,_,_,_,rfl,rfl,SqT.of ey,rfl,y1,d1,l,rfl,hp1,hd1,by omega,true,rfl,zP ?_⟩;exact ⟨_,rfl,x,c.cho,dx,_,_,rfl,ex,L.L.cho.cl,L.L.oR,rfl,_,rfl,y,_,_,_,rfl,rfl,SqT.of ey,rfl,y2,d2,r,rfl,hp2,hd2,by omega,q⟩
 | call a gs =>
  clear leaf;obtain ⟨dx,la,ys,ex,el,hp⟩:=hx;obtain ⟨ld,ds,ey,ed,hd⟩:=hy;have en:F2.nodes (.call a gs)=F2.nodesL gs+1:=by rw [F2.nodes_eq,F2.nodesL_eq];rfl
  have yl:=F2.FormsAt.len hp;have dl:=zd1 hd;have ly:(ys.map V.ref).length=ys.length:=List.length_map ..;have ldd:(ds.map V.ref).length=ys.length:=by rw [Jj];omega
  have gl:∀ gs:F2.Fms,gs.len<=F2.nodesL gs:=λgs=>by
   have:∀ l:List F2.Fm,l.length<=(l.map F2.nodes).sum:=λl=>by
    induction l with
    | nil=>exact Nat.le_refl _
    | cons f l ih=>rw [List.map_cons,List.sum_cons,q3x];have:=xJ f;omega
   have e:∀ gs:F2.Fms,gs.len=gs.toL.length:=λgs=>by
    have key:∀ (n:Nat) (gs:F2.Fms),gs.len<=n->gs.len=gs.toL.length:=λn=>by
     induction n with
     | zero=>intro gs h;cases gs with
      | nil=>rfl
      | cons f r=>exact absurd h (Nat.not_succ_le_zero _)
     | succ n ih=>intro gs h;cases gs with
      | nil=>rfl
      | cons f r=>exact congrArg (·+1) (ih r (Nat.le_of_succ_le_succ h))
    exact key _ gs (Nat.le_refl _)
   rw [e gs,F2.nodesL_eq];exact this _
  have g1:=gl gs;refine ⟨_,(zb (zC (zL (zG (zf zp (by rfl) hisi PyProof.Rows.boot_isinstance (za (pv 0) (za (zM G.fo) zc))))) (ze (zi zW)) zh)
   (zb (zC (zm zU (zn zy (pv 1) zd (λ_ _=>rfl)) zk (zu _)) (ze (zi (yb (zf zp (by rfl) hisi PyProof.Rows.boot_isinstance (za (pv 0) (za (zM G.at_) zc))) (yb (zx IS hr2 (by rfl) z9 (za (zo (pv 0) rfl) (za (zn zy (pv 1) zd (λ_ _=>rfl)) zc))) (yt (zx LI hrk (by rfl) zE (za (zo (pv 0) rfl) (za (zn zy (pv 1) zd (λ_ _=>rfl)) zc)))))))) zh)
   (zb (zC (zm zU (zn zy (pv 1) zd (λ_ _=>rfl)) zk (zu _)) (zb (zC (z8 (zL (zG (zf zp (by rfl) hisi PyProof.Rows.boot_isinstance (za (pv 0) (za (zM G.pa) zc))))) (z8 (zL (zG (zf zp (by rfl) hisi PyProof.Rows.boot_isinstance (za (zo (pv 0) rfl) (za (yY hstr PyProof.Rows.boot_str) zc))))) (zT (zm yQ (zo (pv 0) rfl) (zn zy (pv 1) zd (λ_ _=>rfl)) (zu _))))).pt (ze (zi zW)) zh)
   (ze (zi (yb (zx LI hrk (by rfl) zE (za (zo (pv 0) rfl) (za (zn zy (pv 1) zd (λ_ _=>rfl)) zc))) (yt (zx LI hrk (by rfl) zE (za (zo (pv 0) rfl) (za (zn zy (pv 1) zd (λ_ _=>rfl)) zc)))))))) zh)
   (zb (zC (zm zU (zn zy (pv 1) zd (λ_ _=>rfl)) zk (zu _)) (zb (zC (z8 (zL (zG (zf zp (by rfl) hisi PyProof.Rows.boot_isinstance (za (pv 0) (za (zM G.co) zc))))) (zT (zL (zG (zx LI hrk (by rfl) zE (za (zo (pv 0) rfl) (za (zn zy (pv 1) zd (λ_ _=>rfl)) zc))))))).pt (ze (zi zW)) zh)
   (ze (zi (yb (zx LI hrk (by rfl) zE (za (zo (pv 0) rfl) (za (zn zy (pv 1) zd (λ_ _=>rfl)) zc))) (yt (zx LI hrk (by rfl) zE (za (zo (pv 0) rfl) (za (zn zy (pv 1) zd (λ_ _=>rfl)) zc)))))))) zh)
   (zb (zC (zm yQ (zn zy (pv 1) zd (λ_ _=>rfl)) zk (zu _)) (ze (zi (zx LL hr3 (by rfl) z9 (za (pv 0) (za (pv 1) zc))))) zh)
   (zb (zC (z8 (zL (zG (zf zp (by rfl) hisi PyProof.Rows.boot_isinstance (za (pv 0) (za (zM G.ca) zc))))) (zT (zL (zG (zx IS hr2 (by rfl) z9 (za (zo (pv 0) rfl) (za (zn zy (pv 1) zd (λ_ _=>rfl)) zc))))))).pt (ze (zi zW)) zh)
   (zb (zC (z8 (zL (zG (zf zp (by rfl) hisi PyProof.Rows.boot_isinstance (za (zo (pv 0) rfl) (za (yY hlist PyProof.Rows.boot_list) zc))))) (zT (zm yQ (zf zj (by rfl) hlen PySem.boot_len (za (zo (pv 0) rfl) zc)) (zf zj (by rfl) hlen PySem.boot_len (za (zn zy (pv 1) zd (λ_ _=>rfl)) zc)) (zu _)))).pt (ze (zi zW)) zh)
   (zb (xh PassesOwn.never rfl (yM rfl hrg (za (zf zj (by rfl) hlen PySem.boot_len (za (zn zy (pv 1) zd (λ_ _=>rfl)) zc)) zc)) (ya (i:=2) nd rfl (Or.inl rfl)) (ze (zC (zL (zG (zx LI hrk (by rfl) zE (za (zn zK (zo (pv 0) rfl) (pv 2) (λ_ _=>rfl)) (za (zn zK (zn zy (pv 1) zd (λ_ _=>rfl)) (pv 2) (λ_ _=>rfl)) zc))))) (ze (zi zW)) zh)))
   (ze (zi zW)))))))))),?_⟩
  refine ⟨_,rfl,_,_,.ref CF,_,true,rfl,rfl,(λu r=>r),L.L.call.ty ex,L.fk,true,rfl,zH ?_⟩;refine ⟨_,rfl,y,_,_,_,rfl,rfl,SqT.of ey,rfl,rfl,_,rfl,zH ?_⟩;refine ⟨_,rfl,y,_,_,_,rfl,rfl,SqT.of ey,rfl,rfl,_,rfl,zH ?_⟩;refine ⟨_,rfl,y,_,_,_,rfl,rfl,SqT.of ey,rfl,rfl,_,rfl,zH ?_⟩;refine ⟨_,rfl,y,_,_,_,rfl,rfl,SqT.of ey,rfl,rfl,_,rfl,zH ?_⟩;refine ⟨_,rfl,_,_,.ref c.call,_,true,rfl,rfl,(λu r=>r),L.L.call.ty ex,L.L.call.k,true,rfl,zH ?_⟩;refine ⟨_,rfl,x,c.call,dx,_,_,rfl,ex,L.L.call.cl,L.L.kA,rfl,_,rfl,y,_,_,_,rfl,rfl,SqT.of ey,rfl,a,rfl,true,rfl,zH ?_⟩;refine ⟨_,rfl,x,c.call,dx,_,_,rfl,ex,L.L.call.cl,L.L.kH,rfl,_,_,.type "list",.type "list",true,rfl,rfl,(λu r=>r),.inl (.lst el),kl,true,rfl,zH ?_⟩;refine ⟨_,rfl,x,c.call,dx,_,_,rfl,ex,L.L.call.cl,L.L.kH,rfl,la,_,rfl,.inl (SqL.of el),_,rfl,y,_,_,_,rfl,rfl,SqT.of ey,rfl,ld,_,rfl,.inl (SqL.of ed),rfl,_,rfl,?_⟩;rw [ly,ldd,decide_eq_true rfl];refine zH ⟨_,rfl,y,_,_,_,rfl,rfl,SqT.of ey,rfl,ld,_,rfl,.inl (SqL.of ed),_,rfl,by rw [ldd];omega,by rw [ldd];omega,?_⟩;rw [ldd,q0z];refine Zr (lo:=0) (n:=ys.length) (λi σ H'=>∃ u,σ=[rq x,rq y,u]/\H'=H) ⟨none,rfl,rfl⟩ ?_ ?_
  ·rintro i σ H' hi ⟨u,rfl,rfl⟩
   obtain ⟨g,yi,di,e1,e2,e3,e4,e5⟩:=zbp hp hd hi;have i0:(0:Int)+(i:Int)=((i:Nat):Int):=Int.zero_add _;rw [i0];refine ⟨_,rfl,x,c.call,dx,_,_,rfl,ex,L.L.call.cl,L.L.kH,rfl,_,rfl,la,_,_,_,rfl,rfl,SqL.of el,zQ (by rw [List.getElem?_map,e1];rfl),?_⟩;refine ⟨_,rfl,y,_,_,_,rfl,rfl,SqT.of ey,rfl,_,rfl,ld,_,_,_,rfl,rfl,SqL.of ed,zQ (by rw [List.getElem?_map,e2];rfl),yi,di,g,rfl,e3,e4,by omega,true,rfl,zH ?_⟩;exact ⟨_,rfl,rfl⟩
  ·rintro σ H' ⟨u,rfl,rfl⟩
   exact q
theorem ok_like {c:F2.Cs} {CF:Ad} (d:zB K mg "_law_like" Zu ["_law_form","_law_due"]) (hisi:mg "isinstance"=none) (hlist:mg "list"=none) (hstr:mg "str"=none) (hlen:mg "len"=none) (hrg:mg "range"=none) (kl:PySem.W.kitOne K (.type "list") (.type "list")=some true) (ks:PySem.W.kitOne K (.type "str") (.type "str")=some true) (G:LikeG mg c CF) (L:LikeK K c CF) (IS:Ok P w K mg base (CXe P w base) 2 "_law_is" ["_law_found","_law_due"] spIs) (LL:Ok P w K mg base (CXe P w base) 3 "_law_like_leaf" ["_law_form","_law_due"] (spLL c)):∀ n,n<=100->Ok P w K mg base CX0 (n+4) "_law_like" ["_law_form","_law_due"] (spLi c n)
 | 0,_=>by
  obtain ⟨f,fd,m,F,bd⟩:=d;refine ⟨f,fd,m,F.kp,bd,F.ok sc_l_like (by rintro vs H Q E ⟨_,_,_,e,_⟩;rw [e];rfl) λcdv A outer s H vs Q E hr h=>?_⟩;obtain ⟨x,y,X,rfl,hx,hy,hl,q⟩:=h;have:=xJ X;omega
 | n+1,h=>zen (by omega) (by omega) d hisi hlist hstr hlen hrg kl ks G L IS LL (ok_like d hisi hlist hstr hlen hrg kl ks G L IS LL n (by omega))
inductive spNs (vs:Jo) (H:Hp) (Q:VK) (_:XK):Prop
 | mk (a b:Ad) (ns:Jc) (_:vs=[.ref a,.ref b]) (_:H a=some (.lst (ns.map V.int))) (_:H b=some (.lst (ns.map V.int))) (_:ns.length<=1000) (_:Q (.bl true) H)
def zek (d:zB K mg "_law_numbers" ZE ["_law_found","_law_due"]) (hrg:mg "range"=none) (hlen:mg "len"=none) (hisi:mg "isinstance"=none) (hlist:mg "list"=none) (kl:PySem.W.kitOne K (.type "list") (.type "list")=some true) (IS:Ok P w K mg base (CXe P w base) 2 "_law_is" ["_law_found","_law_due"] spIs):Ok P w K mg base CX0 3 "_law_numbers" ["_law_found","_law_due"] spNs:=by
 obtain ⟨f,fd,m,F,bd⟩:=d;refine ⟨f,fd,m,F.kp,bd,F.ok sc_l_numbers (by rintro vs H Q E ⟨_,_,_,e,_⟩;rw [e];rfl) λcdv A outer s H vs Q E hr h=>?_⟩;obtain ⟨a,b,ns,rfl,ha,hb,hn,q⟩:=h;have hr2:Room 2 _:=hr;have nd:=sc_l_numbers.nd;have ll:(ns.map V.int).length=ns.length:=List.length_map ..;refine ⟨_,(zb (zC (z8 (zL (zG (zf zp (by rfl) hisi PyProof.Rows.boot_isinstance (za (pv 0) (za (yY hlist PyProof.Rows.boot_list) zc))))) (zT (zm yQ (zf zj (by rfl) hlen PySem.boot_len (za (pv 0) zc)) (zf zj (by rfl) hlen PySem.boot_len (za (pv 1) zc)) (zu _)))).pt (ze (zi zW)) zh)
   (zb (xh PassesOwn.never rfl (yM rfl hrg (za (zf zj (by rfl) hlen PySem.boot_len (za (pv 1) zc)) zc)) (ya (i:=2) nd rfl (Or.inl rfl)) (ze (zC (zL (zG (zx IS hr2 (by rfl) z9 (za (zn zK (pv 0) (pv 2) (λ_ _=>rfl)) (za (zn zK (pv 1) (pv 2) (λ_ _=>rfl)) zc))))) (ze (zi zW)) zh)))
   (ze (zi zW)))),?_⟩
 refine ⟨_,rfl,_,_,.type "list",.type "list",true,rfl,rfl,(λu r=>r),.inl (.lst ha),kl,true,rfl,zH ?_⟩;refine ⟨_,rfl,a,_,rfl,.inl (SqL.of ha),_,rfl,b,_,rfl,.inl (SqL.of hb),rfl,_,rfl,?_⟩;rw [decide_eq_true rfl];refine zH ⟨_,rfl,b,_,rfl,.inl (SqL.of hb),_,rfl,by rw [ll];omega,by rw [ll];omega,?_⟩;rw [ll,q0z];refine Zr (lo:=0) (n:=ns.length) (λi σ H'=>∃ u,σ=[rq a,rq b,u]/\H'=H) ⟨none,rfl,rfl⟩ ?_ ?_
 ·rintro i σ H' hi ⟨u,rfl,rfl⟩
  have i0:(0:Int)+(i:Int)=((i:Nat):Int):=Int.zero_add _;obtain ⟨n,en⟩:∃ n,ns[i]?=some n:=⟨_,List.getElem?_eq_getElem hi⟩;have e1:atI (ns.map V.int) ((i:Nat):Int)=some (.int n):=zQ (by rw [List.getElem?_map,en];rfl);rw [i0];exact ⟨_,rfl,_,rfl,a,_,_,_,rfl,rfl,SqL.of ha,e1,_,rfl,_,rfl,b,_,_,_,rfl,rfl,SqL.of hb,e1,n,rfl,true,rfl,zH ⟨_,rfl,rfl⟩⟩
 ·rintro σ H' ⟨u,rfl,rfl⟩
  exact q
inductive spTx (vs:Jo) (H:Hp) (Q:VK) (_:XK):Prop
 | mk (a b:Ad) (ns:Jg) (_:vs=[.ref a,.ref b]) (_:H a=some (.lst (ns.map V.str))) (_:H b=some (.lst (ns.map V.str))) (_:ns.length<=1000) (_:Q (.bl true) H)
def ok_texts (d:zB K mg "_law_texts" Yr ["_law_found","_law_due"]) (hrg:mg "range"=none) (hlen:mg "len"=none) (hisi:mg "isinstance"=none) (hlist:mg "list"=none) (hstr:mg "str"=none) (kl:PySem.W.kitOne K (.type "list") (.type "list")=some true) (ks:PySem.W.kitOne K (.type "str") (.type "str")=some true):Ok P w K mg base CX0 1 "_law_texts" ["_law_found","_law_due"] spTx:=by
 obtain ⟨f,fd,m,F,bd⟩:=d;refine ⟨f,fd,m,F.kp,bd,F.ok sc_l_texts (by rintro vs H Q E ⟨_,_,_,e,_⟩;rw [e];rfl) λcdv A outer s H vs Q E hr h=>?_⟩;obtain ⟨a,b,ns,rfl,ha,hb,hn,q⟩:=h;have nd:=sc_l_texts.nd;have ll:(ns.map V.str).length=ns.length:=List.length_map ..;refine ⟨_,(zb (zC (z8 (zL (zG (zf zp (by rfl) hisi PyProof.Rows.boot_isinstance (za (pv 0) (za (yY hlist PyProof.Rows.boot_list) zc))))) (zT (zm yQ (zf zj (by rfl) hlen PySem.boot_len (za (pv 0) zc)) (zf zj (by rfl) hlen PySem.boot_len (za (pv 1) zc)) (zu _)))).pt (ze (zi zW)) zh)
   (zb (xh PassesOwn.never rfl (yM rfl hrg (za (zf zj (by rfl) hlen PySem.boot_len (za (pv 1) zc)) zc)) (ya (i:=2) nd rfl (Or.inl rfl)) (ze (zC (z8 (zL (zG (zf zp (by rfl) hisi PyProof.Rows.boot_isinstance (za (zn zK (pv 0) (pv 2) (λ_ _=>rfl)) (za (yY hstr PyProof.Rows.boot_str) zc))))) (zT (zm yQ (zn zK (pv 0) (pv 2) (λ_ _=>rfl)) (zn zK (pv 1) (pv 2) (λ_ _=>rfl)) (zu _)))).pt (ze (zi zW)) zh)))
   (ze (zi zW)))),?_⟩
 refine ⟨_,rfl,_,_,.type "list",.type "list",true,rfl,rfl,(λu r=>r),.inl (.lst ha),kl,true,rfl,zH ?_⟩;refine ⟨_,rfl,a,_,rfl,.inl (SqL.of ha),_,rfl,b,_,rfl,.inl (SqL.of hb),rfl,_,rfl,?_⟩;rw [decide_eq_true rfl];refine zH ⟨_,rfl,b,_,rfl,.inl (SqL.of hb),_,rfl,by rw [ll];omega,by rw [ll];omega,?_⟩;rw [ll,q0z];refine Zr (lo:=0) (n:=ns.length) (λi σ H'=>∃ u,σ=[rq a,rq b,u]/\H'=H) ⟨none,rfl,rfl⟩ ?_ ?_
 ·rintro i σ H' hi ⟨u,rfl,rfl⟩
  have i0:(0:Int)+(i:Int)=((i:Nat):Int):=Int.zero_add _;obtain ⟨n,en⟩:∃ n,ns[i]?=some n:=⟨_,List.getElem?_eq_getElem hi⟩;have e1:atI (ns.map V.str) ((i:Nat):Int)=some (.str n):=zQ (by rw [List.getElem?_map,en];rfl);rw [i0];refine ⟨_,rfl,_,rfl,a,_,_,_,rfl,rfl,SqL.of ha,e1,_,_,.type "str",.type "str",true,rfl,rfl,(λu r=>r),.inl (.str _),ks,true,rfl,zH ?_⟩;refine ⟨_,rfl,_,rfl,a,_,_,_,rfl,rfl,SqL.of ha,e1,_,rfl,_,rfl,b,_,_,_,rfl,rfl,SqL.of hb,e1,rfl,_,rfl,?_⟩;rw [decide_eq_true rfl];exact zH ⟨_,rfl,rfl⟩
 ·rintro σ H' ⟨u,rfl,rfl⟩
  exact q
inductive spFn (c:F2.Cs) (vs:Jo) (H:Hp) (Q:VK) (_:XK):Prop
 | mk (a b e:Ad) (us ds:Jh) (fs:List F2.Fn) (_:vs=[.ref a,.ref b,.ref e]) (_:H a=some (.lst (us.map V.ref))) (_:H b=some (.lst (fs.map λf=>V.int (f.1:Nat)))) (_:H e=some (.lst (ds.map V.ref))) (_:us.length=fs.length) (_:ds.length=fs.length) (_:∀ (i:Nat) f,fs[i]?=some f->∃ u y dd,us[i]?=some u/\ds[i]?=some dd/\H u=some (.tup [.int (f.1:Nat),.ref y])/\F2.FormAt c H f.2 y/\DueAt H f.2 dd/\F2.nodes f.2<=100) (_:fs.length<=1000) (_:Q (.bl true) H)
def zcz {c:F2.Cs} (d:zB K mg "_law_functions" xS ["_law_found","_law_counts","_law_bodies"]) (hrg:mg "range"=none) (hlen:mg "len"=none) (hisi:mg "isinstance"=none) (hlist:mg "list"=none) (htup:mg "tuple"=none) (kl:PySem.W.kitOne K (.type "list") (.type "list")=some true) (kt:PySem.W.kitOne K (.type "tuple") (.type "tuple")=some true) (IS:Ok P w K mg base (CXe P w base) 2 "_law_is" ["_law_found","_law_due"] spIs) (LI:Ok P w K mg base CX0 104 "_law_like" ["_law_form","_law_due"] (spLi c 100)):Ok P w K mg base CX0 105 "_law_functions" ["_law_found","_law_counts","_law_bodies"] (spFn c):=by
 obtain ⟨f,fd,m,F,bd⟩:=d;refine ⟨f,fd,m,F.kp,bd,F.ok sc_l_functions (by rintro vs H Q E ⟨_,_,_,_,_,_,e,_⟩;rw [e];rfl) λcdv A outer s H vs Q E hr h=>?_⟩;obtain ⟨a,b,e,us,ds,fs,rfl,ha,hb,he,lu,ld,hf,l1,q⟩:=h;have hr104:Room 104 _:=hr;have hr2:Room 2 _:=hr.mono (by decide);have nd:=sc_l_functions.nd;have la:(us.map V.ref).length=fs.length:=by rw [Jj];exact lu
 have lb:(fs.map λf=>V.int (f.1:Nat)).length=fs.length:=List.length_map ..;refine ⟨_,(zb (zC (z8 (zL (zG (zf zp (by rfl) hisi PyProof.Rows.boot_isinstance (za (pv 0) (za (yY hlist PyProof.Rows.boot_list) zc))))) (zT (zm yQ (zf zj (by rfl) hlen PySem.boot_len (za (pv 0) zc)) (zf zj (by rfl) hlen PySem.boot_len (za (pv 1) zc)) (zu _)))).pt (ze (zi zW)) zh)
   (zb (xh PassesOwn.never rfl (yM rfl hrg (za (zf zj (by rfl) hlen PySem.boot_len (za (pv 1) zc)) zc)) (ya (i:=3) nd rfl (Or.inl rfl)) (zb (zC (z8 (zL (zG (zf zp (by rfl) hisi PyProof.Rows.boot_isinstance (za (zn zK (pv 0) (pv 3) (λ_ _=>rfl)) (za (yY htup PyProof.Rows.boot_tuple) zc))))) (zT (zm yQ (zf zj (by rfl) hlen PySem.boot_len (za (zn zK (pv 0) (pv 3) (λ_ _=>rfl)) zc)) zd (zu _)))).pt (ze (zi zW)) zh)
   (ze (zC (z8 (zL (zG (zx IS hr2 (by rfl) z9 (za (zn zy (zn zK (pv 0) (pv 3) (λ_ _=>rfl)) zd (λ_ _=>rfl)) (za (zn zK (pv 1) (pv 3) (λ_ _=>rfl)) zc))))) (zT (zL (zG (zx LI hr104 (by rfl) zE (za (zn zy (zn zK (pv 0) (pv 3) (λ_ _=>rfl)) zd (λ_ _=>rfl)) (za (zn zK (pv 2) (pv 3) (λ_ _=>rfl)) zc))))))).pt (ze (zi zW)) zh))))
   (ze (zi zW)))),?_⟩
 refine ⟨_,rfl,_,_,.type "list",.type "list",true,rfl,rfl,(λu r=>r),.inl (.lst ha),kl,true,rfl,zH ?_⟩;refine ⟨_,rfl,a,_,rfl,.inl (SqL.of ha),_,rfl,b,_,rfl,.inl (SqL.of hb),rfl,_,rfl,?_⟩;rw [la,lb,decide_eq_true rfl];refine zH ⟨_,rfl,b,_,rfl,.inl (SqL.of hb),_,rfl,by rw [lb];omega,by rw [lb];omega,?_⟩;rw [lb,q0z];refine Zr (lo:=0) (n:=fs.length) (λi σ H'=>∃ u,σ=[rq a,rq b,rq e,u]/\H'=H) ⟨none,rfl,rfl⟩ ?_ ?_
 ·rintro i σ H' hi ⟨u,rfl,rfl⟩
  have i0:(0:Int)+(i:Int)=((i:Nat):Int):=Int.zero_add _;obtain ⟨g,eg⟩:∃ g,fs[i]?=some g:=⟨_,List.getElem?_eq_getElem hi⟩;obtain ⟨u1,y,dd,e1,e2,e3,e4,e5,e6⟩:=hf i g eg;have x1:atI (us.map V.ref) ((i:Nat):Int)=some (.ref u1):=zQ (by rw [List.getElem?_map,e1];rfl);have x2:atI (ds.map V.ref) ((i:Nat):Int)=some (.ref dd):=zQ (by rw [List.getElem?_map,e2];rfl);have x3:atI (fs.map λf=>V.int (f.1:Nat)) ((i:Nat):Int)=some (.int (g.1:Nat)):=zQ (by rw [List.getElem?_map,eg];rfl);rw [i0];refine ⟨_,rfl,_,rfl,a,_,_,_,rfl,rfl,SqL.of ha,x1,_,_,.type "tuple",.type "tuple",true,rfl,rfl,(λu r=>r),.inl (.tup e3),kt,true,rfl,zH ?_⟩;refine ⟨_,rfl,_,rfl,a,_,_,_,rfl,rfl,SqL.of ha,x1,u1,_,rfl,.inr (SqT.of e3),rfl,_,rfl,zH ?_⟩;refine ⟨_,rfl,_,rfl,a,_,_,_,rfl,rfl,SqL.of ha,x1,u1,_,_,_,rfl,rfl,SqT.of e3,rfl,_,rfl,_,rfl,b,_,_,_,rfl,rfl,SqL.of hb,x3,_,rfl,true,rfl,zH ?_⟩;refine ⟨_,rfl,_,rfl,a,_,_,_,rfl,rfl,SqL.of ha,x1,u1,_,_,_,rfl,rfl,SqT.of e3,rfl,_,rfl,_,rfl,e,_,_,_,rfl,rfl,SqL.of he,x2,y,dd,g.2,rfl,e4,e5,e6,true,rfl,zH ?_⟩;exact ⟨_,rfl,rfl⟩
 ·rintro σ H' ⟨u,rfl,rfl⟩
  exact q
structure LineTx (z:Str):Prop where
 f:10 ∉ lt' z
 l:z.length<=15000
inductive LineD (D:Dr) (z:Str):Dr->Prop
 | blank (h:yB z=[]):LineD D z D
 | row (x:Str) (n:Int) (h:yB z=[("row":Str),x,numS n]) (hx:NmK x) (n1:1<=n) (n4:n<=400) (h1:plc x D.rows=none) (h2:plc x (D.heads.map Prod.fst)=none) (h3:D.rows.length<12):LineD D z { D with rows:=D.rows++[x],lens:=D.lens++[n] }
 | fn (nm:Str) (ps ws:Jg) (body:F2.Fm) (S T:Nat->Int) (h:yB z=("def":Str)::nm::(ps++("=":Str)::ws)) (hx:NmK nm) (h1:zX ⟨D.rows,D.heads,some ps⟩ 30 ws=.ok (body,[])) (h2:DefOk D nm ps S T body) (hw:YW (yB z)):LineD D z (D.def_ nm ps body)
structure TextD (ls:Jg) (D:Dr):Prop where
 t:∀ z∈ls,LineTx z
 ex:∃ Ds:Nat->Dr,Ds 0=⟨[],[],[],[]⟩/\Ds ls.length=D/\∀ i z,ls[i]?=some z->LineD (Ds i) z (Ds (i+1))
def TextD.nil:TextD [] ⟨[],[],[],[]⟩:=⟨λz m=>(nomatch m),λ_=>⟨[],[],[],[]⟩,rfl,rfl,λi z e=>by cases e⟩
def TextD.snoc {ls:Jg} {D D':Dr} {z:Str} (h:TextD ls D) (hz:LineTx z) (g:LineD D z D'):TextD (ls++[z]) D':=by
 obtain ⟨Ds,e0,e1,e2⟩:=h.ex;refine ⟨λy m=>?_,λi=>if i<=ls.length then Ds i else D',?_,?_,λi y e=>?_⟩
 ·rcases List.mem_append.mp m with m | m
  ·exact h.t y m
  ·cases List.mem_singleton.mp m;exact hz
 ·show (if 0<=ls.length then Ds 0 else D')=_
  rw [if_pos (Nat.zero_le _)];exact e0
 ·show (if (ls++[z]).length<=ls.length then _ else D')=_
  rw [if_neg (by rw [Jk];show ¬ _+1<=_;omega)]
 ·by_cases hi:i<ls.length
  ·rw [q3z hi] at e
   show LineD (if i<=ls.length then Ds i else D') y (if i+1<=ls.length then Ds (i+1) else D');rw [if_pos (by omega),if_pos (by omega)];exact e2 i y e
  ·have hl:=(List.getElem?_eq_some_iff.mp e).1
   rw [Jk,List.length_singleton] at hl;have hi2:i=ls.length:=by omega
   subst hi2;rw [List.getElem?_append_right (Nat.le_refl _),Nat.sub_self] at e;cases e;show LineD (if ls.length<=ls.length then Ds ls.length else D') z (if ls.length+1<=ls.length then Ds (ls.length+1) else D');rw [if_pos (Nat.le_refl _),if_neg (by omega),e1];exact g
def words_sp (n:Nat):yB ⟨(List.replicate n 32).toArray⟩=[]:=by
 have:Wd (lt' (⟨(List.replicate n 32).toArray⟩:Str)) [] false:=by
  cases n with
  | zero=>exact Wd.nil
  | succ n=>exact Wd.nil.spaces n
 have e:=Wd.words this
 cases h:yB ⟨(List.replicate n 32).toArray⟩ with
 | nil=>rfl
 | cons a l=>rw [h] at e;cases e
inductive spLn (vs:Jo) (H:Hp) (Q:VK) (_:XK):Prop
 | mk (kd li wa:Ad) (c:Int) (kvs:Jm) (ws lines:Jg) (B:Hp) (L:Jn) (_:vs=[.ref kd,.ref wa,.int c]) (_:Hd B ((kd,.dK kvs)::(li,.lst (lines.map V.str))::L) H) (_:zZ kvs (.inr "lines")=some (.ref li)) (_:B wa=some (.lst (ws.map V.str))) (_:∀ w∈ws,WG w/\w.length<=20) (_:ws.length<=500) (_:lines.length<=1000) (_:∀ (bl:Jg) (z:Str) (H':Hp),bl.length<=1->(∀ b∈bl,yB b=[]/\LineTx b)->yB z=ws->LineTx z->Hd B ((kd,.dK kvs)::(li,.lst ((lines++bl++[z]).map V.str))::L) H'->Q .non H')
def ok_lined (d:zB K mg "_law_lined" Yt ["_law_known","_law_words","_law_cell"]) (SP:Ok P w K mg base CX0 2 "_law_spaced" ["_law_words","_law_cell"] spSpc):Ok P w K mg base CX0 3 "_law_lined" ["_law_known","_law_words","_law_cell"] spLn:=by
 obtain ⟨f,fd,m,F,bd⟩:=d;refine ⟨f,fd,m,F.kp,bd,F.ok sc_l_lined (by rintro vs H Q E ⟨_,_,_,_,_,_,_,_,_,e,_⟩;rw [e];rfl) λcdv A outer s H vs Q E hr h=>?_⟩;obtain ⟨kd,li,wa,c,kvs,ws,lines,B,L,rfl,hd,vl,ew,wg,l5,l1,q⟩:=h;have hr2:Room 2 _:=hr;have hu:=Nat.lt_of_le_of_lt (Nat.add_le_add_left (show 1<=64 by decide) _) hr.units;have nd:=sc_l_lined.nd;have SL:(100000:Nat)<sizeLine:=by decide
 refine ⟨_,(zb (xz (zC (zm zU (zA zO (zA z5 (pv 2) zd) zd) zd (zu _)) (ze (zY (xB PySem.F.plainAttrs_list PySem.F.slot_list_append PySem.F.type_list_append yh (zJ hu (pv 0) zk (λ_ _=>rfl)) (za (zA Y4 zk (zA zO (zA z5 (pv 2) zd) zd)) zc)))) zh))
   (ze (zY (xB PySem.F.plainAttrs_list PySem.F.slot_list_append PySem.F.type_list_append yh (zJ hu (pv 0) zk (λ_ _=>rfl)) (za (zx SP hr2 (by rfl) zE (za (pv 1) (za (pv 2) zc))) zc))))),?_⟩
 refine ⟨λσ J=>∃ bl:Jg,σ=[rq kd,rq wa,iq c]/\bl.length<=1/\(∀ b∈bl,yB b=[]/\LineTx b)/\Hd B ((kd,.dK kvs)::(li,.lst ((lines++bl).map V.str))::L) J,?_,?_⟩
 ·refine ⟨_,rfl,_,_,rfl,rfl,⟨by decide,by decide⟩,_,_,rfl,rfl,(by show (0:Int)<4;decide),rfl,_,rfl,?_⟩
  refine xL (λ_=>?_) (λ_=>⟨[],rfl,by decide,(λb m=>nomatch m),by rw [q3y];exact hd⟩);have g3:0<=c / 20 % 3/\c / 20 % 3<3:=⟨Int.emod_nonneg _ (by decide),Int.emod_lt_of_pos _ (by decide)⟩;refine ⟨_,rfl,kd,_,rfl,yg (hd.get 0 rfl) vl,tyL (hd.get 1 rfl),_,rfl,_,_,rfl,rfl,⟨by decide,by decide⟩,_,_,rfl,rfl,(by show (0:Int)<3;decide),32,_,rfl,rfl,g3.1,by omega,li,_,_,rfl,rfl,hd.get 1 rfl,by rw [Jj];omega,?_⟩;refine ⟨[⟨(List.replicate (c / 20 % 3).toNat 32).toArray⟩],rfl,(by show 1<=1;decide),λb m=>?_,by rw [Jl];exact hd.put 1 rfl⟩;cases List.mem_singleton.mp m;exact ⟨words_sp _,Y0 _,by rw [Zo];omega⟩
 rintro σ J ⟨bl,rfl,b1,b2,hd2⟩;refine ⟨_,rfl,kd,_,rfl,yg (hd2.get 0 rfl) vl,tyL (hd2.get 1 rfl),_,rfl,_,rfl,wa,ws,c,rfl,hd2.sm _ _ ew,wg,l5,λz e1 e2 e3=>?_⟩;refine ⟨li,_,_,rfl,rfl,hd2.get 1 rfl,by rw [Jj,Jk];omega,?_⟩;refine q bl z _ b1 b2 e1 ⟨e2,e3⟩ ?_;rw [Jl];exact hd2.put 1 rfl
end K22
namespace L2
open PySem
def pe_disp6 {X:Cx} {pos:Pos} {k1 k2 k3 k4 k5 k6 v1 v2 v3 v4 v5 v6:Expr} {t1 t2 t3 t4 t5 t6 u1 u2 u3 u4 u5 u6:TE} (a1:PE X k1 t1) (b1:PE X v1 u1) (a2:PE X k2 t2) (b2:PE X v2 u2) (a3:PE X k3 t3) (b3:PE X v3 u3) (a4:PE X k4 t4) (b4:PE X v4 u4) (a5:PE X k5 t5) (b5:PE X v5 u5) (a6:PE X k6 t6) (b6:PE X v6 u6) :
  PE X (.Dict [some k1,some k2,some k3,some k4,some k5,some k6] [v1,v2,v3,v4,v5,v6] pos) (tDisp [(t1,u1),(t2,u2),(t3,u3),(t4,u4),(t5,u5),(t6,u6)]):=pe_disp (ZO a1 b1 (ZO a2 b2 (ZO a3 b3 (ZO a4 b4 (ZO a5 b5 (ZO a6 b6 pps_nil)))))) rfl rfl (by simp) (show (6:Nat)<=15 by decide)
def pw_disp6 {X:Cx} {i:Nat} {x:Str} {pos pos' pd:Pos} {k1 k2 k3 k4 k5 k6 v1 v2 v3 v4 v5 v6:Expr} {t1 t2 t3 t4 t5 t6 u1 u2 u3 u4 u5 u6:TE} (hN:X.N.Nodup) (hi:X.N[i]?=some x) (hx:Loc X.env.scope x) (a1:PE X k1 t1) (b1:PE X v1 u1) (a2:PE X k2 t2) (b2:PE X v2 u2) (a3:PE X k3 t3) (b3:PE X v3 u3) (a4:PE X k4 t4) (b4:PE X v4 u4) (a5:PE X k5 t5) (b5:PE X v5 u5) (a6:PE X k6 t6) (b6:PE X v6 u6) (hf:X.fn x=true∨X.env.scope.names.lookup x=some .local:=by first | exact .inl rfl | exact .inr rfl | assumption) :
  PW1 X (.Assign [.Name x pos'] (.Dict [some k1,some k2,some k3,some k4,some k5,some k6] [v1,v2,v3,v4,v5,v6] pd) pos) (tAsg (tDisp [(t1,u1),(t2,u2),(t3,u3),(t4,u4),(t5,u5),(t6,u6)]) (XB i)):=⟨zq hN hi hx (pe_disp6 a1 b1 a2 b2 a3 b3 a4 b4 a5 b5 a6 b6) rfl hf⟩
def pw_mid {X:Cx} {st:Stmt} {t:TS} (h:PW1 X st t):PW1 X st (tMid t):=⟨xz h.h⟩
end L2
namespace K22
open PySem L2
variable {P:Program} {w:World} {K:Fg} {mg:J0} {base:Heap}
structure Kg where
 kd:Ad
 li:Ad
 na:Ad
 le:Ad
 ne:Ad
 fa:Ad
 ca:Ad
 co:Ad
 he:Ad
 bo:Ad
def Kg.kv (g:Kg) (ov nv:V):Jm:=[(.inr "lines",.ref g.li),(.inr "names",.ref g.na),(.inr "lengths",.ref g.le),(.inr "near",.ref g.ne),(.inr "far",.ref g.fa),(.inr "own",ov),(.inr "calls",.ref g.ca),(.inr "counts",.ref g.co),(.inr "heads",.ref g.he),(.inr "bodies",.ref g.bo),(.inr "new",nv)]
def kv_own (g:Kg) (ov nv v:V):yX (g.kv ov nv) (.inr "own") v=g.kv v nv:=rfl
def kv_new (g:Kg) (ov nv v:V):yX (g.kv ov nv) (.inr "new") v=g.kv ov v:=rfl
def zah (g:Kg) (ov nv:V):zZ (g.kv ov nv) (.inr "lines")=some (.ref g.li):=rfl
def Yi (g:Kg) (ov nv:V):zZ (g.kv ov nv) (.inr "names")=some (.ref g.na):=rfl
def kg_lens (g:Kg) (ov nv:V):zZ (g.kv ov nv) (.inr "lengths")=some (.ref g.le):=rfl
def kg_near (g:Kg) (ov nv:V):zZ (g.kv ov nv) (.inr "near")=some (.ref g.ne):=rfl
def kg_far (g:Kg) (ov nv:V):zZ (g.kv ov nv) (.inr "far")=some (.ref g.fa):=rfl
def Yh (g:Kg) (ov nv:V):zZ (g.kv ov nv) (.inr "own")=some ov:=rfl
def Y7 (g:Kg) (ov nv:V):zZ (g.kv ov nv) (.inr "calls")=some (.ref g.ca):=rfl
def Xj (g:Kg) (ov nv:V):zZ (g.kv ov nv) (.inr "counts")=some (.ref g.co):=rfl
def zdx (g:Kg) (ov nv:V):zZ (g.kv ov nv) (.inr "heads")=some (.ref g.he):=rfl
def zbj (g:Kg) (ov nv:V):zZ (g.kv ov nv) (.inr "bodies")=some (.ref g.bo):=rfl
def kg_new (g:Kg) (ov nv:V):zZ (g.kv ov nv) (.inr "new")=some nv:=rfl
abbrev Kg.L (g:Kg) (W:Kw) (lines:Jg) (hts bts:Jh) (ov nv:V):Jn:=[(g.kd,.dK (g.kv ov nv)),(g.li,.lst (lines.map V.str)),(g.na,.lst (W.names.map V.str)),(g.le,.lst (W.lens.map V.int)),(g.ca,.lst (W.calls.map V.str)),(g.co,.lst (W.counts.map λk:Nat=>V.int k)),(g.he,.lst (hts.map V.ref)),(g.bo,.lst (bts.map V.ref))]
def oLs (oa:Ad):Option (Jg)->Jn
 | none=>[]
 | some o=>[(oa,.lst (o.map V.str))]
def oV (oa:Ad):Option (Jg)->V
 | none=>.non
 | some _=>.ref oa
structure KwAt (B:Hp) (g:Kg) (W:Kw) (lines:Jg) (hts bts:Jh) (oa:Ad) (nv:V) (H:Hp):Prop where
 h:Hd B (g.L W lines hts bts (oV oa W.own) nv++oLs oa W.own) H
 ne:B g.ne=some (.lst [])
 fa:B g.fa=some (.lst [])
 n0:W.near=[]
 f0:W.far=[]
 hl:hts.length=W.heads.length
 ht:∀ (i:Nat) t,hts[i]?=some t->∃ h,W.heads[i]?=some h/\B t=some (.tup [.int h.1,.int h.2])
 bl:bts.length=W.bodies.length
 bt:∀ (i:Nat) t,bts[i]?=some t->∃ F,W.bodies[i]?=some F/\DueAt B F t
 w:W.Ok
 t:TextD lines W.D
def KwAt.over {B:Hp} {g:Kg} {W:Kw} {lines:Jg} {hts bts:Jh} {oa:Ad} {nv:V} {H H':Hp} (h:KwAt B g W lines hts bts oa nv H) (s:Same H H'):∃ B',Same B B'/\KwAt B' g W lines hts bts oa nv H'/\∀ a o,H' a=some o->a ∉ (g.L W lines hts bts (oV oa W.own) nv++oLs oa W.own).map Prod.fst->B' a=some o:=by
 obtain ⟨B',sB,h',ov⟩:=h.h.over s;refine ⟨B',sB,⟨h',sB _ _ h.ne,sB _ _ h.fa,h.n0,h.f0,h.hl,λi t e=>?_,h.bl,λi t e=>?_,h.w,h.t⟩,ov⟩
 ·obtain ⟨x,a,b⟩:=h.ht i t e;exact ⟨x,a,sB _ _ b⟩
 ·obtain ⟨x,a,b⟩:=h.bt i t e;exact ⟨x,a,b.same sB⟩
def KwAt.ext {B:Hp} {g:Kg} {W:Kw} {lines:Jg} {hts bts:Jh} {oa:Ad} {nv:V} {H H':Hp} (h:KwAt B g W lines hts bts oa nv H) (s:Same H H'):KwAt (ext B H H') g W lines hts bts oa nv H':=by
 have sB:Same B (K22.ext B H H'):=yc h.h.sm;refine ⟨hd_ext h.h s,sB _ _ h.ne,sB _ _ h.fa,h.n0,h.f0,h.hl,λi t e=>?_,h.bl,λi t e=>?_,h.w,h.t⟩
 ·obtain ⟨x,a,b⟩:=h.ht i t e;exact ⟨x,a,sB _ _ b⟩
 ·obtain ⟨x,a,b⟩:=h.bt i t e;exact ⟨x,a,b.same sB⟩
def KwAt.lf {B:Hp} {g:Kg} {W:Kw} {lines:Jg} {hts bts:Jh} {oa:Ad} {nv:V} {H:Hp} (h:KwAt B g W lines hts bts oa nv H):KLf H g.kd W:=by
 refine ⟨g.kv (oV oa W.own) nv,h.h.get 0 rfl,?_,⟨g.na,Yi ..,h.h.get 2 rfl⟩,⟨g.ne,kg_near ..,by rw [h.n0];exact h.h.sm _ _ h.ne⟩,⟨g.fa,kg_far ..,by rw [h.f0];exact h.h.sm _ _ h.fa⟩⟩;have hh:=h.h
 cases ho:W.own with
 | none=>exact .inl ⟨rfl,Yh ..⟩
 | some o =>
  rw [ho] at hh;exact .inr ⟨o,rfl,oa,Yh ..,hh.get 8 rfl⟩
def KwAt.ca {B:Hp} {g:Kg} {W:Kw} {lines:Jg} {hts bts:Jh} {oa:Ad} {nv:V} {H:Hp} (h:KwAt B g W lines hts bts oa nv H):KCa H g.kd W :=
 ⟨g.kv (oV oa W.own) nv,hts,h.h.get 0 rfl,⟨g.ca,Y7 ..,h.h.get 4 rfl⟩,⟨g.co,Xj ..,h.h.get 5 rfl⟩,⟨g.he,zdx ..,h.h.get 6 rfl⟩,h.hl,λi t e=>by obtain ⟨x,a,b⟩:=h.ht i t e;exact ⟨x,a,h.h.sm _ _ b⟩⟩
def KwAt.lk {B:Hp} {g:Kg} {W:Kw} {lines:Jg} {hts bts:Jh} {oa:Ad} {nv:V} {H:Hp} (h:KwAt B g W lines hts bts oa nv H):LfK W:=by
 have nd:=h.w.nd;have n1:=List.nodup_append.mp nd;refine ⟨λz m=>h.w.g z ?_,(List.nodup_append.mp n1.1).1,n1.2.1,h.w.near,h.w.far,h.w.n12,h.w.o6,by rw [h.n0];exact Nat.zero_le _,by rw [h.f0];exact Nat.zero_le _⟩;rcases List.mem_append.mp m with m | m
 ·exact List.mem_append_left _ (List.mem_append_left _ m)
 ·exact q2y _ m
def Kw0:Kw:=⟨[],[],[],[],[],[],none,[],[]⟩
def kw0_ok:Kw0.Ok:=⟨(λz m=>nomatch m),List.nodup_nil,rfl,rfl,rfl,rfl,by decide,by decide,(λk m=>nomatch m),by decide,(λk m=>nomatch m),(λk m=>nomatch m),⟨by decide,(λi h=>by cases h),(λi h=>by cases h),(λi h=>by cases h)⟩,⟨by decide,(λi h=>by cases h),(λi h=>by cases h),(λi h=>by cases h)⟩,λi=>Int.le_refl _,λi=>Int.le_refl _⟩
inductive spBg (vs:Jo) (H:Hp) (Q:VK) (_:XK):Prop
 | mk (_:Unit) (_:vs=[]) (_:∀ B g oa H',Same H B->KwAt B g Kw0 [] [] [] oa (.str "") H'->Q (.ref g.kd) H')
def ok_begun (d:zB K mg "_law_begun" Yu []):Ok P w K mg base CX0 1 "_law_begun" [] spBg:=by
 obtain ⟨f,fd,m,F,bd⟩:=d;refine ⟨f,fd,m,F.kp,bd,F.okB sc_l_begun (by rintro vs H Q E ⟨_,e,_⟩;rw [e];rfl) λcdv A outer s H vs Q E hr h=>?_⟩;obtain ⟨_,rfl,q⟩:=h;have hu:=Nat.lt_of_le_of_lt (Nat.add_le_add_left (show 1<=64 by decide) _) hr.units;have nd:=sc_l_begun.nd;have SL:(1000:Nat)<sizeLine:=by decide
 refine ⟨_,(Z5 (pw_mid (pw_disp6 (i:=0) nd rfl (Or.inl rfl) zk (zN zc) zk (zN zc) zk (zN zc) zk (zN zc) zk (zN zc) zk xi))
   (Z5 (PW1.mk (y4 hu (pv 0) zk (zN zc) rfl))
   (Z5 (PW1.mk (y4 hu (pv 0) zk (zN zc) rfl))
   (Z5 (PW1.mk (y4 hu (pv 0) zk (zN zc) rfl))
   (Z5 (PW1.mk (y4 hu (pv 0) zk (zN zc) rfl))
   (Z5 (PW1.mk (y4 hu (pv 0) zk zk rfl))
   (pb_one (PW1.mk (zi (pv 0)))))))))),?_⟩
 refine ⟨λσ J=>∃ kd li na le ne fa,σ=[some (.ref kd)]/\Hd H [(fa,.lst []),(ne,.lst []),(le,.lst []),(na,.lst []),(li,.lst []),(kd,.dK [(.inr "lines",.ref li),(.inr "names",.ref na),(.inr "lengths",.ref le),(.inr "near",.ref ne),(.inr "far",.ref fa),(.inr "own",.non)])] J,?_,?_⟩
 ·intro kd n0
  have h0:Hd H [(kd,.dK [])] (upd H kd (.dK [])):=Hd.base.new n0;refine ⟨szU 0,λli n1=>?_⟩;have h1:=h0.new (o:=.lst []) n1;refine ⟨szU 0,λna n2=>?_⟩;have h2:=h1.new (o:=.lst []) n2;refine ⟨szU 0,λle n3=>?_⟩;have h3:=h2.new (o:=.lst []) n3;refine ⟨szU 0,λne n4=>?_⟩;have h4:=h3.new (o:=.lst []) n4;refine ⟨szU 0,λfa n5=>?_⟩;have h5:=h4.new (o:=.lst []) n5;refine ⟨h5.get 5 rfl,[(.inr "lines",.ref li),(.inr "names",.ref na),(.inr "lengths",.ref le),(.inr "near",.ref ne),(.inr "far",.ref fa),(.inr "own",.non)],rfl,(by show 6<=15;decide),?_⟩;exact ⟨kd,li,na,le,ne,fa,rfl,h5.put 5 rfl⟩
 rintro σ J ⟨kd,li,na,le,ne,fa,rfl,h⟩;refine ⟨szU 0,λca nca=>?_⟩;have h:=h.new (o:=.lst []) nca;refine ⟨_,rfl,kd,_,rfl,DPut.k (k:=.inr "calls") (h.get 6 rfl) (by show 6<sizeLine;omega),?_⟩;have h:=h.put (o':=.dK [(.inr "lines",.ref li),(.inr "names",.ref na),(.inr "lengths",.ref le),(.inr "near",.ref ne),(.inr "far",.ref fa),(.inr "own",.non),(.inr "calls",.ref ca)]) 6 rfl;refine ⟨szU 0,λco nco=>?_⟩;have h:=h.new (o:=.lst []) nco;refine ⟨_,rfl,kd,_,rfl,DPut.k (k:=.inr "counts") (h.get 7 rfl) (by show 7<sizeLine;omega),?_⟩;have h:=h.put (o':=.dK [(.inr "lines",.ref li),(.inr "names",.ref na),(.inr "lengths",.ref le),(.inr "near",.ref ne),(.inr "far",.ref fa),(.inr "own",.non),(.inr "calls",.ref ca),(.inr "counts",.ref co)]) 7 rfl;refine ⟨szU 0,λhe nhe=>?_⟩;have h:=h.new (o:=.lst []) nhe;refine ⟨_,rfl,kd,_,rfl,DPut.k (k:=.inr "heads") (h.get 8 rfl) (by show 8<sizeLine;omega),?_⟩;have h:=h.put (o':=.dK [(.inr "lines",.ref li),(.inr "names",.ref na),(.inr "lengths",.ref le),(.inr "near",.ref ne),(.inr "far",.ref fa),(.inr "own",.non),(.inr "calls",.ref ca),(.inr "counts",.ref co),(.inr "heads",.ref he)]) 8 rfl;refine ⟨szU 0,λbo nbo=>?_⟩;have h:=h.new (o:=.lst []) nbo;refine ⟨_,rfl,kd,_,rfl,DPut.k (k:=.inr "bodies") (h.get 9 rfl) (by show 9<sizeLine;omega),?_⟩;have h:=h.put (o':=.dK [(.inr "lines",.ref li),(.inr "names",.ref na),(.inr "lengths",.ref le),(.inr "near",.ref ne),(.inr "far",.ref fa),(.inr "own",.non),(.inr "calls",.ref ca),(.inr "counts",.ref co),(.inr "heads",.ref he),(.inr "bodies",.ref bo)]) 9 rfl;refine ⟨_,rfl,kd,_,rfl,DPut.k (k:=.inr "new") (h.get 9 rfl) (by show 10<sizeLine;omega),?_⟩;have h:=h.put (o':=.dK [(.inr "lines",.ref li),(.inr "names",.ref na),(.inr "lengths",.ref le),(.inr "near",.ref ne),(.inr "far",.ref fa),(.inr "own",.non),(.inr "calls",.ref ca),(.inr "counts",.ref co),(.inr "heads",.ref he),(.inr "bodies",.ref bo),(.inr "new",.str "")]) 9 rfl;have hp:=List.perm_append_comm_assoc (([(kd,.dK ((Kg.mk kd li na le ne fa ca co he bo).kv .non (.str ""))),(li,.lst []),(na,.lst []),(le,.lst [])]:Jn)) [(ne,.lst []),(fa,.lst [])] [(ca,.lst []),(co,.lst []),(he,.lst []),(bo,.lst [])];have h2:=h.perm ((List.reverse_perm _).symm.trans hp);obtain ⟨B',s',m',h'⟩:=Hd.settles h2;exact ⟨_,rfl,q B' ⟨kd,li,na,le,ne,fa,ca,co,he,bo⟩ 0 _ s' ⟨h',m' _ (.head _),m' _ (.tail _ (.head _)),rfl,rfl,rfl,(λi t e=>by cases e),rfl,(λi t e=>by cases e),kw0_ok,TextD.nil⟩⟩
def Kw.row (W:Kw) (x:Str) (n:Int):Kw:={ W with names:=W.names++[x],lens:=W.lens++[n] }
def Kw.Ok.row {W:Kw} (h:W.Ok) (ho:W.own=none) {x:Str} {n:Int} (hx:NmK x) (hn:x ∉ W.names++W.calls) (l:W.names.length<12):(W.row x n).Ok:=by
 have g0:=h.g;have n0:=h.nd;rw [ho] at g0 n0;have g0:∀ z∈W.names++W.calls++[],NmK z:=g0;have n0:(W.names++W.calls++[]).Nodup:=n0;rw [q3y] at g0 n0;have nx:x ∉ W.names:=λm=>hn (List.mem_append_left _ m);have nc:x ∉ W.calls:=λm=>hn (q2y _ m);have nda:=List.nodup_append.mp n0;refine ⟨?_,?_,h.cl,h.hl,h.bl,?_,?_,h.c8,h.c6,h.o6,λk m=>?_,λk m=>?_,h.ts,h.td,h.nn,h.nnd⟩
 ·show ∀ z∈(W.names++[x])++W.calls++W.own.getD [],NmK z
  rw [ho];intro z m;have m:z∈(W.names++[x])++W.calls++[]:=m;rw [q3y] at m;rcases List.mem_append.mp m with m | m
  ·rcases List.mem_append.mp m with m | m
   ·exact g0 z (List.mem_append_left _ m)
   ·cases List.mem_singleton.mp m;exact hx
  ·exact g0 z (q2y _ m)
 ·show ((W.names++[x])++W.calls++W.own.getD []).Nodup
  rw [ho];show ((W.names++[x])++W.calls++[]).Nodup;rw [q3y];refine List.nodup_append.mpr ⟨List.nodup_append.mpr ⟨nda.1,by simp,λa ma b mb e=>?_⟩,nda.2.1,λa ma b mb e=>?_⟩
  ·cases List.mem_singleton.mp mb;subst e;exact nx ma
  ·subst e
   rcases List.mem_append.mp ma with ma | ma
   ·exact nda.2.2 a ma a mb rfl
   ·cases List.mem_singleton.mp ma;exact nc mb
 ·show (W.lens++[n]).length=(W.names++[x]).length
  rw [Jk,Jk,h.nl];rfl
 ·show (W.names++[x]).length<=12
  rw [Jk];show _+1<=_;omega
 ·have:=h.near k m
  show k<(W.names++[x]).length;rw [Jk];show k<_+1;omega
 ·have:=h.far k m
  show k<(W.names++[x]).length;rw [Jk];show k<_+1;omega
def Xm {W:Kw} (h:W.Ok):(W.D.heads.map Prod.fst)=W.calls:=by
 show (W.calls.zip W.counts).map Prod.fst=_;rw [List.map_fst_zip (by rw [h.cl];exact Nat.le_refl _)]
def row_line {W:Kw} (h:W.Ok) {x:Str} {n:Int} {z:Str} (hw:yB z=[("row":Str),x,numS n]) (hx:NmK x) (n1:1<=n) (n4:n<=400) (hn:x ∉ W.names++W.calls) (l:W.names.length<12):LineD W.D z (W.row x n).D :=
 .row x n hw hx n1 n4 (xA λm=>hn (List.mem_append_left _ m)) (by rw [Xm h];exact xA λm=>hn (q2y _ m)) l
theorem blanks {D:Dr}:∀ {bl ls:Jg},TextD ls D->(∀ b∈bl,yB b=[]/\LineTx b)->TextD (ls++bl) D
 | [],ls,h,_=>by rw [q3y];exact h
 | b::bl,ls,h,g=>by
  have:=blanks (bl:=bl) (h.snoc (g b q1z).2 (.blank (g b q1z).1)) λc m=>g c (q1y _ m)
  rwa [List.append_assoc] at this
def Kw.ownW (W:Kw) (o:Jg):Kw:={ W with own:=some o }
def Kw.Ok.ownW {W:Kw} (h:W.Ok) (ho:W.own=none) {o:Jg} (go:∀ z∈o,NmK z) (nd:(W.names++W.calls++o).Nodup) (l:o.length<=6):(W.ownW o).Ok:=by
 refine ⟨λz m=>?_,nd,h.cl,h.hl,h.bl,h.nl,h.n12,h.c8,h.c6,l,h.near,h.far,h.ts,h.td,h.nn,h.nnd⟩;have m:z∈W.names++W.calls++o:=m;rcases List.mem_append.mp m with m | m
 ·exact h.g z (List.mem_append_left _ m)
 ·exact go z m
def KwAt.gn {B:Hp} {g:Kg} {W:Kw} {lines:Jg} {hts bts:Jh} {oa:Ad} {nv:V} {H:Hp} (h:KwAt B g W lines hts bts oa nv H):∀ z∈W.names++W.calls,NmG z:=λz m=>(h.w.g z (List.mem_append_left _ m)).1
structure OpS (B:Hp) (g:Kg) (W:Kw) (lines:Jg) (H:Hp):Prop where
 ex:∃ hts bts oa nv,KwAt B g W lines hts bts oa nv H/\(W.own≠none->∃ x,nv=.str x/\NmK x/\x ∉ W.names++W.calls++W.own.getD []/\W.calls.length<8)
inductive spOp (vs:Jo) (H:Hp) (Q:VK) (_:XK):Prop
 | mk (c:Int) (B:Hp) (g:Kg) (W:Kw) (lines:Jg) (_:vs=[.ref g.kd,.int c]) (_:OpS B g W lines H) (_:W.own=none) (_:lines.length<=900) (_:∀ B' W' lines' H',Same B B'->OpS B' g W' lines' H'->lines'.length<=lines.length+2->Q .non H')
def ok_opened (d:zB K mg "_law_opened" Z0 ["_law_known","_law_cell"]) (hlen:mg "len"=none) (hrg:mg "range"=none) (hstr:mg "str"=none) (MX:Ok P w K mg base (CXe P w base) 1 "_law_mixed" ["_law_cell","_law_k"] spMx) (NB2:Ok P w K mg base CX0 2 "_law_name_by" ["_law_cell","_law_others"] (spName K)) (LN:Ok P w K mg base CX0 3 "_law_lined" ["_law_known","_law_words","_law_cell"] spLn):Ok P w K mg base CX0 4 "_law_opened" ["_law_known","_law_cell"] spOp:=by
 obtain ⟨f,fd,m,F,bd⟩:=d;refine ⟨f,fd,m,F.kp,bd,F.ok sc_l_opened (by rintro vs H Q E ⟨_,_,_,_,_,e,_⟩;rw [e];rfl) λcdv A outer s H vs Q E hr h=>?_⟩;obtain ⟨c,B,g,W,lines,rfl,OS,ho,l9,q⟩:=h;have hr3:Room 3 _:=hr;have hr2:Room 2 _:=hr.mono (by decide);have hr1:Room 1 _:=hr.mono (by decide);have hu:=Nat.lt_of_le_of_lt (Nat.add_le_add_left (show 1<=64 by decide) _) hr.units;have nd:=sc_l_opened.nd;have SL:(100000:Nat)<sizeLine:=by decide
 obtain ⟨hts,bts,oa,nv,KA,_⟩:=OS.ex;clear OS;have W12:=KA.w.n12;have W8:=KA.w.c8;have ov0:oV oa W.own=.non:=by rw [ho];rfl
 refine ⟨_,(zb (xz (zq (i:=2) nd rfl (Or.inl rfl) (zA xC (zJ hu (pv 0) zk (λ_ _=>rfl)) (zJ hu (pv 0) zk (λ_ _=>rfl)))))
   (zb (zq (i:=3) nd rfl (Or.inl rfl) (zA z5 (pv 1) zd))
   (ze (zC (pt_mid (y6 (zm Y5 (zA zO (pv 1) zd) zd (zu _)) (yP (zm Y5 (zf zj (by rfl) hlen PySem.boot_len (za (zJ hu (pv 0) zk (λ_ _=>rfl)) zc)) zd (zu _)))).pt) (zb (zq (i:=4) nd rfl (Or.inl rfl) (zx NB2 hr2 (by rfl) zE (za (pv 3) (za (pv 2) zc))))
   (zb (zq (i:=5) nd rfl (Or.inl rfl) (zA yI (zA zO (zx MX hr1 (by rfl) z9 (za (pv 3) (za zd zc))) zd) zd))
   (zb (zY (zx LN hr3 (by rfl) zE (za (pv 0) (za (zN (za zk (za (pv 4) (za (yH Zp (by rfl) hstr PyProof.Rows.boot_str (za (pv 5) zc)) zc)))) (za (pv 3) zc)))))
   (zb (zY (xB PySem.F.plainAttrs_list PySem.F.slot_list_append PySem.F.type_list_append yh (zJ hu (pv 0) zk (λ_ _=>rfl)) (za (pv 4) zc)))
   (ze (zY (xB PySem.F.plainAttrs_list PySem.F.slot_list_append PySem.F.type_list_append yh (zJ hu (pv 0) zk (λ_ _=>rfl)) (za (pv 5) zc)))))))) (ze (zC (zm Y5 (zf zj (by rfl) hlen PySem.boot_len (za (zJ hu (pv 0) zk (λ_ _=>rfl)) zc)) zd (zu _)) (zb (y4 hu (pv 0) zk (zx NB2 hr2 (by rfl) zE (za (zA z5 (pv 3) zd) (za (pv 2) zc))) rfl)
   (zb (y4 hu (pv 0) zk (zN zc) rfl)
   (ze (xh PassesOwn.never rfl (yM rfl hrg (za (zA zO (pv 3) zd) zc)) (ya (i:=6) nd rfl (Or.inl rfl)) (zb (zq (i:=7) nd rfl (Or.inl rfl) (zx MX hr1 (by rfl) z9 (za (pv 3) (za (zA yI zd (pv 6)) zc))))
   (ze (zY (xB PySem.F.plainAttrs_list PySem.F.slot_list_append PySem.F.type_list_append yh (zJ hu (pv 0) zk (λ_ _=>rfl)) (za (zx NB2 hr2 (by rfl) zE (za (pv 7) (za (zA xC (zA xC (pv 2) (zN (za (zJ hu (pv 0) zk (λ_ _=>rfl)) zc))) (zJ hu (pv 0) zk (λ_ _=>rfl))) zc))) zc))))))))) zh)))))),?_⟩
 refine ⟨λσ J=>∃ B1 ol,σ=[rq g.kd,iq c,rq ol,none,none,none,none,none]/\Same B B1/\KwAt B1 g W lines hts bts oa nv J/\B1 ol=some (.lst ((W.names++W.calls).map V.str)),?_,?_⟩
 ·have e0:=KA.h.get 0 rfl
  refine ⟨_,rfl,g.kd,_,rfl,yg e0 (Yi ..),_,rfl,g.kd,_,rfl,yg e0 (Y7 ..),g.na,g.ca,_,_,rfl,rfl,KA.h.get 2 rfl,KA.h.get 4 rfl,by rw [Jj,Jj];omega,λol nol=>?_⟩;obtain ⟨so,eo⟩:=yA (H:=H) (t:=ol) rfl nol;generalize upd H ol _=H1 at so eo ⊢;obtain ⟨B1,s1,KA1,ov⟩:=KA.over so;refine ⟨B1,ol,rfl,s1,KA1,?_⟩;rw [Jl];refine ov _ _ eo λmm=>?_;obtain ⟨p,mp,ep⟩:=List.mem_map.mp mm;have:=KA.h.st p mp;rw [ep,nol] at this;cases this
 rintro σ J ⟨B1,ol,rfl,s1,KA1,eol⟩;refine ⟨_,rfl,_,_,rfl,rfl,⟨by decide,by decide⟩,?_⟩;have e0:=KA1.h.get 0 rfl
 have nol:∀ (p:Ad×HO),p∈(g.L W lines hts bts (oV oa W.own) nv++oLs oa W.own)->p.1≠ol:=λp mp z=>by
  have:=KA1.h.nw p mp;rw [z,eol] at this;cases this
 refine ⟨λb H'=>H'=J/\(b=true->W.names.length<12),?_,?_⟩
 ·refine ⟨_,rfl,_,_,rfl,rfl,(by show (0:Int)<3;decide),_,_,rfl,rfl,_,rfl,?_⟩
  refine xL (λ_=>?_) (λ_=>⟨rfl,λz=>by cases z⟩);refine ⟨_,rfl,g.kd,_,rfl,yg e0 (Yi ..),g.na,_,rfl,.inl (SqL.of (KA1.h.get 2 rfl)),_,_,rfl,rfl,_,rfl,rfl,λz=>?_⟩;rw [Jj] at z;have:=of_decide_eq_true z;omega
 rintro b H' ⟨rfl,hb⟩;refine xL (λbt=>?_) (λ_=>?_)
 ·have l12:=hb bt
  refine ⟨_,rfl,_,rfl,ol,_,_,rfl,SqL.of (KA1.h.sm _ _ eol),KA1.gn,by rw [Jk];omega,λx H2 g1 g2 g3 s2=>?_⟩;have hx:NmK x:=⟨g1,g3⟩;obtain ⟨B2,sB2,KA2,ov2⟩:=KA1.over s2;refine ⟨_,rfl,_,_,rfl,λmx mxp mxl=>⟨_,_,rfl,rfl,(by show (0:Int)<400;decide),_,_,rfl,rfl,?_⟩⟩;have h4:0<=mx % 400/\mx % 400<400:=⟨Int.emod_nonneg _ (by decide),Int.emod_lt_of_pos _ (by decide)⟩;obtain ⟨n,en,n1,n4⟩:∃ n:Int,mx % 400+1=n/\1<=n/\n<=400:=⟨_,rfl,by omega,by omega⟩;rw [en];refine ⟨_,rfl,_,rfl,_,rfl,n,rfl,by omega,by omega,szU 3,λwl nwl=>⟨_,rfl,?_⟩⟩;obtain ⟨sw,ew⟩:=yA (H:=H2) (t:=wl) (o:=.lst [.str "row",.str x,.str (numS n)]) rfl nwl;generalize upd H2 wl _=H3 at sw ew ⊢;obtain ⟨B3,sB3,KA3,ov3⟩:=KA2.over sw
  have ewB:B3 wl=some (.lst (([("row":Str),x,numS n]).map V.str)):=ov3 _ _ ew λmm=>by
   obtain ⟨p,mp,ep⟩:=List.mem_map.mp mm;have:=KA2.h.st p mp;rw [ep,nwl] at this;cases this
  refine ⟨g.kd,g.li,wl,_,_,_,lines,B3,_,rfl,KA3.h,zah ..,ewB,λw mw=>?_,(by show 3<=500;decide),by omega,λbl z H4 b1 b2 e1 e2 hd4=>?_⟩
  ·simp only [List.mem_cons,List.not_mem_nil,or_false] at mw
   rcases mw with rfl | rfl | rfl
   ·exact ⟨.inr (.inr ⟨by decide,by unfold SgnN;decide⟩),by decide⟩
   ·exact hx.wl
   ·exact (YA (by omega) (by omega)).2.2.2
  have f0:=hd4.get 0 rfl;refine ⟨_,rfl,g.kd,_,rfl,yg f0 (Yi ..),tyL (hd4.get 2 rfl),_,rfl,g.na,_,_,rfl,rfl,hd4.get 2 rfl,by rw [Jj];omega,?_⟩;have hd5:=hd4.put (o':=.lst (W.names.map V.str++[.str x])) 2 rfl;have f5:=hd5.get 0 rfl;refine ⟨_,rfl,g.kd,_,rfl,yg f5 (kg_lens ..),tyL (hd5.get 3 rfl),_,rfl,g.le,_,_,rfl,rfl,hd5.get 3 rfl,by rw [Jj,KA.w.nl];omega,?_⟩;have hd6:=hd5.put (o':=.lst (W.lens.map V.int++[.int n])) 3 rfl;have em:∀ y∈W.names.map V.str,True:=λ_ _=>trivial;refine q B3 (W.row x n) (lines++bl++[z]) _ (s1.trans (sB2.trans sB3)) ⟨hts,bts,oa,nv,⟨?_,KA3.ne,KA3.fa,KA3.n0,KA3.f0,KA3.hl,KA3.ht,KA3.bl,KA3.bt,KA3.w.row ho hx g2 l12,?_⟩,λz=>absurd ho z⟩ (by rw [Jk,Jk];show _+_+1<=_;omega)
  ·have e1':(W.names++[x]).map V.str=W.names.map V.str++[.str x]:=by rw [Jl];rfl
   have e2':(W.lens++[n]).map V.int=W.lens.map V.int++[.int n]:=by rw [Jl];rfl
   dsimp only [Kg.L,Kw.row];rw [e1',e2'];exact hd6
  ·exact (blanks KA3.t b2).snoc e2 (row_line KA3.w e1 hx n1 n4 g2 l12)
 ·refine ⟨_,rfl,g.kd,_,rfl,yg e0 (Y7 ..),g.ca,_,rfl,.inl (SqL.of (KA1.h.get 4 rfl)),_,_,rfl,rfl,_,rfl,?_⟩
  rw [Jj];refine xL (λlt8=>?_) (λ_=>?_)
  ·have lt8:W.calls.length<8:=by have:=of_decide_eq_true lt8;omega
   refine ⟨_,rfl,_,_,rfl,rfl,⟨by decide,by decide⟩,_,rfl,ol,_,_,rfl,SqL.of (KA1.h.sm _ _ eol),KA1.gn,by rw [Jk];omega,λx H2 g1 g2 g3 s2=>?_⟩;have hx:NmK x:=⟨g1,g3⟩;obtain ⟨B2,sB2,KA2,ov2⟩:=KA1.over s2;have h2:Hd B2 (g.L W lines hts bts .non nv++[]) H2:=by have:=KA2.h;rw [ho] at this;exact this
   refine ⟨_,rfl,g.kd,_,rfl,DPut.k (k:=.inr "new") (h2.get 0 rfl) (by show 11<sizeLine;omega),?_⟩;rw [kv_new];have h3:=h2.put (o':=.dK (g.kv .non (.str x))) 0 rfl;refine ⟨szU 0,λoa2 noa=>?_⟩;have h4:=h3.new (o:=.lst []) noa;refine ⟨_,rfl,g.kd,_,rfl,DPut.k (k:=.inr "own") (h4.get 1 rfl) (by show 11<sizeLine;omega),?_⟩;rw [kv_own];have h5:=h4.put (o':=.dK (g.kv (.ref oa2) (.str x))) 1 rfl;have h6:Hd B2 (g.L W lines hts bts (.ref oa2) (.str x)++[(oa2,.lst (([]:Jg).map V.str))]) _:=h5.perm (List.perm_append_comm (l₁:=[(oa2,HO.lst [])]));have nd0:(W.names++W.calls).Nodup:=by have:=KA.w.nd;rw [ho] at this;have this:(W.names++W.calls++[]).Nodup:=this;rwa [q3y] at this
   have KA6:KwAt B2 g (W.ownW []) lines hts bts oa2 (.str x) _:=⟨h6,KA2.ne,KA2.fa,KA2.n0,KA2.f0,KA2.hl,KA2.ht,KA2.bl,KA2.bt,KA2.w.ownW ho (λz m=>nomatch m) (by rw [q3y];exact nd0) (by decide),KA2.t⟩;generalize (upd (upd (upd H2 g.kd _) oa2 _) g.kd _)=H6 at KA6 ⊢;have g7:0<=c / 3 % 7/\c / 3 % 7<7:=⟨Int.emod_nonneg _ (by decide),Int.emod_lt_of_pos _ (by decide)⟩;have eol2:B2 ol=some (.lst ((W.names++W.calls).map V.str)):=sB2 _ _ eol;refine ⟨_,rfl,_,_,rfl,rfl,(by show (0:Int)<7;decide),_,rfl,(by show -(2 ^ 62)<=c / 3 % 7;omega),(by show c / 3 % 7<2 ^ 62;omega),?_⟩;refine Zr (n:=(c / 3 % 7).toNat) (λi σ J=>∃ (B3:Hp) (o:Jg) (u6 u7:Jp),σ=[rq g.kd,iq c,rq ol,iq (c / 3),none,none,u6,u7]/\Same B2 B3/\KwAt B3 g (W.ownW o) lines hts bts oa2 (.str x) J/\o.length=i/\x ∉ W.names++W.calls++o) ⟨B2,[],none,none,rfl,Same.refl _,KA6,rfl,by rw [q3y];exact g2⟩ ?_ ?_
   ·rintro i σ J hi ⟨B3,o,u6,u7,rfl,sB3,KA7,ol7,nx7⟩
    refine ⟨_,rfl,_,rfl,_,_,rfl,rfl,_,_,rfl,λmx mxp mxl=>?_⟩;have f0:=KA7.h.get 0 rfl;have fo:J oa2=some (.lst (o.map V.str)):=KA7.h.get 8 rfl;have fol:=KA7.h.sm _ _ (sB3 _ _ eol2);refine ⟨_,rfl,g.kd,_,rfl,yg f0 (Yh ..),tyL fo,_,rfl,_,rfl,_,rfl,g.kd,_,rfl,yg f0 (kg_new ..),szU 1,λnl nnl=>?_⟩;obtain ⟨sn,en⟩:=yA (H:=J) (t:=nl) rfl nnl;generalize upd J nl _=J2 at sn en ⊢;refine ⟨ol,nl,_,_,rfl,rfl,sn _ _ fol,en,(by rw [Jj,Jk];show _+1<=_;omega),λp np=>?_⟩;obtain ⟨sp,ep⟩:=yA (H:=J2) (t:=p) rfl np;generalize upd J2 p _=J3 at sp ep ⊢;have s3:=sn.trans sp;refine ⟨_,rfl,g.kd,_,rfl,yg (s3 _ _ f0) (Yh ..),p,oa2,_,_,rfl,rfl,ep,s3 _ _ fo,(by rw [Jk,Jj,Jj,Jk];show _+1+_<=_;omega),λr nr=>?_⟩;obtain ⟨sr,er⟩:=yA (H:=J3) (t:=r) rfl nr;generalize upd J3 r _=J4 at sr er ⊢;have eos:(((W.names++W.calls)++[x]++o).map V.str)=(W.names++W.calls).map V.str++[.str x]++o.map V.str:=by rw [Jl,Jl];rfl
    have go:∀ z∈o,NmK z:=λz m=>KA7.w.g z (q2y _ m);refine ⟨r,(W.names++W.calls)++[x]++o,mx,rfl,SqL.of (by rw [eos];exact er),λz m=>?_,by rw [Jk,Jk,Jk];show _+1+_<=100;omega,λy J5 y1 y2 y3 s5=>?_⟩
    ·rcases List.mem_append.mp m with m | m
     ·rcases List.mem_append.mp m with m | m
      ·exact KA1.gn z m
      ·cases List.mem_singleton.mp m;exact hx.1
     ·exact (go z m).1
    have hy:NmK y:=⟨y1,y3⟩;obtain ⟨B4,sB4,KA8,_⟩:=KA7.over (s3.trans (sr.trans s5));have h8:Hd B4 (g.L W lines hts bts (.ref oa2) (.str x)++[(oa2,.lst (o.map V.str))]) J5:=KA8.h;refine ⟨oa2,_,_,rfl,rfl,h8.get 8 rfl,by rw [Jj];omega,B4,o++[y],_,_,rfl,sB3.trans sB4,?_,by rw [Jk,ol7];rfl,λm=>?_⟩
    ·have yn:y ∉ W.names++W.calls:=λm=>y2 (List.mem_append_left _ (List.mem_append_left _ m))
     have yo:y ∉ o:=λm=>y2 (q2y _ m);have yx:y≠x:=λe=>y2 (List.mem_append_left _ (q2y _ (by rw [e];exact q1z)));have nd7:(W.names++W.calls++o).Nodup:=KA7.w.nd;have nda:=List.nodup_append.mp nd7;refine ⟨?_,KA8.ne,KA8.fa,KA8.n0,KA8.f0,KA8.hl,KA8.ht,KA8.bl,KA8.bt,KA2.w.ownW ho (λz m=>?_) ?_ (by rw [Jk];show _+1<=6;omega),KA8.t⟩
     ·show Hd B4 (g.L W lines hts bts (.ref oa2) (.str x)++[(oa2,.lst ((o++[y]).map V.str))]) _
      rw [Jl];exact h8.put 8 rfl
     ·rcases List.mem_append.mp m with m | m
      ·exact go z m
      ·cases List.mem_singleton.mp m;exact hy
     ·rw [← List.append_assoc]
      refine List.nodup_append.mpr ⟨nd7,by simp,λa ma b mb e=>?_⟩;cases List.mem_singleton.mp mb;subst e;rcases List.mem_append.mp ma with ma | ma
      ·exact yn ma
      ·exact yo ma
    ·rw [← List.append_assoc] at m
     rcases List.mem_append.mp m with m | m
     ·exact nx7 m
     ·have:y≠x:=λe=>y2 (List.mem_append_left _ (q2y _ (by rw [e];exact q1z)))
      exact this (List.mem_singleton.mp m).symm
   ·rintro σ J ⟨B3,o,u6,u7,rfl,sB3,KA7,ol7,nx7⟩
    exact q B3 (W.ownW o) lines J (s1.trans (sB2.trans sB3)) ⟨hts,bts,oa2,.str x,KA7,λ_=>⟨x,rfl,hx,nx7,lt8⟩⟩ (by omega)
  ·exact q B1 W lines _ s1 ⟨hts,bts,oa,nv,KA1,λz=>absurd ho z⟩ (by omega)
def Yk {α:Type} (l r:List α) (i:Nat) (d:α) (h:i<l.length):(l++r).getD i d=l.getD i d:=by
 rw [q1x,q1x,q3z h]
def ZQ {α:Type} (l:List α) (x d:α):(l++[x]).getD l.length d=x:=by
 rw [q1x,List.getElem?_append_right (Nat.le_refl _),Nat.sub_self];rfl
def za5 {fs:List F2.Fn} {v:(Nat->Int)->F2.Fm->Int} {S T:Nat->Int} {m:Nat} {F:F2.Fm} (hv:∀ {S T:Nat->Int} {n:Nat},(∀ i,i<n->S i=T i)->∀ {F:F2.Fm},F2.CL n F->v S F=v T F) (h:F2.Told fs v S) (l:fs.length<8) (e:∀ i,i<fs.length->T i=S i) (eT:T fs.length=v S F) (c:F2.CL fs.length F) (n:F2.nodes F<=2000):F2.Told (fs++[(m,F)]) v T:=by
 have bo:∀ i,i<fs.length->F2.body (fs++[(m,F)]) i=F2.body fs i:=λi hi=>by unfold F2.body;rw [Yk _ _ _ _ hi]
 have bl:F2.body (fs++[(m,F)]) fs.length=F:=by unfold F2.body;rw [ZQ]
 have cases':∀ i,i<(fs++[(m,F)]).length->i<fs.length∨i=fs.length:=λi hi=>by rw [Jk,List.length_singleton] at hi;omega
 refine ⟨by rw [Jk];show _+1<=_;omega,λi hi=>?_,λi hi=>?_,λi hi=>?_⟩
 ·rcases cases' i hi with h1 | rfl
  ·rw [bo i h1,e i h1,h.eq i h1]
   exact (hv (n:=i) (λj hj=>e j (by omega)) (h.cl i h1)).symm
  ·rw [bl,eT]
   exact (hv (n:=fs.length) (λj hj=>e j hj) c).symm
 ·rcases cases' i hi with h1 | rfl
  ·rw [bo i h1];exact h.cl i h1
  ·rw [bl];exact c
 ·rcases cases' i hi with h1 | rfl
  ·rw [bo i h1];exact h.nd i h1
  ·rw [bl];exact n
def XO {α β:Type} {l:List α} {r:List β} (x:α) (y:β) (h:l.length=r.length):(l++[x]).zip (r++[y])=l.zip r++[(x,y)]:=by
 rw [List.zip_append h];rfl
def Kw.fn (W:Kw) (x:Str) (o:Jg) (p:Pt):Kw:={ W with calls:=W.calls++[x],counts:=W.counts++[o.length],heads:=W.heads++[(p.s,p.d)],bodies:=W.bodies++[p.F],own:=none }
def Kw.fnD {W:Kw} (h:W.Ok) (x:Str) (o:Jg) (p:Pt):(W.fn x o p).D=W.D.def_ x o p.F:=by
 show Dr.mk _ _ ((W.calls++[x]).zip (W.counts++[o.length])) ((W.counts++[o.length]).zip (W.bodies++[p.F]))=_;rw [XO _ _ h.cl.symm,XO _ _ (by rw [h.cl,h.bl])];rfl
def Kw.Ok.fnsl {W:Kw} (h:W.Ok):W.fns.length=W.calls.length:=by
 show (W.counts.zip W.bodies).length=_;rw [List.length_zip,h.cl,h.bl,Nat.min_self]
def Kw.Ok.fn {W:Kw} (h:W.Ok) {o:Jg} (ho:W.own=some o) {x:Str} (hx:NmK x) (nx:x ∉ W.names++W.calls++o) {p:Pt} (hp:PtOk W p) (l8:W.calls.length<8):(W.fn x o p).Ok:=by
 have n0:(W.names++W.calls++o).Nodup:=by have:=h.nd;rw [ho] at this;exact this
 have nda:=List.nodup_append.mp (List.nodup_append.mp n0).1;have o6:o.length<=6:=by have:=h.o6;rw [ho] at this;exact this
 have nn:=F2.nodes_sz h.nn p.F;have hs:=hp.s;have hs60:=hp.s60;have np:0<=p.s:=by omega
 have dp0:=F2.dp_nn (Dof W.heads) p.F;have hd:=hp.d;have fl:=h.fnsl;have ef:(W.fn x o p).fns=W.fns++[(o.length,p.F)]:=XO _ _ (by rw [h.cl,h.bl]);have hl:=h.hl;refine ⟨λz m=>?_,?_,?_,?_,?_,h.nl,h.n12,?_,λk m=>?_,by show 0<=6;decide,h.near,h.far,?_,?_,λi=>?_,λi=>?_⟩
 ·have m:z∈W.names++(W.calls++[x])++[]:=m
  rw [q3y] at m;rcases List.mem_append.mp m with m | m
  ·exact h.g z (List.mem_append_left _ (List.mem_append_left _ m))
  ·rcases List.mem_append.mp m with m | m
   ·exact h.g z (List.mem_append_left _ (q2y _ m))
   ·cases List.mem_singleton.mp m;exact hx
 ·show (W.names++(W.calls++[x])++[]).Nodup
  rw [q3y];refine List.nodup_append.mpr ⟨nda.1,List.nodup_append.mpr ⟨nda.2.1,by simp,λa ma b mb e=>?_⟩,λa ma b mb e=>?_⟩
  ·cases List.mem_singleton.mp mb;subst e;exact nx (List.mem_append_left _ (q2y _ ma))
  ·subst e
   rcases List.mem_append.mp mb with mb | mb
   ·exact nda.2.2 a ma a mb rfl
   ·cases List.mem_singleton.mp mb;exact nx (List.mem_append_left _ (List.mem_append_left _ ma))
 ·show (W.counts++[o.length]).length=(W.calls++[x]).length
  rw [Jk,Jk,h.cl];rfl
 ·show (W.heads++[(p.s,p.d)]).length=(W.calls++[x]).length
  rw [Jk,Jk,h.hl];rfl
 ·show (W.bodies++[p.F]).length=(W.calls++[x]).length
  rw [Jk,Jk,h.bl];rfl
 ·show (W.calls++[x]).length<=8
  rw [Jk];show _+1<=_;omega
 ·rcases List.mem_append.mp (show k∈W.counts++[o.length] from m) with m | m
  ·exact h.c6 k m
  ·cases List.mem_singleton.mp m;exact o6
 ·rw [ef]
  refine za5 F2.sz_congr h.ts (by omega) (λi hi=>?_) ?_ (by rw [fl];exact hp.c) (by omega)
  ·show ((W.heads++[(p.s,p.d)]).getD i (0,0)).1=_
   rw [Yk _ _ _ _ (by omega)];rfl
  ·show ((W.heads++[(p.s,p.d)]).getD W.fns.length (0,0)).1=_
   rw [fl,← hl,ZQ];exact hs
 ·rw [ef]
  refine za5 F2.dp_congr h.td (by omega) (λi hi=>?_) ?_ (by rw [fl];exact hp.c) (by omega)
  ·show ((W.heads++[(p.s,p.d)]).getD i (0,0)).2=_
   rw [Yk _ _ _ _ (by omega)];rfl
  ·show ((W.heads++[(p.s,p.d)]).getD W.fns.length (0,0)).2=_
   rw [fl,← hl,ZQ];exact hd
 ·show 0<=((W.heads++[(p.s,p.d)]).getD i (0,0)).1
  by_cases hi:i<W.heads.length
  ·rw [Yk _ _ _ _ hi];exact h.nn i
  ·by_cases hi2:i=W.heads.length
   ·subst hi2;rw [ZQ];exact np
   ·rw [q1x,List.getElem?_eq_none (by rw [Jk];show _+1<=_;omega)];exact Int.le_refl _
 ·show 0<=((W.heads++[(p.s,p.d)]).getD i (0,0)).2
  by_cases hi:i<W.heads.length
  ·rw [Yk _ _ _ _ hi];exact h.nnd i
  ·by_cases hi2:i=W.heads.length
   ·subst hi2;rw [ZQ];show 0<=p.d;omega
   ·rw [q1x,List.getElem?_eq_none (by rw [Jk];show _+1<=_;omega)];exact Int.le_refl _
def fn_line {W:Kw} (h:W.Ok) {o:Jg} (ho:W.own=some o) {x:Str} (hx:NmK x) (nx:x ∉ W.names++W.calls++o) {p:Pt} (hp:PtOk W p) (l8:W.calls.length<8) {z:Str} (hz:z.length<=15000) (hw:yB z=("def":Str)::x::(o++("=":Str)::p.ws)) (g:∀ w∈yB z,WG w/\w.length<=20):LineD W.D z (W.fn x o p).D:=by
 rw [Kw.fnD h];have n0:(W.names++W.calls++o).Nodup:=by have:=h.nd;rw [ho] at this;exact this
 have nda:=List.nodup_append.mp n0;have go:∀ y∈o,NmK y:=λy m=>h.g y (q2y _ (by rw [ho];exact m));have o6:o.length<=6:=by have:=h.o6;rw [ho] at this;exact this
 have rd:=hp.rd 30 [] hp.b30;rw [q3y] at rd;have eR:W.R=⟨W.D.rows,W.D.heads,some o⟩:=by unfold Kw.R;rw [ho];rfl
 rw [eR] at rd;have nn:=F2.nodes_sz h.nn p.F;have hs:=hp.s;have hs60:=hp.s60;have hd:=hp.d;have hd7:=hp.d7;have fl:=h.fnsl;refine .fn x o p.ws p.F (Sof W.heads) (Dof W.heads) hw hx rd ⟨xA λm=>nx (List.mem_append_left _ (List.mem_append_left _ m)),by rw [Xm h];exact xA λm=>nx (List.mem_append_left _ (q2y _ m)),λy m=>(go y m).nm,nda.2.1,λm=>nx (q2y _ m),λy m=>xA λm2=>nda.2.2 y (List.mem_append_left _ m2) y m rfl,λy m=>by rw [Xm h];exact xA λm2=>nda.2.2 y (q2y _ m2) y m rfl,o6,by show W.fns.length<8;omega,⟨by show W.fns.length<=8;omega,h.ts,h.td,λF m=>?_,λF m=>?_,λF m=>?_,λF m=>?_⟩⟩ λy m=>Nat.le_trans (g y m).2 (by decide)
 ·cases List.mem_singleton.mp m;show F2.CL W.fns.length p.F;rw [fl];exact hp.c
 ·cases List.mem_singleton.mp m;omega
 ·cases List.mem_singleton.mp m;omega
 ·cases List.mem_singleton.mp m;omega
inductive spCl (vs:Jo) (H:Hp) (Q:VK) (_:XK):Prop
 | mk (c:Int) (B:Hp) (g:Kg) (W:Kw) (lines o:Jg) (p:PtA) (_:vs=[.ref g.kd,.ref p.x,.int c]) (_:OpS B g W lines H) (_:W.own=some o) (_:lines.length<=900) (_:PtAs B p) (_:PtOk W p.p) (_:∀ B' W' lines' H',Same B B'->OpS B' g W' lines' H'->W'.own=none->lines'.length<=lines.length+2->Q .non H')
def ok_closed (d:zB K mg "_law_closed" Z1 ["_law_known","_law_top","_law_cell"]) (hlen:mg "len"=none) (LN:Ok P w K mg base CX0 3 "_law_lined" ["_law_known","_law_words","_law_cell"] spLn):Ok P w K mg base CX0 4 "_law_closed" ["_law_known","_law_top","_law_cell"] spCl:=by
 obtain ⟨f,fd,m,F,bd⟩:=d;refine ⟨f,fd,m,F.kp,bd,F.ok sc_l_closed (by rintro vs H Q E ⟨_,_,_,_,_,_,_,e,_⟩;rw [e];rfl) λcdv A outer s H vs Q E hr h=>?_⟩;obtain ⟨c,B,g,W,lines,o,pt,rfl,OS,ho,l9,paB,po,q⟩:=h;have hr3:Room 3 _:=hr;have hu:=Nat.lt_of_le_of_lt (Nat.add_le_add_left (show 1<=64 by decide) _) hr.units;have nd:=sc_l_closed.nd;have SL:(100000:Nat)<sizeLine:=by decide
 obtain ⟨hts,bts,oa,nv,KA,hnv⟩:=OS.ex;clear OS;have pa:=paB.same KA.h.sm;obtain ⟨x,rfl,hx,nx,l8⟩:=hnv (by rw [ho];exact λz=>by cases z);rw [ho] at nx;have nx:x ∉ W.names++W.calls++o:=nx;have o6:o.length<=6:=by have:=KA.w.o6;rw [ho] at this;exact this
 have wl360:pt.p.ws.length<=360:=by
  have a:=po.l;have b:=F2.nodes_sz KA.w.nn pt.p.F;have c:=po.s60;have e:=po.s;omega
 have hH:Hd B (g.L W lines hts bts (.ref oa) (.str x)++[(oa,.lst (o.map V.str))]) H:=by have:=KA.h;rw [ho] at this;exact this
 have f0:=hH.get 0 rfl;have fo:H oa=some (.lst (o.map V.str)):=hH.get 8 rfl;refine ⟨_,(zb (zq (i:=3) nd rfl (Or.inl rfl) (zA xC (zA xC (zA xC (zN (za zk (za (zJ hu (pv 0) zk (λ_ _=>rfl)) zc))) (zJ hu (pv 0) zk (λ_ _=>rfl))) (zN (za zk zc))) (zn zy (pv 1) zd (λ_ _=>rfl))))
   (zb (zY (zx LN hr3 (by rfl) zE (za (pv 0) (za (pv 3) (za (pv 2) zc)))))
   (zb (zY (xB PySem.F.plainAttrs_list PySem.F.slot_list_append PySem.F.type_list_append yh (zJ hu (pv 0) zk (λ_ _=>rfl)) (za (zJ hu (pv 0) zk (λ_ _=>rfl)) zc)))
   (zb (zY (xB PySem.F.plainAttrs_list PySem.F.slot_list_append PySem.F.type_list_append yh (zJ hu (pv 0) zk (λ_ _=>rfl)) (za (zf zj (by rfl) hlen PySem.boot_len (za (zJ hu (pv 0) zk (λ_ _=>rfl)) zc)) zc)))
   (zb (zY (xB PySem.F.plainAttrs_list PySem.F.slot_list_append PySem.F.type_list_append yh (zJ hu (pv 0) zk (λ_ _=>rfl)) (za (yG (za (zn zy (pv 1) zd (λ_ _=>rfl)) (za (zn zy (pv 1) zd (λ_ _=>rfl)) zc))) zc)))
   (zb (zY (xB PySem.F.plainAttrs_list PySem.F.slot_list_append PySem.F.type_list_append yh (zJ hu (pv 0) zk (λ_ _=>rfl)) (za (zn zy (pv 1) zd (λ_ _=>rfl)) zc)))
   (ze (y4 hu (pv 0) zk xi rfl)))))))),?_⟩
 refine ⟨_,rfl,g.kd,_,rfl,yg f0 (kg_new ..),szU 2,λa1 n1=>?_⟩;obtain ⟨s1,e1⟩:=yA (H:=H) (t:=a1) rfl n1;generalize upd H a1 _=H1 at s1 e1 ⊢;refine ⟨_,rfl,g.kd,_,rfl,yg (s1 _ _ f0) (Yh ..),a1,oa,_,_,rfl,rfl,e1,s1 _ _ fo,(by rw [Jj];show 2+_<=_;omega),λa2 n2=>?_⟩;obtain ⟨s2,e2⟩:=yA (H:=H1) (t:=a2) rfl n2;generalize upd H1 a2 _=H2 at s2 e2 ⊢;refine ⟨szU 1,λa3 n3=>?_⟩;obtain ⟨s3,e3⟩:=yA (H:=H2) (t:=a3) rfl n3;generalize upd H2 a3 _=H3 at s3 e3 ⊢;refine ⟨a2,a3,_,_,rfl,rfl,s3 _ _ e2,e3,(by rw [Jk,Jj];show 2+_+1<=_;omega),λa4 n4=>?_⟩;obtain ⟨s4,e4⟩:=yA (H:=H3) (t:=a4) rfl n4;generalize upd H3 a4 _=H4 at s4 e4 ⊢;have s04:=s1.trans (s2.trans (s3.trans s4));have pa4:=pa.same s04;refine ⟨_,rfl,pt.x,_,_,_,rfl,rfl,SqT.of pa4.t,rfl,a4,pt.wa,_,_,rfl,rfl,e4,pa4.w,(by rw [Jk,Jk,Jj,Jj];show 2+_+1+_<=_;omega),λa5 n5=>?_⟩;obtain ⟨s5,e5⟩:=yA (H:=H4) (t:=a5) rfl n5;generalize upd H4 a5 _=H5 at s5 e5 ⊢;have s05:=s04.trans s5;have n5H:H a5=none:=s04.free n5;obtain ⟨B1,eB1⟩:∃ B1,B1=ext B H H5:=⟨_,rfl⟩;have KA1:=KA.ext s05;have sB1:Same B (ext B H H5):=yc KA.h.sm;have ews:(([("def":Str),x]++o++[("=":Str)]++pt.p.ws).map V.str)=[V.str "def",V.str x]++o.map V.str++[V.str "="]++pt.p.ws.map V.str:=by rw [Jl,Jl,Jl];rfl
 have e5B:ext B H H5 a5=some (.lst (([("def":Str),x]++o++[("=":Str)]++pt.p.ws).map V.str)):=by rw [ews,yk n5H];exact e5
 rw [← eB1] at KA1 sB1 e5B;clear eB1;have pa1:=paB.same sB1;have hH1:Hd B1 (g.L W lines hts bts (.ref oa) (.str x)++[(oa,.lst (o.map V.str))]) H5:=by have:=KA1.h;rw [ho] at this;exact this
 have go:∀ y∈o,NmK y:=λy m=>KA.w.g y (q2y _ (by rw [ho];exact m))
 have wg:∀ y∈[("def":Str),x]++o++[("=":Str)]++pt.p.ws,WG y/\y.length<=20:=λy m=>by
  rcases List.mem_append.mp m with m | m
  ·rcases List.mem_append.mp m with m | m
   ·rcases List.mem_append.mp m with m | m
    ·simp only [List.mem_cons,List.not_mem_nil,or_false] at m
     rcases m with rfl | rfl
     ·exact ⟨.inr (.inr ⟨by decide,by unfold SgnN;decide⟩),by decide⟩
     ·exact hx.wl
    ·exact (go y m).wl
   ·cases List.mem_singleton.mp m;exact ⟨.inr (.inr ⟨by decide,by unfold SgnN;decide⟩),by decide⟩
  ·exact po.g y m
 refine ⟨_,rfl,_,rfl,_,rfl,g.kd,g.li,a5,c,_,[("def":Str),x]++o++[("=":Str)]++pt.p.ws,lines,B1,_,rfl,hH1,zah ..,e5B,wg,(by rw [Jk,Jk,Jk];show 2+_+1+_<=_;omega),by omega,λbl z H6 b1 b2 w1 w2 hd6=>?_⟩;have hw:yB z=("def":Str)::x::(o++("=":Str)::pt.p.ws):=by rw [w1];simp
 have hd6:Hd B1 (g.L W (lines++bl++[z]) hts bts (.ref oa) (.str x)++[(oa,.lst (o.map V.str))]) H6:=hd6;have x0:=hd6.get 0 rfl;refine ⟨_,rfl,g.kd,_,rfl,yg x0 (Y7 ..),tyL (hd6.get 4 rfl),_,rfl,g.kd,_,rfl,yg x0 (kg_new ..),g.ca,_,_,rfl,rfl,hd6.get 4 rfl,by rw [Jj];omega,?_⟩;have hd7:=hd6.put (o':=.lst (W.calls.map V.str++[.str x])) 4 rfl;generalize upd H6 g.ca _=H7 at hd7 ⊢;have x7:=hd7.get 0 rfl;have xo:H7 oa=some (.lst (o.map V.str)):=hd7.get 8 rfl;refine ⟨_,rfl,g.kd,_,rfl,yg x7 (Xj ..),tyL (hd7.get 5 rfl),_,rfl,g.kd,_,rfl,yg x7 (Yh ..),oa,_,rfl,.inl (SqL.of xo),g.co,_,_,rfl,rfl,hd7.get 5 rfl,by rw [Jj,KA.w.cl];omega,?_⟩;rw [Jj];have hd8:=hd7.put (o':=.lst ((W.counts.map λk:Nat=>V.int k)++[.int (o.length:Nat)])) 5 rfl;generalize upd H7 g.co _=H8 at hd8 ⊢;have x8:=hd8.get 0 rfl;have p8:=(pa1.same hd8.sm);refine ⟨_,rfl,g.kd,_,rfl,yg x8 (zdx ..),tyL (hd8.get 6 rfl),_,rfl,pt.x,_,_,_,rfl,rfl,SqT.of p8.t,rfl,_,rfl,pt.x,_,_,_,rfl,rfl,SqT.of p8.t,rfl,szU 2,λth nth=>?_⟩;have hd9:=hd8.grow (o:=.tup [.int pt.p.s,.int pt.p.d]) nth;have sB9:Same B1 (upd B1 th (.tup [.int pt.p.s,.int pt.p.d])):=yq (Same.refl _) (hd8.free nth);have eth:(upd B1 th (.tup [.int pt.p.s,.int pt.p.d])) th=some (.tup [.int pt.p.s,.int pt.p.d]):=zr;generalize upd B1 th (.tup [.int pt.p.s,.int pt.p.d])=B9 at hd9 sB9 eth;generalize upd H8 th (.tup [.int pt.p.s,.int pt.p.d])=H9 at hd9 ⊢;refine ⟨g.he,_,_,rfl,rfl,hd9.get 6 rfl,by rw [Jj,KA.hl,KA.w.hl];omega,?_⟩;have hd10:=hd9.put (o':=.lst (hts.map V.ref++[.ref th])) 6 rfl;generalize upd H9 g.he _=H10 at hd10 ⊢;have x10:=hd10.get 0 rfl;have p10:=(pa1.same sB9).same hd10.sm;refine ⟨_,rfl,g.kd,_,rfl,yg x10 (zbj ..),tyL (hd10.get 7 rfl),_,rfl,pt.x,_,_,_,rfl,rfl,SqT.of p10.t,rfl,g.bo,_,_,rfl,rfl,hd10.get 7 rfl,by rw [Jj,KA.bl,KA.w.bl];omega,?_⟩;have hd11:=hd10.put (o':=.lst (bts.map V.ref++[.ref pt.da])) 7 rfl;generalize upd H10 g.bo _=H11 at hd11 ⊢;refine ⟨_,rfl,g.kd,_,rfl,DPut.k (k:=.inr "own") (hd11.get 0 rfl) (by show 11<sizeLine;omega),?_⟩;rw [kv_own];have hd12:=hd11.put (o':=.dK (g.kv .non (.str x))) 0 rfl;refine q B9 (W.fn x o pt.p) (lines++bl++[z]) _ (sB1.trans sB9) ⟨hts++[th],bts++[pt.da],oa,.str x,⟨?_,sB9 _ _ KA1.ne,sB9 _ _ KA1.fa,KA1.n0,KA1.f0,?_,λi t e=>?_,?_,λi t e=>?_,KA.w.fn ho hx nx po l8,?_⟩,λz=>absurd rfl z⟩ rfl (by rw [Jk,Jk];show _+_+1<=_;omega)
 ·have c1:(W.calls++[x]).map V.str=W.calls.map V.str++[.str x]:=by rw [Jl];rfl
  have c2:((W.counts++[o.length]).map λk:Nat=>V.int k)=(W.counts.map λk:Nat=>V.int k)++[.int (o.length:Nat)]:=by rw [Jl];rfl
  have c3:(hts++[th]).map V.ref=hts.map V.ref++[.ref th]:=by rw [Jl];rfl
  have c4:(bts++[pt.da]).map V.ref=bts.map V.ref++[.ref pt.da]:=by rw [Jl];rfl
  show Hd B9 (g.L (W.fn x o pt.p) (lines++bl++[z]) (hts++[th]) (bts++[pt.da]) .non (.str x)++[]) _;dsimp only [Kg.L,Kw.fn];rw [c1,c2,c3,c4];exact hd12.sub (List.Sublist.append_left (List.nil_sublist _) _)
 ·show (hts++[th]).length=(W.heads++[(pt.p.s,pt.p.d)]).length
  rw [Jk,Jk,KA.hl];rfl
 ·show ∃ h,(W.heads++[(pt.p.s,pt.p.d)])[i]?=some h/\_
  by_cases hi:i<hts.length
  ·rw [q3z hi] at e
   obtain ⟨h,a,b⟩:=KA1.ht i t e;exact ⟨h,by rw [q3z (by rw [← KA.hl];exact hi)];exact a,sB9 _ _ b⟩
  ·have hl:=(List.getElem?_eq_some_iff.mp e).1
   rw [Jk,List.length_singleton] at hl;have hi2:i=hts.length:=by omega
   subst hi2;rw [List.getElem?_append_right (Nat.le_refl _),Nat.sub_self] at e;cases e;exact ⟨_,by rw [KA.hl,List.getElem?_append_right (Nat.le_refl _),Nat.sub_self];rfl,eth⟩
 ·show (bts++[pt.da]).length=(W.bodies++[pt.p.F]).length
  rw [Jk,Jk,KA.bl];rfl
 ·show ∃ F,(W.bodies++[pt.p.F])[i]?=some F/\_
  by_cases hi:i<bts.length
  ·rw [q3z hi] at e
   obtain ⟨h,a,b⟩:=KA1.bt i t e;exact ⟨h,by rw [q3z (by rw [← KA.bl];exact hi)];exact a,b.same sB9⟩
  ·have hl:=(List.getElem?_eq_some_iff.mp e).1
   rw [Jk,List.length_singleton] at hl;have hi2:i=bts.length:=by omega
   subst hi2;rw [List.getElem?_append_right (Nat.le_refl _),Nat.sub_self] at e;cases e;exact ⟨_,by rw [KA.bl,List.getElem?_append_right (Nat.le_refl _),Nat.sub_self];rfl,(pa1.d).same sB9⟩
 ·exact (blanks KA1.t b2).snoc w2 (fn_line KA.w ho hx nx po l8 w2.l hw (by rw [w1];exact wg))
def sum_le {l:Jg} {k:Nat} (h:∀ y∈l,y.length<=k):(l.map (·.length)).sum<=k*l.length:=by
 induction l with
 | nil=>exact Nat.zero_le _
 | cons a l ih =>
  have:=ih λy m=>h y (q1y _ m);have:=h a q1z;rw [List.map_cons,List.sum_cons,q3x,Nat.mul_add];omega
def join_ok {ls:Jg} (h:∀ y∈ls,y.length<=15000) (hl:ls.length<=300):JoinOk "\n" ls=true/\(Txt.join "\n" ls).length<=10000000:=by
 have s:=sum_le h;have SL:(16000000:Nat)<sizeLine:=by decide
 have n1:("\n":Str).length=1:=by decide
 constructor
 ·unfold JoinOk
  rw [StrLaws.joinTotal,n1];unfold Builtin.Str.tooLong;rw [Bool.not_eq_true',decide_eq_false_iff_not];omega
 ·show (Builtin.Str.glued "\n" ls).length<=_
  rw [StrLaws.glued_eq_join];have:=StrLaws.join_length_le "\n" ls;rw [n1] at this;omega
def backL:Jg->Jg
 | []=>[""]
 | l=>l
def zec {ls:Jg} (h:∀ y∈ls,10 ∉ lt' y):Txt.split (Txt.join "\n" ls) "\n"=backL ls:=by
 have e:("\n":Str)=⟨#[10]⟩:=by decide
 refine map_inj ?_;rw [e,YN];show yf 10 (lt' (Builtin.Str.glued _ ls))=_;rw [StrLaws.glued_eq_join,Xl]
 cases ls with
 | nil=>decide
 | cons x r =>
  have:=Xs (c:=10) (r.map lt') (lt' x) (h x q1z) λp m=>by
   obtain ⟨y,my,rfl⟩:=List.mem_map.mp m;exact h y (q1y _ my)
  exact this
def TextD.back {ls:Jg} {D:Dr} (h:TextD ls D):TextD (backL ls) D:=by
 cases ls with
 | nil =>
  obtain ⟨Ds,e0,e1,_⟩:=h.ex;have eD:D=⟨[],[],[],[]⟩:=by rw [← e1];exact e0
  rw [eD];exact TextD.nil.snoc (z:="") ⟨by decide,by decide⟩ (.blank (by decide +kernel))
 | cons x r=>exact h
theorem Xw:∀ (l:Jg) (i:Nat),(zS i l).map (λq=>kV q.1)=l.map V.str
 | [],_=>rfl
 | x::l,i=>by show V.str x::_=V.str x::_;rw [Xw l (i+1)]
structure ReadSo (c:F2.Cs) (CP CS:Ad) (D:Dr) (so:Ad) (H:Hp):Prop where
 ex:∃ (sd pr pd la lb lc na nl:Ad) (us:Jh),H so=some (.ins CS sd [("program",.ref pr),("names",.ref na),("lines",.ref nl)])/\H pr=some (.ins CP pd [("lengths",.ref la),("functions",.ref lb),("steps",.ref lc)])/\H la=some (.lst (D.lens.map V.int))/\H lb=some (.lst (us.map V.ref))/\H lc=some (.lst [])/\H na=some (.lst (D.rows.map V.str))/\H nl=some (.lst [])/\us.length=D.fns.length/\∀ (i:Nat) u,us[i]?=some u->∃ fn y,D.fns[i]?=some fn/\H u=some (.tup [.int fn.1,.ref y])/\F2.FormAt c H fn.2 y
def read_text {C aL CD CP CS:Ad} {c:F2.Cs} (dC:DCls K CD) (LR:LineFn P w K mg base aL 155 "row" (spRL K C c)) (LD:LineFn P w K mg base aL 155 "def" (spDL K C c)) {ls:Jg} {D:Dr} (h:TextD ls D) (hl:ls.length<=300) {H:Hp} {Q:VK} {E:XK} (q:∀ so H',Same H H'->ReadSo c CP CS D so H'->Q (.ref so) H'):spRead P w K mg base C aL CD CP CS 155 [.str (Txt.join "\n" ls)] H Q E:=by
 have jo:=join_ok (λy m=>(h.t y m).l) hl;have hb:=h.back;obtain ⟨Ds,e0,e1,e2⟩:=hb.ex
 have bl:(backL ls).length<=301:=by
  cases ls with
  | nil=>decide
  | cons x r=>show (x::r).length<=301;omega
 refine ⟨_,backL ls,λi B dg L=>∃ ts us l0,L=dg.L ts us (Ds i)++(dg.ta,.lst [])::dg.L0 l0/\DrAt B c dg (Ds i) ts us,rfl,zec λy m=>(h.t y m).f,jo.2,by omega,λy m=>(hb.t y m).l,?_,?_,?_,?_,?_⟩
 ·rintro i B B' dg L ⟨ts,us,l0,e,d⟩ s
  exact ⟨ts,us,l0,e,d.same s⟩
 ·rintro B dg l0 s eC ed
  refine ⟨[],[],l0,by rw [e0],?_⟩;rw [e0];exact ⟨ed,rfl,(λi t e=>by cases e),rfl,(λi t e=>by cases e),rfl,rfl,by decide,by decide,(λx m=>nomatch m)⟩
 ·rintro i y B dg L ey ⟨ts,us,l0,e,d⟩ wz
  have ld:=e2 i y ey;generalize Ds (i+1)=D2 at ld
  cases ld with
  | blank _=>exact ⟨ts,us,l0,e,d⟩
  | row x n hw=>rw [wz] at hw;cases hw
  | fn nm ps ws body S T hw=>rw [wz] at hw;cases hw
 ·rintro i y B dg L x r ey ⟨ts,us,l0,e,d⟩ wz ed eC
  have dCg:DCls K dg.C:=by rw [eC];exact dC
  have ld:=e2 i y ey;generalize Ds (i+1)=D2 at ld
  cases ld with
  | blank hw=>rw [wz] at hw;cases hw
  | row z n hw hx n1 n4 h1 h2 h3 =>
   rw [wz] at hw;obtain ⟨rfl,rfl⟩:=List.cons.inj hw;refine ⟨by decide,spRL K C c,LR,λg H' gC gr gh gl go A1 Q' hq=>?_⟩;subst e
   have wo:YW [("row":Str),z,numS n]:=λy m=>by
    simp only [List.mem_cons,List.not_mem_nil,or_false] at m;rcases m with rfl | rfl | rfl
    ·decide
    ·exact Nat.le_trans hx.wl.2 (by decide)
    ·exact Nat.le_trans (YA (by omega) (by omega)).2.2.2.2 (by decide)
   refine ⟨g,dg,B,_,_,1,0,Ds i,ts,us,z,n,[numS n],rfl,gC,gr,gh,dCg,A1,d,wo,?_,pn_num (by omega) (by omega) n1 n4 [],h1,h2,h3,λB' H2 sB hd dd=>hq _ _ B' _ sB hd ⟨ts,us,l0,rfl,dd⟩⟩;show ZP (z::[numS n])=_;unfold ZP;dsimp only;rw [if_pos hx.nm]
  | fn nm ps ws body S T hw hx h1 h2 hwo =>
   rw [wz] at hw hwo;obtain ⟨rfl,rfl⟩:=List.cons.inj hw;refine ⟨by decide,spDL K C c,LD,λg H' gC gr gh gl go A1 Q' hq=>?_⟩;subst e;refine ⟨g,dg,B,_,_,1,Ds i,ts,us,nm,ps,ws,body,S,T,rfl,gC,gr,gh,dCg,A1,d,hwo,?_,h1,h2,λB' H2 ts' us' sB hd dd=>hq _ _ B' _ sB hd ⟨ts',us',l0,rfl,dd⟩⟩;show ZP (nm::(ps++("=":Str)::ws))=_;unfold ZP;dsimp only;rw [if_pos hx.nm]
 ·rintro B dg L J sHB ⟨ts,us,l0,e,d⟩ hd eC
  subst e;rw [e1] at d hd ⊢;refine ⟨_,_,[],_,[],l0,[],.tail _ (.tail _ (.tail _ (.tail _ (.head _)))),.tail _ (.head _),.tail _ (.tail _ (.tail _ (.head _))),.tail _ (.tail _ (.tail _ (.tail _ (.tail _ (.tail _ (.head _)))))),.tail _ (.tail _ (.tail _ (.tail _ (.tail _ (.head _))))),.head _,.tail _ (.tail _ (.tail _ (.tail _ (.tail _ (.tail _ (.tail _ (.head _))))))),by rw [xj];have:=d.r12;omega,λH' so sd pr pd la lb lc na sJ x1 x2 x3 x4 x5 x6=>?_⟩;refine q so H' (sHB.trans (hd.sm.trans sJ)) ⟨sd,pr,pd,la,lb,lc,na,dg.na,us,x1,x2,x3,x4,x5,by rw [← Xw D.rows 0];exact x6,?_,d.ul,λi u e=>?_⟩
  ·exact sJ _ _ (hd.st (dg.na,.lst []) (.tail _ (.tail _ (.tail _ (.tail _ (.tail _ (.tail _ (.tail _ (.head _)))))))))
  ·obtain ⟨fn,y,a,b,f⟩:=d.u i u e
   exact ⟨fn,y,a,sJ _ _ (hd.sm _ _ b),(f.same hd.sm).same sJ⟩
end K22
namespace L2
open PySem PySem.Spec PyProof.Rows
def pe_ok0 {X:Cx} {CX:CXT} {k:Nat} {x:Str} {ps:Jg} {sp:Sp} {E:XK} {p pos:Pos} (o:Ok X.prog X.w X.K X.mg X.base CX k x ps sp) (hr:Room k X.A) (hg:Gl X x) (hx:xk CX X E) (hdb:(x == ("__debug__":Str))=false:=by decide):PE X (.Call (.Name x p) [] [] pos) (tCall sp [] E tNil):=by
 obtain ⟨f,fd,m,kp,b,F⟩:=o;exact pe_call0 F hr hg m kp b .nil hx hdb
end L2
namespace K22
open PySem L2
variable {P:Program} {w:World} {K:Fg} {mg:J0} {base:Heap}
structure SoC (K:Fg) (CS CP:Ad):Prop where
 c:Cls K CS
 k1:PySem.W.findIn K (.ref CS) "__class__"=some (some (.builtin "object.__class__"))
 k2:PySem.W.specialIn K (.builtin "object.__class__") "__get__"=some (some (.builtin "getset_descriptor.__get__"))
 k3:PySem.W.takesIn K (.builtin "object.__class__")=some true
 k4:PySem.W.mroIn K CS (.type "object")=some true
 ks:PySem.W.kitOne K (.ref CS) (.ref CS)=some true
 n0:NoAttr K CS "program"
 n1:NoAttr K CS "names"
 n2:NoAttr K CS "lines"
 p:ProgC K CP
 q1:PySem.W.findIn K (.ref CP) "__class__"=some (some (.builtin "object.__class__"))
 q4:PySem.W.mroIn K CP (.type "object")=some true
 kp:PySem.W.kitOne K (.ref CP) (.ref CP)=some true
def SoC.ty {K:Fg} {CS CP:Ad} (s:SoC K CS CP) {H:Hp} {x dx:Ad} {fl:List (Str×V)} (h:H x=some (.ins CS dx fl)):TyX K H (.ref x) (.ref CS):=.inl (.ins h s.c s.k1 s.k2 s.k3 s.k4)
def SoC.tp {K:Fg} {CS CP:Ad} (s:SoC K CS CP) {H:Hp} {x dx:Ad} {fl:List (Str×V)} (h:H x=some (.ins CP dx fl)):TyX K H (.ref x) (.ref CP):=.inl (.ins h s.p.c s.q1 s.k2 s.k3 s.q4)
def OpS.ext {B:Hp} {g:Kg} {W:Kw} {lines:Jg} {H H':Hp} (h:OpS B g W lines H) (s:Same H H'):OpS (ext B H H') g W lines H':=by
 obtain ⟨hts,bts,oa,nv,KA,hn⟩:=h.ex;exact ⟨hts,bts,oa,nv,KA.ext s,hn⟩
def OpS.sm {B:Hp} {g:Kg} {W:Kw} {lines:Jg} {H:Hp} (h:OpS B g W lines H):Same B H:=by
 obtain ⟨hts,bts,oa,nv,KA,hn⟩:=h.ex;exact KA.h.sm
def told_nn {fs:List F2.Fn} {S:Nat->Int} (h:F2.Told fs F2.sz S):∀ i,i<fs.length->0<=S i:=by
 intro i
 induction i using Nat.strongRecOn with
 | _ i ih =>
  intro hi;rw [h.eq i hi,F2.sz_congr (T:=λk=>if k<i then S k else 0) (λk hk=>(if_pos hk).symm) (h.cl i hi)]
  have:=F2.nodes_sz (S:=λk=>if k<i then S k else 0) (λk=>by
   show 0<=if k<i then S k else 0;by_cases e:k<i
   ·rw [if_pos e];exact ih k e (by omega)
   ·rw [if_neg e];exact Int.le_refl _) (F2.body fs i)
  omega
def nodes60 {fs:List F2.Fn} {S:Nat->Int} {F:F2.Fm} (h:F2.Told fs F2.sz S) (c:F2.CL fs.length F) (s:F2.sz S F<=60):F2.nodes F<=60:=by
 rw [F2.sz_congr (T:=λk=>if k<fs.length then S k else 0) (λk hk=>(if_pos hk).symm) c] at s
 have:=F2.nodes_sz (S:=λk=>if k<fs.length then S k else 0) (λk=>by
  show 0<=if k<fs.length then S k else 0;by_cases e:k<fs.length
  ·rw [if_pos e];exact told_nn h k e
  ·rw [if_neg e];exact Int.le_refl _) F
 omega
def TextD.few {ls:Jg} {D:Dr} (h:TextD ls D):∀ f∈D.fns,F2.nodes f.2<=100:=by
 obtain ⟨Ds,e0,e1,e2⟩:=h.ex
 have:∀ i,i<=ls.length->∀ f∈(Ds i).fns,F2.nodes f.2<=100:=by
  intro i
  induction i with
  | zero=>intro _ f m;rw [e0] at m;cases m
  | succ i ih =>
   intro hi f m;have ih:=ih (by omega);have ld:=e2 i _ (List.getElem?_eq_getElem (show i<ls.length by omega));generalize Ds (i+1)=D2 at ld m
   cases ld with
   | blank _=>exact ih f m
   | row x n hw hx n1 n4 h1 h2 h3=>exact ih f m
   | fn nm ps ws body S T hw hx h1 h2 hwo =>
    rcases List.mem_append.mp m with m | m
    ·exact ih f m
    ·cases List.mem_singleton.mp m
     have:=nodes60 h2.ck.ts (h2.ck.cl body q1z) (h2.ck.s60 body q1z);show F2.nodes body<=100;omega
 rw [← e1];exact this _ (Nat.le_refl _)
def OpS.own0 {B:Hp} {g:Kg} {W:Kw} {lines:Jg} {H:Hp} (h:OpS B g W lines H) (ho:W.own=none):DGet H g.kd (.str "own") (some .non):=by
 obtain ⟨hts,bts,oa,nv,KA,hn⟩:=h.ex;have:=KA.h;rw [ho] at this;exact yg (this.get 0 rfl) (Yh ..)
def OpS.own1 {B:Hp} {g:Kg} {W:Kw} {lines o:Jg} {H:Hp} (h:OpS B g W lines H) (ho:W.own=some o):∃ oa,DGet H g.kd (.str "own") (some (.ref oa)):=by
 obtain ⟨hts,bts,oa,nv,KA,hn⟩:=h.ex;have:=KA.h;rw [ho] at this;exact ⟨oa,yg (this.get 0 rfl) (Yh ..)⟩
inductive spLaw (K:Fg) (vs:Jo) (H:Hp) (Q:VK) (_:XK):Prop
 | mk (a:Ad) (ns:Jc) (_:vs=[.ref a]) (_:SqL K H a (ns.map V.int)) (_:ns.length<=63) (_:∀ H',Q (.bl true) H')
def ok_law {f:Ad} {fd:FuncData} {C aL CD CP CS:Ad} {c:F2.Cs} (F:Fun K "law" "law" X2 f fd) (hlen:mg "len"=none) (hisi:mg "isinstance"=none) (hSo:mg "Source"=some (.ref CS)) (hPr:mg "Program"=some (.ref CP)) (SC:SoC K CS CP) (dC:DCls K CD) (LR:LineFn P w K mg base aL 155 "row" (spRL K C c)) (LD:LineFn P w K mg base aL 155 "def" (spDL K C c))
  (BG:Ok P w K mg base CX0 1 "_law_begun" [] spBg) (OP:Ok P w K mg base CX0 4 "_law_opened" ["_law_known","_law_cell"] spOp) (CL:Ok P w K mg base CX0 4 "_law_closed" ["_law_known","_law_top","_law_cell"] spCl) (PU:Ok P w K mg base CX0 3 "_law_pushed" ["_law_cell","_law_pile","_law_known"] spPu) (LF:Ok P w K mg base CX0 2 "_law_leaf_by" ["_law_cell","_law_known"] spLf) (RD:Ok P w K mg base CX0 157 "read" ["text"] (spRead P w K mg base C aL CD CP CS 155)) (NS:Ok P w K mg base CX0 3 "_law_numbers" ["_law_found","_law_due"] spNs) (TX:Ok P w K mg base CX0 1 "_law_texts" ["_law_found","_law_due"] spTx) (FN:Ok P w K mg base CX0 105 "_law_functions" ["_law_found","_law_counts","_law_bodies"] (spFn c)):FnOk P w K mg base CX0 158 f fd ["_law_script"] (spLaw K):=by
 refine F.ok sc_law (by rintro vs H Q E ⟨_,_,e,_⟩;rw [e];rfl) λcdv A outer s H vs Q E hr h=>?_;obtain ⟨a,ns,rfl,ha,l63,q⟩:=h;have hrk:Room 157 _:=hr;have hrf:Room 105 _:=hr.mono (by decide);have hr4:Room 4 _:=hr.mono (by decide);have hr3:Room 3 _:=hr.mono (by decide);have hr2:Room 2 _:=hr.mono (by decide);have hr1:Room 1 _:=hr.mono (by decide);have hu:=Nat.lt_of_le_of_lt (Nat.add_le_add_left (show 1<=64 by decide) _) hr.units;have nd:=sc_law.nd;have SL:(100000:Nat)<sizeLine:=by decide
 refine ⟨_,(zb (zq (i:=1) nd rfl (Or.inl rfl) (pe_ok0 BG hr1 (by rfl) zE))
   (zb (zq (i:=2) nd rfl (Or.inl rfl) (zN zc))
   (zb (xh PassesOwn.never rfl (xg (y9 zcb (pv 0) xY (xX zd))) (ya (i:=3) nd rfl (Or.inl rfl)) (ze (zC (zm YU (zJ hu (pv 1) zk (λ_ _=>rfl)) xi (zu _)) (zb (zY (zx OP hr4 (by rfl) zE (za (pv 1) (za (pv 3) zc))))
   (ze (zq (i:=2) nd rfl (Or.inl rfl) (zN zc)))) (ze (zC (y6 (zm zU (zA zO (pv 3) zd) zd (zu _)) (yP (zm xI (zf zj (by rfl) hlen PySem.boot_len (za (pv 2) zc)) zd (zu _)))).pt (ze (zY (zx CL hr4 (by rfl) zE (za (pv 1) (za (zn zK (pv 2) (Y2 ZS zd) (λ_ _=>rfl)) (za (pv 3) zc)))))) (ze (zq (i:=2) nd rfl (Or.inl rfl) (zx PU hr3 (by rfl) zE (za (pv 3) (za (pv 2) (za (pv 1) zc)))))))))))
   (zb (xz (zC (zm zcn (zJ hu (pv 1) zk (λ_ _=>rfl)) xi (zu _)) (ze (zY (zx CL hr4 (by rfl) zE (za (pv 1) (za (zn zK (zA xC (zN (za (zx LF hr2 (by rfl) zE (za zd (za (pv 1) zc))) zc)) (pv 2)) (Y2 ZS zd) (λ_ _=>rfl)) (za zd zc)))))) zh))
   (zb (zq (i:=4) nd rfl (Or.inl rfl) (zx RD hrk (by rfl) zE (za (xB PySem.F.plainAttrs_str PySem.F.slot_str_join PySem.F.type_str_join mt_join zk (za (zJ hu (pv 1) zk (λ_ _=>rfl)) zc)) zc)))
   (zb (zC (z8 (zL (zG (zf zp (by rfl) hisi PyProof.Rows.boot_isinstance (za (pv 4) (za (zM hSo) zc))))) (zT (zL (zG (zf zp (by rfl) hisi PyProof.Rows.boot_isinstance (za (zo (pv 4) rfl) (za (zM hPr) zc))))))).pt (ze (zi zW)) zh)
   (zb (zC (z8 (zL (zG (zx NS hr3 (by rfl) zE (za (zo (zo (pv 4) rfl) rfl) (za (zJ hu (pv 1) zk (λ_ _=>rfl)) zc))))) (zT (zL (zG (zx TX hr1 (by rfl) zE (za (zo (pv 4) rfl) (za (zJ hu (pv 1) zk (λ_ _=>rfl)) zc))))))).pt (ze (zi zW)) zh)
   (zb (zC (zL (zG (zx FN hrf (by rfl) zE (za (zo (zo (pv 4) rfl) rfl) (za (zJ hu (pv 1) zk (λ_ _=>rfl)) (za (zJ hu (pv 1) zk (λ_ _=>rfl)) zc)))))) (ze (zi zW)) zh)
   (ze (zi (yb (zx NS hr3 (by rfl) zE (za (zo (zo (pv 4) rfl) rfl) (za (zN zc) zc))) (yt (zx NS hr3 (by rfl) zE (za (zo (pv 4) rfl) (za (zN zc) zc))))))))))))))),?_⟩
 refine ⟨(),rfl,λB g oa H1 sB KA=>?_⟩;have OS0:OpS B g Kw0 [] H1:=⟨[],[],oa,.str "",KA,λz=>absurd rfl z⟩;clear KA;refine ⟨szU 0,λpl npl=>?_⟩;obtain ⟨s1,e1⟩:=yA (H:=H1) (t:=pl) rfl npl;generalize upd H1 pl _=H2 at s1 e1 ⊢;have OS1:=OS0.ext s1;have sB1:Same B (ext B H1 H2):=yc OS0.sm;have e1B:ext B H1 H2 pl=some (.lst []):=by rw [yk npl];exact e1
 generalize ext B H1 H2=B1 at OS1 sB1 e1B;have haB:=yV ha (sB.trans sB1);have ha2:=yV haB OS1.sm;refine ⟨_,rfl,_,rfl,a,_,rfl,ha2,λsl nsl=>?_⟩;rw [zak (by decide),← List.map_take];have l80:(ns.take (80:Int).toNat).length<=80:=by rw [List.length_take];exact Nat.min_le_left _ _
 generalize ns.take (80:Int).toNat=ks at l80 ⊢;obtain ⟨s2,e2⟩:=yA (H:=H2) (t:=sl) (o:=.lst (ks.map V.int)) rfl nsl;generalize upd H2 sl _=H3 at s2 e2 ⊢;have OS2:=OS1.ext s2;have sB2:Same B1 (ext B1 H2 H3):=yc OS1.sm;have e2B:ext B1 H2 H3 sl=some (.lst (ks.map V.int)):=by rw [yk nsl];exact e2
 generalize ext B1 H2 H3=B2 at OS2 sB2 e2B;clear e1 e2 e1B haB ha2 OS0 OS1 s1 s2 npl nsl sB1 sB2 sB ha;refine ⟨sl,rfl,⟨_,SqL.of (OS2.sm _ _ e2B)⟩,?_⟩;refine Xa (K:=K) (a:=sl) (xs:=ks.map V.int) (λi σ J=>∃ (B:Hp) (W:Kw) (lines:Jg) (pl:Ad) (qs:List PtA) (u:Jp),σ=[rq a,rq g.kd,rq pl,u,none]/\Same B2 B/\OpS B g W lines J/\lines.length<=2*i/\(W.own≠none->PileAt B W pl qs/\qs.length<=i)) ⟨B2,Kw0,[],pl,[],none,rfl,Same.refl _,OS2,Nat.le_refl _,λz=>absurd rfl z⟩ (λi σ J _ ⟨B,W,lines,pl,qs,u,_,sB,OS,_⟩=>SqL.of (OS.sm _ _ (sB _ _ e2B))) ?_ ?_
 ·rintro i x σ J hi ⟨B,W,lines,pl,qs,u,rfl,sB,OS,ll,hp⟩
  obtain ⟨cl,ecl,rfl⟩:=zae hi;have i80:i<80:=q2z (List.getElem?_eq_some_iff.mp ecl).1 l80
  cases ho:W.own with
  | none =>
   refine ⟨_,rfl,g.kd,_,rfl,OS.own0 ho,rfl,_,rfl,zP ?_⟩;refine ⟨_,rfl,_,rfl,cl,B,g,W,lines,rfl,OS,ho,by omega,λB' W' lines' J' sB' OS' ll'=>⟨szU 0,λpl' npl'=>?_⟩⟩;obtain ⟨s1,e1⟩:=yA (H:=J') (t:=pl') rfl npl';refine ⟨_,W',lines',pl',[],_,rfl,sB.trans (sB'.trans (yc OS'.sm)),OS'.ext s1,by omega,λ_=>⟨⟨by rw [yk npl'];exact e1,λq m=>(nomatch m)⟩,Nat.zero_le _⟩⟩
  | some o =>
   obtain ⟨hp,lq⟩:=hp (by rw [ho];exact λz=>by cases z);obtain ⟨oa,ow⟩:=OS.own1 ho;have el:=OS.sm _ _ hp.l;obtain ⟨hts,bts,oa',nv,KA,hn⟩:=OS.ex;refine ⟨_,rfl,g.kd,_,rfl,ow,rfl,_,rfl,zH ?_⟩;refine ⟨_,rfl,_,_,rfl,rfl,(by show (0:Int)<5;decide),rfl,_,rfl,?_⟩;refine xL (λe5=>?_) (λe5=>zH ?_)
   ·refine ⟨_,rfl,pl,_,rfl,.inl (SqL.of el),_,_,rfl,rfl,_,rfl,?_⟩
    rw [Jj];refine xL (λl0=>?_) (λ_=>?_)
    ·have l0:0<qs.length:=by have:=of_decide_eq_true l0;omega
     obtain ⟨q0,qz,eqs⟩:∃ q0 qz,qs=q0++[qz]:=⟨qs.dropLast,qs.getLast (List.ne_nil_of_length_pos l0),(List.dropLast_concat_getLast _).symm⟩;have mz:qz∈qs:=by rw [eqs];exact q2y _ q1z
     have eat:atI (qs.map λq=>V.ref q.x) (-1)=some (.ref qz.x):=by rw [eqs,Jl];exact zap _ _
     refine ⟨_,rfl,_,rfl,_,rfl,pl,_,_,_,rfl,rfl,SqL.of el,eat,_,rfl,cl,B,g,W,lines,o,qz,rfl,OS,ho,by omega,(hp.q qz mz).1,(hp.q qz mz).2,λB' W' lines' J' sB' OS' ho' ll'=>?_⟩;exact ⟨B',W',lines',pl,[],_,rfl,sB.trans sB',OS',by omega,λz=>absurd ho' z⟩
    ·refine ⟨_,rfl,_,rfl,_,rfl,cl,pl,g.kd,qs,W,B,OS.sm,rfl,hp,KA.lf,KA.ca,KA.w,KA.lk,by omega,λqs' pl' J' s1 hp' _ lq'=>?_⟩
     exact ⟨_,W,lines,pl',qs',_,rfl,sB.trans (yc OS.sm),OS.ext s1,by omega,λ_=>⟨hp',by omega⟩⟩
   ·refine ⟨_,rfl,_,rfl,_,rfl,cl,pl,g.kd,qs,W,B,OS.sm,rfl,hp,KA.lf,KA.ca,KA.w,KA.lk,by omega,λqs' pl' J' s1 hp' _ lq'=>?_⟩
    exact ⟨_,W,lines,pl',qs',_,rfl,sB.trans (yc OS.sm),OS.ext s1,by omega,λ_=>⟨hp',by omega⟩⟩
 ·rintro σ J ⟨B,W,lines,pl,qs,u,rfl,sB,OS,ll,hp⟩
  rw [Jj] at ll hp;refine ⟨λσ J=>∃ (B:Hp) (W:Kw) (lines:Jg) (pl:Ad) (u:Jp),σ=[rq a,rq g.kd,rq pl,u,none]/\OpS B g W lines J/\lines.length<=162,?_,?_⟩
  ·cases ho:W.own with
   | none=>exact ⟨_,rfl,g.kd,_,rfl,OS.own0 ho,rfl,_,rfl,zH ⟨B,W,lines,pl,u,rfl,OS,by omega⟩⟩
   | some o =>
    obtain ⟨hp,lq⟩:=hp (by rw [ho];exact λz=>by cases z);obtain ⟨oa,ow⟩:=OS.own1 ho;obtain ⟨hts,bts,oa',nv,KA,hn⟩:=OS.ex;refine ⟨_,rfl,g.kd,_,rfl,ow,rfl,_,rfl,zP ?_⟩;refine ⟨_,rfl,_,rfl,_,g.kd,W,rfl,KA.lf,KA.lk,λp x J1 s1 px lo=>?_⟩;obtain ⟨wa,da,px1,px2⟩:=px B OS.sm;have pq:=px2.as;obtain ⟨ql,eql⟩:∃ ql:PtA,ql=⟨p,x,wa,da⟩:=⟨_,rfl⟩;rw [← eql] at pq;have ol:PtOk W ql.p:=by rw [eql];exact lo.o
    have exq:x=ql.x:=by rw [eql]
    rw [exq];clear eql exq px px1 px2;have OS1:=OS.ext s1;have hp1:=hp.same (yc (H':=J1) OS.sm);generalize ext B J J1=B1 at pq OS1 hp1;refine ⟨szU 1,λb nb=>?_⟩;obtain ⟨sb,eb⟩:=yA (H:=J1) (t:=b) rfl nb;generalize upd J1 b _=J2 at sb eb ⊢;refine ⟨_,rfl,b,pl,_,_,rfl,rfl,eb,sb _ _ (OS1.sm _ _ hp1.l),(by rw [Jj];show 1+_<=_;omega),λr nr=>?_⟩;obtain ⟨sr,er⟩:=yA (H:=J2) (t:=r) rfl nr;generalize upd J2 r _=J3 at sr er ⊢;have OS3:=OS1.ext (sb.trans sr)
    obtain ⟨qz,eat,gz,oz⟩:∃ qz:PtA,atI ([V.ref ql.x]++qs.map λq=>V.ref q.x) (-1)=some (.ref qz.x)/\PtAs B1 qz/\PtOk W qz.p:=by
     by_cases l0:0<qs.length
     ·obtain ⟨q0,qz,eqs⟩:∃ q0 qz,qs=q0++[qz]:=⟨qs.dropLast,qs.getLast (List.ne_nil_of_length_pos l0),(List.dropLast_concat_getLast _).symm⟩
      have mz:qz∈qs:=by rw [eqs];exact q2y _ q1z
      refine ⟨qz,?_,(hp1.q qz mz).1,(hp1.q qz mz).2⟩;rw [eqs,Jl,← List.append_assoc];exact zap _ _
     ·have e0:qs=[]:=List.eq_nil_of_length_eq_zero (by omega)
      refine ⟨ql,?_,pq,ol⟩;rw [e0];exact zap [] _
    refine ⟨_,rfl,r,_,_,_,rfl,rfl,SqL.of er,eat,4,_,g,W,lines,o,qz,rfl,OS3,ho,by omega,gz.same (yc OS1.sm),oz,λB' W' lines' J' sB' OS' ho' ll'=>?_⟩;exact ⟨B',W',lines',pl,u,rfl,OS',by omega⟩
  rintro σ J ⟨B,W,lines,pl,u,rfl,OS,ll⟩;obtain ⟨hts,bts,oa,nv,KA,_⟩:=OS.ex;have e0:=KA.h.get 0 rfl;refine ⟨rfl,_,rfl,g.kd,_,rfl,yg e0 (zah ..),"\n",g.li,lines,rfl,rfl,SqL.of (KA.h.get 1 rfl),(join_ok (λy m=>(KA.t.t y m).l) (by omega)).1,read_text dC LR LD KA.t (by omega) λso J1 sJ RS=>?_⟩;obtain ⟨sd,pr,pd,la,lb,lc,na,nl,us,x1,x2,x3,x4,x5,x6,x7,lu,hus⟩:=RS.ex;clear RS;have W12:=KA.w.n12;have W8:=KA.w.c8;have f0:=sJ _ _ e0;refine ⟨_,rfl,_,_,.ref CS,.ref CS,true,rfl,rfl,(λu r=>r),SC.ty x1,SC.ks,true,rfl,zH ?_⟩;refine ⟨_,rfl,so,CS,sd,_,_,rfl,x1,SC.c,SC.n0,rfl,_,_,.ref CP,.ref CP,true,rfl,rfl,(λu r=>r),SC.tp x2,SC.kp,true,rfl,zH ?_⟩;refine ⟨_,rfl,so,CS,sd,_,_,rfl,x1,SC.c,SC.n0,rfl,pr,CP,pd,_,_,rfl,x2,SC.p.c,SC.p.n0,rfl,_,rfl,g.kd,_,rfl,yg f0 (kg_lens ..),la,g.le,W.lens,rfl,x3,sJ _ _ (KA.h.get 3 rfl),by rw [KA.w.nl];omega,true,rfl,zH ?_⟩;refine ⟨_,rfl,so,CS,sd,_,_,rfl,x1,SC.c,SC.n1,rfl,_,rfl,g.kd,_,rfl,yg f0 (Yi ..),na,g.na,W.names,rfl,x6,sJ _ _ (KA.h.get 2 rfl),by omega,true,rfl,zH ?_⟩;have fl:=KA.w.fnsl
  have cts:(W.fns.map λf=>V.int (f.1:Nat))=W.counts.map λk:Nat=>V.int k:=by
   have:W.fns.map Prod.fst=W.counts:=List.map_fst_zip (by rw [KA.w.cl,KA.w.bl];exact Nat.le_refl _);rw [← this,List.map_map];rfl
  have fco:=sJ _ _ (KA.h.get 5 rfl);rw [← cts] at fco;have fnz:F2.Fn->F2.Fn:=id;refine ⟨_,rfl,so,CS,sd,_,_,rfl,x1,SC.c,SC.n0,rfl,pr,CP,pd,_,_,rfl,x2,SC.p.c,SC.p.n1,rfl,_,rfl,g.kd,_,rfl,yg f0 (Xj ..),_,rfl,g.kd,_,rfl,yg f0 (zbj ..),lb,g.co,g.bo,us,bts,W.fns,rfl,x4,fco,sJ _ _ (KA.h.get 7 rfl),lu,by rw [KA.bl,KA.w.bl,fl],λi f e=>?_,by omega,true,rfl,zH ?_⟩
  ·have il:=(List.getElem?_eq_some_iff.mp e).1
   obtain ⟨u1,eu⟩:∃ u,us[i]?=some u:=⟨_,List.getElem?_eq_getElem (by rw [lu];exact il)⟩;obtain ⟨dd,ed⟩:∃ d,bts[i]?=some d:=⟨_,List.getElem?_eq_getElem (by rw [KA.bl,KA.w.bl,← fl];exact il)⟩;obtain ⟨fn,y,z1,z2,z3⟩:=hus i u1 eu;obtain ⟨F,y1,y2⟩:=KA.bt i dd ed;have z1:W.fns[i]?=some fn:=z1;rw [e] at z1;cases z1
   have ef:f.2=F:=by
    have:W.fns.map Prod.snd=W.bodies:=List.map_snd_zip (by rw [KA.w.cl,KA.w.bl];exact Nat.le_refl _);rw [← this,List.getElem?_map,e] at y1;exact Option.some.inj y1
   rw [← ef] at y2;exact ⟨u1,y,dd,eu,ed,z2,z3,(y2.same KA.h.sm).same sJ,KA.t.few f (List.mem_of_getElem? e)⟩
  refine ⟨_,rfl,so,CS,sd,_,_,rfl,x1,SC.c,SC.n0,rfl,pr,CP,pd,_,_,rfl,x2,SC.p.c,SC.p.n2,rfl,szU 0,λb nb=>?_⟩;obtain ⟨sb,eb⟩:=yA (H:=J1) (t:=b) rfl nb;generalize upd J1 b _=J2 at sb eb ⊢;refine ⟨lc,b,[],rfl,sb _ _ x5,eb,Nat.zero_le _,?_⟩;refine ⟨true,rfl,zP ?_⟩;refine ⟨_,rfl,so,CS,sd,_,_,rfl,sb _ _ x1,SC.c,SC.n2,rfl,szU 0,λb' nb'=>?_⟩;obtain ⟨sb',eb'⟩:=yA (H:=J2) (t:=b') rfl nb';exact ⟨nl,b',[],rfl,sb' _ _ (sb _ _ x7),eb',Nat.zero_le _,q _⟩
def keyS (e:DictEntry):Option Str:=match e.key with
 | .str x _=>some x
 | _=>none
theorem zbr (z:Str):∀ {es:List DictEntry} {l:Jg},es.map keyS=l.map some->(es.find? (·.key.isStr z)).isSome=decide (z∈l)/\es.any (·.refKey)=false
 | [],[],_=>⟨by simp,rfl⟩
 | [],_::_,h=>by cases h
 | _::_,[],h=>by cases h
 | e::es,y::l,h=>by
  rw [List.map_cons,List.map_cons] at h;obtain ⟨h1,h2⟩:=List.cons.inj h;obtain ⟨i1,i2⟩:=zbr z h2;obtain ⟨hh,k,v⟩:=e
  cases k with
  | str x t =>
   have h1:x=y:=Option.some.inj h1;subst h1;refine ⟨?_,?_⟩
   ·rw [List.find?_cons]
    show (match (x == z) with | true=>_ | false=>_:Option DictEntry).isSome=_
    cases hx:x == z with
    | true =>
     have:x=z:=eq_of_beq hx;subst this;simp
    | false =>
     have:¬ z=x:=λq=>by subst q;rw [beq_self_eq_true] at hx;cases hx
     rw [i1];simp [this]
   ·rw [List.any_cons,i2];rfl
  | _=>cases h1
theorem top_has {K:Fg} {a:Ad} {cl:Vl} {d:Option Ad} {es:Array DictEntry} {n:Nat} {sl:Array (Jf)} {l:Jg} (hk:K.lookup a=some ⟨cl,d,.dict es n,sl⟩) (he:es.toList.map keyS=l.map some):∀ z,∃ r,PySem.W.nsIn K a z=some r/\r.isSome=decide (z∈l):=λz=>by
 obtain ⟨i1,i2⟩:=zbr z he;unfold PySem.W.nsIn;rw [hk];dsimp only
 cases hf:es.toList.find? (·.key.isStr z) with
 | some e=>rw [hf] at i1;exact ⟨_,rfl,i1⟩
 | none=>rw [hf] at i1;rw [i2];exact ⟨none,rfl,i1⟩
def ok_kept {t:Tok} (d:zB K mg "kept" zci ["number"]) (hH:mg "HALF"=some (.int 9223372036854775808 t)):Ok P w K mg base (CXe P w base) 1 "kept" ["number"] (sp1 λn=>.int (FM.kept n)):=by
 obtain ⟨f,fd,m,F,b⟩:=d;refine ⟨f,fd,m,F.kp,b,F.okE sc_kept (by rintro vs H Q E ⟨_,e,_⟩;rw [e];rfl) λcdv A outer s H vs Q E hr h=>?_⟩;obtain ⟨n,rfl,k⟩:=h;refine ⟨_,ze (zi (zA ZL (zA zO (zA yI (pv 0) (yE hH)) (zA YT zd (yE hH))) (yE hH))),?_⟩;exact ⟨_,rfl,_,_,rfl,rfl,_,_,rfl,rfl,.inl ⟨by decide,by decide⟩,_,_,rfl,rfl,(by show (0:Int)<2*9223372036854775808;decide),_,_,rfl,rfl,k⟩
end K22
namespace K22
open PySem L2 FM
theorem uc {n:Nat}:∀ {us:Je},us.length=n+1->∃ a r,us=a::r/\r.length=n
 | a::r,h=>⟨a,r,rfl,Nat.succ.inj h⟩
def us0 {p:Je->Prop} (h:p []):∀ us:Je,us.length=0->p us:=by
 intro us e;cases List.eq_nil_of_length_eq_zero e;exact h
def us1 {p:Je->Prop} (h:∀ a0,p [a0]):∀ us:Je,us.length=1->p us:=by
 intro us e;obtain ⟨a0,u0,rfl,e0⟩:=uc e;cases List.eq_nil_of_length_eq_zero e0;exact h _
def us2 {p:Je->Prop} (h:∀ a0 a1,p [a0,a1]):∀ us:Je,us.length=2->p us:=by
 intro us e;obtain ⟨a0,u0,rfl,e0⟩:=uc e;obtain ⟨a1,u1,rfl,e1⟩:=uc e0;cases List.eq_nil_of_length_eq_zero e1;exact h _ _
def us3 {p:Je->Prop} (h:∀ a0 a1 a2,p [a0,a1,a2]):∀ us:Je,us.length=3->p us:=by
 intro us e;obtain ⟨a0,u0,rfl,e0⟩:=uc e;obtain ⟨a1,u1,rfl,e1⟩:=uc e0;obtain ⟨a2,u2,rfl,e2⟩:=uc e1;cases List.eq_nil_of_length_eq_zero e2;exact h _ _ _
def us4 {p:Je->Prop} (h:∀ a0 a1 a2 a3,p [a0,a1,a2,a3]):∀ us:Je,us.length=4->p us:=by
 intro us e;obtain ⟨a0,u0,rfl,e0⟩:=uc e;obtain ⟨a1,u1,rfl,e1⟩:=uc e0;obtain ⟨a2,u2,rfl,e2⟩:=uc e1;obtain ⟨a3,u3,rfl,e3⟩:=uc e2;cases List.eq_nil_of_length_eq_zero e3;exact h _ _ _ _
def us5 {p:Je->Prop} (h:∀ a0 a1 a2 a3 a4,p [a0,a1,a2,a3,a4]):∀ us:Je,us.length=5->p us:=by
 intro us e;obtain ⟨a0,u0,rfl,e0⟩:=uc e;obtain ⟨a1,u1,rfl,e1⟩:=uc e0;obtain ⟨a2,u2,rfl,e2⟩:=uc e1;obtain ⟨a3,u3,rfl,e3⟩:=uc e2;obtain ⟨a4,u4,rfl,e4⟩:=uc e3;cases List.eq_nil_of_length_eq_zero e4;exact h _ _ _ _ _
theorem all_mk {l:PySem.W.OpenLaw} {w:World} {K:Fg} {h:Heap} {mg:J0} {fa f_kept f_is_sign f_words_of f_is_made_of f_is_name f_figures_of f_is_written_as_number f_number_in f_read_word f_read_line_end f_read_name f_read_number f_read_row f_read_forms f_read_at f_read_shifted f_read_pair f_read_choice f_read_call f_read_behind_bracket f_read_bracket f_named_form f_read_form f_parts_of f_forms_within f_body_size f_size_with f_size_of f_body_depth f_depth_with f_depth_of f_refuse_within_till f_refuse_taken f_read_new_name f_read_row_line f_read_parameters f_check_forms f_read_def_line f_read_words f_read f_l_mixed f_l_whole f_l_is f_l_number_by f_l_sign_by f_l_kept_word f_l_near_kept f_l_name_by f_l_spaced f_l_leaf_by f_l_wanted f_l_top_by f_l_pushed f_l_like_leaf f_l_like f_l_numbers f_l_texts f_l_functions f_l_begun f_l_lined f_l_opened f_l_closed f_law C_Number C_Here C_Cell C_Shifted C_Local C_At C_Pair C_Choice C_Call C_Reading C_Draft C_Source C_Program:Ad} {CF S aL TK:Ad} {tH:Tok} {es esL:Array DictEntry} {nS nL nK:Nat} {t_LONGEST_NAME:Tok} {t_MOST_FIGURES:Tok} {t_MOST_BRACKETS:Tok} {t_FARTHEST_SHIFT:Tok} {t_MOST_ROWS:Tok} {t_MOST_CELLS:Tok} {t_MOST_FUNCTIONS:Tok} {t_MOST_PARAMETERS:Tok} {t_GREATEST_SIZE:Tok} {t_GREATEST_DEPTH:Tok} {t_LETTERS:Tok} {t_FIGURES:Tok} {tK0 tK1 tK2 tK3 tK4 tK5 tK6 tK7 tK8 tK9 tK10 tK11 tK12 tK13 tK14 tK15 tK16 tK17 tK18 tK19 tK20 tK21 tK22 tK23 tK24 tK25:Tok} (X:K.In h) (G:h.Ns mainGlobals mg) (hfa:mg "law"=some (.ref fa))
  (h_kept:DH K "kept" zci f_kept)
  (h_is_sign:DH K "is_sign" Yv f_is_sign)
  (h_words_of:DH K "words_of" ZT f_words_of)
  (h_is_made_of:DH K "is_made_of" Zj f_is_made_of)
  (h_is_name:DH K "is_name" Yw f_is_name)
  (h_figures_of:DH K "figures_of" Zk f_figures_of)
  (h_is_written_as_number:DH K "is_written_as_number" yr f_is_written_as_number)
  (h_number_in:DH K "number_in" ZC f_number_in)
  (h_read_word:DH K "read_word" ZA f_read_word)
  (h_read_line_end:DH K "read_line_end" xc f_read_line_end)
  (h_read_name:DH K "read_name" ZB f_read_name)
  (h_read_number:DH K "read_number" xN f_read_number)
  (h_read_row:DH K "read_row" ZU f_read_row)
  (h_read_forms:DH K "read_forms" xq f_read_forms)
  (h_read_at:DH K "read_at" ZN f_read_at)
  (h_read_shifted:DH K "read_shifted" xp f_read_shifted)
  (h_read_pair:DH K "read_pair" Zc f_read_pair)
  (h_read_choice:DH K "read_choice" y8 f_read_choice)
  (h_read_call:DH K "read_call" Ze f_read_call)
  (h_read_behind_bracket:DH K "read_behind_bracket" yd f_read_behind_bracket)
  (h_read_bracket:DH K "read_bracket" yW f_read_bracket)
  (h_named_form:DH K "named_form" Zi f_named_form)
  (h_read_form:DH K "read_form" Zd f_read_form)
  (h_parts_of:DH K "parts_of" ZV f_parts_of)
  (h_forms_within:DH K "forms_within" xr f_forms_within)
  (h_body_size:DH K "body_size" Zf f_body_size)
  (h_size_with:DH K "size_with" Zb f_size_with)
  (h_size_of:DH K "size_of" Yp f_size_of)
  (h_body_depth:DH K "body_depth" xu f_body_depth)
  (h_depth_with:DH K "depth_with" xt f_depth_with)
  (h_depth_of:DH K "depth_of" Z2 f_depth_of)
  (h_refuse_within_till:DH K "refuse_within_till" yC f_refuse_within_till)
  (h_refuse_taken:DH K "refuse_taken" xn f_refuse_taken)
  (h_read_new_name:DH K "read_new_name" xb f_read_new_name)
  (h_read_row_line:DH K "read_row_line" xa f_read_row_line)
  (h_read_parameters:DH K "read_parameters" yO f_read_parameters)
  (h_check_forms:DH K "check_forms" xT f_check_forms)
  (h_read_def_line:DH K "read_def_line" xf f_read_def_line)
  (h_read_words:DH K "read_words" Zh f_read_words)
  (h_read:DH K "read" zcg f_read)
  (h_l_mixed:DH K "_law_mixed" Ys f_l_mixed)
  (h_l_whole:DH K "_law_whole" Yq f_l_whole)
  (h_l_is:DH K "_law_is" zch f_l_is)
  (h_l_number_by:DH K "_law_number_by" xO f_l_number_by)
  (h_l_sign_by:DH K "_law_sign_by" ZD f_l_sign_by)
  (h_l_kept_word:DH K "_law_kept_word" xR f_l_kept_word)
  (h_l_near_kept:DH K "_law_near_kept" xP f_l_near_kept)
  (h_l_name_by:DH K "_law_name_by" ZF f_l_name_by)
  (h_l_spaced:DH K "_law_spaced" ZY f_l_spaced)
  (h_l_leaf_by:DH K "_law_leaf_by" ZG f_l_leaf_by)
  (h_l_wanted:DH K "_law_wanted" ZW f_l_wanted)
  (h_l_top_by:DH K "_law_top_by" ZX f_l_top_by)
  (h_l_pushed:DH K "_law_pushed" ZZ f_l_pushed)
  (h_l_like_leaf:DH K "_law_like_leaf" xQ f_l_like_leaf)
  (h_l_like:DH K "_law_like" Zu f_l_like)
  (h_l_numbers:DH K "_law_numbers" ZE f_l_numbers)
  (h_l_texts:DH K "_law_texts" Yr f_l_texts)
  (h_l_functions:DH K "_law_functions" xS f_l_functions)
  (h_l_begun:DH K "_law_begun" Yu f_l_begun)
  (h_l_lined:DH K "_law_lined" Yt f_l_lined)
  (h_l_opened:DH K "_law_opened" Z0 f_l_opened)
  (h_l_closed:DH K "_law_closed" Z1 f_l_closed)
  (h_law:DH K "law" X2 f_law)
  (a_C_Number:PySem.W.nsIn K mainGlobals "Number"=some (some (.ref C_Number))) (h_C_Number:CH K C_Number)
  (fn_C_Number:FN K C_Number ["number"])
  (mk_C_Number:PySem.W.makesIn K C_Number=true) (kC_C_Number:PySem.W.keepIn K (.ref C_Number)=true)
  (h_Number_init:MH K C_Number "__init__" "Number.__init__" xV)
  (a_C_Here:PySem.W.nsIn K mainGlobals "Here"=some (some (.ref C_Here))) (h_C_Here:CH K C_Here)
  (mk_C_Here:PySem.W.makesIn K C_Here=true) (kC_C_Here:PySem.W.keepIn K (.ref C_Here)=true) (in_C_Here:PySem.W.findIn K (.ref C_Here) "__init__"=some (some (.builtin "object.__init__")))
  (a_C_Cell:PySem.W.nsIn K mainGlobals "Cell"=some (some (.ref C_Cell))) (h_C_Cell:CH K C_Cell)
  (fn_C_Cell:FN K C_Cell ["row"])
  (mk_C_Cell:PySem.W.makesIn K C_Cell=true) (kC_C_Cell:PySem.W.keepIn K (.ref C_Cell)=true)
  (h_Cell_init:MH K C_Cell "__init__" "Cell.__init__" ZI)
  (a_C_Shifted:PySem.W.nsIn K mainGlobals "Shifted"=some (some (.ref C_Shifted))) (h_C_Shifted:CH K C_Shifted)
  (fn_C_Shifted:FN K C_Shifted ["row","by","other"])
  (mk_C_Shifted:PySem.W.makesIn K C_Shifted=true) (kC_C_Shifted:PySem.W.keepIn K (.ref C_Shifted)=true)
  (h_Shifted_init:MH K C_Shifted "__init__" "Shifted.__init__" xv)
  (a_C_Local:PySem.W.nsIn K mainGlobals "Local"=some (some (.ref C_Local))) (h_C_Local:CH K C_Local)
  (fn_C_Local:FN K C_Local ["at"])
  (mk_C_Local:PySem.W.makesIn K C_Local=true) (kC_C_Local:PySem.W.keepIn K (.ref C_Local)=true)
  (h_Local_init:MH K C_Local "__init__" "Local.__init__" Zl)
  (a_C_At:PySem.W.nsIn K mainGlobals "At"=some (some (.ref C_At))) (h_C_At:CH K C_At)
  (fn_C_At:FN K C_At ["row","place"])
  (mk_C_At:PySem.W.makesIn K C_At=true) (kC_C_At:PySem.W.keepIn K (.ref C_At)=true)
  (h_At_init:MH K C_At "__init__" "At.__init__" Yx)
  (a_C_Pair:PySem.W.nsIn K mainGlobals "Pair"=some (some (.ref C_Pair))) (h_C_Pair:CH K C_Pair)
  (fn_C_Pair:FN K C_Pair ["sign","left","right"])
  (mk_C_Pair:PySem.W.makesIn K C_Pair=true) (kC_C_Pair:PySem.W.keepIn K (.ref C_Pair)=true)
  (h_Pair_init:MH K C_Pair "__init__" "Pair.__init__" ZH)
  (a_C_Choice:PySem.W.nsIn K mainGlobals "Choice"=some (some (.ref C_Choice))) (h_C_Choice:CH K C_Choice)
  (fn_C_Choice:FN K C_Choice ["test","left","right"])
  (mk_C_Choice:PySem.W.makesIn K C_Choice=true) (kC_C_Choice:PySem.W.keepIn K (.ref C_Choice)=true)
  (h_Choice_init:MH K C_Choice "__init__" "Choice.__init__" xW)
  (a_C_Call:PySem.W.nsIn K mainGlobals "Call"=some (some (.ref C_Call))) (h_C_Call:CH K C_Call)
  (fn_C_Call:FN K C_Call ["at","handed"])
  (mk_C_Call:PySem.W.makesIn K C_Call=true) (kC_C_Call:PySem.W.keepIn K (.ref C_Call)=true)
  (h_Call_init:MH K C_Call "__init__" "Call.__init__" ZJ)
  (a_C_Reading:PySem.W.nsIn K mainGlobals "Reading"=some (some (.ref C_Reading))) (h_C_Reading:CH K C_Reading)
  (fn_C_Reading:FN K C_Reading ["line","words","rows","heads","own","passed","brackets"])
  (mk_C_Reading:PySem.W.makesIn K C_Reading=true) (kC_C_Reading:PySem.W.keepIn K (.ref C_Reading)=true)
  (h_Reading_init:MH K C_Reading "__init__" "Reading.__init__" xw)
  (h_Reading_has_more:MH K C_Reading "has_more" "Reading.has_more" yK)
  (h_Reading_next_word:MH K C_Reading "next_word" "Reading.next_word" yD)
  (a_C_Draft:PySem.W.nsIn K mainGlobals "Draft"=some (some (.ref C_Draft))) (h_C_Draft:CH K C_Draft)
  (fn_C_Draft:FN K C_Draft ["rows","lengths","heads","functions","tills","levels","lines"])
  (mk_C_Draft:PySem.W.makesIn K C_Draft=true) (kC_C_Draft:PySem.W.keepIn K (.ref C_Draft)=true)
  (h_Draft_init:MH K C_Draft "__init__" "Draft.__init__" Zm)
  (a_C_Source:PySem.W.nsIn K mainGlobals "Source"=some (some (.ref C_Source))) (h_C_Source:CH K C_Source)
  (fn_C_Source:FN K C_Source ["program","names","lines"])
  (mk_C_Source:PySem.W.makesIn K C_Source=true) (kC_C_Source:PySem.W.keepIn K (.ref C_Source)=true)
  (h_Source_init:MH K C_Source "__init__" "Source.__init__" xU)
  (a_C_Program:PySem.W.nsIn K mainGlobals "Program"=some (some (.ref C_Program))) (h_C_Program:CH K C_Program)
  (fn_C_Program:FN K C_Program ["lengths","functions","steps"])
  (mk_C_Program:PySem.W.makesIn K C_Program=true) (kC_C_Program:PySem.W.keepIn K (.ref C_Program)=true)
  (h_Program_init:MH K C_Program "__init__" "Program.__init__" xy)
  (k5:PySem.W.kitOne K (.type "int") (.type "int")=some true)
  (k6:PySem.W.kitOne K (.type "int") (.type "bool")=some false)
  (tb1:TN K mainGlobals ["isinstance","int","bool","max","len","range","sum","list","str","tuple","any","all","enumerate"])
  (tb2:TB K mainGlobals [("Form",CF),("KEPT_WORDS",TK),("SIGNS",S),("LINES",aL)])
  (i1_Number:PySem.W.findIn K (.ref C_Number) "__class__"=some (some (.builtin "object.__class__")))
  (i2_Number:PySem.W.specialIn K (.builtin "object.__class__") "__get__"=some (some (.builtin "getset_descriptor.__get__")))
  (i3_Number:PySem.W.takesIn K (.builtin "object.__class__")=some true)
  (i4_Number:PySem.W.mroIn K C_Number (.type "object")=some true)
  (i1_Here:PySem.W.findIn K (.ref C_Here) "__class__"=some (some (.builtin "object.__class__")))
  (i2_Here:PySem.W.specialIn K (.builtin "object.__class__") "__get__"=some (some (.builtin "getset_descriptor.__get__")))
  (i3_Here:PySem.W.takesIn K (.builtin "object.__class__")=some true)
  (i4_Here:PySem.W.mroIn K C_Here (.type "object")=some true)
  (i1_Cell:PySem.W.findIn K (.ref C_Cell) "__class__"=some (some (.builtin "object.__class__")))
  (i2_Cell:PySem.W.specialIn K (.builtin "object.__class__") "__get__"=some (some (.builtin "getset_descriptor.__get__")))
  (i3_Cell:PySem.W.takesIn K (.builtin "object.__class__")=some true)
  (i4_Cell:PySem.W.mroIn K C_Cell (.type "object")=some true)
  (i1_Shifted:PySem.W.findIn K (.ref C_Shifted) "__class__"=some (some (.builtin "object.__class__")))
  (i2_Shifted:PySem.W.specialIn K (.builtin "object.__class__") "__get__"=some (some (.builtin "getset_descriptor.__get__")))
  (i3_Shifted:PySem.W.takesIn K (.builtin "object.__class__")=some true)
  (i4_Shifted:PySem.W.mroIn K C_Shifted (.type "object")=some true)
  (i1_Local:PySem.W.findIn K (.ref C_Local) "__class__"=some (some (.builtin "object.__class__")))
  (i2_Local:PySem.W.specialIn K (.builtin "object.__class__") "__get__"=some (some (.builtin "getset_descriptor.__get__")))
  (i3_Local:PySem.W.takesIn K (.builtin "object.__class__")=some true)
  (i4_Local:PySem.W.mroIn K C_Local (.type "object")=some true)
  (i1_At:PySem.W.findIn K (.ref C_At) "__class__"=some (some (.builtin "object.__class__")))
  (i2_At:PySem.W.specialIn K (.builtin "object.__class__") "__get__"=some (some (.builtin "getset_descriptor.__get__")))
  (i3_At:PySem.W.takesIn K (.builtin "object.__class__")=some true)
  (i4_At:PySem.W.mroIn K C_At (.type "object")=some true)
  (i1_Pair:PySem.W.findIn K (.ref C_Pair) "__class__"=some (some (.builtin "object.__class__")))
  (i2_Pair:PySem.W.specialIn K (.builtin "object.__class__") "__get__"=some (some (.builtin "getset_descriptor.__get__")))
  (i3_Pair:PySem.W.takesIn K (.builtin "object.__class__")=some true)
  (i4_Pair:PySem.W.mroIn K C_Pair (.type "object")=some true)
  (i1_Choice:PySem.W.findIn K (.ref C_Choice) "__class__"=some (some (.builtin "object.__class__")))
  (i2_Choice:PySem.W.specialIn K (.builtin "object.__class__") "__get__"=some (some (.builtin "getset_descriptor.__get__")))
  (i3_Choice:PySem.W.takesIn K (.builtin "object.__class__")=some true)
  (i4_Choice:PySem.W.mroIn K C_Choice (.type "object")=some true)
  (i1_Call:PySem.W.findIn K (.ref C_Call) "__class__"=some (some (.builtin "object.__class__")))
  (i2_Call:PySem.W.specialIn K (.builtin "object.__class__") "__get__"=some (some (.builtin "getset_descriptor.__get__")))
  (i3_Call:PySem.W.takesIn K (.builtin "object.__class__")=some true)
  (i4_Call:PySem.W.mroIn K C_Call (.type "object")=some true)
  (i1_Source:PySem.W.findIn K (.ref C_Source) "__class__"=some (some (.builtin "object.__class__")))
  (i2_Source:PySem.W.specialIn K (.builtin "object.__class__") "__get__"=some (some (.builtin "getset_descriptor.__get__")))
  (i3_Source:PySem.W.takesIn K (.builtin "object.__class__")=some true)
  (i4_Source:PySem.W.mroIn K C_Source (.type "object")=some true)
  (i1_Program:PySem.W.findIn K (.ref C_Program) "__class__"=some (some (.builtin "object.__class__")))
  (i2_Program:PySem.W.specialIn K (.builtin "object.__class__") "__get__"=some (some (.builtin "getset_descriptor.__get__")))
  (i3_Program:PySem.W.takesIn K (.builtin "object.__class__")=some true)
  (i4_Program:PySem.W.mroIn K C_Program (.type "object")=some true)
  (kt_Number_At:PySem.W.kitOne K (.ref C_Number) (.ref C_At)=some false)
  (kt_Number_Pair:PySem.W.kitOne K (.ref C_Number) (.ref C_Pair)=some false)
  (kt_Number_Choice:PySem.W.kitOne K (.ref C_Number) (.ref C_Choice)=some false)
  (kt_Number_Call:PySem.W.kitOne K (.ref C_Number) (.ref C_Call)=some false)
  (ks_Number:PySem.W.kitOne K (.ref C_Number) (.ref C_Number)=some true)
  (kf_Number:PySem.W.kitOne K (.ref C_Number) (.ref CF)=some true)
  (kt_Here_At:PySem.W.kitOne K (.ref C_Here) (.ref C_At)=some false)
  (kt_Here_Pair:PySem.W.kitOne K (.ref C_Here) (.ref C_Pair)=some false)
  (kt_Here_Choice:PySem.W.kitOne K (.ref C_Here) (.ref C_Choice)=some false)
  (kt_Here_Call:PySem.W.kitOne K (.ref C_Here) (.ref C_Call)=some false)
  (ks_Here:PySem.W.kitOne K (.ref C_Here) (.ref C_Here)=some true)
  (kf_Here:PySem.W.kitOne K (.ref C_Here) (.ref CF)=some true)
  (kt_Cell_At:PySem.W.kitOne K (.ref C_Cell) (.ref C_At)=some false)
  (kt_Cell_Pair:PySem.W.kitOne K (.ref C_Cell) (.ref C_Pair)=some false)
  (kt_Cell_Choice:PySem.W.kitOne K (.ref C_Cell) (.ref C_Choice)=some false)
  (kt_Cell_Call:PySem.W.kitOne K (.ref C_Cell) (.ref C_Call)=some false)
  (ks_Cell:PySem.W.kitOne K (.ref C_Cell) (.ref C_Cell)=some true)
  (kf_Cell:PySem.W.kitOne K (.ref C_Cell) (.ref CF)=some true)
  (kt_Shifted_At:PySem.W.kitOne K (.ref C_Shifted) (.ref C_At)=some false)
  (kt_Shifted_Pair:PySem.W.kitOne K (.ref C_Shifted) (.ref C_Pair)=some false)
  (kt_Shifted_Choice:PySem.W.kitOne K (.ref C_Shifted) (.ref C_Choice)=some false)
  (kt_Shifted_Call:PySem.W.kitOne K (.ref C_Shifted) (.ref C_Call)=some false)
  (ks_Shifted:PySem.W.kitOne K (.ref C_Shifted) (.ref C_Shifted)=some true)
  (kf_Shifted:PySem.W.kitOne K (.ref C_Shifted) (.ref CF)=some true)
  (kt_Local_At:PySem.W.kitOne K (.ref C_Local) (.ref C_At)=some false)
  (kt_Local_Pair:PySem.W.kitOne K (.ref C_Local) (.ref C_Pair)=some false)
  (kt_Local_Choice:PySem.W.kitOne K (.ref C_Local) (.ref C_Choice)=some false)
  (kt_Local_Call:PySem.W.kitOne K (.ref C_Local) (.ref C_Call)=some false)
  (ks_Local:PySem.W.kitOne K (.ref C_Local) (.ref C_Local)=some true)
  (kf_Local:PySem.W.kitOne K (.ref C_Local) (.ref CF)=some true)
  (kt_At_At:PySem.W.kitOne K (.ref C_At) (.ref C_At)=some true)
  (kt_At_Pair:PySem.W.kitOne K (.ref C_At) (.ref C_Pair)=some false)
  (kt_At_Choice:PySem.W.kitOne K (.ref C_At) (.ref C_Choice)=some false)
  (kt_At_Call:PySem.W.kitOne K (.ref C_At) (.ref C_Call)=some false)
  (kf_At:PySem.W.kitOne K (.ref C_At) (.ref CF)=some true)
  (kt_Pair_At:PySem.W.kitOne K (.ref C_Pair) (.ref C_At)=some false)
  (kt_Pair_Pair:PySem.W.kitOne K (.ref C_Pair) (.ref C_Pair)=some true)
  (kt_Pair_Choice:PySem.W.kitOne K (.ref C_Pair) (.ref C_Choice)=some false)
  (kt_Pair_Call:PySem.W.kitOne K (.ref C_Pair) (.ref C_Call)=some false)
  (kf_Pair:PySem.W.kitOne K (.ref C_Pair) (.ref CF)=some true)
  (kt_Choice_At:PySem.W.kitOne K (.ref C_Choice) (.ref C_At)=some false)
  (kt_Choice_Pair:PySem.W.kitOne K (.ref C_Choice) (.ref C_Pair)=some false)
  (kt_Choice_Choice:PySem.W.kitOne K (.ref C_Choice) (.ref C_Choice)=some true)
  (kt_Choice_Call:PySem.W.kitOne K (.ref C_Choice) (.ref C_Call)=some false)
  (kf_Choice:PySem.W.kitOne K (.ref C_Choice) (.ref CF)=some true)
  (kt_Call_At:PySem.W.kitOne K (.ref C_Call) (.ref C_At)=some false)
  (kt_Call_Pair:PySem.W.kitOne K (.ref C_Call) (.ref C_Pair)=some false)
  (kt_Call_Choice:PySem.W.kitOne K (.ref C_Call) (.ref C_Choice)=some false)
  (kt_Call_Call:PySem.W.kitOne K (.ref C_Call) (.ref C_Call)=some true)
  (kf_Call:PySem.W.kitOne K (.ref C_Call) (.ref CF)=some true)
  (ks_Source:PySem.W.kitOne K (.ref C_Source) (.ref C_Source)=some true)
  (ks_Program:PySem.W.kitOne K (.ref C_Program) (.ref C_Program)=some true)
  (kk_list:PySem.W.kitOne K (.type "list") (.type "list")=some true)
  (kk_str:PySem.W.kitOne K (.type "str") (.type "str")=some true)
  (kk_tuple:PySem.W.kitOne K (.type "tuple") (.type "tuple")=some true)
  (aH:PySem.W.nsIn K mainGlobals "HALF"=some (some (.int 9223372036854775808 tH)))
  (g_LONGEST_NAME:PySem.W.nsIn K mainGlobals "LONGEST_NAME"=some (some (.int 12 t_LONGEST_NAME)))
  (g_MOST_FIGURES:PySem.W.nsIn K mainGlobals "MOST_FIGURES"=some (some (.int 19 t_MOST_FIGURES)))
  (g_MOST_BRACKETS:PySem.W.nsIn K mainGlobals "MOST_BRACKETS"=some (some (.int 30 t_MOST_BRACKETS)))
  (g_FARTHEST_SHIFT:PySem.W.nsIn K mainGlobals "FARTHEST_SHIFT"=some (some (.int 400 t_FARTHEST_SHIFT)))
  (g_MOST_ROWS:PySem.W.nsIn K mainGlobals "MOST_ROWS"=some (some (.int 12 t_MOST_ROWS)))
  (g_MOST_CELLS:PySem.W.nsIn K mainGlobals "MOST_CELLS"=some (some (.int 400 t_MOST_CELLS)))
  (g_MOST_FUNCTIONS:PySem.W.nsIn K mainGlobals "MOST_FUNCTIONS"=some (some (.int 8 t_MOST_FUNCTIONS)))
  (g_MOST_PARAMETERS:PySem.W.nsIn K mainGlobals "MOST_PARAMETERS"=some (some (.int 6 t_MOST_PARAMETERS)))
  (g_GREATEST_SIZE:PySem.W.nsIn K mainGlobals "GREATEST_SIZE"=some (some (.int 60 t_GREATEST_SIZE)))
  (g_GREATEST_DEPTH:PySem.W.nsIn K mainGlobals "GREATEST_DEPTH"=some (some (.int 7 t_GREATEST_DEPTH)))
  (g_LETTERS:PySem.W.nsIn K mainGlobals "LETTERS"=some (some (.str "abcdefghijklmnopqrstuvwxyz" t_LETTERS)))
  (g_FIGURES:PySem.W.nsIn K mainGlobals "FIGURES"=some (some (.str "0123456789" t_FIGURES)))
  (lK:K.lookup TK=some ⟨.type "tuple",none,.seq #[.str "row" tK0,.str "def" tK1,.str "let" tK2,.str "put" tK3,.str "fold" tK4,.str "run" tK5,.str "till" tK6,.str "end" tK7,.str "at" tK8,.str "in" tK9,.str "of" tK10,.str "into" tK11,.str "where" tK12,.str "most" tK13,.str "here" tK14,.str "shift" tK15,.str "if" tK16,.str "rest" tK17,.str "least" tK18,.str "sum" tK19,.str "product" tK20,.str "both" tK21,.str "either" tK22,.str "odd" tK23,.str "chain" tK24,.str "capped" tK25] nK,#[]⟩)
  (lS:K.lookup S=some ⟨.type "dict",none,.dict es nS,#[]⟩)
  (kS:PySem.W.KeysLit w.params es.toList)
  (loS:(S == sysModules)=false)
  (heS:es.toList.map keyS=signsL.map some)
  (lLi:K.lookup aL=some ⟨.type "dict",none,.dict esL nL,#[]⟩)
  (kLi:PySem.W.KeysLit w.params esL.toList)
  (loLi:(aL == sysModules)=false)
  (heLi:esL.toList.map keyS=linesL.map some)
  (tb3:TB K aL [("row",f_read_row_line),("def",f_read_def_line)])
  : ∃ fd:FuncData,(∀ (s:Sh) (v:Vl),BindsTo s fd ⟨[v],[]⟩ [("_law_script",v)])/\∀ base:Heap,K.In base->base.Ns mainGlobals mg->FnOk l.prog w K mg base CX0 158 fa fd ["_law_script"] (spLaw K):=by
 obtain ⟨a_law,oc_law,od_law,kV_law,dc_law,pm_law,an_law,cd_law,ct_law,sl_law,l_law,c_law,k_law⟩:=h_law;have e:=hfa.symm.trans (PySem.W.mg_of X G a_law);cases e;have d_kept:zB K mg "kept" zci ["number"]:=h_kept.d X G λ_ _ _ _ _ _=>us1 λ_=>rfl;have d_is_sign:zB K mg "is_sign" Yv ["word"]:=h_is_sign.d X G λ_ _ _ _ _ _=>us1 λ_=>rfl;have d_words_of:zB K mg "words_of" ZT ["line"]:=h_words_of.d X G λ_ _ _ _ _ _=>us1 λ_=>rfl;have d_is_made_of:zB K mg "is_made_of" Zj ["word","signs"]:=h_is_made_of.d X G λ_ _ _ _ _ _=>us2 λ_ _=>rfl;have d_is_name:zB K mg "is_name" Yw ["word"]:=h_is_name.d X G λ_ _ _ _ _ _=>us1 λ_=>rfl;have d_figures_of:zB K mg "figures_of" Zk ["word"]:=h_figures_of.d X G λ_ _ _ _ _ _=>us1 λ_=>rfl;have d_is_written_as_number:zB K mg "is_written_as_number" yr ["word"]:=h_is_written_as_number.d X G λ_ _ _ _ _ _=>us1 λ_=>rfl;have d_number_in:zB K mg "number_in" ZC ["word"]:=h_number_in.d X G λ_ _ _ _ _ _=>us1 λ_=>rfl;have d_read_word:zB K mg "read_word" ZA ["reading","wanted"]:=h_read_word.d X G λ_ _ _ _ _ _=>us2 λ_ _=>rfl;have d_read_line_end:zB K mg "read_line_end" xc ["reading"]:=h_read_line_end.d X G λ_ _ _ _ _ _=>us1 λ_=>rfl;have d_read_name:zB K mg "read_name" ZB ["reading"]:=h_read_name.d X G λ_ _ _ _ _ _=>us1 λ_=>rfl;have d_read_number:zB K mg "read_number" xN ["reading","least","most"]:=h_read_number.d X G λ_ _ _ _ _ _=>us3 λ_ _ _=>rfl;have d_read_row:zB K mg "read_row" ZU ["reading"]:=h_read_row.d X G λ_ _ _ _ _ _=>us1 λ_=>rfl;have d_read_forms:zB K mg "read_forms" xq ["reading","many"]:=h_read_forms.d X G λ_ _ _ _ _ _=>us2 λ_ _=>rfl;have d_read_at:zB K mg "read_at" ZN ["reading"]:=h_read_at.d X G λ_ _ _ _ _ _=>us1 λ_=>rfl;have d_read_shifted:zB K mg "read_shifted" xp ["reading"]:=h_read_shifted.d X G λ_ _ _ _ _ _=>us1 λ_=>rfl;have d_read_pair:zB K mg "read_pair" Zc ["reading","sign"]:=h_read_pair.d X G λ_ _ _ _ _ _=>us2 λ_ _=>rfl;have d_read_choice:zB K mg "read_choice" y8 ["reading"]:=h_read_choice.d X G λ_ _ _ _ _ _=>us1 λ_=>rfl;have d_read_call:zB K mg "read_call" Ze ["reading","name"]:=h_read_call.d X G λ_ _ _ _ _ _=>us2 λ_ _=>rfl;have d_read_behind_bracket:zB K mg "read_behind_bracket" yd ["reading"]:=h_read_behind_bracket.d X G λ_ _ _ _ _ _=>us1 λ_=>rfl;have d_read_bracket:zB K mg "read_bracket" yW ["reading"]:=h_read_bracket.d X G λ_ _ _ _ _ _=>us1 λ_=>rfl;have d_named_form:zB K mg "named_form" Zi ["reading","name"]:=h_named_form.d X G λ_ _ _ _ _ _=>us2 λ_ _=>rfl;have d_read_form:zB K mg "read_form" Zd ["reading"]:=h_read_form.d X G λ_ _ _ _ _ _=>us1 λ_=>rfl;have d_parts_of:zB K mg "parts_of" ZV ["form"]:=h_parts_of.d X G λ_ _ _ _ _ _=>us1 λ_=>rfl;have d_forms_within:zB K mg "forms_within" xr ["form"]:=h_forms_within.d X G λ_ _ _ _ _ _=>us1 λ_=>rfl;have d_body_size:zB K mg "body_size" Zf ["at","functions","known"]:=h_body_size.d X G λ_ _ _ _ _ _=>us3 λ_ _ _=>rfl;have d_size_with:zB K mg "size_with" Zb ["form","functions","known"]:=h_size_with.d X G λ_ _ _ _ _ _=>us3 λ_ _ _=>rfl;have d_size_of:zB K mg "size_of" Yp ["form","functions"]:=h_size_of.d X G λ_ _ _ _ _ _=>us2 λ_ _=>rfl;have d_body_depth:zB K mg "body_depth" xu ["at","functions","known"]:=h_body_depth.d X G λ_ _ _ _ _ _=>us3 λ_ _ _=>rfl;have d_depth_with:zB K mg "depth_with" xt ["form","functions","known"]:=h_depth_with.d X G λ_ _ _ _ _ _=>us3 λ_ _ _=>rfl;have d_depth_of:zB K mg "depth_of" Z2 ["form","functions"]:=h_depth_of.d X G λ_ _ _ _ _ _=>us2 λ_ _=>rfl;have d_refuse_within_till:zB K mg "refuse_within_till" yC ["draft","reading"]:=h_refuse_within_till.d X G λ_ _ _ _ _ _=>us2 λ_ _=>rfl;have d_refuse_taken:zB K mg "refuse_taken" xn ["reading","name"]:=h_refuse_taken.d X G λ_ _ _ _ _ _=>us2 λ_ _=>rfl;have d_read_new_name:zB K mg "read_new_name" xb ["reading"]:=h_read_new_name.d X G λ_ _ _ _ _ _=>us1 λ_=>rfl;have d_read_row_line:zB K mg "read_row_line" xa ["draft","reading"]:=h_read_row_line.d X G λ_ _ _ _ _ _=>us2 λ_ _=>rfl;have d_read_parameters:zB K mg "read_parameters" yO ["reading","function"]:=h_read_parameters.d X G λ_ _ _ _ _ _=>us2 λ_ _=>rfl;have d_check_forms:zB K mg "check_forms" xT ["draft","line","forms"]:=h_check_forms.d X G λ_ _ _ _ _ _=>us3 λ_ _ _=>rfl;have d_read_def_line:zB K mg "read_def_line" xf ["draft","reading"]:=h_read_def_line.d X G λ_ _ _ _ _ _=>us2 λ_ _=>rfl;have d_read_words:zB K mg "read_words" Zh ["draft","reading"]:=h_read_words.d X G λ_ _ _ _ _ _=>us2 λ_ _=>rfl;have d_read:zB K mg "read" zcg ["text"]:=h_read.d X G λ_ _ _ _ _ _=>us1 λ_=>rfl;have d_l_mixed:zB K mg "_law_mixed" Ys ["_law_cell","_law_k"]:=h_l_mixed.d X G λ_ _ _ _ _ _=>us2 λ_ _=>rfl;have d_l_whole:zB K mg "_law_whole" Yq ["_law_found"]:=h_l_whole.d X G λ_ _ _ _ _ _=>us1 λ_=>rfl;have d_l_is:zB K mg "_law_is" zch ["_law_found","_law_due"]:=h_l_is.d X G λ_ _ _ _ _ _=>us2 λ_ _=>rfl;have d_l_number_by:zB K mg "_law_number_by" xO ["_law_cell"]:=h_l_number_by.d X G λ_ _ _ _ _ _=>us1 λ_=>rfl;have d_l_sign_by:zB K mg "_law_sign_by" ZD ["_law_cell"]:=h_l_sign_by.d X G λ_ _ _ _ _ _=>us1 λ_=>rfl;have d_l_kept_word:zB K mg "_law_kept_word" xR ["_law_word"]:=h_l_kept_word.d X G λ_ _ _ _ _ _=>us1 λ_=>rfl;have d_l_near_kept:zB K mg "_law_near_kept" xP ["_law_cell"]:=h_l_near_kept.d X G λ_ _ _ _ _ _=>us1 λ_=>rfl;have d_l_name_by:zB K mg "_law_name_by" ZF ["_law_cell","_law_others"]:=h_l_name_by.d X G λ_ _ _ _ _ _=>us2 λ_ _=>rfl;have d_l_spaced:zB K mg "_law_spaced" ZY ["_law_words","_law_cell"]:=h_l_spaced.d X G λ_ _ _ _ _ _=>us2 λ_ _=>rfl;have d_l_leaf_by:zB K mg "_law_leaf_by" ZG ["_law_cell","_law_known"]:=h_l_leaf_by.d X G λ_ _ _ _ _ _=>us2 λ_ _=>rfl;have d_l_wanted:zB K mg "_law_wanted" ZW ["_law_how","_law_rest","_law_known"]:=h_l_wanted.d X G λ_ _ _ _ _ _=>us3 λ_ _ _=>rfl;have d_l_top_by:zB K mg "_law_top_by" ZX ["_law_how","_law_rest","_law_parts","_law_known"]:=h_l_top_by.d X G λ_ _ _ _ _ _=>us4 λ_ _ _ _=>rfl;have d_l_pushed:zB K mg "_law_pushed" ZZ ["_law_cell","_law_pile","_law_known"]:=h_l_pushed.d X G λ_ _ _ _ _ _=>us3 λ_ _ _=>rfl;have d_l_like_leaf:zB K mg "_law_like_leaf" xQ ["_law_form","_law_due"]:=h_l_like_leaf.d X G λ_ _ _ _ _ _=>us2 λ_ _=>rfl;have d_l_like:zB K mg "_law_like" Zu ["_law_form","_law_due"]:=h_l_like.d X G λ_ _ _ _ _ _=>us2 λ_ _=>rfl;have d_l_numbers:zB K mg "_law_numbers" ZE ["_law_found","_law_due"]:=h_l_numbers.d X G λ_ _ _ _ _ _=>us2 λ_ _=>rfl;have d_l_texts:zB K mg "_law_texts" Yr ["_law_found","_law_due"]:=h_l_texts.d X G λ_ _ _ _ _ _=>us2 λ_ _=>rfl;have d_l_functions:zB K mg "_law_functions" xS ["_law_found","_law_counts","_law_bodies"]:=h_l_functions.d X G λ_ _ _ _ _ _=>us3 λ_ _ _=>rfl;have d_l_begun:zB K mg "_law_begun" Yu []:=h_l_begun.d X G λ_ _ _ _ _ _=>us0 rfl;have d_l_lined:zB K mg "_law_lined" Yt ["_law_known","_law_words","_law_cell"]:=h_l_lined.d X G λ_ _ _ _ _ _=>us3 λ_ _ _=>rfl;have d_l_opened:zB K mg "_law_opened" Z0 ["_law_known","_law_cell"]:=h_l_opened.d X G λ_ _ _ _ _ _=>us2 λ_ _=>rfl;have d_l_closed:zB K mg "_law_closed" Z1 ["_law_known","_law_top","_law_cell"]:=h_l_closed.d X G λ_ _ _ _ _ _=>us3 λ_ _ _=>rfl;have d_Number_init:yp K C_Number "Number.__init__" xV ["self","number"]:=h_Number_init.i mk_C_Number kC_C_Number λ_ _ _ _ _ _=>us2 λ_ _=>rfl;have d_Cell_init:yp K C_Cell "Cell.__init__" ZI ["self","row"]:=h_Cell_init.i mk_C_Cell kC_C_Cell λ_ _ _ _ _ _=>us2 λ_ _=>rfl;have d_Shifted_init:yp K C_Shifted "Shifted.__init__" xv ["self","row","by","other"]:=h_Shifted_init.i mk_C_Shifted kC_C_Shifted λ_ _ _ _ _ _=>us4 λ_ _ _ _=>rfl;have d_Local_init:yp K C_Local "Local.__init__" Zl ["self","at"]:=h_Local_init.i mk_C_Local kC_C_Local λ_ _ _ _ _ _=>us2 λ_ _=>rfl;have d_At_init:yp K C_At "At.__init__" Yx ["self","row","place"]:=h_At_init.i mk_C_At kC_C_At λ_ _ _ _ _ _=>us3 λ_ _ _=>rfl;have d_Pair_init:yp K C_Pair "Pair.__init__" ZH ["self","sign","left","right"]:=h_Pair_init.i mk_C_Pair kC_C_Pair λ_ _ _ _ _ _=>us4 λ_ _ _ _=>rfl;have d_Choice_init:yp K C_Choice "Choice.__init__" xW ["self","test","left","right"]:=h_Choice_init.i mk_C_Choice kC_C_Choice λ_ _ _ _ _ _=>us4 λ_ _ _ _=>rfl;have d_Call_init:yp K C_Call "Call.__init__" ZJ ["self","at","handed"]:=h_Call_init.i mk_C_Call kC_C_Call λ_ _ _ _ _ _=>us3 λ_ _ _=>rfl;have d_Reading_init:yp K C_Reading "Reading.__init__" xw ["self","line","words","rows","heads"]:=h_Reading_init.i mk_C_Reading kC_C_Reading λ_ _ _ _ _ _=>us5 λ_ _ _ _ _=>rfl;have d_Reading_has_more:zas K C_Reading "has_more" "Reading.has_more" yK ["self"]:=h_Reading_has_more.m λ_ _ _ _ _ _=>us1 λ_=>rfl;have d_Reading_next_word:zas K C_Reading "next_word" "Reading.next_word" yD ["self"]:=h_Reading_next_word.m λ_ _ _ _ _ _=>us1 λ_=>rfl;have d_Draft_init:yp K C_Draft "Draft.__init__" Zm ["self"]:=h_Draft_init.i mk_C_Draft kC_C_Draft λ_ _ _ _ _ _=>us1 λ_=>rfl;have d_Source_init:yp K C_Source "Source.__init__" xU ["self","program","names","lines"]:=h_Source_init.i mk_C_Source kC_C_Source λ_ _ _ _ _ _=>us4 λ_ _ _ _=>rfl;have d_Program_init:yp K C_Program "Program.__init__" xy ["self","lengths","functions","steps"]:=h_Program_init.i mk_C_Program kC_C_Program λ_ _ _ _ _ _=>us4 λ_ _ _ _=>rfl;have cl_Number:Cls K C_Number:=h_C_Number.c;have cl_Here:Cls K C_Here:=h_C_Here.c;have cl_Cell:Cls K C_Cell:=h_C_Cell.c;have cl_Shifted:Cls K C_Shifted:=h_C_Shifted.c;have cl_Local:Cls K C_Local:=h_C_Local.c;have cl_At:Cls K C_At:=h_C_At.c;have cl_Pair:Cls K C_Pair:=h_C_Pair.c;have cl_Choice:Cls K C_Choice:=h_C_Choice.c;have cl_Call:Cls K C_Call:=h_C_Call.c;have cl_Reading:Cls K C_Reading:=h_C_Reading.c;have cl_Draft:Cls K C_Draft:=h_C_Draft.c;have cl_Source:Cls K C_Source:=h_C_Source.c;have cl_Program:Cls K C_Program:=h_C_Program.c;have mm:=λ{x:Str} {v:Vl} (q:PySem.W.nsIn K mainGlobals x=some (some v))=>PySem.W.mg_of X G q;have mz:=λ{x:Str} (q:PySem.W.nsIn K mainGlobals x=some none)=>PySem.W.mg_none_of X G q;refine ⟨PySem.W.fnOf "law" "law" (yS X2) (yu X2) (zg X2) .none kV_law dc_law pm_law an_law cd_law ct_law,λs v=>.of_eq rfl,λbase kb nb=>?_⟩;have N:Ints K mg:=⟨mz (tb1.g 0 rfl),mz (tb1.g 1 rfl),mz (tb1.g 2 rfl),k5,k6⟩;have WH:=ok_whole (P:=l.prog) (w:=w) (base:=base) d_l_whole N;let c:F2.Cs:=⟨⟨C_Number,C_Here,C_Cell,C_Shifted,C_Local,C_At,C_Pair,C_Choice,0⟩,C_Call⟩;have L:LooksK K c:=⟨⟨cl_Number,i1_Number,i2_Number,i3_Number,i4_Number,kt_Number_At,kt_Number_Pair,kt_Number_Choice,kt_Number_Call⟩,⟨cl_Here,i1_Here,i2_Here,i3_Here,i4_Here,kt_Here_At,kt_Here_Pair,kt_Here_Choice,kt_Here_Call⟩,⟨cl_Cell,i1_Cell,i2_Cell,i3_Cell,i4_Cell,kt_Cell_At,kt_Cell_Pair,kt_Cell_Choice,kt_Cell_Call⟩,⟨cl_Shifted,i1_Shifted,i2_Shifted,i3_Shifted,i4_Shifted,kt_Shifted_At,kt_Shifted_Pair,kt_Shifted_Choice,kt_Shifted_Call⟩,⟨cl_Local,i1_Local,i2_Local,i3_Local,i4_Local,kt_Local_At,kt_Local_Pair,kt_Local_Choice,kt_Local_Call⟩,⟨cl_At,i1_At,i2_At,i3_At,i4_At,kt_At_At,kt_At_Pair,kt_At_Choice,kt_At_Call⟩,⟨cl_Pair,i1_Pair,i2_Pair,i3_Pair,i4_Pair,kt_Pair_At,kt_Pair_Pair,kt_Pair_Choice,kt_Pair_Call⟩,⟨cl_Choice,i1_Choice,i2_Choice,i3_Choice,i4_Choice,kt_Choice_At,kt_Choice_Pair,kt_Choice_Choice,kt_Choice_Call⟩,⟨cl_Call,i1_Call,i2_Call,i3_Call,i4_Call,kt_Call_At,kt_Call_Pair,kt_Call_Choice,kt_Call_Call⟩,(fn_C_At.g 1 rfl),(fn_C_Pair.g 1 rfl),(fn_C_Pair.g 2 rfl),(fn_C_Choice.g 0 rfl),(fn_C_Choice.g 1 rfl),(fn_C_Choice.g 2 rfl),(fn_C_Call.g 1 rfl),(fn_C_Call.g 0 rfl)⟩;have LK:LikeK K c CF:=⟨L,ks_Number,ks_Here,ks_Cell,ks_Shifted,ks_Local,kf_Number,kf_Here,kf_Cell,kf_Shifted,kf_Local,kf_At,kf_Pair,kf_Choice,kf_Call,(fn_C_Number.g 0 rfl),(fn_C_Cell.g 0 rfl),(fn_C_Local.g 0 rfl),(fn_C_Shifted.g 0 rfl),(fn_C_Shifted.g 1 rfl),(fn_C_Shifted.g 2 rfl),(fn_C_At.g 0 rfl),(fn_C_Pair.g 0 rfl)⟩;have LG:LikeG mg c CF:=⟨mm a_C_Number,mm a_C_Here,mm a_C_Cell,mm a_C_Local,mm a_C_Shifted,mm a_C_At,mm a_C_Pair,mm a_C_Choice,mm a_C_Call,mm (tb2.g 0 rfl)⟩;have IN:=zet (P:=l.prog) (w:=w) (mg:=mg) (base:=base) d_Number_init cl_Number (fn_C_Number.g 0 rfl);have IC:=okI_Cell (P:=l.prog) (w:=w) (mg:=mg) (base:=base) d_Cell_init cl_Cell (fn_C_Cell.g 0 rfl);have IH:=zdn (P:=l.prog) (w:=w) (mg:=mg) (base:=base) d_Shifted_init cl_Shifted (fn_C_Shifted.g 0 rfl) (fn_C_Shifted.g 1 rfl) (fn_C_Shifted.g 2 rfl);have IL:=okI_Local (P:=l.prog) (w:=w) (mg:=mg) (base:=base) d_Local_init cl_Local (fn_C_Local.g 0 rfl);have IA:=okI_At (P:=l.prog) (w:=w) (mg:=mg) (base:=base) d_At_init cl_At (fn_C_At.g 0 rfl) (fn_C_At.g 1 rfl);have IP:=okI_Pair (P:=l.prog) (w:=w) (mg:=mg) (base:=base) d_Pair_init cl_Pair (fn_C_Pair.g 0 rfl) (fn_C_Pair.g 1 rfl) (fn_C_Pair.g 2 rfl);have IO:=zeu (P:=l.prog) (w:=w) (mg:=mg) (base:=base) d_Choice_init cl_Choice (fn_C_Choice.g 0 rfl) (fn_C_Choice.g 1 rfl) (fn_C_Choice.g 2 rfl);have ICa:=okI_Call (P:=l.prog) (w:=w) (mg:=mg) (base:=base) d_Call_init (mz (tb1.g 7 rfl)) cl_Call (fn_C_Call.g 0 rfl) (fn_C_Call.g 1 rfl);have MH:MkN K C_Here:=⟨mk_C_Here,in_C_Here,kC_C_Here⟩;have rC:RCls K C_Reading:=⟨cl_Reading,(fn_C_Reading.g 0 rfl),(fn_C_Reading.g 1 rfl),(fn_C_Reading.g 2 rfl),(fn_C_Reading.g 3 rfl),(fn_C_Reading.g 4 rfl),(fn_C_Reading.g 5 rfl),(fn_C_Reading.g 6 rfl)⟩;have dC:DCls K C_Draft:=⟨cl_Draft,(fn_C_Draft.g 0 rfl),(fn_C_Draft.g 1 rfl),(fn_C_Draft.g 2 rfl),(fn_C_Draft.g 3 rfl),(fn_C_Draft.g 4 rfl),(fn_C_Draft.g 5 rfl),(fn_C_Draft.g 6 rfl)⟩;have pC:ProgC K C_Program:=⟨cl_Program,(fn_C_Program.g 0 rfl),(fn_C_Program.g 1 rfl),(fn_C_Program.g 2 rfl)⟩;have SC:SoC K C_Source C_Program:=⟨cl_Source,i1_Source,i2_Source,i3_Source,i4_Source,ks_Source,(fn_C_Source.g 0 rfl),(fn_C_Source.g 1 rfl),(fn_C_Source.g 2 rfl),pC,i1_Program,i4_Program,ks_Program⟩;have TS:TopHas w K mg "SIGNS" S signsL:=⟨mm (tb2.g 2 rfl),⟨es,nS,lS,kS⟩,loS,top_has lS heS⟩;have TL:TopHas w K mg "LINES" aL linesL:=⟨mm (tb2.g 3 rfl),⟨esL,nL,lLi,kLi⟩,loLi,top_has lLi heLi⟩;have hkw:∀ H,SqT K H TK (keptWs.map V.str):=λH=>.inr ⟨_,_,_,lK,rfl,rfl,(by show 26<=sizeLine;decide),.cons ⟨_,rfl⟩ (.cons ⟨_,rfl⟩ (.cons ⟨_,rfl⟩ (.cons ⟨_,rfl⟩ (.cons ⟨_,rfl⟩ (.cons ⟨_,rfl⟩ (.cons ⟨_,rfl⟩ (.cons ⟨_,rfl⟩ (.cons ⟨_,rfl⟩ (.cons ⟨_,rfl⟩ (.cons ⟨_,rfl⟩ (.cons ⟨_,rfl⟩ (.cons ⟨_,rfl⟩ (.cons ⟨_,rfl⟩ (.cons ⟨_,rfl⟩ (.cons ⟨_,rfl⟩ (.cons ⟨_,rfl⟩ (.cons ⟨_,rfl⟩ (.cons ⟨_,rfl⟩ (.cons ⟨_,rfl⟩ (.cons ⟨_,rfl⟩ (.cons ⟨_,rfl⟩ (.cons ⟨_,rfl⟩ (.cons ⟨_,rfl⟩ (.cons ⟨_,rfl⟩ (.cons ⟨_,rfl⟩ .nil)))))))))))))))))))))))))⟩;have PO:=ok_parts (P:=l.prog) (w:=w) (base:=base) (c:=c) d_parts_of (mz (tb1.g 0 rfl)) (mz (tb1.g 7 rfl)) (mm a_C_At) (mm a_C_Pair) (mm a_C_Choice) (mm a_C_Call) L;have WI:=ok_within (c:=c) d_forms_within (mz (tb1.g 4 rfl)) PO;have SO:=ok_so (c:=c) d_size_of (all_sw d_body_size d_size_with (mz (tb1.g 0 rfl)) (mm a_C_Call) L WI 8);have DO:=ok_do (c:=c) d_depth_of (all_dw d_body_depth d_depth_with (mz (tb1.g 0 rfl)) (mm a_C_Call) L (mz (tb1.g 4 rfl)) (mz (tb1.g 3 rfl)) (mm a_C_Choice) PO 8);have KP:=ok_kept (P:=l.prog) (w:=w) (base:=base) d_kept (mm aH);have SG:=zep (P:=l.prog) (w:=w) (base:=base) d_is_sign TS;have WO:=ok_words (P:=l.prog) (w:=w) (base:=base) d_words_of;have MO:=zem (P:=l.prog) (w:=w) (base:=base) d_is_made_of (mz (tb1.g 11 rfl));have FO:=ok_figs (P:=l.prog) (w:=w) (base:=base) d_figures_of;have NM:=zeq (P:=l.prog) (w:=w) (base:=base) d_is_name (mz (tb1.g 4 rfl)) (mm g_LETTERS) (mm g_LONGEST_NAME) (mm (tb2.g 1 rfl)) hkw MO;have WR:=ok_wr (P:=l.prog) (w:=w) (base:=base) d_is_written_as_number (mz (tb1.g 4 rfl)) (mm g_FIGURES) (mm g_MOST_FIGURES) FO MO;have NI:=zct (P:=l.prog) (w:=w) (base:=base) d_number_in (mz (tb1.g 1 rfl)) WR KP;have HM:=zdl (P:=l.prog) (w:=w) (base:=base) d_Reading_has_more rC (mz (tb1.g 4 rfl));have NW:=zcv (P:=l.prog) (w:=w) (base:=base) d_Reading_next_word rC HM;have RW:=zcp (P:=l.prog) (w:=w) (base:=base) d_read_word rC NW;have LE:=zdk (P:=l.prog) (w:=w) (base:=base) d_read_line_end rC HM;have RN:=zcr (P:=l.prog) (w:=w) (base:=base) d_read_name rC NW NM;have NU:=X8 (P:=l.prog) (w:=w) (base:=base) d_read_number rC NW NI;have RR:=zdi (P:=l.prog) (w:=w) (base:=base) d_read_row rC RN;have NF:=za0 (c:=c) d_named_form rC (mm a_C_Cell) (mm a_C_Local) IC IL;have RSH:=XG (c:=c) d_read_shifted (mm g_FARTHEST_SHIFT) (mm aH) (mm a_C_Shifted) IH RR NU;have RF:=YI (c:=c) d_read_form d_read_forms d_read_pair d_read_choice d_read_call d_read_at d_read_behind_bracket d_read_bracket rC MH (mz (tb1.g 4 rfl)) (mm g_MOST_BRACKETS) (mm a_C_Here) (mm a_C_Number) (mm a_C_Pair) (mm a_C_Choice) (mm a_C_Call) (mm a_C_At) IN IP IO ICa IA NW NM NI NF SG RW RR RSH 30;have WT:=X7 (P:=l.prog) (w:=w) (base:=base) d_refuse_within_till (mz (tb1.g 4 rfl));have RT:=ok_taken (P:=l.prog) (w:=w) (base:=base) d_refuse_taken rC;have NN:=zdj d_read_new_name RN RT;have RL:=zdh (c:=c) d_read_row_line (mz (tb1.g 4 rfl)) (mm g_MOST_CELLS) (mm g_MOST_ROWS) WT NN NU LE;have PS:=zaz (P:=l.prog) (w:=w) (base:=base) d_read_parameters rC (mz (tb1.g 4 rfl)) (mm g_MOST_PARAMETERS) NW NM RT;have CK:=ok_check (c:=c) d_check_forms (mz (tb1.g 10 rfl)) (mm g_GREATEST_SIZE) (mm g_GREATEST_DEPTH) SO DO;have DL:=zdm (c:=c) d_read_def_line rC (mz (tb1.g 4 rfl)) (mm g_MOST_FUNCTIONS) WT NN PS RF LE CK;have LR:=LineFn.of (k':=155) (tb3.g 0 rfl) (mm h_read_row_line.1) RL (by decide);have LD:=LineFn.of (k':=155) (tb3.g 1 rfl) (mm h_read_def_line.1) DL (by decide);have RWS:=zax (P:=l.prog) (w:=w) (base:=base) (k:=155) (by decide) d_read_words rC TL NW;have IRd:=okI_Rd (P:=l.prog) (w:=w) (mg:=mg) (base:=base) d_Reading_init rC;have IDr:=okI_Dr (P:=l.prog) (w:=w) (mg:=mg) (base:=base) d_Draft_init dC;have IPr:=okI_ProgF (P:=l.prog) (w:=w) (mg:=mg) (base:=base) d_Program_init (mz (tb1.g 7 rfl)) pC;have ISo:=zes (P:=l.prog) (w:=w) (mg:=mg) (base:=base) d_Source_init cl_Source (fn_C_Source.g 0 rfl) (fn_C_Source.g 1 rfl) (fn_C_Source.g 2 rfl);have RD:=ok_read (k:=155) (by decide) d_read rC dC (mz (tb1.g 4 rfl)) (mz (tb1.g 7 rfl)) (mz (tb1.g 12 rfl)) (mm a_C_Reading) (mm a_C_Draft) (mm a_C_Program) (mm a_C_Source) IRd IDr IPr ISo WO RWS;have MX:=ok_mixed (P:=l.prog) (w:=w) (base:=base) d_l_mixed;have SPC:=ok_spaced d_l_spaced MX
 have NB:=zcu (P:=l.prog) (w:=w) (base:=base) d_l_number_by
 have KWd:=zcy (P:=l.prog) (w:=w) (base:=base) d_l_kept_word;have NK:=zcw (P:=l.prog) (w:=w) (base:=base) d_l_near_kept;have NB2:=zel d_l_name_by (mz (tb1.g 4 rfl)) (mz (tb1.g 5 rfl)) MX KWd NK;have LF:=zeo d_l_leaf_by (mz (tb1.g 4 rfl)) (mz (tb1.g 8 rfl)) MX NB;have WA:=ok_wanted (P:=l.prog) (w:=w) (base:=base) d_l_wanted (mz (tb1.g 4 rfl))
 have SB:=zei (P:=l.prog) (w:=w) (base:=base) d_l_sign_by
 have TB:=ok_top_by d_l_top_by (mz (tb1.g 4 rfl)) (mz (tb1.g 6 rfl)) (mz (tb1.g 3 rfl)) SB;have PU:=ok_pushed d_l_pushed (mz (tb1.g 4 rfl)) WA LF TB;have IS:=ok_is d_l_is WH;have LL:=zcx (c:=c) d_l_like_leaf (mz (tb1.g 0 rfl)) LG LK IS;have LI:=ok_like (c:=c) d_l_like (mz (tb1.g 0 rfl)) (mz (tb1.g 7 rfl)) (mz (tb1.g 8 rfl)) (mz (tb1.g 4 rfl)) (mz (tb1.g 5 rfl)) kk_list kk_str LG LK IS LL 100 (by decide);have NS:=zek d_l_numbers (mz (tb1.g 5 rfl)) (mz (tb1.g 4 rfl)) (mz (tb1.g 0 rfl)) (mz (tb1.g 7 rfl)) kk_list IS;have TX:=ok_texts (P:=l.prog) (w:=w) (base:=base) d_l_texts (mz (tb1.g 5 rfl)) (mz (tb1.g 4 rfl)) (mz (tb1.g 0 rfl)) (mz (tb1.g 7 rfl)) (mz (tb1.g 8 rfl)) kk_list kk_str;have FN:=zcz (c:=c) d_l_functions (mz (tb1.g 5 rfl)) (mz (tb1.g 4 rfl)) (mz (tb1.g 0 rfl)) (mz (tb1.g 7 rfl)) (mz (tb1.g 9 rfl)) kk_list kk_tuple IS LI;have LN:=ok_lined d_l_lined SPC;have BG:=ok_begun (P:=l.prog) (w:=w) (base:=base) d_l_begun;have OP:=ok_opened d_l_opened (mz (tb1.g 4 rfl)) (mz (tb1.g 5 rfl)) (mz (tb1.g 8 rfl)) MX NB2 LN;have CL:=ok_closed d_l_closed (mz (tb1.g 4 rfl)) LN;exact ok_law (c:=c) (YV (st:=X2) l_law c_law k_law) (mz (tb1.g 4 rfl)) (mz (tb1.g 0 rfl)) (mm a_C_Source) (mm a_C_Program) SC dC LR LD BG OP CL PU LF RD NS TX FN
def walk {l:PySem.W.OpenLaw} {q:Program} {loose:Jg} {XP:(J0)->Heap->Prop} {YP:World->Heap->Prop} {d:DefRec} {K:Params->Fg} (hn:l.most=some 63) (hdf:d.params.defaults=[])
  (hY:∀ (w:World) (h:Heap),YP w h->(K w.params).In h)
  (F:∀ (w:World) (mg:J0) (fa:Ad) (h:Heap),(K w.params).In h->h.Ns mainGlobals mg->mg d.name=some (.ref fa) ->
   ∃ fd:FuncData,(∀ (s:Sh) (u:Vl),BindsTo s fd ⟨[u],[]⟩ [("_law_script",u)])/\∀ base:Heap,(K w.params).In base->base.Ns mainGlobals mg->FnOk l.prog w (K w.params) mg base CX0 158 fa fd ["_law_script"] (spLaw (K w.params))) :
  PySem.W.WalkO q loose XP YP l.row.toRowW d [] (λf vs=>PySem.call f vs) :=
 L2.walk_of (n:=63) (k:=158) (x:="_law_script") (CX:=λ_=>CX0) (sp:=λw=>spLaw (K w.params)) hn (by decide) hdf ⟨rfl,by decide,by decide⟩ hY F (λ_ _ a ns hl _ hS=>⟨a,ns,rfl,hS,hl,λ_=>rfl⟩) λ_ _ _ _ _ z=>z
end K22
open PySem PySem.W PyProof.Rows
set_option maxRecDepth 100000 in
set_option maxHeartbeats 0 in
theorem PySem.Challenge.cw_rowbreadth_k22_rows_and_functions_read_holds : PySem.Challenge.rw_rowbreadth_k22_rows_and_functions_read.Holds := by
 refine K22hd ?_
 k_fill
 refine K22.walk (l:=PySem.Challenge.rw_rowbreadth_k22_rows_and_functions_read) rfl rfl (λw h Y=>Y) ?F
 case F =>
  intro w mg fa h KX G hmg
  refine' K22.all_mk KX G hmg ?kf_h_kept ?kf_h_is_sign ?kf_h_words_of ?kf_h_is_made_of ?kf_h_is_name ?kf_h_figures_of ?kf_h_is_written_as_number ?kf_h_number_in ?kf_h_read_word ?kf_h_read_line_end ?kf_h_read_name ?kf_h_read_number ?kf_h_read_row ?kf_h_read_forms ?kf_h_read_at ?kf_h_read_shifted ?kf_h_read_pair ?kf_h_read_choice ?kf_h_read_call ?kf_h_read_behind_bracket ?kf_h_read_bracket ?kf_h_named_form ?kf_h_read_form ?kf_h_parts_of ?kf_h_forms_within ?kf_h_body_size ?kf_h_size_with ?kf_h_size_of ?kf_h_body_depth ?kf_h_depth_with ?kf_h_depth_of ?kf_h_refuse_within_till ?kf_h_refuse_taken ?kf_h_read_new_name ?kf_h_read_row_line ?kf_h_read_parameters ?kf_h_check_forms ?kf_h_read_def_line ?kf_h_read_words ?kf_h_read ?kf_h_l_mixed ?kf_h_l_whole ?kf_h_l_is ?kf_h_l_number_by ?kf_h_l_sign_by ?kf_h_l_kept_word ?kf_h_l_near_kept ?kf_h_l_name_by ?kf_h_l_spaced ?kf_h_l_leaf_by ?kf_h_l_wanted ?kf_h_l_top_by ?kf_h_l_pushed ?kf_h_l_like_leaf ?kf_h_l_like ?kf_h_l_numbers ?kf_h_l_texts ?kf_h_l_functions ?kf_h_l_begun ?kf_h_l_lined ?kf_h_l_opened ?kf_h_l_closed ?kf_h_law ?kf_a_C_Number ?kf_h_C_Number ?kf_fn_C_Number ?kf_mk_C_Number ?kf_kC_C_Number ?kf_h_Number_init ?kf_a_C_Here ?kf_h_C_Here ?kf_mk_C_Here ?kf_kC_C_Here ?kf_in_C_Here ?kf_a_C_Cell ?kf_h_C_Cell ?kf_fn_C_Cell ?kf_mk_C_Cell ?kf_kC_C_Cell ?kf_h_Cell_init ?kf_a_C_Shifted ?kf_h_C_Shifted ?kf_fn_C_Shifted ?kf_mk_C_Shifted ?kf_kC_C_Shifted ?kf_h_Shifted_init ?kf_a_C_Local ?kf_h_C_Local ?kf_fn_C_Local ?kf_mk_C_Local ?kf_kC_C_Local ?kf_h_Local_init ?kf_a_C_At ?kf_h_C_At ?kf_fn_C_At ?kf_mk_C_At ?kf_kC_C_At ?kf_h_At_init ?kf_a_C_Pair ?kf_h_C_Pair ?kf_fn_C_Pair ?kf_mk_C_Pair ?kf_kC_C_Pair ?kf_h_Pair_init ?kf_a_C_Choice ?kf_h_C_Choice ?kf_fn_C_Choice ?kf_mk_C_Choice ?kf_kC_C_Choice ?kf_h_Choice_init ?kf_a_C_Call ?kf_h_C_Call ?kf_fn_C_Call ?kf_mk_C_Call ?kf_kC_C_Call ?kf_h_Call_init ?kf_a_C_Reading ?kf_h_C_Reading ?kf_fn_C_Reading ?kf_mk_C_Reading ?kf_kC_C_Reading ?kf_h_Reading_init ?kf_h_Reading_has_more ?kf_h_Reading_next_word ?kf_a_C_Draft ?kf_h_C_Draft ?kf_fn_C_Draft ?kf_mk_C_Draft ?kf_kC_C_Draft ?kf_h_Draft_init ?kf_a_C_Source ?kf_h_C_Source ?kf_fn_C_Source ?kf_mk_C_Source ?kf_kC_C_Source ?kf_h_Source_init ?kf_a_C_Program ?kf_h_C_Program ?kf_fn_C_Program ?kf_mk_C_Program ?kf_kC_C_Program ?kf_h_Program_init ?kf_k5 ?kf_k6 ?kf_tb1 ?kf_tb2 ?kf_i1_Number ?kf_i2_Number ?kf_i3_Number ?kf_i4_Number ?kf_i1_Here ?kf_i2_Here ?kf_i3_Here ?kf_i4_Here ?kf_i1_Cell ?kf_i2_Cell ?kf_i3_Cell ?kf_i4_Cell ?kf_i1_Shifted ?kf_i2_Shifted ?kf_i3_Shifted ?kf_i4_Shifted ?kf_i1_Local ?kf_i2_Local ?kf_i3_Local ?kf_i4_Local ?kf_i1_At ?kf_i2_At ?kf_i3_At ?kf_i4_At ?kf_i1_Pair ?kf_i2_Pair ?kf_i3_Pair ?kf_i4_Pair ?kf_i1_Choice ?kf_i2_Choice ?kf_i3_Choice ?kf_i4_Choice ?kf_i1_Call ?kf_i2_Call ?kf_i3_Call ?kf_i4_Call ?kf_i1_Source ?kf_i2_Source ?kf_i3_Source ?kf_i4_Source ?kf_i1_Program ?kf_i2_Program ?kf_i3_Program ?kf_i4_Program ?kf_kt_Number_At ?kf_kt_Number_Pair ?kf_kt_Number_Choice ?kf_kt_Number_Call ?kf_ks_Number ?kf_kf_Number ?kf_kt_Here_At ?kf_kt_Here_Pair ?kf_kt_Here_Choice ?kf_kt_Here_Call ?kf_ks_Here ?kf_kf_Here ?kf_kt_Cell_At ?kf_kt_Cell_Pair ?kf_kt_Cell_Choice ?kf_kt_Cell_Call ?kf_ks_Cell ?kf_kf_Cell ?kf_kt_Shifted_At ?kf_kt_Shifted_Pair ?kf_kt_Shifted_Choice ?kf_kt_Shifted_Call ?kf_ks_Shifted ?kf_kf_Shifted ?kf_kt_Local_At ?kf_kt_Local_Pair ?kf_kt_Local_Choice ?kf_kt_Local_Call ?kf_ks_Local ?kf_kf_Local ?kf_kt_At_At ?kf_kt_At_Pair ?kf_kt_At_Choice ?kf_kt_At_Call ?kf_kf_At ?kf_kt_Pair_At ?kf_kt_Pair_Pair ?kf_kt_Pair_Choice ?kf_kt_Pair_Call ?kf_kf_Pair ?kf_kt_Choice_At ?kf_kt_Choice_Pair ?kf_kt_Choice_Choice ?kf_kt_Choice_Call ?kf_kf_Choice ?kf_kt_Call_At ?kf_kt_Call_Pair ?kf_kt_Call_Choice ?kf_kt_Call_Call ?kf_kf_Call ?kf_ks_Source ?kf_ks_Program ?kf_kk_list ?kf_kk_str ?kf_kk_tuple ?kf_aH ?kf_g_LONGEST_NAME ?kf_g_MOST_FIGURES ?kf_g_MOST_BRACKETS ?kf_g_FARTHEST_SHIFT ?kf_g_MOST_ROWS ?kf_g_MOST_CELLS ?kf_g_MOST_FUNCTIONS ?kf_g_MOST_PARAMETERS ?kf_g_GREATEST_SIZE ?kf_g_GREATEST_DEPTH ?kf_g_LETTERS ?kf_g_FIGURES ?kf_lK ?kf_lS ?kf_kS ?kf_loS ?kf_heS ?kf_lLi ?kf_kLi ?kf_loLi ?kf_heLi ?kf_tb3
  (case kf_h_kept=>(refine' L2.DH.mk ?a ?b ?c ?d;(case a=>k_is);(case b=>k_is);(case c=>k_is);(case d=>k_is)))
  (case kf_h_is_sign=>(refine' L2.DH.mk ?a ?b ?c ?d;(case a=>k_is);(case b=>k_is);(case c=>k_is);(case d=>k_is)))
  (case kf_h_words_of=>(refine' L2.DH.mk ?a ?b ?c ?d;(case a=>k_is);(case b=>k_is);(case c=>k_is);(case d=>k_is)))
  (case kf_h_is_made_of=>(refine' L2.DH.mk ?a ?b ?c ?d;(case a=>k_is);(case b=>k_is);(case c=>k_is);(case d=>k_is)))
  (case kf_h_is_name=>(refine' L2.DH.mk ?a ?b ?c ?d;(case a=>k_is);(case b=>k_is);(case c=>k_is);(case d=>k_is)))
  (case kf_h_figures_of=>(refine' L2.DH.mk ?a ?b ?c ?d;(case a=>k_is);(case b=>k_is);(case c=>k_is);(case d=>k_is)))
  (case kf_h_is_written_as_number=>(refine' L2.DH.mk ?a ?b ?c ?d;(case a=>k_is);(case b=>k_is);(case c=>k_is);(case d=>k_is)))
  (case kf_h_number_in=>(refine' L2.DH.mk ?a ?b ?c ?d;(case a=>k_is);(case b=>k_is);(case c=>k_is);(case d=>k_is)))
  (case kf_h_read_word=>(refine' L2.DH.mk ?a ?b ?c ?d;(case a=>k_is);(case b=>k_is);(case c=>k_is);(case d=>k_is)))
  (case kf_h_read_line_end=>(refine' L2.DH.mk ?a ?b ?c ?d;(case a=>k_is);(case b=>k_is);(case c=>k_is);(case d=>k_is)))
  (case kf_h_read_name=>(refine' L2.DH.mk ?a ?b ?c ?d;(case a=>k_is);(case b=>k_is);(case c=>k_is);(case d=>k_is)))
  (case kf_h_read_number=>(refine' L2.DH.mk ?a ?b ?c ?d;(case a=>k_is);(case b=>k_is);(case c=>k_is);(case d=>k_is)))
  (case kf_h_read_row=>(refine' L2.DH.mk ?a ?b ?c ?d;(case a=>k_is);(case b=>k_is);(case c=>k_is);(case d=>k_is)))
  (case kf_h_read_forms=>(refine' L2.DH.mk ?a ?b ?c ?d;(case a=>k_is);(case b=>k_is);(case c=>k_is);(case d=>k_is)))
  (case kf_h_read_at=>(refine' L2.DH.mk ?a ?b ?c ?d;(case a=>k_is);(case b=>k_is);(case c=>k_is);(case d=>k_is)))
  (case kf_h_read_shifted=>(refine' L2.DH.mk ?a ?b ?c ?d;(case a=>k_is);(case b=>k_is);(case c=>k_is);(case d=>k_is)))
  (case kf_h_read_pair=>(refine' L2.DH.mk ?a ?b ?c ?d;(case a=>k_is);(case b=>k_is);(case c=>k_is);(case d=>k_is)))
  (case kf_h_read_choice=>(refine' L2.DH.mk ?a ?b ?c ?d;(case a=>k_is);(case b=>k_is);(case c=>k_is);(case d=>k_is)))
  (case kf_h_read_call=>(refine' L2.DH.mk ?a ?b ?c ?d;(case a=>k_is);(case b=>k_is);(case c=>k_is);(case d=>k_is)))
  (case kf_h_read_behind_bracket=>(refine' L2.DH.mk ?a ?b ?c ?d;(case a=>k_is);(case b=>k_is);(case c=>k_is);(case d=>k_is)))
  (case kf_h_read_bracket=>(refine' L2.DH.mk ?a ?b ?c ?d;(case a=>k_is);(case b=>k_is);(case c=>k_is);(case d=>k_is)))
  (case kf_h_named_form=>(refine' L2.DH.mk ?a ?b ?c ?d;(case a=>k_is);(case b=>k_is);(case c=>k_is);(case d=>k_is)))
  (case kf_h_read_form=>(refine' L2.DH.mk ?a ?b ?c ?d;(case a=>k_is);(case b=>k_is);(case c=>k_is);(case d=>k_is)))
  (case kf_h_parts_of=>(refine' L2.DH.mk ?a ?b ?c ?d;(case a=>k_is);(case b=>k_is);(case c=>k_is);(case d=>k_is)))
  (case kf_h_forms_within=>(refine' L2.DH.mk ?a ?b ?c ?d;(case a=>k_is);(case b=>k_is);(case c=>k_is);(case d=>k_is)))
  (case kf_h_body_size=>(refine' L2.DH.mk ?a ?b ?c ?d;(case a=>k_is);(case b=>k_is);(case c=>k_is);(case d=>k_is)))
  (case kf_h_size_with=>(refine' L2.DH.mk ?a ?b ?c ?d;(case a=>k_is);(case b=>k_is);(case c=>k_is);(case d=>k_is)))
  (case kf_h_size_of=>(refine' L2.DH.mk ?a ?b ?c ?d;(case a=>k_is);(case b=>k_is);(case c=>k_is);(case d=>k_is)))
  (case kf_h_body_depth=>(refine' L2.DH.mk ?a ?b ?c ?d;(case a=>k_is);(case b=>k_is);(case c=>k_is);(case d=>k_is)))
  (case kf_h_depth_with=>(refine' L2.DH.mk ?a ?b ?c ?d;(case a=>k_is);(case b=>k_is);(case c=>k_is);(case d=>k_is)))
  (case kf_h_depth_of=>(refine' L2.DH.mk ?a ?b ?c ?d;(case a=>k_is);(case b=>k_is);(case c=>k_is);(case d=>k_is)))
  (case kf_h_refuse_within_till=>(refine' L2.DH.mk ?a ?b ?c ?d;(case a=>k_is);(case b=>k_is);(case c=>k_is);(case d=>k_is)))
  (case kf_h_refuse_taken=>(refine' L2.DH.mk ?a ?b ?c ?d;(case a=>k_is);(case b=>k_is);(case c=>k_is);(case d=>k_is)))
  (case kf_h_read_new_name=>(refine' L2.DH.mk ?a ?b ?c ?d;(case a=>k_is);(case b=>k_is);(case c=>k_is);(case d=>k_is)))
  (case kf_h_read_row_line=>(refine' L2.DH.mk ?a ?b ?c ?d;(case a=>k_is);(case b=>k_is);(case c=>k_is);(case d=>k_is)))
  (case kf_h_read_parameters=>(refine' L2.DH.mk ?a ?b ?c ?d;(case a=>k_is);(case b=>k_is);(case c=>k_is);(case d=>k_is)))
  (case kf_h_check_forms=>(refine' L2.DH.mk ?a ?b ?c ?d;(case a=>k_is);(case b=>k_is);(case c=>k_is);(case d=>k_is)))
  (case kf_h_read_def_line=>(refine' L2.DH.mk ?a ?b ?c ?d;(case a=>k_is);(case b=>k_is);(case c=>k_is);(case d=>k_is)))
  (case kf_h_read_words=>(refine' L2.DH.mk ?a ?b ?c ?d;(case a=>k_is);(case b=>k_is);(case c=>k_is);(case d=>k_is)))
  (case kf_h_read=>(refine' L2.DH.mk ?a ?b ?c ?d;(case a=>k_is);(case b=>k_is);(case c=>k_is);(case d=>k_is)))
  (case kf_h_l_mixed=>(refine' L2.DH.mk ?a ?b ?c ?d;(case a=>k_is);(case b=>k_is);(case c=>k_is);(case d=>k_is)))
  (case kf_h_l_whole=>(refine' L2.DH.mk ?a ?b ?c ?d;(case a=>k_is);(case b=>k_is);(case c=>k_is);(case d=>k_is)))
  (case kf_h_l_is=>(refine' L2.DH.mk ?a ?b ?c ?d;(case a=>k_is);(case b=>k_is);(case c=>k_is);(case d=>k_is)))
  (case kf_h_l_number_by=>(refine' L2.DH.mk ?a ?b ?c ?d;(case a=>k_is);(case b=>k_is);(case c=>k_is);(case d=>k_is)))
  (case kf_h_l_sign_by=>(refine' L2.DH.mk ?a ?b ?c ?d;(case a=>k_is);(case b=>k_is);(case c=>k_is);(case d=>k_is)))
  (case kf_h_l_kept_word=>(refine' L2.DH.mk ?a ?b ?c ?d;(case a=>k_is);(case b=>k_is);(case c=>k_is);(case d=>k_is)))
  (case kf_h_l_near_kept=>(refine' L2.DH.mk ?a ?b ?c ?d;(case a=>k_is);(case b=>k_is);(case c=>k_is);(case d=>k_is)))
  (case kf_h_l_name_by=>(refine' L2.DH.mk ?a ?b ?c ?d;(case a=>k_is);(case b=>k_is);(case c=>k_is);(case d=>k_is)))
  (case kf_h_l_spaced=>(refine' L2.DH.mk ?a ?b ?c ?d;(case a=>k_is);(case b=>k_is);(case c=>k_is);(case d=>k_is)))
  (case kf_h_l_leaf_by=>(refine' L2.DH.mk ?a ?b ?c ?d;(case a=>k_is);(case b=>k_is);(case c=>k_is);(case d=>k_is)))
  (case kf_h_l_wanted=>(refine' L2.DH.mk ?a ?b ?c ?d;(case a=>k_is);(case b=>k_is);(case c=>k_is);(case d=>k_is)))
  (case kf_h_l_top_by=>(refine' L2.DH.mk ?a ?b ?c ?d;(case a=>k_is);(case b=>k_is);(case c=>k_is);(case d=>k_is)))
  (case kf_h_l_pushed=>(refine' L2.DH.mk ?a ?b ?c ?d;(case a=>k_is);(case b=>k_is);(case c=>k_is);(case d=>k_is)))
  (case kf_h_l_like_leaf=>(refine' L2.DH.mk ?a ?b ?c ?d;(case a=>k_is);(case b=>k_is);(case c=>k_is);(case d=>k_is)))
  (case kf_h_l_like=>(refine' L2.DH.mk ?a ?b ?c ?d;(case a=>k_is);(case b=>k_is);(case c=>k_is);(case d=>k_is)))
  (case kf_h_l_numbers=>(refine' L2.DH.mk ?a ?b ?c ?d;(case a=>k_is);(case b=>k_is);(case c=>k_is);(case d=>k_is)))
  (case kf_h_l_texts=>(refine' L2.DH.mk ?a ?b ?c ?d;(case a=>k_is);(case b=>k_is);(case c=>k_is);(case d=>k_is)))
  (case kf_h_l_functions=>(refine' L2.DH.mk ?a ?b ?c ?d;(case a=>k_is);(case b=>k_is);(case c=>k_is);(case d=>k_is)))
  (case kf_h_l_begun=>(refine' L2.DH.mk ?a ?b ?c ?d;(case a=>k_is);(case b=>k_is);(case c=>k_is);(case d=>k_is)))
  (case kf_h_l_lined=>(refine' L2.DH.mk ?a ?b ?c ?d;(case a=>k_is);(case b=>k_is);(case c=>k_is);(case d=>k_is)))
  (case kf_h_l_opened=>(refine' L2.DH.mk ?a ?b ?c ?d;(case a=>k_is);(case b=>k_is);(case c=>k_is);(case d=>k_is)))
  (case kf_h_l_closed=>(refine' L2.DH.mk ?a ?b ?c ?d;(case a=>k_is);(case b=>k_is);(case c=>k_is);(case d=>k_is)))
  (case kf_h_law=>(refine' L2.DH.mk ?a ?b ?c ?d;(case a=>k_is);(case b=>k_is);(case c=>k_is);(case d=>k_is)))
  (case kf_a_C_Number=>k_is)
  (case kf_h_C_Number=>(refine ⟨?_,?_,?_,?_⟩ <;> k_is))
  (case kf_fn_C_Number=>(repeat' first | exact trivial | refine And.intro ?_ ?_ | k_is))
  (case kf_mk_C_Number=>k_is)
  (case kf_kC_C_Number=>k_is)
  (case kf_h_Number_init=>(refine' L2.MH.mk ?a ?b ?c ?d ?e;(case a=>k_is);(case b=>k_is);(case c=>k_is);(case d=>k_is);(case e=>k_is)))
  (case kf_a_C_Here=>k_is)
  (case kf_h_C_Here=>(refine ⟨?_,?_,?_,?_⟩ <;> k_is))
  (case kf_mk_C_Here=>k_is)
  (case kf_kC_C_Here=>k_is)
  (case kf_in_C_Here=>k_is)
  (case kf_a_C_Cell=>k_is)
  (case kf_h_C_Cell=>(refine ⟨?_,?_,?_,?_⟩ <;> k_is))
  (case kf_fn_C_Cell=>(repeat' first | exact trivial | refine And.intro ?_ ?_ | k_is))
  (case kf_mk_C_Cell=>k_is)
  (case kf_kC_C_Cell=>k_is)
  (case kf_h_Cell_init=>(refine' L2.MH.mk ?a ?b ?c ?d ?e;(case a=>k_is);(case b=>k_is);(case c=>k_is);(case d=>k_is);(case e=>k_is)))
  (case kf_a_C_Shifted=>k_is)
  (case kf_h_C_Shifted=>(refine ⟨?_,?_,?_,?_⟩ <;> k_is))
  (case kf_fn_C_Shifted=>(repeat' first | exact trivial | refine And.intro ?_ ?_ | k_is))
  (case kf_mk_C_Shifted=>k_is)
  (case kf_kC_C_Shifted=>k_is)
  (case kf_h_Shifted_init=>(refine' L2.MH.mk ?a ?b ?c ?d ?e;(case a=>k_is);(case b=>k_is);(case c=>k_is);(case d=>k_is);(case e=>k_is)))
  (case kf_a_C_Local=>k_is)
  (case kf_h_C_Local=>(refine ⟨?_,?_,?_,?_⟩ <;> k_is))
  (case kf_fn_C_Local=>(repeat' first | exact trivial | refine And.intro ?_ ?_ | k_is))
  (case kf_mk_C_Local=>k_is)
  (case kf_kC_C_Local=>k_is)
  (case kf_h_Local_init=>(refine' L2.MH.mk ?a ?b ?c ?d ?e;(case a=>k_is);(case b=>k_is);(case c=>k_is);(case d=>k_is);(case e=>k_is)))
  (case kf_a_C_At=>k_is)
  (case kf_h_C_At=>(refine ⟨?_,?_,?_,?_⟩ <;> k_is))
  (case kf_fn_C_At=>(repeat' first | exact trivial | refine And.intro ?_ ?_ | k_is))
  (case kf_mk_C_At=>k_is)
  (case kf_kC_C_At=>k_is)
  (case kf_h_At_init=>(refine' L2.MH.mk ?a ?b ?c ?d ?e;(case a=>k_is);(case b=>k_is);(case c=>k_is);(case d=>k_is);(case e=>k_is)))
  (case kf_a_C_Pair=>k_is)
  (case kf_h_C_Pair=>(refine ⟨?_,?_,?_,?_⟩ <;> k_is))
  (case kf_fn_C_Pair=>(repeat' first | exact trivial | refine And.intro ?_ ?_ | k_is))
  (case kf_mk_C_Pair=>k_is)
  (case kf_kC_C_Pair=>k_is)
  (case kf_h_Pair_init=>(refine' L2.MH.mk ?a ?b ?c ?d ?e;(case a=>k_is);(case b=>k_is);(case c=>k_is);(case d=>k_is);(case e=>k_is)))
  (case kf_a_C_Choice=>k_is)
  (case kf_h_C_Choice=>(refine ⟨?_,?_,?_,?_⟩ <;> k_is))
  (case kf_fn_C_Choice=>(repeat' first | exact trivial | refine And.intro ?_ ?_ | k_is))
  (case kf_mk_C_Choice=>k_is)
  (case kf_kC_C_Choice=>k_is)
  (case kf_h_Choice_init=>(refine' L2.MH.mk ?a ?b ?c ?d ?e;(case a=>k_is);(case b=>k_is);(case c=>k_is);(case d=>k_is);(case e=>k_is)))
  (case kf_a_C_Call=>k_is)
  (case kf_h_C_Call=>(refine ⟨?_,?_,?_,?_⟩ <;> k_is))
  (case kf_fn_C_Call=>(repeat' first | exact trivial | refine And.intro ?_ ?_ | k_is))
  (case kf_mk_C_Call=>k_is)
  (case kf_kC_C_Call=>k_is)
  (case kf_h_Call_init=>(refine' L2.MH.mk ?a ?b ?c ?d ?e;(case a=>k_is);(case b=>k_is);(case c=>k_is);(case d=>k_is);(case e=>k_is)))
  (case kf_a_C_Reading=>k_is)
  (case kf_h_C_Reading=>(refine ⟨?_,?_,?_,?_⟩ <;> k_is))
  (case kf_fn_C_Reading=>(repeat' first | exact trivial | refine And.intro ?_ ?_ | k_is))
  (case kf_mk_C_Reading=>k_is)
  (case kf_kC_C_Reading=>k_is)
  (case kf_h_Reading_init=>(refine' L2.MH.mk ?a ?b ?c ?d ?e;(case a=>k_is);(case b=>k_is);(case c=>k_is);(case d=>k_is);(case e=>k_is)))
  (case kf_h_Reading_has_more=>(refine' L2.MH.mk ?a ?b ?c ?d ?e;(case a=>k_is);(case b=>k_is);(case c=>k_is);(case d=>k_is);(case e=>k_is)))
  (case kf_h_Reading_next_word=>(refine' L2.MH.mk ?a ?b ?c ?d ?e;(case a=>k_is);(case b=>k_is);(case c=>k_is);(case d=>k_is);(case e=>k_is)))
  (case kf_a_C_Draft=>k_is)
  (case kf_h_C_Draft=>(refine ⟨?_,?_,?_,?_⟩ <;> k_is))
  (case kf_fn_C_Draft=>(repeat' first | exact trivial | refine And.intro ?_ ?_ | k_is))
  (case kf_mk_C_Draft=>k_is)
  (case kf_kC_C_Draft=>k_is)
  (case kf_h_Draft_init=>(refine' L2.MH.mk ?a ?b ?c ?d ?e;(case a=>k_is);(case b=>k_is);(case c=>k_is);(case d=>k_is);(case e=>k_is)))
  (case kf_a_C_Source=>k_is)
  (case kf_h_C_Source=>(refine ⟨?_,?_,?_,?_⟩ <;> k_is))
  (case kf_fn_C_Source=>(repeat' first | exact trivial | refine And.intro ?_ ?_ | k_is))
  (case kf_mk_C_Source=>k_is)
  (case kf_kC_C_Source=>k_is)
  (case kf_h_Source_init=>(refine' L2.MH.mk ?a ?b ?c ?d ?e;(case a=>k_is);(case b=>k_is);(case c=>k_is);(case d=>k_is);(case e=>k_is)))
  (case kf_a_C_Program=>k_is)
  (case kf_h_C_Program=>(refine ⟨?_,?_,?_,?_⟩ <;> k_is))
  (case kf_fn_C_Program=>(repeat' first | exact trivial | refine And.intro ?_ ?_ | k_is))
  (case kf_mk_C_Program=>k_is)
  (case kf_kC_C_Program=>k_is)
  (case kf_h_Program_init=>(refine' L2.MH.mk ?a ?b ?c ?d ?e;(case a=>k_is);(case b=>k_is);(case c=>k_is);(case d=>k_is);(case e=>k_is)))
  (case kf_k5=>kit_is)
  (case kf_k6=>kit_is)
  (case kf_tb1=>(repeat' first | exact trivial | refine And.intro ?_ ?_ | k_is))
  (case kf_tb2=>(repeat' first | exact trivial | refine And.intro ?_ ?_ | k_is))
  (case kf_i1_Number=>k_is)
  (case kf_i2_Number=>k_is)
  (case kf_i3_Number=>k_is)
  (case kf_i4_Number=>k_is)
  (case kf_i1_Here=>k_is)
  (case kf_i2_Here=>k_is)
  (case kf_i3_Here=>k_is)
  (case kf_i4_Here=>k_is)
  (case kf_i1_Cell=>k_is)
  (case kf_i2_Cell=>k_is)
  (case kf_i3_Cell=>k_is)
  (case kf_i4_Cell=>k_is)
  (case kf_i1_Shifted=>k_is)
  (case kf_i2_Shifted=>k_is)
  (case kf_i3_Shifted=>k_is)
  (case kf_i4_Shifted=>k_is)
  (case kf_i1_Local=>k_is)
  (case kf_i2_Local=>k_is)
  (case kf_i3_Local=>k_is)
  (case kf_i4_Local=>k_is)
  (case kf_i1_At=>k_is)
  (case kf_i2_At=>k_is)
  (case kf_i3_At=>k_is)
  (case kf_i4_At=>k_is)
  (case kf_i1_Pair=>k_is)
  (case kf_i2_Pair=>k_is)
  (case kf_i3_Pair=>k_is)
  (case kf_i4_Pair=>k_is)
  (case kf_i1_Choice=>k_is)
  (case kf_i2_Choice=>k_is)
  (case kf_i3_Choice=>k_is)
  (case kf_i4_Choice=>k_is)
  (case kf_i1_Call=>k_is)
  (case kf_i2_Call=>k_is)
  (case kf_i3_Call=>k_is)
  (case kf_i4_Call=>k_is)
  (case kf_i1_Source=>k_is)
  (case kf_i2_Source=>k_is)
  (case kf_i3_Source=>k_is)
  (case kf_i4_Source=>k_is)
  (case kf_i1_Program=>k_is)
  (case kf_i2_Program=>k_is)
  (case kf_i3_Program=>k_is)
  (case kf_i4_Program=>k_is)
  (case kf_kt_Number_At=>kit_is)
  (case kf_kt_Number_Pair=>kit_is)
  (case kf_kt_Number_Choice=>kit_is)
  (case kf_kt_Number_Call=>kit_is)
  (case kf_ks_Number=>kit_is)
  (case kf_kf_Number=>kit_is)
  (case kf_kt_Here_At=>kit_is)
  (case kf_kt_Here_Pair=>kit_is)
  (case kf_kt_Here_Choice=>kit_is)
  (case kf_kt_Here_Call=>kit_is)
  (case kf_ks_Here=>kit_is)
  (case kf_kf_Here=>kit_is)
  (case kf_kt_Cell_At=>kit_is)
  (case kf_kt_Cell_Pair=>kit_is)
  (case kf_kt_Cell_Choice=>kit_is)
  (case kf_kt_Cell_Call=>kit_is)
  (case kf_ks_Cell=>kit_is)
  (case kf_kf_Cell=>kit_is)
  (case kf_kt_Shifted_At=>kit_is)
  (case kf_kt_Shifted_Pair=>kit_is)
  (case kf_kt_Shifted_Choice=>kit_is)
  (case kf_kt_Shifted_Call=>kit_is)
  (case kf_ks_Shifted=>kit_is)
  (case kf_kf_Shifted=>kit_is)
  (case kf_kt_Local_At=>kit_is)
  (case kf_kt_Local_Pair=>kit_is)
  (case kf_kt_Local_Choice=>kit_is)
  (case kf_kt_Local_Call=>kit_is)
  (case kf_ks_Local=>kit_is)
  (case kf_kf_Local=>kit_is)
  (case kf_kt_At_At=>kit_is)
  (case kf_kt_At_Pair=>kit_is)
  (case kf_kt_At_Choice=>kit_is)
  (case kf_kt_At_Call=>kit_is)
  (case kf_kf_At=>kit_is)
  (case kf_kt_Pair_At=>kit_is)
  (case kf_kt_Pair_Pair=>kit_is)
  (case kf_kt_Pair_Choice=>kit_is)
  (case kf_kt_Pair_Call=>kit_is)
  (case kf_kf_Pair=>kit_is)
  (case kf_kt_Choice_At=>kit_is)
  (case kf_kt_Choice_Pair=>kit_is)
  (case kf_kt_Choice_Choice=>kit_is)
  (case kf_kt_Choice_Call=>kit_is)
  (case kf_kf_Choice=>kit_is)
  (case kf_kt_Call_At=>kit_is)
  (case kf_kt_Call_Pair=>kit_is)
  (case kf_kt_Call_Choice=>kit_is)
  (case kf_kt_Call_Call=>kit_is)
  (case kf_kf_Call=>kit_is)
  (case kf_ks_Source=>kit_is)
  (case kf_ks_Program=>kit_is)
  (case kf_kk_list=>kit_is)
  (case kf_kk_str=>kit_is)
  (case kf_kk_tuple=>kit_is)
  (case kf_aH=>k_is)
  (case kf_g_LONGEST_NAME=>k_is)
  (case kf_g_MOST_FIGURES=>k_is)
  (case kf_g_MOST_BRACKETS=>k_is)
  (case kf_g_FARTHEST_SHIFT=>k_is)
  (case kf_g_MOST_ROWS=>k_is)
  (case kf_g_MOST_CELLS=>k_is)
  (case kf_g_MOST_FUNCTIONS=>k_is)
  (case kf_g_MOST_PARAMETERS=>k_is)
  (case kf_g_GREATEST_SIZE=>k_is)
  (case kf_g_GREATEST_DEPTH=>k_is)
  (case kf_g_LETTERS=>k_is)
  (case kf_g_FIGURES=>k_is)
  (case kf_lK=>k_is)
  (case kf_lS=>k_is)
  (case kf_kS=>k_keys)
  (case kf_loS=>rfl)
  (case kf_heS=>rfl)
  (case kf_lLi=>k_is)
  (case kf_kLi=>k_keys)
  (case kf_loLi=>rfl)
  (case kf_heLi=>rfl)
  (case kf_tb3=>(repeat' first | exact trivial | refine And.intro ?_ ?_ | k_is))
