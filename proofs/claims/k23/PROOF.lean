import PyProof.Rows.All
import Wide.All
import Wide.FinOn
import OpenK.KLine
import KE.RegKIsAll
import KE.KDictOf
import KE.KItem
import KE.LcSums
import KE.KBits
import PyProof.EqAt
import PyProof.EqKinds
import PyProof.TupleCall
import KE.KIntText
import KE.KDictList
import PyProof.EnumIter
import PyProof.SliceStr2
import PyProof.StrCalls2
import PyProof.StrCalls6
import PyProof.StrHeap
import PyProof.StrLaws
import PyProof.StrLawsChain
import PyProof.StrLawsIdx
import PyProof.StrLawsIn
import PyProof.StrLawsJoin
import PyProof.StrLawsReplace
import PyProof.StrWalks
import PySem.Challenge.RW_rowbreadth_k23_steps_read
set_option Elab.async false
set_option linter.all false
set_option maxRecDepth 100000
set_option maxHeartbeats 4000000
theorem U {α:Sort _} {a:α}:a=a:=rfl
open Option renaming some→Z,none→Y
open PySem.W renaming kitOne→sC,nsIn→sY,findIn→t6,keepIn→tj,makesIn→tL,specialIn→tP,fnOf→tS,takesIn→tT,emptyDict→tX,mroIn→u9,instObj→ua,codeIn→ur,kia_one→uC,isFn→vk,hasDictIn→vP,plainGet→vY,KeysLit→wc,callWith_K→wk,kitx_list→wE,kitx_dict→wF
open PyProof.Rows renaming boot_isinstance→sF,boot_list→tZ,boot_str→up,boot_any→vW
open List renaming mem_singleton→sG,getElem?_eq_getElem→sI,mem_cons→sM,getElem?_map→sN,mem_of_getElem?→sP,eq_nil_of_length_eq_zero→sW,mem_append→t9,getElem?_eq_some_iff→tu,map_cons→tz,replicate→tD,length_singleton→tF,size_toArray→tG,getElem?_append_right→tJ,not_mem_nil→tM,length_nil→tU,mem_map→tW,reverse_cons→ud,nodup_cons→ue,map_map→ug,mem_map_of_mem→uh,length_take→ut,mem_append_left→uv,take_length→uD,take_add_one→uF,sum_cons→uJ,all_eq_true→uM,length_drop→uS,filter_cons→uW,length→uY,mem_of_mem_drop→v0,any_cons→vh,sum_append→vq,lookup→vt,find?_cons→vv,getElem_mem→vB,replicate_succ→vD,map_append→vI,length_map→vJ,filter_append→vK,take_of_length_le→vN,getElem_cons_succ→vO,mem_range→vS,any_map→vX,perm_middle→vZ,mem_filterMap→wq,nodup_nil→ww,flatMap_cons→wH,any_eq_false→wI,cons_append→wT
open Nat renaming le_refl→sK,le_trans→tE,lt_of_le_of_lt→tK,add_le_add_left→tO,ne_of_lt→tQ,zero_le→ub,toDigits→uf,sub_self→uX,lt_irrefl→vg,toDigits_of_lt_base→vH,lt_succ_self→wR
open PySem renaming sizeLine→sL,boot_len→sU,mainGlobals→ti,starEach→tN,Program→tV,FuncData→uk,wpAny_mono→um,Spec→ux,compareOp→uA,keywordEach→uH,wpAny_truthy_bool→uI,sysModules→uN,foldedSetIterable→uP,compEnvC→uQ,wpAny_Call_Name_kw→v6,mem_of_lookup→vf,backToKw→vj,wpAny_passesOwn→vA,codeAny_call_builtin→vE,wpAny_getItem_str_slice→vT,letOwnedTupleGo→vU,codeAny_mono→w9,bootBuiltins→wb,attributeBase→wv,wpAny_loadPart'→wy,sliceBounds→wA,codeAny→wB,tupleKind_room_in1→wP,binaryOp→wQ,NameKind→wS
open PySem.F renaming plainAttrs_list→sQ,type_list_append→t7,slot_list_append→t8,slot_str_split→uy,plainAttrs_str→uz,type_list_pop→vm,slot_list_pop→vp,entry_str_split→vF,type_str_split→vM,args_str_split_2→wG
open PySem.Heap renaming get?_push_of_some→sV,lt_size→tw,get?_push_size→tR,SameBut→wj
open Int renaming emod_lt_of_pos→sX,emod_nonneg→sZ,zero_add→uG,le_trans→ve,max_eq_left→vw,le_refl→vx,max_eq_right→vC,le_max_left→wf,add_zero→wu,eq_ofNat_of_zero_le→wN,le_max_right→wU
open PySem.Value renaming ref→tI,str→uT,int→wC
open PySem.PassesOwn renaming never→tY
open PySem.Txt renaming split→uo,slice→uB,slice_le→v7,startswith→vz,replace→w6,words→wD
open Option.some renaming inj→uq
open Prod renaming fst→uu
open PySem.Builtin.Str renaming occurrences→uw,strSliceIndices→wJ,strKind→wK
open Bool renaming and_eq_true→uE,eq_false_iff→vc,eq_iff_iff→vL,true_and→wO
open True renaming intro→uK
open False renaming elim→uL
open And renaming intro→uO
open PySem.NameKind renaming cell→uR,free→v8
open Char renaming toNat→uU
open Option renaming map_eq_some_iff→uV,map_some→we
open List.Perm renaming swap→uZ
open PySem.Challenge renaming rw_rowbreadth_k23_steps_read→vd
open PySem.StrLaws renaming sliceText→vi
open Except renaming ok→vy
open Or renaming inl→vG
open Ne renaming symm→vQ
open List.Sublist renaming refl→vR
open PySem.ScopeKind renaming function→vV
open PySem.Str renaming length→w8
open Nat.succ renaming inj→wm
open Classical renaming byContradiction→wx
open Sum renaming inr→wL
open List.cons renaming inj→wM
abbrev Fg:=PySem.W.Frag
abbrev Vl:=PySem.Value
abbrev Ad:=PySem.Addr
abbrev Sh:=PySem.Shared
abbrev J0:=PySem.Str->Option Vl
abbrev Ja:=Vl->Sh->Prop
abbrev Jb:=List Int
abbrev Jc:=List (Ad×PySem.Obj)
abbrev Jd:=List Vl
abbrev Je:=Option Vl
abbrev Jf:=List PySem.Str
abbrev Jg:=List Ad
abbrev Jh:=List PySem.Expr
theorem Ji {α:Type _} {β:Type _} {as:List α} {f:α->β}:(as.map f).length=as.length:=vJ ..
theorem Jj {α:Type _} {as bs:List α}:(as++bs).length=as.length+bs.length:=List.length_append ..
theorem Jk {α:Type _} {β:Type _} {f:α->β} {as bs:List α}:(as++bs).map f=as.map f++bs.map f:=vI ..
namespace PySem.W.Fast
def tw9553186528198987078:=0
def tw8125641377915762188:=0
def tw17835113664332044176:=0
def tw7056263697722480269:=0
def tw14551984590401065622:=0
def tw13106291648437906515:=0
def tw2270241749312307915:=0
def tw8623010709957671562:=0
def tw4268717668490931031:=0
def tw12858533695256182478:=0
def tw14254478578863086421:=0
def tw11654249472806306153:=0
def tw3045283960205087326:=0
def tw12290401153050821676:=0
def tw4081415923543645809:=0
def tw12786956537606842400:=0
def tw11063937194525103885:=0
def tw13949752308252458128:=0
def tw13020969738370389316:=0
def tw8977136739087274731:=0
def tw5199660289671115825:=0
def tw17782578367734220395:=0
def tw14955815002394508108:=0
def tw14561476592702444384:=0
def tw13756143312373675264:=0
def tw3744686741913637796:=0
def tw6960466190201300505:=0
def tw4304115276034690828:=0
def tw9715844245250573201:=0
def tw7685098509162970007:=0
def tw2696618265052931925:=0
def tw14110724202657612655:=0
def tw18057618098006571435:=0
def tw2304363802547272436:=0
def tw6534719483645825147:=0
def tw9178184260444583095:=0
def tw3081797446230696536:=0
def tw13509881584487419759:=0
def tw16834631435655242016:=0
def tw3690067744784887769:=0
def tw988751117459549652:=0
def tw15535830130853934584:=0
def tw3482644948349824198:=0
def tw17125229658899573118:=0
def tw5863300739290246233:=0
def tw16712984109087914151:=0
def tw1198949133324278355:=0
def tw10723631205054364960:=0
def tw3413052636400304595:=0
def tw8684660749814607038:=0
def tw16239094002999258732:=0
def tw18091051545431481160:=0
def tw221706819657305386:=0
def tw8327418584136109066:=0
def tw8828409430469665909:=0
def tw12841155140727108390:=0
def tw10104241247744340915:=0
def tw7196426255244693224:=0
def tw1996066063261267803:=0
def tw5570461195956871942:=0
def tw8108023570057293179:=0
def tw13654093622558167609:=0
def tw2460431401219573483:=0
def tw12538001887509757843:=0
def tw14500142271313046490:=0
def tw14002777607322514394:=0
def tw2258776659998472151:=0
def tw16116716394771505183:=0
def tw6908018861620633623:=0
def tw7861606298338512750:=0
def tw12881935999160782934:=0
def tw13349903878374460225:=0
def tw15075014526632842402:=0
def tw3374952489964440983:=0
def tw3771473143026257686:=0
def tw16038200850990361882:=0
def tw286444492917238514:=0
def tw14751052059666278009:=0
def tw8234778001946286693:=0
def tw5316893489036437527:=0
def tw6896622789063208248:=0
def tw9015581029151633542:=0
def tw5277819848639118277:=0
def tw14178448994418679400:=0
def tw5744493207381953113:=0
def tw16162489180744948656:=0
def tw16901943142673341675:=0
def tw13241505825642936171:=0
def tw11031556278754423430:=0
def tw3380089220730456057:=0
def tw8161726650591584855:=0
def tw8448795765206404883:=0
def tw17879418441413397933:=0
def tw825236788451487641:=0
def tw4233772494063620297:=0
def tw12548984250726560914:=0
def tw15656433483084513519:=0
def tw310513105237493652:=0
def tw8955186823876073277:=0
def tw4889808733058007348:=0
def tw4799517972759448935:=0
def tw9383469287596969111:=0
def tw5512130617199696788:=0
def tw15270602697594678361:=0
def tw7746174788116573997:=0
def tw5597714745703412156:=0
def tw210142748454504191:=0
def tw11738889901556500328:=0
def tw13939421429725690469:=0
def tw11502485869969495426:=0
def tw8135524699009681455:=0
def tw16846551866922564927:=0
def tw11736985654013273637:=0
def tw10724185241872927752:=0
def tw654166423896836632:=0
def tw3609122070318758281:=0
def tw13386922501036063451:=0
def tw15763745028789494839:=0
def tw3798013103756578168:=0
def tw4469974647961163090:=0
def tw12870261459091082664:=0
def tw4479511130829173319:=0
def tw10685867975837747342:=0
def tw8622829499700691963:=0
def tw883671557388522841:=0
def tw8727852612546157897:=0
def tw15606464254456222484:=0
def tw9287372420487671901:=0
def tw481468159266834952:=0
def tw7125565289953760809:=0
def tw10597948160736027456:=0
def tw4266341184013283915:=0
def tw6042811787150744328:=0
def tw17862612474466232239:=0
def tw16881860450442572146:=0
def tw1458961712787263876:=0
def tw17693331536656386883:=0
def tw4676047117291909584:=0
def tw11509188486219547891:=0
def tw4082990585190578165:=0
def tw10844961417007634359:=0
def tw9105266972021178199:=0
def tw1550843297017681270:=0
def tw2690557731414050359:=0
def tw16281460817407965083:=0
def tw7086963819904925162:=0
def tw15938753507026587137:=0
def tw15495590696861348613:=0
def tw3517028588128032004:=0
def tw18119241996888427798:=0
def tw15425622505276161788:=0
def tw6306266108595458937:=0
def tw2347509513404638170:=0
def tw13703363063860232902:=0
def tw7300655984350425869:=0
def tw17057329172276433549:=0
def tw2273303410785664542:=0
def tw2385520708300557882:=0
def tw4707967603809030097:=0
def tw4368701983549439311:=0
def tw12438090885385070276:=0
def tw14216143691949458181:=0
def tw3617021690742703454:=0
def tw10414694699490986163:=0
def tw1335470053068565526:=0
def tw3928767988058894423:=0
def tw10324276278558022548:=0
def tw1950863641656354331:=0
def tw8204682579236990500:=0
def tw16701362330254880031:=0
def tw6102644099374890557:=0
def tw1085560482184500835:=0
def tw2168401282124851837:=0
def tw4676547613923471253:=0
def tw8301652490655030019:=0
def tw8319372101302749069:=0
def tw9174531075207565962:=0
def tw9145774831038187344:=0
def tw10172047740622877289:=0
def tw9577202042410619785:=0
def tw10169702627783898554:=0
def tw2288689541904367972:=0
def tw14548582136252909961:=0
def tw7776172110465159199:=0
def tw8700779869359859799:=0
def tw1074981780642660442:=0
def tw8468203855005376802:=0
def tw1389896025394961860:=0
def tw16702642988565127207:=0
def tw921145253891758347:=0
def tw11651067635942615032:=0
def tw17294362774046442715:=0
def tw5669075963202496490:=0
def tw14428205174527765156:=0
def tw5412804065677899840:=0
def tw3446588511926795911:=0
def tw8920414507828197934:=0
def tw6810128286003707488:=0
def tw15487856394472546297:=0
def tw16111288810027113926:=0
def tw7942177783366285997:=0
def tw6216619104177952467:=0
def tw5494002877192814719:=0
def tw17429490244658476176:=0
def tw13346896633592394969:=0
def tw12283887678366443785:=0
def tw1827514075734529641:=0
def tw15028848840523701910:=0
def tw5778359222073321685:=0
def tw4908281131527739459:=0
def tw18145936934727307438:=0
def tw9237620562394298573:=0
def tw12641934730365781142:=0
def tw1869216746634705226:=0
def tw6382090066128399027:=0
def tw8184074214221881487:=0
def tw14721234448442312937:=0
def tw12994290544885063853:=0
def tw2897368173415956704:=0
def tw7319451015421945168:=0
def tw9440390687994067969:=0
def tw13460846174933128030:=0
def tw3464837987792908370:=0
def tw18057618717840551412:=0
def tw12477991745586709182:=0
def tw2525593713549440307:=0
def tw7743116144152419412:=0
def tw2937530004754238148:=0
def tw2593526485641364818:=0
def tw17753834750836078259:=0
def tw16686527667608976277:=0
def tw13586377933932593459:=0
def tw4580749066036818957:=0
def tw17345385346891059767:=0
def tw3343621091818639099:=0
def tw8019668337008146293:=0
def tw1004678750331357219:=0
def tw4996236051896048127:=0
def tw12614090034441119175:=0
def tw5791459632187331342:=0
def tw11730563369188643918:=0
def tw12819943765224813945:=0
def tw14315998498041945360:=0
def tw18098306299385818684:=0
def tw3579178268021348482:=0
def tw13226247308898863169:=0
def tw8331464935406725605:=0
def tw12385215118989639993:=0
def tw9374616115413692647:=0
def tw12339453933868743742:=0
def tw4273980930893897444:=0
def tw8584762842086869272:=0
def tw6146617359253590261:=0
def tw13441012722511338290:=0
def tw2889509506112948317:=0
def tw5394995339544949663:=0
def tw18124937633385782939:=0
def tw10186588996614918004:=0
def tw7702651320892485807:=0
def tw79412683074868880:=0
def tw7561795841113209928:=0
def tw1921123232008776958:=0
def tw18326972818221340184:=0
def tw3665610057494413901:=0
def tw1256293030459276799:=0
def tw15179934873324153509:=0
def tw10870540751006970685:=0
def tw12872655818489806573:=0
def tw16863623397852161743:=0
def tw13684886210469085868:=0
def tw11052511343649695119:=0
def tw15028478155322490313:=0
def tw9206330504838644701:=0
def tw8146279852824541012:=0
def tw14454122525658746372:=0
def tw11543937999121584432:=0
def tw10025746275976024143:=0
def tw1781736154983898608:=0
def tw5629521018718647464:=0
def tw10004142876162371439:=0
def tw13635273371694284249:=0
def tw14085960626469925925:=0
def tw12848463307520345435:=0
def tw6627995605124102173:=0
def tw11711948930021019187:=0
def tw5409533277483448218:=0
def tw2757451928932786087:=0
def tw16101235987018035276:=0
def tw1790183973584853346:=0
def tw4830785157578376942:=0
def tw3319454496512706005:=0
def tw2798636470038511543:=0
def tw11811623207790165848:=0
def tw6568227544005570989:=0
def tw2641710235680317644:=0
def tw6043198090500482417:=0
def tw15252145523152834036:=0
def tw7478822231169824996:=0
def tw3573038230590008118:=0
def tw6084793731631218748:=0
def tw10363682453325110889:=0
def tw3241492097455364740:=0
def tw269376237284615494:=0
def tw7371022420380268666:=0
def tw11370508403431779140:=0
def tw12255647432684528744:=0
def tw7731480583568757659:=0
def tw3574075685286754904:=0
def tw5931275947692526701:=0
def tw13828787909278706376:=0
def tw16860232241475151039:=0
def tw10185712816791080090:=0
def tw3985104288824664734:=0
def tw15682061583867482405:=0
def tw16159990148118164280:=0
def tw277432126871617901:=0
def tw14094743385083164125:=0
def tw3742110477813084001:=0
def tw9937716202373939350:=0
def tw338882505751983717:=0
def tw11718611344867775216:=0
def tw2013100445546068992:=0
def tw17331536546446784697:=0
def tw4457484978620494353:=0
def tw17942408797197728282:=0
def tw9944763661142301258:=0
def tw17974807213966328884:=0
def tw12683767512019619475:=0
def tw7542103333632669513:=0
def tw13561282929204467350:=0
def tw15285344236331744529:=0
def tw9243260786164733124:=0
def tw4890613314301570730:=0
def tw4298068116853189521:=0
def tw5021961605266171141:=0
def tw2891012271544936551:=0
def tw8772074906944925629:=0
def tw13224560349063315200:=0
def tw344195050034396621:=0
def tw11121261804786096088:=0
def tw10943259761497519382:=0
def tw1214280867894408790:=0
def tw1859672959118431529:=0
def tw9759332749266868746:=0
def tw5250527279616600347:=0
def tw6939756452105538093:=0
end PySem.W.Fast
open PySem renaming wpAny_bind→q0x
open PySem renaming wpAny_pure→q0y
open Int renaming toNat_natCast→q0z
open List renaming getD_eq_getElem?_getD→x0x
open List renaming mem_cons_of_mem→x0y
open List renaming mem_cons_self→x0z
open Bool renaming false_ne_true→x1x
open List renaming mem_append_right→x1y
open Nat renaming lt_of_lt_of_le→x1z
open List renaming length_cons→x2x
open List renaming append_nil→x2y
open List renaming getElem?_append_left→x2z
section
open PySem PySem.W
def ckx {α : Type} (a : List α) (i : Nat) : List α := (a.drop i).take 64
def ckv (p : Addr × Obj) : Option Obj := Z p.2
theorem ck2 {α β γ : Type} {f : α → γ} {g : β → γ} {a : List α} {b : List β} {i : Nat} (x : (ckx a i).map f = (ckx b i).map g) (y : (a.drop (i + 64)).map f = (b.drop (i + 64)).map g) : (a.drop i).map f = (b.drop i).map g := by
  have h1 : ((a.drop i).take 64 ++ (a.drop i).drop 64).map f = ((b.drop i).take 64 ++ (b.drop i).drop 64).map g := by
    rw [vI, vI, List.drop_drop, List.drop_drop, y]
    exact congrArg (· ++ _) x
  rw [List.take_append_drop, List.take_append_drop] at h1
  exact h1
theorem ck_of {K : Params → Frag} {a : List Addr} (e : ∀ P, a = (K P).map (·.1)) (w : World) (s : Shared) (x : (((((ckx a 0).map s.heap.get?, (ckx a 64).map s.heap.get?), ((ckx a 128).map s.heap.get?, (ckx a 192).map s.heap.get?)), (((ckx a 256).map s.heap.get?, (ckx a 320).map s.heap.get?), ((ckx a 384).map s.heap.get?, (ckx a 448).map s.heap.get?))), ((((ckx a 512).map s.heap.get?, (ckx a 576).map s.heap.get?), ((ckx a 640).map s.heap.get?, (ckx a 704).map s.heap.get?)), (((ckx a 768).map s.heap.get?, (ckx a 832).map s.heap.get?), ((ckx a 896).map s.heap.get?, ((a).drop 960).map s.heap.get?)))) = (((((ckx (K w.params) 0).map ckv, (ckx (K w.params) 64).map ckv), ((ckx (K w.params) 128).map ckv, (ckx (K w.params) 192).map ckv)), (((ckx (K w.params) 256).map ckv, (ckx (K w.params) 320).map ckv), ((ckx (K w.params) 384).map ckv, (ckx (K w.params) 448).map ckv))), ((((ckx (K w.params) 512).map ckv, (ckx (K w.params) 576).map ckv), ((ckx (K w.params) 640).map ckv, (ckx (K w.params) 704).map ckv)), (((ckx (K w.params) 768).map ckv, (ckx (K w.params) 832).map ckv), ((ckx (K w.params) 896).map ckv, (((K w.params)).drop 960).map ckv))))) : InK K w s.heap :=
  InK.of e w s (ck2 (congrArg (·.1.1.1.1) x) (ck2 (congrArg (·.1.1.1.2) x) (ck2 (congrArg (·.1.1.2.1) x) (ck2 (congrArg (·.1.1.2.2) x) (ck2 (congrArg (·.1.2.1.1) x) (ck2 (congrArg (·.1.2.1.2) x) (ck2 (congrArg (·.1.2.2.1) x) (ck2 (congrArg (·.1.2.2.2) x) (ck2 (congrArg (·.2.1.1.1) x) (ck2 (congrArg (·.2.1.1.2) x) (ck2 (congrArg (·.2.1.2.1) x) (ck2 (congrArg (·.2.1.2.2) x) (ck2 (congrArg (·.2.2.1.1) x) (ck2 (congrArg (·.2.2.1.2) x) (ck2 (congrArg (·.2.2.2.1) x) (congrArg (·.2.2.2.2) x))))))))))))))))
local macro_rules
  | `(tactic| refine $h:ident (q := $q) (loose := $l) (Xt := $x) (XP := $xp) (Yf := $_:ident ($_:ident $k $a $e)) (Ya := $_) (YP := $_) (N := $n) $hl $_ $_ $rest*) => `(tactic| refine $h (q := $q) (loose := $l) (Xt := $x) (XP := $xp) (Yf := fun s => (((((ckx $a 0).map s.heap.get?, (ckx $a 64).map s.heap.get?), ((ckx $a 128).map s.heap.get?, (ckx $a 192).map s.heap.get?)), (((ckx $a 256).map s.heap.get?, (ckx $a 320).map s.heap.get?), ((ckx $a 384).map s.heap.get?, (ckx $a 448).map s.heap.get?))), ((((ckx $a 512).map s.heap.get?, (ckx $a 576).map s.heap.get?), ((ckx $a 640).map s.heap.get?, (ckx $a 704).map s.heap.get?)), (((ckx $a 768).map s.heap.get?, (ckx $a 832).map s.heap.get?), ((ckx $a 896).map s.heap.get?, (($a).drop 960).map s.heap.get?))))) (Ya := fun w => (((((ckx ($k w.params) 0).map ckv, (ckx ($k w.params) 64).map ckv), ((ckx ($k w.params) 128).map ckv, (ckx ($k w.params) 192).map ckv)), (((ckx ($k w.params) 256).map ckv, (ckx ($k w.params) 320).map ckv), ((ckx ($k w.params) 384).map ckv, (ckx ($k w.params) 448).map ckv))), ((((ckx ($k w.params) 512).map ckv, (ckx ($k w.params) 576).map ckv), ((ckx ($k w.params) 640).map ckv, (ckx ($k w.params) 704).map ckv)), (((ckx ($k w.params) 768).map ckv, (ckx ($k w.params) 832).map ckv), ((ckx ($k w.params) 896).map ckv, ((($k w.params)).drop 960).map ckv))))) (YP := InK $k) (N := $n) $hl (ck_of $e) InK.keeps $rest*)
open PyProof.Rows
set_option maxRecDepth 100000 in
set_option maxHeartbeats 0 in
open_top K23hd for PySem.Challenge.rw_rowbreadth_k23_steps_read
end
abbrev Ua:Jf:=["reading"]
abbrev Ub:Jf:=["_law_found","_law_due"]
abbrev Uc:Jf:=["draft","reading"]
abbrev Ud:Jf:=["form","functions","known"]
abbrev Ue:Jf:=["_law_form","_law_due"]
abbrev Uf:Jf:=["_law_known","_law_tills","_law_cell"]
abbrev Ug:Jf:=["reading","name"]
abbrev Uh:Jf:=["at","functions","known"]
abbrev Ui:Jf:=["_law_known","_law_words","_law_cell"]
abbrev Uj:Jf:=["word"]
abbrev Uk:Jf:=["_law_known","_law_words","_law_due","_law_cell"]
abbrev Ul:Jf:=["reading","wanted"]
abbrev Um:Jf:=["self","target","value","place","many","test"]
abbrev Uo:Jf:=["self","target","fold","value","many","test"]
abbrev Up:Jf:=["self","lengths"]
abbrev Uq:Jf:=["_law_head","_law_parts","_law_tested","_law_known"]
abbrev Ur:Jf:=["_law_cell","_law_known"]
abbrev Ut:Jf:=["form","functions"]
abbrev Uu:Jf:=["_law_cell","_law_k"]
abbrev Uv:Jf:=["self","target","fold","value","test"]
abbrev Uw:Jf:=["self"]
abbrev Ux:Jf:=["self","line","words","rows","heads"]
abbrev Uy:Jf:=["self","lengths","functions","steps"]
abbrev Uz:Jf:=["draft","line","step"]
abbrev UA:Jf:=["reading","least","most"]
abbrev UB:Jf:=["self","sign","left","right"]
abbrev UC:Jf:=["self","test","left","right"]
abbrev UD:Jf:=["_law_steps","_law_due"]
abbrev UE:Jf:=["self","program","names","lines"]
abbrev UG:Jf:=["self","target","value","test"]
abbrev UH:Jf:=["self","target","most","steps"]
abbrev UI:Jf:=["form","lengths","many"]
abbrev UJ:Jf:=["_law_step","_law_due"]
abbrev UK:Jf:=["self","row","by","other"]
abbrev UL:Jf:=["self","row","place"]
abbrev UM:Jf:=["self","at","handed"]
abbrev UO:Jf:=["reading","many"]
abbrev UP:Jf:=["form"]
abbrev UQ:Jf:=["_law_cell","_law_others"]
abbrev UR:Jf:=["_law_cell"]
abbrev US:Jf:=["_law_words","_law_cell"]
abbrev UT:Jf:=["self","number"]
abbrev UU:Jf:=["draft","line","forms"]
abbrev UV:Jf:=["draft","line"]
abbrev UW:Jf:=["_law_k","_law_target"]
abbrev UX:Jf:=["reading","sign"]
abbrev UY:Jf:=["_law_script"]
namespace L2
open PySem PySem.Spec PyProof.Rows
abbrev Key:=Sum Int Str
def zcf:Key->Vl->Bool
 | .inl k,v=>Value.isInt k v
 | .inr x,v=>Value.isStrOf x v
def keyH (w:World):Key->Int
 | .inl k=>hashInt k
 | .inr x=>hashStr w x
theorem yo:∀ {k:Key} {v:Vl},zcf k v=true->(∃ i t,k=Sum.inl i/\v=wC i t)∨(∃ x t,k=wL x/\v=uT x t)
 | .inl i,v,h=>by
  obtain ⟨t,e⟩:=Value.isInt_shape (k:=i) (v:=v) h;exact .inl ⟨i,t,U,e⟩
 | .inr x,v,h=>by
  obtain ⟨t,e⟩:=Value.isStrOf_shape (x:=x) (v:=v) h;exact .inr ⟨x,t,U,e⟩
def keyIs_int (i:Int) (t:Tok):zcf (.inl i) (.int i t)=true:=by simp [zcf,Value.isInt]
def keyIs_str (x:Str) (t:Tok):zcf (.inr x) (.str x t)=true:=by simp [zcf,Value.isStrOf]
def key_ll (a b:Int):decide ((Sum.inl a:Key)=Sum.inl b)=(a == b):=by
 by_cases e:a=b
 .subst e;simp
 .have h:¬ (Sum.inl a:Key)=Sum.inl b:=λq=>e (Sum.inl.inj q)
  rw [decide_eq_false h];exact (beq_eq_false_iff_ne.mpr e).symm
def key_rr (a b:Str):decide ((wL a:Key)=wL b)=decide (a=b):=by
 by_cases e:a=b
 .subst e;simp
 .have h:¬ (wL a:Key)=wL b:=λq=>e (Sum.inr.inj q)
  rw [decide_eq_false h,decide_eq_false e]
def key_lr (a:Int) (b:Str):decide ((Sum.inl a:Key)=wL b)=false:=decide_eq_false (λq=>nomatch q)
def key_rl (a:Str) (b:Int):decide ((wL a:Key)=Sum.inl b)=false:=decide_eq_false (λq=>nomatch q)
def yf (prog:tV) (w:World):PySem.KeyKind prog w Key where
 is:=zcf
 hash:=keyH w
 inj:=λv a b ha hb=>by
  rcases yo ha with ⟨i,t,rfl,rfl⟩ | ⟨x,t,rfl,rfl⟩
  .rcases yo hb with ⟨j,u,rfl,e⟩ | ⟨y,u,rfl,e⟩
   .injection e with e1 _;rw [e1]
   .exact nomatch e
  .rcases yo hb with ⟨j,u,rfl,e⟩ | ⟨y,u,rfl,e⟩
   .exact nomatch e
   .injection e with e1 _;rw [e1]
 byValue:=λk v h=>by
  rcases yo h with ⟨i,t,rfl,rfl⟩ | ⟨x,t,rfl,rfl⟩ <;> rfl
 pyHash:=λhv h=>by
  rcases yo hv with ⟨i,t,rfl,rfl⟩ | ⟨x,t,rfl,rfl⟩
  .exact wpAny_pyHash_int h
  .exact wpAny_pyHash_str h
 eqBool:=λhu hv h=>by
  rcases yo hu with ⟨i,t,rfl,rfl⟩ | ⟨x,t,rfl,rfl⟩
  .rcases yo hv with ⟨j,u,rfl,rfl⟩ | ⟨y,u,rfl,rfl⟩
   .rw [key_ll] at h;exact wpAny_eqBool_int h
   .rw [key_lr] at h;exact SeqAt.EqAt.int_str i t y u _ _ _ _ h
  .rcases yo hv with ⟨j,u,rfl,rfl⟩ | ⟨y,u,rfl,rfl⟩
   .rw [key_rl] at h;exact SeqAt.EqAt.str_int x t j u _ _ _ _ h
   .rw [key_rr] at h;exact wpAny_eqBool_str h
 «strs»:=λk x t v h=>by
  rcases yo h with ⟨i,u,rfl,e⟩ | ⟨y,u,rfl,e⟩
  .exact nomatch e
  .injection e with e1 _
   subst e1;cases v <;> rfl
def ze4 (prog:tV) (w:World) (i:Int) (t:Tok):(yf prog w).is (.inl i) (.int i t)=true:=keyIs_int i t
def ze3 (prog:tV) (w:World) (x:Str) (t:Tok):(yf prog w).is (.inr x) (.str x t)=true:=keyIs_str x t
inductive V where
 | non | bl (b:Bool) | int (i:Int) | str (x:Str) | byt (b:Array UInt8) | flt (b:UInt64) | ref (a:Ad) | ty (n:String)
 deriving DecidableEq
def RelV:V->Vl->Prop
 | .non,u=>u=Value.none
 | .bl b,u=>u=Value.bool b
 | .int i,u=>∃ t,u=wC i t
 | .str x,u=>∃ t,u=uT x t
 | .byt b,u=>∃ t,u=Value.bytes b t
 | .flt b,u=>∃ t,u=Value.float b t
 | .ref a,u=>u=tI a
 | .ty n,u=>u=Value.type n
abbrev Vals:List V->Jd->Prop:=Paired RelV
def Vals.length {xs:List V} {us:Jd} (r:Vals xs us):xs.length=us.length:=Paired.length r
theorem Vals.get:∀ {xs:List V} {us:Jd} {i:Nat} {x:V},Vals xs us->xs[i]?=Z x->∃ u,us[i]?=Z u/\RelV x u
 | _,_,_,_,.nil,e=>by simp at e
 | _,_,0,_,.cons r _,e=>by simp at e;subst e;exact ⟨_,U,r⟩
 | _,_,i+1,x,.cons _ t,e=>by
  obtain ⟨u,h1,h2⟩:=Vals.get (i:=i) (x:=x) t (by simpa using e);exact ⟨u,by simpa using h1,h2⟩
theorem Vals.append:∀ {xs ys:List V} {us ws:Jd},Vals xs us->Vals ys ws->Vals (xs++ys) (us++ws)
 | _,_,_,_,.nil,s=>s
 | _,_,_,_,.cons r t,s=>.cons r (Vals.append t s)
theorem Vals.take:∀ {xs:List V} {us:Jd} (n:Nat),Vals xs us->Vals (xs.take n) (us.take n)
 | _,_,0,_=>.nil
 | _,_,_+1,.nil=>.nil
 | _,_,n+1,.cons r t=>.cons r (Vals.take n t)
theorem Vals.drop:∀ {xs:List V} {us:Jd} (n:Nat),Vals xs us->Vals (xs.drop n) (us.drop n)
 | _,_,0,r=>r
 | _,_,_+1,.nil=>.nil
 | _,_,n+1,.cons _ t=>Vals.drop n t
def RelO:Option V->Je->Prop
 | some v,Z u=>RelV v u
 | none,Y=>True
 | _,_=>False
def KV {κ:Type}:List (κ×V)->List (κ×Vl)->Prop:=Paired λ(p:κ×V) (q:κ×Vl)=>p.1=q.1/\RelV p.2 q.2
def kV:Key->V
 | .inl i=>.int i
 | .inr x=>.str x
inductive HO where
  | lst (xs:List V)
  | tup (xs:List V)
  | dK (sr:List (Key×V)) | dT (sr:List (List Key×V))
  | set (S:Int->Bool) (n:Nat)
  | ins (C dx:Ad) (fs:List (Str×V))
  | own (x:Ad)
  | xd (fs:List (Str×V))
  | met (f x:Ad)
  | rng (lo hi:Int)
  | frz (o:Obj) (u:HO)
  | tbl (ps:Array Vl)
  | ext (φ:Heap->Prop)
abbrev Hp:=Ad->Option HO
theorem Jp (l:List PySem.Str) (h:decide l.Nodup=true:=by decide +kernel):l.Nodup:=of_decide_eq_true h
abbrev Jl:=List (Key×V)
abbrev Jm:=List (Ad×HO)
abbrev Jn:=List V
abbrev Jo:=Option V
def upd (H:Hp) (a:Ad) (o:HO):Hp:=λb=>if b=a then Z o else H b
def zg {H:Hp} {a:Ad} {o:HO}:upd H a o a=Z o:=by unfold upd;rw [if_pos rfl]
def zt {H:Hp} {a b:Ad} {o:HO} (h:b≠a):upd H a o b=H b:=by unfold upd;rw [if_neg h]
def ne_of {H:Hp} {a b:Ad} {o u:HO} (h:H a=Z o) (h':H b=Z u) (d:o≠u):a≠b:=by
 intro e;subst e;rw [h] at h';exact d (uq h')
def zz {H:Hp} {a b:Ad} {o:HO} (h:H a=Z o) (h':H b=Y):a≠b:=by
 intro e;subst e;rw [h] at h';cases h'
section
variable (P:tV) (w:World)
def ObjOk (H:Hp) (h:Heap) (a:Ad):HO->Prop
 | .lst xs=>xs.length<=sL/\∃ (its:Jd) (n:Nat),Vals xs its/\h.get? a=Z { cls:=.type "list",data:=.seq its.toArray n }
 | .tup xs=>xs.length<=sL/\∃ its:Jd,Vals xs its/\IsTup h a its.toArray
 | .dK sr=>sr.length<=sL/\(a == uN)=false/\∃ vs,KV sr vs/\h.DictOf (yf P w) a vs
 | .dT sr=>sr.length<=sL/\(a == uN)=false/\∃ xs:List (List Key×Ad×Vl),
   Paired (λ(p:List Key×V) (q:List Key×Ad×Vl)=>p.1=q.1/\H q.2.1=Z (.tup (p.1.map kV))/\RelV p.2 q.2.2) sr xs /\
   ∃ o es ep,h.get? a=Z o/\o.ExactDict/\o.data=.dict es ep/\es.toList=xs.map (entryOfKey (tupleKind (yf P w)))/\(xs.map (·.1)).Nodup
 | .set S n=>h.SetOf (intKind P w) a S n
 | .ins C dx fs=>H dx=Z (.own a)/\fs.length<=1000/\dx≠a/\h.get? a=Z (ua C dx) /\
   ∃ mA,h.Ns1 dx mA/\(∀ f,RelO (fs.lookup f) (mA f))/\PySem.Within mA (fs.map (·.1))
 | .own _=>∃ o,h.get? a=Z o
 | .xd fs=>∃ mA,h.Ns1 a mA/\∀ f,RelO (fs.lookup f) (mA f)
 | .rng lo hi=>∃ t u v,h.get? a=Z { cls:=.type "range",data:=.fields #[.int lo t,.int hi u,.int 1 v] }
 | .frz o u=>h.get? a=Z o/\ObjOk H h a u
 | .tbl ps=>h.get? a=Z { cls:=.none,data:=.fields ps }
 | .met f x=>h.get? a=Z (PySem.W.methodObj (.ref f) (.ref x))
 | .ext φ=>φ h/\(∃ o,h.get? a=Z o)/\∀ h1 h2:Heap,φ h1->(∀ o,h1.get? a=Z o->h2.get? a=Z o)->φ h2
def HOk (H:Hp) (h:Heap):Prop:=∀ a o,H a=Z o->ObjOk P w H h a o
end
section
variable {P:tV} {w:World} {H H':Hp} {h h':Heap} {a:Ad} {o:HO}
def ObjOk.lt (x:ObjOk P w H h a o):a<h.objs.size:=by
 cases o with
 | lst xs=>obtain ⟨_,_,_,_,e⟩:=x;exact tw e
 | tup xs=>obtain ⟨_,_,_,p⟩:=x;exact p.lt
 | dK sr=>obtain ⟨_,_,_,_,o,_,_,e,_⟩:=x;exact tw e
 | dT sr=>obtain ⟨_,_,_,_,o,_,_,e,_⟩:=x;exact tw e
 | set S n=>obtain ⟨o,_,_,_,e,_⟩:=x;exact tw e
 | ins C dx fs=>obtain ⟨_,_,_,e,_⟩:=x;exact tw e
 | own y=>obtain ⟨_,e⟩:=x;exact tw e
 | xd fs=>obtain ⟨_,⟨_,_,_,e,_⟩,_⟩:=x;exact tw e
 | rng lo hi=>obtain ⟨_,_,_,e⟩:=x;exact tw e
 | frz ob u=>obtain ⟨e,_⟩:=x;exact tw e
 | tbl ps=>exact tw (show h.get? a=Z _ from x)
 | met f y=>exact tw (show h.get? a=Z _ from x)
 | ext φ=>obtain ⟨_,⟨_,e⟩,_⟩:=x;exact tw e
theorem Paired.mapP {α β:Type} {F G:α->β->Prop}:∀ {l₁:List α} {l₂:List β},Paired F l₁ l₂->(∀ a b,F a b->G a b)->Paired G l₁ l₂
 | _,_,.nil,_=>.nil
 | _,_,.cons r t,f=>.cons (f _ _ r) (Paired.mapP t f)
def ObjOk.stay (x:ObjOk P w H h a o) (k:∀ b u,(b=a∨H b=Z (.own a))->h.get? b=Z u->h'.get? b=Z u)
  (ho:∀ b,H b=Z (.own a)->H' b=Z (.own a)) (ht:∀ b xs,H b=Z (.tup xs)->H' b=Z (.tup xs)):ObjOk P w H' h' a o:=by
 induction o with
 | lst xs=>obtain ⟨z,its,n,r,e⟩:=x;exact ⟨z,its,n,r,k _ _ (.inl rfl) e⟩
 | tup xs=>obtain ⟨z,its,r,ob,e,c⟩:=x;exact ⟨z,its,r,ob,k _ _ (.inl rfl) e,c⟩
 | dK sr=>obtain ⟨z,y,vs,r,ob,es,ep,e,c⟩:=x;exact ⟨z,y,vs,r,ob,es,ep,k _ _ (.inl rfl) e,c⟩
 | dT sr =>
  obtain ⟨z,y,xs,r,ob,es,ep,e,c⟩:=x;exact ⟨z,y,xs,Paired.mapP r λp q z=>⟨z.1,ht _ _ z.2.1,z.2.2⟩,ob,es,ep,k _ _ (.inl rfl) e,c⟩
 | set S n=>obtain ⟨ob,es,ep,t,e,c⟩:=x;exact ⟨ob,es,ep,t,k _ _ (.inl rfl) e,c⟩
 | ins C dx fs =>
  obtain ⟨d,z,ne,e,mA,⟨od,es,ep,e2,c⟩,r⟩:=x;exact ⟨ho _ d,z,ne,k _ _ (.inl rfl) e,mA,⟨od,es,ep,k _ _ (.inr d) e2,c⟩,r⟩
 | own y=>obtain ⟨ob,e⟩:=x;exact ⟨ob,k _ _ (.inl rfl) e⟩
 | xd fs=>obtain ⟨mA,⟨od,es,ep,e,c⟩,r⟩:=x;exact ⟨mA,⟨od,es,ep,k _ _ (.inl rfl) e,c⟩,r⟩
 | rng lo hi=>obtain ⟨t,u,v,e⟩:=x;exact ⟨t,u,v,k _ _ (.inl rfl) e⟩
 | frz ob u ih=>obtain ⟨e,q⟩:=x;exact ⟨k _ _ (.inl rfl) e,ih q⟩
 | tbl ps =>
  have e:h.get? a=Z { cls:=.none,data:=.fields ps }:=x;show h'.get? a=Z { cls:=.none,data:=.fields ps };exact k a _ (.inl rfl) e
 | met f y =>
  have e:h.get? a=Z (PySem.W.methodObj (.ref f) (.ref y)):=x;show h'.get? a=Z (PySem.W.methodObj (.ref f) (.ref y));exact k a _ (.inl rfl) e
 | ext φ=>obtain ⟨p,⟨o,e⟩,st⟩:=x;exact ⟨st _ _ p λo q=>k _ _ (.inl rfl) q,⟨o,k _ _ (.inl rfl) e⟩,st⟩
def HOk.lt (x:HOk P w H h) (e:H a=Z o):a<h.objs.size:=(x a o e).lt
def HOk.fresh (x:HOk P w H h) (e:h.objs.size<=a):H a=Y:=by
 cases q:H a with
 | none=>rfl
 | some u=>exact absurd (x1z (x.lt q) e) (vg _)
def HOk.kept (x:HOk P w H h) (k:∀ b u,h.get? b=Z u->h'.get? b=Z u):HOk P w H h':=λa o e =>
 (x a o e).stay (λb u _ q=>k b u q) (λ_ q=>q) λ_ _ q=>q
def HOk.laid (x:HOk P w H h) (k:∀ b u,h.get? b=Z u->h'.get? b=Z u) (hp:h.objs.size<=a) (new:ObjOk P w (upd H a o) h' a o):HOk P w (upd H a o) h':=λb u e=>by
 have hn:=x.fresh hp;by_cases hb:b=a
 .subst hb;rw [zg] at e;cases e;exact new
 .rw [zt hb] at e
  exact (x b u e).stay (λc v _ q=>k c v q) (λc q=>by rw [zt (zz q hn)];exact q) λc xs q=>by rw [zt (zz q hn)];exact q
end
def Rd (H:Hp) (a:Ad) (u:HO):Prop:=H a=Z u∨∃ o,H a=Z (.frz o u)
def Rd.ok {P:tV} {w:World} {H:Hp} {h:Heap} {a:Ad} {u:HO} (r:Rd H a u) (x:HOk P w H h):ObjOk P w H h a u:=by
 rcases r with r | ⟨o,r⟩
 .exact x a u r
 .obtain ⟨_,q⟩:=x a _ r
  exact q
def Mut:Option HO->Prop
 | some (.lst _)=>True
 | some (.dK _)=>True
 | some (.dT _)=>True
 | some (.set _ _)=>True
 | some (.ins _ _ _)=>True
 | some (.ext _)=>True
 | _=>False
section
variable {P:tV} {w:World} {H:Hp} {h h':Heap} {x e:Ad} {o':HO}
def HOk.write (ok:HOk P w H h) (mu:Mut (H x)) (he:e=x∨H e=Z (.own x)) (k:∀ b u,b≠e->h.get? b=Z u->h'.get? b=Z u) (heo:∃ u,h'.get? e=Z u)
  (new:ObjOk P w (upd H x o') h' x o'):HOk P w (upd H x o') h':=λb u q=>by
 have nown:∀ c y,H c=Z (.own y)->c≠x:=λc y r z=>by subst z;rw [r] at mu;exact mu
 have ntup:∀ c xs,H c=Z (.tup xs)->c≠x:=λc xs r z=>by subst z;rw [r] at mu;exact mu
 by_cases hb:b=x
 .subst hb;rw [zg] at q;cases q;exact new
 .rw [zt hb] at q
  by_cases hbe:b=e
  .have q':H b=Z (.own x):=by
    rcases he with z | z
    .exact absurd (hbe.trans z) hb
    .rw [hbe];exact z
   rw [q] at q';cases q';obtain ⟨v,hv⟩:=heo;exact ⟨v,by rw [hbe];exact hv⟩
  .refine (ok b u q).stay (λc v hc r=>k c v ?_ r) (λc r=>by rw [zt (nown c b r)];exact r) λc xs r=>by rw [zt (ntup c xs r)];exact r
   rcases hc with rfl | hc
   .exact hbe
   .rintro rfl
    rcases he with z | z
    .exact nown c b hc z
    .rw [hc] at z;cases z;exact hb rfl
end
structure Un (fs ex:Jg) (H H':Hp) (h h':Heap):Prop where
 keep:∀ b o,h.get? b=Z o->H b=Y->b ∉ fs->b ∉ ex->h'.get? b=Z o
 slot:∀ b o,h.get? b=Z o->H b=Y->b∈fs->b ∉ ex->∃ sl,h'.get? b=Z { o with slots:=sl }
 free:∀ b o,h.get? b=Z o->H b=Y->b ∉ ex->H' b=Y
 there:∀ b o,h.get? b=Z o->b ∉ ex->∃ o',h'.get? b=Z o'
 tups:∀ b xs,H b=Z (.tup xs)->H' b=Z (.tup xs)
 frzs:∀ b o u,H b=Z (.frz o u)->H' b=Z (.frz o u)
 tbls:∀ b ps,H b=Z (.tbl ps)->∃ more,H' b=Z (.tbl (ps++more))
section
variable {fs fs' ex ex':Jg} {H H1 H2:Hp} {h h1 h2 h':Heap} {a x e:Ad} {o:HO}
def Un.any (u:Un fs ex H H1 h h1) {b:Ad} {ob:Obj} (q:h.get? b=Z ob) (n:H b=Y) (hx:b ∉ ex):∃ sl,h1.get? b=Z { ob with slots:=sl }:=by
 by_cases hb:b∈fs
 .exact u.slot b ob q n hb hx
 .exact ⟨ob.slots,u.keep b ob q n hb hx⟩
def Un.kept (k:∀ b u,h.get? b=Z u->h'.get? b=Z u):Un fs ex H H h h' :=
 ⟨λb ob q _ _ _=>k b ob q,λb ob q _ _ _=>⟨ob.slots,k b ob q⟩,λ_ _ _ n _=>n,λb ob q _=>⟨ob,k b ob q⟩,λ_ _ q=>q,λ_ _ _ q=>q,λ_ ps q=>⟨#[],by rw [q];simp⟩⟩
def Un.refl:Un fs ex H H h h:=Un.kept λ_ _ q=>q
def Un.laid (k:∀ b u,h.get? b=Z u->h'.get? b=Z u) (hp:h.objs.size<=a) (hn:H a=Y):Un fs ex H (upd H a o) h h' where
 keep:=λb u q _ _ _=>k b u q
 slot:=λb u q _ _ _=>⟨u.slots,k b u q⟩
 free:=λb u q n _=>by rw [zt (tQ (x1z (tw q) hp))];exact n
 there:=λb u q _=>⟨u,k b u q⟩
 tups:=λb xs q=>by rw [zt (zz q hn)];exact q
 frzs:=λb u xs q=>by rw [zt (zz q hn)];exact q
 tbls:=λb ps q=>⟨#[],by rw [zt (zz q hn),q];simp⟩
def Un.write (mu:Mut (H x)) (he:e=x∨H e=Z (.own x)) (k:∀ b u,b≠e->h.get? b=Z u->h'.get? b=Z u) (heo:∃ u,h'.get? e=Z u):Un fs ex H (upd H x o) h h':=by
 have hx:∀ b,H b=Y->b≠x:=λb n z=>by subst z;rw [n] at mu;exact mu
 have hb:∀ b,H b=Y->b≠e:=λb n z=>by
  subst z;rcases he with r | r
  .exact hx b n r
  .rw [n] at r;cases r
 have hm:∀ b u,H b=Z u->¬ Mut (Z u)->b≠x:=λb u q nm z=>by subst z;rw [q] at mu;exact nm mu
 refine ⟨λb u q n _ _=>k b u (hb b n) q,λb u q n _ _=>⟨u.slots,k b u (hb b n) q⟩,λb u q n _=>by rw [zt (hx b n)];exact n,λb u q _=>?_,
  λb xs q=>by rw [zt (hm b _ q λz=>z)];exact q,λb u xs q=>by rw [zt (hm b _ q λz=>z)];exact q,λb ps q=>⟨#[],by rw [zt (hm b _ q λz=>z),q];simp⟩⟩
 by_cases hbe:b=e
 .subst hbe;exact heo
 .exact ⟨u,k b u hbe q⟩
end
def trk (h:Heap) (H:Hp):Jg:=(List.range h.objs.size).filter λa=>(H a).isSome
def hidT (h:Heap) (H:Hp):Heap:=PySem.W.hideAll h (trk h H)
def hidT_size (h:Heap) (H:Hp):(hidT h H).objs.size=h.objs.size:=PySem.W.hideAll_size _ _
def hidT_get {h:Heap} {H:Hp} {b:Ad} {o:Obj} (e:h.get? b=Z o) (n:H b=Y):(hidT h H).get? b=Z o :=
 PySem.W.hideAll_get _ e λhm=>by
  have q:(H b).isSome=true:=(List.mem_filter.mp hm).2;rw [n] at q;simp at q
def of_hidT {h:Heap} {H:Hp} {b:Ad} {o:Obj} (e:(hidT h H).get? b=Z o):h.get? b=Z o/\H b=Y:=by
 have e':h.get? b=Z o:=PySem.W.of_hideAll (trk h H) e;refine ⟨e',?_⟩
 cases q:H b with
 | none=>rfl
 | some x =>
  have hm:b∈trk h H:=List.mem_filter.mpr ⟨vS.mpr (tw e'),by simp [q]⟩;have z:(hidT h H).get? b=Y:=PySem.W.hideAll_none (trk h H) hm;rw [z] at e;cases e
def zam (g h:Heap) (L:Ad):Jc:=(List.range h.objs.size).filterMap λa=>if a=L∨(g.get? a).isSome=true then Y else (h.get? a).map λo=>(a,o)
def ze5 {g h:Heap} {L a:Ad} {o:Obj} (h1:a≠L) (h2:g.get? a=Y) (h3:h.get? a=Z o):(a,o)∈zam g h L :=
 wq.mpr ⟨a,vS.mpr (tw h3),by simp [h1,h2,h3]⟩
def za9 {g h:Heap} {L:Ad} {p:Ad×Obj} (hp:p∈zam g h L):p.1≠L/\g.get? p.1=Y/\h.get? p.1=Z p.2:=by
 obtain ⟨b,_,e⟩:=wq.mp hp
 split at e
 .cases e
 .rename_i hn
  cases q:h.get? b with
  | none=>rw [q] at e;simp at e
  | some u =>
   rw [q] at e;simp only [we,Option.some.injEq] at e;subst e;refine ⟨λz=>hn (.inl z),?_,q⟩;show g.get? b=Y
   cases r:g.get? b with
   | none=>rfl
   | some v=>exact (hn (.inr (by simp [r]))).elim
def news_all {g h:Heap} {L:Ad}:News g L h (zam g h L):=λp hp=>let ⟨a,b,c⟩:=za9 hp;⟨c,a,b⟩
structure Mod (K:Fg) (mg:J0) (base:Heap):Prop where
 kin:K.In base
 glob:base.Ns ti mg
 blt:∃ mb,base.Ns builtinsNs mb/\∀ x:Str,x≠"__name__"->mb x=wb x
 nolimit:base.NoLimit
structure Cx where
 prog:tV
 w:World
 K:Fg
 mg:J0
 base:Heap
 A:Around
 N:Jf
 s₀:Sh
 H₀:Hp
 env:Env
 outer:List Env
 stack:List Env
 ex:Jg
 fn:Str->Bool
 calm:Bool
 pn:Jc
 xe:Ja
def frs (l:List Env):Jg:=l.filterMap (·.frame)
abbrev Cx.fs (X:Cx):Jg:=frs X.outer
def Vis (sc:Scope) (x:Str):Prop:=sc.names.lookup x=Z .local∨sc.names.lookup x=Z .cell∨sc.names.lookup x=Z .free
def Loc (sc:Scope) (x:Str):Prop:=sc.names.lookup x=Z .local∨sc.names.lookup x=Z .cell
def Look (env:Env) (h:Heap) (m:J0) (x:Str) (u:Vl):Prop :=
 (env.kindOf x=Z .local/\m x=Z u)∨((env.kindOf x=Z .cell∨env.kindOf x=Z .free)/\∃ c,env.cells.lookup x=Z c/\h.IsCell c (Z u))
structure Cx.Ok (X:Cx):Prop where
 mod:Mod X.K X.mg X.base
 kind:X.env.scope.kind=.function
 glob:X.env.globals=ti
 blt:X.env.builtins=builtinsNs
 above:X.s₀.heap.objs.size<=X.env.locals
 inj:∀ x y c,X.env.cells.lookup x=Z c->X.env.cells.lookup y=Z c->x=y
 has:∀ x,(X.env.kindOf x=Z .cell∨X.env.kindOf x=Z .free)->∃ c,X.env.cells.lookup x=Z c
 cab:∀ x c,X.fn x=true->X.env.cells.lookup x=Z c->X.s₀.heap.objs.size<=c
 hd:X.calm=true->X.A.handled=Y
 frames:X.A.frames=Z X.stack
 stk:X.stack=X.outer∨(X.stack=X.env::X.outer/\X.env.frame=Z X.env.locals)
 exf:∀ b∈X.ex,b≠X.env.locals/\∀ x c,X.env.cells.lookup x=Z c->c≠b
 bs:∀ b o,X.base.get? b=Z o->X.s₀.heap.get? b=Z o/\X.H₀ b=Y
 bsz:X.base.objs.size<=X.s₀.heap.objs.size
 noex:∀ b o,X.base.get? b=Z o->b ∉ X.ex
 exfs:∀ b∈X.ex,b ∉ X.fs
 funs:X.s₀.heap.FunFrames X.base X.outer
 frf:∀ b∈X.fs,X.H₀ b=Y
structure Inv (X:Cx) (sq:Jc) (σ:List (Jo)) (H:Hp) (s:Sh):Prop where
 ok:X.Ok
 os:s.os=X.s₀.os
 bare:AllBare s.gens
 base:Un X.fs X.ex X.H₀ H X.s₀.heap s.heap
 loc:∃ m,s.heap.Ns X.env.locals m/\∀ (i:Nat) (x:Str) (v:V),X.N[i]?=Z x->σ[i]?=Z (Z v)->Vis X.env.scope x->∃ u,RelV v u/\Look X.env s.heap m x u
 cell:∀ x c,X.env.cells.lookup x=Z c->∃ v,s.heap.IsCell c v
 free:H X.env.locals=Y
 freeC:∀ x c,X.env.cells.lookup x=Z c->H c=Y
 pin:∀ p∈X.pn++sq,s.heap.get? p.1=Z p.2/\H p.1=Y/\p.1≠X.env.locals/\p.1 ∉ X.fs/\∀ v,p.2.data≠.cell v
 hok:HOk X.prog X.w H s.heap
 len:σ.length=X.N.length
section
variable {X:Cx} {sq:Jc} {σ:List (Jo)} {H H':Hp} {s:Sh} {h':Heap}
def Cx.Ok.nofr (ok:X.Ok) {b:Ad} {o:Obj} (e:X.base.get? b=Z o):b ∉ X.fs:=λhb=>by
 have:=(ok.funs.mem hb).1;rw [e] at this;cases this
def Inv.bs (I:Inv X sq σ H s):∀ b o,X.base.get? b=Z o->s.heap.get? b=Z o/\H b=Y:=λb o e =>
 ⟨I.base.keep b o (I.ok.bs b o e).1 (I.ok.bs b o e).2 (I.ok.nofr e) (I.ok.noex b o e),I.base.free b o (I.ok.bs b o e).1 (I.ok.bs b o e).2 (I.ok.noex b o e)⟩
def Inv.bk (I:Inv X sq σ H s):∀ b o,X.base.get? b=Z o->s.heap.get? b=Z o:=λb o e=>(I.bs b o e).1
def Inv.mod (I:Inv X sq σ H s):Mod X.K X.mg X.base:=I.ok.mod
def Inv.kIn (I:Inv X sq σ H s):X.K.In s.heap:=I.ok.mod.kin.keeps I.bk
def Inv.lt (I:Inv X sq σ H s):X.env.locals<s.heap.objs.size:=let ⟨_,hn,_⟩:=I.loc;hn.lt
def Inv.sz (I:Inv X sq σ H s):X.s₀.heap.objs.size<=s.heap.objs.size:=tE I.ok.above (Nat.le_of_lt I.lt)
def Inv.nofs (I:Inv X sq σ H s) {a:Ad} (h:s.heap.objs.size<=a):a ∉ X.fs:=λhb=>by
 obtain ⟨_,o,ho,_⟩:=I.ok.funs.mem hb;exact absurd (x1z (tw ho) (tE I.sz h)) (vg _)
def Inv.cne (I:Inv X sq σ H s):∀ x c,X.env.cells.lookup x=Z c->c≠X.env.locals:=λx c e z=>by
 obtain ⟨v,o,ho,hd⟩:=I.cell x c e;obtain ⟨m,⟨o',es,ep,ho',hd',_⟩,_⟩:=I.loc;rw [z,ho'] at ho;cases ho;rw [hd'] at hd;cases hd
def Inv.funs (I:Inv X sq σ H s):s.heap.FunFrames X.base X.outer:=by
 have all:∀ (l:List Env),(∀ b∈frs l,b∈X.fs)->X.s₀.heap.FunFrames X.base l->s.heap.FunFrames X.base l:=by
  intro l
  induction l with
  | nil=>intro _ _;trivial
  | cons env r ih =>
   intro hs hl;obtain ⟨hk,⟨L,o,hf,hn,ho,hd⟩,hr⟩:=hl;have hL:L∈X.fs:=hs L (by unfold frs;rw [List.filterMap_cons,hf];exact x0z);obtain ⟨sl,e⟩:=I.base.slot L o ho (I.ok.frf L hL) hL λz=>I.ok.exfs L z hL;exact ⟨hk,⟨L,_,hf,hn,e,hd⟩,ih (λb hb=>hs b (by unfold frs;rw [List.filterMap_cons,hf];exact x0y _ hb)) hr⟩
 exact all X.outer (λ_ hb=>hb) I.ok.funs
def Inv.stack (I:Inv X sq σ H s):s.heap.FunFrames X.base X.stack:=by
 rcases I.ok.stk with e | ⟨e,hf⟩
 .rw [e];exact I.funs
 .rw [e]
  obtain ⟨m,hn,_⟩:=I.loc;refine .cons (by rw [I.ok.kind];decide) hf hn ?_ I.funs;exact Heap.get?_none_of_le (tE I.ok.bsz I.ok.above)
def Inv.stkSub (I:Inv X sq σ H s):∀ b∈frs X.stack,b∈X.env.locals::X.fs:=λb hb=>by
 rcases I.ok.stk with e | ⟨e,hf⟩
 .rw [e] at hb;exact x0y _ hb
 .rw [e] at hb
  unfold frs at hb;rw [List.filterMap_cons,hf] at hb;exact hb
def Inv.stkFree (I:Inv X sq σ H s):∀ b∈frs X.stack,H b=Y:=λb hb=>by
 rcases sM.mp (I.stkSub b hb) with e | hb
 .rw [e];exact I.free
 .obtain ⟨_,o,ho,_⟩:=I.ok.funs.mem hb
  exact I.base.free b o ho (I.ok.frf b hb) λz=>I.ok.exfs b z hb
def Inv.step {g':Array GenState} {t':Nat} {d':Drawn} {ch:Jg} (I:Inv X sq σ H s)
  (hch:∀ b∈ch,(b∈X.ex∨X.s₀.heap.objs.size<=b)/\b≠X.env.locals/\(∀ x c,X.env.cells.lookup x=Z c->c≠b)/\∀ p∈X.pn++sq,p.1≠b)
  (keep:∀ b o,b≠X.env.locals->b ∉ X.fs->b ∉ ch->s.heap.get? b=Z o->H b=Y->h'.get? b=Z o)
  (slot:∀ b o,b≠X.env.locals->b∈X.fs->b ∉ ch->s.heap.get? b=Z o->H b=Y->∃ sl,h'.get? b=Z { o with slots:=sl }) (free:∀ b o,b ∉ ch->s.heap.get? b=Z o->H b=Y->H' b=Y)
  (there:∀ b o,b ∉ ch->s.heap.get? b=Z o->∃ o',h'.get? b=Z o')
  (tups:∀ b xs,H b=Z (.tup xs)->H' b=Z (.tup xs)) (frzs:∀ b o u,H b=Z (.frz o u)->H' b=Z (.frz o u)) (tbls:∀ b ps,H b=Z (.tbl ps)->∃ more,H' b=Z (.tbl (ps++more)))
  (ns:∀ m,s.heap.Ns X.env.locals m->h'.Ns X.env.locals m) (hok:HOk X.prog X.w H' h') (hg:AllBare g') :
  Inv X sq σ H' { s with heap:=h',gens:=g',drawn:=d',toks:=t' }:=by
 have neL:∀ b o,X.s₀.heap.get? b=Z o->b≠X.env.locals:=λb o e=>tQ (x1z (tw e) I.ok.above)
 have neC:∀ b o,X.s₀.heap.get? b=Z o->b ∉ X.ex->b ∉ ch:=λb o e hx hb=>by
  rcases (hch b hb).1 with z | z
  .exact hx z
  .exact absurd (x1z (tw e) z) (vg _)
 have cellK:∀ x c,X.env.cells.lookup x=Z c->∀ v,s.heap.IsCell c v->h'.IsCell c v:=λx c e v ⟨o,ho,hd⟩=>by
  have nch:c ∉ ch:=λz=>(hch c z).2.2.1 x c e rfl;by_cases hc:c∈X.fs
  .obtain ⟨sl,q⟩:=slot c o (I.cne x c e) hc nch ho (I.freeC x c e)
   exact ⟨_,q,hd⟩
  .exact ⟨o,keep c o (I.cne x c e) hc nch ho (I.freeC x c e),hd⟩
 refine ⟨I.ok,I.os,hg,⟨λb o e n hb hx=>?_,λb o e n hb hx=>?_,λb o e n hx=>?_,λb o e hx=>?_,λb xs e=>tups b xs (I.base.tups b xs e),λb o xs e=>frzs b o xs (I.base.frzs b o xs e),λb ps e=>?_⟩,?_,λx c e=>?_,?_,λx c e=>?_,λp hp=>?_,hok,I.len⟩
 .exact keep b o (neL b o e) hb (neC b o e hx) (I.base.keep b o e n hb hx) (I.base.free b o e n hx)
 .obtain ⟨sl,e1⟩:=I.base.slot b o e n hb hx
  obtain ⟨sl',e2⟩:=slot b _ (neL b o e) hb (neC b o e hx) e1 (I.base.free b o e n hx);exact ⟨sl',e2⟩
 .obtain ⟨o',e1⟩:=I.base.there b o e hx
  exact free b o' (neC b o e hx) e1 (I.base.free b o e n hx)
 .obtain ⟨o',e1⟩:=I.base.there b o e hx
  exact there b o' (neC b o e hx) e1
 .obtain ⟨m1,e1⟩:=I.base.tbls b ps e
  obtain ⟨m2,e2⟩:=tbls b _ e1;exact ⟨m1++m2,by rw [e2,Array.append_assoc]⟩
 .obtain ⟨m,hn,hl⟩:=I.loc
  refine ⟨m,ns m hn,λi x v e1 e2 e3=>?_⟩;obtain ⟨u,r,l⟩:=hl i x v e1 e2 e3;refine ⟨u,r,?_⟩;rcases l with l | ⟨k,c,e,z⟩
  .exact .inl l
  .exact .inr ⟨k,c,e,cellK x c e _ z⟩
 .obtain ⟨v,z⟩:=I.cell x c e
  exact ⟨v,cellK x c e v z⟩
 .obtain ⟨m,⟨o,_,_,ho,_⟩,_⟩:=I.loc
  exact free _ o (λz=>(hch _ z).2.1 rfl) ho I.free
 .obtain ⟨v,o,ho,hd⟩:=I.cell x c e
  exact free c o (λz=>(hch c z).2.2.1 x c e rfl) ho (I.freeC x c e)
 .obtain ⟨e,n,ne,nf,d⟩:=I.pin p hp
  have nch:p.1 ∉ ch:=λz=>(hch p.1 z).2.2.2 p hp rfl;exact ⟨keep p.1 p.2 ne nf nch e n,free p.1 p.2 nch e n,ne,nf,d⟩
def Inv.un {t':Nat} (I:Inv X sq σ H s) (u:Un X.fs [] H H' s.heap h') (hok:HOk X.prog X.w H' h'):Inv X sq σ H' { s with heap:=h',toks:=t' }:=by
 obtain ⟨m,⟨o,es,ep,ho,r⟩,_⟩:=id I.loc;obtain ⟨sl,hL⟩:=u.any ho I.free (by simp)
 exact I.step (g':=s.gens) (d':=s.drawn) (ch:=[]) (λ_ z=>nomatch z) (λb o _ hb _ e n=>u.keep b o e n hb (by simp)) (λb o _ hb _ e n=>u.slot b o e n hb (by simp)) (λb o _ e n=>u.free b o e n (by simp)) (λb o _ e=>u.there b o e (by simp)) u.tups u.frzs u.tbls (λm' hm=>by
  obtain ⟨o',es',ep',ho',r'⟩:=hm;rw [ho] at ho';cases ho';exact ⟨_,es',ep',hL,r'⟩) hok I.bare
def Inv.call {g':Array GenState} {t':Nat} {d':Drawn} {ch:Jg} (I:Inv X sq σ H s) (u:Un (frs X.stack) ch H H' s.heap h') (hok:HOk X.prog X.w H' h') (hg:AllBare g')
  (hch:∀ b∈ch,(b∈X.ex∨X.s₀.heap.objs.size<=b)/\b≠X.env.locals/\(∀ x c,X.env.cells.lookup x=Z c->c≠b)/\∀ p∈X.pn++sq,p.1≠b) :
  Inv X sq σ H' { s with heap:=h',gens:=g',drawn:=d',toks:=t' }:=by
 obtain ⟨m,⟨o,es,ep,ho,r⟩,_⟩:=id I.loc;obtain ⟨sl,hL⟩:=u.any ho I.free λz=>(hch _ z).2.1 rfl
 exact I.step (ch:=ch) hch (λb o hL hb hc e n=>u.keep b o e n (λz=>(sM.mp (I.stkSub b z)).elim hL hb) hc) (λb o _ _ hc e n=>u.any e n hc) (λb o hc e n=>u.free b o e n hc) (λb o hc e=>u.there b o e hc) u.tups u.frzs u.tbls (λm' hm=>by
  obtain ⟨o',es',ep',ho',r'⟩:=hm;rw [ho] at ho';cases ho';exact ⟨_,es',ep',hL,r'⟩) hok hg
def Inv.turned {t':Nat} {it:Ad} (I:Inv X sq σ H s) (k:∀ b o,b≠it->s.heap.get? b=Z o->h'.get? b=Z o) (hn:H it=Y) (hL:it≠X.env.locals)
  (h1:it∈X.ex∨X.s₀.heap.objs.size<=it) (h2:∀ x c,X.env.cells.lookup x=Z c->c≠it) (h3:∀ p∈X.pn++sq,p.1≠it):Inv X sq σ H { s with heap:=h',toks:=t' }:=by
 have nit:∀ b u,H b=Z u->b≠it:=λb u e z=>by rw [z,hn] at e;cases e
 refine I.step (g':=s.gens) (d':=s.drawn) (ch:=[it]) (λb hb=>?_) (λb o _ _ hc e _=>k b o (λz=>hc (by simp [z])) e) (λb o _ _ hc e _=>⟨o.slots,k b o (λz=>hc (by simp [z])) e⟩) (λ_ _ _ _ n=>n)
  (λb o hc e=>⟨o,k b o (λz=>hc (by simp [z])) e⟩) (λ_ _ e=>e) (λ_ _ _ e=>e) (λb ps e=>⟨#[],by rw [e];simp⟩) (λm hm=>?_) (λb u e=>?_) I.bare
 .have e:b=it:=by simpa using hb
  subst e;exact ⟨h1,hL,h2,h3⟩
 .obtain ⟨o,es,ep,ho,r⟩:=hm
  exact ⟨o,es,ep,k _ o (vQ hL) ho,r⟩
 .refine (I.hok b u e).stay (λc v hc q=>k c v ?_ q) (λ_ q=>q) λ_ _ q=>q
  rcases hc with z | z
  .rw [z];exact nit b u e
  .exact nit c _ z
def Inv.tok (I:Inv X sq σ H s) (t:Nat):Inv X sq σ H { s with toks:=t }:=I.un (h':=s.heap) (t':=t) Un.refl I.hok
def Inv.kept {t':Nat} (I:Inv X sq σ H s) (k:∀ b u,s.heap.get? b=Z u->h'.get? b=Z u):Inv X sq σ H { s with heap:=h',toks:=t' }:=I.un (Un.kept k) (I.hok.kept k)
def Inv.laid {a:Ad} {o:HO} {t':Nat} (I:Inv X sq σ H s) (k:∀ b u,s.heap.get? b=Z u->h'.get? b=Z u) (hp:s.heap.objs.size<=a) (new:ObjOk X.prog X.w (upd H a o) h' a o) :
  Inv X sq σ (upd H a o) { s with heap:=h',toks:=t' }:=I.un (Un.laid k hp (I.hok.fresh hp)) (I.hok.laid k hp new)
def Inv.write {x e:Ad} {o:HO} {t':Nat} (I:Inv X sq σ H s) (mu:Mut (H x)) (he:e=x∨H e=Z (.own x)) (k:∀ b u,b≠e->s.heap.get? b=Z u->h'.get? b=Z u) (heo:∃ u,h'.get? e=Z u)
  (new:ObjOk X.prog X.w (upd H x o) h' x o):Inv X sq σ (upd H x o) { s with heap:=h',toks:=t' }:=I.un (Un.write mu he k heo) (I.hok.write mu he k heo new)
def Inv.pins_of {pins':Jc} (I:Inv X sq σ H s) (h:∀ p∈pins',s.heap.get? p.1=Z p.2/\H p.1=Y/\p.1≠X.env.locals/\p.1 ∉ X.fs/\∀ v,p.2.data≠.cell v):Inv X pins' σ H s :=
 ⟨I.ok,I.os,I.bare,I.base,I.loc,I.cell,I.free,I.freeC,λp hp=>(t9.mp hp).elim (λz=>I.pin p (uv _ z)) (h p),I.hok,I.len⟩
def ze1 {N:Jf} (hN:N.Nodup) {i j:Nat} {x:Str} (a:N[i]?=Z x) (b:N[j]?=Z x):i=j:=by
 obtain ⟨h1,e1⟩:=tu.mp a;obtain ⟨h2,e2⟩:=tu.mp b;exact (List.getElem_inj hN).mp (e1.trans e2.symm)
def zb4 {M:Model} {A:Around} {E:Ja} {i:Nat} {x:Str} {v:V} {u:Vl} {Q:Unit->Sh->Prop} (I:Inv X sq σ H s) (hN:X.N.Nodup) (hi:X.N[i]?=Z x) (hx:Loc X.env.scope x) (r:RelV v u)
  (h:∀ s',Inv X sq (σ.set i (Z v)) H s'->(∃ a,wj a s.heap s'.heap/\(a=X.env.locals∨X.env.cells.lookup x=Z a))->Q () s') (hf:X.fn x=true∨X.env.scope.names.lookup x=Z .local:=by first | exact .inl rfl | exact .inr rfl | assumption):wpAny M A (storeName X.env x u) Q E s:=by
 obtain ⟨m,hn,hl⟩:=id I.loc;have hcls:(X.env.scope.kind == .class || (X.env.scope.kind == .module && X.env.locals != X.env.globals))=false:=by rw [I.ok.kind];rfl
 have hiσ:i<σ.length:=by rw [I.len];exact (tu.mp hi).1
 have cne:=I.cne
 have tracked:∀ {a:Ad} {h':Heap},(∃ o,s.heap.get? a=Z o/\H a=Y)->wj a s.heap h'->HOk X.prog X.w H h':=λ{a h'} ha hs b ob e=>by
  obtain ⟨_,_,hfree⟩:=ha;refine (I.hok b ob e).stay (λc w' hc q=>(hs.2 c ?_).trans q) (λ_ q=>q) λ_ _ q=>q;rintro rfl;rcases hc with rfl | hc
  .rw [hfree] at e;cases e
  .rw [hfree] at hc;cases hc
 rcases hx with hk | hk
 .refine wpAny_storeName_local hk hn (λh' hn' hs=>?_) hcls
  obtain ⟨oL,_,_,hoL,_⟩:=id hn;refine h _ ⟨I.ok,I.os,I.bare,⟨λb o e n hb hx=>?_,λb o e n hb hx=>?_,I.base.free,λb o e hx=>?_,I.base.tups,I.base.frzs,I.base.tbls⟩,⟨_,hn',λj y v' e1 e2 e3=>?_⟩,λy c e=>?_,I.free,I.freeC,λp hp=>?_,tracked ⟨oL,hoL,I.free⟩ hs,by simpa using I.len⟩ ⟨_,hs,.inl rfl⟩
  .exact (hs.2 b (tQ (x1z (tw e) I.ok.above))).trans (I.base.keep b o e n hb hx)
  .obtain ⟨sl,e1⟩:=I.base.slot b o e n hb hx
   exact ⟨sl,(hs.2 b (tQ (x1z (tw e) I.ok.above))).trans e1⟩
  .obtain ⟨o',e1⟩:=I.base.there b o e hx
   exact ⟨o',(hs.2 b (tQ (x1z (tw e) I.ok.above))).trans e1⟩
  .by_cases hj:j=i
   .subst hj
    rw [hi] at e1;cases e1;rw [List.getElem?_set_self hiσ] at e2;cases e2;exact ⟨u,r,.inl ⟨hk,by simp⟩⟩
   .rw [List.getElem?_set_ne (vQ hj)] at e2
    obtain ⟨u',r',q⟩:=hl j y v' e1 e2 e3;refine ⟨u',r',?_⟩;rcases q with ⟨k,e⟩ | ⟨k,c,e,z⟩
    .refine .inl ⟨k,?_⟩
     have:y≠x:=λe=>hj (ze1 hN e1 (e ▸ hi));simp [this,e]
    .exact .inr ⟨k,c,e,z.sameBut hs (cne y c e)⟩
  .obtain ⟨w',z⟩:=I.cell y c e
   exact ⟨w',z.sameBut hs (cne y c e)⟩
  .obtain ⟨e,n,ne,nf,d⟩:=I.pin p hp
   exact ⟨(hs.2 p.1 ne).trans e,n,ne,nf,d⟩
 .have hfn:X.fn x=true:=by
   rcases hf with z | z
   .exact z
   .rw [z] at hk;cases hk
  obtain ⟨c,hc⟩:=I.ok.has x (.inl hk);obtain ⟨w',z⟩:=I.cell x c hc;refine wpAny_storeName_cell I.ok.kind hk hc z (λh' hc' hs=>?_);obtain ⟨oc,hoc,hocd⟩:=id z;refine h { s with heap:=h' } ⟨I.ok,I.os,I.bare,⟨λb o e n hb hx=>?_,λb o e n hb hx=>?_,I.base.free,λb o e hx=>?_,I.base.tups,I.base.frzs,I.base.tbls⟩,⟨m,hn.sameBut hs (vQ (cne x c hc)),λj y v' e1 e2 e3=>?_⟩,λy c' e=>?_,I.free,I.freeC,λp hp=>?_,tracked ⟨oc,hoc,I.freeC x c hc⟩ hs,by simpa using I.len⟩ ⟨c,hs,.inr hc⟩
  .exact (hs.2 b (tQ (x1z (tw e) (I.ok.cab x c hfn hc)))).trans (I.base.keep b o e n hb hx)
  .obtain ⟨sl,e1⟩:=I.base.slot b o e n hb hx
   exact ⟨sl,(hs.2 b (tQ (x1z (tw e) (I.ok.cab x c hfn hc)))).trans e1⟩
  .obtain ⟨o',e1⟩:=I.base.there b o e hx
   exact ⟨o',(hs.2 b (tQ (x1z (tw e) (I.ok.cab x c hfn hc)))).trans e1⟩
  .by_cases hj:j=i
   .subst hj
    rw [hi] at e1;cases e1;rw [List.getElem?_set_self hiσ] at e2;cases e2;exact ⟨u,r,.inr ⟨.inl hk,c,hc,hc'⟩⟩
   .rw [List.getElem?_set_ne (vQ hj)] at e2
    obtain ⟨u',r',q⟩:=hl j y v' e1 e2 e3;refine ⟨u',r',?_⟩;rcases q with q | ⟨k,c',e,z'⟩
    .exact .inl q
    .refine .inr ⟨k,c',e,z'.sameBut hs ?_⟩
     rintro rfl;exact hj (ze1 hN e1 (I.ok.inj _ _ _ e hc ▸ hi))
  .by_cases hcc:c'=c
   .subst hcc;exact ⟨_,hc'⟩
   .obtain ⟨w2,z2⟩:=I.cell y c' e
    exact ⟨w2,z2.sameBut hs hcc⟩
  .obtain ⟨e,n,ne,nf,d⟩:=I.pin p hp
   refine ⟨(hs.2 p.1 ?_).trans e,n,ne,nf,d⟩;intro q;rw [q,hoc] at e;have q':oc=p.2:=uq e;exact d w' (by rw [← q'];exact hocd)
def zap {M:Model} {A:Around} {E:Ja} {i:Nat} {x:Str} {v:V} {u:Vl} {Q:Unit->Sh->Prop} (I:Inv X sq σ H s) (hN:X.N.Nodup) (hi:X.N[i]?=Z x) (hx:Loc X.env.scope x) (r:RelV v u)
  (h:∀ s',Inv X sq (σ.set i (Z v)) H s'->Q () s') (hf:X.fn x=true∨X.env.scope.names.lookup x=Z .local:=by first | exact .inl rfl | exact .inr rfl | assumption):wpAny M A (storeName X.env x u) Q E s :=
 zb4 I hN hi hx r (λs' I' _=>h s' I') hf
def Inv.call' {s':Sh} {ch:Jg} (I:Inv X sq σ H s) (ho:s'.os=s.os) (u:Un (frs X.stack) ch H H' s.heap s'.heap) (hok:HOk X.prog X.w H' s'.heap) (hg:AllBare s'.gens)
  (hch:∀ b∈ch,(b∈X.ex∨X.s₀.heap.objs.size<=b)/\b≠X.env.locals/\(∀ x c,X.env.cells.lookup x=Z c->c≠b)/\∀ p∈X.pn++sq,p.1≠b):Inv X sq σ H' s':=by
 obtain ⟨h',g',d',t',o'⟩:=s';have e:o'=s.os:=ho;subst e;exact I.call (g':=g') (t':=t') (d':=d') u hok hg hch
end
abbrev XK:=Vl->Option Ad->Hp->Prop
abbrev St:=List (Jo)
abbrev VK:=V->Hp->Prop
abbrev TE:=St->Hp->VK->Prop
abbrev TT:=St->Hp->(Bool->Hp->Prop)->Prop
abbrev TA:=St->Hp->(Jn->Hp->Prop)->Prop
structure Ends where
 nx:St->Hp->Prop
 rt:VK
 bk:St->Hp->Prop:=λ_ _=>False
 ct:St->Hp->Prop:=λ_ _=>False
abbrev TS:=Ends->St->Hp->Prop
def EP (X:Cx) (sq:Jc) (σ:St) (Q:VK) (u:Vl) (s':Sh):Prop:=∃ v H',Inv X sq σ H' s'/\RelV v u/\Q v H'
def TP (X:Cx) (sq:Jc) (σ:St) (Q:Bool->Hp->Prop) (b:Bool) (s':Sh):Prop:=∃ H',Inv X sq σ H' s'/\Q b H'
def AP (X:Cx) (sq:Jc) (σ:St) (Q:Jn->Hp->Prop) (us:Jd) (s':Sh):Prop:=∃ vs H',Inv X sq σ H' s'/\Vals vs us/\Q vs H'
def SP (X:Cx) (sq:Jc) (D:Ends) (f:Flow) (s':Sh):Prop :=
 match f with
 | .next=>∃ σ' H',Inv X sq σ' H' s'/\D.nx σ' H'
 | .brk=>∃ σ' H',Inv X sq σ' H' s'/\D.bk σ' H'
 | .cont=>∃ σ' H',Inv X sq σ' H' s'/\D.ct σ' H'
 | .ret u=>∃ v σ' H',Inv X sq σ' H' s'/\RelV v u/\D.rt v H'
def PE (X:Cx) (e:Expr) (t:TE):Prop :=
 ∀ (sq:Jc) (s:Sh) (σ:St) (H:Hp) (Q:VK),Inv X sq σ H s->t σ H Q->wpAny (model X.prog X.w) X.A (eval e X.env) (EP X sq σ Q) X.xe s
def PT (X:Cx) (e:Expr) (t:TT):Prop :=
 ∀ (sq:Jc) (s:Sh) (σ:St) (H:Hp) (Q:Bool->Hp->Prop),Inv X sq σ H s->t σ H Q->wpAny (model X.prog X.w) X.A (isTrue e X.env (eval e X.env)) (TP X sq σ Q) X.xe s
def PW (X:Cx) (e:Expr) (t:TT):Prop :=
 ∀ (whole:Sem Vl) (sq:Jc) (s:Sh) (σ:St) (H:Hp) (Q:Bool->Hp->Prop),Inv X sq σ H s->t σ H Q->wpAny (model X.prog X.w) X.A (isTrue e X.env whole) (TP X sq σ Q) X.xe s
def PW.pt {X:Cx} {e:Expr} {t:TT} (h:PW X e t):PT X e t:=h _
def PA (X:Cx) (es:Jh) (t:TA):Prop :=
 ∀ (pos:Pos) (sq:Jc) (s:Sh) (σ:St) (H:Hp) (Q:Jn->Hp->Prop),Inv X sq σ H s->t σ H Q->wpAny (model X.prog X.w) X.A (spliced (backTo pos (tN es X.env))) (AP X sq σ Q) X.xe s
def PS (X:Cx) (st:Stmt) (t:TS):Prop :=
 ∀ (sq:Jc) (s:Sh) (σ:St) (H:Hp) (D:Ends),Inv X sq σ H s->t D σ H->wpAny (model X.prog X.w) X.A (exec st X.env) (SP X sq D) X.xe s
def PSs (X:Cx) (st:List Stmt) (t:TS):Prop :=
 ∀ (sq:Jc) (s:Sh) (σ:St) (H:Hp) (D:Ends),Inv X sq σ H s->t D σ H->wpAny (model X.prog X.w) X.A (execs st X.env) (SP X sq D) X.xe s
def thn {α:Type} {t:Sem α} {Q Q':α->Sh->Prop} {M:Model} {A:Around} {E:Ja} {s:Sh} (h:wpAny M A t Q E s) (hQ:∀ a s,Q a s->Q' a s):wpAny M A t Q' E s:=um h hQ λ_ _ x=>x
section
variable {X:Cx}
inductive tVar (i:Nat) (σ:St) (H:Hp) (Q:VK):Prop
 | mk (v:_) (_:σ[i]?=Z (Z v)) (_:Q v H)
def tC (v:V):TE:=λ_ H Q=>Q v H
def pe_var {i:Nat} {x:Str} {pos:Pos} (hN:X.N[i]?=Z x) (hv:Vis X.env.scope x) (hd:(x == ("__debug__":Str))=false:=by decide) (hcd:(x == ("__classdict__":Str))=false:=by decide):PE X (.Name x pos) (tVar i):=by
 intro sq s σ H Q I h;obtain ⟨v,e,h⟩:=h;obtain ⟨m,hn,hl⟩:=I.loc;obtain ⟨u,r,l⟩:=hl i x v hN e hv;have fin:EP X sq σ Q u s:=⟨v,H,I,r,h⟩;rcases l with ⟨hk,hm⟩ | ⟨hk,c,hc,hcell⟩
 .exact wpAny_Name (wpAny_loadName_local I.ok.kind hk hn hm fin) hd
 .rcases hk with hk | hk
  .exact wpAny_Name (wpAny_loadName_cell I.ok.kind hk hc hcell fin) hd
  .exact wpAny_Name (wpAny_loadName_free I.ok.kind hk hc hcell fin hcd) hd
def zd {i j pos}:PE X (.Constant (.int i) j pos) (tC (.int i)):=λ_ _ _ H _ I h=>wpAny_Constant_int ⟨.int i,H,I.tok _,⟨_,U⟩,h⟩
def yE {b j pos}:PE X (.Constant (.bool b) j pos) (tC (.bl b)):=λ_ _ _ H _ I h=>Constant_bool ⟨.bl b,H,I,U,h⟩
def yK {j pos}:PE X (.Constant .none j pos) (tC .non):=λ_ _ _ H _ I h=>Constant_none ⟨.non,H,I,U,h⟩
def zn {x j pos}:PE X (.Constant (.str x) j pos) (tC (.str x)):=λ_ _ _ H _ I h=>Calls.Constant_str ⟨.str x,H,I.tok _,⟨_,U⟩,h⟩
def Gl (X:Cx) (x:Str):Prop:=X.env.kindOf x=Z .globalImplicit
def Xx {E:Ja} {sq:Jc} {s:Sh} {σ:St} {H:Hp} {x:Str} {u:Vl} {pos:Pos} {Q:Ja} (I:Inv X sq σ H s) (hg:Gl X x) (hm:X.mg x=Z u) (h:Q u s)
  (hd:(x == ("__debug__":Str))=false:=by decide):wpAny (model X.prog X.w) X.A (eval (.Name x pos) X.env) Q E s :=
 Calls.Name_function_global I.ok.kind hg (Calls.loadGlobal_global (by rw [I.ok.glob];exact I.mod.glob.keeps I.bk) hm h) hd
def zbe {E:Ja} {sq:Jc} {s:Sh} {σ:St} {H:Hp} {x:Str} {u:Vl} {pos:Pos} {Q:Ja} (I:Inv X sq σ H s) (hg:Gl X x) (hm:X.mg x=Y) (hv:wb x=Z u) (h:Q u s)
  (hn:x≠"__name__":=by decide) (hd:(x == ("__debug__":Str))=false:=by decide):wpAny (model X.prog X.w) X.A (eval (.Name x pos) X.env) Q E s:=by
 obtain ⟨mb,h1,h2⟩:=I.mod.blt;exact Calls.Name_function_global I.ok.kind hg (Calls.loadGlobal_builtin (by rw [I.ok.glob];exact I.mod.glob.keeps I.bk) hm (by rw [I.ok.blt];exact h1.keeps I.bk) ((h2 x hn).trans hv) h) hd
def zdf {x:Str} {v:V} {u:Vl} {pos:Pos} (hg:Gl X x) (hm:X.mg x=Z u) (r:RelV v u) (hd:(x == ("__debug__":Str))=false:=by decide):PE X (.Name x pos) (tC v) :=
 λ_ _ _ H _ I h=>Xx I hg hm ⟨v,H,I,r,h⟩ hd
def pe_bltn {x:Str} {v:V} {u:Vl} {pos:Pos} (hg:Gl X x) (hm:X.mg x=Y) (hv:wb x=Z u) (r:RelV v u) (hn:x≠"__name__":=by decide) (hd:(x == ("__debug__":Str))=false:=by decide):PE X (.Name x pos) (tC v) :=
 λ_ _ _ H _ I h=>zbe I hg hm hv ⟨v,H,I,r,h⟩ hn hd
variable {a b:Expr} {ta tb:TE} {pos:Pos}
def PC (X:Cx) (op:CmpOp) (a b:Expr) (t:TE):Prop :=
 ∀ (sq:Jc) (s:Sh) (σ:St) (H:Hp) (Q:VK),Inv X sq σ H s->t σ H Q ->
  wpAny (model X.prog X.w) X.A (eval a X.env) (λv s₁=>wpAny (model X.prog X.w) X.A (eval b X.env) (λu s₂=>wpAny (model X.prog X.w) X.A (uA op v u) (EP X sq σ Q) X.xe s₂) X.xe s₁) X.xe s
inductive tB_S (Q:(Bool->Hp->Prop)) (x:V) (H1:Hp):Prop
 | mk (c:_) (_:x=.bl c) (_:Q c H1)
def tB (t:TE):TT:=λσ H Q=>t σ H λx H1=>tB_S Q x H1
def Yj {op:CmpOp} {t:TE} (h:PC X op a b t) (h1:behindInMarks op b=false:=by first | exact nobehind _ (by decide) (by decide) | rfl):PT X (.Compare a [op] [b] pos) (tB t):=by
 intro sq s σ H Q I hw;refine wpAny_isTrue_Compare1 (thn (h sq s σ H _ I hw) λv s1 h1=>thn h1 λu s2 h2=>thn h2 λc s3 ⟨x,H1,I1,r1,q1⟩=>?_) h1;obtain ⟨d,rfl,q⟩:=q1;cases r1;exact uI ⟨H1,I1,q⟩
def zG {e:Expr} {t:TE} (h:PE X e t) (he:∀ whole,isTrue e X.env whole=(do let v ← whole;standAt e.pos;holding [v] (truthy v)):=by intro _;rfl):PT X e (tB t):=by
 intro sq s σ H Q I hw;refine isTrue_plain (thn (h sq s σ H _ I hw) λv s1 ⟨x,H1,I1,r1,q1⟩=>?_) (he _);obtain ⟨d,rfl,q⟩:=q1;cases r1;exact uI ⟨H1,I1,q⟩
variable {tA tB':TT} {rest:Jh}
def tAnd (t u:TT):TT:=λσ H Q=>t σ H λc H1=>if c=true then u σ H1 Q else Q false H1
def tOr (t u:TT):TT:=λσ H Q=>t σ H λc H1=>if c=true then Q true H1 else u σ H1 Q
def tNot (t:TT):TT:=λσ H Q=>t σ H λc H1=>Q (!c) H1
def yc (ha:PT X a tA):PW X (.BoolOp .And [a] pos) tA:=by
 intro wh sq s σ H Q I h;refine isTrue_and (thn (ha sq s σ H Q I h) λc s1 e=>?_)
 cases c with
 | true=>exact isTrue_and_nil e
 | false=>exact e
def yS (ha:PT X a tA):PW X (.BoolOp .Or [a] pos) tA:=by
 intro wh sq s σ H Q I h;refine isTrue_or (thn (ha sq s σ H Q I h) λc s1 e=>?_)
 cases c with
 | false=>exact isTrue_or_nil e
 | true=>exact e
def yv (ha:PT X a tA) (hb:PW X (.BoolOp .And (b::rest) pos) tB'):PW X (.BoolOp .And (a::b::rest) pos) (tAnd tA tB'):=by
 intro wh sq s σ H Q I h;refine isTrue_and (thn (ha sq s σ H _ I h) λc s1 ⟨H1,I1,q1⟩=>?_)
 cases c with
 | true=>exact hb wh sq s1 σ H1 Q I1 q1
 | false=>exact ⟨H1,I1,q1⟩
def xM (ha:PT X a tA) (hb:PW X (.BoolOp .Or (b::rest) pos) tB'):PW X (.BoolOp .Or (a::b::rest) pos) (tOr tA tB'):=by
 intro wh sq s σ H Q I h;refine isTrue_or (thn (ha sq s σ H _ I h) λc s1 ⟨H1,I1,q1⟩=>?_)
 cases c with
 | true=>exact ⟨H1,I1,q1⟩
 | false=>exact hb wh sq s1 σ H1 Q I1 q1
def zW (ha:PT X a tA):PT X (.UnaryOp .Not a pos) (tNot tA):=by
 intro sq s σ H Q I h;exact isTrue_not (ha sq s σ H (λc H1=>Q (!c) H1) I h)
inductive tAndV_S (tb:TE) (σ:St) (Q:VK) (x:V) (H1:Hp):Prop
 | mk (c:_) (_:x=.bl c) (_:if c=true then tb σ H1 Q else Q (.bl false) H1)
def tAndV (ta tb:TE):TE:=λσ H Q=>ta σ H λx H1=>tAndV_S tb σ Q x H1
inductive tOrV_S (tb:TE) (σ:St) (Q:VK) (x:V) (H1:Hp):Prop
 | mk (c:_) (_:x=.bl c) (_:if c=true then Q (.bl true) H1 else tb σ H1 Q)
def tOrV (ta tb:TE):TE:=λσ H Q=>ta σ H λx H1=>tOrV_S tb σ Q x H1
inductive tNotV_S (Q:VK) (x:V) (H1:Hp):Prop
 | mk (c:_) (_:x=.bl c) (_:Q (.bl (!c)) H1)
def tNotV (ta:TE):TE:=λσ H Q=>ta σ H λx H1=>tNotV_S Q x H1
def yD {op} {t:TE} (h:PE X a t):PE X (.BoolOp op [a] pos) t:=λsq s σ H Q I hw=>BoolOp_one (h sq s σ H Q I hw)
def yH (ha:PE X a ta) (hb:PE X (.BoolOp .And (b::rest) pos) tb):PE X (.BoolOp .And (a::b::rest) pos) (tAndV ta tb):=by
 intro sq s σ H Q I h;refine BoolOp_and (thn (ha sq s σ H _ I h) λv s1 ⟨x,H1,I1,r1,q1⟩=>?_);obtain ⟨c,rfl,q1⟩:=q1;cases r1;refine uI ?_
 cases c with
 | true=>exact hb sq s1 σ H1 Q I1 q1
 | false=>exact ⟨.bl false,H1,I1,U,q1⟩
def pe_or (ha:PE X a ta) (hb:PE X (.BoolOp .Or (b::rest) pos) tb):PE X (.BoolOp .Or (a::b::rest) pos) (tOrV ta tb):=by
 intro sq s σ H Q I h;refine BoolOp_or (thn (ha sq s σ H _ I h) λv s1 ⟨x,H1,I1,r1,q1⟩=>?_);obtain ⟨c,rfl,q1⟩:=q1;cases r1;refine uI ?_
 cases c with
 | false=>exact hb sq s1 σ H1 Q I1 q1
 | true=>exact ⟨.bl true,H1,I1,U,q1⟩
def pe_not (ha:PE X a ta):PE X (.UnaryOp .Not a pos) (tNotV ta):=by
 intro sq s σ H Q I h;refine UnaryOp_ (thn (ha sq s σ H _ I h) λv s1 ⟨x,H1,I1,r1,q1⟩=>?_);obtain ⟨c,rfl,q1⟩:=q1;cases r1;exact not_of (uI ⟨.bl (!c),H1,I1,U,q1⟩)
end
def SqL (K:Fg) (H:Hp) (a:Ad) (xs:Jn):Prop :=
 Rd H a (.lst xs) ∨
  ∃ (o:Obj) (its:Array Vl) (n:Nat),K.lookup a=Z o/\o.cls=.type "list"/\o.dict=Y/\o.data=.seq its n/\its.size<=sL/\Vals xs its.toList
def SqT (K:Fg) (H:Hp) (a:Ad) (xs:Jn):Prop :=
 Rd H a (.tup xs) ∨
  ∃ (o:Obj) (its:Array Vl) (n:Nat),K.lookup a=Z o/\o.cls=.type "tuple"/\o.data=.seq its n/\its.size<=sL/\Vals xs its.toList
def absV:Vl->Jo
 | .none=>Z .non
 | .bool b=>Z (.bl b)
 | .int i _=>Z (.int i)
 | .str x _=>Z (.str x)
 | .bytes b _=>Z (.byt b)
 | .float b _=>Z (.flt b)
 | .ref a=>Z (.ref a)
 | .type n=>Z (.ty n)
 | _=>Y
def RelV.abs {x:V} {u:Vl} (r:RelV x u):absV u=Z x:=by
 cases x with
 | non=>cases r;rfl
 | bl _=>cases r;rfl
 | int _=>obtain ⟨t,rfl⟩:=r;rfl
 | str _=>obtain ⟨t,rfl⟩:=r;rfl
 | byt _=>obtain ⟨t,rfl⟩:=r;rfl
 | flt _=>obtain ⟨t,rfl⟩:=r;rfl
 | ref _=>cases r;rfl
 | ty _=>cases r;rfl
def RelV.inj {x y:V} {u:Vl} (r:RelV x u) (q:RelV y u):x=y:=uq (r.abs.symm.trans q.abs)
theorem Vals.inj:∀ {xs ys:Jn} {us:Jd},Vals xs us->Vals ys us->xs=ys
 | _,_,_,.nil,.nil=>rfl
 | _,_,_,.cons r t,.cons r' t'=>by rw [r.inj r',Vals.inj t t']
section
variable {X:Cx} {sq:Jc} {σ:St} {H:Hp} {s:Sh} {a:Ad} {xs ys:Jn}
def SqL.of {K:Fg} (h:H a=Z (.lst xs)):SqL K H a xs:=.inl (.inl h)
def SqT.of {K:Fg} (h:H a=Z (.tup xs)):SqT K H a xs:=.inl (.inl h)
def Inv.list (I:Inv X sq σ H s) (h:SqL X.K H a xs):∃ its:Jd,Vals xs its/\PlainL s.heap a its.toArray/\xs.length<=sizeLine:=by
 rcases h with h | ⟨o,its,n,hk,hc,hd,hs,hz,r⟩
 .obtain ⟨z,its,n,r,e⟩:=h.ok I.hok
  exact ⟨its,r,⟨_,n,e,U,U,U⟩,z⟩
 .refine ⟨its.toList,r,⟨o,n,I.kIn a o hk,hc,hd,by simpa using hs⟩,?_⟩
  have e:=r.length;simp only [Array.length_toList] at e;omega
def Inv.tuple (I:Inv X sq σ H s) (h:SqT X.K H a xs):∃ its:Jd,Vals xs its/\IsTup s.heap a its.toArray/\xs.length<=sizeLine:=by
 rcases h with h | ⟨o,its,n,hk,hc,hs,hz,r⟩
 .obtain ⟨z,its,r,p⟩:=h.ok I.hok
  exact ⟨its,r,p,z⟩
 .refine ⟨its.toList,r,⟨o,I.kIn a o hk,hc,n,by simpa using hs⟩,?_⟩
  have e:=r.length;simp only [Array.length_toList] at e;omega
def Inv.list_inj (I:Inv X sq σ H s) (h:SqL X.K H a xs) (h':SqL X.K H a ys):xs=ys:=by
 obtain ⟨its,r,⟨o,n,e,_,_,d⟩,_⟩:=I.list h;obtain ⟨its',r',⟨o',n',e',_,_,d'⟩,_⟩:=I.list h';rw [e] at e';cases e';rw [d] at d';injection d' with d1 _
 have:its=its':=by simpa using congrArg Array.toList d1
 subst this;exact r.inj r'
end
abbrev Cx.wish (X:Cx) (E:Ja):Cx:={ X with xe:=E }
abbrev Cx.nox (X:Cx):Cx:=X.wish λ_ _=>False
def Cx.Ok.wish {X:Cx} (ok:X.Ok) (E:Ja):(X.wish E).Ok :=
 {ok with}
def Cx.Ok.unwish {X:Cx} {E:Ja} (ok:(X.wish E).Ok):X.Ok :=
 {ok with}
section
variable {X:Cx} {sq:Jc} {σ:St} {H:Hp} {s:Sh} {E:Ja}
def Inv.wish (I:Inv X sq σ H s) (E:Ja):Inv (X.wish E) sq σ H s:=⟨I.ok.wish E,I.os,I.bare,I.base,I.loc,I.cell,I.free,I.freeC,I.pin,I.hok,I.len⟩
def Inv.unwish (I:Inv (X.wish E) sq σ H s):Inv X sq σ H s:=⟨I.ok.unwish,I.os,I.bare,I.base,I.loc,I.cell,I.free,I.freeC,I.pin,I.hok,I.len⟩
def SP.unwish {D:Ends} {f:Flow} {s':Sh} (h:SP (X.wish E) sq D f s'):SP X sq D f s':=by
 cases f with
 | next=>obtain ⟨σ',H',I,q⟩:=h;exact ⟨σ',H',I.unwish,q⟩
 | brk=>obtain ⟨σ',H',I,q⟩:=h;exact ⟨σ',H',I.unwish,q⟩
 | cont=>obtain ⟨σ',H',I,q⟩:=h;exact ⟨σ',H',I.unwish,q⟩
 | ret u=>obtain ⟨v,σ',H',I,r,q⟩:=h;exact ⟨v,σ',H',I.unwish,r,q⟩
def PSs.nox {st:List Stmt} {t:TS} (h:PSs X.nox st t):PSs X st t:=λsq s σ H D I hw =>
 um (h sq s σ H D (I.wish _) hw) (λ_ _ q=>q.unwish) λ_ _ z=>uL z
end
section
variable {X:Cx} {st:Stmt} {rest:List Stmt} {t u:TS} {e:Expr} {te:TE} {pos:Pos}
def tNext:TS:=λD σ H=>D.nx σ H
def tSeq (t u:TS):TS:=λD σ H=>t { D with nx:=u D } σ H
def zk:PSs X [] tNext:=λ_ _ σ H _ I h=>wpAny_execs_nil ⟨σ,H,I,h⟩
def zb (h1:PS X st t) (h2:PSs X rest u):PSs X (st::rest) (tSeq t u):=by
 intro sq s σ H D I h;refine wpAny_execs_cons (thn (h1 sq s σ H { D with nx:=u D } I h) λf s1 q=>?_)
 cases f with
 | next =>
  obtain ⟨σ',H',I',q⟩:=q;exact h2 sq s1 σ' H' D I' q
 | ret v=>exact q
 | brk=>exact q
 | cont=>exact q
def ze (h1:PS X st t):PSs X [st] t:=by
 intro sq s σ H D I h;refine wpAny_execs_cons (thn (h1 sq s σ H D I h) λf s1 q=>?_)
 cases f with
 | next=>exact wpAny_execs_nil q
 | ret v=>exact q
 | brk=>exact q
 | cont=>exact q
def Inv.quiet {sq:Jc} {σ:St} {H:Hp} {s:Sh} (I:Inv X sq σ H s):interactive X.env=false:=by simp [interactive,I.ok.kind]
def tDrop (te:TE):TS:=λD σ H=>te σ H λ_ H1=>D.nx σ H1
def zC (he:PE X e te) (hs:swapsWith e Y pos.line X.env=pure false:=by rfl):PS X (.Expr e pos) (tDrop te):=by
 intro sq s σ H D I h;exact wpAny_Expr_any (thn (he sq s σ H _ I h) λv s1 ⟨x,H1,I1,r1,q1⟩=>⟨σ,H1,I1,q1⟩) I.quiet hs
def tRet (te:TE):TS:=λD σ H=>te σ H D.rt
def zm (he:PE X e te):PS X (.Return (Z e) pos) (tRet te):=by
 intro sq s σ H D I h;exact wpAny_Return_some (thn (he sq s σ H _ I h) λv s1 ⟨x,H1,I1,r1,q1⟩=>⟨x,σ,H1,I1,r1,q1⟩)
def tIfS (c:TT) (t u:TS):TS:=λD σ H=>c σ H λb H1=>if b=true then t D σ H1 else u D σ H1
def zB {c:Expr} {a b:List Stmt} {tc:TT} (hc:PT X c tc) (ha:PSs X a t) (hb:PSs X b u):PS X (.If c a b pos) (tIfS tc t u):=by
 intro sq s σ H D I h;refine wpAny_If (thn (hc sq s σ H _ I h) λd s1 ⟨H1,I1,q1⟩=>?_)
 cases d with
 | true=>exact ha sq s1 σ H1 D I1 q1
 | false=>exact hb sq s1 σ H1 D I1 q1
def tNever:TS:=λ_ _ _=>False
def zO {sts:List Stmt}:PSs X sts tNever:=λ_ _ _ _ _ _ h=>h.elim
end
abbrev TG:=V->St->Hp->(St->Hp->Prop)->Prop
abbrev TGs:=Jn->St->Hp->(St->Hp->Prop)->Prop
def PG (X:Cx) (target:Expr) (t:TG):Prop :=
 ∀ (sq:Jc) (s:Sh) (σ:St) (H:Hp) (v:V) (u:Vl) (Q:St->Hp->Prop),Inv X sq σ H s->RelV v u->t v σ H Q ->
  wpAny (model X.prog X.w) X.A (assign target X.env u) (λ_ s'=>∃ σ' H',Inv X sq σ' H' s'/\Q σ' H') X.xe s
def PGs (X:Cx) (ts:Jh) (t:TGs):Prop :=
 ∀ (sq:Jc) (s:Sh) (σ:St) (H:Hp) (vs:Jn) (us:Jd) (Q:St->Hp->Prop),Inv X sq σ H s->Vals vs us->t vs σ H Q ->
  wpAny (model X.prog X.w) X.A (assignInOrder ((assignEach ts X.env).map (·.2)) us) (λ_ s'=>∃ σ' H',Inv X sq σ' H' s'/\Q σ' H') X.xe s
section
variable {X:Cx} {pos:Pos}
def zbj (i:Nat):TG:=λv σ H Q=>Q (σ.set i (Z v)) H
def zR {i:Nat} {x:Str} (hN:X.N.Nodup) (hi:X.N[i]?=Z x) (hx:Loc X.env.scope x) (hf:X.fn x=true∨X.env.scope.names.lookup x=Z .local:=by first | exact .inl rfl | exact .inr rfl | assumption):PG X (.Name x pos) (zbj i):=by
 intro sq s σ H v u Q I r h;exact wpAny_assign_Name (zap I hN hi hx r (λs' I'=>⟨_,H,I',h⟩) hf)
def oQz (i:Nat) {x:Str} (hN:X.N.Nodup) (hi:X.N[i]?=Z x:=by rfl) (hx:Loc X.env.scope x:=by exact vG rfl) (hf:X.fn x=true∨X.env.scope.names.lookup x=Z .local:=by first | exact .inl rfl | exact .inr rfl | assumption):PG X (.Name x pos) (zbj i):=zR hN hi hx hf
def gNil:TGs:=λvs σ H Q=>vs=[]/\Q σ H
inductive gCons (t:TG) (u:TGs) (vs:Jn) (σ:St) (H:Hp) (Q:(St->Hp->Prop)):Prop
 | mk (v r:_) (_:vs=v::r) (_:t v σ H λσ' H'=>u r σ' H' Q)
def zai:PGs X [] gNil:=by
 intro sq s σ H vs us Q I r h;obtain ⟨e,h⟩:=h;subst e;cases r;exact assignInOrder_nil ⟨σ,H,I,h⟩
def xc {e:Expr} {es:Jh} {t:TG} {u:TGs} (h1:PG X e t) (h2:PGs X es u)
  (hs:(assignEach (e::es) X.env).map (·.2)=assign e X.env::(assignEach es X.env).map (·.2):=by rfl):PGs X (e::es) (gCons t u):=by
 intro sq s σ H vs us Q I r h;obtain ⟨v,vr,e1,h⟩:=h;subst e1
 cases r with
 | cons r rr =>
  rw [hs];refine assignInOrder_cons (thn (h1 sq s σ H _ _ _ I r h) λ_ s1 ⟨σ1,H1,I1,q1⟩=>?_);exact h2 sq s1 σ1 H1 _ _ Q I1 rr q1
inductive gTup (K:Fg) (n:Nat) (t:TGs) (v:V) (σ:St) (H:Hp) (Q:(St->Hp->Prop)):Prop
 | mk (a xs:_) (_:v=.ref a) (_:SqT K H a xs) (_:xs.length=n) (_:t xs σ H Q)
def zde {es:Jh} {k:Nat} {t:TGs} {n:Nat} (hc:X.calm=true) (h:PGs X es t)
  (hn:(assignEach es X.env).length=n:=by rfl) (hst:(assignEach es X.env).findIdx? (·.1)=Y:=by rfl):PG X (.Tuple es k pos) (gTup X.K n t):=by
 intro sq s σ H v u Q I r hw;obtain ⟨a,xs,e1,hq,hl,hw⟩:=hw;subst e1;cases r;obtain ⟨its,rv,ht,hz⟩:=I.tuple hq;refine assign_Tuple_tuple (I.ok.hd hc) ht (by simp [hn,← hl,rv.length]) hst λh' hx=>?_;have I1:Inv X sq σ H { s with heap:=h' }:=I.kept (t':=s.toks) λb o e=>hx b o (tQ (tw e)) e;exact h sq _ σ H xs _ Q I1 (by simpa using rv) hw
def tAsg (te:TE) (g:TG):TS:=λD σ H=>te σ H λx H1=>g x σ H1 D.nx
def ps_asg {tg e:Expr} {te:TE} {g:TG} (he:PE X e te) (hg:PG X tg g) (hs:swapsWithSole [tg] e pos.line X.env=pure false:=by rfl) (hw:swappedStores [tg] e X.env=pure Y:=by rfl)
  (h1:(assignEach [tg] X.env).map (·.2)=[assign tg X.env]:=by rfl):PS X (.Assign [tg] e pos) (tAsg te g):=by
 intro sq s σ H D I h;refine wpAny_Assign_stores (thn (he sq s σ H _ I h) λv s1 ⟨x,H1,I1,r1,q1⟩=>?_) hs hw;rw [h1];exact thn (hg sq s1 σ H1 x v _ I1 r1 q1) λ_ s2 q=>q
def zi {i:Nat} {x:Str} {e:Expr} {te:TE} {pos':Pos} (hN:X.N.Nodup) (hi:X.N[i]?=Z x) (hx:Loc X.env.scope x) (he:PE X e te) (hs:swapsWith e (Z (.Name x pos')) pos.line X.env=pure false:=by rfl) (hf:X.fn x=true∨X.env.scope.names.lookup x=Z .local:=by first | exact .inl rfl | exact .inr rfl | assumption) :
  PS X (.Assign [.Name x pos'] e pos) (tAsg te (zbj i)):=by
 intro sq s σ H D I h;refine wpAny_Assign_Name (thn (he sq s σ H _ I h) λv s1 ⟨y,H1,I1,r1,q1⟩=>?_) hs;exact zap I1 hN hi hx r1 (λs2 I2=>⟨_,H1,I2,q1⟩) hf
def oRz (i:Nat) {x:Str} {e:Expr} {te:TE} {pos':Pos} (hN:X.N.Nodup) (he:PE X e te) (hi:X.N[i]?=Z x:=by rfl) (hx:Loc X.env.scope x:=by exact vG rfl) (hs:swapsWith e (Z (.Name x pos')) pos.line X.env=pure false:=by rfl) (hf:X.fn x=true∨X.env.scope.names.lookup x=Z .local:=by first | exact .inl rfl | exact .inr rfl | assumption):PS X (.Assign [.Name x pos'] e pos) (tAsg te (zbj i)):=zi hN hi hx he hs hf
inductive tWhile (c:TT) (tb:TS) (D:Ends) (σ:St) (H:Hp):Prop
 | mk (W:Nat->St->Hp->Prop) (_:(∃ m,W m σ H)) (_:∀ m σ H,W m σ H->c σ H λb H1=>if b=true then ∃ N:St->Hp->Prop,(∀ σ' H',N σ' H'->∃ m',m'<m/\W m' σ' H')/\tb { D with nx:=N,ct:=N,bk:=D.nx } σ H1 else D.nx σ H1)
def Yk {c:Expr} {body:List Stmt} {tc:TT} {tb:TS} (hp:PassesOwn (model X.prog X.w) X.A X.env X.xe) (hc:PT X c tc) (hb:PSs X body tb):PS X (.While c body [] pos) (tWhile tc tb):=by
 intro sq s σ H D I h;obtain ⟨W,⟨m0,w0⟩,turn⟩:=h;refine wpAny_While (codeAny_whileLoop (λn s'=>∃ σ' H',Inv X sq σ' H' s'/\W n σ' H') ?_ m0 ⟨σ,H,I,w0⟩);rintro n s1 ⟨σ1,H1,I1,w1⟩;refine vA hp (thn (hc sq s1 σ1 H1 _ I1 (turn n σ1 H1 w1)) λb s2 ⟨H2,I2,q2⟩=>?_)
 cases b with
 | true =>
  obtain ⟨N,hN,q2⟩:=q2;rw [if_pos rfl];refine vA hp (thn (hb sq s2 σ1 H2 _ I2 q2) λf s3 q3=>?_)
  cases f with
  | next =>
   obtain ⟨σ3,H3,I3,n3⟩:=q3;obtain ⟨m',hm,w3⟩:=hN σ3 H3 n3;exact ⟨m',hm,σ3,H3,I3,w3⟩
  | cont =>
   obtain ⟨σ3,H3,I3,n3⟩:=q3;obtain ⟨m',hm,w3⟩:=hN σ3 H3 n3;exact ⟨m',hm,σ3,H3,I3,w3⟩
  | brk=>exact q3
  | ret v=>exact q3
 | false =>
  rw [if_neg x1x];exact wpAny_execs_nil ⟨σ1,H2,I2,q2⟩
end
structure It where
 go:Nat->Hp->Prop
 yld:Nat->Hp->V->Hp->Prop
 stop:Nat->Hp->Prop
def Xj (X:Cx) (sq:Jc) (H:Hp) (b:Ad):Prop :=
 H b=Y/\b≠X.env.locals/\b ∉ X.fs/\(b∈X.ex∨X.s₀.heap.objs.size<=b)/\(∀ x c,X.env.cells.lookup x=Z c->c≠b)/\∀ p∈X.pn++sq,p.1≠b
def Inv.fpOk {X:Cx} {sq:Jc} {σ:St} {H H':Hp} {s:Sh} {b:Ad} (I:Inv X sq σ H s) (hb:s.heap.objs.size<=b) (hn:H' b=Y):Xj X sq H' b:=by
 refine ⟨hn,Nat.ne_of_gt (x1z I.lt hb),I.nofs hb,.inr (tE I.sz hb),λx c e z=>?_,λp hp z=>?_⟩
 .obtain ⟨v,q⟩:=I.cell x c e
  exact absurd (x1z q.lt (by rw [z];exact hb)) (vg _)
 .exact absurd (x1z (tw (I.pin p hp).1) (by rw [z];exact hb)) (vg _)
structure Turn (P:tV) (w:World) (K:Fg) (tg:Expr) (J:It) (fp:Jg) (it:Ad) (tn:Nat->Heap->Prop):Prop where
 mem:it∈fp
 obj:∀ i h,tn i h->∀ b∈fp,∃ o,h.get? b=Z o/\∀ v,o.data≠.cell v
 keep:∀ i h h',tn i h->(∀ b∈fp,∀ o,h.get? b=Z o->h'.get? b=Z o)->tn i h'
 item:∀ (X:Cx),X.prog=P->X.w=w->X.K=K->X.calm=true->∀ (i:Nat) (sq:Jc) (s:Sh) (σ:St) (H:Hp) (E:Ja),Inv X sq σ H s->(∀ b∈fp,Xj X sq H b)->tn i s.heap->J.go i H ->
  wpAny (model P w) X.A (pyNext (.ref it)) (λr s1=>∃ u,r=Z u /\
   wpAny (model P w) X.A (vU tg (.ref it) u) (λ_ s2=>∃ x H',Inv X sq σ H' s2/\RelV x u/\J.yld i H x H'/\tn (i+1) s2.heap/\∀ b∈fp,H' b=Y) E s1) E s
 done:∀ (X:Cx),X.prog=P->X.w=w->X.K=K->X.calm=true->∀ (i:Nat) (sq:Jc) (s:Sh) (σ:St) (H:Hp) (E:Ja),Inv X sq σ H s->(∀ b∈fp,Xj X sq H b)->tn i s.heap->J.stop i H ->
  wpAny (model P w) X.A (pyNext (.ref it)) (λr s1=>r=Y/\Inv X sq σ H s1) E s
 self:∀ (A:Around) (i:Nat) (s:Sh) (Q:Ja) (E:Ja),tn i s.heap->Q (.ref it) s->wpAny (model P w) A (pyIter (.ref it)) Q E s
abbrev TI:=St->Hp->(It->Hp->Prop)->Prop
def PIE (X:Cx) (sq:Jc) (σ:St) (tg:Expr) (R:It->Hp->Prop) (itv:Vl) (s2:Sh):Prop :=
 ∃ (it:Ad) (fp:Jg) (tn:Nat->Heap->Prop) (J:It) (H':Hp),itv=.ref it/\Inv X sq σ H' s2/\Turn X.prog X.w X.K tg J fp it tn/\tn 0 s2.heap/\(∀ b∈fp,Xj X sq H' b)/\R J H'
def PI (X:Cx) (tg iter:Expr) (wi:TI):Prop :=
 ∀ (sq:Jc) (s:Sh) (σ:St) (H:Hp) (R:It->Hp->Prop),Inv X sq σ H s->wi σ H R ->
  wpAny (model X.prog X.w) X.A (eval iter X.env) (λv s1=>wpAny (model X.prog X.w) X.A (pyIter v) (PIE X sq σ tg R) X.xe s1) X.xe s
def go_of {M:Model} {A:Around} {E:Ja} {s:Sh} {tg:Expr} {it:Ad} {u:Vl} {o:Obj} {n:String} {vs:Array Vl} {Q:Unit->Sh->Prop} (ho:s.heap.get? it=Z o) (hc:o.cls=.type n) (hd:o.data=.fields vs)
    (hn:["enumerate","zip","dict_itemiterator","dict_reverseitemiterator","odict_iterator","itertools.zip_longest","itertools.pairwise"].contains n=false) (hQ:Q () s):wpAny M A (vU tg (.ref it) u) Q E s:=by
  unfold vU;cases tg <;> first
    | exact q0y hQ
    | (cases u <;> first
        | exact q0y hQ
        | (refine q0x (wpAny_load ho ?_)
           rw [hc,hd];show wpAny M A (if (["enumerate","zip","dict_itemiterator","dict_reverseitemiterator","odict_iterator","itertools.zip_longest","itertools.pairwise"].contains n && vs[0]? == Z (rawInt _))=true then _ else _) Q E s;rw [if_neg (by intro h;rw [hn,Bool.false_and] at h;cases h)];exact q0y hQ))
def Itl (K:Fg) (a:Ad):It :=
 ⟨λi H=>∃ xs x,SqL K H a xs/\xs[i]?=Z x,λi H x H'=>H'=H/\∀ xs,SqL K H a xs->xs[i]?=Z x,λi H=>∃ xs,SqL K H a xs/\xs.length<=i⟩
def Itr (lo:Int) (n:Nat):It:=⟨λi _=>i<n,λi H x H'=>H'=H/\x=.int (lo+i),λi _=>n<=i⟩
def turn_list {P:tV} {w:World} {K:Fg} {tg:Expr} (a it:Ad):Turn P w K tg (Itl K a) [it] it (λi h=>h.IsListIter it a i) where
 mem:=by simp
 obj:=λi h st b hb=>by
  have e:b=it:=by simpa using hb
  subst e;obtain ⟨o,e,c,d⟩:=st;exact ⟨o,e,λv z=>by rw [d] at z;cases z⟩
 keep:=λi h h' st k=>st.at λo e=>k it (by simp) o e
 item:=by
  intro X hP hw hK hc i sq s σ H E I hf st hg;subst hP hw hK;obtain ⟨xs,x,hq,hx⟩:=hg;obtain ⟨its,rv,p,hz⟩:=I.list hq;obtain ⟨u,hu,ru⟩:=rv.get hx;obtain ⟨f0,f1,f2,f3,f4,f5⟩:=hf it (by simp);refine wpAny_pyNext_list_item st p.isList (x:=u) (by simpa using hu) λh' st' sb=>?_;have I1:Inv X sq σ H { s with heap:=h' }:=I.turned (t':=s.toks) (λb o hb e=>(sb.2 b hb).trans e) f0 f1 f3 f4 f5;obtain ⟨o,e,c,d⟩:=id st';exact ⟨u,U,go_of (s:={ s with heap:=h' }) e c d (by decide) ⟨x,H,I1,ru,⟨U,λys hy=>by rw [I.list_inj hy hq];exact hx⟩,st',λb hb=>(hf b hb).1⟩⟩
 done:=by
  intro X hP hw hK hc i sq s σ H E I hf st hg;subst hP hw hK;obtain ⟨xs,hq,hx⟩:=hg;obtain ⟨its,rv,p,hz⟩:=I.list hq;obtain ⟨f0,f1,f2,f3,f4,f5⟩:=hf it (by simp);have hl:=rv.length;exact wpAny_pyNext_list_end (I.ok.hd hc) st p.isList (by simp;omega) λh' eb=>⟨U,I.turned (t':=s.toks) (λb o hb e=>eb b o hb e) f0 f1 f3 f4 f5⟩
 self:=λ_ _ _ _ _ st h=>wpAny_pyIter_listiter st h
def zfo {P:tV} {w:World} {K:Fg} {tg:Expr} (it:Ad) (lo:Int) (n:Nat):Turn P w K tg (Itr lo n) [it] it (λi h=>IsRangeIter h it (lo+(i:Nat)*1) ((n:Int)-(i:Nat)) 1) where
 mem:=by simp
 obj:=λi h st b hb=>by
  have e:b=it:=by simpa using hb
  subst e
  exact ⟨_,st,λv z=>by
   have z':Data.fields _=Data.cell v:=z;cases z'⟩
 keep:=λi h h' st k=>k it (by simp) _ st
 item:=by
  intro X hP hw hK hc i sq s σ H E I hf st hg;subst hP hw hK;obtain ⟨f0,f1,f2,f3,f4,f5⟩:=hf it (by simp);have W:=Walks.range (prog:=X.prog) (w:=X.w) (I.ok.hd hc) it lo 1 n;refine W.item i s _ _ hg st λv h' tk hv st' kk=>?_;obtain ⟨t,rfl⟩:=hv;have I1:Inv X sq σ H { s with heap:=h',toks:=tk }:=I.turned (λb o hb e=>kk b o (by simpa using hb) e) f0 f1 f3 f4 f5;refine ⟨_,U,go_of (s:={ s with heap:=h',toks:=tk }) (n:="range_iterator") st' rfl rfl (by decide) ⟨.int (lo+i),H,I1,⟨t,?_⟩,⟨U,U⟩,st',λb hb=>(hf b hb).1⟩⟩;rw [Int.mul_one]
 done:=by
  intro X hP hw hK hc i sq s σ H E I hf st hg;subst hP hw hK;obtain ⟨f0,f1,f2,f3,f4,f5⟩:=hf it (by simp);exact wpAny_pyNext_range_end (I.ok.hd hc) st (by have:n<=i:=hg;omega) λh' eb=>⟨U,I.turned (t':=s.toks) (λb o hb e=>eb b o hb e) f0 f1 f3 f4 f5⟩
 self:=λ_ _ _ _ _ st h=>wpAny_pyIter_rangeiter st h
section
variable {X:Cx} {tg:Expr}
inductive iList_S (K:Fg) (R:(It->Hp->Prop)) (x:V) (H1:Hp):Prop
 | mk (a:_) (_:x=.ref a) (_:(∃ xs,SqL K H1 a xs)) (_:R (Itl K a) H1)
def iList (K:Fg) (tl:TE):TI:=λσ H R=>tl σ H λx H1=>iList_S K R x H1
def xo {l:Expr} {tl:TE} (hl:PE X l tl):PI X tg l (iList X.K tl):=by
 intro sq s σ H R I h;refine thn (hl sq s σ H _ I h) λv s1 ⟨x,H1,I1,r1,q1⟩=>?_;obtain ⟨a,e,⟨xs,hq⟩,q⟩:=q1;subst e;cases r1;obtain ⟨its,rv,p,hz⟩:=I1.list hq;refine wpAny_pyIter_list p.isList ?_;refine ⟨s1.heap.objs.size,[s1.heap.objs.size],_,_,H1,U,I1.kept (t':=s1.toks) λb o e=>sV _ e,turn_list a _,⟨_,tR _ rfl,U,U⟩,λb hb=>?_,q⟩;have e:b=s1.heap.objs.size:=by simpa using hb
 subst e;exact I1.fpOk (sK _) (I1.hok.fresh (sK _))
def range_it {sq:Jc} {σ:St} {H:Hp} {s:Sh} {R:It->Hp->Prop} {E:Ja} {lo hi:Int} {t u v:Tok} {tk:Nat} (I:Inv X sq σ H s) (h1:-(2 ^ 62)<=lo) (h2:lo<2 ^ 62) (h3:-(2 ^ 62)<=hi) (h4:hi<2 ^ 62)
  (q:R (Itr lo (hi-lo).toNat) H):wpAny (model X.prog X.w) X.A (pyIter (.ref s.heap.objs.size)) (PIE X sq σ tg R) E { s with heap:=s.heap.push { cls:=.type "range",data:=.fields #[.int lo t,.int hi u,.int 1 v] },toks:=tk }:=by
 refine wpAny_pyIter_range (IsRange.new ..) (small_one h1 h2 h3 h4) ?_;have I1:Inv X sq σ H { s with heap:=s.heap.push { cls:=.type "range",data:=.fields #[.int lo t,.int hi u,.int 1 v] },toks:=tk }:=I.kept λb o e=>sV _ e
 refine ⟨(s.heap.push { cls:=.type "range",data:=.fields #[.int lo t,.int hi u,.int 1 v] }).objs.size,[(s.heap.push { cls:=.type "range",data:=.fields #[.int lo t,.int hi u,.int 1 v] }).objs.size],_,_,H,U,
  I1.kept (t':=tk) λb o e=>sV _ e,zfo _ lo (hi-lo).toNat,?_,λb hb=>?_,q⟩
 .have e1:lo+((0:Nat):Int)*1=lo:=by simp
  have e2:(((hi-lo).toNat:Nat):Int)-((0:Nat):Int)=Builtin.Range.rangeSize lo hi 1:=by rw [rangeSize_one];split <;> omega
  show IsRangeIter _ _ (lo+((0:Nat):Int)*1) ((((hi-lo).toNat:Nat):Int)-((0:Nat):Int)) 1;rw [e1,e2];exact tR _ rfl
 .have e:b=(s.heap.push { cls:=.type "range",data:=.fields #[.int lo t,.int hi u,.int 1 v] }).objs.size:=by simpa using hb
  subst e;exact I1.fpOk (sK _) (I1.hok.fresh (sK _))
inductive iRng1_S (R:(It->Hp->Prop)) (vs:Jn) (H1:Hp):Prop
 | mk (j:Int) (_:vs=[.int j]) (_:-(2 ^ 62)<=j) (_:j<2 ^ 62) (_:R (Itr 0 j.toNat) H1)
def iRng1 (ta:TA):TI:=λσ H R=>ta σ H λvs H1=>iRng1_S R vs H1
def yY {a:Expr} {ta:TA} {p pos:Pos} (hg:Gl X "range") (hm:X.mg "range"=Y) (ha:PA X [a] ta) (hs:tN [a] X.env=[(false,eval a X.env)]:=by rfl):PI X tg (.Call (.Name "range" p) [a] [] pos) (iRng1 ta):=by
 intro sq s σ H R I h;refine Call_ (zbe I hg hm boot_range (PyProof.Rows.callWith_type1 (thn (ha pos sq s σ H _ I h) λus s1 ⟨vs,H1,I1,r1,q1⟩=>?_) hs rfl));obtain ⟨j,e,q1,q2,q⟩:=q1;subst e
 cases r1 with
 | cons r rr =>
  cases rr;obtain ⟨t,rfl⟩:=r;exact call_range_1 (range_it I1 (by omega) (by omega) q1 q2 (by simpa using q))
inductive tFor_S (g:TG) (tb:TS) (D:Ends) (σ:St) (J:It) (H1:Hp):Prop
 | mk (W:Nat->Nat->St->Hp->Prop) (_:(∃ m,W 0 m σ H1)) (_:∀ i m σ H,W i m σ H->(J.stop i H/\D.nx σ H)∨(J.go i H/\∃ N:St->Hp->Prop,(∀ σ' H',N σ' H'->∃ m',m'<m/\W (i+1) m' σ' H')/\∀ x H',J.yld i H x H'->g x σ H' λσ2 H2=>tb { D with nx:=N,ct:=N,bk:=D.nx } σ2 H2))
def tFor (wi:TI) (g:TG) (tb:TS):TS:=λD σ H=>wi σ H λJ H1=>tFor_S g tb D σ J H1
def za3 (fp:Jg) (h:Heap):Jc:=fp.filterMap λb=>(h.get? b).map λo=>(b,o)
def xR {fp:Jg} {h:Heap} {b:Ad} {o:Obj} (hb:b∈fp) (e:h.get? b=Z o):(b,o)∈za3 fp h:=wq.mpr ⟨b,hb,by rw [e];rfl⟩
def of_pinsAt {fp:Jg} {h:Heap} {p:Ad×Obj} (hp:p∈za3 fp h):p.1∈fp/\h.get? p.1=Z p.2:=by
 obtain ⟨b,hb,e⟩:=wq.mp hp
 cases q:h.get? b with
 | none=>rw [q] at e;cases e
 | some o =>
  rw [q] at e;have e':(b,o)=p:=uq e;subst e';exact ⟨hb,q⟩
def Inv.pinned {sq:Jc} {σ:St} {H:Hp} {s:Sh} {fp:Jg} (I:Inv X sq σ H s) (hf:∀ b∈fp,Xj X sq H b) (ho:∀ b∈fp,∃ o,s.heap.get? b=Z o/\∀ v,o.data≠.cell v):Inv X (sq++za3 fp s.heap) σ H s :=
 I.pins_of λp hp=>(t9.mp hp).elim (λz=>I.pin p (x1y _ z)) λz=>by
  obtain ⟨hb,e⟩:=of_pinsAt z;obtain ⟨f0,f1,f2,_⟩:=hf p.1 hb;obtain ⟨o,e',d⟩:=ho p.1 hb;rw [e] at e';cases e';exact ⟨e,f0,f1,f2,d⟩
def Inv.unpinned {sq pl:Jc} {σ:St} {H:Hp} {s:Sh} (I:Inv X (sq++pl) σ H s):Inv X sq σ H s:=I.pins_of λp hp=>I.pin p (x1y _ (uv _ hp))
def Zm {iter:Expr} {body:List Stmt} {wi:TI} {g:TG} {tb:TS} {pos:Pos} (hp:PassesOwn (model X.prog X.w) X.A X.env X.xe) (hc:X.calm=true) (hi:PI X tg iter wi) (hg:PG X tg g) (hb:PSs X body tb)
  (hs:∀ x,uP iter X.env x=pure x:=by intro _;rfl):PS X (.For tg iter body [] pos) (tFor wi g tb):=by
 intro sq s σ H D I h;refine wpAny_For (thn (hi sq s σ H _ I h) λv s1 h1=>thn h1 λitv s2 h2=>?_) hs;obtain ⟨it,fp,tn,J,H2,e,I2,T,st2,f2,W,⟨m0,w0⟩,turn⟩:=h2;subst e;have stat:∀ {H':Hp},(∀ b∈fp,H' b=Y)->∀ b∈fp,Xj X sq H' b:=λhn b hb=>⟨hn b hb,(f2 b hb).2⟩;refine codeAny_forLoop_any (λn s'=>∃ i σ' H',Inv X sq σ' H' s'/\tn i s'.heap/\(∀ b∈fp,H' b=Y)/\W i n σ' H') ?_ m0 ⟨0,σ,H2,I2,st2,λb hb=>(f2 b hb).1,w0⟩;rintro n s3 ⟨i,σ3,H3,I3,st3,fr3,w3⟩;rcases turn i n σ3 H3 w3 with ⟨stop,qn⟩ | ⟨go,N,hN,step⟩
 .refine vA hp (thn (T.done X rfl rfl rfl hc i sq s3 σ3 H3 X.xe I3 (stat fr3) st3 stop) λr s4 ⟨hr,I4⟩=>?_)
  subst hr;exact wpAny_execs_nil ⟨σ3,H3,I4,qn⟩
 .refine vA hp (thn (T.item X rfl rfl rfl hc i sq s3 σ3 H3 X.xe I3 (stat fr3) st3 go) λr s4 ⟨u,hr,h4⟩=>?_)
  subst hr;refine vA hp (thn h4 λ_ s5 ⟨x,H5,I5,r5,y5,st5,fr5⟩=>?_);have I5':=I5.pinned (stat fr5) (T.obj _ _ st5);refine vA hp (thn (hg _ s5 σ3 H5 x u _ I5' r5 (step x H5 y5)) λ_ s6 ⟨σ6,H6,I6,q6⟩=>?_);refine vA hp (thn (hb _ s6 σ6 H6 _ I6 q6) λf s7 q7=>?_)
  have again:∀ {σ7:St} {H7:Hp},Inv X (sq++za3 fp s5.heap) σ7 H7 s7->N σ7 H7->∃ m,m<n/\∃ i σ' H',Inv X sq σ' H' s7/\tn i s7.heap/\(∀ b∈fp,H' b=Y)/\W i m σ' H':=λ{σ7 H7} I7 n7=>by
   obtain ⟨m',hm,w7⟩:=hN σ7 H7 n7;refine ⟨m',hm,i+1,σ7,H7,I7.unpinned,T.keep _ _ _ st5 λb hb o e=>(I7.pin (b,o) (x1y _ (x1y _ (xR hb e)))).1,λb hb=>?_,w7⟩;obtain ⟨o,e,d⟩:=T.obj _ _ st5 b hb;exact (I7.pin (b,o) (x1y _ (x1y _ (xR hb e)))).2.1
  cases f with
  | next=>obtain ⟨σ7,H7,I7,n7⟩:=q7;exact again I7 n7
  | cont=>obtain ⟨σ7,H7,I7,n7⟩:=q7;exact again I7 n7
  | brk=>obtain ⟨σ7,H7,I7,q7⟩:=q7;exact ⟨σ7,H7,I7.unpinned,q7⟩
  | ret v=>obtain ⟨x7,σ7,H7,I7,r7,q7⟩:=q7;exact ⟨x7,σ7,H7,I7.unpinned,r7,q7⟩
end
def Yv {K:Fg} {a:Ad} {xs:Jn} {g:TG} {tb:TS} {D:Ends} {σ:St} {H:Hp} (Pv:Nat->St->Hp->Prop) (h0:Pv 0 σ H) (hl:∀ i σ H,i<=xs.length->Pv i σ H->SqL K H a xs)
  (hs:∀ i x σ H,xs[i]?=Z x->Pv i σ H->g x σ H λσ2 H2=>tb { D with nx:=Pv (i+1),ct:=Pv (i+1),bk:=D.nx } σ2 H2) (hd:∀ σ H,Pv xs.length σ H->D.nx σ H) :
  tFor_S g tb D σ (Itl K a) H:=by
 refine ⟨λi m σ H=>m=xs.length-i/\i<=xs.length/\Pv i σ H,⟨xs.length,by simp,ub _,h0⟩,?_⟩;rintro i m σ H ⟨rfl,hi,p⟩;have q:=hl i σ H hi p;by_cases hlt:i<xs.length
 .refine .inr ⟨⟨xs,xs[i],q,by simp [hlt]⟩,Pv (i+1),λσ' H' p'=>⟨xs.length-(i+1),by omega,U,hlt,p'⟩,λx H' y=>?_⟩
  obtain ⟨e,y⟩:=y;subst e;exact hs i x σ _ (y xs q) p
 .have e:i=xs.length:=by omega
  subst e;exact .inl ⟨⟨xs,q,sK _⟩,hd σ H p⟩
def Zy {lo:Int} {n:Nat} {g:TG} {tb:TS} {D:Ends} {σ:St} {H:Hp} (Pv:Nat->St->Hp->Prop) (h0:Pv 0 σ H)
  (hs:∀ i σ H,i<n->Pv i σ H->g (.int (lo+i)) σ H λσ2 H2=>tb { D with nx:=Pv (i+1),ct:=Pv (i+1),bk:=D.nx } σ2 H2) (hd:∀ σ H,Pv n σ H->D.nx σ H) :
  tFor_S g tb D σ (Itr lo n) H:=by
 refine ⟨λi m σ H=>m=n-i/\i<=n/\Pv i σ H,⟨n,by simp,ub _,h0⟩,?_⟩;rintro i m σ H ⟨rfl,hi,p⟩;by_cases hlt:i<n
 .refine .inr ⟨hlt,Pv (i+1),λσ' H' p'=>⟨n-(i+1),by omega,U,hlt,p'⟩,λx H' y=>?_⟩
  obtain ⟨e,y⟩:=y;subst e y;exact hs i σ _ hlt p
 .have e:i=n:=by omega
  subst e;exact .inl ⟨sK _,hd σ H p⟩
abbrev R2:=V->V->Hp->VK->Prop
def OpR (X:Cx) (f:Vl->Vl->Sem Vl) (r:R2):Prop :=
 ∀ (sq:Jc) (s:Sh) (σ:St) (H:Hp) (x y:V) (v u:Vl) (Q:VK),Inv X sq σ H s->RelV x v->RelV y u->r x y H Q ->
  wpAny (model X.prog X.w) X.A (f v u) (EP X sq σ Q) X.xe s
def UnR (X:Cx) (f:Vl->Sem Vl) (r:V->Hp->VK->Prop):Prop :=
 ∀ (sq:Jc) (s:Sh) (σ:St) (H:Hp) (x:V) (v:Vl) (Q:VK),Inv X sq σ H s->RelV x v->r x H Q ->
  wpAny (model X.prog X.w) X.A (f v) (EP X sq σ Q) X.xe s
def ZY (X:Cx) (f:Vl) (r:Jn->Hp->VK->Prop):Prop :=
 ∀ (sq:Jc) (s:Sh) (σ:St) (H:Hp) (xs:Jn) (us:Jd) (Q:VK),Inv X sq σ H s->Vals xs us->r xs H Q ->
  wpAny (model X.prog X.w) X.A (call f us) (EP X sq σ Q) X.xe s
def tOp (r:R2) (ta tb:TE):TE:=λσ H Q=>ta σ H λx H1=>tb σ H1 λy H2=>r x y H2 Q
def tUn (r:V->Hp->VK->Prop) (ta:TE):TE:=λσ H Q=>ta σ H λx H1=>r x H1 Q
inductive rI (C:Int->Int->Prop) (g:Int->Int->V) (x y:V) (H:Hp) (Q:VK):Prop
 | mk (i j:_) (_:x=.int i) (_:y=.int j) (_:C i j) (_:Q (g i j) H)
inductive rI0 (g:Int->Int->V) (x y:V) (H:Hp) (Q:VK):Prop
 | mk (i j:_) (_:x=.int i) (_:y=.int j) (_:Q (g i j) H)
inductive rU (g:Int->V) (x:V) (H:Hp) (Q:VK):Prop
 | mk (i:_) (_:x=.int i) (_:Q (g i) H)
section
variable {X:Cx} {a b c:Expr} {ta tb tc:TE} {pos:Pos}
def binT (ha:PE X a ta) (hb:PE X b tb) {sq:Jc} {s:Sh} {σ:St} {H:Hp} {R:V->V->Hp->Prop} (I:Inv X sq σ H s)
  (h:ta σ H λx H1=>tb σ H1 λy H2=>R x y H2) {Q:Ja} {f:Vl->Vl->Sem Vl}
  (hf:∀ v u s2 x y H2,Inv X sq σ H2 s2->RelV x v->RelV y u->R x y H2->wpAny (model X.prog X.w) X.A (f v u) Q X.xe s2) :
  wpAny (model X.prog X.w) X.A (eval a X.env) (λv s₁=>wpAny (model X.prog X.w) X.A (eval b X.env) (λu s₂=>wpAny (model X.prog X.w) X.A (f v u) Q X.xe s₂) X.xe s₁) X.xe s:=by
 refine thn (ha sq s σ H _ I h) λv s1 ⟨x,H1,I1,r1,q1⟩=>?_;refine thn (hb sq s1 σ H1 _ I1 q1) λu s2 ⟨y,H2,I2,r2,q2⟩=>?_;exact hf v u s2 x y H2 I2 r1 r2 q2
def zq {op:Operator} {r:R2} (ho:OpR X (wQ op) r) (ha:PE X a ta) (hb:PE X b tb):PE X (.BinOp a op b pos) (tOp r ta tb):=by
 intro sq s σ H Q I h;exact wpAny_BinOp (binT ha hb I h λv u s2 x y H2 I2 rx ry q=>ho sq s2 σ H2 x y v u Q I2 rx ry q)
def Ym {op:UnaryOp} {r:V->Hp->VK->Prop} (ho:UnR X (unaryOp op) r) (ha:PE X a ta):PE X (.UnaryOp op a pos) (tUn r ta):=by
 intro sq s σ H Q I h;exact UnaryOp_ (thn (ha sq s σ H _ I h) λv s1 ⟨x,H1,I1,r1,q1⟩=>ho sq s1 σ H1 x v Q I1 r1 q1)
def opI {f:Vl->Vl->Sem Vl} {C:Int->Int->Prop} {g:Int->Int->Int}
  (rule:∀ (i j:Int) (t u:Tok) (s:Sh) (Q:Ja) (E:Ja),C i j->Q (.int (g i j) s.toks) { s with toks:=s.toks+1 }->wpAny (model X.prog X.w) X.A (f (.int i t) (.int j u)) Q E s) :
  OpR X f (rI C λi j=>.int (g i j)):=by
 intro sq s σ H x y v u Q I rx ry h;obtain ⟨i,j,rfl,rfl,hc,q⟩:=h;obtain ⟨t,rfl⟩:=rx;obtain ⟨t',rfl⟩:=ry;exact rule i j t t' s _ _ hc ⟨.int (g i j),H,I.tok _,⟨_,U⟩,q⟩
def opI0 {f:Vl->Vl->Sem Vl} {g:Int->Int->Int}
  (rule:∀ (i j:Int) (t u:Tok) (s:Sh) (Q:Ja) (E:Ja),Q (.int (g i j) s.toks) { s with toks:=s.toks+1 }->wpAny (model X.prog X.w) X.A (f (.int i t) (.int j u)) Q E s) :
  OpR X f (rI0 λi j=>.int (g i j)):=by
 intro sq s σ H x y v u Q I rx ry h;obtain ⟨i,j,rfl,rfl,q⟩:=h;obtain ⟨t,rfl⟩:=rx;obtain ⟨t',rfl⟩:=ry;exact rule i j t t' s _ _ ⟨.int (g i j),H,I.tok _,⟨_,U⟩,q⟩
def opB0 {f:Vl->Vl->Sem Vl} {g:Int->Int->Bool}
  (rule:∀ (i j:Int) (t u:Tok) (s:Sh) (Q:Ja) (E:Ja),Q (.bool (g i j)) s->wpAny (model X.prog X.w) X.A (f (.int i t) (.int j u)) Q E s) :
  OpR X f (rI0 λi j=>.bl (g i j)):=by
 intro sq s σ H x y v u Q I rx ry h;obtain ⟨i,j,rfl,rfl,q⟩:=h;obtain ⟨t,rfl⟩:=rx;obtain ⟨t',rfl⟩:=ry;exact rule i j t t' s _ _ ⟨.bl (g i j),H,I,U,q⟩
def CDiv (i j:Int):Prop:=0<j/\j<1073741824
def CMul (i j:Int):Prop:=(-(2 ^ 64)<i/\i<2 ^ 64)∨(-(2 ^ 64)<j/\j<2 ^ 64)
def CMul.ok {i j:Int} (h:CMul i j):IntMulOk i j:=by
 rcases h with ⟨h1,h2⟩ | ⟨h1,h2⟩
 .exact .of_left (intBits_le_64 h1 h2)
 .exact .of_right (intBits_le_64 h1 h2)
def yh:OpR X (wQ .Add) (rI0 λi j=>.int (i+j)):=opI0 λ_ _ _ _ _ _ _ q=>add_int q
def Xc:OpR X (wQ .Sub) (rI0 λi j=>.int (i-j)):=opI0 λ_ _ _ _ _ _ _ q=>sub_int q
def Xd:OpR X (wQ .Mult) (rI CMul λi j=>.int (i*j)):=opI λ_ _ _ _ _ _ _ hc q=>mul_int q hc.ok
def zT:OpR X (wQ .FloorDiv) (rI CDiv λi j=>.int (i / j)):=opI λi j _ _ _ _ _ hc q=>by
 have h1:(0:Int)<j:=hc.1;have h2:j<1073741824:=hc.2;exact floordiv_int (by omega) (by rw [Int.fdiv_eq_ediv_of_nonneg i (by omega)];exact q) (.inl (PyProof.noPylong_small (by omega)))
def zI:OpR X (wQ .Mod) (rI (λ_ j=>0<j) λi j=>.int (i % j)):=opI λi j _ _ _ _ _ hc q=>by
 have h1:(0:Int)<j:=hc;exact mod_int' (by omega) (by rw [Int.fmod_eq_emod_of_nonneg i (by omega)];exact q)
def unI {f:Vl->Sem Vl} {g:Int->Int}
  (rule:∀ (i:Int) (t:Tok) (s:Sh) (Q:Ja) (E:Ja),Q (.int (g i) s.toks) { s with toks:=s.toks+1 }->wpAny (model X.prog X.w) X.A (f (.int i t)) Q E s) :
  UnR X f (rU λi=>.int (g i)):=by
 intro sq s σ H x v Q I rx h;obtain ⟨i,rfl,q⟩:=h;obtain ⟨t,rfl⟩:=rx;exact rule i t s _ _ ⟨.int (g i),H,I.tok _,⟨_,U⟩,q⟩
def ZA:UnR X (unaryOp .USub) (rU λi=>.int (-i)):=unI λ_ _ _ _ _ q=>neg_int q
end
def scal:V->V->Bool
 | .non,.non=>true | .non,.int _=>true | .int _,.non=>true | .non,.bl _=>true | .bl _,.non=>true | .non,.str _=>true | .str _,.non=>true
 | .int _,.int _=>true | .bl _,.bl _=>true | .str _,.str _=>true | .byt _,.byt _=>true
 | .int _,.str _=>true | .str _,.int _=>true | .bl _,.str _=>true | .str _,.bl _=>true
 | _,_=>false
def rEq:R2:=λx y H Q=>scal x y=true/\Q (.bl (decide (x=y))) H
def rNe:R2:=λx y H Q=>scal x y=true/\Q (.bl (!decide (x=y))) H
def dec_int {i j:Int}:decide (V.int i=V.int j)=(i == j):=by
 rw [vL];simp
def dec_bl {i j:Bool}:decide (V.bl i=V.bl j)=(i == j):=by
 rw [vL];simp
def zd5 {i j:Str}:decide (V.str i=V.str j)=(i == j):=by
 rw [vL];simp
def dec_byt {i j:Array UInt8}:decide (V.byt i=V.byt j)=(i.toList == j.toList):=by
 rw [vL];cases i;cases j;simp
section
variable {X:Cx} {a b c:Expr} {ta tb tc:TE} {pos:Pos}
def zV {sq:Jc} {σ:St} {H:Hp} {s:Sh} {Q:VK} {k k':Bool} (I:Inv X sq σ H s) (q:Q (.bl k) H) (e:k=k'):EP X sq σ Q (.bool k') s:=by
 subst e;exact ⟨.bl k,H,I,U,q⟩
def zP:OpR X (uA .Eq) rEq:=by
 intro sq s σ H x y v u Q I rx ry h;obtain ⟨hs,q⟩:=h
 cases x with
 | non =>
  cases rx
  cases y with
  | non=>cases ry;exact PySem.EqNone.eq_none_none (zV I q (by simp))
  | bl j=>cases ry;exact PySem.EqNone.eq_none_bool (zV I q (by simp))
  | int j=>obtain ⟨t',rfl⟩:=ry;exact PySem.EqNone.eq_none_int (zV I q (by simp))
  | str j=>obtain ⟨t',rfl⟩:=ry;exact PySem.EqNone.eq_none_str (zV I q (by simp))
  | _=>exact absurd (show false=true from hs) x1x
 | bl i =>
  cases rx
  cases y with
  | non=>cases ry;exact PySem.EqNone.eq_bool_none (zV I q (by simp))
  | bl j=>cases ry;exact eq_bool (zV I q dec_bl)
  | str j=>obtain ⟨t',rfl⟩:=ry;exact PySem.EqMixed.eq_bool_str (zV I q (by simp))
  | _=>exact absurd (show false=true from hs) x1x
 | int i =>
  obtain ⟨t,rfl⟩:=rx
  cases y with
  | non=>cases ry;exact PySem.EqNone.eq_int_none (zV I q (by simp))
  | int j=>obtain ⟨t',rfl⟩:=ry;exact eq_int (zV I q dec_int)
  | str j=>obtain ⟨t',rfl⟩:=ry;exact PySem.EqMixed.eq_int_str (zV I q (by simp))
  | _=>exact absurd (show false=true from hs) x1x
 | str i =>
  obtain ⟨t,rfl⟩:=rx
  cases y with
  | non=>cases ry;exact PySem.EqNone.eq_str_none (zV I q (by simp))
  | bl j=>cases ry;exact PySem.EqMixed.eq_str_bool (zV I q (by simp))
  | int j=>obtain ⟨t',rfl⟩:=ry;exact PySem.EqMixed.eq_str_int (zV I q (by simp))
  | str j=>obtain ⟨t',rfl⟩:=ry;exact eq_str (zV I q zd5)
  | _=>exact absurd (show false=true from hs) x1x
 | byt i =>
  obtain ⟨t,rfl⟩:=rx
  cases y with
  | byt j=>obtain ⟨t',rfl⟩:=ry;exact PySem.W.eq_bytes (zV I q dec_byt)
  | _=>exact absurd (show false=true from hs) x1x
 | _=>cases y <;> exact absurd (show false=true from hs) x1x
def Yn:OpR X (uA .NotEq) rNe:=by
 intro sq s σ H x y v u Q I rx ry h;obtain ⟨hs,q⟩:=h
 cases x with
 | non =>
  cases rx
  cases y with
  | non=>cases ry;exact PySem.EqNone.ne_none_none (zV I q (by simp))
  | bl j=>cases ry;exact PySem.EqNone.ne_none_bool (zV I q (by simp))
  | int j=>obtain ⟨t',rfl⟩:=ry;exact PySem.EqNone.ne_none_int (zV I q (by simp))
  | str j=>obtain ⟨t',rfl⟩:=ry;exact PySem.EqNone.ne_none_str (zV I q (by simp))
  | _=>exact absurd (show false=true from hs) x1x
 | bl i =>
  cases rx
  cases y with
  | non=>cases ry;exact PySem.EqNone.ne_bool_none (zV I q (by simp))
  | bl j=>cases ry;exact ne_bool (zV I q (congrArg not dec_bl))
  | str j=>obtain ⟨t',rfl⟩:=ry;exact PySem.EqMixed.ne_bool_str (zV I q (by simp))
  | _=>exact absurd (show false=true from hs) x1x
 | int i =>
  obtain ⟨t,rfl⟩:=rx
  cases y with
  | non=>cases ry;exact PySem.EqNone.ne_int_none (zV I q (by simp))
  | int j=>obtain ⟨t',rfl⟩:=ry;exact ne_int (zV I q (congrArg not dec_int))
  | str j=>obtain ⟨t',rfl⟩:=ry;exact PySem.EqMixed.ne_int_str (zV I q (by simp))
  | _=>exact absurd (show false=true from hs) x1x
 | str i =>
  obtain ⟨t,rfl⟩:=rx
  cases y with
  | non=>cases ry;exact PySem.EqNone.ne_str_none (zV I q (by simp))
  | bl j=>cases ry;exact PySem.EqMixed.ne_str_bool (zV I q (by simp))
  | int j=>obtain ⟨t',rfl⟩:=ry;exact PySem.EqMixed.ne_str_int (zV I q (by simp))
  | str j=>obtain ⟨t',rfl⟩:=ry;exact ne_str (zV I q (congrArg not zd5))
  | _=>exact absurd (show false=true from hs) x1x
 | byt i =>
  obtain ⟨t,rfl⟩:=rx
  cases y with
  | byt j=>obtain ⟨t',rfl⟩:=ry;exact PySem.W.ne_bytes (zV I q (congrArg not dec_byt))
  | _=>exact absurd (show false=true from hs) x1x
 | _=>cases y <;> exact absurd (show false=true from hs) x1x
def za5:OpR X (uA .Lt) (rI0 λi j=>.bl (decide (i<j))):=opB0 λ_ _ _ _ _ _ _ q=>lt_int q
def zb9:OpR X (uA .LtE) (rI0 λi j=>.bl (decide (i<=j))):=opB0 λ_ _ _ _ _ _ _ q=>le_int q
def ZV:OpR X (uA .Gt) (rI0 λi j=>.bl (decide (j<i))):=opB0 λ_ _ _ _ _ _ _ q=>gt_int q
def op_in_str:OpR X (uA .In) (λx y H Q=>∃ i j,x=.str i/\y=.str j/\Q (.bl (!(uw j i 0 j.length 1).isEmpty)) H):=by
 intro sq s σ H x y v u Q I rx ry h;obtain ⟨i,j,rfl,rfl,q⟩:=h;obtain ⟨t,rfl⟩:=rx;obtain ⟨t',rfl⟩:=ry;exact in_str (zV I q rfl)
def Xe:OpR X (uA .Is) (λx y H Q=>y=.non/\Q (.bl (decide (x=.non))) H):=by
 intro sq s σ H x y v u Q I rx ry h;obtain ⟨rfl,q⟩:=h;cases ry;refine is_none_gen (zV I q ?_);cases x <;> first
  | (cases rx;rfl)
  | (obtain ⟨t,rfl⟩:=rx;rfl)
def zaj:OpR X (uA .IsNot) (λx y H Q=>y=.non/\Q (.bl (!decide (x=.non))) H):=by
 intro sq s σ H x y v u Q I rx ry h;obtain ⟨rfl,q⟩:=h;cases ry;refine isnot_none_gen (zV I q ?_);cases x <;> first
  | (cases rx;rfl)
  | (obtain ⟨t,rfl⟩:=rx;rfl)
def zw (b:Expr) {op:CmpOp} (h:op≠.In:=by decide) (h2:op≠.NotIn:=by decide):behindInMarks op b=false:=by
 have e1:(op == CmpOp.In)=false:=by cases op <;> first | rfl | exact absurd rfl h
 have e2:(op == CmpOp.NotIn)=false:=by cases op <;> first | rfl | exact absurd rfl h2
 cases b <;> simp [behindInMarks,e1,e2]
def ym {op:CmpOp} {r:R2} (ho:OpR X (uA op) r) (ha:PE X a ta) (hb:PE X b tb) (hm:behindInMarks op b=false):PE X (.Compare a [op] [b] pos) (tOp r ta tb):=by
 intro sq s σ H Q I h;exact wpAny_Compare1 (binT ha hb I h λv u s2 x y H2 I2 rx ry q=>ho sq s2 σ H2 x y v u Q I2 rx ry q) hm
inductive tTest_S (Q:(Bool->Hp->Prop)) (x:V) (H':Hp):Prop
 | mk (k:_) (_:x=.bl k) (_:Q k H')
def tTest (t:TE):TT:=λσ H Q=>t σ H λx H'=>tTest_S Q x H'
def zp {op:CmpOp} {r:R2} (ho:OpR X (uA op) r) (ha:PE X a ta) (hb:PE X b tb) (hm:behindInMarks op b=false):PT X (.Compare a [op] [b] pos) (tTest (tOp r ta tb)):=by
 intro sq s σ H Q I h
 refine wpAny_isTrue_Compare1 (thn (ha sq s σ H _ I h) λv s1 ⟨x,H1,I1,r1,q1⟩=>thn (hb sq s1 σ H1 _ I1 q1) λu s2 ⟨y,H2,I2,r2,q2⟩ =>
  thn (ho sq s2 σ H2 x y v u _ I2 r1 r2 q2) λc s3 ⟨z,H3,I3,r3,k,e,q3⟩=>?_) hm
 subst e;cases r3;exact uI ⟨H3,I3,q3⟩
def tChain (r r':R2) (ta tb tc:TE):TE:=λσ H Q=>ta σ H λx H1=>tb σ H1 λy H2=>r x y H2 λz H3=>∃ k,z=.bl k /\
 (if k=true then tc σ H3 λw' H4=>r' y w' H4 Q else Q (.bl false) H3)
def pe_chain {op op':CmpOp} {r r':R2} (ho:OpR X (uA op) r) (ho':OpR X (uA op') r') (ha:PE X a ta) (hb:PE X b tb) (hc:PE X c tc)
  (hm:lastMarks [op,op'] [b,c]=false:=by with_unfolding_all rfl):PE X (.Compare a [op,op'] [b,c] pos) (tChain r r' ta tb tc):=by
 intro sq s σ H Q I h
 refine Compare_chain (thn (ha sq s σ H _ I h) λv s1 ⟨x,H1,I1,r1,q1⟩=>chain_link (thn (hb sq s1 σ H1 _ I1 q1) λu s2 ⟨y,H2,I2,r2,q2⟩ =>
  thn (ho sq s2 σ H2 x y v u _ I2 r1 r2 q2) λd s3 ⟨z,H3,I3,r3,k,e,q3⟩=>?_)) hm
 subst e;cases r3;refine uI ?_
 cases k with
 | false=>exact ite_ff ⟨.bl false,H3,I3,U,q3⟩
 | true=>exact ite_tt (chain_last (thn (hc sq s3 σ H3 _ I3 q3) λw' s4 ⟨z',H4,I4,r4,q4⟩=>ho' sq s4 σ H4 y z' u w' Q I4 r2 r4 q4))
def zel {op op':CmpOp} {r r':R2} (ho:OpR X (uA op) r) (ho':OpR X (uA op') r') (ha:PE X a ta) (hb:PE X b tb) (hc:PE X c tc)
  (hm:lastMarks [op,op'] [b,c]=false:=by with_unfolding_all rfl):PT X (.Compare a [op,op'] [b,c] pos) (tTest (tChain r r' ta tb tc)):=by
 intro sq s σ H Q I h
 refine isTrue_chain (thn (ha sq s σ H _ I h) λv s1 ⟨x,H1,I1,r1,q1⟩=>test_link (thn (hb sq s1 σ H1 _ I1 q1) λu s2 ⟨y,H2,I2,r2,q2⟩ =>
  thn (ho sq s2 σ H2 x y v u _ I2 r1 r2 q2) λd s3 ⟨z,H3,I3,r3,k,e,q3⟩=>?_)) hm
 subst e;cases r3;refine uI ?_
 cases k with
 | false =>
  obtain ⟨k',e',q'⟩:=q3;cases e';exact ite_ff ⟨H3,I3,q'⟩
 | true =>
  refine ite_tt (test_last (thn (hc sq s3 σ H3 _ I3 q3) λw' s4 ⟨z',H4,I4,r4,q4⟩=>thn (ho' sq s4 σ H4 y z' u w' _ I4 r2 r4 q4) λd' s5 ⟨z2,H5,I5,r5,k2,e2,q5⟩=>?_));subst e2;cases r5;exact uI ⟨H5,I5,q5⟩
def zbd:(sizeLine:Nat)<2 ^ 63:=by rw [sizeLine_eq];decide
def yg:OpR X (wQ .Add) (λx y H Q=>∃ i j,x=.str i/\y=.str j/\i.length+j.length<=sL/\Q (.str (i++j)) H):=by
 intro sq s σ H x y v u Q I rx ry h;obtain ⟨i,j,rfl,rfl,hz,q⟩:=h;obtain ⟨t,rfl⟩:=rx;obtain ⟨t',rfl⟩:=ry;exact add_str (λt' tk=>⟨.str (i++j),H,I.tok _,⟨_,U⟩,q⟩) hz
def XV {x:V} {us:Jd} (r:Vals [x] us):∃ u,us=[u]/\RelV x u:=by
 cases r with
 | cons r1 r2=>cases r2;exact ⟨_,U,r1⟩
def vals2 {x y:V} {us:Jd} (r:Vals [x,y] us):∃ u w',us=[u,w']/\RelV x u/\RelV y w':=by
 cases r with
 | cons r1 r2 =>
  cases r2 with
  | cons r3 r4=>cases r4;exact ⟨_,_,U,r1,r3⟩
def zcs (hc:X.calm=true):ZY X (.builtin "max") (λxs H Q=>∃ i j,xs=[.int i,.int j]/\Q (.int (if j > i then j else i)) H):=by
 intro sq s σ H xs us Q I r h;obtain ⟨i,j,rfl,q⟩:=h;obtain ⟨u,w',rfl,⟨t,rfl⟩,⟨t',rfl⟩⟩:=vals2 r;refine max_two_ints (I.ok.hd hc) λh' tk k=>⟨_,H,I.kept k,?_,q⟩;by_cases hj:j > i
 .rw [if_pos hj,if_pos hj];exact ⟨_,U⟩
 .rw [if_neg hj,if_neg hj];exact ⟨_,U⟩
def call_int1:ZY X (.type "int") (λxs H Q=>(∃ i,xs=[.int i]/\Q (.int i) H)∨∃ k,xs=[.bl k]/\Q (.int (if k then 1 else 0)) H):=by
 intro sq s σ H xs us Q I r h;rcases h with ⟨i,rfl,q⟩ | ⟨k,rfl,q⟩
 .obtain ⟨u,rfl,t,rfl⟩:=XV r
  exact call_int_int ⟨.int i,H,I,⟨_,U⟩,q⟩
 .obtain ⟨u,rfl,r1⟩:=XV r
  cases r1;exact call_int_bool ⟨.int (if k then 1 else 0),H,I.tok _,⟨_,U⟩,q⟩
end
structure ObjM (h:Heap) (x dx C:Ad) (mA:J0):Prop where
 obj:h.get? x=Z (ua C dx)
 ns:h.Ns1 dx mA
 ne:dx≠x
def lookIn_ns {h:Heap} {dx:Ad} {mA:J0} (n:h.Ns1 dx mA):∃ od,h.get? dx=Z od/\∀ name,PySem.W.lookIn name od=Z (mA name):=by
 obtain ⟨o,es,ep,ho,hd,hk,_,hm⟩:=n;refine ⟨o,ho,λname=>?_⟩;have e:=hm name;unfold nsFind findBy at e;rw [← Array.find?_toList] at e;unfold PySem.W.lookIn;rw [hd];dsimp only
 split
 .rename_i y q
  rw [q] at e;exact congrArg Z e
 .rename_i q
  rw [q] at e
  have a:es.toList.any (·.refKey)=false:=by
   rw [wI];intro y hy;obtain ⟨z,t,hkey⟩:=hk y (Array.mem_toList_iff.mp hy);simp [DictEntry.refKey,hkey]
  have a':¬ es.toList.any (·.refKey)=true:=by rw [a];exact x1x
  rw [if_neg a'];exact congrArg Z e
def ObjM.look {h:Heap} {x dx C:Ad} {mA:J0} (I:ObjM h x dx C mA):∃ od,PySem.W.InstAt h x (ua C dx) C (Z od)/\∀ name,PySem.W.lookIn name od=Z (mA name) :=
 let ⟨od,ho,hl⟩:=lookIn_ns I.ns
 ⟨od,⟨I.obj,U,U,ho⟩,hl⟩
section
variable {prog:tV} {w:World} {A:Around} {E:Ja} {s:Sh} {K:Fg} {x dx C f:Ad} {mA:J0} {name:Str} {v:Vl}
def get_map {expr:Bool} {Q:Ja} (X:K.In s.heap) (I:ObjM s.heap x dx C mA) (hg:vY K C name=true) (hh:vP K C=true)
  (ha:t6 K (.ref C) name=Z Y) (hv:mA name=Z v) (hv':PySem.W.handedIn v=true) (h:Q v { s with toks:=s.toks+1 }) :
  wpAny (model prog w) A (getAttr (.ref x) name expr) Q E s:=by
 obtain ⟨od,J,hl⟩:=I.look;exact PySem.W.get_value X J (PySem.W.plainGet_of hg).1 (PySem.W.findObj_own hh ha rfl (by rw [hl,hv])) hv' h
def get_meth {pl:Sem Bool} {Q:Vl×Jd->Sh->Prop} (X:K.In s.heap) (I:ObjM s.heap x dx C mA) (hg:vY K C name=true)
  (hf:t6 K (.ref C) name=Z (Z (.ref f))) (ht:vk K (.ref f)=true) (hv:mA name=Y) (h:Q (.ref f,[.ref x]) s) :
  wpAny (model prog w) A (getMethod (.ref x) name pl) Q E s:=by
 obtain ⟨od,J,hl⟩:=I.look;exact PySem.W.method_fn X J (PySem.W.plainGet_of hg).1 (PySem.W.plainGet_of hg).2 hf (beq_iff_eq.mp ht) (by show (PySem.W.lookIn name od).map (·.isSome)=Z false;rw [hl,hv];rfl) h
def set_map {ns:Jf} {Q:Unit->Sh->Prop} (X:K.In s.heap) (I:ObjM s.heap x dx C mA)
  (hs:t6 K (.ref C) "__setattr__"=Z (Z (.builtin "object.__setattr__"))) (hp:PySem.W.plainOver K C=true) (ht:PySem.W.takerIn K C name=Z Y) (hh:vP K C=true)
  (hw:PySem.Within mA ns) (hsz:ns.length<=sL)
  (h:∀ h',ObjM h' x dx C (λy=>if y=name then Z v else mA y)->wj dx s.heap h'->Q () { s with heap:=h',toks:=s.toks+2 }) :
  wpAny (model prog w) A (setAttr (.ref x) name v) Q E s:=by
 obtain ⟨od,J,hl⟩:=I.look;refine PySem.W.set_plain X J hs (PySem.W.osa_open (s:={ s with toks:=s.toks+1 }) (r:=Y) X J hp ht λb=>?_);obtain ⟨cd,hc,hd'⟩:=PySem.W.any_some hh;have hx:s.heap.get? x=Z ⟨.ref C,Z dx,.plain,#[]⟩:=I.obj;refine q0x (q0y (q0x (q0x (wpAny_loadPart hx (q0x (PySem.W.Looks.here (s:={ s with toks:=s.toks+1 }) (PySem.W.looks_clsIn X hc) ?_))))));rw [hd'];refine q0y (a:=Z dx) (q0x (q0y (q0x ?_)));refine wpAny_nsSet1 (s:={ s with toks:=s.toks+1 }) I.ns λh' hn2 hs2=>?_;obtain ⟨oD,esD,epD,hoD,hdD,hcD⟩:=hn2.count (PySem.Within.cons name v hw);refine q0x (wpAny_lookBehind hoD (by rw [hdD];exact pastItsLine_dict (tE hcD (by rw [x2x];omega))) ?_);exact q0y (h _ ⟨(hs2.2 _ (vQ I.ne)).trans I.obj,hn2,I.ne⟩ hs2)
def make_map {R:Result->Sh->Prop} {vs:Jd} {kw:List (Str×Vl)} (X:K.In s.heap) (hm:tL K C=true)
  (hi:t6 K (.ref C) "__init__"=Z (Z (.ref f))) (hf:PySem.W.typeIn K (.ref f)=Z (.type "function"))
  (h:wB (model prog w) (A.under (.builtin "type.__call__" ⟨.ref C::vs,kw⟩)) (.call (.ref f) ⟨.ref (s.heap.objs.size+1)::vs,kw⟩) (PySem.W.InitBack (s.heap.objs.size+1) R)
   { s with heap:=(s.heap.push tX).push (ua C s.heap.objs.size) }) :
  wB (model prog w) A (.call (.ref C) ⟨vs,kw⟩) R s:=by
 obtain ⟨hh,g,d,t,os⟩:=s;exact PySem.W.make_core (PySem.W.makes_of X hm) (PySem.W.looks_findIn X hi) (λself=>PySem.W.bind_fn X self hf) (.inl rfl) h
def make_map0 {R:Result->Sh->Prop} (X:K.In s.heap) (hm:tL K C=true)
  (hi:t6 K (.ref C) "__init__"=Z (Z (.builtin "object.__init__")))
  (hb:∀ self,PySem.W.Looks (model prog w) s.heap (bindSpecial (.builtin "object.__init__") self) (.builtin "object.__init__",[self]))
  (h:wB (model prog w) (A.under (.builtin "type.__call__" ⟨[.ref C],[]⟩)) (.call (.builtin "object.__init__") ⟨[.ref (s.heap.objs.size+1)],[]⟩) (PySem.W.InitBack (s.heap.objs.size+1) R)
   { s with heap:=(s.heap.push tX).push (ua C s.heap.objs.size) }) :
  wB (model prog w) A (.call (.ref C) ⟨[],[]⟩) R s:=by
 obtain ⟨hh,g,d,t,os⟩:=s;exact PySem.W.make_core (PySem.W.makes_of X hm) (PySem.W.looks_findIn X hi) hb (.inr ⟨U,U⟩) h
end
def YS (f:Str) (v:V):List (Str×V)->List (Str×V)
 | []=>[(f,v)]
 | (g,x)::r=>if g=f then (g,v)::r else (g,x)::YS f v r
theorem X2 (f g:Str) (v:V):∀ fs:List (Str×V),(YS f v fs).lookup g=if g=f then Z v else fs.lookup g
 | []=>by
  show vt g [(f,v)]=_;by_cases h:g=f
  .have hb:(g == f)=true:=beq_iff_eq.mpr h
   simp only [vt,hb,if_pos h]
  .have hb:(g == f)=false:=beq_eq_false_iff_ne.mpr h
   simp only [vt,hb,if_neg h]
 | (k,x)::r=>by
  have ih:=X2 f g v r;rw [show YS f v ((k,x)::r)=(if k=f then (k,v)::r else (k,x)::YS f v r) from rfl];by_cases hk:k=f
  .rw [if_pos hk]
   by_cases h:g=k
   .have hb:(g == k)=true:=beq_iff_eq.mpr h
    simp only [vt,hb,if_pos (h.trans hk)]
   .have hb:(g == k)=false:=beq_eq_false_iff_ne.mpr h
    simp only [vt,hb,if_neg (λe:g=f=>h (e.trans hk.symm))]
  .rw [if_neg hk]
   by_cases h:g=k
   .have hb:(g == k)=true:=beq_iff_eq.mpr h
    simp only [vt,hb,if_neg (λe:g=f=>hk (h.symm.trans e))]
   .have hb:(g == k)=false:=beq_eq_false_iff_ne.mpr h
    simp only [vt,hb];exact ih
theorem XQ (f:Str) (v:V):∀ fs:List (Str×V),f∈(YS f v fs).map (·.1)/\∀ g,g∈fs.map (·.1)->g∈(YS f v fs).map (·.1)
 | []=>⟨by simp [YS],λg h=>by simp at h⟩
 | (k,x)::r=>by
  obtain ⟨i1,i2⟩:=XQ f v r;rw [show YS f v ((k,x)::r)=(if k=f then (k,v)::r else (k,x)::YS f v r) from rfl];by_cases hk:k=f
  .rw [if_pos hk]
   subst hk;exact ⟨by simp,λg h=>by simpa using h⟩
  .rw [if_neg hk]
   refine ⟨?_,λg h=>?_⟩
   .rw [tz]
    exact x0y _ i1
   .rw [tz] at h ⊢
    rcases sM.mp h with e | e
    .exact sM.mpr (.inl e)
    .exact x0y _ (i2 g e)
theorem X3 (f:Str) (v:V):∀ fs:List (Str×V),(YS f v fs).length<=fs.length+1
 | []=>by simp [YS]
 | (k,x)::r=>by
  have ih:=X3 f v r;rw [show YS f v ((k,x)::r)=(if k=f then (k,v)::r else (k,x)::YS f v r) from rfl];by_cases hk:k=f
  .rw [if_pos hk,x2x,x2x];omega
  .rw [if_neg hk,x2x,x2x];omega
def RelO.some_of {v:V} {o:Je} (r:RelO (Z v) o):∃ u,o=Z u/\RelV v u:=by
 cases o with
 | none=>exact (show False from r).elim
 | some u=>exact ⟨u,U,r⟩
def RelO.none_of {o:Je} (r:RelO Y o):o=Y:=by
 cases o with
 | none=>rfl
 | some u=>exact (show False from r).elim
def handed_of {v:V} {u:Vl} (r:RelV v u):PySem.W.handedIn u=true:=by
 cases v with
 | non=>cases (show u=Value.none from r);rfl
 | bl b=>cases (show u=Value.bool b from r);rfl
 | int i=>obtain ⟨t,e⟩:=(show ∃ t,u=wC i t from r);cases e;rfl
 | str x=>obtain ⟨t,e⟩:=(show ∃ t,u=uT x t from r);cases e;rfl
 | byt b=>obtain ⟨t,e⟩:=(show ∃ t,u=Value.bytes b t from r);cases e;rfl
 | flt b=>obtain ⟨t,e⟩:=(show ∃ t,u=Value.float b t from r);cases e;rfl
 | ref a=>cases (show u=tI a from r);rfl
 | ty n=>cases (show u=Value.type n from r);rfl
section
variable {P:tV} {w:World} {H H':Hp} {h h':Heap} {a C dx:Ad} {fs fs':List (Str×V)}
def Xy (hok:HOk P w H h) (e:H a=Z (.ins C dx fs)):∃ mA,ObjM h a dx C mA/\(∀ f,RelO (fs.lookup f) (mA f))/\PySem.Within mA (fs.map (·.1))/\fs.length<=1000/\H dx=Z (.own a):=by
 obtain ⟨d,z,ne,ob,mA,n,r,q⟩:=(show ObjOk P w H h a (.ins C dx fs) from hok a _ e);exact ⟨mA,⟨ob,n,ne⟩,r,q,z,d⟩
end
structure Cls (K:Fg) (C:Ad):Prop where
 pg:vY K C Str.empty=true
 hd:vP K C=true
 po:PySem.W.plainOver K C=true
 sa:t6 K (.ref C) "__setattr__"=Z (Z (.builtin "object.__setattr__"))
def Cls.get {K:Fg} {C:Ad} (c:Cls K C) (f:Str):vY K C f=true:=c.pg
def NoAttr (K:Fg) (C:Ad) (f:Str):Prop:=t6 K (.ref C) f=Z Y
def NoAttr.taker {K:Fg} {C:Ad} {f:Str} (n:NoAttr K C f):PySem.W.takerIn K C f=Z Y:=by
 unfold PySem.W.takerIn;rw [show t6 K (.ref C) f=Z Y from n];rfl
structure Meth (K:Fg) (C:Ad) (m:Str) (f:Ad):Prop where
 at_:t6 K (.ref C) m=Z (Z (.ref f))
 fn:vk K (.ref f)=true
 kp:tj K (.ref f)=true
section
variable {X:Cx} {sq:Jc} {σ:St} {H:Hp} {s:Sh} {a C dx:Ad} {fs:List (Str×V)} {f:Str} {v:V} {A:Around} {E:Ja}
def zgj {b:Bool} {Q:Ja} (I:Inv X sq σ H s) (e:H a=Z (.ins C dx fs)) (c:Cls X.K C) (n:NoAttr X.K C f) (l:fs.lookup f=Z v)
  (h:∀ u s',Inv X sq σ H s'->RelV v u->Q u s'):wpAny (model X.prog X.w) A (getAttr (.ref a) f b) Q E s:=by
 obtain ⟨mA,O,r,_,_,_⟩:=Xy I.hok e;obtain ⟨u,hu,ru⟩:=RelO.some_of (v:=v) (o:=mA f) (by rw [← l];exact r f);exact get_map I.kIn O (c.get f) c.hd n hu (handed_of ru) (h u _ (I.tok _) ru)
def zbi {m:Str} {g:Ad} {pl:Sem Bool} {Q:Vl×Jd->Sh->Prop} (I:Inv X sq σ H s) (e:H a=Z (.ins C dx fs)) (c:Cls X.K C) (k:Meth X.K C m g) (l:fs.lookup m=Y)
  (h:Q (.ref g,[.ref a]) s):wpAny (model X.prog X.w) A (getMethod (.ref a) m pl) Q E s:=by
 obtain ⟨mA,O,r,_,_,_⟩:=Xy I.hok e;have hn:mA m=Y:=RelO.none_of (by rw [← l];exact r m);exact get_meth I.kIn O (c.get m) k.at_ k.fn hn h
def zfr {y:V} {u:Vl} {Q:Unit->Sh->Prop} (I:Inv X sq σ H s) (e:H a=Z (.ins C dx fs)) (c:Cls X.K C) (n:NoAttr X.K C f) (hl:fs.length<1000) (ry:RelV y u)
  (h:∀ s',Inv X sq σ (upd H a (.ins C dx (YS f y fs))) s'->Q () s'):wpAny (model X.prog X.w) A (setAttr (.ref a) f u) Q E s:=by
 obtain ⟨mA,O,r,wi,_,ho⟩:=Xy I.hok e;have hz:(fs.map (·.1)).length<=sizeLine:=by rw [Ji,sizeLine_eq];omega
 refine set_map I.kIn O c.sa c.po n.taker c.hd wi hz λh' O' sb=>h _ ?_;have hd:∃ o,h'.get? dx=Z o:=let ⟨o,_,_,e',_⟩:=O'.ns;⟨o,e'⟩;refine I.write (x:=a) (e:=dx) (by rw [e];exact uK) (.inr ho) (λb q hb z=>(sb.2 b hb).trans z) hd ?_;refine ⟨by rw [zt O.ne];exact ho,?_,O.ne,O'.obj,_,O'.ns,λg=>?_,λg hg=>?_⟩
 .have:=X3 f y fs;omega
 .show RelO ((YS f y fs).lookup g) (if g=f then Z u else mA g)
  rw [X2];by_cases q:g=f
  .rw [if_pos q,if_pos q];exact ry
  .rw [if_neg q,if_neg q];exact r g
 .by_cases q:g=f
  .rw [q];exact (XQ f y fs).1
  .refine (XQ f y fs).2 g (wi g λz=>hg ?_)
   show (if g=f then Z u else mA g)=Y;rw [if_neg q];exact z
def Inv.made (I:Inv X sq σ H s):Inv X sq σ (upd (upd H s.heap.objs.size (.own (s.heap.objs.size+1))) (s.heap.objs.size+1) (.ins C s.heap.objs.size []))
  { s with heap:=(s.heap.push tX).push (ua C s.heap.objs.size) }:=by
 have e1:(s.heap.push tX).get? s.heap.objs.size=Z tX:=tR s.heap rfl
 have e2:((s.heap.push tX).push (ua C s.heap.objs.size)).get? (s.heap.objs.size+1)=Z (ua C s.heap.objs.size):=by
  have:=tR (s.heap.push tX) (o:=ua C s.heap.objs.size) rfl
  rwa [Heap.size_push] at this
 have e3:(s.heap.push tX).Ns s.heap.objs.size (λ_=>Y):=⟨tX,#[],_,e1,U,(λe he=>absurd he (by simp)),λ_=>rfl⟩;have I1:=I.laid (a:=s.heap.objs.size) (o:=.own (s.heap.objs.size+1)) (h':=s.heap.push tX) (t':=s.toks) (λb u q=>sV _ q) (sK _) ⟨_,e1⟩;refine I1.laid (a:=s.heap.objs.size+1) (o:=.ins C s.heap.objs.size []) (t':=s.toks) (λb u q=>sV _ q) (Nat.le_of_eq (Heap.size_push _ _)) ?_;have ne:s.heap.objs.size≠s.heap.objs.size+1:=tQ (wR _);refine ⟨by rw [zt ne,zg],ub _,ne,e2,λ_=>Y,(Heap.Ns1.of_empty e3).at λo q=>sV _ q,λ_=>uK,λy hy=>absurd rfl hy⟩
def attr_of {prog:tV} {w:World} {env:Env} {e:Expr} {f:Str} {pos:Pos} {s:Sh} {Q:Ja} (hb:wv e f env (eval e env)=eval e env)
  (h:wpAny (model prog w) A (eval e env) (λo s₁=>wpAny (model prog w) A (getAttr o f true) Q E s₁) E s):wpAny (model prog w) A (eval (.Attribute e f pos) env) Q E s :=
 Attribute_any_ h (by rw [arm_eval_Attribute,hb])
end
inductive tFld_S (K:Fg) (f:Str) (Q:VK) (x:V) (H1:Hp):Prop
 | mk (a C:_) (dx fs v:_) (_:x=.ref a) (_:H1 a=Z (.ins C dx fs)) (_:Cls K C) (_:NoAttr K C f) (_:fs.lookup f=Z v) (_:Q v H1)
def tFld (K:Fg) (ta:TE) (f:Str):TE:=λσ H Q=>ta σ H λx H1=>tFld_S K f Q x H1
inductive sFld_S (K:Fg) (f:Str) (D:Ends) (σ:St) (y x:V) (H2:Hp):Prop
 | mk (a C:_) (dx fs:_) (_:x=.ref a) (_:H2 a=Z (.ins C dx fs)) (_:Cls K C) (_:NoAttr K C f) (_:fs.length<1000) (_:D.nx σ (upd H2 a (.ins C dx (YS f y fs))))
def sFld (K:Fg) (ta tv:TE) (f:Str):TS:=λD σ H=>tv σ H λy H1=>ta σ H1 λx H2=>sFld_S K f D σ y x H2
section
variable {X:Cx} {o e value:Expr} {f:Str} {pos pos' tpos:Pos} {ta tv:TE}
def zu (he:PE X e ta) (hb:wv e f X.env (eval e X.env)=eval e X.env):PE X (.Attribute e f pos) (tFld X.K ta f):=by
 intro sq s σ H Q I h;refine attr_of hb (thn (he sq s σ H _ I h) λu s1 ⟨x,H1,I1,rx,a,C,dx,fs,v,ex,ea,c,n,l,q⟩=>?_);subst ex;obtain rfl:u=tI a:=rx;exact zgj I1 ea c n l λu' s2 I2 ru=>⟨v,H1,I2,ru,q⟩
def zF (ha:PE X o ta) (hv:PE X value tv) (hs:swapsWith value (Z (.Attribute o f pos')) pos.line X.env=pure false):PS X (.Assign [.Attribute o f pos'] value pos) (sFld X.K ta tv f):=by
 intro sq s σ H D I h;refine plainObj_wpAny_Assign_Attribute (thn (hv sq s σ H _ I h) λu s1 ⟨y,H1,I1,ry,q⟩=>thn (ha sq s1 σ H1 _ I1 q) λov s2 ⟨x,H2,I2,rx,a,C,dx,fs,ex,ea,c,n,l,q2⟩=>?_) hs;subst ex;obtain rfl:ov=tI a:=rx;exact zfr I2 ea c n l ry λs3 I3=>⟨σ,_,I3,q2⟩
end
section
variable {X:Cx} {sq:Jc} {σ:St} {H:Hp} {s:Sh} {A:Around} {E:Ja} {Q:Ja} {c:Vl} {b:Bool}
inductive TyOf (K:Fg) (H:Hp):V->Vl->Prop where
 | non:TyOf K H .non (.type "NoneType")
 | bl (x:Bool):TyOf K H (.bl x) (.type "bool")
 | int (i:Int):TyOf K H (.int i) (.type "int")
 | str (x:Str):TyOf K H (.str x) (.type "str")
 | flt (x:UInt64):TyOf K H (.flt x) (.type "float")
 | lst {a:Ad} {xs:Jn} (e:H a=Z (.lst xs)):TyOf K H (.ref a) (.type "list")
 | frz {a:Ad} {o:Obj} {xs:Jn} (e:H a=Z (.frz o (.lst xs))):TyOf K H (.ref a) (.type "list")
 | tup {a:Ad} {xs:Jn} (e:H a=Z (.tup xs)):TyOf K H (.ref a) (.type "tuple")
 | dK {a:Ad} {sr:Jl} (e:H a=Z (.dK sr)):TyOf K H (.ref a) (.type "dict")
 | dT {a:Ad} {sr:List (List Key×V)} (e:H a=Z (.dT sr)):TyOf K H (.ref a) (.type "dict")
 | ins {a C dx:Ad} {fs:List (Str×V)} (e:H a=Z (.ins C dx fs)) (cl:Cls K C) (ha:t6 K (.ref C) "__class__"=Z (Z (.builtin "object.__class__")))
   (hn:tP K (.builtin "object.__class__") "__get__"=Z (Z (.builtin "getset_descriptor.__get__"))) (htk:tT K (.builtin "object.__class__")=Z true)
   (hm:u9 K C (.type "object")=Z true):TyOf K H (.ref a) (.ref C)
def isinst_ok {x:V} {u t:Vl} (I:Inv X sq σ H s) (rx:RelV x u) (ty:TyOf X.K H x t) (e:sC X.K t c=Z b) (h:∀ tk,Q (.bool b) { s with toks:=tk }) :
  wpAny (model X.prog X.w) A (call (.builtin "isinstance") [u,c]) Q E s:=by
 cases ty with
 | non=>cases (show u=Value.none from rx);exact uC PySem.W.kitx_none I.kIn uK e (λz=>nomatch z) h
 | bl y=>cases (show u=Value.bool y from rx);exact uC PySem.W.kitx_bool I.kIn uK e (λz=>nomatch z) h
 | int i=>obtain ⟨t,q⟩:=(show ∃ t,u=wC i t from rx);cases q;exact uC PySem.W.kitx_int I.kIn uK e (λz=>nomatch z) h
 | str y=>obtain ⟨t,q⟩:=(show ∃ t,u=uT y t from rx);cases q;exact uC PySem.W.kitx_str I.kIn uK e (λz=>nomatch z) h
 | flt y=>obtain ⟨t,q⟩:=(show ∃ t,u=Value.float y t from rx);cases q;exact uC PySem.W.kitx_float I.kIn uK e (λz=>nomatch z) h
 | @lst a xs ea =>
  cases (show u=tI a from rx);obtain ⟨_,_,n,_,h1⟩:=(show ObjOk X.prog X.w H s.heap a (.lst xs) from I.hok a _ ea);exact uC wE I.kIn ⟨_,h1,U⟩ e (λz=>nomatch z) h
 | @frz a ob xs ea =>
  cases (show u=tI a from rx);obtain ⟨_,_,_,n,_,h1⟩:=(show ObjOk X.prog X.w H s.heap a (.frz ob (.lst xs)) from I.hok a _ ea);exact uC wE I.kIn ⟨_,h1,U⟩ e (λz=>nomatch z) h
 | @tup a xs ea =>
  cases (show u=tI a from rx);obtain ⟨_,_,_,p⟩:=(show ObjOk X.prog X.w H s.heap a (.tup xs) from I.hok a _ ea);obtain ⟨o,h1,h2,_⟩:=p;exact uC PySem.W.kitx_tuple I.kIn ⟨o,h1,h2⟩ e (λz=>nomatch z) h
 | @dK a sr ea =>
  cases (show u=tI a from rx);obtain ⟨_,_,vs,_,p⟩:=(show ObjOk X.prog X.w H s.heap a (.dK sr) from I.hok a _ ea);obtain ⟨o,es,ep,h1,h2,_⟩:=p;exact uC wF I.kIn ⟨o,h1,h2.1⟩ e (λz=>nomatch z) h
 | @dT a sr ea =>
  cases (show u=tI a from rx);obtain ⟨_,_,xs,_,o,es,ep,h1,h2,_⟩:=(show ObjOk X.prog X.w H s.heap a (.dT sr) from I.hok a _ ea);exact uC wF I.kIn ⟨o,h1,h2.1⟩ e (λz=>nomatch z) h
 | @ins a C dx fs ea cl ha hn htk hm =>
  cases (show u=tI a from rx);obtain ⟨mA,O,_⟩:=Xy I.hok ea;obtain ⟨od,J,_⟩:=O.look;exact uC (PySem.W.kitx_own (cl.get _) cl.hd ha hn htk hm) I.kIn J e (λz=>nomatch z) h
end
structure Room (k:Nat) (A:Around):Prop where
 hd:A.handled=Y
 dp:A.depth+3*k+5<recursionLimit
 un:A.units+16*k+200<cLine
def Room.mono {j k:Nat} {A:Around} (r:Room k A) (h:j<=k):Room j A:=⟨r.hd,by have:=r.dp;omega,by have:=r.un;omega⟩
def Room.deeper {k:Nat} {A:Around} (r:Room (k+1) A) (env:Env):Room k (A.deeper env) :=
 ⟨r.hd,by have:=r.dp;show A.depth+1+3*k+5<_;omega,by have:=r.un;show A.units+3+16*k+200<_;omega⟩
def zgi {A:Around} {C:Ad} {us:Jd} {kw:List (Str×Vl)}:(A.under (.builtin "type.__call__" ⟨.ref C::us,kw⟩)).depth=A.depth+1:=by
 first | rfl | simp [Around.under,Code.weight,Code.isCreation,Code.isGuard,Code.isCaller,Code.frames,Code.isFrame,guardIds]
def zgh {A:Around} {C:Ad} {us:Jd} {kw:List (Str×Vl)}:(A.under (.builtin "type.__call__" ⟨.ref C::us,kw⟩)).units=A.units+1:=by
 first | rfl | simp [Around.under,Code.cUnits,Code.frames,Code.isFrame]
def Room.make {k:Nat} {A:Around} (r:Room (k+1) A) (C:Ad) (us:Jd) (kw:List (Str×Vl)):Room k (A.under (.builtin "type.__call__" ⟨.ref C::us,kw⟩)) :=
 ⟨r.hd,by have:=r.dp;rw [zgi];omega,by have:=r.un;rw [zgh];omega⟩
def Room.depth {k:Nat} {A:Around} (r:Room k A):A.depth<recursionLimit:=by have:=r.dp;omega
def Room.units {k:Nat} {A:Around} (r:Room k A):A.units+64<cLine:=by have:=r.un;omega
def tNil:TA:=λ_ H Q=>Q [] H
def tCons (ta:TE) (tr:TA):TA:=λσ H Q=>ta σ H λx H1=>tr σ H1 λxs H2=>Q (x::xs) H2
section
variable {X:Cx} {e:Expr} {es:Jh} {te:TE} {t:TA} {pos:Pos}
def zc:PA X [] tNil:=λ_ _ _ _ H Q I h=>Calls.spliced_nil ⟨[],H,I,.nil,h⟩
def za (ha:PE X e te) (hr:PA X es t) (hs:tN (e::es) X.env=(false,eval e X.env)::tN es X.env:=by rfl):PA X (e::es) (tCons te t):=by
 intro pos sq s σ H Q I h;rw [hs];show wpAny _ _ (spliced ((false,eval e X.env)::backTo pos (tN es X.env))) _ _ s;refine Calls.spliced_cons (thn (ha sq s σ H _ I h) λu s1 ⟨x,H1,I1,r1,q1⟩=>?_);exact thn (hr pos sq s1 σ H1 _ I1 q1) λus s2 ⟨xs,H2,I2,r2,q2⟩=>⟨x::xs,H2,I2,.cons r1 r2,q2⟩
def tTup (t:TA):TE:=λσ H Q=>t σ H λxs H1=>xs.length<=sL/\∀ p,H1 p=Y->Q (.ref p) (upd H1 p (.tup xs))
def tLst (t:TA):TE:=λσ H Q=>t σ H λxs H1=>xs.length<=sL/\∀ p,H1 p=Y->Q (.ref p) (upd H1 p (.lst xs))
def yb {x1} (h:PA X es t):PE X (.Tuple es x1 pos) (tTup t):=by
 intro sq s σ H Q I hq;refine wpAny_Tuple_spliced (thn (h pos sq s σ H _ I hq) λus s1 ⟨xs,H1,I1,r,z,q⟩=>⟨by rw [← r.length];exact z,?_⟩);have hf:H1 s1.heap.objs.size=Y:=I1.hok.fresh (sK _);refine ⟨.ref s1.heap.objs.size,upd H1 s1.heap.objs.size (.tup xs),I1.laid (t':=s1.toks) (λb u e=>sV _ e) (sK _) ?_,U,q _ hf⟩;exact ⟨z,us,r,⟨_,tR _ rfl,U,_,U⟩⟩
def zJ (h:PA X es t):PE X (.List es pos) (tLst t):=by
 intro sq s σ H Q I hq;refine wpAny_List_spliced (thn (h pos sq s σ H _ I hq) λus s1 ⟨xs,H1,I1,r,z,q⟩=>⟨by rw [← r.length];exact z,?_⟩);have hf:H1 s1.heap.objs.size=Y:=I1.hok.fresh (sK _);refine ⟨.ref s1.heap.objs.size,upd H1 s1.heap.objs.size (.lst xs),I1.laid (t':=s1.toks) (λb u e=>sV _ e) (sK _) ?_,U,q _ hf⟩;exact ⟨z,us,0,r,tR _ rfl⟩
end
abbrev Sp:=Jn->Hp->VK->XK->Prop
abbrev CXT:=List Env->Hp->Sh->XK->Ja
structure Env0 (P:tV) (w:World) (K:Fg) (mg:J0) (base:Heap) (A:Around) (outer:List Env) (s:Sh) (H:Hp):Prop where
 frames:A.frames=Z outer
 mod:Mod K mg base
 bs:∀ b o,base.get? b=Z o->s.heap.get? b=Z o/\H b=Y
 bsz:base.objs.size<=s.heap.objs.size
 funs:s.heap.FunFrames base outer
 frf:∀ b∈frs outer,H b=Y
 hok:HOk P w H s.heap
 bare:AllBare s.gens
def CE (outer:List Env) (P:tV) (w:World) (H:Hp) (s:Sh) (Q:VK) (u:Vl) (s':Sh):Prop :=
 ∃ v H',s'.os=s.os/\AllBare s'.gens/\Un (frs outer) [] H H' s.heap s'.heap/\HOk P w H' s'.heap/\RelV v u/\Q v H'
def CR (CX:CXT) (outer:List Env) (P:tV) (w:World) (H:Hp) (s:Sh) (Q:VK) (E:XK) (r:Result) (s':Sh):Prop :=
 match r with
 | .ok (.ret u)=>CE outer P w H s Q u s'
 | .ok _=>False
 | .error e=>CX outer H s E e s'
structure FnOk (P:tV) (w:World) (K:Fg) (mg:J0) (base:Heap) (CX:CXT) (k:Nat) (f:Ad) (fd:uk) (ps:Jf) (sp:Sp):Prop where
 len:∀ vs H Q E,sp vs H Q E->vs.length=ps.length
 run:∀ (A:Around) (outer:List Env) (s:Sh) (H:Hp) (args:Args) (us:Jd) (vs:Jn) (Q:VK) (E:XK),Room k A->Env0 P w K mg base A outer s H->BindsTo s fd args (ps.zip us)->Vals vs us->sp vs H Q E ->
  wB (model P w) A (.call (.ref f) args) (CR CX outer P w H s Q E) s
def FnOk.mono {P:tV} {w:World} {K:Fg} {mg:J0} {base:Heap} {CX:CXT} {j k:Nat} {f:Ad} {fd:uk} {ps:Jf} {sp:Sp} (F:FnOk P w K mg base CX j f fd ps sp) (h:j<=k) :
  FnOk P w K mg base CX k f fd ps sp:=⟨F.len,λA outer s H args us vs Q E hr=>F.run A outer s H args us vs Q E (hr.mono h)⟩
def Env0.make {P:tV} {w:World} {K:Fg} {mg:J0} {base:Heap} {A:Around} {outer:List Env} {s:Sh} {H:Hp} (e:Env0 P w K mg base A outer s H) (C:Ad) (us:Jd) (kw:List (Str×Vl)) :
  Env0 P w K mg base (A.under (.builtin "type.__call__" ⟨.ref C::us,kw⟩)) outer s H:=⟨by first | exact e.frames | (simpa [Around.under,Code.envs,Code.isFrame,pushEnvs] using e.frames),e.mod,e.bs,e.bsz,e.funs,e.frf,e.hok,e.bare⟩
section
variable {X:Cx} {sq:Jc} {σ:St} {H:Hp} {s s':Sh}
def Inv.env0 (I:Inv X sq σ H s):Env0 X.prog X.w X.K X.mg X.base X.A X.stack s H :=
 ⟨I.ok.frames,I.ok.mod,I.bs,tE I.ok.bsz I.sz,I.stack,I.stkFree,I.hok,I.bare⟩
def Inv.after {Q:VK} {u:Vl} (I:Inv X sq σ H s) (h:CE X.stack X.prog X.w H s Q u s'):EP X sq σ Q u s':=by
 obtain ⟨v,H',os,bare,un,hok,r,q⟩:=h;obtain ⟨hh,g,d,t,os'⟩:=s';obtain rfl:os'=s.os:=os;exact ⟨v,H',I.call (h':=hh) (g':=g) (d':=d) (t':=t) (ch:=[]) un hok bare (λb z=>absurd z (by simp)),r,q⟩
end
def tCall (sp:Sp) (dvs:Jn) (E:XK) (t:TA):TE:=λσ H Q=>t σ H λvs H1=>sp (vs++dvs) H1 Q E
inductive tMeth_S (C:Ad) (m:Str) (sp:Sp) (dvs:Jn) (E:XK) (t:TA) (σ:St) (Q:VK) (x:V) (H1:Hp):Prop
 | mk (a dx fs:_) (_:x=.ref a) (_:H1 a=Z (.ins C dx fs)) (_:fs.lookup m=Y) (_:t σ H1 λvs H2=>sp (x::(vs++dvs)) H2 Q E)
def tMeth (C:Ad) (m:Str) (sp:Sp) (dvs:Jn) (E:XK) (ta:TE) (t:TA):TE:=λσ H Q=>ta σ H λx H1=>tMeth_S C m sp dvs E t σ Q x H1
def tMake (C:Ad) (sp:Sp) (dvs:Jn) (E:XK) (t:TA):TE:=λσ H Q=>t σ H λvs H1=>∀ x dx,H1 x=Y->H1 dx=Y->dx≠x ->
 sp (.ref x::(vs++dvs)) (upd (upd H1 dx (.own x)) x (.ins C dx [])) (λv H2=>v=.non/\Q (.ref x) H2) E
def Binds (K:Fg) (fd:uk) (ps:Jf) (ds:Jd):Prop :=
 ∀ (s:Sh) (us:Jd),K.In s.heap->(us++ds).length=ps.length->BindsTo s fd ⟨us,[]⟩ (ps.zip (us++ds))
def Binds.all {K:Fg} {fd:uk} {ps:Jf} (h:∀ us:Jd,us.length=ps.length->bindArgs fd ⟨us,[]⟩=pure (ps.zip us)):Binds K fd ps []:=λs us _ hl=>by
 rw [x2y] at hl ⊢;exact .of_eq (h us hl)
def Passes (CX:CXT) (X:Cx) (E:XK):Prop:=∀ (sq:Jc) (σ:St) (H:Hp) (s:Sh) (e:Vl) (s':Sh),Inv X sq σ H s->CX X.stack H s E e s'->X.xe e s'
section
variable {X:Cx} {CX:CXT} {k:Nat} {f C:Ad} {fd:uk} {ps:Jf} {sp:Sp} {dvs:Jn} {ds:Jd} {E:XK} {x m:Str} {p pos apos:Pos} {e o:Expr} {es:Jh} {ta:TE} {t:TA}
def run_fn {sq:Jc} {σ:St} {H:Hp} {s:Sh} {Q:VK} {us:Jd} {vs:Jn} (F:FnOk X.prog X.w X.K X.mg X.base CX k f fd ps sp) (hr:Room k X.A) (hb:Binds X.K fd ps ds) (hd:Vals dvs ds) (hx:Passes CX X E)
  (I:Inv X sq σ H s) (r:Vals vs us) (h:sp (vs++dvs) H Q E):wpAny (model X.prog X.w) X.A (call (.ref f) us) (EP X sq σ Q) X.xe s:=by
 have r2:Vals (vs++dvs) (us++ds):=r.append hd;have hl:(us++ds).length=ps.length:=by rw [← r2.length];exact F.len _ _ _ _ h
 refine wpAny_call (w9 (F.run X.A X.stack s H ⟨us,[]⟩ (us++ds) (vs++dvs) Q E hr I.env0 (hb s us I.kIn hl) r2 h) λr s' hq=>?_)
 cases r with
 | error e=>exact hx sq σ H s e s' I hq
 | ok fl =>
  cases fl with
  | ret u=>exact I.after hq
  | next=>exact uL hq
  | brk=>exact uL hq
  | cont=>exact uL hq
def pe_call (F:FnOk X.prog X.w X.K X.mg X.base CX k f fd ps sp) (hr:Room k X.A) (hg:Gl X x) (hm:X.mg x=Z (.ref f)) (hk:tj X.K (.ref f)=true) (hb:Binds X.K fd ps ds) (hd:Vals dvs ds) (hx:Passes CX X E)
  (ha:PA X (e::es) t) (hdb:(x == ("__debug__":Str))=false:=by decide) (he:tN (e::es) X.env=(false,eval e X.env)::tN es X.env:=by rfl) (hpl:(backTo pos (tN es X.env)).any (·.1)=false:=by rfl) :
  PE X (.Call (.Name x p) (e::es) [] pos) (tCall sp dvs E t):=by
 intro sq s σ H Q I h;refine v6 (Xx I hg hm ?_ hdb);refine wk (h₀:=X.base) I.ok.mod.kin hk (thn (ha pos sq s σ H _ I h) λus s1 ⟨vs,H1,I1,r,q⟩=>⟨I1.kIn,?_⟩) he hpl;exact run_fn F hr hb hd hx I1 r q
def pe_meth0 {pl:Sem Bool} (he:PE X o ta) (c:Cls X.K C) (hm:Meth X.K C m f) (F:FnOk X.prog X.w X.K X.mg X.base CX k f fd ps sp) (hr:Room k X.A) (hb:Binds X.K fd ps ds) (hd:Vals dvs ds) (hx:Passes CX X E)
  (ht:eval (.Call (.Attribute o m apos) [] [] pos) X.env=(do
   let ov ← eval o X.env
   standAt apos.atName
   let (f,first) ← holding [ov] (getMethod ov m pl)
   callWith pos f first (backTo pos (tN [] X.env)) (vj pos (uH [] X.env))):=by rfl) :
  PE X (.Call (.Attribute o m apos) [] [] pos) (tMeth C m sp dvs E ta tNil):=by
 intro sq s σ H Q I h;refine PySem.W.methodCall_KW (pl:=pl) (thn (he sq s σ H _ I h) λu s1 ⟨x,H1,I1,rx,a,dx,fs,ex,ea,l,q⟩=>?_) ht;subst ex;obtain rfl:u=tI a:=rx;refine zbi I1 ea c hm l ?_;exact PySem.W.callWith_K0 (first:=[.ref a]) I1.kIn hm.kp (run_fn (us:=[.ref a]) (vs:=[.ref a]) F hr hb hd hx I1 (.cons rfl .nil) q)
structure Mk (K:Fg) (C f:Ad):Prop where
 makes:tL K C=true
 init:t6 K (.ref C) "__init__"=Z (Z (.ref f))
 fn:vk K (.ref f)=true
 kp:tj K (.ref C)=true
def zek {sq:Jc} {σ:St} {H:Hp} {s:Sh} {Q:VK} {us:Jd} {vs:Jn} (M:Mk X.K C f) (F:FnOk X.prog X.w X.K X.mg X.base CX k f fd ps sp) (hr:Room (k+1) X.A) (hb:Binds X.K fd ps ds) (hd:Vals dvs ds)
  (hx:Passes CX X E) (I:Inv X sq σ H s) (r:Vals vs us)
  (h:∀ x dx,H x=Y->H dx=Y->dx≠x->sp (.ref x::(vs++dvs)) (upd (upd H dx (.own x)) x (.ins C dx [])) (λv H2=>v=.non/\Q (.ref x) H2) E) :
  wpAny (model X.prog X.w) X.A (call (.ref C) us) (EP X sq σ Q) X.xe s:=by
 have hq:=h (s.heap.objs.size+1) s.heap.objs.size (I.hok.fresh (Nat.le_succ _)) (I.hok.fresh (sK _)) (tQ (wR _));have I2:=Inv.made (C:=C) I;have r2:Vals (V.ref (s.heap.objs.size+1)::(vs++dvs)) (tI (s.heap.objs.size+1)::(us++ds)):=.cons rfl (r.append hd)
 have hl:(tI (s.heap.objs.size+1)::us++ds).length=ps.length:=by
  have e:=r2.length;rw [F.len _ _ _ _ hq] at e;exact e.symm
 refine wpAny_call (make_map (f:=f) I.kIn M.makes M.init (beq_iff_eq.mp M.fn) (w9 (F.run _ X.stack _ _ ⟨tI (s.heap.objs.size+1)::us,[]⟩ (tI (s.heap.objs.size+1)::(us++ds)) _ _ E (hr.make C us [])
  (I2.env0.make C us []) (hb _ (tI (s.heap.objs.size+1)::us) I2.kIn hl) r2 hq) λr s' hq'=>?_))
 cases r with
 | error e=>exact hx sq σ _ _ e s' I2 hq'
 | ok fl =>
  cases fl with
  | ret u =>
   obtain ⟨v,H',I3,rv,ev,q3⟩:=I2.after hq';subst ev;exact ⟨rv,⟨V.ref (s.heap.objs.size+1),H',I3,U,q3⟩⟩
  | next=>exact uL hq'
  | brk=>exact uL hq'
  | cont=>exact uL hq'
def pe_make (M:Mk X.K C f) (F:FnOk X.prog X.w X.K X.mg X.base CX k f fd ps sp) (hr:Room (k+1) X.A) (hg:Gl X x) (hm:X.mg x=Z (.ref C)) (hb:Binds X.K fd ps ds) (hd:Vals dvs ds) (hx:Passes CX X E)
  (ha:PA X (e::es) t) (hdb:(x == ("__debug__":Str))=false:=by decide) (he:tN (e::es) X.env=(false,eval e X.env)::tN es X.env:=by rfl) (hpl:(backTo pos (tN es X.env)).any (·.1)=false:=by rfl) :
  PE X (.Call (.Name x p) (e::es) [] pos) (tMake C sp dvs E t):=by
 intro sq s σ H Q I h;refine v6 (Xx I hg hm ?_ hdb);refine wk (h₀:=X.base) I.ok.mod.kin M.kp (thn (ha pos sq s σ H _ I h) λus s1 ⟨vs,H1,I1,r,q⟩=>⟨I1.kIn,?_⟩) he hpl;exact zek M F hr hb hd hx I1 r q
def pe_make0 (M:Mk X.K C f) (F:FnOk X.prog X.w X.K X.mg X.base CX k f fd ps sp) (hr:Room (k+1) X.A) (hg:Gl X x) (hm:X.mg x=Z (.ref C)) (hb:Binds X.K fd ps ds) (hd:Vals dvs ds) (hx:Passes CX X E)
  (hdb:(x == ("__debug__":Str))=false:=by decide):PE X (.Call (.Name x p) [] [] pos) (tMake C sp dvs E tNil):=by
 intro sq s σ H Q I h;refine v6 (Xx I hg hm ?_ hdb);exact PySem.W.callWith_K0 I.kIn M.kp (zek (us:=[]) M F hr hb hd hx I .nil h)
end
def PK (X:Cx) (kws:List Keyword) (t:TA):Prop :=
 ∀ (pos:Pos) (sq:Jc) (s:Sh) (σ:St) (H:Hp) (Q:Jn->Hp->Prop),Inv X sq σ H s->t σ H Q->wpAny (model X.prog X.w) X.A (evalAll ((vj pos (uH kws X.env)).map (·.2))) (AP X sq σ Q) X.xe s
section
variable {X:Cx} {CX:CXT} {k:Nat} {f C:Ad} {fd:uk} {ps ks:Jf} {sp:Sp} {E:XK} {x m:Str} {p pos apos kpos:Pos} {e o:Expr} {es:Jh} {kws:List Keyword} {te ta:TE} {t tk:TA} {nm:Option Str}
def pk_nil:PK X [] tNil:=λ_ _ _ _ H Q I h=>wpAny_evalAll_nil ⟨[],H,I,.nil,h⟩
def pk_cons (ha:PE X e te) (hr:PK X kws t):PK X (⟨nm,e,kpos⟩::kws) (tCons te t):=by
 intro pos sq s σ H Q I h;show wpAny _ _ (evalAll ((do let v ← eval e X.env;standAt pos;pure v)::(vj pos (uH kws X.env)).map (·.2))) _ _ s;refine wpAny_evalAll_cons (q0x (thn (ha sq s σ H _ I h) λu s1 ⟨x,H1,I1,r1,q1⟩=>q0x (wpAny_standAt (q0y ?_))));exact thn (hr pos sq s1 σ H1 _ I1 q1) λus s2 ⟨xs,H2,I2,r2,q2⟩=>⟨x::xs,H2,I2,.cons r1 r2,q2⟩
variable {g:Jd->Jd->Jd} {gV:Jn->Jn->Jn}
end
structure FnScope (N P:Jf) (sc:Scope):Prop where
 kind:sc.kind=.function
 co:sc.isCoroutine=false
 gen:sc.isGenerator=false
 nd:N.Nodup
 pre:N.take P.length=P
 par:∀ x∈P,sc.names.lookup x=Z .local∨sc.names.lookup x=Z .cell
 nofree:∀ y∈sc.names,y.2≠.free
theorem zct {kindOf:Str->Option wS} {x:Str}:∀ {binds:List (Str×Vl)} {m:J0},(∀ v,(x,v) ∉ binds)->bindL kindOf binds m x=m x
 | [],_,_=>rfl
 | (n,v)::r,m,h=>by
  unfold bindL;rw [zct λw hw=>h w (x0y _ hw)]
  split
  .have:x≠n:=by rintro rfl;exact h v x0z
   simp [this]
  .rfl
theorem zcv {kindOf:Str->Option wS} {x:Str}:∀ {binds:List (Str×Vl)} {m:J0},(∀ v,(x,v) ∉ binds)->bindC kindOf binds m x=m x
 | [],_,_=>rfl
 | (n,v)::r,m,h=>by
  unfold bindC;rw [zcv λw hw=>h w (x0y _ hw)]
  split
  .rfl
  .have:x≠n:=by rintro rfl;exact h v x0z
   simp [this]
theorem zcu {kindOf:Str->Option wS} {x:Str} {v:Vl}:∀ {P:Jf} {vs:Jd} {i:Nat} {m:J0},P.Nodup->P[i]?=Z x->vs[i]?=Z v->kindOf x=Z .local ->
  bindL kindOf (P.zip vs) m x=Z v
 | [],_,_,_,_,h,_,_=>by simp at h
 | _::_,[],_,_,_,_,h,_=>by simp at h
 | p::P,w::vs,0,m,nd,h1,h2,hk=>by
  simp at h1 h2;subst h1;subst h2;show bindL kindOf ((p,w)::P.zip vs) m p=_;unfold bindL;rw [zct λv hv=>(ue.mp nd).1 (List.of_mem_zip hv).1,if_pos hk];simp
 | p::P,w::vs,i+1,m,nd,h1,h2,hk=>by
  show bindL kindOf ((p,w)::P.zip vs) m x=_;unfold bindL;exact zcu (i:=i) (ue.mp nd).2 (by simpa using h1) (by simpa using h2) hk
theorem zcw {kindOf:Str->Option wS} {x:Str} {v:Vl}:∀ {P:Jf} {vs:Jd} {i:Nat} {m:J0},P.Nodup->P[i]?=Z x->vs[i]?=Z v->kindOf x≠Z .local ->
  bindC kindOf (P.zip vs) m x=Z v
 | [],_,_,_,_,h,_,_=>by simp at h
 | _::_,[],_,_,_,_,h,_=>by simp at h
 | p::P,w::vs,0,m,nd,h1,h2,hk=>by
  simp at h1 h2;subst h1;subst h2;show bindC kindOf ((p,w)::P.zip vs) m p=_;unfold bindC;rw [zcv λv hv=>(ue.mp nd).1 (List.of_mem_zip hv).1,if_neg hk];simp
 | p::P,w::vs,i+1,m,nd,h1,h2,hk=>by
  show bindC kindOf ((p,w)::P.zip vs) m x=_;unfold bindC;exact zcw (i:=i) (ue.mp nd).2 (by simpa using h1) (by simpa using h2) hk
def start (N:Jf) (vs:Jn):St:=vs.map Z++tD (N.length-vs.length) Y
def Zl (CX:CXT) (P:tV) (w:World) (K:Fg) (mg:J0) (base:Heap) (N:Jf) (sy:Str) (sE:Scope) (f:Ad) (cd:Vl) (A:Around) (outer:List Env) (s:Sh) (H:Hp) (E:XK):Cx where
 prog:=P
 w:=w
 K:=K
 mg:=mg
 base:=base
 A:=A.deeper (envOfC sy sE s.heap.objs.size f cd)
 N:=N
 s₀:=s
 H₀:=H
 env:=envOfC sy sE s.heap.objs.size f cd
 outer:=outer
 stack:=envOfC sy sE s.heap.objs.size f cd::outer
 ex:=[]
 calm:=true
 fn:=λ_=>true
 pn:=[]
 xe:=λe s'=>wpAny (model P w) (A.deeper (envOfC sy sE s.heap.objs.size f cd)) (leaving (envOfC sy sE s.heap.objs.size f cd) e) (λ_ s''=>CX outer H s E e s'') (λe' s''=>CX outer H s E e' s'') s'
def zfk {sc:Scope} {n:Nat} {x:Str} (h:sc.names.lookup x=Z .cell):∃ c,(cellsFrom n sc.names []).lookup x=Z c:=by
 have q:=PySem.W.cellsFrom_some sc.names n [] (.inl h);exact Option.isSome_iff_exists.mp q
def zci {CX:CXT} {P:tV} {w:World} {K:Fg} {mg:J0} {base:Heap} {N ps:Jf} {sy:Str} {sE:Scope} {f:Ad} {cd:Vl} {A:Around} {outer:List Env} {s s1:Sh} {H:Hp} {E:XK} {us:Jd} {vs:Jn}
  (S:FnScope N ps sE) (hd:A.handled=Y) (e0:Env0 P w K mg base A outer s H) (hl:vs.length=ps.length) (r:Vals vs us)
  (x:InCallC s s.heap.objs.size (bindL (envOfC sy sE s.heap.objs.size f cd).kindOf (ps.zip us) λ_=>Y) (cellsFrom (s.heap.objs.size+1) sE.names []) (bindC (envOfC sy sE s.heap.objs.size f cd).kindOf (ps.zip us) λ_=>Y) s1) :
  Inv (Zl CX P w K mg base N sy sE f cd A outer s H E) [] (start N vs) H s1:=by
 have hpl:ps.length<=N.length:=by have:=congrArg uY S.pre;rw [ut] at this;omega
 obtain ⟨h1,tk,rfl,hk⟩:=x.done;have noA:∀ b:Ad,b ∉ (Zl CX P w K mg base N sy sE f cd A outer s H E).ex:=λb z=>absurd (show b∈([]:Jg) from z) (by simp)
 refine ⟨⟨e0.mod,S.kind,U,U,sK _,λy z c h1 h2=>?_,λy hy=>?_,λy c _ h=>?_,λ_=>hd,Around.frames_deeper e0.frames,.inr ⟨U,U⟩,λb z=>absurd z (noA b),e0.bs,e0.bsz,λb _ _=>noA b,λb z=>absurd z (noA b),e0.funs,e0.frf⟩,
  rfl,e0.bare,Un.kept hk,⟨_,x.toInCall.ns,λi y v h1 h2 h3=>?_⟩,λy c h=>⟨_,x.cell y c h⟩,e0.hok.fresh (sK _),λy c h=>?_,λp hp=>absurd (show p∈([]:Jc) from hp) (by simp),e0.hok.kept hk,?_⟩
 .exact name_of_addr x.apart (vf h1) (vf h2)
 .have hy:sE.names.lookup y=Z .cell∨sE.names.lookup y=Z .free:=hy
  rcases hy with hy | hy
  .exact zfk hy
  .exact absurd rfl (S.nofree _ (vf hy))
 .exact Nat.le_of_lt (x.above y c (vf h))
 .have hi:i<vs.length:=by
   unfold start at h2;by_cases hi:i<vs.length
   .exact hi
   .rw [tJ (by simpa using hi)] at h2
    rw [List.getElem?_replicate] at h2
    split at h2 <;> cases h2
  have ha:vs[i]?=Z v:=by
   unfold start at h2;rw [x2z (by simpa using hi),sN] at h2
   cases e:vs[i]? with
   | none=>rw [e] at h2;cases h2
   | some a=>rw [e] at h2;cases h2;rfl
  obtain ⟨u,hu,rv⟩:=r.get ha
  have hp:ps[i]?=Z y:=by
   rw [← S.pre,List.getElem?_take_of_lt (by omega)];exact h1
  have ndP:ps.Nodup:=by rw [← S.pre];exact S.nd.sublist (List.take_sublist _ _)
  refine ⟨u,rv,?_⟩;rcases S.par y (sP hp) with k | k
  .exact .inl ⟨k,zcu ndP hp hu k⟩
  .obtain ⟨c,e⟩:=zfk (n:=s.heap.objs.size+1) k
   refine .inr ⟨.inl k,c,e,?_⟩;have q:=x.cell y c e;rw [zcw ndP hp hu (by show sE.names.lookup y≠_;rw [k];decide)] at q;exact q
 .exact e0.hok.fresh (Nat.le_of_lt (x.above y c (vf h)))
 .unfold start
  show _=N.length;rw [Jj,Ji,List.length_replicate];omega
def fn_of {CX:CXT} {P:tV} {w:World} {K:Fg} {mg:J0} {base:Heap} {k:Nat} {f:Ad} {name sy:Str} {params:Arguments} {body:List Stmt} {sE:Scope} {dV kV doc pm sA ct oc:Vl} {an od:Option Ad}
  {osl:Array (Je)} {N ps:Jf} {sp:Sp} (lk:K.lookup f=Z ⟨oc,od,.func (tS name sy params body sE dV kV doc pm an sA ct),osl⟩) (hcd:ur K sA sy=true) (S:FnScope N ps sE)
  (len:∀ vs H Q E,sp vs H Q E->vs.length=ps.length)
  (hbody:∀ (A:Around) (outer:List Env) (s:Sh) (H:Hp) (vs:Jn) (Q:VK) (E:XK),Room k (A.deeper (envOfC sy sE s.heap.objs.size f sA))->sp vs H Q E ->
   ∃ t,PSs (Zl CX P w K mg base N sy sE f sA A outer s H E) body t/\t { nx:=λ_ H'=>Q .non H',rt:=Q } (start N vs) H) :
  FnOk P w K mg base CX (k+1) f (tS name sy params body sE dV kV doc pm an sA ct) ps sp:=by
 refine ⟨len,λA outer s H args us vs Q E hr e0 hb r hsp=>?_⟩;have hl:=len _ _ _ _ hsp;have KX:K.In s.heap:=e0.mod.kin.keeps λb o e=>(e0.bs b o e).1;have lim:s.heap.NoLimit:=e0.mod.nolimit.keeps λb o e=>(e0.bs b o e).1
 have hkind:∀ y∈ps.zip us,sE.names.lookup y.1=Z .local∨(sE.names.lookup y.1=Z .cell/\((cellsFrom (s.heap.objs.size+1) sE.names []).lookup y.1).isSome=true):=λ⟨n,v⟩ hy=>by
  rcases S.par n (List.of_mem_zip hy).1 with q | q
  .exact .inl q
  .exact .inr ⟨q,PySem.W.cellsFrom_some _ _ _ (.inl q)⟩
 refine codeAny_call_function hr.depth (KX _ _ lk) rfl S.co S.gen rfl (PySem.W.codeRec_of KX hcd) (hb _ _ _ _ ?_);refine wpAny_newFunctionEnv_cells S.kind hkind λenv he s1 x=>?_;subst he;refine ⟨lim.keeps x.toInCall.keep,codeAny_func ?_⟩;obtain ⟨t,ht,hq⟩:=hbody A outer s H vs Q E (hr.deeper _) hsp;have I:Inv (Zl CX P w K mg base N sy sE f sA A outer s H E) [] (start N vs) H s1:=zci S hr.hd e0 hl r x;refine um (ht [] s1 (start N vs) H _ I hq) (λfl s' hs=>?_) λe s' hs=>hs
 have fin:∀ {σ':St} {H':Hp} {v:V} {u:Vl},Inv (Zl CX P w K mg base N sy sE f sA A outer s H E) [] σ' H' s'->RelV v u->Q v H'->CE outer P w H s Q u s' :=
  λ{σ' H' v u} J rv q=>⟨v,H',J.os,J.bare,J.base,J.hok,rv,q⟩
 cases fl with
 | ret u =>
  obtain ⟨v,σ',H',J,rv,q⟩:=hs;exact fin J rv q
 | next =>
  obtain ⟨σ',H',J,q⟩:=hs;exact fin (v:=V.non) (u:=Value.none) J rfl q
 | brk =>
  obtain ⟨_,_,_,q⟩:=hs;exact uL q
 | cont =>
  obtain ⟨_,_,_,q⟩:=hs;exact uL q
section
variable {X:Cx} {x:Str} {p pos:Pos} {e:Expr} {es:Jh} {t:TA} {id T:String} {r:Jn->Hp->VK->Prop}
def tCB (r:Jn->Hp->VK->Prop) (t:TA):TE:=λσ H Q=>t σ H λvs H1=>r vs H1 Q
def zh (hc:ZY X (.builtin id) r) (hg:Gl X x) (hm:X.mg x=Y) (hv:wb x=Z (.builtin id)) (ha:PA X (e::es) t) (hn:x≠"__name__":=by decide) (hdb:(x == ("__debug__":Str))=false:=by decide)
  (he:tN (e::es) X.env=(false,eval e X.env)::tN es X.env:=by rfl) (hpl:(backTo pos (tN es X.env)).any (·.1)=false:=by rfl):PE X (.Call (.Name x p) (e::es) [] pos) (tCB r t):=by
 intro sq s σ H Q I h;refine v6 (zbe I hg hm hv ?_ hn hdb);exact PyProof.Rows.callWith_builtin1 (thn (ha pos sq s σ H _ I h) λus s1 ⟨vs,H1,I1,r1,q1⟩=>hc sq s1 σ H1 vs us Q I1 r1 q1) he hpl
def z8 (hc:ZY X (.type T) r) (hg:Gl X x) (hm:X.mg x=Y) (hv:wb x=Z (.type T)) (ha:PA X (e::es) t) (hn:x≠"__name__":=by decide) (hdb:(x == ("__debug__":Str))=false:=by decide)
  (he:tN (e::es) X.env=(false,eval e X.env)::tN es X.env:=by rfl) (hpl:(backTo pos (tN es X.env)).any (·.1)=false:=by rfl):PE X (.Call (.Name x p) (e::es) [] pos) (tCB r t):=by
 intro sq s σ H Q I h;refine v6 (zbe I hg hm hv ?_ hn hdb);exact PyProof.Rows.callWith_type1 (thn (ha pos sq s σ H _ I h) λus s1 ⟨vs,H1,I1,r1,q1⟩=>hc sq s1 σ H1 vs us Q I1 r1 q1) he hpl
end
end L2
variable {X:L2.Cx} {w:PySem.World} {P prog:PySem.Program} {mg:J0} {H H':L2.Hp}
namespace HT
open PySem PyProof.Rows
section
open PySem.SeqAt
open PySem.AutoSeq1 (wpAny_loadPart')
open PySem.MeetsSeq PySem.MeetsSeq2 PySem.MeetsSeq3
end
section
variable {A:Around} {E:Ja} {s:Sh}
def sIx (n d:Nat):Option Int->Nat
 | none=>d
 | some v=>if v<0 then (v+(n:Int)).toNat else min v.toNat n
def sIx_none (n d:Nat):sIx n d Y=d:=rfl
end
end HT
namespace L2
open PySem PySem.Spec PyProof.Rows
abbrev TO:=St->Hp->(Option Int->Hp->Prop)->Prop
def PO (X:Cx) (e:Option Expr) (t:TO):Prop :=
 ∀ (sq:Jc) (s:Sh) (σ:St) (H:Hp) (Q:Option Int->Hp->Prop),Inv X sq σ H s->t σ H Q ->
  wpAny (model X.prog X.w) X.A (evalPart e X.env) (λu s'=>∃ o H',Inv X sq σ H' s'/\IsPart u o/\Q o H') X.xe s
def tNoPart:TO:=λ_ H Q=>Q Y H
inductive tPart_S (Q:(Option Int->Hp->Prop)) (x:V) (H1:Hp):Prop
 | mk (i:_) (_:x=.int i) (_:Q (Z i) H1)
def tPart (t:TE):TO:=λσ H Q=>t σ H λx H1=>tPart_S Q x H1
section
variable {e:Expr} {te:TE} {lo hi:Option Expr} {tl th:TO} {pos p2:Pos}
def Zw:PO X Y tNoPart:=by
 intro sq s σ H Q I h;rw [evalPart_none];exact q0y ⟨Y,H,I,.none,h⟩
def Zv (h:PE X e te):PO X (Z e) (tPart te):=by
 intro sq s σ H Q I hw;rw [evalPart_some];refine thn (h sq s σ H _ I hw) λu s1 ⟨x,H1,I1,r1,q1⟩=>?_;obtain ⟨i,rfl,q⟩:=q1;obtain ⟨t,rfl⟩:=r1;exact ⟨Z i,H1,I1,.int i t,q⟩
def SlR (X:Cx) (r:V->Option Int->Option Int->Hp->VK->Prop):Prop :=
 ∀ (sq:Jc) (s:Sh) (σ:St) (H:Hp) (x:V) (v vl vu:Vl) (lo hi:Option Int) (sl:Ad) (Q:VK),Inv X sq σ H s->RelV x v->s.heap.IsSliceOf sl vl vu .none->IsPart vl lo->IsPart vu hi->r x lo hi H Q ->
  ∃ T id,typeLookup (.type T) "__getitem__"=pure (Z (.builtin id))/\s.TypeIs v T/\wpAny (model X.prog X.w) X.A (getItem v (.ref sl)) (EP X sq σ Q) X.xe s
def tSl (r:V->Option Int->Option Int->Hp->VK->Prop) (te:TE) (tl th:TO):TE:=λσ H Q=>te σ H λx H1=>tl σ H1 λl H2=>th σ H2 λu H3=>r x l u H3 Q
def xF {r:V->Option Int->Option Int->Hp->VK->Prop} (hr:SlR X r) (he:PE X e te) (hl:PO X lo tl) (hu:PO X hi th):PE X (.Subscript e (.Slice lo hi Y p2) pos) (tSl r te tl th):=by
 intro sq s σ H Q I h;refine Subscript_ (thn (he sq s σ H _ I h) λv s1 ⟨x,H1,I1,r1,q1⟩=>?_);refine wpAny_Slice (thn (hl sq s1 σ H1 _ I1 q1) λvl s2 ⟨l,H2,I2,pl,q2⟩=>thn (hu sq s2 σ H2 _ I2 q2) λvu s3 ⟨u,H3,I3,pu,q3⟩=>?_);rw [evalPart_none];refine q0y ?_;have I4:Inv X sq σ H3 { s3 with heap:=s3.heap.push { cls:=.type "slice",data:=.fields #[vl,vu,.none] } }:=I3.kept (t':=s3.toks) λb ob q=>sV _ q;obtain ⟨T,id,hT,ht,hg⟩:=hr sq { s3 with heap:=s3.heap.push { cls:=.type "slice",data:=.fields #[vl,vu,.none] } } σ H3 x v vl vu l u s3.heap.objs.size Q I4 r1 (Heap.IsSliceOf.new ..) pl pu q3;show wpAny (model X.prog X.w) X.A (subscriptTail e (.Slice lo hi Y p2) v (.ref s3.heap.objs.size)) (EP X sq σ Q) X.xe { s3 with heap:=s3.heap.push { cls:=.type "slice",data:=.fields #[vl,vu,.none] } };exact tail_any (ops:=[.ref s3.heap.objs.size,v]) ht hT hg (by with_unfolding_all rfl)
def cutV (xs:Jn) (lo hi:Option Int):Jn:=(xs.drop (HT.sIx xs.length 0 lo)).take (HT.sIx xs.length xs.length hi-HT.sIx xs.length 0 lo)
def zfh (xs:Jn) (lo hi:Option Int):(cutV xs lo hi).length<=xs.length:=by
 unfold cutV;rw [ut,uS];omega
end
def ixN (n:Nat) (i:Int):Option Nat:=if 0<=i then (if i<n then Z i.toNat else Y) else if -(n:Int)<=i then Z (i+n).toNat else Y
def atI {α:Type} (xs:List α) (i:Int):Option α:=(ixN xs.length i).bind λj=>xs[j]?
def ixN_seq {n:Nat} {i:Int} {j:Nat} (h:ixN n i=Z j):seqIndex? i n=Z j/\j<n/\-(n:Int)<=i/\i<n:=by
 unfold ixN at h;by_cases h0:0<=i
 .rw [if_pos h0] at h
  by_cases h1:i<n
  .rw [if_pos h1] at h
   have e:i.toNat=j:=uq h;exact ⟨by rw [seqIndex_of h0 h1,e],by omega,by omega,h1⟩
  .rw [if_neg h1] at h;cases h
 .rw [if_neg h0] at h
  by_cases h1:-(n:Int)<=i
  .rw [if_pos h1] at h
   have e:(i+n).toNat=j:=uq h;exact ⟨by rw [seqIndex_neg (by omega) h1,e],by omega,h1,by omega⟩
  .rw [if_neg h1] at h;cases h
def zea {α:Type} {xs:List α} {i:Int} {v:α} (h:atI xs i=Z v):∃ j,seqIndex? i xs.length=Z j/\xs[j]?=Z v/\j<xs.length/\-(xs.length:Int)<=i/\i<xs.length:=by
 unfold atI at h
 cases e:ixN xs.length i with
 | none=>rw [e] at h;cases h
 | some j =>
  rw [e] at h;obtain ⟨h1,h2,h3,h4⟩:=ixN_seq e;exact ⟨j,h1,h,h2,h3,h4⟩
def zM {α:Type} {xs:List α} {j:Nat} {v:α} (h:xs[j]?=Z v):atI xs (j:Int)=Z v:=by
 have hj:j<xs.length:=(tu.mp h).1
 have e:ixN xs.length (j:Int)=Z j:=by
  unfold ixN;rw [if_pos (by omega),if_pos (by omega)];simp
 unfold atI;rw [e];exact h
def Yy {α:Type} (xs:List α) (v:α):atI (xs++[v]) (-1)=Z v:=by
 have hl:(xs++[v]).length=xs.length+1:=by simp
 have e:ixN (xs++[v]).length (-1)=Z xs.length:=by
  unfold ixN;rw [hl,if_neg (by decide),if_pos (by omega)];congr 1;omega
 unfold atI;rw [e];show (xs++[v])[xs.length]?=Z v;simp
def PlainIx (b:Expr):Prop:=∀ o i,subscripted b false o i=operate [o,i] (getItem o i)
def IxR (X:Cx) (r:R2):Prop :=
 ∀ (value slice:Expr) (sq:Jc) (s:Sh) (σ:St) (H:Hp) (x y:V) (v u:Vl) (Q:VK),Inv X sq σ H s->RelV x v->RelV y u->r x y H Q ->
  subscripted slice false v u=operate [v,u] (getItem v u)->wpAny (model X.prog X.w) X.A (subscriptTail value slice v u) (EP X sq σ Q) X.xe s
def MtR (X:Cx) (id:String) (r:V->Jn->Hp->VK->Prop):Prop :=
 ∀ (sq:Jc) (s:Sh) (σ:St) (H:Hp) (x:V) (xs:Jn) (v:Vl) (us:Jd) (Q:VK),Inv X sq σ H s->RelV x v->Vals xs us->r x xs H Q ->
  wpAny (model X.prog X.w) X.A (call (.builtin id) (v::us)) (EP X sq σ Q) X.xe s
section
variable {a b:Expr} {ta tb:TE} {pos:Pos}
def zx {r:R2} (hr:IxR X r) (ha:PE X a ta) (hb:PE X b tb) (hs:PlainIx b):PE X (.Subscript a b pos) (tOp r ta tb):=by
 intro sq s σ H Q I h;exact Subscript_ (binT ha hb I h λv u s2 x y H2 I2 rx ry q=>hr a b sq s2 σ H2 x y v u Q I2 rx ry q (hs _ _))
inductive rIxL (K:Fg) (x y:V) (H:Hp) (Q:VK):Prop
 | mk (p xs:_) (i v:_) (_:x=.ref p) (_:y=.int i) (_:SqL K H p xs) (_:atI xs i=Z v) (_:Q v H)
inductive rIxT (K:Fg) (x y:V) (H:Hp) (Q:VK):Prop
 | mk (p xs:_) (i v:_) (_:x=.ref p) (_:y=.int i) (_:SqT K H p xs) (_:atI xs i=Z v) (_:Q v H)
inductive rIxS (x y:V) (H:Hp) (Q:VK):Prop
 | mk (z i c:_) (_:x=.str z) (_:y=.int i) (_:z.length<=sL) (_:atI z.cps.toList i=Z c) (_:Q (.str ⟨#[c]⟩) H)
def zD:IxR X (rIxL X.K):=by
 intro value slice sq s σ H x y v u Q I rx ry h hs;obtain ⟨p,xs,i,z,rfl,rfl,hq,he,q⟩:=h;cases rx;obtain ⟨t,rfl⟩:=ry;obtain ⟨its,r,pl,hz⟩:=I.list hq;obtain ⟨j,h1,h2,h3,h4,h5⟩:=zea he;obtain ⟨w,ew,rw'⟩:=r.get h2;have hl:=r.length;have hn:=zbd;have fin:EP X sq σ Q w s:=⟨z,H,I,rw',q⟩;by_cases h0:0<=i
 .have hj:i.toNat=j:=by
   rw [seqIndex_of h0 h5] at h1;exact uq h1
  exact item_listR pl.isList h0 (by omega) (by rw [hj];simpa using ew) fin hs
 .have hj:(i+(its.toArray.size:Int)).toNat=j:=by
   rw [seqIndex_neg (by omega) h4] at h1;rw [tG,← hl];exact uq h1
  exact subscriptTail_builtinR (x:=w) pl.isList.typeIs slot_list_getitem.lookup
   (wpAny_getItem_list_neg (Q:=λr s'=>r=w/\EP X sq σ Q r s') pl.isList (by omega) (by rw [tG] <;> omega) (by omega) (by rw [hj];simpa using ew) ⟨U,fin⟩) hs
def zE:IxR X (rIxT X.K):=by
 intro value slice sq s σ H x y v u Q I rx ry h hs;obtain ⟨p,xs,i,z,rfl,rfl,hq,he,q⟩:=h;cases rx;obtain ⟨t,rfl⟩:=ry;obtain ⟨its,r,pl,hz⟩:=I.tuple hq;obtain ⟨j,h1,h2,h3,h4,h5⟩:=zea he;obtain ⟨w,ew,rw'⟩:=r.get h2;have hl:=r.length;have hn:=zbd;have fin:EP X sq σ Q w s:=⟨z,H,I,rw',q⟩;exact subscriptTail_builtinR (x:=w) pl.typeIs slot_tuple_getitem.lookup
  (getItem_tuple (j:=j) (Q:=λr s'=>r=w/\EP X sq σ Q r s') pl (by omega) (by omega) (by rw [tG,← hl];exact h1) (by simpa using ew) ⟨U,fin⟩) hs
def Yu:IxR X rIxS:=by
 intro value slice sq s σ H x y v u Q I rx ry h hs;obtain ⟨z,i,c,rfl,rfl,hz,he,q⟩:=h;obtain ⟨t,rfl⟩:=rx;obtain ⟨t',rfl⟩:=ry;obtain ⟨j,h1,h2,h3,h4,h5⟩:=zea he;have hl:z.cps.toList.length=z.length:=by simp [w8]
 rw [hl] at h1 h4 h5;have hn:=zbd
 exact tail_any (typeIs_str s z t) slot_str_getitem.lookup (getItem_str (c:=c) (by
  have e1:decide (i < -(2 ^ 63:Int))=false:=decide_eq_false (by omega);have e2:decide (i ≥ 2 ^ 63)=false:=decide_eq_false (by omega);rw [e1,e2,Bool.or_false]) (by rw [h1];simpa using h2) ⟨.str ⟨#[c]⟩,H,I.tok _,⟨_,U⟩,q⟩) hs
def zc0 (lo hi:Option Int) (n:Nat):(wA lo hi Y n).1=((HT.sIx n 0 lo:Nat):Int)/\(wA lo hi Y n).2.1=((HT.sIx n n hi:Nat):Int)/\(wA lo hi Y n).2.2=1:=by
 refine ⟨?_,?_,U⟩
 .cases lo with
  | none=>simp [wA,HT.sIx]
  | some i =>
   simp only [wA,HT.sIx,Option.getD_none,show (1:Int) > 0 by decide,if_true];by_cases h:i<0
   .simp only [h,if_true] <;> omega
   .simp only [h,if_false] <;> omega
 .cases hi with
  | none=>simp [wA,HT.sIx]
  | some i =>
   simp only [wA,HT.sIx,Option.getD_none,show (1:Int) > 0 by decide,if_true];by_cases h:i<0
   .simp only [h,if_true] <;> omega
   .simp only [h,if_false] <;> omega
def zbu (its:Jd) (lo hi:Option Int):slicePick its.toArray lo hi Y=((its.drop (HT.sIx its.length 0 lo)).take (HT.sIx its.length its.length hi-HT.sIx its.length 0 lo)).toArray:=by
 obtain ⟨h1,h2,h3⟩:=zc0 lo hi its.toArray.size;unfold slicePick;rw [h1,h2,h3];simp only [sliceRange_one,pick_run,tG] <;> rfl
inductive rSlL (K:Fg) (x:V) (lo hi:Option Int) (H:Hp) (Q:VK):Prop
 | mk (a xs:_) (_:x=.ref a) (_:SqL K H a xs) (_:∀ p,H p=Y->Q (.ref p) (upd H p (.lst (cutV xs lo hi))))
def sl_list:SlR X (rSlL X.K):=by
 intro sq s σ H x v vl vu lo hi sl Q I rx hs pl pu h;obtain ⟨a,xs,rfl,hx,q⟩:=h;cases rx;obtain ⟨its,r,ht,hz⟩:=I.list hx;have hlen:=r.length;refine ⟨"list",_,slot_list_getitem.lookup,ht.isList.typeIs,?_⟩;refine wpAny_getItem_list_slice ht.isList hs pl pu .none (by simp) ?_ (by rw [tG] <;> omega);rw [zbu,← hlen];refine ⟨.ref s.heap.objs.size,_,I.laid (t':=s.toks) (o:=.lst (cutV xs lo hi)) (λb ob q=>sV _ q) (sK _) ?_,U,q _ (I.hok.fresh (sK _))⟩;exact ⟨tE (zfh xs lo hi) hz,_,0,(r.drop (HT.sIx xs.length 0 lo)).take (HT.sIx xs.length xs.length hi-HT.sIx xs.length 0 lo),tR _ rfl⟩
def X6:V->Bool
 | .non=>true
 | .bl _=>true
 | .int _=>true
 | .str _=>true
 | _=>false
def eqV:V->V->Bool
 | .non,.non=>true
 | .bl a,.bl b=>a == b
 | .bl a,.int b=>(if a then 1 else 0) == b
 | .int a,.bl b=>a == (if b then 1 else 0)
 | .int a,.int b=>a == b
 | .str a,.str b=>a == b
 | _,_=>false
def eqAt_V {A:Around} {s:Sh} {y x:V} {u v:Vl} (ry:RelV y u) (rx:RelV x v) (fy:X6 y=true) (fx:X6 x=true):SeqAt.EqAt A s u v (eqV y x):=by
 cases y with
 | non =>
  cases ry
  cases x with
  | non=>cases rx;exact SeqAt.EqAt.same _
  | bl b=>cases rx;exact SeqAt.EqAt.none_bool b
  | int b=>obtain ⟨t,rfl⟩:=rx;exact SeqAt.EqAt.none_int b t
  | str b=>obtain ⟨t,rfl⟩:=rx;exact SeqAt.EqAt.none_str b t
  | _=>exact absurd (show false=true from fx) x1x
 | bl a =>
  cases ry
  cases x with
  | non=>cases rx;exact SeqAt.EqAt.bool_none a
  | bl b=>cases rx;exact SeqAt.EqAt.bool_bool a b
  | int b=>obtain ⟨t,rfl⟩:=rx;exact SeqAt.EqAt.bool_int a b t
  | str b=>obtain ⟨t,rfl⟩:=rx;exact SeqAt.EqAt.bool_str a b t
  | _=>exact absurd (show false=true from fx) x1x
 | int a =>
  obtain ⟨t',rfl⟩:=ry
  cases x with
  | non=>cases rx;exact SeqAt.EqAt.int_none a t'
  | bl b=>cases rx;exact SeqAt.EqAt.int_bool a t' b
  | int b=>obtain ⟨t,rfl⟩:=rx;exact SeqAt.EqAt.int_int a t' b t
  | str b=>obtain ⟨t,rfl⟩:=rx;exact SeqAt.EqAt.int_str a t' b t
  | _=>exact absurd (show false=true from fx) x1x
 | str a =>
  obtain ⟨t',rfl⟩:=ry
  cases x with
  | non=>cases rx;exact SeqAt.EqAt.str_none a t'
  | bl b=>cases rx;exact SeqAt.EqAt.str_bool a t' b
  | int b=>obtain ⟨t,rfl⟩:=rx;exact SeqAt.EqAt.str_int a t' b t
  | str b=>obtain ⟨t,rfl⟩:=rx;exact SeqAt.EqAt.str_str a t' b t
  | _=>exact absurd (show false=true from fx) x1x
 | _=>exact absurd (show false=true from fy) x1x
def eqU (x:V) (u:Vl):Bool:=match u with
 | .none=>eqV .non x
 | .bool b=>eqV (.bl b) x
 | .int i _=>eqV (.int i) x
 | .str z _=>eqV (.str z) x
 | _=>false
def eqU_of {x y:V} {u:Vl} (r:RelV y u) (f:X6 y=true):eqU x u=eqV y x:=by
 cases y with
 | non=>cases r;rfl
 | bl b=>cases r;rfl
 | int i=>obtain ⟨t,rfl⟩:=r;rfl
 | str z=>obtain ⟨t,rfl⟩:=r;rfl
 | _=>exact absurd (show false=true from f) x1x
theorem XG {x:V}:∀ {xs:Jn} {us:Jd},Vals xs us->xs.all X6=true->us.any (eqU x)=xs.any λy=>eqV y x
 | _,_,.nil,_=>rfl
 | y::xs,u::us,.cons r t,f=>by
  rw [List.all_cons,uE] at f;rw [vh,vh,eqU_of r f.1,XG t f.2]
theorem Yp {A:Around} {s:Sh} {x:V} {v:Vl} (rx:RelV x v) (fx:X6 x=true):∀ {xs:Jn} {us:Jd},Vals xs us->xs.all X6=true->∀ u∈us,SeqAt.EqAt A s u v (eqU x u)
 | _,_,.nil,_=>λu hu=>by cases hu
 | y::xs,u::us,.cons r t,f=>λu' hu=>by
  rw [List.all_cons,uE] at f;rcases sM.mp hu with rfl | hu
  .rw [eqU_of r f.1];exact eqAt_V r rx f.1 fx
  .exact Yp rx fx t f.2 u' hu
def inV (x:V) (xs:Jn):Bool:=xs.any λy=>eqV y x
inductive rIn (K:Fg) (neg:Bool) (x y:V) (H:Hp) (Q:VK):Prop
 | mk (p xs:_) (_:y=.ref p) (_:(SqL K H p xs∨SqT K H p xs)) (_:X6 x=true) (_:xs.all X6=true) (_:Q (.bl (if neg then !inV x xs else inV x xs)) H)
def zca:OpR X (uA .In) (rIn X.K false):=by
 intro sq s σ H x y v u Q I rx ry h;obtain ⟨p,xs,rfl,hq,fx,fs,q⟩:=h;cases ry;rcases hq with hq | hq
 .obtain ⟨its,r,pl,hz⟩:=I.list hq
  refine SeqAt.in_listAt (eqU x) pl.isList (λw hw=>Yp rx fx r fs w (by simpa using hw)) ⟨.bl _,H,I,U,?_⟩;rw [show its.toArray.any (eqU x)=its.any (eqU x) by simp,XG r fs];exact q
 .obtain ⟨its,r,pl,hz⟩:=I.tuple hq
  refine SeqAt.in_tupleAt (eqU x) pl (λw hw=>Yp rx fx r fs w (by simpa using hw)) ⟨.bl _,H,I,U,?_⟩;rw [show its.toArray.any (eqU x)=its.any (eqU x) by simp,XG r fs];exact q
def Xr:OpR X (uA .NotIn) (rIn X.K true):=by
 intro sq s σ H x y v u Q I rx ry h;obtain ⟨p,xs,rfl,hq,fx,fs,q⟩:=h;cases ry;rcases hq with hq | hq
 .obtain ⟨its,r,pl,hz⟩:=I.list hq
  refine SeqAt.notIn_listAt (eqU x) pl.isList (λw hw=>Yp rx fx r fs w (by simpa using hw)) ⟨.bl _,H,I,U,?_⟩;rw [show its.toArray.any (eqU x)=its.any (eqU x) by simp,XG r fs];exact q
 .obtain ⟨its,r,pl,hz⟩:=I.tuple hq
  refine SeqAt.notIn_tupleAt (eqU x) pl (λw hw=>Yp rx fx r fs w (by simpa using hw)) ⟨.bl _,H,I,U,?_⟩;rw [show its.toArray.any (eqU x)=its.any (eqU x) by simp,XG r fs];exact q
def Xq:OpR X (uA .NotIn) (λx y H Q=>∃ i j,x=.str i/\y=.str j/\Q (.bl (!(!(uw j i 0 j.length 1).isEmpty))) H):=by
 intro sq s σ H x y v u Q I rx ry h;obtain ⟨i,j,rfl,rfl,q⟩:=h;obtain ⟨t,rfl⟩:=rx;obtain ⟨t',rfl⟩:=ry;exact notIn_str ⟨.bl _,H,I,U,q⟩
def zr:ZY X (.builtin "len") (λxs H Q=>∃ p ys,xs=[.ref p]/\(SqL X.K H p ys∨SqT X.K H p ys)/\Q (.int ys.length) H):=by
 intro sq s σ H xs us Q I r h;obtain ⟨p,ys,rfl,hq,q⟩:=h;obtain ⟨u,rfl,rx⟩:=XV r;cases rx;have hn:=zbd;rcases hq with hq | hq
 .obtain ⟨its,r',pl,hz⟩:=I.list hq
  have hlen:=r'.length;exact Calls.call_len_list pl.isList (by simp only [tG] <;> omega) ⟨.int ys.length,H,I.tok _,⟨s.toks+1,by rw [tG,hlen]⟩,q⟩
 .obtain ⟨its,r',pl,hz⟩:=I.tuple hq
  have hlen:=r'.length;exact len_tuple pl (by simp only [tG] <;> omega) ⟨.int ys.length,H,I.tok _,⟨s.toks+1,by rw [tG,hlen]⟩,q⟩
def xK:ZY X (.builtin "len") (λxs H Q=>∃ z,xs=[.str z]/\z.length<=sL/\Q (.int z.length) H):=by
 intro sq s σ H xs us Q I r h;obtain ⟨z,rfl,hz,q⟩:=h;obtain ⟨u,rfl,t,rfl⟩:=XV r;have hn:=zbd;exact len_str (by omega) ⟨.int z.length,H,I.tok _,⟨_,U⟩,q⟩
def yZ:ZY X (.type "list") (λxs H Q=>∃ p ys,xs=[.ref p]/\(SqL X.K H p ys∨SqT X.K H p ys)/\∀ l,H l=Y->Q (.ref l) (upd H l (.lst ys))):=by
 intro sq s σ H xs us Q I r h;obtain ⟨p,ys,rfl,hq,q⟩:=h;obtain ⟨u,rfl,rx⟩:=XV r;cases rx
 have fin:∀ (its:Jd),Vals ys its->ys.length<=sL->∀ (h':Heap) (c':Nat),(∀ b o',s.heap.get? b=Z o'->h'.get? b=Z o') ->
   h'.get? s.heap.objs.size=Z { cls:=.type "list",dict:=Y,data:=.seq its.toArray c',slots:=#[] }->EP X sq σ Q (.ref s.heap.objs.size) { s with heap:=h' }:=λits r' hz h' c' kp e =>
  ⟨.ref s.heap.objs.size,_,I.laid (t':=s.toks) kp (sK _) (show ObjOk X.prog X.w _ h' _ (.lst ys) from ⟨hz,its,c',r',e⟩),U,q _ (I.hok.fresh (sK _))⟩
 rcases hq with hq | hq
 .obtain ⟨its,r',pl,hz⟩:=I.list hq
  have hlen:=r'.length;obtain ⟨o,ho,hc,n,hd⟩:=pl.isList;exact call_list_seq p (.inl rfl) ho hc hd (λh' c' kp e=>fin its r' hz h' c' kp e) (by simp only [tG] <;> omega)
 .obtain ⟨its,r',pl,hz⟩:=I.tuple hq
  have hlen:=r'.length;obtain ⟨o,ho,hc,n,hd⟩:=pl;exact call_list_seq p (.inr rfl) ho hc hd (λh' c' kp e=>fin its r' hz h' c' kp e) (by simp only [tG] <;> omega)
def tyV (K:Fg) (T:String) (x:V) (H:Hp):Prop:=match x with
 | .str _=>T="str"
 | .int _=>T="int"
 | .ref p=>(T="list"/\∃ xs,SqL K H p xs)∨(T="tuple"/\∃ o,K.lookup p=Z o/\o.cls=.type "tuple"/\o.dict=Y) ∨
   (T="dict"/\((∃ sr,H p=Z (.dK sr))∨∃ sr,H p=Z (.dT sr)))∨(T="set"/\∃ S n,H p=Z (.set S n))
 | _=>False
def tyV_is {sq:Jc} {σ:St} {H:Hp} {s:Sh} {T:String} {x:V} {v:Vl} (I:Inv X sq σ H s) (r:RelV x v) (ty:tyV X.K T x H) :
  s.TypeIs v T/\∀ a,v=.ref a->∃ ob,s.heap.get? a=Z ob/\ob.dict=Y:=by
 cases x with
 | str z =>
  obtain ⟨t,rfl⟩:=r;cases (show T="str" from ty);exact ⟨typeIs_str s z t,λ_ e=>nomatch e⟩
 | int i =>
  obtain ⟨t,rfl⟩:=r;cases (show T="int" from ty);exact ⟨typeIs_int s i t,λ_ e=>nomatch e⟩
 | ref p =>
  cases r;rcases ty with ⟨rfl,xs,hq⟩ | ⟨rfl,o,hk,hc,hd⟩ | ⟨rfl,hk⟩ | ⟨rfl,S,n,hk⟩
  .obtain ⟨its,_,pl,_⟩:=I.list hq
   refine ⟨pl.isList.typeIs,λa e=>?_⟩;cases e;obtain ⟨o,n,e,c,hd,_⟩:=pl;exact ⟨o,e,hd⟩
  .refine ⟨⟨o,I.kIn p o hk,hc⟩,λa e=>?_⟩
   cases e;exact ⟨o,I.kIn _ o hk,hd⟩
  .have z:∃ o,s.heap.get? p=Z o/\o.ExactDict:=by
    rcases hk with ⟨sr,hk⟩ | ⟨sr,hk⟩
    .obtain ⟨_,_,_,_,o,_,_,e,ex,_⟩:=I.hok p _ hk
     exact ⟨o,e,ex⟩
    .obtain ⟨_,_,_,_,o,_,_,e,ex,_⟩:=I.hok p _ hk
     exact ⟨o,e,ex⟩
   obtain ⟨o,e,ex⟩:=z;refine ⟨⟨o,e,ex.1⟩,λa e2=>?_⟩;cases e2;exact ⟨o,e,ex.2.1⟩
  .obtain ⟨o,_,_,_,e,ex,_⟩:=I.hok p _ hk
   refine ⟨⟨o,e,ex.1⟩,λa e2=>?_⟩;cases e2;exact ⟨o,e,ex.2.1⟩
 | _=>exact uL ty
def tBM0 (K:Fg) (T:String) (r:V->Jn->Hp->VK->Prop) (to:TE):TE:=λσ H Q=>to σ H λx H1=>tyV K T x H1/\r x [] H1 Q
def tBM (K:Fg) (T:String) (r:V->Jn->Hp->VK->Prop) (to:TE) (t:TA):TE:=λσ H Q=>to σ H λx H1=>tyV K T x H1/\t σ H1 λxs H2=>r x xs H2 Q
variable {o e:Expr} {es:Jh} {to:TE} {t:TA} {name:Str} {apos cpos:Pos} {T id:String} {r:V->Jn->Hp->VK->Prop}
def Y9 (pa:PlainAttrs T) (slot:Slot T name id) (hty:typeOf (.builtin id)=pure (.type "method_descriptor")) (hm:MtR X id r) (ho:PE X o to)
  (hbase:wv o name X.env (eval o X.env)=eval o X.env:=by rfl) (hline:(apos.endLine == cpos.line)=true:=by rfl):PE X (.Call (.Attribute o name apos) [] [] cpos) (tBM0 X.K T r to):=by
 intro sq s σ H Q I h;refine wpAny_Call_method0_late hbase hline (thn (ho sq s σ H _ I h) λv s1 ⟨x,H1,I1,r1,ty,q1⟩=>?_);obtain ⟨h1,h2⟩:=tyV_is I1 r1 ty;exact ⟨T,id,pa,slot,hty,h1,h2,Calls.callWith_builtin rfl (PySem.evalArgs_none (hm sq s1 σ H1 x [] v [] Q I1 r1 .nil q1))⟩
def yz (pa:PlainAttrs T) (slot:Slot T name id) (hty:typeOf (.builtin id)=pure (.type "method_descriptor")) (hm:MtR X id r) (ho:PE X o to) (ha:PA X (e::es) t)
  (hbase:wv o name X.env (eval o X.env)=eval o X.env:=by rfl)
  (hfew:((backTo cpos (tN (e::es) X.env)).all (λx=>!x.1) && (vj cpos (uH [] X.env)).all (λx=>x.1.isSome)
   && decide ((e::es).length+([]:List Keyword).length+(if ([]:List Keyword).isEmpty then 0 else 1)<30))=true:=by rfl)
  (hline:(apos.endLine == cpos.line)=true:=by rfl) (hs:tN (e::es) X.env=(false,eval e X.env)::tN es X.env:=by rfl) (hplain:(backTo cpos (tN es X.env)).any (·.1)=false:=by rfl) :
  PE X (.Call (.Attribute o name apos) (e::es) [] cpos) (tBM X.K T r to t):=by
 intro sq s σ H Q I h;refine wpAny_Call_method_late hbase hfew hline rfl (thn (ho sq s σ H _ I h) λv s1 ⟨x,H1,I1,r1,ty,q1⟩=>?_);obtain ⟨h1,h2⟩:=tyV_is I1 r1 ty;refine ⟨T,id,pa,slot,hty,h1,h2,?_⟩;have hA:=ha cpos sq s1 σ H1 _ I1 q1;rw [hs] at hA ⊢;refine Calls.callWith_builtin (by show (false || (backTo cpos (tN es X.env)).any (·.1))=false;rw [hplain] <;> rfl) (Calls.evalArgs_plain ?_);exact thn hA λus s2 ⟨vs,H2,I2,r2,q2⟩=>hm sq s2 σ H2 x vs v us Q I2 r1 r2 q2
/- xs.append(e),list.index on a module's tuple .. are MtR facts of 06m -/
end
def MtM (X:Cx) (id:String) (r:V->Jn->Hp->VK->Prop):Prop :=
 ∀ (sq:Jc) (s:Sh) (σ:St) (H:Hp) (x:V) (xs:Jn) (v:Vl) (us:Jd) (Q:VK),Inv X sq σ H s->RelV x v->Vals xs us->r x xs H Q ->
  wpAny (model X.prog X.w) X.A (call (.builtin id) (v::us)) (EP X sq σ Q) X.xe s
theorem Vals.one:∀ {x:V} {us:Jd},Vals [x] us->∃ u,us=[u]/\RelV x u
 | _,_,.cons r .nil=>⟨_,U,r⟩
theorem Vals.zero:∀ {us:Jd},Vals [] us->us=[]
 | _,.nil=>rfl
def Vals.dropLast {xs:Jn} {us:Jd} (h:Vals xs us):Vals xs.dropLast us.dropLast:=by
 induction h with
 | nil=>exact .nil
 | cons r t ih =>
  cases t with
  | nil=>exact .nil
  | cons q t'=>exact .cons r ih
def zgk {α:Type} (l:List α):l.eraseIdx (l.length-1)=l.dropLast:=by
 induction l with
 | nil=>rfl
 | cons a r ih =>
  cases r with
  | nil=>rfl
  | cons b r =>
   have e:(a::b::r).length-1=((b::r).length-1)+1:=by
    have h1:(a::b::r).length=r.length+2:=rfl;have h2:(b::r).length=r.length+1:=rfl;omega
   rw [e,List.eraseIdx_cons_succ,ih]
   all_goals rfl
section
variable {sq:Jc} {σ:St} {s:Sh} {l b:Ad} {xs ys zs:Jn}
def Inv.lset {its its':Jd} {n:Nat} {f:Array Vl->Array Vl} {t':Nat} (I:Inv X sq σ H s) (hH:H l=Z (.lst xs))
  (e:s.heap.get? l=Z { cls:=.type "list",data:=.seq its.toArray n }) (hf:f its.toArray=its'.toArray) (hv:Vals ys its') (hz:ys.length<=sL) :
  Inv X sq σ (upd H l (.lst ys)) { s with heap:=s.heap.update l (Obj.mapSeq f),toks:=t' }:=by
 have q:=PySem.IsL.update e f;rw [hf] at q;refine I.write (x:=l) (e:=l) (by rw [hH];exact trivial) (.inl rfl) (λb' u hb hu=>(Heap.get?_update_other s.heap (Obj.mapSeq f) (vQ hb)).trans hu) ⟨_,q⟩ ?_;exact ⟨hz,its',_,hv,q⟩
def Inv.lnew {its:Jd} {t':Nat} (I:Inv X sq σ H s) (hv:Vals ys its) (hz:ys.length<=sL) :
  Inv X sq σ (upd H s.heap.objs.size (.lst ys)) { s with heap:=s.heap.push { cls:=.type "list",data:=.seq its.toArray },toks:=t' } :=
 I.laid (λ_ _ q=>sV _ q) (sK _) ⟨hz,its,0,hv,tR _ rfl⟩
def Inv.fresh (I:Inv X sq σ H s):H s.heap.objs.size=Y:=I.hok.fresh (sK _)
def Inv.lstM (I:Inv X sq σ H s) (hH:H l=Z (.lst xs)):xs.length<=sL/\∃ (its:Jd) (n:Nat),Vals xs its/\xs.length=its.length/\s.heap.get? l=Z { cls:=.type "list",data:=.seq its.toArray n }:=by
 obtain ⟨z,its,n,r,e⟩:=I.hok l _ hH;exact ⟨z,its,n,r,r.length,e⟩
def notLongL {n:Nat} (h:n<=sL):Builtin.List.listTooLong n=false:=by
 unfold Builtin.List.listTooLong;exact decide_eq_false (by omega)
end
inductive rAppend (x:V) (vs:Jn) (H:Hp) (Q:VK):Prop
 | mk (l xs y:_) (_:x=.ref l) (_:vs=[y]) (_:H l=Z (.lst xs)) (_:xs.length<sL) (_:Q .non (upd H l (.lst (xs++[y]))))
def zQ:MtM X "list.append" rAppend:=by
 intro sq s σ H x vs v us Q I rx rv h;obtain ⟨l,xs,y,rfl,rfl,hH,hz,q⟩:=h;cases rx;obtain ⟨u,rfl,ru⟩:=rv.one;obtain ⟨z,its,n,r,hl,e⟩:=I.lstM hH;refine call_meets F.slot_list_append ⟨_,e,U⟩ F.entry_list_append (F.args_list_append_2 _ _) (PySem.list_append l its.toArray n u (by rw [tG];omega)) ⟨e,?_⟩;refine ⟨.non,_,I.lset (its':=its++[u]) hH e (by simp) (r.append (.cons ru .nil)) ?_,U,q⟩;rw [Jj,tF];omega
inductive rExtend (x:V) (vs:Jn) (H:Hp) (Q:VK):Prop
 | mk (l b:_) (xs zs:_) (_:x=.ref l) (_:vs=[.ref b]) (_:H l=Z (.lst xs)) (_:H b=Z (.lst zs)) (_:xs.length+zs.length<=sL) (_:Q .non (upd H l (.lst (xs++zs))))
def zcd:MtM X "list.extend" rExtend:=by
 intro sq s σ H x vs v us Q I rx rv h;obtain ⟨l,b,xs,zs,rfl,rfl,hH,hB,hz,q⟩:=h;cases rx;obtain ⟨u,rfl,ru⟩:=rv.one;cases ru;obtain ⟨z,its,n,r,hl,e⟩:=I.lstM hH;obtain ⟨z2,its2,n2,r2,hl2,e2⟩:=I.lstM hB;have hsz:its.toArray.size+its2.toArray.size<=sizeLine:=by rw [tG,tG];omega
 have hlong:¬ (!its.toArray.isEmpty && Builtin.List.listTooLong (its.toArray.size+its2.toArray.size))=true:=by
  rw [notLongL hsz,Bool.and_false];exact x1x
 refine call_meets F.slot_list_extend ⟨_,e,U⟩ F.entry_list_extend (F.args_list_extend_2 _ _)
  (AutoSeq1.list_extend_list_list_0 l its.toArray n b its2.toArray n2 hlong (by rw [tG];omega) (by omega)) ⟨e,e2,?_⟩
 refine ⟨.non,_,I.lset (its':=its++its2) hH e (by simp) (r.append r2) ?_,U,q⟩;rw [Jj];omega
inductive rPop (x:V) (vs:Jn) (H:Hp) (Q:VK):Prop
 | mk (l xs y:_) (_:x=.ref l) (_:vs=[]) (_:H l=Z (.lst xs)) (_:xs[xs.length-1]?=Z y) (_:Q y (upd H l (.lst xs.dropLast)))
def zbb:MtM X "list.pop" rPop:=by
 intro sq s σ H x vs v us Q I rx rv h;obtain ⟨l,xs,y,rfl,rfl,hH,hy,q⟩:=h;cases rx;have hus:=rv.zero;subst hus;obtain ⟨z,its,n,r,hl,e⟩:=I.lstM hH;obtain ⟨u,hu,ru⟩:=r.get hy
 have hy':its.toArray[its.toArray.size-1]?=Z u:=by
  show its.toArray[its.length-1]?=Z u;rw [← Array.getElem?_toList,← hl];exact hu
 refine call_meets F.slot_list_pop ⟨_,e,U⟩ F.entry_list_pop (F.args_list_pop_1 _) (MeetsSeq.list_pop_last l its.toArray n u hy' (by rw [tG];omega)) ⟨e,?_⟩;refine ⟨y,_,I.lset (its':=its.dropLast) hH e ?_ r.dropLast ?_,ru,q⟩
 .show its.toArray.eraseIdxIfInBounds (its.toArray.size-1)=its.dropLast.toArray
  rw [tG,List.eraseIdxIfInBounds_toArray,zgk]
 .rw [List.length_dropLast]
  omega
inductive rCat (x y:V) (H:Hp) (Q:VK):Prop
 | mk (l b:_) (xs zs:_) (_:x=.ref l) (_:y=.ref b) (_:H l=Z (.lst xs)) (_:H b=Z (.lst zs)) (_:xs.length+zs.length<=sL) (_:∀ p,H p=Y->Q (.ref p) (upd H p (.lst (xs++zs))))
def xG:OpR X (wQ .Add) rCat:=by
 intro sq s σ H x y v u Q I rx ry h;obtain ⟨l,b,xs,zs,rfl,rfl,hH,hB,hz,q⟩:=h;cases rx;cases ry;obtain ⟨z,its,n,r,hl,e⟩:=I.lstM hH;obtain ⟨z2,its2,n2,r2,hl2,e2⟩:=I.lstM hB;refine PySem.P.add_list e e2 ?_ (by rw [tG,tG];omega);have ea:its.toArray++its2.toArray=(its++its2).toArray:=by simp
 rw [ea];exact ⟨.ref _,_,I.lnew (t':=s.toks) (r.append r2) (by rw [Jj];omega),U,q _ I.fresh⟩
section
variable {A:Around} {E:Ja} {s:Sh}
set_option maxRecDepth 100000 in
end
end L2
namespace Att
open PySem PySem.W PySem.Calls PyProof.Rows
def zae {P:Params} {h:Heap}:∀ (ns:Jb) (vs:Jd),WellAll P h vs (ns.map WData.int)->IntsAre vs ns:=by
 intro ns
 induction ns with
 | nil =>
  intro vs w;rw [List.map_nil] at w;cases w;exact .nil
 | cons n ns ih =>
  intro vs w;rw [tz] at w
  cases w with
  | cons a b =>
   cases a;exact .cons _ _ (ih _ b)
def script_of {l:OpenLaw} {n:Nat} (hn:l.most=Z n) {P:Params} {h:Heap} {args:List WData} {vals:Jd}
  (hpre:l.row.toRowW.claim.pre args=true) (hwl:WellAll P h vals args) :
  ∃ a vs ns,vals=[tI a]/\args=[WData.list (ns.map WData.int)]/\h.get? a=Z { cls:=.type "list",data:=.seq vs.toArray }/\IntsAre vs ns/\ns.length<=n:=by
 have hsh:WShape.hasAll [] args [.list .int]=true:=(pre_splitW hpre).1;have hc:l.pre.holds [] { args:=args }=true:=(pre_splitW hpre).2;obtain ⟨d,r,rfl,h1,h2⟩:=hasAllW_cons hsh;obtain rfl:=hasAllW_nil h2;obtain ⟨xs,rfl,h3⟩:=hasW_list h1;obtain ⟨ns,rfl⟩:=items_int h3
 have hlen:ns.length<=n:=by
  unfold OpenLaw.pre at hc
  have h4:(WTm.not (.lt (.lit (.int (n:Int))) (.len (.arg 0)))).holds [] { args:=[.list (ns.map .int)] }=true:=by
   have h4:=(holds_andW hc).1;rw [hn] at h4;exact h4
  have h5:=condW_of h4 (w_not (w_lt w_lit (w_len_list (w_arg rfl))));rw [Ji] at h5;refine Nat.le_of_not_lt λq=>?_;have q':(n:Int)<((ns.length:Nat):Int):=by omega
  first
   | (rw [decide_eq_true q'] at h5;exact absurd h5 (by decide))
   | (simp at h5;omega)
 cases hwl with
 | cons w1 w2 =>
  cases w2
  cases w1 with
  | list ho hall=>exact ⟨_,_,ns,U,U,ho,zae ns _ hall,hlen⟩
def post_true (l:OpenLaw) (args:List WData):l.row.toRowW.claim.post args (.bool true) args=true :=
 postW_of (r:=l.row.toRowW) (X:=(true == true))
  (show WShape.has [] (.bool true) .bool=true by first | rfl | decide | simp [WShape.has,WShape.arms,WShape.armsAll])
  (show (WTm.eq .res (.lit (.bool true))).value [] { args:=args,res:=Z (.bool true),after:=args }=Z (.bool (true == true)) from w_eq_bool (w_res rfl) w_lit) rfl
def attach_call {l:OpenLaw} {n:Nat} {q:tV} {loose:Jf} {XP:(J0)->Heap->Prop} {YP:World->Heap->Prop} {d:DefRec}
  (hn:l.most=Z n) (hdf:d.params.defaults=[])
  (call:∀ (w:World) (s₀ s₁:Sh) (mg mb:J0) (fa:Ad) (o:Obj) (pm cd doc:Vl) (a:Ad) (vs:Jd) (ns:Jb),
   Ground q loose [] XP w s₀ mg mb s₁.heap->YP w s₁.heap ->
   s₁.heap.get? fa=Z o->o.data=.func (docDef d.name d.params d.body d.scope pm cd doc)->s₁.heap.CodeRec cd d.name->mg d.name=Z (.ref fa) ->
   s₁.heap.get? a=Z { cls:=.type "list",data:=.seq vs.toArray }->IntsAre vs ns->ns.length<=n->s₁.gens=#[] ->
   wB (model l.prog w) callerA (.call (.ref fa) ⟨[.ref a],[]⟩) (λr s'=>r=.ok (.ret (.bool true))/\OldK s₁.heap s'.heap/\s'.os=s₁.os/\AllBare s'.gens) s₁) :
  WalkO q loose XP YP l.row.toRowW d [] (λf vs=>PySem.call f vs):=by
 intro w s₀ s₁ mg mb G Y0_ fa o pm cd doc dV kV ho hd hcd hD hmg hg args vals as hpre hlay hrd hwl hlo;obtain rfl:dV=.none:=Dflts.none hD hdf;obtain rfl:kV=.none:=Dflts.noKw hD;obtain ⟨a,vs,ns,rfl,rfl,hobj,hints,hlen⟩:=script_of hn hpre hwl;refine enter_call (w9 (call w s₀ s₁ mg mb fa o pm cd doc a vs ns G Y0_ ho (fd_plain hd) hcd hmg hobj hints hlen hg) λr s' hq=>?_);obtain ⟨rfl,h2,h3,h4⟩:=hq;exact ⟨.inl ⟨.bool true,.bool true,[],U,λ_=>rfl,.bool true,post_true l _,λ_=>⟨List.Pairwise.nil,λ_ hm=>(nomatch hm)⟩⟩,h2,h3,h4⟩
section
variable {A:Around} {E:Ja} {s:Sh} {K:Frag}
end
end Att
namespace L2
open PySem PySem.Spec PyProof.Rows
theorem zb2:∀ {vs:Jd} {ns:Jb},IntsAre vs ns->Vals (ns.map V.int) vs
 | _,_,.nil=>.nil
 | _,_,.cons n t h=>.cons ⟨t,U⟩ (zb2 h)
def Only (H:Hp):Prop:=∀ b,H b=Y∨∃ o xs,H b=Z (.frz o (.lst xs))
def law_call {P:tV} {w:World} {K:Fg} {mg mb:J0} {CX:CXT} {k:Nat} {fa a:Ad} {fd:uk} {x:Str} {sp:Sp} {s₁:Sh} {vs:Jd} {ns:Jb}
  (KX:K.In s₁.heap) (hns:s₁.heap.Ns ti mg) (hb:s₁.heap.Ns builtinsNs mb) (hbb:∀ x:Str,x≠"__name__"->mb x=wb x) (hlim:s₁.heap.NoLimit) (hg:s₁.gens=#[])
  (ha:s₁.heap.get? a=Z { cls:=.type "list",data:=.seq vs.toArray }) (hi:IntsAre vs ns) (hl:ns.length<=sL) (hr:Room k callerA)
  (F:∀ base:Heap,K.In base->base.Ns ti mg->FnOk P w K mg base CX k fa fd [x] sp) (hbind:∀ (s:Sh) (u:Vl),BindsTo s fd ⟨[u],[]⟩ [(x,u)])
  (hsp:∀ H:Hp,Only H->SqL K H a (ns.map V.int)->sp [.ref a] H (λv _=>v=.bl true) λ_ _ _=>False)
  (hCX:∀ H e s',CX [] H s₁ (λ_ _ _=>False) e s'->False) :
  wB (model P w) callerA (.call (.ref fa) ⟨[.ref a],[]⟩) (λr s'=>r=.ok (.ret (.bool true))/\OldK s₁.heap s'.heap/\s'.os=s₁.os/\AllBare s'.gens) s₁:=by
 have rv:=zb2 hi;have lenV:=hi.length
 have core:∀ H:Hp,Only H->SqL K H a (ns.map V.int)->HOk P w H s₁.heap->(∀ b,H b≠Y->b=a)->(H a≠Y->K.lookup a=Y) ->
   wB (model P w) callerA (.call (.ref fa) ⟨[.ref a],[]⟩) (λr s'=>r=.ok (.ret (.bool true))/\OldK s₁.heap s'.heap/\s'.os=s₁.os/\AllBare s'.gens) s₁:=by
  intro H hO hS hok hA hK;have base_of:∀ {b:Ad} {o:Obj},s₁.heap.get? b=Z o->H b=Y->(hidT s₁.heap H).get? b=Z o:=λe n=>hidT_get e n
  have noA:∀ {b:Ad} {o:Obj} {es:Array DictEntry} {ep:Nat},s₁.heap.get? b=Z o->o.data=.dict es ep->H b=Y:=λ{b o es ep} e d=>by
   cases q:H b with
   | none=>rfl
   | some u =>
    have e':b=a:=hA b (by rw [q];simp);subst e';rw [ha] at e;cases e;have d':Data.seq vs.toArray _=Data.dict es ep:=d;cases d'
  have nsK:∀ {b:Ad} {m:J0},s₁.heap.Ns b m->(hidT s₁.heap H).Ns b m:=λ{b m} ⟨o,es,ep,e,d,r⟩=>⟨o,es,ep,base_of e (noA e d),d,r⟩
  have hKb:K.In (hidT s₁.heap H):=λb o e=>base_of (KX b o e) (by
   cases q:H b with
   | none=>rfl
   | some u =>
    have e':b=a:=hA b (by rw [q];simp);subst e';rw [hK (by rw [q];simp)] at e;cases e)
  have hM:Mod K mg (hidT s₁.heap H):=⟨hKb,nsK hns,⟨mb,nsK hb,hbb⟩,let ⟨mc,h1,h2⟩:=hlim;⟨mc,nsK h1,h2⟩⟩;have e0:Env0 P w K mg (hidT s₁.heap H) callerA [] s₁ H:=⟨U,hM,λb o e=>of_hidT e,Nat.le_of_eq (hidT_size _ _),trivial,λb hb=>absurd (show b∈([]:Jg) from hb) (by simp),hok,.of_eq hg⟩;refine w9 ((F _ hKb (nsK hns)).run callerA [] s₁ H ⟨[.ref a],[]⟩ [.ref a] [.ref a] _ _ hr e0 (hbind s₁ (.ref a)) (.cons rfl .nil) (hsp H hO hS)) λr s' h=>?_
  cases r with
  | error e=>exact (hCX H e s' h).elim
  | ok fl =>
   cases fl with
   | next=>exact uL h
   | brk=>exact uL h
   | cont=>exact uL h
   | ret u =>
    obtain ⟨v,H',os,bare,un,hok',r',q⟩:=h;have q':v=.bl true:=q;subst q';obtain rfl:u=Value.bool true:=r';refine ⟨U,OldK.of_keep λb o e=>?_,os,bare⟩
    cases q:H b with
    | none=>exact un.keep b o e q (by intro z;exact absurd (show b∈([]:Jg) from z) (by simp)) (by simp)
    | some u =>
     rcases hO b with z | ⟨ob,xs,z⟩
     .rw [q] at z;cases z
     .have z2:=un.frzs b ob _ z
      obtain ⟨e1,_⟩:=hok b _ z;obtain ⟨e2,_⟩:=hok' b _ z2;rw [e] at e1;cases e1;exact e2
 cases hk:K.lookup a with
 | some o =>
  have e:=KX a o hk;rw [ha] at e;cases e;refine core (λ_=>Y) (λ_=>.inl rfl) (.inr ⟨_,vs.toArray,_,hk,U,U,U,by rw [tG,lenV];exact hl,by simpa using rv⟩) (λb u z=>by have z':(Y:Option HO)=Z u:=z;cases z') (λb z=>absurd rfl z) λz=>absurd rfl z
 | none =>
  refine core (λb=>if b=a then Z (.frz { cls:=.type "list",data:=.seq vs.toArray } (.lst (ns.map V.int))) else Y) (λb=>?_) (.inl (.inr ⟨{ cls:=.type "list",data:=.seq vs.toArray },if_pos rfl⟩)) (λb u z=>?_) (λb z=>?_) λ_=>hk
  .by_cases hb:b=a
   .exact .inr ⟨_,_,if_pos hb⟩
   .exact .inl (if_neg hb)
  .by_cases hb:b=a
   .have z':=(if_pos hb).symm.trans z
    cases z';subst hb;exact ⟨ha,by rw [Ji];exact hl,vs,_,rv,ha⟩
   .have z':=(if_neg hb).symm.trans z
    cases z'
  .by_cases hb:b=a
   .exact hb
   .exact absurd (if_neg hb) z
def walk_of {l:PySem.W.OpenLaw} {n k:Nat} {q:tV} {loose:Jf} {XP:(J0)->Heap->Prop} {YP:World->Heap->Prop} {d:DefRec} {K:Params->Fg} {CX:World->CXT} {sp:World->Sp} {x:Str}
  (hn:l.most=Z n) (hn2:n<=sL) (hdf:d.params.defaults=[]) (hr:Room k callerA)
  (hY:∀ (w:World) (h:Heap),YP w h->(K w.params).In h)
  (F:∀ (w:World) (mg:J0) (fa:Ad) (h:Heap),(K w.params).In h->h.Ns ti mg->mg d.name=Z (.ref fa) ->
   ∃ fd:uk,(∀ (s:Sh) (u:Vl),BindsTo s fd ⟨[u],[]⟩ [(x,u)]) /\
    ∀ base:Heap,(K w.params).In base->base.Ns ti mg->FnOk l.prog w (K w.params) mg base (CX w) k fa fd [x] (sp w))
  (hsp:∀ (w:World) (H:Hp) (a:Ad) (ns:Jb),ns.length<=n->Only H->SqL (K w.params) H a (ns.map V.int)->sp w [.ref a] H (λv _=>v=.bl true) λ_ _ _=>False)
  (hCX:∀ (w:World) (H:Hp) (s:Sh) (e:Vl) (s':Sh),CX w [] H s (λ_ _ _=>False) e s'->False) :
  PySem.W.WalkO q loose XP YP l.row.toRowW d [] (λf vs=>PySem.call f vs):=by
 refine Att.attach_call hn hdf λw s₀ s₁ mg mb fa o pm cd doc a vs ns G Y0_ ho hd hcd hmg hobj hints hlen hg=>?_;have KX:=hY w _ Y0_;obtain ⟨fd,hb,hF⟩:=F w mg fa _ KX G.T.g hmg;exact law_call KX G.T.g G.T.b G.T.builtins G.T.nolimit hg hobj hints (tE hlen hn2) hr hF hb (λH hO hS=>hsp w H a ns hlen hO hS) λH e s'=>hCX w H s₁ e s'
end L2
/- THE LAST THEOREM (shape;LID,My.* are yours):
   My.Adr: a structure of the addresses that your layer names (classes,functions);My.Txt K t: a structure (Prop) of the equations over K;
   My.txt_mk:{K} {implicit addresses ..} (e1:nsIn K ti "law"=Z (Z (.ref f))) (e2:K.lookup f=Z ⟨oc,od,.func (fnOf "law" "law" params body sE dV kV doc pm an sA ct),sl⟩) (e3:codeIn K sA "law"=true) ..:∃ t,My.Txt K t
set_option maxRecDepth 100000 in
set_option maxHeartbeats 0 in
(the tactic k_is has no namespace: write k_is) -/
namespace L2
open PySem PySem.Spec PyProof.Rows
def z5 (s:Stmt) (j:Nat):Stmt:=match s with
 | .ClassDef _ _ _ body _ _ _ _ _ _ _=>body.getD j (.Pass ⟨0,0,0,0⟩)
 | _=>.Pass ⟨0,0,0,0⟩
def yd (s:Stmt):Arguments:=match s with
 | .FunctionDef _ a _ _ _ _ _ _ _ _=>a
 | _=>{ posonlyargs:=[],args:=[],vararg:=Y,kwonlyargs:=[],kw_defaults:=[],kwarg:=Y,defaults:=[] }
def zS (s:Stmt):List Stmt:=match s with
 | .FunctionDef _ _ b _ _ _ _ _ _ _=>b
 | _=>[]
def zf (s:Stmt):Scope:=match s with
 | .FunctionDef _ _ _ _ _ _ sc _ _ _=>sc
 | _=>{ kind:=.function,names:=[],isGenerator:=false,isCoroutine:=false }
abbrev CX0:CXT:=λ_ _ _ _ _ _=>False
abbrev E0:XK:=λ_ _ _=>False
def zv {X:Cx}:Passes CX0 X E0:=λ_ _ _ _ _ _ _ h=>h.elim
structure Fun (K:Fg) (x sy:Str) (st:Stmt) (f:Ad) (fd:uk):Prop where
 ex:∃ (oc:Vl) (od:Option Ad) (kV doc pm:Vl) (an:Option Ad) (sA ct:Vl) (osl:Array (Je)),
  fd=tS x sy (yd st) (zS st) (zf st) .none kV doc pm an sA ct/\K.lookup f=Z ⟨oc,od,.func fd,osl⟩/\ur K sA sy=true
 kp:tj K (.ref f)=true
section
variable {K:Fg} {base:Heap}
def Fun.ok {x sy:Str} {st:Stmt} {f:Ad} {fd:uk} {N ps:Jf} {k:Nat} {sp:Sp} (F:Fun K x sy st f fd) (S:FnScope N ps (zf st)) (len:∀ vs H Q E,sp vs H Q E->vs.length=ps.length)
  (hbody:∀ (sA:Vl) (A:Around) (outer:List Env) (s:Sh) (H:Hp) (vs:Jn) (Q:VK) (E:XK),Room k (A.deeper (envOfC sy (zf st) s.heap.objs.size f sA))->sp vs H Q E ->
   ∃ t,PSs (Zl CX0 P w K mg base N sy (zf st) f sA A outer s H E).nox (zS st) t/\t { nx:=λ_ H'=>Q .non H',rt:=Q } (start N vs) H):FnOk P w K mg base CX0 (k+1) f fd ps sp:=by
 obtain ⟨oc,od,kV,doc,pm,an,sA,ct,osl,rfl,lk,hcd⟩:=F.ex;refine fn_of lk hcd S len λA outer s H vs Q E hr hsp=>?_;obtain ⟨t,h,q⟩:=hbody sA A outer s H vs Q E hr hsp;exact ⟨t,h.nox,q⟩
def Fun.binds {x sy:Str} {st:Stmt} {f:Ad} {fd:uk} {ps:Jf} (F:Fun K x sy st f fd)
  (h:∀ (kV doc pm:Vl) (an:Option Ad) (sA ct:Vl) (us:Jd),us.length=ps.length->bindArgs (tS x sy (yd st) (zS st) (zf st) .none kV doc pm an sA ct) ⟨us,[]⟩=pure (ps.zip us)):Binds K fd ps []:=by
 obtain ⟨oc,od,kV,doc,pm,an,sA,ct,osl,rfl,lk,hcd⟩:=F.ex;exact .all (h kV doc pm an sA ct)
def Xh {x sy:Str} {st:Stmt} {f:Ad} {oc:Vl} {od an:Option Ad} {osl:Array (Je)} {kV doc pm sA ct:Vl} (l:K.lookup f=Z ⟨oc,od,.func (tS x sy (yd st) (zS st) (zf st) .none kV doc pm an sA ct),osl⟩)
  (c:ur K sA sy=true) (k:tj K (.ref f)=true):Fun K x sy st f (tS x sy (yd st) (zS st) (zf st) .none kV doc pm an sA ct):=⟨⟨oc,od,kV,doc,pm,an,sA,ct,osl,U,l,c⟩,k⟩
end
def pv (i:Nat) {x:Str} {pos:Pos} (hN:X.N[i]?=Z x:=by rfl) (hv:Vis X.env.scope x:=by first | exact vG rfl | exact Or.inr (vG rfl) | exact Or.inr (Or.inr rfl)) (hd:(x == ("__debug__":Str))=false:=by decide)
  (hcd:(x == ("__classdict__":Str))=false:=by decide):PE X (.Name x pos) (tVar i):=pe_var hN hv hd hcd
def zy {A B:Prop} (h:B):if false=true then A else B:=by
 rw [if_neg x1x];exact h
def zL {A B:Prop} (h:A):if true=true then A else B:=by
 rw [if_pos rfl];exact h
def yu {c A B:Prop} [Decidable c] (h1:c->A) (h2:¬ c->B):if c then A else B:=by
 by_cases h:c
 .rw [if_pos h]
  exact h1 h
 .rw [if_neg h]
  exact h2 h
def Same (H H':Hp):Prop:=∀ b o,H b=Z o->H' b=Z o
def Same.refl (H:Hp):Same H H:=λ_ _ h=>h
def Same.trans {H H1 H2:Hp} (a:Same H H1) (b:Same H1 H2):Same H H2:=λc o h=>b c o (a c o h)
def Same.free {H H':Hp} (e:Same H H') {l:Ad} (h:H' l=Option.none):H l=Option.none:=by
 cases q:H l with
 | none=>rfl
 | some o =>
  rw [e l o q] at h;cases h
structure Fly (base:Heap) (outer:List Env) (H:Hp) (s h:Heap) (e:Ad) (cls:Vl):Prop where
 stays:base.StaysIn h
 frames:h.FunFrames base outer
 baseE:base.get? e=Y
 newE:s.get? e=Y
 freeE:H e=Y
 tr:∃ oe vs T oT ts,h.get? e=Z oe/\oe.cls=cls/\oe.data=.fields vs/\vs[1]?=Z (.ref T)/\T≠e/\h.get? T=Z oT/\oT.data=.fields ts/\ts[3]?=Z .none/\base.get? T=Y/\s.get? T=Y/\H T=Y
def CXe (P:tV) (w:World) (base:Heap):CXT:=λouter H s E e s' =>
 ∃ (ea C:Ad) (H':Hp),e=.ref ea/\s'.os=s.os/\AllBare s'.gens/\Un (frs outer) [] H H' s.heap s'.heap/\HOk P w H' s'.heap/\Fly base outer H' s.heap s'.heap ea (.ref C)/\E (.ref C) Y H'
section
variable {sq:Jc} {σ:St} {s:Sh} {e:Ad} {cls:Vl}
end
section
variable {sq:Jc} {σ:St} {s s':Sh} {e:Ad} {cls:Vl}
end
section
variable {K:Fg} {base:Heap} {N:Jf} {sy:Str} {sE:Scope} {f:Ad} {cd:Vl} {A:Around} {outer:List Env} {s:Sh} {E:XK}
end
end L2
namespace My
open PySem PySem.Spec PySem.Calls PySem.W PyProof.Rows PySem.Builtin PySem.Builtin.ObjectAttr PySem.Builtin.Getset_descriptor
def ClsAt (x D:Ad) (h:Heap):Prop:=∃ o,h.get? x=Z o/\o.cls=.ref D
def XC {x D:Ad} (M:Model) (h:Heap) (p:ClsAt x D h):Looks M h (typeOf (.ref x)) (.ref D):=by
 obtain ⟨o,a,b⟩:=p;exact b ▸ (Looks.ld a).andThen .now
def find_data {K:Frag} {M:Model} {h:Heap} (X:K.In h) {x D:Ad} {name:Str} {g a:Vl} (ha:findIn K (.ref D) name=Z (Z a)) (hn:specialIn K a "__get__"=Z (Z g)) (htk:takesIn K a=Z true) :
  Looks M h (find (.ref x) (.ref D) name) (.bind g a) :=
 (looks_findIn X ha).andThen ((show Looks M h (getOf (Z a)) (Z g) from looks_specialIn X hn).andThen ((show Looks M h (dataDescriptor? (Z a) (Z g)) (Z (g,a)) from (looks_takesIn X htk).andThen .now).andThen (Looks.tag .now)))
section
variable {A:Around} {E:Ja} {s:Sh} {K:Frag} {x D:Ad} {R:Result->Sh->Prop}
def class_of {tp:Vl} (X:K.In s.heap) (p:ClsAt x D s.heap) (hm:mroIn K D (.type "object")=Z true) (h:R (.ok (.ret (.ref D))) s) :
  wB (model prog w) A (.call (.builtin "getset_descriptor.__get__") ⟨[.builtin "object.__class__",.ref x,tp],[]⟩) R s:=by
 obtain ⟨h0,g0,d0,t0,o0⟩:=s;have T0:=XC (model prog w) h0 p;have T1:=looks_mroIn (M:=model prog w) X hm;refine vE KF.slot_gs.plain KF.entry_gs (KF.slot_gs.check _ _ _ _ _ _ _ _ KF.type_class (KF.args_gs _ _ _) ?_);unfold Builtin.«getset_descriptor.__get__» descrGet;rw [dga_obj];refine q0x (q0y ?_);unfold descrGetter descrCheckInstance descrNameAndClass isInstance;simp only [KF.owner_class]
 repeat lk
 refine ⟨Code.quiet_builtin _ (by decide +kernel),codeAny_builtin KF.entry_class ?_⟩;unfold Builtin.«object.__class__» shownTypeOf
 repeat lk
 exact h
def ga_check {M:Model} {Q:Unit->Sh->Prop} {nameV:Vl} {h0:Heap} {g0:Array GenState} {d0:Drawn} {t0:Nat} {o0:OsState} (T0:Looks M h0 (typeOf (.ref x)) (.ref D)) (TS:Looks M h0 (isSubtype (.ref D) (.type "BaseException")) true) (hq:Q () ⟨h0,g0,d0,t0,o0⟩) :
  wpAny M A (checkBuiltinCall "BaseException.__getattribute__" ⟨[.ref x,nameV],[]⟩) Q E ⟨h0,g0,d0,t0,o0⟩:=by
 have e1:builtinKind "BaseException.__getattribute__"=Z .slot:=by decide +kernel
 have e2:splitId "BaseException.__getattribute__"=Z ("BaseException","__getattribute__"):=by decide +kernel
 have e3:=F.args_bexc_ga (.ref x) nameV;simp only [checkBuiltinCall,e1,e2];refine q0x ?_;unfold isInstance
 repeat (first | lk | wp_step)
 exact hq
def ga_entry {Q:Fin->Sh->Prop} {tk:Tok} {h0:Heap} {g0:Array GenState} {d0:Drawn} {t0:Nat} {o0:OsState} (X:K.In h0) (p:ClsAt x D h0) (ha:findIn K (.ref D) "__class__"=Z (Z (.builtin "object.__class__")))
  (hn:specialIn K (.builtin "object.__class__") "__get__"=Z (Z (.builtin "getset_descriptor.__get__"))) (htk:takesIn K (.builtin "object.__class__")=Z true) (hm:mroIn K D (.type "object")=Z true) (hq:Q (.done (.ret (.ref D))) ⟨h0,g0,d0,t0,o0⟩) :
  wpAny (model prog w) A (Builtin.«object.__getattribute__» ⟨[.ref x,.str "__class__" tk],[]⟩) Q E ⟨h0,g0,d0,t0,o0⟩:=by
 have T0:=XC (model prog w) h0 p;have T2:=find_data (M:=model prog w) X (x:=x) ha hn htk;unfold Builtin.«object.__getattribute__»;refine q0x (q0y ?_)
 repeat (first | (with_reducible refine q0x (T0.at ?_)) | (with_reducible refine q0x (T2.at ?_)) | wp_step)
 refine class_of (s:=⟨h0,g0,d0,t0,o0⟩) X p hm ?_
 repeat (any_goals (first | assumption | wp_step))
def zgq {Q:Je->Sh->Prop} (hg:findIn K (.ref D) "__getattribute__"=Z (Z (.builtin "BaseException.__getattribute__"))) (hgg:findIn K (.ref D) "__getattr__"=Z Y) (hsb:subIn K (.ref D) (.type "BaseException")=Z true) (ha:findIn K (.ref D) "__class__"=Z (Z (.builtin "object.__class__")))
  (hn:specialIn K (.builtin "object.__class__") "__get__"=Z (Z (.builtin "getset_descriptor.__get__"))) (htk:takesIn K (.builtin "object.__class__")=Z true) (hm:mroIn K D (.type "object")=Z true)
  (X:K.In s.heap) (p:ClsAt x D s.heap) (h:Q (Z (.ref D)) { s with toks:=s.toks+1 }):wpAny (model prog w) A (getAttr? (.ref x) "__class__") Q E s:=by
 obtain ⟨h0,g0,d0,t0,o0⟩:=s;have T0:=XC (model prog w) h0 p;have T1:=looks_findIn (M:=model prog w) X hg;have T3:=looks_findIn (M:=model prog w) X hgg;have TS:=looks_subIn (M:=model prog w) X hsb;have f3:=F.excAttr_ValueError.ga.bind (.ref x);have hx2:(Value.builtin "BaseException.__getattribute__" == Value.builtin "object.__getattribute__")=false:=by decide +kernel
 have hx1:(onTheHeap (tI D) && Value.builtin "BaseException.__getattribute__" == Value.builtin "object.__getattribute__")=false:=by rw [hx2];rfl
 unfold getAttr? getAttrBy? getAttrBy;refine q0x (wpAny_mkText (q0x (wpAny_attempt (wpAny_holding (q0x (T0.at (q0x (T1.at ?_))))))));dsimp only;rw [if_neg (by rw [hx1];exact x1x)];unfold getAttrByItsOwn hookBefore;rw [if_pos (show onTheHeap (tI D)=true from rfl)];refine q0x (T3.at ?_)
 repeat (any_goals (first | assumption | wp_step | lk))
 refine vE F.excAttr_ValueError.ga.plain F.entry_bexc_ga (ga_check T0 TS (ga_entry (K:=K) X p ha hn htk hm ?_))
 repeat (any_goals (first | assumption | wp_step))
def kitx_exc (hg:findIn K (.ref D) "__getattribute__"=Z (Z (.builtin "BaseException.__getattribute__"))) (hgg:findIn K (.ref D) "__getattr__"=Z Y) (hsb:subIn K (.ref D) (.type "BaseException")=Z true) (hd:hasDictIn K D=true) (ha:findIn K (.ref D) "__class__"=Z (Z (.builtin "object.__class__")))
  (hn:specialIn K (.builtin "object.__class__") "__get__"=Z (Z (.builtin "getset_descriptor.__get__"))) (htk:takesIn K (.builtin "object.__class__")=Z true) (hm:mroIn K D (.type "object")=Z true) :
  KitX K (.ref x) (.ref D) (ClsAt x D) where
 ty:=λM h _ p=>XC M h p
 it:=λM h X _=>by
  obtain ⟨c,hc,_⟩:=any_some hd;unfold clsIn at hc
  split at hc
  .rename_i u1 u2 u3 u4 ho
   intro A' Q' E' s' k q;unfold isType loadHead;exact q0x (wpAny_loadPart (k _ _ (X _ _ ho)) (q0y q))
  .cases hc
 ne:=λh tp dd its n sl X e=>by
  obtain ⟨c,hc,_⟩:=any_some hd;refine vc.mpr λq=>?_;obtain rfl:D=tp:=Value.ref.inj (beq_iff_eq.mp q);unfold clsIn at hc
  split at hc
  .rename_i u1 u2 u3 u4 ho
   have z:=(X _ _ ho).symm.trans e;cases z
  .cases hc
 ca:=λX p k=>zgq hg hgg hsb ha hn htk hm X p k
end
end My
namespace L2
open PySem PySem.Spec PyProof.Rows
section
variable {sq:Jc} {σ:St} {s s':Sh} {e C:Ad}
def excO (e C:Ad):HO:=.ext (My.ClsAt e C)
end
section
variable {sq:Jc} {σ σ₀:St} {s s':Sh} {R:Ad->Hp->Prop}
def PE1 (X:Cx) (σ₀:St) (e:Expr) (t:TE):Prop :=
 ∀ (sq:Jc) (s:Sh) (H:Hp) (Q:VK),Inv X sq σ₀ H s->t σ₀ H Q->wpAny (model X.prog X.w) X.A (eval e X.env) (EP X sq σ₀ Q) X.xe s
def zeb (CX:CXT) (X:Cx) (σ₀:St) (E:XK):Prop:=∀ (sq:Jc) (H:Hp) (s:Sh) (e:Vl) (s':Sh),Inv X sq σ₀ H s->CX X.stack H s E e s'->X.xe e s'
def Passes.one {CX:CXT} {E:XK} (h:Passes CX X E):zeb CX X σ₀ E:=λsq H s e s' I q=>h sq σ₀ H s e s' I q
def run_fn1 {CX:CXT} {k:Nat} {f:Ad} {fd:uk} {ps:Jf} {sp:Sp} {dvs:Jn} {ds:Jd} {E:XK} {Q:VK} {us:Jd} {vs:Jn} (F:FnOk X.prog X.w X.K X.mg X.base CX k f fd ps sp) (hr:Room k X.A) (hb:Binds X.K fd ps ds) (hd:Vals dvs ds) (hx:zeb CX X σ₀ E)
  (I:Inv X sq σ₀ H s) (r:Vals vs us) (h:sp (vs++dvs) H Q E):wpAny (model X.prog X.w) X.A (call (.ref f) us) (EP X sq σ₀ Q) X.xe s:=by
 have r2:Vals (vs++dvs) (us++ds):=r.append hd;have hl:(us++ds).length=ps.length:=by rw [← r2.length];exact F.len _ _ _ _ h
 refine wpAny_call (w9 (F.run X.A X.stack s H ⟨us,[]⟩ (us++ds) (vs++dvs) Q E hr I.env0 (hb s us I.kIn hl) r2 h) λr s' hq=>?_)
 cases r with
 | error e=>exact hx sq H s e s' I hq
 | ok fl =>
  cases fl with
  | ret u=>exact I.after hq
  | next=>exact uL hq
  | brk=>exact uL hq
  | cont=>exact uL hq
def PE1.all {e:Expr} {t:TE} (h:∀ σ₀,PE1 X σ₀ e t):PE X e t:=λsq s σ H Q I q=>h σ sq s H Q I q
end
def YQ (w:World) (K:Fg) (a:Ad):Prop:=∃ es n,K.lookup a=Z ⟨.type "dict",Y,.dict es n,#[]⟩/\wc w.params es.toList
section
variable {a:Ad} {ke:Expr} {tk:TE} {p pos:Pos} {D:Str}
def top_item {sq:Jc} {σ:St} {H:Hp} {s:Sh} {x:Str} {t:Tok} {u:Vl} {A:Around} {E:Ja} {Q:Ja} (I:Inv X sq σ H s) (T:YQ X.w X.K a) (e:sY X.K a x=Z (Z u)) (h:Q u { s with toks:=s.toks+1 }) :
  wpAny (model X.prog X.w) A (getItem (.ref a) (.str x t)) Q E s:=by
 obtain ⟨es,n,hl,hk⟩:=T;exact wpAny_getItem_of (strKind_is X.prog X.w x t) (PySem.W.mapOf_K (prog:=X.prog) I.kIn hl hk) (PySem.W.find_K hl e) h
def top_in {sq:Jc} {σ:St} {H:Hp} {s:Sh} {x:Str} {t:Tok} {r:Je} {A:Around} {E:Ja} {Q:Ja} (I:Inv X sq σ H s) (T:YQ X.w X.K a) (e:sY X.K a x=Z r) (lo:(a == uN)=false) (h:Q (.bool r.isSome) { s with toks:=s.toks+1 }) :
  wpAny (model X.prog X.w) A (uA .In (.str x t) (.ref a)) Q E s:=by
 obtain ⟨es,n,hl,hk⟩:=T;exact wpAny_in_of (strKind_is X.prog X.w x t) lo (PySem.W.mapOf_K (prog:=X.prog) I.kIn hl hk) (by rw [PySem.W.find_K hl e];exact h)
inductive rTopIn (w:World) (K:Fg) (x y:V) (H:Hp) (Q:VK):Prop
 | mk (k:Str) (a:Ad) (r:Je) (_:x=.str k) (_:y=.ref a) (_:YQ w K a) (_:(a == uN)=false) (_:sY K a k=Z r) (_:Q (.bl r.isSome) H)
def XN:OpR X (uA .In) (rTopIn X.w X.K):=by
 intro sq s σ H x y v u Q I rx ry h;obtain ⟨k,a,r,rfl,rfl,T,lo,e,q⟩:=h;obtain ⟨t,rfl⟩:=(show ∃ t,v=uT k t from rx);cases (show u=tI a from ry);exact top_in I T e lo ⟨.bl r.isSome,H,I.tok _,U,q⟩
inductive tCallV_S (P:tV) (w:World) (K:Fg) (mg:J0) (base:Heap) (CX:CXT) (k:Nat) (E:XK) (t:TA) (σ:St) (Q:VK) (x:V) (H1:Hp):Prop
 | mk (f:Ad) (fd:uk) (ps:Jf) (sp:Sp) (_:x=.ref f) (_:FnOk P w K mg base CX k f fd ps sp) (_:tj K (.ref f)=true) (_:Binds K fd ps []) (_:t σ H1 λvs H2=>sp vs H2 Q E)
def tCallV (P:tV) (w:World) (K:Fg) (mg:J0) (base:Heap) (CX:CXT) (k:Nat) (E:XK) (tf:TE) (t:TA):TE:=λσ H Q=>tf σ H λx H1=>tCallV_S P w K mg base CX k E t σ Q x H1
def pe_callV {CX:CXT} {k:Nat} {E:XK} {func e:Expr} {es:Jh} {tf:TE} {t:TA} (hf:PE X func tf) (hr:Room k X.A) (hx:Passes CX X E) (ha:PA X (e::es) t)
  (he:tN (e::es) X.env=(false,eval e X.env)::tN es X.env:=by rfl) (hpl:(backTo pos (tN es X.env)).any (·.1)=false:=by rfl)
  (hc:eval (.Call func (e::es) [] pos) X.env=(do callWith pos (← eval func X.env) [] (backTo pos (tN (e::es) X.env)) (vj pos (uH [] X.env))):=by rfl) :
  PE X (.Call func (e::es) [] pos) (tCallV X.prog X.w X.K X.mg X.base CX k E tf t):=by
 intro sq s σ H Q I h;refine Call_ (thn (hf sq s σ H _ I h) λu s1 ⟨x,H1,I1,rx,f,fd,ps,sp,ex,F,hk,hb,q⟩=>?_) hc;subst ex;obtain rfl:u=tI f:=rx;refine wk (h₀:=X.base) I.ok.mod.kin hk (thn (ha pos sq s1 σ H1 _ I1 q) λus s2 ⟨vs,H2,I2,r,q2⟩=>⟨I2.kIn,?_⟩) he hpl;exact run_fn (dvs:=[]) (ds:=[]) F hr hb .nil hx I2 r (by simpa using q2)
end
inductive rIxTop (w:World) (K:Fg) (x y:V) (H:Hp) (Q:VK):Prop
 | mk (a:Ad) (k:Str) (u:Vl) (v:V) (_:x=.ref a) (_:y=.str k) (_:YQ w K a) (_:sY K a k=Z (Z u)) (_:RelV v u) (_:Q v H)
def ix_top:IxR X (rIxTop X.w X.K):=by
 intro value slice sq s σ H x y v u Q I rx ry h hs;obtain ⟨a,k,u',z,rfl,rfl,T,e,r,q⟩:=h;cases (show v=tI a from rx);obtain ⟨t,rfl⟩:=(show ∃ t,u=uT k t from ry);have T':=T;obtain ⟨es,n,hl,hk⟩:=T';exact tail_any (PySem.W.mapOf_K (prog:=X.prog) I.kIn hl hk).typeIs slot_dict_getitem.lookup (top_item I T e ⟨z,H,I.tok _,r,q⟩) hs
structure ExcCls (K:Fg) (C:Ad):Prop where
 hg:t6 K (.ref C) "__getattribute__"=Z (Z (.builtin "BaseException.__getattribute__"))
 hgg:t6 K (.ref C) "__getattr__"=Z Y
 hsb:PySem.W.subIn K (.ref C) (.type "BaseException")=Z true
 hd:vP K C=true
 ha:t6 K (.ref C) "__class__"=Z (Z (.builtin "object.__class__"))
 hn:tP K (.builtin "object.__class__") "__get__"=Z (Z (.builtin "getset_descriptor.__get__"))
 ht:tT K (.builtin "object.__class__")=Z true
 hm:u9 K C (.type "object")=Z true
def TyX (K:Fg) (H:Hp) (x:V) (t:Vl):Prop:=TyOf K H x t∨∃ e C,x=.ref e/\H e=Z (excO e C)/\t=.ref C/\ExcCls K C
inductive rIsi (K:Fg) (vs:Jn) (H:Hp) (Q:VK):Prop
 | mk (x c:V) (cv t:Vl) (b:Bool) (_:vs=[x,c]) (_:RelV c cv) (_:(∀ u,RelV c u->u=cv)) (_:TyX K H x t) (_:sC K t cv=Z b) (_:Q (.bl b) H)
def zA:ZY X (.builtin "isinstance") (rIsi X.K):=by
 intro sq s σ H xs us Q I r h;obtain ⟨x,c,cv,t,b,rfl,rc,ic,ty,e,q⟩:=h;obtain ⟨u,w',rfl,ru,rw'⟩:=vals2 r;cases ic w' rw';rcases ty with ty | ⟨ea,C,rfl,he,rfl,ec⟩
 .exact isinst_ok I ru ty e λtk=>⟨.bl b,H,I.tok _,U,q⟩
 .cases (show u=tI ea from ru)
  obtain ⟨p,_⟩:=(show ObjOk X.prog X.w H s.heap ea (excO ea C) from I.hok ea _ he);exact uC (My.kitx_exc ec.hg ec.hgg ec.hsb ec.hd ec.ha ec.hn ec.ht ec.hm) I.kIn p e (λz=>nomatch z) λtk=>⟨.bl b,H,I.tok _,U,q⟩
def zU {P:tV} {w:World} {base:Heap} {X:Cx}:Passes (CXe P w base) X E0:=λ_ _ _ _ _ _ _ h=>by
 obtain ⟨_,_,_,_,_,_,_,_,_,q⟩:=h;exact q.elim
section
variable {K:Fg} {base:Heap}
def Fun.okE {x sy:Str} {st:Stmt} {f:Ad} {fd:uk} {N ps:Jf} {k:Nat} {sp:Sp} (F:Fun K x sy st f fd) (S:FnScope N ps (zf st)) (len:∀ vs H Q E,sp vs H Q E->vs.length=ps.length)
  (hbody:∀ (sA:Vl) (A:Around) (outer:List Env) (s:Sh) (H:Hp) (vs:Jn) (Q:VK) (E:XK),Room k (A.deeper (envOfC sy (zf st) s.heap.objs.size f sA))->sp vs H Q E ->
   ∃ t,PSs (Zl (CXe P w base) P w K mg base N sy (zf st) f sA A outer s H E) (zS st) t/\t { nx:=λ_ H'=>Q .non H',rt:=Q } (start N vs) H):FnOk P w K mg base (CXe P w base) (k+1) f fd ps sp:=by
 obtain ⟨oc,od,kV,doc,pm,an,sA,ct,osl,rfl,lk,hcd⟩:=F.ex;exact fn_of lk hcd S len λA outer s H vs Q E hr hsp=>hbody sA A outer s H vs Q E hr hsp
def zj (K:Fg) (mg:J0) (x:Str) (st:Stmt) (ps:Jf):Prop:=∃ (f:Ad) (fd:uk),mg x=Z (.ref f)/\Fun K x x st f fd/\Binds K fd ps []
def defIn_mk {h:Heap} {x:Str} {st:Stmt} {ps:Jf} {f:Ad} {oc:Vl} {od an:Option Ad} {osl:Array (Je)} {kV doc pm sA ct:Vl} (X:K.In h) (G:h.Ns ti mg)
  (a:sY K ti x=Z (Z (.ref f))) (l:K.lookup f=Z ⟨oc,od,.func (tS x x (yd st) (zS st) (zf st) .none kV doc pm an sA ct),osl⟩)
  (c:ur K sA x=true) (k:tj K (.ref f)=true)
  (b:∀ (kV doc pm:Vl) (an:Option Ad) (sA ct:Vl) (us:Jd),us.length=ps.length->bindArgs (tS x x (yd st) (zS st) (zf st) .none kV doc pm an sA ct) ⟨us,[]⟩=pure (ps.zip us)):zj K mg x st ps :=
 ⟨f,_,PySem.W.mg_of X G a,Xh l c k,(Xh l c k).binds b⟩
def Ok (P:tV) (w:World) (K:Fg) (mg:J0) (base:Heap) (CX:CXT) (k:Nat) (x:Str) (ps:Jf) (sp:Sp):Prop :=
 ∃ (f:Ad) (fd:uk),mg x=Z (.ref f)/\tj K (.ref f)=true/\Binds K fd ps []/\FnOk P w K mg base CX k f fd ps sp
end
def zo {X:Cx} {CX:CXT} {k:Nat} {x:Str} {ps:Jf} {sp:Sp} {E:XK} {p pos:Pos} {e:Expr} {es:Jh} {t:TA} (o:Ok X.prog X.w X.K X.mg X.base CX k x ps sp) (hr:Room k X.A) (hg:Gl X x) (hx:Passes CX X E) (ha:PA X (e::es) t)
  (hdb:(x == ("__debug__":Str))=false:=by decide) (he:tN (e::es) X.env=(false,eval e X.env)::tN es X.env:=by rfl) (hpl:(backTo pos (tN es X.env)).any (·.1)=false:=by rfl) :
  PE X (.Call (.Name x p) (e::es) [] pos) (tCall sp [] E t):=by
 obtain ⟨f,fd,a,b,c,d⟩:=o;exact pe_call d hr hg a b c .nil hx ha hdb he hpl
inductive sp1 (g:Int->V) (vs:Jn) (H:Hp) (Q:VK) (_:XK):Prop
 | mk (n:_) (_:vs=[.int n]) (_:Q (g n) H)
def len1 {g:Int->V}:∀ vs H Q E,sp1 g vs H Q E->vs.length=1:=by rintro vs H Q E ⟨n,e,_⟩;rw [e];rfl
def yt {X:Cx} {x:Str} {i:Int} {t:Tok} {pos:Pos} (hm:X.mg x=Z (.int i t)) (hg:Gl X x:=by rfl) (hd:(x == ("__debug__":Str))=false:=by decide):PE X (.Name x pos) (tC (.int i)):=zdf hg hm (v:=.int i) ⟨_,U⟩ hd
def zK {X:Cx} {x:Str} {a:Ad} {pos:Pos} (hm:X.mg x=Z (.ref a)) (hg:Gl X x:=by rfl) (hd:(x == ("__debug__":Str))=false:=by decide):PE X (.Name x pos) (tC (.ref a)):=zdf hg hm (v:=.ref a) rfl hd
def Y8 {X:Cx} {x:Str} {n:String} {pos:Pos} (hm:X.mg x=Y) (hv:wb x=Z (.type n)) (hg:Gl X x:=by rfl) (hn:x≠"__name__":=by decide) (hd:(x == ("__debug__":Str))=false:=by decide):PE X (.Name x pos) (tC (.ty n)):=pe_bltn hg hm hv (v:=.ty n) rfl hn hd
abbrev Cx.comp (X:Cx) (sE:Scope) (cl:List (Str×Ad)) (NY:Jf) (s3:Sh) (H3:Hp) (fp:Jg):Cx :=
 { X with N:=NY,s₀:=s3,H₀:=H3,env:=uQ sE cl s3.heap.objs.size X.env,outer:=X.stack,ex:=fp,fn:=λ_=>false,pn:=[],xe:=λ_ _=>False }
abbrev Lz:Obj:={ cls:=.type "list",data:=.seq ([]:Jd).toArray }
abbrev pz (s:Sh):Sh:={ s with heap:=s.heap.push Lz }
abbrev Xz (X:Cx) (sE:Scope) (cl:List (Str×Ad)) (NY:Jf) (s2:Sh) (H2:Hp) (fp:Jg):Cx:=X.comp sE cl NY (pz s2) (upd H2 s2.heap.objs.size (.lst [])) fp
structure Sees (X:Cx) (sE:Scope) (cl:List (Str×Ad)):Prop where
 kind:sE.kind=.function
 clos:closureFor sE X.env=pure cl
 nocell:∀ y∈sE.names,y.2≠.cell
 names:∀ y∈sE.names,y.2=.local->sE.names.lookup y.1=Z .local
 sub:∀ x c,cl.lookup x=Z c->X.env.cells.lookup x=Z c
 has:∀ x,((uQ sE cl 0 X.env).kindOf x=Z .cell∨(uQ sE cl 0 X.env).kindOf x=Z .free)->∃ c,cl.lookup x=Z c
section
variable {sq:Jc} {σ:St} {H3:Hp} {s3:Sh} {sE:Scope} {cl:List (Str×Ad)} {NY:Jf} {fp:Jg}
def comp_ok (I:Inv X sq σ H3 s3) (S:Sees X sE cl) (hfp:∀ b∈fp,Xj X sq H3 b) (hob:∀ b∈fp,∃ o,s3.heap.get? b=Z o):(X.comp sE cl NY s3 H3 fp).Ok where
 mod:=I.ok.mod
 kind:=S.kind
 glob:=I.ok.glob
 blt:=I.ok.blt
 above:=sK _
 inj:=λx y c a b=>I.ok.inj x y c (S.sub _ _ a) (S.sub _ _ b)
 has:=λx h=>S.has x h
 cab:=λ_ _ h=>nomatch h
 hd:=I.ok.hd
 frames:=I.ok.frames
 stk:=.inl rfl
 exf:=λb hb=>⟨λz=>by
  obtain ⟨o,q⟩:=hob b hb;exact absurd (tw q) (by rw [z];exact vg _),λx c q=>(hfp b hb).2.2.2.2.1 x c (S.sub _ _ q)⟩
 bs:=I.bs
 bsz:=tE I.ok.bsz I.sz
 noex:=λb o q hb=>by
  rcases (hfp b hb).2.2.2.1 with z | z
  .exact I.ok.noex b o q z
  .exact absurd (x1z (tw q) (tE I.ok.bsz z)) (vg _)
 exfs:=λb hb z=>by
  rcases sM.mp (I.stkSub b z) with y | y
  .exact (hfp b hb).2.1 y
  .exact (hfp b hb).2.2.1 y
 funs:=I.stack
 frf:=I.stkFree
def zfi {h1:Heap} {t:Nat} {σY:St} (I:Inv X sq σ H3 s3) (S:Sees X sE cl) (hfp:∀ b∈fp,Xj X sq H3 b) (hob:∀ b∈fp,∃ o,s3.heap.get? b=Z o)
  (hn:h1.Ns s3.heap.objs.size λ_=>Y) (hk:∀ b o,s3.heap.get? b=Z o->h1.get? b=Z o) (hl:σY.length=NY.length)
  (hσ:∀ (i:Nat) (x:Str) (v:V),NY[i]?=Z x->σY[i]?=Z (Z v)->∃ c u,(((uQ sE cl 0 X.env).kindOf x=Z .cell∨(uQ sE cl 0 X.env).kindOf x=Z .free))/\cl.lookup x=Z c/\RelV v u/\s3.heap.IsCell c (Z u)) :
  Inv (X.comp sE cl NY s3 H3 fp) [] σY H3 { s3 with heap:=h1,toks:=t } where
 ok:=comp_ok I S hfp hob
 os:=rfl
 bare:=I.bare
 base:=Un.kept hk
 loc:=⟨_,hn,λi x v e1 e2 _=>by
  obtain ⟨c,u,k,q,r,z⟩:=hσ i x v e1 e2;obtain ⟨o,z1,z2⟩:=z;exact ⟨u,r,.inr ⟨k,c,q,o,hk _ _ z1,z2⟩⟩⟩
 cell:=λx c q=>by
  obtain ⟨v,o,z1,z2⟩:=I.cell x c (S.sub _ _ q);exact ⟨v,o,hk _ _ z1,z2⟩
 free:=I.hok.fresh (sK _)
 freeC:=λx c q=>I.freeC x c (S.sub _ _ q)
 pin:=λp hp=>absurd hp (by simp)
 hok:=I.hok.kept hk
 len:=hl
def zcq {Y0_:Jc} {σY:St} {H':Hp} {s':Sh} {h':Heap} (I:Inv X sq σ H3 s3) (hfp:∀ b∈fp,Xj X sq H3 b) (J:Inv (X.comp sE cl NY s3 H3 fp) Y0_ σY H' s') (hs:wj s3.heap.objs.size s'.heap h') :
  Inv X sq σ H' { s' with heap:=h' }:=by
 have ne:∀ b o,s3.heap.get? b=Z o->b≠s3.heap.objs.size:=λb o q=>tQ (tw q);have B:=J.base;refine I.call' (s':={ s' with heap:=h' }) (ch:=fp) J.os ⟨λb o q n hb hx=>?_,λb o q n hb hx=>?_,B.free,λb o q hx=>?_,B.tups,B.frzs,B.tbls⟩ (λb o q=>?_) J.bare λb hb=>?_
 .exact (hs.2 b (ne b o q)).trans (B.keep b o q n hb hx)
 .obtain ⟨sl,z⟩:=B.slot b o q n hb hx
  exact ⟨sl,(hs.2 b (ne b o q)).trans z⟩
 .obtain ⟨o',z⟩:=B.there b o q hx
  exact ⟨o',(hs.2 b (ne b o q)).trans z⟩
 .have hf:H' s3.heap.objs.size=Y:=J.free
  refine (J.hok b o q).stay (λc v hc r=>(hs.2 c ?_).trans r) (λ_ z=>z) λ_ _ z=>z;rintro rfl;rcases hc with z | z
  .rw [← z,hf] at q;cases q
  .rw [hf] at z;cases z
 .obtain ⟨_,f2,_,f4,f5,f6⟩:=hfp b hb
  exact ⟨f4,f2,f5,f6⟩
end
section
variable {A:Around} {R:Result->Sh->Prop} {s:Sh}
theorem comp_loop {elt target iter:Expr} {sE:Scope} {pos:Pos} {it acc:Vl} {env:Env} (I:Nat->Sh->Prop)
  (turn:∀ n s,I n s->wpAny (model prog w) A (pyNext it) (λr s₁=>match r with
   | none=>R (.ok .next) s₁
   | some v=>wpAny (model prog w) A (vU target it v) (λ_ s₂=>wpAny (model prog w) A (assign target env v) (λ_ s₃=>wpAny (model prog w) A (eval elt env) (λx s₄ =>
     wpAny (model prog w) A (call (.builtin "list.append") [acc,x]) (λ_ s₅=>∃ m,m<n/\I m s₅) (λ_ _=>False) s₄) (λ_ _=>False) s₃) (λ_ _=>False) s₂) (λ_ _=>False) s₁) (λ_ _=>False) s)
  (n:Nat) (h:I n s):wB (model prog w) A (.compLoop (.ListComp elt [⟨target,iter,[],0⟩] sE pos) 0 it acc env) R s:=by
 refine codeAny_loop rfl I (λn s hI=>?_) n h;show wpAny _ _ ((compTurn (.ListComp elt [⟨target,iter,[],0⟩] sE pos) 0 it acc env).onRaise (λx=>do noteFrame x env;theTreesLotGoes x)) _ _ s;refine wpAny_noted ?_;rw [compTurn_list1];refine q0x (wpAny_standAt (q0x (um (turn n s hI) (λr s₁ h₁=>?_) λ_ _ z=>z.elim)))
 cases r with
 | none=>exact q0y h₁
 | some v =>
  refine q0x (um h₁ (λ_ s₂ h₂=>?_) λ_ _ z=>z.elim);refine q0x (um h₂ (λ_ s₃ h₃=>?_) λ_ _ z=>z.elim);refine q0x (q0x (um h₃ (λx s₄ h₄=>?_) λ_ _ z=>z.elim));exact q0x (um h₄ (λ_ s₅ h₅=>q0y (q0y ⟨U,h₅⟩)) λ_ _ z=>z.elim)
end
inductive CompW (J:It) (g:TG) (te:TE) (σY:St) (H1:Hp) (D:Ad) (Q:VK):Prop
 | mk (W:Nat->Nat->St->Hp->Prop) (_:(∃ m,W 0 m σY H1)) (_:∀ i m σ' H',W i m σ' H'->(J.stop i H'/\Q (.ref D) H')∨(J.go i H'/\∃ N:St->Hp->Prop,(∀ σ2 H2,N σ2 H2->∃ m',m'<m/\W (i+1) m' σ2 H2)/\∀ x H2,J.yld i H' x H2->g x σ' H2 λσ3 H3=>te σ3 H3 λv H4=>∃ xs,H4 D=Z (.lst xs)/\xs.length<sL/\N σ3 (upd H4 D (.lst (xs++[v]))))):CompW J g te σY H1 D Q
inductive tComp_S (g:TG) (te:TE) (σ0:St->Hp->St->Prop) (σ:St) (Q:VK) (J:It) (H1:Hp):Prop
 | mk (σY:_) (_:σ0 σ H1 σY) (_:∀ D,H1 D=Y->CompW J g te σY (upd H1 D (.lst [])) D Q)
def tComp (wi:TI) (g:TG) (te:TE) (σ0:St->Hp->St->Prop):TE:=λσ H Q=>wi σ H λJ H1=>tComp_S g te σ0 σ Q J H1
section
variable {tg:Expr}
structure CompEnd (X:Cx) (sq:Jc) (σ:St) (H5:Hp) (s6:Sh) (C:Ad):Prop where
 ns:∃ m,s6.heap.Ns C m
 hn:H5 C=Y
 hL:C≠X.env.locals
 h1:X.s₀.heap.objs.size<=C
 h2:∀ x c,X.env.cells.lookup x=Z c->c≠C
 h3:∀ p∈X.pn++sq,p.1≠C
 inv:∀ h',wj C s6.heap h'->Inv X sq σ H5 { s6 with heap:=h' }
def comp_core {iter elt:Expr} {sE:Scope} {pos pos':Pos} {cl:List (Str×Ad)} {NY:Jf} {wi:TI} {g:TG} {te:TE} {σ0:St->Hp->St->Prop} (hc:X.calm=true) (S:Sees X sE cl) (hi:PI X tg iter wi)
  (hY:∀ (s3:Sh) (H3:Hp) (fp:Jg),PG (X.comp sE cl NY s3 H3 fp) tg g/\PE (X.comp sE cl NY s3 H3 fp) elt te)
  (h0:∀ (sq:Jc) (σ:St) (H:Hp) (s3:Sh) (σY:St),Inv X sq σ H s3->σ0 σ H σY->σY.length=NY.length/\∀ (i:Nat) (x:Str) (v:V),NY[i]?=Z x->σY[i]?=Z (Z v) ->
   ∃ c u,(((uQ sE cl 0 X.env).kindOf x=Z .cell∨(uQ sE cl 0 X.env).kindOf x=Z .free))/\cl.lookup x=Z c/\RelV v u/\s3.heap.IsCell c (Z u))
  (hs:∀ x,uP iter X.env x=pure x) {use:Option (Vl->Sem Unit)} {R:Ja} {sq:Jc} {s:Sh} {σ:St} {H:Hp} {Q:VK} (I:Inv X sq σ H s) (h:tComp wi g te σ0 σ H Q)
  (fin:∀ (C D:Ad) (H5:Hp) (s6:Sh),CompEnd X sq σ H5 s6 C->Q (.ref D) H5->compPost (model X.prog X.w) X.A X.xe use R (.ref D) C (.ok .next) s6) :
  wpAny (model X.prog X.w) X.A (comprehension (.ListComp elt [⟨tg,iter,[],0⟩] sE pos) sE X.env pos' (newList []) (firstAsync [⟨tg,iter,[],0⟩]) (firstIter [⟨tg,iter,[],0⟩] X.env) use) R X.xe s:=by
 refine wpAny_comprehension_free rfl hs S.clos S.kind S.names (thn (hi sq s σ H _ I h) λv s1 h1=>thn h1 λitv s2 h2=>?_);obtain ⟨it,fp,tn,J,H2,e,I2,T,st2,f2,σY,hσ,hW⟩:=h2;subst e;refine wpAny_newObj_type ?_;have I3:Inv X sq σ (upd H2 s2.heap.objs.size (.lst [])) (pz s2):=I2.lnew (t':=s2.toks) (its:=[]) .nil (ub _);obtain ⟨W,⟨m0,w0⟩,turn⟩:=hW s2.heap.objs.size (I2.hok.fresh (sK _));have ob2:=T.obj _ _ st2
 have hfp:∀ b∈fp,Xj X sq (upd H2 s2.heap.objs.size (.lst [])) b:=λb hb=>by
  obtain ⟨o,q,_⟩:=ob2 b hb;exact ⟨by rw [zt (tQ (tw q))];exact (f2 b hb).1,(f2 b hb).2⟩
 have hob:∀ b∈fp,∃ o,(s2.heap.push Lz).get? b=Z o:=λb hb=>by
  obtain ⟨o,q,_⟩:=ob2 b hb;exact ⟨o,sV _ q⟩
 refine wpAny_newFunctionEnv S.nocell (λy hy=>absurd hy (by simp)) (λh1 hn1 hs1=>?_) S.kind;obtain ⟨hl,hY0⟩:=h0 sq σ H2 s2 σY I2 hσ;have k23:∀ b o,s2.heap.get? b=Z o->(s2.heap.push Lz).get? b=Z o:=λb o q=>sV _ q;have k34:∀ b o,(s2.heap.push Lz).get? b=Z o->h1.get? b=Z o:=λb o q=>(hs1.2 b (tQ (tw q))).trans (sV _ q)
 have I4:=zfi (sE:=sE) (cl:=cl) (NY:=NY) (fp:=fp) (h1:=h1) (t:=s2.toks) (σY:=σY) I3 S hfp hob hn1 k34 hl λi x v e1 e2=>by
  obtain ⟨c,u,k,q,r,o,z1,z2⟩:=hY0 i x v e1 e2;exact ⟨c,u,k,q,r,o,k23 _ _ z1,z2⟩
 have st4:tn 0 h1:=T.keep _ _ _ st2 λb hb o q=>k34 _ _ (k23 _ _ q);have fr4:∀ b∈fp,(upd H2 s2.heap.objs.size (.lst [])) b=Y:=λb hb=>(hfp b hb).1;obtain ⟨hg,he⟩:=hY (pz s2) (upd H2 s2.heap.objs.size (.lst [])) fp;have okY:=I4.ok
 have statY:∀ {H':Hp},(∀ b∈fp,H' b=Y)->∀ b∈fp,Xj (Xz X sE cl NY s2 H2 fp) [] H' b :=
  λhn b hb=>⟨hn b hb,(okY.exf b hb).1,okY.exfs b hb,.inl hb,(okY.exf b hb).2,λp hp=>absurd hp (by simp)⟩
 have loop:wB (model X.prog X.w) X.A (.compLoop (.ListComp elt [⟨tg,iter,[],0⟩] sE pos) 0 (.ref it) (.ref s2.heap.objs.size) (uQ sE cl (s2.heap.push Lz).objs.size X.env))
   (compPost (model X.prog X.w) X.A X.xe use R (.ref s2.heap.objs.size) (s2.heap.push Lz).objs.size) { s2 with heap:=h1,toks:=s2.toks }:=by
  refine comp_loop (λn s'=>∃ i σ' H',Inv (Xz X sE cl NY s2 H2 fp) [] σ' H' s'/\tn i s'.heap/\(∀ b∈fp,H' b=Y)/\W i n σ' H') ?_ m0 ⟨0,σY,_,I4,st4,fr4,w0⟩;rintro n s5 ⟨i,σ5,H5,I5,st5,fr5,w5⟩;rcases turn i n σ5 H5 w5 with ⟨stop,q⟩ | ⟨go,N,hN,step⟩
  .refine thn (T.done (Xz X sE cl NY s2 H2 fp) rfl rfl rfl hc i [] s5 σ5 H5 _ I5 (statY fr5) st5 stop) λr s6 ⟨hr,I6⟩=>?_
   subst hr;obtain ⟨m,hm,_⟩:=I6.loc;refine fin _ _ H5 s6 ⟨⟨m,hm⟩,I6.free,vQ (tQ I3.lt),I3.sz,λx c z=>?_,λp hp=>?_,λh' hs'=>zcq I3 hfp I6 hs'⟩ q
   .obtain ⟨_,o,z1,_⟩:=I3.cell x c z
    exact tQ (tw z1)
   .exact tQ (tw (I3.pin p hp).1)
  .refine thn (T.item (Xz X sE cl NY s2 H2 fp) rfl rfl rfl hc i [] s5 σ5 H5 _ I5 (statY fr5) st5 go) λr s6 ⟨u,hr,h6⟩=>?_
   subst hr;refine thn h6 λ_ s7 ⟨x,H7,I7,r7,y7,st7,fr7⟩=>?_;have I7':=I7.pinned (statY fr7) (T.obj _ _ st7);refine thn (hg _ s7 σ5 H7 x u _ I7' r7 (step x H7 y7)) λ_ s8 ⟨σ8,H8,I8,q8⟩=>?_;refine thn (he _ s8 σ8 H8 _ I8 q8) λz s9 ⟨v9,H9,I9,r9,xs,hx9,hz9,n9⟩=>?_;refine thn (zQ _ s9 σ8 H9 (.ref s2.heap.objs.size) [v9] (.ref s2.heap.objs.size) [z] (λ_ H'=>H'=upd H9 s2.heap.objs.size (.lst (xs++[v9]))) I9 rfl (.cons r9 .nil) ⟨s2.heap.objs.size,xs,v9,U,U,hx9,hz9,U⟩) λy s10 ⟨v10,H10,I10,_,e10⟩=>?_;subst e10;obtain ⟨m',hm,w10⟩:=hN _ _ n9;refine ⟨m',hm,i+1,σ8,_,I10.unpinned,T.keep _ _ _ st7 λb hb o q=>(I10.pin (b,o) (x1y _ (x1y _ (xR hb q)))).1,λb hb=>?_,w10⟩;obtain ⟨o,q,d⟩:=T.obj _ _ st7 b hb;exact (I10.pin (b,o) (x1y _ (x1y _ (xR hb q)))).2.1
 exact codeAny_compStart_list loop (T.self _ 0 _ _ _ st4 loop)
def pe_comp {iter elt:Expr} {sE:Scope} {pos:Pos} {cl:List (Str×Ad)} {NY:Jf} {wi:TI} {g:TG} {te:TE} {σ0:St->Hp->St->Prop} (hc:X.calm=true) (S:Sees X sE cl) (hi:PI X tg iter wi)
  (hY:∀ (s3:Sh) (H3:Hp) (fp:Jg),PG (X.comp sE cl NY s3 H3 fp) tg g/\PE (X.comp sE cl NY s3 H3 fp) elt te)
  (h0:∀ (sq:Jc) (σ:St) (H:Hp) (s3:Sh) (σY:St),Inv X sq σ H s3->σ0 σ H σY->σY.length=NY.length/\∀ (i:Nat) (x:Str) (v:V),NY[i]?=Z x->σY[i]?=Z (Z v) ->
   ∃ c u,(((uQ sE cl 0 X.env).kindOf x=Z .cell∨(uQ sE cl 0 X.env).kindOf x=Z .free))/\cl.lookup x=Z c/\RelV v u/\s3.heap.IsCell c (Z u))
  (hs:∀ x,uP iter X.env x=pure x:=by intro _;rfl) :
  PE X (.ListComp elt [⟨tg,iter,[],0⟩] sE pos) (tComp wi g te σ0):=by
 intro sq s σ H Q I h;rw [eval_ListComp];refine comp_core (use:=Y) hc S hi hY h0 hs I h λC D H5 s6 e q=>?_;obtain ⟨m,hm⟩:=e.ns;exact ⟨m,hm,λh' hs'=>⟨.ref D,H5,e.inv h' hs',U,q⟩⟩
end
def Z2 {K:Fg} {a D:Ad} {xs:Jn} {g:TG} {te:TE} {σY:St} {H1:Hp} {Q:VK} (Pv:Nat->St->Hp->Prop) (h0:Pv 0 σY H1) (hl:∀ i σ H,i<=xs.length->Pv i σ H->SqL K H a xs)
  (hs:∀ i x σ H,xs[i]?=Z x->Pv i σ H->g x σ H λσ3 H3=>te σ3 H3 λv H4=>∃ ys,H4 D=Z (.lst ys)/\ys.length<sL/\Pv (i+1) σ3 (upd H4 D (.lst (ys++[v])))) (hd:∀ σ H,Pv xs.length σ H->Q (.ref D) H) :
  CompW (Itl K a) g te σY H1 D Q:=by
 refine ⟨λi m σ H=>m=xs.length-i/\i<=xs.length/\Pv i σ H,⟨xs.length,by simp,ub _,h0⟩,?_⟩;rintro i m σ H ⟨rfl,hi,p⟩;have q:=hl i σ H hi p;by_cases hlt:i<xs.length
 .refine .inr ⟨⟨xs,xs[i],q,by simp [hlt]⟩,Pv (i+1),λσ' H' p'=>⟨xs.length-(i+1),by omega,U,hlt,p'⟩,λx H' y=>?_⟩
  obtain ⟨e,y⟩:=y;subst e;exact hs i x σ _ (y xs q) p
 .have e:i=xs.length:=by omega
  subst e;exact .inl ⟨⟨xs,q,sK _⟩,hd σ H p⟩
def clGo (env:Env):List (Str×wS)->List (Str×Ad)->List (Str×Ad)
 | [],cs=>cs
 | y::r,cs=>clGo env r (if y.2 == .free then (y.1,(env.cells.lookup y.1).getD 0)::cs else cs)
abbrev Yf (env:Env) (sE:Scope):List (Str×Ad):=clGo env sE.names []
def zgp {sE:Scope} {env:Env} (h:∀ y∈sE.names,y.2=.free->∃ c,env.cells.lookup y.1=Z c):closureFor sE env=pure (Yf env sE):=by
 rw [closureFor.eq_1]
 suffices q:∀ (names:List (Str×wS)) (cs:List (Str×Ad)),(∀ y∈names,y.2=.free->∃ c,env.cells.lookup y.1=Z c) ->
   (do
    let s ← forIn names cs λx __s =>
     have cs:=__s
     match x with
     | (name,kind) =>
      if (kind == v8)=true then do
       let l ← cellOf env name;have cs:List (Str×Ad):=(name,l)::cs
       pure (ForInStep.yield cs)
      else pure (ForInStep.yield cs)
    pure s:Sem (List (Str×Ad)))=pure (clGo env names cs) from (congrArg (λ(m:Sem (List (Str×Ad)))=>m >>= λs=>(pure s:Sem (List (Str×Ad)))) (q sE.names [] h)).trans rfl
 intro names
 induction names with
 | nil=>intro cs _;rfl
 | cons y r ih =>
  intro cs h;obtain ⟨n,k⟩:=y;have hr:=λy hy=>h y (x0y _ hy);rw [List.forIn_cons];show _=pure (clGo env r (if k == .free then (n,(env.cells.lookup n).getD 0)::cs else cs));by_cases e:k=.free
  .subst e
   obtain ⟨c,hc⟩:=h (n,.free) x0z rfl;have e1:cellOf env n=pure c:=by unfold cellOf;rw [show env.cells.lookup n=Z c from hc]
   simp only [e1,show env.cells.lookup n=Z c from hc,Option.getD_some,beq_self_eq_true,if_true];exact ih _ hr
  .have e0:(k == v8)=false:=by simp [e]
   simp only [e0,Bool.false_eq_true,if_false];exact ih _ hr
theorem zfj {env:Env} {x:Str} {c:Ad}:∀ {names:List (Str×wS)} {cs:List (Str×Ad)},(∀ y∈names,y.2=.free->∃ c,env.cells.lookup y.1=Z c)->(∀ x c,cs.lookup x=Z c->env.cells.lookup x=Z c)->(clGo env names cs).lookup x=Z c->env.cells.lookup x=Z c
 | [],cs,_,hc,h=>hc _ _ h
 | (n,k)::r,cs,hn,hc,h=>by
  refine zfj (λy hy=>hn y (x0y _ hy)) (λx c q=>?_) h;by_cases e:k=.free
  .subst e
   obtain ⟨c',hc'⟩:=hn (n,.free) x0z rfl;simp only [beq_self_eq_true,if_true,show env.cells.lookup n=Z c' from hc',Option.getD_some,List.lookup_cons] at q;by_cases z:x=n
   .subst z;simp at q;rw [← q];exact hc'
   .have z':(x == n)=false:=by simp [z]
    rw [z'] at q;exact hc _ _ q
  .have e0:(k == v8)=false:=by simp [e]
   rw [e0] at q;exact hc _ _ q
theorem zcr {env:Env} {x:Str}:∀ {names:List (Str×wS)} {cs:List (Str×Ad)},(∃ c,cs.lookup x=Z c)->∃ c,(clGo env names cs).lookup x=Z c
 | [],_,h=>h
 | (n,k)::r,cs,h=>by
  refine zcr (names:=r) ?_;by_cases e:(k == v8)=true
  .simp only [e,if_true,List.lookup_cons]
   cases hx:x == n with
   | true=>exact ⟨_,U⟩
   | false=>exact h
  .simp only [e,if_false];exact h
theorem zbn {env:Env} {x:Str}:∀ {names:List (Str×wS)} {cs:List (Str×Ad)},(x,v8)∈names->∃ c,(clGo env names cs).lookup x=Z c
 | (n,k)::r,cs,h=>by
  rcases sM.mp h with e | e
  .cases e
   refine zcr (names:=r) ⟨(env.cells.lookup x).getD 0,?_⟩;simp
  .show ∃ c,(clGo env r _).lookup x=Z c
   exact zbn e
def zav (X:Cx) (sE:Scope):Bool :=
 (match sE.kind with | .function=>true | _=>false) && sE.names.all λy=>match y.2 with
  | .cell=>false
  | .free=>(match X.env.kindOf y.1 with | some .cell=>true | some .free=>true | _=>false)
  | .local=>(match sE.names.lookup y.1 with | some .local=>true | _=>false)
  | _=>true
def Xk {X:Cx} {sE:Scope} (ok:X.Ok) (h:zav X sE=true):Sees X sE (Yf X.env sE):=by
 unfold zav at h;rw [uE,uM] at h;obtain ⟨hk,hn⟩:=h
 have fr:∀ y∈sE.names,y.2=.free->∃ c,X.env.cells.lookup y.1=Z c:=λy hy e=>by
  have q:=hn y hy;rw [e] at q;refine ok.has y.1 ?_;revert q;dsimp only
  split
  .rename_i z;intro _;exact .inl z
  .rename_i z;intro _;exact .inr z
  .intro q;cases q
 refine ⟨?_,zgp fr,λy hy e=>?_,λy hy e=>?_,λx c q=>zfj fr (λ_ _ z=>by cases z) q,λx q=>?_⟩
 .revert hk
  cases sE.kind <;> simp
 .have q:=hn y hy
  rw [e] at q;exact x1x q
 .have q:=hn y hy
  rw [e] at q;revert q;dsimp only
  split
  .rename_i z;intro _;exact z
  .intro q;cases q
 .have key:∀ k,(uQ sE (Yf X.env sE) 0 X.env).kindOf x=Z k->(k=.cell∨k=.free)->(x,v8)∈sE.names:=by
   intro k hk' hkk;have q:((sE.names.map λy=>match y with | (n,k)=>if (k == v8 && X.env.scope.kind == vV && X.env.kindOf n == Z uR)=true then (n,uR) else (n,k))).lookup x=Z k:=hk'
   obtain ⟨n,k',e1,e2⟩:∃ n k',(n,k')∈sE.names/\(match (n,k') with | (n,k)=>if (k == v8 && X.env.scope.kind == vV && X.env.kindOf n == Z uR)=true then (n,uR) else (n,k))=(x,k):=by
    have m:(x,k)∈(sE.names.map λy=>match y with | (n,k)=>if (k == v8 && X.env.scope.kind == vV && X.env.kindOf n == Z uR)=true then (n,uR) else (n,k)):=by
     revert q;generalize (sE.names.map λy=>match y with | (n,k)=>if (k == v8 && X.env.scope.kind == vV && X.env.kindOf n == Z uR)=true then (n,uR) else (n,k))=l
     induction l with
     | nil=>intro q;cases q
     | cons a l ih =>
      intro q;obtain ⟨a1,a2⟩:=a;rw [List.lookup_cons] at q
      cases hx:x == a1 with
      | true=>rw [hx] at q;cases q;have:=beq_iff_eq.mp hx;subst this;exact x0z
      | false=>rw [hx] at q;exact x0y _ (ih q)
    obtain ⟨⟨n,k'⟩,h1,h2⟩:=tW.mp m;exact ⟨n,k',h1,h2⟩
   dsimp only at e2
   split at e2
   .rename_i z
    cases e2;simp only [uE,beq_iff_eq] at z;rw [z.1.1] at e1;exact e1
   .cases e2
    rcases hkk with rfl | rfl
    .have z:=hn _ e1
     exact absurd z x1x
    .exact e1
  rcases q with q | q
  .exact zbn (key _ q (.inl rfl))
  .exact zbn (key _ q (.inr rfl))
def zbq (X:Cx) (sE:Scope):Jf->List (Option Nat)->Bool
 | [],[]=>true
 | _::r,Y::c=>zbq X sE r c
 | x::r,Z j::c=>(match X.N[j]? with | some y=>x == y | none=>false) && (match (uQ sE (Yf X.env sE) 0 X.env).kindOf x with | some .cell=>true | some .free=>true | _=>false)
   && (match X.env.kindOf x with | some .cell=>true | some .free=>true | _=>false) && zbq X sE r c
 | _,_=>false
def capt (cap:List (Option Nat)) (σ:St):St:=cap.map λo=>o.bind λj=>(σ[j]?).join
theorem XD {X:Cx} {sE:Scope} {sq:Jc} {σ:St} {H:Hp} {s:Sh} (I:Inv X sq σ H s) (S:Sees X sE (Yf X.env sE)):∀ {NY:Jf} {cap:List (Option Nat)},zbq X sE NY cap=true->(capt cap σ).length=NY.length/\∀ (i:Nat) (x:Str) (v:V),NY[i]?=Z x->(capt cap σ)[i]?=Z (Z v) ->
   ∃ c u,(((uQ sE (Yf X.env sE) 0 X.env).kindOf x=Z .cell∨(uQ sE (Yf X.env sE) 0 X.env).kindOf x=Z .free))/\(Yf X.env sE).lookup x=Z c/\RelV v u/\s.heap.IsCell c (Z u)
 | [],[],_=>⟨U,λi x v e _=>by cases e⟩
 | [],_::_,h=>by cases h
 | y::r,[],h=>by cases h
 | y::r,Y::c,h=>by
  obtain ⟨l,q⟩:=XD I S (NY:=r) (cap:=c) h;refine ⟨by rw [x2x,← l];rfl,λi x v e1 e2=>?_⟩
  cases i with
  | zero=>cases e2
  | succ i=>exact q i x v e1 e2
 | y::r,Z j::c,h=>by
  unfold zbq at h;rw [uE,uE,uE] at h;obtain ⟨⟨⟨h1,h2⟩,h3⟩,h4⟩:=h;obtain ⟨l,q⟩:=XD I S (NY:=r) (cap:=c) h4;refine ⟨by rw [x2x,← l];rfl,λi x v e1 e2=>?_⟩
  cases i with
  | succ i=>exact q i x v e1 e2
  | zero =>
   have ey:y=x:=uq e1;subst ey;have ev:(σ[j]?).join=Z v:=uq e2
   have hσ:σ[j]?=Z (Z v):=by
    cases z:σ[j]? with
    | none=>rw [z] at ev;cases ev
    | some o=>rw [z] at ev;rw [show o=Z v from ev]
   have hN:X.N[j]?=Z y:=by
    cases z:X.N[j]? with
    | none=>rw [z] at h1;cases h1
    | some y'=>rw [z] at h1;rw [beq_iff_eq.mp h1]
   have hK:(uQ sE (Yf X.env sE) 0 X.env).kindOf y=Z .cell∨(uQ sE (Yf X.env sE) 0 X.env).kindOf y=Z .free:=by
    revert h2
    split
    .rename_i z;intro _;exact .inl z
    .rename_i z;intro _;exact .inr z
    .intro q;cases q
   have hV:X.env.kindOf y=Z .cell∨X.env.kindOf y=Z .free:=by
    revert h3
    split
    .rename_i z;intro _;exact .inl z
    .rename_i z;intro _;exact .inr z
    .intro q;cases q
   obtain ⟨c',hc'⟩:=S.has y hK;obtain ⟨m,_,hl⟩:=I.loc;obtain ⟨u,ru,lk⟩:=hl j y v hN hσ (.inr hV);refine ⟨c',u,hK,hc',ru,?_⟩;rcases lk with ⟨k,_⟩ | ⟨_,c2,e3,e4⟩
   .have k':X.env.kindOf y=Z .local:=k
    rcases hV with z | z <;> rw [z] at k' <;> cases k'
   .have e5:=S.sub _ _ hc'
    rw [e3] at e5;cases e5;exact e4
abbrev tCompC (wi:TI) (g:TG) (te:TE) (cap:List (Option Nat)):TE:=tComp wi g te λσ _ σY=>σY=capt cap σ
section
variable {tg:Expr}
def Z0 {iter elt:Expr} {sE:Scope} {pos:Pos} {wi:TI} {g:TG} {te:TE} (NY:Jf) (cap:List (Option Nat)) (hc:X.calm=true) (hk:zav X sE=true) (hcap:zbq X sE NY cap=true) (hi:PI X tg iter wi)
  (hY:∀ (s3:Sh) (H3:Hp) (fp:Jg),PG (X.comp sE (Yf X.env sE) NY s3 H3 fp) tg g/\PE (X.comp sE (Yf X.env sE) NY s3 H3 fp) elt te)
  (hs:∀ x,uP iter X.env x=pure x:=by intro _;rfl):PE X (.ListComp elt [⟨tg,iter,[],0⟩] sE pos) (tCompC wi g te cap):=by
 intro sq s σ H Q I h;have S:=Xk I.ok hk;refine pe_comp (NY:=NY) hc S hi hY (λsq σ H s3 σY I3 e=>?_) hs sq s σ H Q I h;subst e;exact XD I3 S hcap
end
def zbh {K:Fg} (e:X.K=K):IxR X (rIxL K):=by subst e;exact zD
def zd9 {ns:Jb} {j:Int} (i:Nat) (h:i<ns.length) (e:j=i):atI (ns.map V.int) j=Z (.int (ns.getD i 0)):=by
 subst e;refine zM ?_;rw [sN,sI h];simp [List.getD,h]
section
variable {sq:Jc} {σ:St} {s:Sh}
def Inv.keptL {h':Heap} {t':Nat} (I:Inv X sq σ H s) {m:J0} (hl:∀ (i:Nat) (x:Str) (v:V),X.N[i]?=Z x->σ[i]?=Z (Z v)->Vis X.env.scope x->∃ u,RelV v u/\Look X.env s.heap m x u)
  (k:∀ b o,b≠X.env.locals->s.heap.get? b=Z o->h'.get? b=Z o) (hn:h'.Ns X.env.locals m):Inv X sq σ H { s with heap:=h',toks:=t' }:=by
 have B:=I.base
 have ne0:∀ b o,X.s₀.heap.get? b=Z o->b≠X.env.locals:=λb o q z=>by
  have h1:b<X.s₀.heap.objs.size:=tw q;have h2:X.s₀.heap.objs.size<=X.env.locals:=I.ok.above;rw [z] at h1;exact absurd (x1z h1 h2) (vg _)
 refine ⟨I.ok,I.os,I.bare,⟨λb o q n hb hx=>?_,λb o q n hb hx=>?_,B.free,λb o q hx=>?_,B.tups,B.frzs,B.tbls⟩,⟨m,hn,λi x v e1 e2 vs=>?_⟩,λx c q=>?_,I.free,I.freeC,λp hp=>?_,λb o q=>?_,I.len⟩
 .exact k _ _ (ne0 _ _ q) (B.keep b o q n hb hx)
 .obtain ⟨sl,z⟩:=B.slot b o q n hb hx
  exact ⟨sl,k _ _ (ne0 _ _ q) z⟩
 .obtain ⟨o',z⟩:=B.there b o q hx
  exact ⟨o',k _ _ (ne0 _ _ q) z⟩
 .obtain ⟨u,r,lk⟩:=hl i x v e1 e2 vs
  refine ⟨u,r,?_⟩;rcases lk with z | ⟨z1,c,z2,o,z3,z4⟩
  .exact .inl z
  .exact .inr ⟨z1,c,z2,o,k _ _ (I.cne _ _ z2) z3,z4⟩
 .obtain ⟨v,o,z1,z2⟩:=I.cell x c q
  exact ⟨v,o,k _ _ (I.cne _ _ q) z1,z2⟩
 .obtain ⟨z1,z2,z3,z4⟩:=I.pin p hp
  exact ⟨k _ _ z3 z1,z2,z3,z4⟩
 .refine (I.hok b o q).stay (λc v hc r=>k _ _ ?_ r) (λ_ z=>z) λ_ _ z=>z
  rintro rfl;rcases hc with z | z
  .rw [← z,I.free] at q;cases q
  .rw [I.free] at z;cases z
def fr_all (I:Inv X sq σ H s) {m:J0} (hm:s.heap.Ns X.env.locals m):Fr X.base X.env.locals s.heap m:=⟨hm,I.bk,tE I.ok.bsz I.ok.above⟩
theorem kept_all {h':Heap} {m:J0} (F:Fr X.base X.env.locals h' m) (N:News X.base X.env.locals h' (zam X.base s.heap X.env.locals)) (I:Inv X sq σ H s):∀ b o,b≠X.env.locals->s.heap.get? b=Z o->h'.get? b=Z o:=λb o n q=>by
 cases e:X.base.get? b with
 | none=>exact (N (b,o) (ze5 n e q)).1
 | some o' =>
  have z:=I.bk b o' e;rw [q] at z;cases z;exact F.keep b o e
theorem zfm:∀ {bs:List Bool} {us:Jd},Vals (bs.map V.bl) us->LSm.BoolsAre us bs
 | [],_,.nil=>.nil
 | b::bs,_,.cons e r=>by cases e;exact .cons b (zfm r)
end
inductive rAny (K:Fg) (f:List Bool->Bool) (xs:Jn) (H:Hp) (Q:VK):Prop
 | mk (p:Ad) (bs:List Bool) (_:xs=[.ref p]) (_:SqL K H p (bs.map V.bl)) (_:Q (.bl (f bs)) H)
def call_all (hc:X.calm=true):ZY X (.builtin "all") (rAny X.K λbs=>bs.all id):=by
 intro sq s σ H xs us Q I r h;obtain ⟨p,bs,rfl,hp,q⟩:=h;obtain ⟨u,rfl,ru⟩:=r.one;cases (show u=tI p from ru);obtain ⟨its,rv,pl,_⟩:=I.list hp;obtain ⟨m,hm,hl⟩:=I.loc
 exact LSm.all_bools (fr_all I hm) news_all (I.ok.hd hc) pl.isList (zfm rv) λh' tk F N =>
  ⟨.bl _,H,I.keptL hl (kept_all F N I) F.ns,U,q⟩
mutual
inductive DV (K:Fg) (H:Hp):V->PyData->Prop
 | non:DV K H .non .none
 | bl (b:Bool):DV K H (.bl b) (.bool b)
 | int (i:Int):DV K H (.int i) (.int i)
 | str (x:Str):DV K H (.str x) (.str x)
 | lst {a:Ad} {xs:Jn} {ds:List PyData}:SqL K H a xs->DVs K H xs ds->DV K H (.ref a) (.list ds)
 | tup {a:Ad} {xs:Jn} {ds:List PyData}:SqT K H a xs->DVs K H xs ds->DV K H (.ref a) (.tuple ds)
inductive DVs (K:Fg) (H:Hp):Jn->List PyData->Prop
 | nil:DVs K H [] []
 | cons {v:V} {vs:Jn} {d:PyData} {ds:List PyData}:DV K H v d->DVs K H vs ds->DVs K H (v::vs) (d::ds)
end
section
variable {sq:Jc} {σ:St} {s:Sh}
mutual
theorem zbk (I:Inv X sq σ H s):∀ {v:V} {d:PyData} {u:Vl},DV X.K H v d->RelV v u->∃ as,Reads s.heap u d as
 | _,_,u,.non,r=>by cases (show u=Value.none from r);exact ⟨_,.none⟩
 | _,_,u,.bl b,r=>by cases (show u=Value.bool b from r);exact ⟨_,.bool b⟩
 | _,_,u,.int i,r=>by obtain ⟨t,rfl⟩:=(show ∃ t,u=wC i t from r);exact ⟨_,.int i t⟩
 | _,_,u,.str x,r=>by obtain ⟨t,rfl⟩:=(show ∃ t,u=uT x t from r);exact ⟨_,.str x t⟩
 | _,_,u,.lst (a:=a) h q,r=>by
  cases (show u=tI a from r);obtain ⟨its,rv,⟨o,n,e,c,d,f⟩,_⟩:=I.list h;obtain ⟨as,ra⟩:=XS I q rv;exact ⟨_,.list e c f ra⟩
 | _,_,u,.tup (a:=a) h q,r=>by
  cases (show u=tI a from r);obtain ⟨its,rv,⟨o,e,c,n,f⟩,_⟩:=I.tuple h;obtain ⟨as,ra⟩:=XS I q rv;exact ⟨_,.tuple e c f ra⟩
theorem XS (I:Inv X sq σ H s):∀ {vs:Jn} {ds:List PyData} {us:Jd},DVs X.K H vs ds->Vals vs us->∃ as,ReadsAll s.heap us ds as
 | _,_,_,.nil,.nil=>⟨_,.nil⟩
 | _,_,_,.cons h q,.cons r rr=>by
  obtain ⟨as,ra⟩:=zbk I h r;obtain ⟨bs,rb⟩:=XS I q rr;exact ⟨_,.cons ra rb⟩
end
end
inductive rEqD (K:Fg) (f:Bool->Bool) (x y:V) (H:Hp) (Q:VK):Prop
 | mk (d e:_) (_:DV K H x d) (_:DV K H y e) (_:d.canLay0=true) (_:e.canLay0=true) (_:d.depth<=64) (_:Q (.bl (f (d.eqv e))) H)
def op_eqD (hu:X.A.units+64<cLine):OpR X (uA .Eq) (rEqD X.K id):=by
 intro sq s σ H x y v u Q I rx ry h;obtain ⟨d,e,hd,he,c1,c2,dp,q⟩:=h;obtain ⟨as,ra⟩:=zbk I hd rx;obtain ⟨bs,rb⟩:=zbk I he ry;exact SeqAt.compareEq_reads ra rb c1 c2 (by omega) ⟨.bl _,H,I,U,q⟩
def dI (ns:Jb):PyData:=.list (ns.map PyData.int)
theorem zfb {K:Fg} {H:Hp}:∀ {ns:Jb},DVs K H (ns.map V.int) (ns.map PyData.int)
 | []=>.nil
 | n::ns=>.cons (.int n) zfb
def dv_ints {K:Fg} {H:Hp} {a:Ad} {ns:Jb} (h:SqL K H a (ns.map V.int)):DV K H (.ref a) (dI ns):=.lst h zfb
theorem X4:∀ {ns:Jb},PyData.canLayAll0 (ns.map PyData.int)=true
 | []=>rfl
 | n::ns=>by
  rw [tz];show (PyData.canLay0 (.int n) && PyData.canLayAll0 (ns.map PyData.int))=true;rw [X4];rfl
def zbf {ns:Jb}:(dI ns).canLay0=true:=X4
theorem Y0:∀ {ns:Jb},PyData.depthAll (ns.map PyData.int)<=1
 | []=>by decide
 | n::ns=>by
  have:=Y0 (ns:=ns);rw [tz];show max (PyData.depth (.int n)) (PyData.depthAll (ns.map PyData.int))<=1;have e:PyData.depth (.int n)<=1:=by show _<=_;simp [PyData.depth]
  omega
end L2
namespace L2
open PySem
def dep_list {xs:List PyData} {n:Nat} (h:PyData.depthAll xs<=n):(PyData.list xs).depth<=n+1:=by
 have e:(PyData.list xs).depth=PyData.depthAll xs+1:=by first | rfl | (simp [PyData.depth];done) | (simp [PyData.depth];omega)
 omega
def dep_ints {ns:Jb}:(dI ns).depth<=2:=dep_list Y0
end L2
namespace L2
open PySem PySem.Spec PyProof.Rows
def yq {K:Fg} {H H':Hp} {a:Ad} {xs:Jn} (h:SqL K H a xs) (s:Same H H'):SqL K H' a xs:=by
 rcases h with h | h
 .exact .inl (h.imp (λz=>s _ _ z) λ⟨o,z⟩=>⟨o,s _ _ z⟩)
 .exact .inr h
def yj {H H':Hp} {a:Ad} {o:HO} (s:Same H H') (h:H a=Y):Same H (upd H' a o):=λc x z=>by rw [zt (zz z h)];exact s _ _ z
def sIx_pos {n d:Nat} {a:Int} (h:0<=a):HT.sIx n d (Z a)=min a.toNat n:=by
 show (if a<0 then (a+(n:Int)).toNat else min a.toNat n)=min a.toNat n;rw [if_neg (by omega)]
section
variable {K:Fg} {base:Heap}
def xq (K:Fg) (C:Ad) (x sy:Str) (st:Stmt) (ps:Jf):Prop:=∃ (f:Ad) (fd:uk),Meth K C x f/\Fun K x sy st f fd/\Binds K fd ps []
def OkM (P:tV) (w:World) (K:Fg) (mg:J0) (base:Heap) (CX:CXT) (k:Nat) (C:Ad) (x:Str) (ps:Jf) (sp:Sp):Prop :=
 ∃ (f:Ad) (fd:uk),Meth K C x f/\Binds K fd ps []/\FnOk P w K mg base CX k f fd ps sp
def z7 (K:Fg) (C:Ad) (sy:Str) (st:Stmt) (ps:Jf):Prop:=∃ (f:Ad) (fd:uk),Mk K C f/\Fun K "__init__" sy st f fd/\Binds K fd ps []
def OkI (P:tV) (w:World) (K:Fg) (mg:J0) (base:Heap) (CX:CXT) (k:Nat) (C:Ad) (ps:Jf) (sp:Sp):Prop :=
 ∃ (f:Ad) (fd:uk),Mk K C f/\Binds K fd ps []/\FnOk P w K mg base CX k f fd ps sp
def oDf {x:Str} {st:Stmt} {N ps:Jf} {k:Nat} {sp:Sp} (d:zj K mg x st ps) (S:FnScope N ps (zf st)) (hbody:∀ (f:Ad) (sA:Vl) (A:Around) (outer:List Env) (s:Sh) (H:Hp) (vs:Jn) (Q:VK) (E:XK),Room k (A.deeper (envOfC x (zf st) s.heap.objs.size f sA))->sp vs H Q E->∃ t,PSs (Zl CX0 P w K mg base N x (zf st) f sA A outer s H E).nox (zS st) t/\t { nx:=λ_ H'=>Q .non H',rt:=Q } (start N vs) H) (len:∀ vs H Q E,sp vs H Q E->vs.length=ps.length:=by intro vs H Q E h;first | (cases h;subst_vars;rfl) | (repeat first | (obtain ⟨e,_⟩:=h;subst e;rfl) | obtain ⟨_,h⟩:=h)):Ok P w K mg base CX0 (k+1) x ps sp:=by
 obtain ⟨f,fd,m,F,b⟩:=d;exact ⟨f,fd,m,F.kp,b,F.ok S len (hbody f)⟩
def oMf {C:Ad} {x sy:Str} {st:Stmt} {N ps:Jf} {k:Nat} {sp:Sp} (d:xq K C x sy st ps) (S:FnScope N ps (zf st)) (hbody:∀ (f:Ad) (sA:Vl) (A:Around) (outer:List Env) (s:Sh) (H:Hp) (vs:Jn) (Q:VK) (E:XK),Room k (A.deeper (envOfC sy (zf st) s.heap.objs.size f sA))->sp vs H Q E->∃ t,PSs (Zl CX0 P w K mg base N sy (zf st) f sA A outer s H E).nox (zS st) t/\t { nx:=λ_ H'=>Q .non H',rt:=Q } (start N vs) H) (len:∀ vs H Q E,sp vs H Q E->vs.length=ps.length:=by intro vs H Q E h;first | (cases h;subst_vars;rfl) | (repeat first | (obtain ⟨e,_⟩:=h;subst e;rfl) | obtain ⟨_,h⟩:=h)):OkM P w K mg base CX0 (k+1) C x ps sp:=by
 obtain ⟨f,fd,m,F,b⟩:=d;exact ⟨f,fd,m,b,F.ok S len (hbody f)⟩
def oIf {C:Ad} {sy:Str} {st:Stmt} {N ps:Jf} {k:Nat} {sp:Sp} (d:z7 K C sy st ps) (S:FnScope N ps (zf st)) (hbody:∀ (f:Ad) (sA:Vl) (A:Around) (outer:List Env) (s:Sh) (H:Hp) (vs:Jn) (Q:VK) (E:XK),Room k (A.deeper (envOfC sy (zf st) s.heap.objs.size f sA))->sp vs H Q E->∃ t,PSs (Zl CX0 P w K mg base N sy (zf st) f sA A outer s H E).nox (zS st) t/\t { nx:=λ_ H'=>Q .non H',rt:=Q } (start N vs) H) (len:∀ vs H Q E,sp vs H Q E->vs.length=ps.length:=by intro vs H Q E h;first | (cases h;subst_vars;rfl) | (repeat first | (obtain ⟨e,_⟩:=h;subst e;rfl) | obtain ⟨_,h⟩:=h)):OkI P w K mg base CX0 (k+1) C ps sp:=by
 obtain ⟨f,fd,m,F,b⟩:=d;exact ⟨f,fd,m,b,F.ok S len (hbody f)⟩
def oDe {x:Str} {st:Stmt} {N ps:Jf} {k:Nat} {sp:Sp} (d:zj K mg x st ps) (S:FnScope N ps (zf st)) (hbody:∀ (f:Ad) (sA:Vl) (A:Around) (outer:List Env) (s:Sh) (H:Hp) (vs:Jn) (Q:VK) (E:XK),Room k (A.deeper (envOfC x (zf st) s.heap.objs.size f sA))->sp vs H Q E->∃ t,PSs (Zl (CXe P w base) P w K mg base N x (zf st) f sA A outer s H E) (zS st) t/\t { nx:=λ_ H'=>Q .non H',rt:=Q } (start N vs) H) (len:∀ vs H Q E,sp vs H Q E->vs.length=ps.length:=by intro vs H Q E h;first | (cases h;subst_vars;rfl) | (repeat first | (obtain ⟨e,_⟩:=h;subst e;rfl) | obtain ⟨_,h⟩:=h)):Ok P w K mg base (CXe P w base) (k+1) x ps sp:=by
 obtain ⟨f,fd,m,F,b⟩:=d;exact ⟨f,fd,m,F.kp,b,F.okE S len (hbody f)⟩
def oMe {C:Ad} {x sy:Str} {st:Stmt} {N ps:Jf} {k:Nat} {sp:Sp} (d:xq K C x sy st ps) (S:FnScope N ps (zf st)) (hbody:∀ (f:Ad) (sA:Vl) (A:Around) (outer:List Env) (s:Sh) (H:Hp) (vs:Jn) (Q:VK) (E:XK),Room k (A.deeper (envOfC sy (zf st) s.heap.objs.size f sA))->sp vs H Q E->∃ t,PSs (Zl (CXe P w base) P w K mg base N sy (zf st) f sA A outer s H E) (zS st) t/\t { nx:=λ_ H'=>Q .non H',rt:=Q } (start N vs) H) (len:∀ vs H Q E,sp vs H Q E->vs.length=ps.length:=by intro vs H Q E h;first | (cases h;subst_vars;rfl) | (repeat first | (obtain ⟨e,_⟩:=h;subst e;rfl) | obtain ⟨_,h⟩:=h)):OkM P w K mg base (CXe P w base) (k+1) C x ps sp:=by
 obtain ⟨f,fd,m,F,b⟩:=d;exact ⟨f,fd,m,b,F.okE S len (hbody f)⟩
def oIe {C:Ad} {sy:Str} {st:Stmt} {N ps:Jf} {k:Nat} {sp:Sp} (d:z7 K C sy st ps) (S:FnScope N ps (zf st)) (hbody:∀ (f:Ad) (sA:Vl) (A:Around) (outer:List Env) (s:Sh) (H:Hp) (vs:Jn) (Q:VK) (E:XK),Room k (A.deeper (envOfC sy (zf st) s.heap.objs.size f sA))->sp vs H Q E->∃ t,PSs (Zl (CXe P w base) P w K mg base N sy (zf st) f sA A outer s H E) (zS st) t/\t { nx:=λ_ H'=>Q .non H',rt:=Q } (start N vs) H) (len:∀ vs H Q E,sp vs H Q E->vs.length=ps.length:=by intro vs H Q E h;first | (cases h;subst_vars;rfl) | (repeat first | (obtain ⟨e,_⟩:=h;subst e;rfl) | obtain ⟨_,h⟩:=h)):OkI P w K mg base (CXe P w base) (k+1) C ps sp:=by
 obtain ⟨f,fd,m,F,b⟩:=d;exact ⟨f,fd,m,b,F.okE S len (hbody f)⟩
end
section
variable {CX:CXT} {k:Nat} {C:Ad} {ps:Jf} {sp:Sp} {E:XK} {x m:Str} {p pos apos:Pos} {e o:Expr} {es:Jh} {ta:TE} {t:TA}
def Za (h:OkM X.prog X.w X.K X.mg X.base CX k C m ps sp) (c:Cls X.K C) (hr:Room k X.A) (hx:Passes CX X E) {pl:Sem Bool} (he:PE X o ta)
  (ht:eval (.Call (.Attribute o m apos) [] [] pos) X.env=(do
   let ov ← eval o X.env
   standAt apos.atName
   let (f,first) ← holding [ov] (getMethod ov m pl)
   callWith pos f first (backTo pos (tN [] X.env)) (vj pos (uH [] X.env))):=by rfl) :
  PE X (.Call (.Attribute o m apos) [] [] pos) (tMeth C m sp [] E ta tNil):=by
 obtain ⟨f,fd,a,b,d⟩:=h;exact pe_meth0 he c a d hr b .nil hx ht
def y8 (h:OkI X.prog X.w X.K X.mg X.base CX k C ps sp) (hm:X.mg x=Z (.ref C)) (hr:Room (k+1) X.A) (hg:Gl X x) (hx:Passes CX X E) (ha:PA X (e::es) t) (hdb:(x == ("__debug__":Str))=false:=by decide)
  (he:tN (e::es) X.env=(false,eval e X.env)::tN es X.env:=by rfl) (hpl:(backTo pos (tN es X.env)).any (·.1)=false:=by rfl):PE X (.Call (.Name x p) (e::es) [] pos) (tMake C sp [] E t):=by
 obtain ⟨f,fd,a,b,d⟩:=h;exact pe_make a d hr hg hm b .nil hx ha hdb he hpl
end
def FH (K:Fg) (x sy:Str) (st:Stmt) (f:Ad):Prop:=∃ (oc:Vl) (od:Option Ad) (kV dc pm:Vl) (an:Option Ad) (cd ct:Vl) (sl:Array (Je)),K.lookup f=Z ⟨oc,od,.func (tS x sy (yd st) (zS st) (zf st) .none kV dc pm an cd ct),sl⟩/\ur K cd sy=true/\tj K (.ref f)=true
def DH (K:Fg) (x:Str) (st:Stmt) (f:Ad):Prop:=sY K ti x=Z (Z (.ref f))/\FH K x x st f
def MH (K:Fg) (C:Ad) (x sy:Str) (st:Stmt):Prop:=∃ f:Ad,(t6 K (.ref C) x=Z (Z (.ref f))/\vk K (.ref f)=true)/\FH K x sy st f
def CH (K:Fg) (C:Ad):Prop:=vY K C Str.empty=true/\vP K C=true/\PySem.W.plainOver K C=true/\t6 K (.ref C) "__setattr__"=Z (Z (.builtin "object.__setattr__"))
def FN (K:Fg) (C:Ad):Jf->Prop
 | []=>True
 | f::r=>t6 K (.ref C) f=Z Y/\FN K C r
section
variable {K:Fg} {x sy:Str} {st:Stmt} {f C:Ad} {h:Heap} {ps:Jf}
def DH.d (d:DH K x st f) (X:K.In h) (G:h.Ns ti mg)
  (b:∀ (kV doc pm:Vl) (an:Option Ad) (sA ct:Vl) (us:Jd),us.length=ps.length->bindArgs (tS x x (yd st) (zS st) (zf st) .none kV doc pm an sA ct) ⟨us,[]⟩=pure (ps.zip us):=by first|exact λ_ _ _ _ _ _=>us1 λ_=>rfl|exact λ_ _ _ _ _ _=>us2 λ_ _=>rfl|exact λ_ _ _ _ _ _=>us3 λ_ _ _=>rfl|exact λ_ _ _ _ _ _=>us4 λ_ _ _ _=>rfl|exact λ_ _ _ _ _ _=>us5 λ_ _ _ _ _=>rfl):zj K mg x st ps :=
 by obtain ⟨a,_,_,_,_,_,_,_,_,_,l,c,k⟩:=d;exact defIn_mk X G a l c k b
def MH.m (d:MH K C x sy st)
  (b:∀ (kV doc pm:Vl) (an:Option Ad) (sA ct:Vl) (us:Jd),us.length=ps.length->bindArgs (tS x sy (yd st) (zS st) (zf st) .none kV doc pm an sA ct) ⟨us,[]⟩=pure (ps.zip us):=by first|exact λ_ _ _ _ _ _=>us1 λ_=>rfl|exact λ_ _ _ _ _ _=>us2 λ_ _=>rfl|exact λ_ _ _ _ _ _=>us3 λ_ _ _=>rfl|exact λ_ _ _ _ _ _=>us4 λ_ _ _ _=>rfl|exact λ_ _ _ _ _ _=>us5 λ_ _ _ _ _=>rfl):xq K C x sy st ps :=
 by obtain ⟨f,⟨a,n⟩,_,_,_,_,_,_,_,_,_,l,c,k⟩:=d;exact ⟨f,_,⟨a,n,k⟩,Xh l c k,(Xh l c k).binds b⟩
def MH.i (d:MH K C "__init__" sy st) (mk:tL K C=true) (kC:tj K (.ref C)=true)
  (b:∀ (kV doc pm:Vl) (an:Option Ad) (sA ct:Vl) (us:Jd),us.length=ps.length->bindArgs (tS "__init__" sy (yd st) (zS st) (zf st) .none kV doc pm an sA ct) ⟨us,[]⟩=pure (ps.zip us):=by first|exact λ_ _ _ _ _ _=>us1 λ_=>rfl|exact λ_ _ _ _ _ _=>us2 λ_ _=>rfl|exact λ_ _ _ _ _ _=>us3 λ_ _ _=>rfl|exact λ_ _ _ _ _ _=>us4 λ_ _ _ _=>rfl|exact λ_ _ _ _ _ _=>us5 λ_ _ _ _ _=>rfl):z7 K C sy st ps :=
 by obtain ⟨f,⟨a,n⟩,_,_,_,_,_,_,_,_,_,l,c,k⟩:=d;exact ⟨f,_,⟨mk,a,n,kC⟩,Xh l c k,(Xh l c k).binds b⟩
def CH.c (d:CH K C):Cls K C:=⟨d.1,d.2.1,d.2.2.1,d.2.2.2⟩
end
end L2
namespace L2
open PySem
def DH.mk {K:Fg} {x:Str} {st:Stmt} {f:Ad} {oc:Vl} {od an:Option Ad} {kV dc pm cd ct:Vl} {sl:Array (Je)} (a:sY K ti x=Z (Z (.ref f))) (l:K.lookup f=Z ⟨oc,od,.func (tS x x (yd st) (zS st) (zf st) .none kV dc pm an cd ct),sl⟩) (c:ur K cd x=true) (k:tj K (.ref f)=true):DH K x st f:=⟨a,_,_,_,_,_,_,_,_,_,l,c,k⟩
def MH.mk {K:Fg} {C:Ad} {x sy:Str} {st:Stmt} {f:Ad} {oc:Vl} {od an:Option Ad} {kV dc pm cd ct:Vl} {sl:Array (Je)} (a:t6 K (.ref C) x=Z (Z (.ref f))) (n:vk K (.ref f)=true) (l:K.lookup f=Z ⟨oc,od,.func (tS x sy (yd st) (zS st) (zf st) .none kV dc pm an cd ct),sl⟩) (c:ur K cd sy=true) (k:tj K (.ref f)=true):MH K C x sy st:=⟨f,⟨a,n⟩,_,_,_,_,_,_,_,_,_,l,c,k⟩
def scK {N P:Jf} {sc:Scope} (h:(decide (sc.kind=.function) && (!sc.isCoroutine && (!sc.isGenerator && (decide N.Nodup && (decide (N.take P.length=P) && ((P.all λx=>decide (sc.names.lookup x=Z .local∨sc.names.lookup x=Z .cell)) && sc.names.all λy=>decide (y.2≠.free)))))))=true:=by decide +kernel):FnScope N P sc:=by
 simp only [uE,decide_eq_true_eq,Bool.not_eq_true',uM] at h;obtain ⟨h1,h2,h3,h4,h5,h6,h7⟩:=h;exact ⟨h1,h2,h3,h4,h5,h6,h7⟩
def TB (K:Fg) (T:Ad):List (Str×Ad)->Prop
 | []=>True
 | p::r=>sY K T p.1=Z (Z (.ref p.2))/\TB K T r
def TN (K:Fg) (T:Ad):Jf->Prop
 | []=>True
 | x::r=>sY K T x=Z Y/\TN K T r
theorem TB.g {K:Fg} {T:Ad} {x:Str} {f:Ad}:∀ {L:List (Str×Ad)} (_:TB K T L) (i:Nat),L[i]?=Z (x,f)->sY K T x=Z (Z (.ref f))
 | _::_,h,0,e=>by cases e;exact h.1
 | _::_,h,i+1,e=>TB.g h.2 i e
theorem TN.g {K:Fg} {T:Ad} {x:Str}:∀ {L:Jf} (_:TN K T L) (i:Nat),L[i]?=Z x->sY K T x=Z Y
 | _::_,h,0,e=>by cases e;exact h.1
 | _::_,h,i+1,e=>TN.g h.2 i e
theorem FN.g {K:Fg} {C:Ad} {x:Str}:∀ {L:Jf} (_:FN K C L) (i:Nat),L[i]?=Z x->t6 K (.ref C) x=Z Y
 | _::_,h,0,e=>by cases e;exact h.1
 | _::_,h,i+1,e=>FN.g h.2 i e
theorem ucV {n:Nat}:∀ {us:Jd},us.length=n+1->∃ a r,us=a::r/\r.length=n
 | a::r,h=>⟨a,r,U,wm h⟩
end L2
namespace L2
open PySem PySem.Spec PyProof.Rows
def PET (X:Cx) (e:Expr) (t:TE):Prop :=
 ∀ (sq:Jc) (s:Sh) (σ:St) (H:Hp) (Q:VK),Inv X sq σ H s->1<=s.toks->t σ H Q->wpAny (model X.prog X.w) X.A (eval e X.env) (λu s'=>1<=s'.toks/\EP X sq σ Q u s') X.xe s
def PE.pet {e:Expr} {t:TE} (h:PE X e t):PET X e t:=λsq s σ H Q I k q=>um (wpAny_toks_of k (h sq s σ H Q I q)) (λ_ _ x=>x) (λ_ _ x=>x.2)
def PET.pe {e:Expr} {t:TE} (h:PET X e t) (sq:Jc) (s:Sh) (σ:St) (H:Hp) (Q:VK) (I:Inv X sq σ H s) (k:1<=s.toks) (q:t σ H Q):wpAny (model X.prog X.w) X.A (eval e X.env) (EP X sq σ Q) X.xe s:=thn (h sq s σ H Q I k q) λ_ _ x=>x.2
def pet_of {e:Expr} {t:TE} (h:∀ (sq:Jc) (s:Sh) (σ:St) (H:Hp) (Q:VK),Inv X sq σ H s->1<=s.toks->t σ H Q->wpAny (model X.prog X.w) X.A (eval e X.env) (EP X sq σ Q) X.xe s):PET X e t:=λsq s σ H Q I k q=>um (wpAny_toks_of k (h sq s σ H Q I k q)) (λ_ _ x=>x) (λ_ _ x=>x.2)
def tRepl (a b:Str) (to:TE):TE:=λσ H Q=>to σ H λx H1=>∃ z:Str,x=.str z/\z.length+(z.length+1)*b.length<=16777216/\Q (.str (w6 z a b)) H1
def X0 {o:Expr} {to:TE} {a b:Str} {ja jb:Nat} {pa pb apos cpos:Pos} (ho:PET X o to) (ab:(a == b)=false:=by decide)
  (hbase:wv o "replace" X.env (eval o X.env)=eval o X.env:=by rfl)
  (hfew:((backTo cpos (tN [.Constant (.str a) ja pa,.Constant (.str b) jb pb] X.env)).all (λx=>!x.1) && (vj cpos (uH [] X.env)).all (λx=>x.1.isSome)
   && decide (([.Constant (.str a) ja pa,.Constant (.str b) jb pb]:Jh).length+([]:List Keyword).length+(if ([]:List Keyword).isEmpty then 0 else 1)<30))=true:=by rfl)
  (hline:(apos.endLine == cpos.line)=true:=by rfl):PET X (.Call (.Attribute o "replace" apos) [.Constant (.str a) ja pa,.Constant (.str b) jb pb] [] cpos) (tRepl a b to):=by
 refine pet_of λsq s σ H Q I k h=>?_;refine wpAny_Call_method_late hbase hfew hline rfl (thn (ho sq s σ H _ I k h) λv s1 ⟨k1,x,H1,I1,r1,z,ex,hz,q⟩=>?_);subst ex;obtain ⟨t,rfl⟩:=(show ∃ t,v=uT z t from r1);refine ⟨"str","str.replace",uz,PySem.F.slot_str_replace,PySem.F.type_str_replace,typeIs_str s1 z t,(λ_ e=>nomatch e),?_⟩;refine Calls.callWith_builtin rfl (Calls.evalArgs_plain ?_);show wpAny _ _ (spliced ((false,eval (.Constant (.str a) ja pa) X.env)::(false,eval (.Constant (.str b) jb pb) X.env)::[])) _ _ s1;refine Calls.spliced_cons (wpAny_Constant_str ?_);refine Calls.spliced_cons (wpAny_Constant_str ?_);refine Calls.spliced_nil ?_;refine SC.replace (by show s1.toks≠0;omega) (by show s1.toks+1≠0;omega) (by show s1.toks≠s1.toks+1;omega) ab hz λt' kk=>?_;exact ⟨.str (w6 z a b),H1,I1.tok kk,⟨t',U⟩,q⟩
def PST (X:Cx) (st:Stmt) (t:TS):Prop :=
 ∀ (sq:Jc) (s:Sh) (σ:St) (H:Hp) (D:Ends),Inv X sq σ H s->1<=s.toks->t D σ H->wpAny (model X.prog X.w) X.A (exec st X.env) (SP X sq D) X.xe s
def PSsT (X:Cx) (st:List Stmt) (t:TS):Prop :=
 ∀ (sq:Jc) (s:Sh) (σ:St) (H:Hp) (D:Ends),Inv X sq σ H s->1<=s.toks->t D σ H->wpAny (model X.prog X.w) X.A (execs st X.env) (SP X sq D) X.xe s
def psst_cons {st:Stmt} {rest:List Stmt} {t u:TS} (h1:PST X st t) (h2:PSs X rest u):PSsT X (st::rest) (tSeq t u):=by
 intro sq s σ H D I k h;refine wpAny_execs_cons (thn (h1 sq s σ H { D with nx:=u D } I k h) λf s1 q=>?_)
 cases f with
 | next =>
  obtain ⟨σ',H',I',q⟩:=q;exact h2 sq s1 σ' H' D I' q
 | ret v=>exact q
 | brk=>exact q
 | cont=>exact q
def pst_set {pos:Pos} {i:Nat} {x:Str} {e:Expr} {te:TE} {pos':Pos} (hN:X.N.Nodup) (hi:X.N[i]?=Z x) (hx:Loc X.env.scope x) (he:PET X e te) (hs:swapsWith e (Z (.Name x pos')) pos.line X.env=pure false:=by rfl) (hf:X.fn x=true∨X.env.scope.names.lookup x=Z .local:=by first | exact .inl rfl | exact .inr rfl | assumption) :
  PST X (.Assign [.Name x pos'] e pos) (tAsg te (zbj i)):=by
 intro sq s σ H D I k h;refine wpAny_Assign_Name (thn (he.pe sq s σ H _ I k h) λv s1 ⟨y,H1,I1,r1,q1⟩=>?_) hs;exact zap I1 hN hi hx r1 (λs2 I2=>⟨_,H1,I2,q1⟩) hf
def zbo:∀ (ns:List (Str×wS)) (n:Nat),(∀ x∈ns,x.2≠uR)->cellsFrom n ns []=[]:=by
 intro ns
 induction ns with
 | nil=>intro n _;rfl
 | cons a l ih =>
  intro n h;obtain ⟨x,k⟩:=a;have h1:k≠.cell:=h _ (x0z ..);have h2:=ih n λy hy=>h y (x0y _ hy);simp only [cellsFrom];cases k <;> first | exact absurd rfl h1 | simpa using h2
def newEnvT {M:Model} {A:Around} {E:Ja} {s:Sh} {sE:Scope} {globals:Ad} {p:Str} {u:Vl} {sy:Str} {func:Option Ad} {code:Vl} {builtins:Ad} {Q:Env->Sh->Prop}
  (hk:sE.kind=vV) (nc:∀ x∈sE.names,x.2≠uR) (hl:sE.names.lookup p=Z .local)
  (h:∀ env:Env,env=newEnv sE s.heap.objs.size globals (cellsFrom (s.heap.objs.size+1) sE.names []) sy func code Y builtins->∀ s':Sh,
   InCallC s env.locals (bindL env.kindOf [(p,u)] λ_=>Y) env.cells (bindC env.kindOf [(p,u)] λ_=>Y) s'->1<=s'.toks->Q env s') :
  wpAny M A (newFunctionEnv sE globals [] [(p,u)] sy func code Y builtins) Q E s:=by
 have hcf:=zbo sE.names (s.heap.objs.size+1) nc;refine wpAny_newFunctionEnv nc (λy hy=>?_) (λh' hns hsb=>?_) hk
 .rcases sG.mp hy with rfl
  exact hl
 refine h _ (by rw [hcf]) _ ?_ (by show 1<=s.toks+1;omega);refine InCallC.mk ⟨⟨_,_,U⟩,?_,λb o e=>?_,sK _⟩ (λn c z=>nomatch z) List.Pairwise.nil (λn c z=>nomatch z)
 .have e:(λy=>vt y ([(p,u)]:List (Str×Vl)).reverse)=bindL (newEnv sE s.heap.objs.size globals [] sy func code Y builtins).kindOf [(p,u)] λ_=>Y:=by
   funext y;show vt y [(p,u)]=bindL (newEnv sE s.heap.objs.size globals [] sy func code Y builtins).kindOf [(p,u)] (λ_=>Y) y;have hk:(newEnv sE s.heap.objs.size globals [] sy func code Y builtins).kindOf p=Z .local:=hl;simp only [bindL,hk,vt];by_cases hy:y=p
   .simp [hy]
   .have:(y == p)=false:=by simpa using hy
    simp [hy,this]
  rw [← e];exact hns
 .have hb:b≠s.heap.objs.size:=by
   rintro rfl;simp [Heap.get?] at e
  rw [hsb.2 b hb];exact sV _ e
section
variable {K:Fg} {base:Heap}
def fn_ofT {CX:CXT} {k:Nat} {f:Ad} {name sy:Str} {params:Arguments} {body:List Stmt} {sE:Scope} {dV kV doc pm sA ct oc:Vl} {an od:Option Ad}
  {osl:Array (Je)} {N:Jf} {p:Str} {sp:Sp} (lk:K.lookup f=Z ⟨oc,od,.func (tS name sy params body sE dV kV doc pm an sA ct),osl⟩) (hcd:ur K sA sy=true) (S:FnScope N [p] sE)
  (nc:∀ x∈sE.names,x.2≠uR)
  (len:∀ vs H Q E,sp vs H Q E->vs.length=1)
  (hbody:∀ (A:Around) (outer:List Env) (s:Sh) (H:Hp) (vs:Jn) (Q:VK) (E:XK),Room k (A.deeper (envOfC sy sE s.heap.objs.size f sA))->sp vs H Q E ->
   ∃ t,PSsT (Zl CX P w K mg base N sy sE f sA A outer s H E) body t/\t { nx:=λ_ H'=>Q .non H',rt:=Q } (start N vs) H) :
  FnOk P w K mg base CX (k+1) f (tS name sy params body sE dV kV doc pm an sA ct) [p] sp:=by
 refine ⟨len,λA outer s H args us vs Q E hr e0 hb r hsp=>?_⟩;have hl:=len _ _ _ _ hsp;have KX:K.In s.heap:=e0.mod.kin.keeps λb o e=>(e0.bs b o e).1;have lim:s.heap.NoLimit:=e0.mod.nolimit.keeps λb o e=>(e0.bs b o e).1
 have hloc:sE.names.lookup p=Z .local:=by
  rcases S.par p (sG.mpr rfl) with q | q
  .exact q
  .exact absurd rfl (nc (p,.cell) (vf q))
 obtain ⟨u,rfl⟩:∃ u,us=[u]:=by
  have:=r.length
  match us,this with
  | [u],_=>exact ⟨u,U⟩
  | [],h=>rw [hl] at h;simp at h
  | _::_::_,h=>rw [hl] at h;simp at h
 refine codeAny_call_function hr.depth (KX _ _ lk) rfl S.co S.gen rfl (PySem.W.codeRec_of KX hcd) (hb _ _ _ _ ?_);refine newEnvT S.kind nc hloc λenv he s1 x tk=>?_;subst he;refine ⟨lim.keeps x.toInCall.keep,codeAny_func ?_⟩;obtain ⟨t,ht,hq⟩:=hbody A outer s H vs Q E (hr.deeper _) hsp;have I:Inv (Zl CX P w K mg base N sy sE f sA A outer s H E) [] (start N vs) H s1:=zci S hr.hd e0 hl r x;refine um (ht [] s1 (start N vs) H _ I tk hq) (λfl s' hs=>?_) λe s' hs=>hs
 have fin:∀ {σ':St} {H':Hp} {v:V} {u:Vl},Inv (Zl CX P w K mg base N sy sE f sA A outer s H E) [] σ' H' s'->RelV v u->Q v H'->CE outer P w H s Q u s' :=
  λ{σ' H' v u} J rv q=>⟨v,H',J.os,J.bare,J.base,J.hok,rv,q⟩
 cases fl with
 | ret u =>
  obtain ⟨v,σ',H',J,rv,q⟩:=hs;exact fin J rv q
 | next =>
  obtain ⟨σ',H',J,q⟩:=hs;exact fin (v:=V.non) (u:=Value.none) J rfl q
 | brk =>
  obtain ⟨_,_,_,q⟩:=hs;exact uL q
 | cont =>
  obtain ⟨_,_,_,q⟩:=hs;exact uL q
def Fun.okT {CX:CXT} {x sy:Str} {st:Stmt} {f:Ad} {fd:uk} {N:Jf} {p:Str} {k:Nat} {sp:Sp} (F:Fun K x sy st f fd) (S:FnScope N [p] (zf st)) (nc:∀ x∈(zf st).names,x.2≠uR) (len:∀ vs H Q E,sp vs H Q E->vs.length=[p].length)
  (hbody:∀ (sA:Vl) (A:Around) (outer:List Env) (s:Sh) (H:Hp) (vs:Jn) (Q:VK) (E:XK),Room k (A.deeper (envOfC sy (zf st) s.heap.objs.size f sA))->sp vs H Q E ->
   ∃ t,PSsT (Zl CX P w K mg base N sy (zf st) f sA A outer s H E) (zS st) t/\t { nx:=λ_ H'=>Q .non H',rt:=Q } (start N vs) H):FnOk P w K mg base CX (k+1) f fd [p] sp:=by
 obtain ⟨oc,od,kV,doc,pm,an,sA,ct,osl,rfl,lk,hcd⟩:=F.ex;exact fn_ofT lk hcd S nc len λA outer s H vs Q E hr hsp=>hbody sA A outer s H vs Q E hr hsp
end
def zb1:∀ (l:List (Str×Tok)),Vals (l.map λx=>V.str x.1) (strValues l):=by
 intro l
 induction l with
 | nil=>exact .nil
 | cons a l ih=>exact .cons ⟨a.2,U⟩ ih
def rSplit:V->Jn->Hp->VK->Prop:=λx xs H Q=>∃ z y:Str,x=.str z/\xs=[.str y]/\(y.length == 0)=false/\z.length+2<=sL/\∀ a,H a=Y->Q (.ref a) (upd H a (.lst ((uo z y).map V.str)))
def ze2:MtR X "str.split" rSplit:=by
 intro sq s σ H x xs v us Q I rx rs h;obtain ⟨z,y,rfl,rfl,hy,hz,q⟩:=h;obtain ⟨t,rfl⟩:=(show ∃ t,v=uT z t from rx)
 obtain ⟨u,rfl⟩:∃ u,us=[uT y u]:=by
  cases rs with
  | cons r1 r2=>cases r2;obtain ⟨u,rfl⟩:=r1;exact ⟨u,U⟩
 have put:∀ (l:List (Str×Tok)) (k:Nat),l.map (·.1)=uo z y->EP X sq σ Q (.ref s.heap.objs.size) { s with heap:=s.heap.push { cls:=.type "list",data:=.seq (strValues l).toArray },toks:=k }:=λl k e=>by
  have hl:=len_le_of_split e;refine ⟨.ref s.heap.objs.size,_,I.laid (t':=k) (o:=.lst ((uo z y).map V.str)) (λb ob q=>sV _ q) (sK _) ?_,U,q _ (I.hok.fresh (sK _))⟩;refine ⟨by rw [← e,ug,Ji];omega,_,0,?_,tR _ rfl⟩;rw [← e,ug];exact zb1 l
 have ity:=typeIs_str s z t;by_cases c1:(decide (z.length<y.length) || decide (wK z<wK y))=true
 .refine call_meets uy ity vF (wG _ _) (meets_str_split_cannot_occur z y t u c1) ?_
  exact put [(z,t)] s.toks (by unfold uo;rw [if_pos c1];rfl)
 .have c1:(decide (z.length<y.length) || decide (wK z<wK y))=false:=by simpa using c1
  by_cases c2:(uw z y 0 z.length (z.length+1)).isEmpty=true
  .refine call_meets uy ity vF (wG _ _) (meets_str_split_not_found z y t u c1 hy c2) ?_
   exact put [(z,t)] s.toks (by simp [uo,c1,c2])
  .have c2:(uw z y 0 z.length (z.length+1)).isEmpty=false:=by simpa using c2
   have e:uo z y=Builtin.Str.partsBetween z (uw z y 0 z.length (z.length+1)) y.length:=by simp [uo,c1,c2]
   have en:∀ (k:Nat) (xs:Jf),(numbered k xs).map (·.1)=xs:=by
    intro k xs
    induction xs generalizing k with
    | nil=>rfl
    | cons a l ih=>simp [numbered,ih]
   have e2:=en s.toks (Builtin.Str.partsBetween z (uw z y 0 z.length (z.length+1)) y.length);have hl:=len_le_of_split (e2.trans e.symm);have h3:=congrArg uY e2;rw [Ji] at h3;refine call_meets uy ity vF (wG _ _) (meets_str_split_sep z y t u c1 hy c2 (by omega) (by omega)) ?_;rw [strsFrom_eq];exact put _ _ (e2.trans e.symm)
def ye (c:Nat):List Nat->List (List Nat)
 | []=>[[]]
 | a::l=>if a=c then []::ye c l else match ye c l with | []=>[[a]] | h::t=>(a::h)::t
def YZ (z:List Nat):List (List Nat)->List Nat
 | []=>[]
 | x::r=>x++r.flatMap λp=>z++p
def zb5 (c:Nat) (l:List Nat):∃ h t,ye c l=h::t:=by
 cases l with
 | nil=>exact ⟨_,_,U⟩
 | cons a l =>
  unfold ye
  split
  .exact ⟨_,_,U⟩
  .split <;> exact ⟨_,_,U⟩
def XX {c:Nat} {p y h:List Nat} {t:List (List Nat)} (hp:c ∉ p) (e:ye c y=h::t):ye c (p++y)=(p++h)::t:=by
 induction p with
 | nil=>exact e
 | cons a p ih =>
  have h1:a≠c:=λz=>hp (by rw [z];exact x0z ..);have:=ih λz=>hp (x0y _ z);show ye c (a::(p++y))=_;rw [ye,if_neg h1,this];rfl
def zaq {c:Nat} {p:List Nat} (hp:c ∉ p):ye c p=[p]:=by
 have:=XX (y:=[]) hp rfl;simpa using this
def XW {c:Nat}:∀ (r:List (List Nat)) (x:List Nat),c ∉ x->(∀ p∈r,c ∉ p)->ye c (YZ [c] (x::r))=x::r:=by
 intro r
 induction r with
 | nil=>intro x hx _;rw [show YZ [c] [x]=x by simp [YZ]];exact zaq hx
 | cons a r ih =>
  intro x hx hr;have:=ih a (hr a (x0z ..)) λp hp=>hr p (x0y _ hp);have e:YZ [c] (x::a::r)=x++(c::YZ [c] (a::r)):=by simp [YZ]
  rw [e,XX hx (h:=[]) (t:=a::r) (by rw [ye,if_pos rfl,this]),x2y]
def zd3 (z:List Nat) (c:Nat) (l:List Nat):YZ z (ye c l)=l.flatMap λa=>if a=c then z else [a]:=by
 induction l with
 | nil=>rfl
 | cons a l ih =>
  obtain ⟨h,t,e⟩:=zb5 c l;rw [e] at ih;rw [wH,← ih,ye];by_cases q:a=c
  .simp [q,e,YZ]
  .simp [q,e,YZ]
def Y2 {c:Nat}:∀ (x y:List Nat) (i:List (List Nat)) (e h:List Nat) (t:List (List Nat)),ye c x=i++[e]->ye c y=h::t->ye c (x++y)=i++(e++h)::t:=by
 intro x
 induction x with
 | nil =>
  intro y i e h t hx hy
  have:i=[]/\e=[]:=by
   cases i with
   | nil=>simp [ye] at hx;exact ⟨U,hx⟩
   | cons a i=>simp [ye] at hx
  rw [this.1,this.2];exact hy
 | cons a x ih =>
  intro y i e h t hx hy;obtain ⟨h0,t0,e0⟩:=zb5 c x;show ye c (a::(x++y))=_;rw [ye] at hx ⊢;by_cases q:a=c
  .rw [if_pos q] at hx ⊢
   cases i with
   | nil=>rw [e0] at hx;simp at hx
   | cons b i =>
    rw [wT] at hx;injection hx with e1 e2
    rw [ih y i e h t e2 hy,← e1];rfl
  .rw [if_neg q] at hx ⊢
   rw [e0] at hx;have hx:(a::h0)::t0=i++[e]:=hx
   cases i with
   | nil =>
    simp at hx;obtain ⟨e1,e2⟩:=hx;rw [ih y [] h0 h t (by rw [e0,e2];rfl) hy,← e1];rfl
   | cons b i =>
    rw [wT] at hx;injection hx with e1 e2
    rw [ih y (h0::i) e h t (by rw [e0,e2];rfl) hy,← e1];rfl
abbrev lt' (x:Str):List Nat:=x.cps.toList
def XR (z:Str) (ps:Jf):lt' (z.join ps)=YZ (lt' z) (ps.map lt'):=by
 cases ps with
 | nil=>rfl
 | cons x r =>
  rw [← StrLaws.glued_cons]
  have:∀ (r:Jf) (a:Array Nat),(List.foldl (λacc p=>acc++z.cps++p.cps) a r).toList=a.toList++(r.map lt').flatMap λp=>lt' z++p:=by
   intro r
   induction r with
   | nil=>intro a;simp
   | cons b r ih=>intro a;rw [List.foldl_cons,ih];simp
  exact this r x.cps
def Y1 (x:Str) (c:Nat):(uo x ⟨#[c]⟩).map lt'=ye c (lt' x):=by
 have h1:=StrLaws.join_split x ⟨#[c]⟩;have h2:=StrLaws.split_free x c;have h3:1<=((uo x ⟨#[c]⟩).map λy=>(y,(0:Tok))).length:=len_of_split (x:=x) (y:=⟨#[c]⟩) (by rw [ug];exact List.map_id _);rw [Ji] at h3;have e:=XR ⟨#[c]⟩ (uo x ⟨#[c]⟩);rw [h1] at e;rw [e]
 cases hp:uo x ⟨#[c]⟩ with
 | nil=>rw [hp] at h3;simp at h3
 | cons a r =>
  rw [hp] at h2;rw [tz];refine (XW _ _ (h2 a (x0z ..)) λp hq=>?_).symm;obtain ⟨b,hb,rfl⟩:=tW.mp hq;exact h2 b (x0y _ hb)
def XI (x z:Str) (c:Nat):lt' (w6 x ⟨#[c]⟩ z)=(lt' x).flatMap λa=>if a=c then lt' z else [a]:=by
 rw [StrLaws.replace_one,XR,Y1,zd3]
def gB (a:Nat):List Nat:=if a=40 then [32,40,32] else if a=41 then [32,41,32] else [a]
def apart (z:Str):Str:=w6 (w6 z "(" " ( ") ")" " ) "
def zbs (z:Str):lt' (apart z)=(lt' z).flatMap gB:=by
 have a1:("(":Str)=⟨#[40]⟩:=by decide
 have a2:(")":Str)=⟨#[41]⟩:=by decide
 unfold apart;rw [a1,a2,XI,XI,List.flatMap_assoc];congr 1;funext a;have b1:lt' (" ( ":Str)=[32,40,32]:=by decide
 have b2:lt' (" ) ":Str)=[32,41,32]:=by decide
 rw [b1,b2];unfold gB;by_cases q:a=40
 .subst q;decide
 .rw [if_neg q,if_neg q];simp
def yB (z:Str):Jf:=(uo (apart z) " ").filter λw=>w != ""
def Wd (l:List Nat) (due:List (List Nat)) (still:Bool):Prop:=∃ i e,ye 32 (l.flatMap gB)=i++[e]/\due=(i++[e]).filter (λw=>w != [])/\still=(e != [])
def Wd.nil:Wd [] [] false:=⟨[],[],U,U,U⟩
def Wd.spaces {l:List Nat} {due:List (List Nat)} {b:Bool} (h:Wd l due b) (k:Nat):Wd (l++tD (k+1) 32) due false:=by
 obtain ⟨i,e,h1,rfl,_⟩:=h
 have h2:∀ k,ye 32 (tD k 32)=tD (k+1) []:=by
  intro k
  induction k with
  | zero=>rfl
  | succ k ih=>rw [vD,ye,if_pos rfl,ih];rfl
 have h3:(tD (k+1) 32).flatMap gB=tD (k+1) 32:=by
  induction k with
  | zero=>rfl
  | succ k ih=>rw [vD,wH,ih];rfl
 have h4:=Y2 (l.flatMap gB) (tD (k+1) 32) i e [] (tD (k+1) []) h1 (h2 (k+1));refine ⟨i++e::tD k [],[],?_,?_,U⟩
 .rw [List.flatMap_append,h3,h4,x2y,List.append_assoc,wT,← List.replicate_succ']
 .have h5:∀ k,(tD k ([]:List Nat)).filter (λw=>w != [])=[]:=by
   intro k
   induction k with
   | zero=>rfl
   | succ k ih=>rw [vD,uW,ih];rfl
  simp [vK,uW,h5]
def Wd.bracket {l:List Nat} {due:List (List Nat)} {b:Bool} (h:Wd l due b) {c:Nat} (hc:c=40∨c=41):Wd (l++[c]) (due++[[c]]) false:=by
 obtain ⟨i,e,h1,rfl,_⟩:=h;have h3:([c]:List Nat).flatMap gB=[32,c,32]:=by rcases hc with rfl | rfl <;> rfl
 have h2:ye 32 [32,c,32]=[[],[c],[]]:=by rcases hc with rfl | rfl <;> decide
 have h4:=Y2 (l.flatMap gB) [32,c,32] i e [] [[c],[]] h1 h2;refine ⟨i++[e,[c]],[],?_,?_,U⟩
 .rw [List.flatMap_append,h3,h4];simp
 .by_cases q:e=[] <;> simp [vK,uW,q]
def gB_free {w:List Nat} (h:∀ a∈w,a≠40/\a≠41):w.flatMap gB=w:=by
 induction w with
 | nil=>rfl
 | cons a w ih =>
  obtain ⟨q1,q2⟩:=h a (x0z ..);rw [wH,ih λb hb=>h b (x0y _ hb)];simp [gB,q1,q2]
def Wd.word {l w:List Nat} {due:List (List Nat)} (h:Wd l due false) (hw:∀ a∈w,a≠32/\a≠40/\a≠41) (w0:w≠[]):Wd (l++w) (due++[w]) true:=by
 obtain ⟨i,e,h1,rfl,h0⟩:=h;have e0:e=[]:=by simpa using h0.symm
 subst e0;have h4:=Y2 (l.flatMap gB) w i [] w [] h1 (zaq λz=>(hw 32 z).1 rfl);refine ⟨i,w,?_,?_,by simpa using w0⟩
 .rw [List.flatMap_append,gB_free λa ha=>(hw a ha).2,h4];rfl
 .simp [vK,uW,w0]
def Wd.words {z:Str} {due:List (List Nat)} {b:Bool} (h:Wd (lt' z) due b):(yB z).map lt'=due:=by
 obtain ⟨i,e,h1,rfl,_⟩:=h;have a0:(" ":Str)=⟨#[32]⟩:=by decide
 unfold yB;rw [← h1,← zbs,a0,← Y1,List.filter_map];congr 1;refine List.filter_congr λx _=>?_;obtain ⟨⟨l⟩⟩:=x
 cases l with
 | nil=>rfl
 | cons a l =>
  show _=((a::l) != [])
  have:(({ cps:={ toList:=a::l } }:Str) != ("":Str))=true:=by
   simp only [bne_iff_ne];intro q;have:=congrArg lt' q;have e0:lt' ("":Str)=[]:=by decide
   rw [e0] at this;cases this
  rw [this];rfl
section
variable {A:Around} {R:Result->Sh->Prop} {s:Sh}
theorem zgo {elt target iter tst:Expr} {sE:Scope} {pos:Pos} {it acc:Vl} {env:Env} (I:Nat->Sh->Prop)
  (turn:∀ n s,I n s->wpAny (model prog w) A (pyNext it) (λr s₁=>match r with
   | none=>R (.ok .next) s₁
   | some v=>wpAny (model prog w) A (vU target it v) (λ_ s₂=>wpAny (model prog w) A (assign target env v) (λ_ s₃=>wpAny (model prog w) A (isTrue tst env (eval tst env)) (λok t₃=>match ok with
     | true=>wpAny (model prog w) A (eval elt env) (λx s₄=>wpAny (model prog w) A (call (.builtin "list.append") [acc,x]) (λ_ s₅=>∃ m,m<n/\I m s₅) (λ_ _=>False) s₄) (λ_ _=>False) t₃
     | false=>∃ m,m<n/\I m t₃) (λ_ _=>False) s₃) (λ_ _=>False) s₂) (λ_ _=>False) s₁) (λ_ _=>False) s)
  (n:Nat) (h:I n s):wB (model prog w) A (.compLoop (.ListComp elt [⟨target,iter,[tst],0⟩] sE pos) 0 it acc env) R s:=by
 refine codeAny_loop rfl I (λn s hI=>?_) n h;show wpAny _ _ ((compTurn (.ListComp elt [⟨target,iter,[tst],0⟩] sE pos) 0 it acc env).onRaise (λx=>do noteFrame x env;theTreesLotGoes x)) _ _ s;refine wpAny_noted ?_;rw [compTurn_list];refine q0x (wpAny_standAt (q0x (um (turn n s hI) (λr s₁ h₁=>?_) λ_ _ z=>z.elim)))
 cases r with
 | none=>exact q0y h₁
 | some v =>
  refine q0x (um h₁ (λ_ s₂ h₂=>?_) λ_ _ z=>z.elim);refine q0x (um h₂ (λ_ s₃ h₃=>?_) λ_ _ z=>z.elim);refine q0x (wpAny_tests_one (um h₃ (λok t₃ h₃=>?_) λ_ _ z=>z.elim))
  cases ok with
  | false=>exact q0y ⟨U,h₃⟩
  | true =>
   refine q0x (q0x (um h₃ (λx s₄ h₄=>?_) λ_ _ z=>z.elim));exact q0x (um h₄ (λ_ s₅ h₅=>q0y (q0y ⟨U,h₅⟩)) λ_ _ z=>z.elim)
end
inductive CompWF (J:It) (g:TG) (tt:TT) (te:TE) (σY:St) (H1:Hp) (D:Ad) (Q:VK):Prop
 | mk (W:Nat->Nat->St->Hp->Prop) (_:(∃ m,W 0 m σY H1)) (_:∀ i m σ' H',W i m σ' H'->(J.stop i H'/\Q (.ref D) H')∨(J.go i H'/\∃ N:St->Hp->Prop,(∀ σ2 H2,N σ2 H2->∃ m',m'<m/\W (i+1) m' σ2 H2)/\∀ x H2,J.yld i H' x H2->g x σ' H2 λσ3 H3=>tt σ3 H3 λb H4=>if b=true then te σ3 H4 λv H5=>∃ xs,H5 D=Z (.lst xs)/\xs.length<sL/\N σ3 (upd H5 D (.lst (xs++[v]))) else N σ3 H4)):CompWF J g tt te σY H1 D Q
inductive tCompF_S (g:TG) (tt:TT) (te:TE) (σ0:St->Hp->St->Prop) (σ:St) (Q:VK) (J:It) (H1:Hp):Prop
 | mk (σY:_) (_:σ0 σ H1 σY) (_:∀ D,H1 D=Y->CompWF J g tt te σY (upd H1 D (.lst [])) D Q)
def zcy (wi:TI) (g:TG) (tt:TT) (te:TE) (σ0:St->Hp->St->Prop):TE:=λσ H Q=>wi σ H λJ H1=>tCompF_S g tt te σ0 σ Q J H1
section
variable {tg:Expr}
def zbl {iter elt tst:Expr} {sE:Scope} {pos pos':Pos} {cl:List (Str×Ad)} {NY:Jf} {wi:TI} {g:TG} {tt:TT} {te:TE} {σ0:St->Hp->St->Prop} (hc:X.calm=true) (S:Sees X sE cl) (hi:PI X tg iter wi)
  (hY:∀ (s3:Sh) (H3:Hp) (fp:Jg),PG (X.comp sE cl NY s3 H3 fp) tg g/\PT (X.comp sE cl NY s3 H3 fp) tst tt/\PE (X.comp sE cl NY s3 H3 fp) elt te)
  (h0:∀ (sq:Jc) (σ:St) (H:Hp) (s3:Sh) (σY:St),Inv X sq σ H s3->σ0 σ H σY->σY.length=NY.length/\∀ (i:Nat) (x:Str) (v:V),NY[i]?=Z x->σY[i]?=Z (Z v) ->
   ∃ c u,(((uQ sE cl 0 X.env).kindOf x=Z .cell∨(uQ sE cl 0 X.env).kindOf x=Z .free))/\cl.lookup x=Z c/\RelV v u/\s3.heap.IsCell c (Z u))
  (hs:∀ x,uP iter X.env x=pure x) {use:Option (Vl->Sem Unit)} {R:Ja} {sq:Jc} {s:Sh} {σ:St} {H:Hp} {Q:VK} (I:Inv X sq σ H s) (h:zcy wi g tt te σ0 σ H Q)
  (fin:∀ (C D:Ad) (H5:Hp) (s6:Sh),CompEnd X sq σ H5 s6 C->Q (.ref D) H5->compPost (model X.prog X.w) X.A X.xe use R (.ref D) C (.ok .next) s6) :
  wpAny (model X.prog X.w) X.A (comprehension (.ListComp elt [⟨tg,iter,[tst],0⟩] sE pos) sE X.env pos' (newList []) (firstAsync [⟨tg,iter,[tst],0⟩]) (firstIter [⟨tg,iter,[tst],0⟩] X.env) use) R X.xe s:=by
 refine wpAny_comprehension_free rfl hs S.clos S.kind S.names (thn (hi sq s σ H _ I h) λv s1 h1=>thn h1 λitv s2 h2=>?_);obtain ⟨it,fp,tn,J,H2,e,I2,T,st2,f2,σY,hσ,hW⟩:=h2;subst e;refine wpAny_newObj_type ?_;have I3:Inv X sq σ (upd H2 s2.heap.objs.size (.lst [])) (pz s2):=I2.lnew (t':=s2.toks) (its:=[]) .nil (ub _);obtain ⟨W,⟨m0,w0⟩,turn⟩:=hW s2.heap.objs.size (I2.hok.fresh (sK _));have ob2:=T.obj _ _ st2
 have hfp:∀ b∈fp,Xj X sq (upd H2 s2.heap.objs.size (.lst [])) b:=λb hb=>by
  obtain ⟨o,q,_⟩:=ob2 b hb;exact ⟨by rw [zt (tQ (tw q))];exact (f2 b hb).1,(f2 b hb).2⟩
 have hob:∀ b∈fp,∃ o,(s2.heap.push Lz).get? b=Z o:=λb hb=>by
  obtain ⟨o,q,_⟩:=ob2 b hb;exact ⟨o,sV _ q⟩
 refine wpAny_newFunctionEnv S.nocell (λy hy=>absurd hy (by simp)) (λh1 hn1 hs1=>?_) S.kind;obtain ⟨hl,hY0⟩:=h0 sq σ H2 s2 σY I2 hσ;have k23:∀ b o,s2.heap.get? b=Z o->(s2.heap.push Lz).get? b=Z o:=λb o q=>sV _ q;have k34:∀ b o,(s2.heap.push Lz).get? b=Z o->h1.get? b=Z o:=λb o q=>(hs1.2 b (tQ (tw q))).trans (sV _ q)
 have I4:=zfi (sE:=sE) (cl:=cl) (NY:=NY) (fp:=fp) (h1:=h1) (t:=s2.toks) (σY:=σY) I3 S hfp hob hn1 k34 hl λi x v e1 e2=>by
  obtain ⟨c,u,k,q,r,o,z1,z2⟩:=hY0 i x v e1 e2;exact ⟨c,u,k,q,r,o,k23 _ _ z1,z2⟩
 have st4:tn 0 h1:=T.keep _ _ _ st2 λb hb o q=>k34 _ _ (k23 _ _ q);have fr4:∀ b∈fp,(upd H2 s2.heap.objs.size (.lst [])) b=Y:=λb hb=>(hfp b hb).1;obtain ⟨hg,ht,he⟩:=hY (pz s2) (upd H2 s2.heap.objs.size (.lst [])) fp;have okY:=I4.ok
 have statY:∀ {H':Hp},(∀ b∈fp,H' b=Y)->∀ b∈fp,Xj (Xz X sE cl NY s2 H2 fp) [] H' b :=
  λhn b hb=>⟨hn b hb,(okY.exf b hb).1,okY.exfs b hb,.inl hb,(okY.exf b hb).2,λp hp=>absurd hp (by simp)⟩
 have loop:wB (model X.prog X.w) X.A (.compLoop (.ListComp elt [⟨tg,iter,[tst],0⟩] sE pos) 0 (.ref it) (.ref s2.heap.objs.size) (uQ sE cl (s2.heap.push Lz).objs.size X.env))
   (compPost (model X.prog X.w) X.A X.xe use R (.ref s2.heap.objs.size) (s2.heap.push Lz).objs.size) { s2 with heap:=h1,toks:=s2.toks }:=by
  refine zgo (λn s'=>∃ i σ' H',Inv (Xz X sE cl NY s2 H2 fp) [] σ' H' s'/\tn i s'.heap/\(∀ b∈fp,H' b=Y)/\W i n σ' H') ?_ m0 ⟨0,σY,_,I4,st4,fr4,w0⟩;rintro n s5 ⟨i,σ5,H5,I5,st5,fr5,w5⟩;rcases turn i n σ5 H5 w5 with ⟨stop,q⟩ | ⟨go,N,hN,step⟩
  .refine thn (T.done (Xz X sE cl NY s2 H2 fp) rfl rfl rfl hc i [] s5 σ5 H5 _ I5 (statY fr5) st5 stop) λr s6 ⟨hr,I6⟩=>?_
   subst hr;obtain ⟨m,hm,_⟩:=I6.loc;refine fin _ _ H5 s6 ⟨⟨m,hm⟩,I6.free,vQ (tQ I3.lt),I3.sz,λx c z=>?_,λp hp=>?_,λh' hs'=>zcq I3 hfp I6 hs'⟩ q
   .obtain ⟨_,o,z1,_⟩:=I3.cell x c z
    exact tQ (tw z1)
   .exact tQ (tw (I3.pin p hp).1)
  .refine thn (T.item (Xz X sE cl NY s2 H2 fp) rfl rfl rfl hc i [] s5 σ5 H5 _ I5 (statY fr5) st5 go) λr s6 ⟨u,hr,h6⟩=>?_
   subst hr;refine thn h6 λ_ s7 ⟨x,H7,I7,r7,y7,st7,fr7⟩=>?_;have I7':=I7.pinned (statY fr7) (T.obj _ _ st7);refine thn (hg _ s7 σ5 H7 x u _ I7' r7 (step x H7 y7)) λ_ s8 ⟨σ8,H8,I8,q8⟩=>?_
   have pk:∀ {H':Hp} {s':Sh} {σ':St},Inv (Xz X sE cl NY s2 H2 fp) ([]++za3 fp s7.heap) σ' H' s'->tn (i+1) s'.heap/\∀ b∈fp,H' b=Y:=λI'=>by
    refine ⟨T.keep _ _ _ st7 λb hb o q=>(I'.pin (b,o) (x1y _ (x1y _ (xR hb q)))).1,λb hb=>?_⟩;obtain ⟨o,q,d⟩:=T.obj _ _ st7 b hb;exact (I'.pin (b,o) (x1y _ (x1y _ (xR hb q)))).2.1
   refine thn (ht _ s8 σ8 H8 _ I8 q8) λbb s8' ⟨H8',I8',q8'⟩=>?_
   cases bb with
   | false =>
    have q8':=(show N σ8 H8' by simpa using q8');obtain ⟨m',hm,w10⟩:=hN _ _ q8';exact ⟨m',hm,i+1,σ8,_,I8'.unpinned,(pk I8').1,(pk I8').2,w10⟩
   | true =>
    have q8':=(show te σ8 H8' _ by simpa using q8');refine thn (he _ s8' σ8 H8' _ I8' q8') λz s9 ⟨v9,H9,I9,r9,xs,hx9,hz9,n9⟩=>?_;refine thn (zQ _ s9 σ8 H9 (.ref s2.heap.objs.size) [v9] (.ref s2.heap.objs.size) [z] (λ_ H'=>H'=upd H9 s2.heap.objs.size (.lst (xs++[v9]))) I9 rfl (.cons r9 .nil) ⟨s2.heap.objs.size,xs,v9,U,U,hx9,hz9,U⟩) λy s10 ⟨v10,H10,I10,_,e10⟩=>?_;subst e10;obtain ⟨m',hm,w10⟩:=hN _ _ n9;exact ⟨m',hm,i+1,σ8,_,I10.unpinned,(pk I10).1,(pk I10).2,w10⟩
 exact codeAny_compStart_list loop (T.self _ 0 _ _ _ st4 loop)
def pe_compF0 {iter elt tst:Expr} {sE:Scope} {pos:Pos} {cl:List (Str×Ad)} {NY:Jf} {wi:TI} {g:TG} {tt:TT} {te:TE} {σ0:St->Hp->St->Prop} (hc:X.calm=true) (S:Sees X sE cl) (hi:PI X tg iter wi)
  (hY:∀ (s3:Sh) (H3:Hp) (fp:Jg),PG (X.comp sE cl NY s3 H3 fp) tg g/\PT (X.comp sE cl NY s3 H3 fp) tst tt/\PE (X.comp sE cl NY s3 H3 fp) elt te)
  (h0:∀ (sq:Jc) (σ:St) (H:Hp) (s3:Sh) (σY:St),Inv X sq σ H s3->σ0 σ H σY->σY.length=NY.length/\∀ (i:Nat) (x:Str) (v:V),NY[i]?=Z x->σY[i]?=Z (Z v) ->
   ∃ c u,(((uQ sE cl 0 X.env).kindOf x=Z .cell∨(uQ sE cl 0 X.env).kindOf x=Z .free))/\cl.lookup x=Z c/\RelV v u/\s3.heap.IsCell c (Z u))
  (hs:∀ x,uP iter X.env x=pure x:=by intro _;rfl) :
  PE X (.ListComp elt [⟨tg,iter,[tst],0⟩] sE pos) (zcy wi g tt te σ0):=by
 intro sq s σ H Q I h;rw [eval_ListComp];refine zbl (use:=Y) hc S hi hY h0 hs I h λC D H5 s6 e q=>?_;obtain ⟨m,hm⟩:=e.ns;exact ⟨m,hm,λh' hs'=>⟨.ref D,H5,e.inv h' hs',U,q⟩⟩
def ps_compF0 {iter elt tst:Expr} {sE:Scope} {pos pos' spos:Pos} {cl:List (Str×Ad)} {NY:Jf} {wi:TI} {g:TG} {tt:TT} {te:TE} {σ0:St->Hp->St->Prop} {i:Nat} {y:Str} (hc:X.calm=true) (S:∀ {sq σ H s},Inv X sq σ H s->Sees X sE cl) (hi:PI X tg iter wi)
  (hY:∀ (s3:Sh) (H3:Hp) (fp:Jg),PG (X.comp sE cl NY s3 H3 fp) tg g/\PT (X.comp sE cl NY s3 H3 fp) tst tt/\PE (X.comp sE cl NY s3 H3 fp) elt te)
  (h0:∀ (sq:Jc) (σ:St) (H:Hp) (s3:Sh) (σY:St),Inv X sq σ H s3->σ0 σ H σY->σY.length=NY.length/\∀ (i:Nat) (x:Str) (v:V),NY[i]?=Z x->σY[i]?=Z (Z v) ->
   ∃ c u,(((uQ sE cl 0 X.env).kindOf x=Z .cell∨(uQ sE cl 0 X.env).kindOf x=Z .free))/\cl.lookup x=Z c/\RelV v u/\s3.heap.IsCell c (Z u))
  (hs:∀ x,uP iter X.env x=pure x) (hN:X.N.Nodup) (hi':X.N[i]?=Z y) (hx:Loc X.env.scope y) (hf:X.fn y=true∨X.env.scope.names.lookup y=Z .local)
  (hw:swapsWith (.ListComp elt [⟨tg,iter,[tst],0⟩] sE pos) (Z (.Name y pos')) spos.line X.env=pure true):PS X (.Assign [.Name y pos'] (.ListComp elt [⟨tg,iter,[tst],0⟩] sE pos) spos) (tAsg (zcy wi g tt te σ0) (zbj i)):=by
 intro sq s σ H D I h;rw [exec_Assign_Name_used _ _ _ _ hw,arm_evalThenUse_ListComp];refine q0x (wpAny_standAt (q0x (q0x (um (zbl (use:=Z (assign (.Name y pos') X.env)) (R:=λ_ s'=>SP X sq D .next s') hc (S I) hi hY h0 hs I h λC L H5 s6 e q=>?_) (λ_ s' z=>q0y (q0y z)) λ_ _ z=>z))));obtain ⟨m,hm⟩:=e.ns;have I6:Inv X sq σ H5 s6:=e.inv s6.heap ⟨U,λ_ _=>rfl⟩;refine wpAny_assign_Name (zb4 I6 hN hi' hx (v:=.ref L) rfl (λs' I' ⟨a,sb,ha⟩=>?_) hf)
 have ne:C≠a:=by
  rintro rfl;rcases ha with z | z
  .exact e.hL z
  .exact e.h2 _ _ z rfl
 refine ⟨m,?_,λh' hs'=>?_⟩
 .obtain ⟨o,es,ep,z,r⟩:=hm
  exact ⟨o,es,ep,(sb.2 _ ne).trans z,r⟩
 .exact ⟨_,H5,I'.turned (t':=s'.toks) (it:=C) (λb o nb z=>(hs'.2 b nb).trans z) e.hn e.hL (.inr e.h1) e.h2 e.h3,q⟩
end
abbrev tCompFC (wi:TI) (g:TG) (tt:TT) (te:TE) (cap:List (Option Nat)):TE:=zcy wi g tt te λσ _ σY=>σY=capt cap σ
section
variable {tg:Expr}
def za4 {iter elt tst:Expr} {sE:Scope} {pos:Pos} {wi:TI} {g:TG} {tt:TT} {te:TE} (NY:Jf) (cap:List (Option Nat)) (hc:X.calm=true) (hk:zav X sE=true) (hcap:zbq X sE NY cap=true) (hi:PI X tg iter wi)
  (hY:∀ (s3:Sh) (H3:Hp) (fp:Jg),PG (X.comp sE (Yf X.env sE) NY s3 H3 fp) tg g/\PT (X.comp sE (Yf X.env sE) NY s3 H3 fp) tst tt/\PE (X.comp sE (Yf X.env sE) NY s3 H3 fp) elt te)
  (hs:∀ x,uP iter X.env x=pure x:=by intro _;rfl):PE X (.ListComp elt [⟨tg,iter,[tst],0⟩] sE pos) (tCompFC wi g tt te cap):=by
 intro sq s σ H Q I h;have S:=Xk I.ok hk;refine pe_compF0 (NY:=NY) hc S hi hY (λsq σ H s3 σY I3 e=>?_) hs sq s σ H Q I h;subst e;exact XD I3 (Xk I3.ok hk) hcap
def zem {iter elt tst:Expr} {sE:Scope} {pos pos' spos:Pos} {wi:TI} {g:TG} {tt:TT} {te:TE} {i:Nat} {y:Str} (NY:Jf) (cap:List (Option Nat)) (hc:X.calm=true) (hk:zav X sE=true) (hcap:zbq X sE NY cap=true) (hi:PI X tg iter wi)
  (hY:∀ (s3:Sh) (H3:Hp) (fp:Jg),PG (X.comp sE (Yf X.env sE) NY s3 H3 fp) tg g/\PT (X.comp sE (Yf X.env sE) NY s3 H3 fp) tst tt/\PE (X.comp sE (Yf X.env sE) NY s3 H3 fp) elt te) (hN:X.N.Nodup) (hi':X.N[i]?=Z y) (hx:Loc X.env.scope y)
  (hf:X.fn y=true∨X.env.scope.names.lookup y=Z .local:=by first | exact .inl rfl | exact .inr rfl) (hw:swapsWith (.ListComp elt [⟨tg,iter,[tst],0⟩] sE pos) (Z (.Name y pos')) spos.line X.env=pure true:=by rfl)
  (hs:∀ x,uP iter X.env x=pure x:=by intro _;rfl):PS X (.Assign [.Name y pos'] (.ListComp elt [⟨tg,iter,[tst],0⟩] sE pos) spos) (tAsg (tCompFC wi g tt te cap) (zbj i)):=by
 refine ps_compF0 (NY:=NY) hc (λI=>Xk I.ok hk) hi hY (λsq σ H s3 σY I3 e=>?_) hs hN hi' hx hf hw;subst e;exact XD I3 (Xk I3.ok hk) hcap
end
def zbm {K:Fg} {a D:Ad} {xs:Jn} {g:TG} {tt:TT} {te:TE} {σY:St} {H1:Hp} {Q:VK} (Pv:Nat->St->Hp->Prop) (h0:Pv 0 σY H1) (hl:∀ i σ H,i<=xs.length->Pv i σ H->SqL K H a xs)
  (hs:∀ i x σ H,xs[i]?=Z x->Pv i σ H->g x σ H λσ3 H3=>tt σ3 H3 λb H4=>if b=true then te σ3 H4 λv H5=>∃ ys,H5 D=Z (.lst ys)/\ys.length<sL/\Pv (i+1) σ3 (upd H5 D (.lst (ys++[v]))) else Pv (i+1) σ3 H4) (hd:∀ σ H,Pv xs.length σ H->Q (.ref D) H) :
  CompWF (Itl K a) g tt te σY H1 D Q:=by
 refine ⟨λi m σ H=>m=xs.length-i/\i<=xs.length/\Pv i σ H,⟨xs.length,by simp,ub _,h0⟩,?_⟩;rintro i m σ H ⟨rfl,hi,p⟩;have q:=hl i σ H hi p;by_cases hlt:i<xs.length
 .refine .inr ⟨⟨xs,xs[i],q,by simp [hlt]⟩,Pv (i+1),λσ' H' p'=>⟨xs.length-(i+1),by omega,U,hlt,p'⟩,λx H' y=>?_⟩
  obtain ⟨e,y⟩:=y;subst e;exact hs i x σ _ (y xs q) p
 .have e:i=xs.length:=by omega
  subst e;exact .inl ⟨⟨xs,q,sK _⟩,hd σ H p⟩
def Yw {lo:Int} {n:Nat} {D:Ad} {g:TG} {tt:TT} {te:TE} {σY:St} {H1:Hp} {Q:VK} (Pv:Nat->St->Hp->Prop) (h0:Pv 0 σY H1)
  (hs:∀ i σ H,i<n->Pv i σ H->g (.int (lo+i)) σ H λσ3 H3=>tt σ3 H3 λb H4=>if b=true then te σ3 H4 λv H5=>∃ ys,H5 D=Z (.lst ys)/\ys.length<sL/\Pv (i+1) σ3 (upd H5 D (.lst (ys++[v]))) else Pv (i+1) σ3 H4) (hd:∀ σ H,Pv n σ H->Q (.ref D) H) :
  CompWF (Itr lo n) g tt te σY H1 D Q:=by
 refine ⟨λi m σ H=>m=n-i/\i<=n/\Pv i σ H,⟨n,by simp,ub _,h0⟩,?_⟩;rintro i m σ H ⟨rfl,hi,p⟩;by_cases hlt:i<n
 .refine .inr ⟨hlt,Pv (i+1),λσ' H' p'=>⟨n-(i+1),by omega,U,hlt,p'⟩,λx H' y=>?_⟩
  obtain ⟨e,y⟩:=y;subst e y;exact hs i σ _ hlt p
 .have e:i=n:=by omega
  subst e;exact .inl ⟨sK _,hd σ H p⟩
def Itv (xs:Jn):It:=⟨λi _=>i<xs.length,λi H x H'=>H'=H/\xs[i]?=Z x,λi _=>xs.length<=i⟩
def sgs (z:Str):Jn:=z.cps.toList.map λc=>V.str ⟨#[c]⟩
def sgs_len (z:Str):(sgs z).length=z.cps.size:=by unfold sgs;rw [Ji];simp
def turn_str {P:tV} {w:World} {K:Fg} {tg:Expr} (it:Ad) (z:Str) (t:Tok) (ty:String) (hty:ty="str_ascii_iterator"∨ty="str_iterator"):Turn P w K tg (Itv (sgs z)) [it] it (λi h=>h.IsStrIter it ty z t i) where
 mem:=by simp
 obj:=λi h st b hb=>by
  have e:b=it:=by simpa using hb
  subst e;obtain ⟨o,e,c,d⟩:=st;exact ⟨o,e,λv z=>by rw [d] at z;cases z⟩
 keep:=λi h h' st k=>by
  obtain ⟨o,e,r⟩:=st;exact ⟨o,k it (by simp) o e,r⟩
 item:=by
  intro X hP hw hK hc i sq s σ H E I hf st hg;subst hP hw hK;obtain ⟨f0,f1,f2,f3,f4,f5⟩:=hf it (by simp);have hi:i<z.cps.size:=by rw [← sgs_len];exact hg
  have hx:z.cps[i]?=Z z.cps[i]:=by simp [hi]
  have hv:(sgs z)[i]?=Z (V.str ⟨#[z.cps[i]]⟩):=by unfold sgs;rw [sN];simp [hi]
  have hn:["enumerate","zip","dict_itemiterator","dict_reverseitemiterator","odict_iterator","itertools.zip_longest","itertools.pairwise"].contains ty=false:=by rcases hty with rfl | rfl <;> decide
  have fin:∀ h',h'.IsStrIter it ty z t (i+1)->wj it s.heap h'->(λr s1=>∃ u,r=Z u/\wpAny (model X.prog X.w) X.A (vU tg (.ref it) u) (λ_ s2=>∃ x H',Inv X sq σ H' s2/\RelV x u/\(Itv (sgs z)).yld i H x H'/\s2.heap.IsStrIter it ty z t (i+1)/\∀ b∈[it],H' b=Y) E s1) (Z (uT ⟨#[z.cps[i]]⟩ s.toks)) { s with heap:=h',toks:=s.toks+1 }:=λh' st' sb=>by
   have I1:Inv X sq σ H { s with heap:=h',toks:=s.toks+1 }:=I.turned (λb o hb e=>(sb.2 b hb).trans e) f0 f1 f3 f4 f5;obtain ⟨o,e,c,d⟩:=id st';exact ⟨_,U,go_of (s:={ s with heap:=h',toks:=s.toks+1 }) e c d hn ⟨.str ⟨#[z.cps[i]]⟩,H,I1,⟨_,U⟩,⟨U,hv⟩,st',λb hb=>(hf b hb).1⟩⟩
  rcases hty with rfl | rfl
  .exact wpAny_pyNext_ascii_item st hx fin
  .exact wpAny_pyNext_wide_item st hx fin
 done:=by
  intro X hP hw hK hc i sq s σ H E I hf st hg;subst hP hw hK;obtain ⟨f0,f1,f2,f3,f4,f5⟩:=hf it (by simp);have hi:z.cps.size<=i:=by rw [← sgs_len];exact hg
  have hx:z.cps[i]?=Y:=by simp [hi]
  rcases hty with rfl | rfl
  .exact wpAny_pyNext_ascii_end (I.ok.hd hc) st hx λh' eb=>⟨U,I.turned (t':=s.toks) (λb o hb e=>eb b o hb e) f0 f1 f3 f4 f5⟩
  .exact wpAny_pyNext_wide_end (I.ok.hd hc) st hx λh' eb=>⟨U,I.turned (t':=s.toks) (λb o hb e=>eb b o hb e) f0 f1 f3 f4 f5⟩
 self:=λ_ _ _ _ _ st h=>by
  rcases hty with rfl | rfl
  .exact wpAny_pyIter_striter_ascii st h
  .exact wpAny_pyIter_striter_wide st h
section
variable {tg:Expr}
def iStr (tl:TE):TI:=λσ H R=>tl σ H λx H1=>∃ z:Str,x=.str z/\R (Itv (sgs z)) H1
def pi_str {l:Expr} {tl:TE} (hl:PE X l tl):PI X tg l (iStr tl):=by
 intro sq s σ H R I h;refine thn (hl sq s σ H _ I h) λv s1 ⟨x,H1,I1,r1,q1⟩=>?_;obtain ⟨z,e,q⟩:=q1;subst e;obtain ⟨t,rfl⟩:=r1
 have go:∀ ty,(ty="str_ascii_iterator"∨ty="str_iterator")->PIE X sq σ tg R (.ref s1.heap.objs.size) { s1 with heap:=s1.heap.push { cls:=.type ty,data:=.fields #[.str z t,.int 0 0] } }:=λty hty=>by
  refine ⟨s1.heap.objs.size,[s1.heap.objs.size],_,_,H1,U,I1.kept (t':=s1.toks) λb o e=>sV _ e,turn_str _ z t ty hty,⟨_,tR _ rfl,U,U⟩,λb hb=>?_,q⟩;have e:b=s1.heap.objs.size:=by simpa using hb
  subst e;exact I1.fpOk (sK _) (I1.hok.fresh (sK _))
 cases ha:z.cps.all (·<128)
 .exact wpAny_pyIter_wide ha (go _ (.inr rfl))
 .exact wpAny_pyIter_ascii ha (go _ (.inl rfl))
def comp_v {D:Ad} {xs:Jn} {g:TG} {te:TE} {σY:St} {H1:Hp} {Q:VK} (Pv:Nat->St->Hp->Prop) (h0:Pv 0 σY H1)
  (hs:∀ i x σ H,xs[i]?=Z x->Pv i σ H->g x σ H λσ3 H3=>te σ3 H3 λv H4=>∃ ys,H4 D=Z (.lst ys)/\ys.length<sL/\Pv (i+1) σ3 (upd H4 D (.lst (ys++[v])))) (hd:∀ σ H,Pv xs.length σ H->Q (.ref D) H) :
  CompW (Itv xs) g te σY H1 D Q:=by
 refine ⟨λi m σ H=>m=xs.length-i/\i<=xs.length/\Pv i σ H,⟨xs.length,by simp,ub _,h0⟩,?_⟩;rintro i m σ H ⟨rfl,hi,p⟩;by_cases hlt:i<xs.length
 .refine .inr ⟨hlt,Pv (i+1),λσ' H' p'=>⟨xs.length-(i+1),by omega,U,hlt,p'⟩,λx H' y=>?_⟩
  obtain ⟨e,y⟩:=y;subst e;exact hs i x σ _ y p
 .have e:i=xs.length:=by omega
  subst e;exact .inl ⟨sK _,hd σ H p⟩
def rStarts:V->Jn->Hp->VK->Prop:=λx xs H Q=>∃ z y:Str,x=.str z/\xs=[.str y]/\Q (.bl (vz z y)) H
def zcb:MtR X "str.startswith" rStarts:=by
 intro sq s σ H x xs v us Q I rx rs h;obtain ⟨z,y,rfl,rfl,q⟩:=h;obtain ⟨t,rfl⟩:=(show ∃ t,v=uT z t from rx)
 obtain ⟨u,rfl⟩:∃ u,us=[uT y u]:=by
  cases rs with
  | cons r1 r2=>cases r2;obtain ⟨u,rfl⟩:=r1;exact ⟨u,U⟩
 exact SC.startswith ⟨.bl _,H,I,U,q⟩
end
def rSlS:V->Option Int->Option Int->Hp->VK->Prop:=λx lo hi H Q=>∃ z:Str,x=.str z/\z.length<=sL/\Q (.str (uB z lo hi)) H
def Y6:SlR X rSlS:=by
 intro sq s σ H x v vl vu lo hi sl Q I rx hs pl pu h;obtain ⟨z,rfl,hz,q⟩:=h;obtain ⟨t,rfl⟩:=rx;refine ⟨"str",_,F.slot_str_getitem.lookup,typeIs_str _ _ _,?_⟩;obtain ⟨o,ho,hc,hd⟩:=hs;have fin:∀ t' k,EP X sq σ Q (.str (uB z lo hi) t') { s with toks:=k }:=λt' k=>⟨.str _,H,I.tok k,⟨_,U⟩,q⟩
 cases pl with
 | none =>
  cases pu with
  | none=>exact vT (l:=Y) (u:=Y) (st:=Y) ⟨o,ho,hc,hd⟩ rfl (post_val_or_str ⟨tE (v7 z _ _) hz,fin⟩)
  | int j uj=>exact vT (l:=Y) (u:=Z (j,uj)) (st:=Y) ⟨o,ho,hc,hd⟩ rfl (post_val_or_str ⟨tE (v7 z _ _) hz,fin⟩)
 | int i ui =>
  cases pu with
  | none=>exact vT (l:=Z (i,ui)) (u:=Y) (st:=Y) ⟨o,ho,hc,hd⟩ rfl (post_val_or_str ⟨tE (v7 z _ _) hz,fin⟩)
  | int j uj=>exact vT (l:=Z (i,ui)) (u:=Z (j,uj)) (st:=Y) ⟨o,ho,hc,hd⟩ rfl (post_val_or_str ⟨tE (v7 z _ _) hz,fin⟩)
def rSplit0:V->Jn->Hp->VK->Prop:=λx xs H Q=>∃ z:Str,x=.str z/\xs=[]/\z.length<=100000/\(Builtin.Str.spaceWords z (z.length+1)).length<=100000/\(wD z).length<=100000/\∀ a,H a=Y->Q (.ref a) (upd H a (.lst ((wD z).map V.str)))
def zcc:MtR X "str.split" rSplit0:=by
 intro sq s σ H x xs v us Q I rx rs h;obtain ⟨z,rfl,rfl,hz,hy,hw,q⟩:=h;obtain ⟨t,rfl⟩:=(show ∃ t,v=uT z t from rx);cases rs;have SL:(100000:Nat)<sizeLine:=by decide
 have put:∀ (l:List (Str×Tok)) (k:Nat),l.map (·.1)=wD z->EP X sq σ Q (.ref s.heap.objs.size) { s with heap:=s.heap.push { cls:=.type "list",data:=.seq (strValues l).toArray },toks:=k }:=λl k e=>by
  refine ⟨.ref s.heap.objs.size,_,I.laid (t':=k) (o:=.lst ((wD z).map V.str)) (λb ob q=>sV _ q) (sK _) ?_,U,q _ (I.hok.fresh (sK _))⟩;refine ⟨by rw [Ji];omega,_,0,?_,tR _ rfl⟩;rw [← e,ug];exact zb1 l
 refine call_meets uy (typeIs_str _ _ _) vF (PySem.F.args_str_split_1 _) (meets_str_split_space z t (by omega) (by omega)) ?_;cases hw:Builtin.Str.spaceWords z (z.length+1) == [(0,z.length)]
 .simp only [Bool.false_eq_true,if_false]
  rw [strsFrom_eq];exact put (numbered s.toks (wordsOf z)) _ ((numbered_texts _ _).trans (if_neg (ne_true_of_eq_false hw)).symm)
 .simp only [if_true]
  exact put [(z,t)] s.toks (if_pos hw).symm
def rJoin (K:Fg):V->Jn->Hp->VK->Prop:=λx xs H Q=>∃ (z:Str) (a:Ad) (ts:Jf),x=.str z/\xs=[.ref a]/\SqL K H a (ts.map V.str)/\JoinOk z ts=true/\Q (.str (Txt.join z ts)) H
def strs_of {its:Jd}:∀ {ts:Jf},Vals (ts.map V.str) its->∃ l:List (Str×Tok),l.map (·.1)=ts/\its=strValues l:=by
 intro ts
 induction ts generalizing its with
 | nil=>intro h;cases h;exact ⟨[],U,U⟩
 | cons y ts ih =>
  intro h
  cases h with
  | cons r rr =>
   obtain ⟨t,rfl⟩:=r;obtain ⟨l,e1,rfl⟩:=ih rr;exact ⟨(y,t)::l,by rw [tz,e1],U⟩
def mt_join:MtR X "str.join" (rJoin X.K):=by
 intro sq s σ H x xs v us Q I rx rs h;obtain ⟨z,a,ts,rfl,rfl,hq,hok,q⟩:=h;obtain ⟨t,rfl⟩:=(show ∃ t,v=uT z t from rx)
 obtain rfl:us=[tI a]:=by
  cases rs with
  | cons r1 r2=>cases r2;cases r1;rfl
 obtain ⟨its,rv,p,hz⟩:=I.list hq;obtain ⟨l,e1,rfl⟩:=strs_of rv;exact SC.join p.isList e1 hok λt' k=>⟨.str _,H,I.tok k,⟨_,U⟩,q⟩
def zb0:ZY X (.type "int") (λxs H Q=>∃ (z:Str) (n:Int),xs=[.str z]/\intText? z=Z n/\z.length<=640/\Q (.int n) H):=by
 intro sq s σ H xs us Q I rs h;obtain ⟨z,n,rfl,hn,hl,q⟩:=h
 obtain ⟨u,rfl⟩:∃ u,us=[uT z u]:=by
  cases rs with
  | cons r1 r2=>cases r2;obtain ⟨u,rfl⟩:=r1;exact ⟨u,U⟩
 exact PySem.W.KIN.call_text hn hl ⟨.int n,H,I.tok _,⟨_,U⟩,q⟩
section
variable (P:tV) (w:World)
end
section
variable {h h':Heap} {a:Ad} {o:HO}
end
section
variable {h h':Heap} {x e:Ad} {o':HO}
end
section
variable {fs fs' ex ex':Jg} {H1 H2:Hp} {h h1 h2 h':Heap} {a x e:Ad} {o:HO}
end
section
variable {sq:Jc} {σ:List (Jo)} {s:Sh} {h':Heap}
end
section
variable {a b:Expr} {ta tb:TE} {pos:Pos}
variable {tA tB':TT} {rest:Jh}
end
section
variable {sq:Jc} {σ:St} {s:Sh} {a:Ad} {xs ys:Jn}
end
section
variable {sq:Jc} {σ:St} {s:Sh} {E:Ja}
end
section
variable {st:Stmt} {rest:List Stmt} {t u:TS} {e:Expr} {te:TE} {pos:Pos}
end
section
variable {pos:Pos}
end
section
variable {tg:Expr}
end
section
variable {a b c:Expr} {ta tb tc:TE} {pos:Pos}
end
section
variable {A:Around} {E:Ja} {s:Sh} {K:Fg} {x dx C f:Ad} {mA:J0} {name:Str} {v:Vl}
end
section
variable {h h':Heap} {a C dx:Ad} {fs fs':List (Str×V)}
end
section
variable {sq:Jc} {σ:St} {s:Sh} {a C dx:Ad} {fs:List (Str×V)} {f:Str} {v:V} {A:Around} {E:Ja}
end
section
variable {o e value:Expr} {f:Str} {pos pos' tpos:Pos} {ta tv:TE}
end
section
variable {sq:Jc} {σ:St} {s:Sh} {A:Around} {E:Ja} {Q:Ja} {c:Vl} {b:Bool}
end
section
variable {e:Expr} {es:Jh} {te:TE} {t:TA} {pos:Pos}
end
section
variable {sq:Jc} {σ:St} {s s':Sh}
end
section
variable {CX:CXT} {k:Nat} {f C:Ad} {fd:uk} {ps:Jf} {sp:Sp} {dvs:Jn} {ds:Jd} {E:XK} {x m:Str} {p pos apos:Pos} {e o:Expr} {es:Jh} {ta:TE} {t:TA}
end
section
variable {CX:CXT} {k:Nat} {f C:Ad} {fd:uk} {ps ks:Jf} {sp:Sp} {E:XK} {x m:Str} {p pos apos kpos:Pos} {e o:Expr} {es:Jh} {kws:List Keyword} {te ta:TE} {t tk:TA} {nm:Option Str}
variable {g:Jd->Jd->Jd} {gV:Jn->Jn->Jn}
end
section
variable {x:Str} {p pos:Pos} {e:Expr} {es:Jh} {t:TA} {id T:String} {r:Jn->Hp->VK->Prop}
end
section
variable {κ:Type} [DecidableEq κ]
def zN (sr:List (κ×V)) (k:κ):Jo:=(sr.find? λkv=>decide (kv.1=k)).map (·.2)
def z9 (sr:List (κ×V)) (k:κ) (v:V):List (κ×V) :=
 if (sr.any λkv=>decide (kv.1=k))=true then sr.map (λkv=>if kv.1=k then (kv.1,v) else kv) else sr++[(k,v)]
def Ye (sr:List (κ×V)) (k:κ):List (κ×V):=sr.filter λkv=>decide (kv.1≠k)
def yO {p:κ×V} {r:List (κ×V)} {k:κ} (e:p.1=k):zN (p::r) k=Z p.2:=by simp [zN,vv,e]
def yP {p:κ×V} {r:List (κ×V)} {k:κ} (e:¬ p.1=k):zN (p::r) k=zN r k:=by simp [zN,vv,e]
theorem Zz (k:κ):∀ sr:List (κ×V),(sr.any λkv=>decide (kv.1=k))=(zN sr k).isSome
 | []=>rfl
 | p::r=>by
  rw [vh];by_cases e:p.1=k
  .simp only [yO e,decide_eq_true e,Bool.true_or,Option.isSome_some]
  .rw [yP e,decide_eq_false e,Bool.false_or];exact Zz k r
theorem zed (k j:κ) (y:V):∀ sr:List (κ×V),zN (sr.map λkv=>if kv.1=k then (kv.1,y) else kv) j=(zN sr j).map λx=>if j=k then y else x
 | []=>rfl
 | p::r=>by
  have ih:=zed k j y r;rw [tz];by_cases h:p.1=k
  .rw [if_pos h]
   by_cases e:p.1=j
   .rw [yO (p:=(p.1,y)) e,yO e,we,if_pos (e.symm.trans h)]
   .rw [yP (p:=(p.1,y)) e,yP e,ih]
  .rw [if_neg h]
   by_cases e:p.1=j
   .rw [yO (p:=p) e,yO e,we,if_neg (λz=>h (e.trans z))]
   .rw [yP (p:=p) e,yP e,ih]
theorem zb3 (k j:κ) (y:V):∀ sr:List (κ×V),zN sr k=Y->zN (sr++[(k,y)]) j=if j=k then Z y else zN sr j
 | [],_=>by
  by_cases e:k=j
  .rw [if_pos e.symm];exact yO (p:=(k,y)) e
  .rw [if_neg (λz=>e z.symm)];exact yP (p:=(k,y)) e
 | p::r,hn=>by
  rw [wT];have hk:¬ p.1=k:=λz=>by rw [yO z] at hn;cases hn
  rw [yP hk] at hn;have ih:=zb3 k j y r hn;by_cases e:p.1=j
  .rw [yO e,yO e,if_neg (λz=>hk (e.trans z))]
  .rw [yP e,yP e,ih]
def zY (sr:List (κ×V)) (k j:κ) (y:V):zN (z9 sr k y) j=if j=k then Z y else zN sr j:=by
 unfold z9;by_cases a:(sr.any λkv=>decide (kv.1=k))=true
 .rw [if_pos a,zed]
  rw [Zz] at a;by_cases e:j=k
  .obtain ⟨x,hx⟩:=Option.isSome_iff_exists.mp a
   rw [if_pos e,e,hx,we,if_pos rfl]
  .rw [if_neg e]
   cases zN sr j with
   | none=>rfl
   | some x=>rw [we,if_neg e]
 .rw [if_neg a]
  refine zb3 k j y sr ?_;rw [Zz] at a
  cases q:zN sr k with
  | none=>rfl
  | some x=>rw [q] at a;exact (a rfl).elim
def Yt (sr:List (κ×V)) (k:κ) (v:V):(z9 sr k v).length<=sr.length+1:=by
 unfold z9
 split
 .rw [Ji];omega
 .rw [Jj,x2x,tU];omega
def Xo {sr:List (κ×V)} {k:κ} (v:V) (h:zN sr k=Y):z9 sr k v=sr++[(k,v)]:=by
 unfold z9;rw [Zz,h];exact if_neg (by decide)
def RelO.isSome_eq {o:Jo} {u:Je} (r:RelO o u):o.isSome=u.isSome:=by
 cases o with
 | none=>cases u with
  | none=>rfl
  | some _=>exact (show False from r).elim
 | some _=>cases u with
  | none=>exact (show False from r).elim
  | some _=>rfl
def KV.val {sr:List (κ×V)} {vs:List (κ×Vl)} (r:KV sr vs) (k:κ):RelO (zN sr k) (valueAt vs k):=by
 unfold KV at r
 induction r with
 | nil=>exact uK
 | @cons p q ps qs h t ih =>
  obtain ⟨h1,h2⟩:=h;by_cases e:p.1=k
  .have e':q.1=k:=h1.symm.trans e
   have b:valueAt (q::qs) k=Z q.2:=by simp [valueAt,vv,e']
   rw [yO e,b];exact h2
  .have e':¬ q.1=k:=λz=>e (h1.trans z)
   have b:valueAt (q::qs) k=valueAt qs k:=by simp [valueAt,vv,e']
   rw [yP e,b];exact ih
def KV.any {sr:List (κ×V)} {vs:List (κ×Vl)} (r:KV sr vs) (k:κ):(sr.any λkv=>decide (kv.1=k))=vs.any λkv=>decide (kv.1=k):=by
 unfold KV at r
 induction r with
 | nil=>rfl
 | cons h t ih=>rw [vh,vh,ih,h.1]
def KV.repl {sr:List (κ×V)} {vs:List (κ×Vl)} (r:KV sr vs) (k:κ) {y:V} {u:Vl} (ry:RelV y u) :
  KV (sr.map λkv=>if kv.1=k then (kv.1,y) else kv) (vs.map λkv=>if kv.1=k then (kv.1,u) else kv):=by
 unfold KV at r ⊢
 induction r with
 | nil=>exact .nil
 | @cons p q ps qs h t ih =>
  rw [tz,tz];refine .cons ?_ ih;obtain ⟨h1,h2⟩:=h;by_cases e:p.1=k
  .rw [if_pos e,if_pos (h1.symm.trans e)];exact ⟨h1,ry⟩
  .rw [if_neg e,if_neg (λz=>e (h1.trans z))];exact ⟨h1,h2⟩
def KV.put {sr:List (κ×V)} {vs:List (κ×Vl)} (r:KV sr vs) (k:κ) {y:V} {u:Vl} (ry:RelV y u):KV (z9 sr k y) (stored vs k u):=by
 unfold z9 stored;rw [r.any k];by_cases e:(vs.any λkv=>decide (kv.1=k))=true
 .rw [if_pos e,if_pos e];exact r.repl k ry
 .rw [if_neg e,if_neg e];exact Paired.snoc r ⟨U,ry⟩
def KV.keys {sr:List (κ×V)} {vs:List (κ×Vl)} (r:KV sr vs):sr.map (·.1)=vs.map (·.1):=by
 unfold KV at r
 induction r with
 | nil=>rfl
 | cons h t ih=>rw [tz,tz,ih,h.1]
def KV.length {sr:List (κ×V)} {vs:List (κ×Vl)} (r:KV sr vs):sr.length=vs.length:=Paired.length r
end
def zcg {P:tV} {w:World} {k:Key} {u:Vl} (r:RelV (kV k) u):(yf P w).is k u=true:=by
 cases k with
 | inl i=>obtain ⟨t,e⟩:=(show ∃ t,u=wC i t from r);subst e;exact ze4 P w i t
 | inr x=>obtain ⟨t,e⟩:=(show ∃ t,u=uT x t from r);subst e;exact ze3 P w x t
theorem zch {P:tV} {w:World}:∀ {ks:List Key} {us:Jd},Vals (ks.map kV) us->ItemsAre (yf P w) ks us
 | [],_,r=>by rw [List.map_nil] at r;cases r;exact .nil
 | k::ks,_,r=>by
  rw [tz] at r
  cases r with
  | cons h t=>exact .cons (zcg h) (zch t)
abbrev KT (H:Hp):List (List Key×V)->List (List Key×Ad×Vl)->Prop:=Paired λp q=>p.1=q.1/\H q.2.1=Z (.tup (p.1.map kV))/\RelV p.2 q.2.2
def KT.val {H:Hp} {sr:List (List Key×V)} {xs:List (List Key×Ad×Vl)} (r:KT H sr xs) (k:List Key):RelO (zN sr k) ((atKey xs k).map (·.2)):=by
 induction r with
 | nil=>exact uK
 | @cons p q ps qs h t ih =>
  obtain ⟨h1,_,h2⟩:=h;by_cases e:p.1=k
  .have e':q.1=k:=h1.symm.trans e
   have b:atKey (q::qs) k=Z q.2:=by simp [atKey,vv,e']
   rw [yO e,b];exact h2
  .have e':¬ q.1=k:=λz=>e (h1.trans z)
   have b:atKey (q::qs) k=atKey qs k:=by simp [atKey,vv,e']
   rw [yP e,b];exact ih
def KT.repl {H:Hp} {sr:List (List Key×V)} {xs:List (List Key×Ad×Vl)} (r:KT H sr xs) (k:List Key) {y:V} {u:Vl} (ry:RelV y u) :
  KT H (sr.map λkv=>if kv.1=k then (kv.1,y) else kv) (xs.map (putAt k u)):=by
 induction r with
 | nil=>exact .nil
 | @cons p q ps qs h t ih =>
  rw [tz,tz];refine .cons ?_ ih;obtain ⟨h1,h2,h3⟩:=h;unfold putAt;by_cases e:p.1=k
  .rw [if_pos e,if_pos (h1.symm.trans e)];exact ⟨h1,h2,ry⟩
  .rw [if_neg e,if_neg (λz=>e (h1.trans z))];exact ⟨h1,h2,h3⟩
def KT.put {H:Hp} {sr:List (List Key×V)} {xs:List (List Key×Ad×Vl)} (r:KT H sr xs) (k:List Key) {b:Ad} {y:V} {u:Vl} (hb:H b=Z (.tup (k.map kV))) (ry:RelV y u) :
  KT H (z9 sr k y) (storedH xs k b u):=by
 have e:(sr.any λkv=>decide (kv.1=k))=(atKey xs k).isSome:=by
  rw [Zz,(r.val k).isSome_eq,Option.isSome_map]
 unfold z9 storedH;rw [e];by_cases q:(atKey xs k).isSome=true
 .rw [if_pos q,if_pos q];exact r.repl k ry
 .rw [if_neg q,if_neg q];exact Paired.snoc r ⟨U,hb,ry⟩
def KT.keeps {H H':Hp} {sr:List (List Key×V)} {xs:List (List Key×Ad×Vl)} (r:KT H sr xs) (ht:∀ b ys,H b=Z (.tup ys)->H' b=Z (.tup ys)):KT H' sr xs :=
 Paired.mapP r λ_ _ z=>⟨z.1,ht _ _ z.2.1,z.2.2⟩
section
variable {h:Heap} {a:Ad}
def rd_of {u:HO} (ok:HOk P w H h) (e:Rd H a u):ObjOk P w H h a u:=e.ok ok
def dk_rd {sr:Jl} (ok:HOk P w H h) (e:Rd H a (.dK sr)):sr.length<=sL/\(a == uN)=false/\∃ vs,KV sr vs/\h.DictOf (yf P w) a vs :=
 show ObjOk P w H h a (.dK sr) from rd_of ok e
def dk_of {sr:Jl} (ok:HOk P w H h) (e:H a=Z (.dK sr)):sr.length<=sL/\(a == uN)=false/\∃ vs,KV sr vs/\h.DictOf (yf P w) a vs:=dk_rd ok (.inl e)
def zbg {ks:List Key} (ok:HOk P w H h) (e:H a=Z (.tup (ks.map kV))):(tupleKind (yf P w)).is h ks a:=by
 obtain ⟨_,its,r,o,h1,h2,n,h3⟩:=(show ObjOk P w H h a (.tup (ks.map kV)) from ok a _ e);exact ⟨o,its.toArray,n,h1,h2,h3,by simpa using zch r⟩
def dt_rd {sr:List (List Key×V)} (ok:HOk P w H h) (e:Rd H a (.dT sr)):sr.length<=sL/\(a == uN)=false /\
  ∃ xs,KT H sr xs/\h.DictOfH (tupleKind (yf P w)) a xs:=by
 obtain ⟨z,y,xs,r,o,es,ep,h1,h2,h3,h4,h5⟩:=(show ObjOk P w H h a (.dT sr) from rd_of ok e);refine ⟨z,y,xs,r,o,es,ep,h1,h2,h3,h4,λx hx=>?_,h5⟩
 have all:∀ {l:List (List Key×V)} {m:List (List Key×Ad×Vl)},KT H l m->∀ x∈m,(tupleKind (yf P w)).is h x.1 x.2.1:=by
  intro l m q
  induction q with
  | nil=>intro x hx;exact nomatch hx
  | @cons p q ps qs hq t ih =>
   intro x hx;rcases sM.mp hx with e | hx
   .subst e
    exact zbg ok (by rw [← hq.1];exact hq.2.1)
   .exact ih x hx
 exact all r x hx
def dt_of {sr:List (List Key×V)} (ok:HOk P w H h) (e:H a=Z (.dT sr)):sr.length<=sL/\(a == uN)=false /\
  ∃ xs,KT H sr xs/\h.DictOfH (tupleKind (yf P w)) a xs:=dt_rd ok (.inl e)
end
def DGet (H:Hp) (a:Ad) (y:V) (r:Jo):Prop :=
 (∃ sr k,Rd H a (.dK sr)/\y=kV k/\r=zN sr k)∨∃ sr k b,Rd H a (.dT sr)/\y=.ref b/\H b=Z (.tup (k.map kV))/\r=zN sr k
def DPut (H:Hp) (a:Ad) (y v:V) (H':Hp):Prop :=
 (∃ sr k,H a=Z (.dK sr)/\y=kV k/\sr.length<sL/\H'=upd H a (.dK (z9 sr k v))) ∨
 ∃ sr k b,H a=Z (.dT sr)/\y=.ref b/\H b=Z (.tup (k.map kV))/\sr.length<sL/\H'=upd H a (.dT (z9 sr k v))
def DGet.k {H:Hp} {a:Ad} {sr:Jl} {k:Key} (e:H a=Z (.dK sr)):DGet H a (kV k) (zN sr k):=.inl ⟨sr,k,.inl e,U,U⟩
def DPut.k {H:Hp} {a:Ad} {sr:Jl} {k:Key} {v:V} (e:H a=Z (.dK sr)) (hl:sr.length<sL):DPut H a (kV k) v (upd H a (.dK (z9 sr k v))):=.inl ⟨sr,k,e,U,hl,U⟩
section
variable {sq:Jc} {σ:St} {s:Sh} {a:Ad} {y v:V} {u r:Vl} {o:Jo} {A:Around} {E:Ja}
def Inv.big (I:Inv X sq σ H s):uN<s.heap.objs.size:=by
 have h:ti<s.heap.objs.size:=(I.mod.glob.keeps I.bk).lt;exact Nat.lt_trans (by decide) h
def d_getItem {Q:Ja} (hu:A.units+1<cLine) (I:Inv X sq σ H s) (g:DGet H a y (Z v)) (ry:RelV y u) (h:∀ w' s',Inv X sq σ H s'->RelV v w'->Q w' s') :
  wpAny (model X.prog X.w) A (getItem (.ref a) u) Q E s:=by
 rcases g with ⟨sr,k,e,ey,l⟩ | ⟨sr,k,b,e,ey,eb,l⟩
 .subst ey
  obtain ⟨z,hd,vs,rel,dd⟩:=dk_rd I.hok e;obtain ⟨w',hw,rw'⟩:=RelO.some_of (v:=v) (o:=valueAt vs k) (by rw [l];exact rel.val k);exact wpAny_getItem_of (zcg ry) dd.mapOf hw (h w' _ (I.tok _) rw')
 .subst ey
  cases (show u=tI b from ry);obtain ⟨z,hd,xs,rel,dd⟩:=dt_rd I.hok e;obtain ⟨w',hw,rw'⟩:=RelO.some_of (v:=v) (o:=(atKey xs k).map (·.2)) (by rw [l];exact rel.val k);obtain ⟨p,hp,hp2⟩:=uV.mp hw;refine wpAny_getItem_heap (wP hu) (zbg I.hok eb) dd hp ?_;rw [hp2];exact h w' _ (I.tok _) rw'
def d_in {Q:Ja} (hu:A.units+1<cLine) (I:Inv X sq σ H s) (g:DGet H a y o) (ry:RelV y u) (h:∀ s',Inv X sq σ H s'->Q (.bool o.isSome) s') :
  wpAny (model X.prog X.w) A (uA .In u (.ref a)) Q E s:=by
 rcases g with ⟨sr,k,e,ey,l⟩ | ⟨sr,k,b,e,ey,eb,l⟩
 .subst ey
  obtain ⟨z,hd,vs,rel,dd⟩:=dk_rd I.hok e;refine wpAny_in_of (zcg ry) hd dd.mapOf ?_;rw [← (rel.val k).isSome_eq,← l];exact h _ (I.tok _)
 .subst ey
  cases (show u=tI b from ry);obtain ⟨z,hd,xs,rel,dd⟩:=dt_rd I.hok e;refine wpAny_in_heap (wP hu) (zbg I.hok eb) hd dd ?_;have q:=(rel.val k).isSome_eq;rw [Option.isSome_map] at q;rw [← q,← l];exact h _ (I.tok _)
def d_notIn {Q:Ja} (hu:A.units+1<cLine) (I:Inv X sq σ H s) (g:DGet H a y o) (ry:RelV y u) (h:∀ s',Inv X sq σ H s'->Q (.bool (!o.isSome)) s') :
  wpAny (model X.prog X.w) A (uA .NotIn u (.ref a)) Q E s:=by
 rcases g with ⟨sr,k,e,ey,l⟩ | ⟨sr,k,b,e,ey,eb,l⟩
 .subst ey
  obtain ⟨z,hd,vs,rel,dd⟩:=dk_rd I.hok e;refine wpAny_notIn_of (zcg ry) hd dd.mapOf ?_;rw [← (rel.val k).isSome_eq,← l];exact h _ (I.tok _)
 .subst ey
  cases (show u=tI b from ry);obtain ⟨z,hd,xs,rel,dd⟩:=dt_rd I.hok e;refine wpAny_notIn_heap (wP hu) (zbg I.hok eb) hd dd ?_;have q:=(rel.val k).isSome_eq;rw [Option.isSome_map] at q;rw [← q,← l];exact h _ (I.tok _)
def zd6 {h':Heap} {t':Nat} {ob:HO} (I:Inv X sq σ H s) (mu:Mut (H a)) (hs:wj a s.heap h') (he:∃ q,h'.get? a=Z q) (new:ObjOk X.prog X.w (upd H a ob) h' a ob) :
  Inv X sq σ (upd H a ob) { s with heap:=h',toks:=t' } :=
 I.write (x:=a) (e:=a) mu (.inl rfl) (λb q hb z=>(hs.2 b hb).trans z) he new
def dk_new {P:tV} {w:World} {H':Hp} {h':Heap} {sr:Jl} {vs:List (Key×Vl)} (z:sr.length<=sL) (hd:(a == uN)=false) (rel:KV sr vs) (dd:h'.DictOf (yf P w) a vs) :
  ObjOk P w H' h' a (.dK sr):=⟨z,hd,vs,rel,dd⟩
def d_setItem {H':Hp} {Q:Unit->Sh->Prop} (hu:A.units+1<cLine) (I:Inv X sq σ H s) (g:DPut H a y v H') (ry:RelV y u) (rv:RelV v r) (h:∀ s',Inv X sq σ H' s'->Q () s') :
  wpAny (model X.prog X.w) A (setItem (.ref a) u r) Q E s:=by
 rcases g with ⟨sr,k,e,ey,l,eH⟩ | ⟨sr,k,b,e,ey,eb,l,eH⟩
 .subst ey eH
  obtain ⟨z,hd,vs,rel,dd⟩:=dk_of I.hok e;have hz:vs.length<=sizeLine:=by rw [← rel.length];exact z
  have hl:(z9 sr k v).length<=sizeLine:=by have:=Yt sr k v;omega
  refine wpAny_setItem_pairs (hsz:=hz) (zcg ry) dd λh' dd' hs=>h _ ?_;have he:∃ q,h'.get? a=Z q:=let ⟨q,_,_,hq,_⟩:=dd';⟨q,hq⟩;exact zd6 I (by rw [e];exact uK) hs he (dk_new hl hd (rel.put k rv) dd')
 .subst ey eH
  cases (show u=tI b from ry);obtain ⟨z,hd,xs,rel,dd⟩:=dt_of I.hok e;have hz:xs.length<=sizeLine:=by rw [← Paired.length rel];exact z
  have hl:(z9 sr k v).length<=sizeLine:=by have:=Yt sr k v;omega
  refine wpAny_setItem_heap (hsz:=hz) (wP hu) (zbg I.hok eb) dd λh' dd' hs=>h _ ?_;obtain ⟨q,es,ep,hq,h2,h3,h4,_,h5⟩:=dd';refine zd6 I (by rw [e];exact uK) hs ⟨q,hq⟩ ⟨hl,hd,_,(rel.put k eb rv).keeps λc ys ec=>?_,q,es,ep,hq,h2,h3,h4,h5⟩;rw [zt (ne_of ec e (λz=>nomatch z))];exact ec
end
section
variable {sq:Jc} {σ:St} {s:Sh} {a:Ad} {sr:Jl} {k:Key} {u:Vl} {A:Around} {E:Ja}
end
def NoSl (i:Expr):Prop:=∀ ov iv,subscripted i false ov iv=operate [ov,iv] (getItem ov iv)
def subD_of {prog:tV} {w:World} {A:Around} {E:Ja} {s:Sh} {env:Env} {value slice:Expr} {pos:Pos} {T id:String} {Q:Ja}
  (hl:typeLookup (.type T) "__getitem__"=pure (Z (.builtin id))) (hs:NoSl slice)
  (h:wpAny (model prog w) A (eval value env) (λo s₁=>wpAny (model prog w) A (eval slice env) (λi s₂=>s₂.TypeIs o T/\wpAny (model prog w) A (getItem o i) Q E s₂) E s₁) E s) :
  wpAny (model prog w) A (eval (.Subscript value slice pos) env) Q E s:=by
 refine Subscript_ (um h (λo s₁ h₁=>um h₁ (λi s₂ h₂=>?_) λ_ _ x=>x) λ_ _ x=>x);obtain ⟨hT,h₂⟩:=h₂;unfold subscriptTail;refine q0x ?_;rw [getitemInPython_of_ne hT.not_modules];refine q0x (wpAny_specialOf hT hl ?_)
 have fin:wpAny (model prog w) A (subscripted slice false o i) (λr s₃=>wpAny (model prog w) A (letTemporaryGo value o r >>= λ_=>pure r) Q E s₃) E s₂:=by
  rw [hs o i];exact wpAny_operating (um h₂ (λr s₃ h₃=>q0x (wpAny_letTemporaryGo (q0y h₃))) λ_ _ x=>x)
 first
  | exact q0y (q0x fin)
  | exact q0x (q0y (q0x fin))
  | exact q0x fin
def zfg {X:Cx} {sq:Jc} {σ:St} {H:Hp} {s:Sh} {a:Ad} {y:V} {o:Jo} (I:Inv X sq σ H s) (g:DGet H a y o):s.TypeIs (.ref a) "dict":=by
 rcases g with ⟨sr,k,e,_,_⟩ | ⟨sr,k,b,e,_,_,_⟩
 .obtain ⟨_,_,vs,_,dd⟩:=dk_rd I.hok e
  exact dd.typeIs
 .obtain ⟨_,_,xs,_,dd⟩:=dt_rd I.hok e
  exact dd.typeIs
inductive tDGet_S (Q:VK) (x y:V) (H2:Hp):Prop
 | mk (a v:_) (_:x=.ref a) (_:DGet H2 a y (Z v)) (_:Q v H2)
def tDGet (td ty:TE):TE:=λσ H Q=>td σ H λx H1=>ty σ H1 λy H2=>tDGet_S Q x y H2
inductive tDIn_S (Q:VK) (y x:V) (H2:Hp):Prop
 | mk (a o:_) (_:x=.ref a) (_:DGet H2 a y o) (_:Q (.bl o.isSome) H2)
def tDIn (ty td:TE):TE:=λσ H Q=>ty σ H λy H1=>td σ H1 λx H2=>tDIn_S Q y x H2
inductive tDNotIn_S (Q:VK) (y x:V) (H2:Hp):Prop
 | mk (a o:_) (_:x=.ref a) (_:DGet H2 a y o) (_:Q (.bl (!o.isSome)) H2)
def tDNotIn (ty td:TE):TE:=λσ H Q=>ty σ H λy H1=>td σ H1 λx H2=>tDNotIn_S Q y x H2
inductive sDPut_S (D:Ends) (σ:St) (v x y:V) (H3:Hp):Prop
 | mk (a H4:_) (_:x=.ref a) (_:DPut H3 a y v H4) (_:D.nx σ H4)
def sDPut (td ty tv:TE):TS:=λD σ H=>tv σ H λv H1=>td σ H1 λx H2=>ty σ H2 λy H3=>sDPut_S D σ v x y H3
section
variable {o i e value:Expr} {pos pos' tpos:Pos} {td ty tv:TE}
def zH (hu:X.A.units+1<cLine) (ho:PE X o td) (hi:PE X i ty) (hs:NoSl i):PE X (.Subscript o i pos) (tDGet td ty):=by
 intro sq s σ H Q I h;refine subD_of PySem.F.slot_dict_getitem.lookup hs (thn (ho sq s σ H _ I h) λu s1 ⟨x,H1,I1,rx,q1⟩=>thn (hi sq s1 σ H1 _ I1 q1) λiv s2 ⟨y,H2,I2,ry,a,v,ex,g,q2⟩=>?_);subst ex;obtain rfl:u=tI a:=rx;exact ⟨zfg I2 g,d_getItem hu I2 g ry λw' s3 I3 rw'=>⟨v,H2,I3,rw',q2⟩⟩
def zdg (hu:X.A.units+1<cLine) (hi:PE X i ty) (ho:PE X o td):PC X .In i o (tDIn ty td):=by
 intro sq s σ H Q I h;refine thn (hi sq s σ H _ I h) λiv s1 ⟨y,H1,I1,ry,q1⟩=>thn (ho sq s1 σ H1 _ I1 q1) λu s2 ⟨x,H2,I2,rx,a,ov,ex,g,q2⟩=>?_;subst ex;obtain rfl:u=tI a:=rx;exact d_in hu I2 g ry λs3 I3=>⟨.bl ov.isSome,H2,I3,U,q2⟩
def YK (hu:X.A.units+1<cLine) (hi:PE X i ty) (ho:PE X o td):PC X .NotIn i o (tDNotIn ty td):=by
 intro sq s σ H Q I h;refine thn (hi sq s σ H _ I h) λiv s1 ⟨y,H1,I1,ry,q1⟩=>thn (ho sq s1 σ H1 _ I1 q1) λu s2 ⟨x,H2,I2,rx,a,ov,ex,g,q2⟩=>?_;subst ex;obtain rfl:u=tI a:=rx;exact d_notIn hu I2 g ry λs3 I3=>⟨.bl (!ov.isSome),H2,I3,U,q2⟩
def xE (hu:X.A.units+1<cLine) (ho:PE X o td) (hi:PE X i ty) (hv:PE X value tv) (hs:swapsWith value (Z (.Subscript o i pos')) pos.line X.env=pure false) :
  PS X (.Assign [.Subscript o i pos'] value pos) (sDPut td ty tv):=by
 intro sq s σ H D I h;refine wpAny_Assign_Subscript (thn (hv sq s σ H _ I h) λr s1 ⟨v,H1,I1,rv,q1⟩=>thn (ho sq s1 σ H1 _ I1 q1) λu s2 ⟨x,H2,I2,rx,q2⟩=>thn (hi sq s2 σ H2 _ I2 q2) λiv s3 ⟨y,H3,I3,ry,a,H4,ex,g,q3⟩=>?_) hs;subst ex;obtain rfl:u=tI a:=rx;exact d_setItem hu I3 g ry rv λs4 I4=>⟨σ,H4,I4,q3⟩
end
def zfe {P:tV} {w:World} {H:Hp} (h:Heap) (hb:uN<h.objs.size):ObjOk P w H (h.push { cls:=.type "dict",data:=.dict #[] }) h.objs.size (.dK []) :=
 ⟨ub _,beq_eq_false_iff_ne.mpr (vQ (tQ hb)),[],.nil,Heap.DictOf.new h⟩
def tDNewK:TE:=λ_ H Q=>∀ p,H p=Y->Q (.ref p) (upd H p (.dK []))
section
variable {pos:Pos}
def Xp:PE X (.Dict [] [] pos) tDNewK:=λsq s σ H Q I h =>
 wpAny_Dict_empty ⟨.ref s.heap.objs.size,_,I.laid (a:=s.heap.objs.size) (o:=.dK []) (t':=s.toks) (λ_ _ q=>sV _ q) (sK _) (zfe s.heap I.big),U,h _ (I.hok.fresh (sK _))⟩
end
def tPairs:List (TE×TE)->St->Hp->(List (V×V)->Hp->Prop)->Prop
 | [],_,H,Q=>Q [] H
 | (tk,tv)::r,σ,H,Q=>tk σ H λx H1=>tv σ H1 λy H2=>tPairs r σ H2 λps H3=>Q ((x,y)::ps) H3
abbrev VV:List (V×V)->List (Vl×Vl)->Prop:=Paired λp q=>RelV p.1 q.1/\RelV p.2 q.2
def PPs (X:Cx) (pos:Pos) (keys:List (Option Expr)) (values:Jh) (trs:List (TE×TE)):Prop :=
 ∀ (sq:Jc) (s:Sh) (σ:St) (H:Hp) (Q:List (V×V)->Hp->Prop),Inv X sq σ H s->tPairs trs σ H Q ->
  wpAny (model X.prog X.w) X.A (evalPairs (pairTrees keys values X.env pos)) (λvs s'=>∃ ps H',Inv X sq σ H' s'/\VV ps vs/\Q ps H') X.xe s
def pps_nil {X:Cx} {pos:Pos}:PPs X pos [] [] []:=λsq s σ H Q I h=>pairTrees_nil_walk ⟨[],H,I,.nil,h⟩
def Yl {X:Cx} {pos:Pos} {k v:Expr} {ks:List (Option Expr)} {vs:Jh} {tk tv:TE} {trs:List (TE×TE)} (hk:PE X k tk) (hv:PE X v tv) (hr:PPs X pos ks vs trs) :
  PPs X pos (Z k::ks) (v::vs) ((tk,tv)::trs):=λsq s σ H Q I h =>
 pairTrees_cons_walk (thn (hk sq s σ H _ I h) λu s1 ⟨x,H1,I1,rx,q1⟩=>thn (hv sq s1 σ H1 _ I1 q1) λw2 s2 ⟨y,H2,I2,ry,q2⟩ =>
  thn (hr sq s2 σ H2 _ I2 q2) λws s3 ⟨ps,H3,I3,rel,q3⟩=>⟨(x,y)::ps,H3,I3,.cons ⟨rx,ry⟩ rel,q3⟩)
def zbc (sr more:Jl):Jl:=more.foldl (λacc kv=>z9 acc kv.1 kv.2) sr
def KV.merge:∀ {more:Jl} {rs:List (Key×Vl)} {sr:Jl} {vs:List (Key×Vl)},KV more rs->KV sr vs->KV (zbc sr more) (merged vs rs):=by
 intro more rs sr vs r;unfold KV at r
 induction r generalizing sr vs with
 | nil=>intro q;exact q
 | @cons p q ps qs h t ih =>
  intro r0
  have e:KV (z9 sr p.1 p.2) (stored vs q.1 q.2):=by
   have:=r0.put p.1 h.2;rw [← h.1];exact this
  exact ih e
theorem YY:∀ (more sr:Jl),(zbc sr more).length<=sr.length+more.length
 | [],sr=>by show sr.length<=sr.length+0;omega
 | p::r,sr=>by
  have h1:=YY r (z9 sr p.1 p.2);have h2:=Yt sr p.1 p.2;show (zbc (z9 sr p.1 p.2) r).length<=_;rw [x2x];omega
theorem zbp {P:tV} {w:World}:∀ {sr:Jl} {ws:List (Vl×Vl)},VV (sr.map λkv=>(kV kv.1,kv.2)) ws->∃ rs,Carries (yf P w) ws rs/\KV sr rs
 | [],_,r=>by rw [List.map_nil] at r;cases r;exact ⟨[],uK,.nil⟩
 | p::sr,_,r=>by
  rw [tz] at r
  cases r with
  | @cons a b as bs h t =>
   obtain ⟨rs,c,q⟩:=zbp (P:=P) (w:=w) t;obtain ⟨b1,b2⟩:=b;exact ⟨(p.1,b2)::rs,⟨zcg h.1,U,c⟩,.cons ⟨U,h.2⟩ q⟩
def tDisp (trs:List (TE×TE)):TE:=λσ H Q=>∀ p,H p=Y->tPairs trs σ (upd H p (.dK [])) λps H2=>H2 p=Z (.dK [])/\∃ sr:Jl,ps=sr.map (λkv=>(kV kv.1,kv.2))/\sr.length<=15/\Q (.ref p) (upd H2 p (.dK (zbc [] sr)))
def pe_disp {X:Cx} {pos:Pos} {keys:List (Option Expr)} {values:Jh} {trs:List (TE×TE)} (h:PPs X pos keys values trs) (hall:keys.all (·.isSome)=true) (hl:keys.length=values.length) (h0:keys≠[])
  (h15:keys.length<=15):PE X (.Dict keys values pos) (tDisp trs):=by
 intro sq s σ H Q I q;have hn:=I.hok.fresh (sK s.heap.objs.size);have I1:=I.laid (a:=s.heap.objs.size) (o:=.dK []) (h':=s.heap.push { cls:=.type "dict",data:=.dict #[] }) (t':=s.toks) (λ_ _ q=>sV _ q) (sK _) (zfe s.heap I.big);refine wpAny_Dict_walk (knd:=yf X.prog X.w) hall hl h0 h15 (thn (h sq _ σ _ _ I1 (q _ hn)) λws s2 ⟨ps,H2,I2,rel,e,sr,ep,lk,q2⟩=>?_);subst ep;obtain ⟨rs,c,rk⟩:=zbp (P:=X.prog) (w:=X.w) rel;obtain ⟨z,hd,vs0,r0,dd⟩:=dk_of I2.hok e;cases r0;refine ⟨rs,c,dd,λh' dd' hs=>⟨.ref s.heap.objs.size,_,?_,U,q2⟩⟩
 have hz:(zbc [] sr).length<=sizeLine:=by
  have h1:=YY sr [];rw [tU] at h1;rw [sizeLine_eq];omega
 have he:∃ q,h'.get? s.heap.objs.size=Z q:=let ⟨q,_,_,hq,_⟩:=dd';⟨q,hq⟩;exact zd6 I2 (by rw [e];exact uK) hs he (dk_new hz hd (rk.merge .nil) dd')
section
variable {sq:Jc} {σ:St} {s:Sh} {a:Ad} {y d:V} {u r:Vl} {o:Jo} {A:Around} {E:Ja}
end
section
variable {o e f:Expr} {apos cpos:Pos} {td ty tx:TE}
end
section
variable {sq:Jc} {σ:St} {s:Sh} {a:Ad} {sr:Jl} {A:Around} {E:Ja}
end
section
variable {sq:Jc} {σ:St} {s:Sh} {a:Ad} {y:V} {u:Vl} {A:Around} {E:Ja}
end
end L2
namespace Att
open PySem PySem.W PySem.Calls PyProof.Rows
section
variable {A:Around} {E:Ja} {s:Sh} {K:Frag}
end
end Att
namespace L2
open PySem PySem.Spec PyProof.Rows
section
variable {K:Fg} {base:Heap}
end
section
variable {κ:Type} [DecidableEq κ]
def valV_not {sr:List (κ×V)} {k:κ} (h:zN sr k=Y):¬ k∈sr.map (·.1):=by
 intro m;obtain ⟨p,hp,e⟩:=tW.mp m;have q:(sr.any λkv=>decide (kv.1=k))=true:=List.any_eq_true.mpr ⟨p,hp,decide_eq_true e⟩;rw [Zz,h] at q;exact absurd q (by simp)
theorem nd_snoc:∀ {l:List κ} {k:κ},l.Nodup->¬ k∈l->(l++[k]).Nodup
 | [],k,_,_=>by simp
 | a::r,k,h,hk=>by
  obtain ⟨h1,h2⟩:=ue.mp h;show (a::(r++[k])).Nodup;refine ue.mpr ⟨λm=>?_,nd_snoc h2 λm=>hk (sM.mpr (Or.inr m))⟩;rcases t9.mp m with q | q
  .exact h1 q
  .exact hk (sM.mpr (vG (sG.mp q).symm))
def nd_putK {sr:List (κ×V)} {k:κ} (v:V) (hn:(sr.map (·.1)).Nodup) (h:zN sr k=Y):((z9 sr k v).map (·.1)).Nodup:=by
 rw [Xo v h,Jk];exact nd_snoc hn (valV_not h)
def zcn {p:κ×V} {r:List (κ×V)} {k:κ} (e:p.1=k):Ye (p::r) k=Ye r k:=by
 unfold Ye;rw [uW,if_neg (by simp [e])]
def XT {p:κ×V} {r:List (κ×V)} {k:κ} (e:¬ p.1=k):Ye (p::r) k=p::Ye r k:=by
 unfold Ye;rw [uW,if_pos (by simp [e])]
theorem zfd:∀ {sr:List (κ×V)} {k:κ},¬ k∈sr.map (·.1)->Ye sr k=sr
 | [],_,_=>rfl
 | p::r,k,h=>by
  have h':¬ k∈r.map (·.1):=λm=>by
   obtain ⟨q,hq,e⟩:=tW.mp m;exact h (tW.mpr ⟨q,sM.mpr (Or.inr hq),e⟩)
  rw [XT λe=>h (tW.mpr ⟨p,sM.mpr (vG rfl),e⟩),zfd h']
def zco {sr:List (κ×V)} {k:κ} {p:κ×V} (h:p∈Ye sr k):p∈sr:=(List.mem_filter.mp h).1
theorem zba:∀ {sr:List (κ×V)} {k:κ},(sr.map (·.1)).Nodup->((Ye sr k).map (·.1)).Nodup
 | [],_,_=>ww
 | p::r,k,h=>by
  have h:(p.1::r.map (·.1)).Nodup:=h;obtain ⟨h1,h2⟩:=ue.mp h;by_cases e:p.1=k
  .rw [zcn e]
   exact zba h2
  .rw [XT e]
   show (p.1::(Ye r k).map (·.1)).Nodup;refine ue.mpr ⟨λm=>h1 ?_,zba h2⟩;obtain ⟨q,hq,eq⟩:=tW.mp m;exact tW.mpr ⟨q,zco hq,eq⟩
theorem zcp:∀ {sr:List (κ×V)} {k:κ},(sr.map (·.1)).Nodup->k∈sr.map (·.1)->(Ye sr k).length+1=sr.length
 | [],_,_,m=>by simp at m
 | p::r,k,h,m=>by
  have h:(p.1::r.map (·.1)).Nodup:=h;have m:k=p.1∨k∈r.map (·.1):=sM.mp m;obtain ⟨h1,h2⟩:=ue.mp h;by_cases e:p.1=k
  .subst e
   rw [zcn rfl,zfd h1]
   all_goals rfl
  .have m':k∈r.map (·.1):=m.resolve_left λz=>e z.symm
   have q:=zcp h2 m';rw [XT e,x2x,x2x];omega
end
def constV:Expr->Jo
 | .Constant (.str x) _ _=>Z (.str x)
 | .Constant (.int i) _ _=>Z (.int i)
 | _=>Y
def zd7:Jh->Option (Jn)
 | []=>Z []
 | e::es=>match constV e with
  | some v=>(match zd7 es with
   | some vs=>Z (v::vs)
   | none=>Y)
  | none=>Y
def tKs (vs:Jn):TA:=λ_ H Q=>Q vs H
theorem pa_ks {X:Cx}:∀ {es:Jh} {vs:Jn},zd7 es=Z vs->PA X es (tKs vs)
 | [],vs,h=>by cases h;exact zc
 | e::es,vs,h=>by
  unfold zd7 at h
  split at h
  .rename_i v hv
   split at h
   .rename_i ws hw
    cases h;have ih:=pa_ks (X:=X) hw;unfold constV at hv
    split at hv
    .cases hv;exact za zn ih rfl
    .cases hv;exact za zd ih rfl
    .cases hv
   .cases h
  .cases h
structure PB (X:Cx) (sts:List Stmt) (t:TS):Prop where
 h:PSs X sts t
structure PW1 (X:Cx) (st:Stmt) (t:TS):Prop where
 h:PS X st t
section
variable {st:Stmt} {rest:List Stmt} {t u:TS}
def Z9 (h1:PW1 X st t) (h2:PB X rest u):PB X (st::rest) (tSeq t u):=⟨zb h1.h h2.h⟩
def pb_one (h1:PW1 X st t):PB X [st] t:=⟨ze h1.h⟩
end
section
variable {K:Fg} {base:Heap}
def Fun.okB {x sy:Str} {st:Stmt} {f:Ad} {fd:uk} {N ps:Jf} {k:Nat} {sp:Sp} (F:Fun K x sy st f fd) (S:FnScope N ps (zf st)) (len:∀ vs H Q E,sp vs H Q E->vs.length=ps.length)
  (hbody:∀ (sA:Vl) (A:Around) (outer:List Env) (s:Sh) (H:Hp) (vs:Jn) (Q:VK) (E:XK),Room k (A.deeper (envOfC sy (zf st) s.heap.objs.size f sA))->sp vs H Q E ->
   ∃ t,PB (Zl CX0 P w K mg base N sy (zf st) f sA A outer s H E).nox (zS st) t/\t { nx:=λ_ H'=>Q .non H',rt:=Q } (start N vs) H):FnOk P w K mg base CX0 (k+1) f fd ps sp :=
 F.ok S len λsA A outer s H vs Q E hr h=>let ⟨t,q,z⟩:=hbody sA A outer s H vs Q E hr h;⟨t,q.h,z⟩
end
structure Hd (B:Hp) (L:Jm) (H:Hp):Prop where
 nd:(L.map uu).Nodup
 nw:∀ p∈L,B p.1=Y
 st:∀ p∈L,H p.1=Z p.2
 sm:Same B H
namespace Hd
variable {B:Hp} {L:Jm} {a b:Ad} {o o':HO}
def base:Hd B [] B:=⟨ww,(λ_ h=>nomatch h),(λ_ h=>nomatch h),Same.refl B⟩
def get (h:Hd B L H) (i:Nat) (e:L[i]?=Z (a,o)):H a=Z o:=h.st _ (sP e)
def same (h:Hd B L H) (s:Same H H'):Hd B L H':=⟨h.nd,h.nw,λp m=>s _ _ (h.st p m),h.sm.trans s⟩
def new (h:Hd B L H) (n:H a=Y):Hd B ((a,o)::L) (upd H a o):=by
 have ne:∀ p∈L,p.1≠a:=λp m=>zz (h.st p m) n;refine ⟨ue.mpr ⟨λm=>?_,h.nd⟩,λp m=>?_,λp m=>?_,yj h.sm (h.sm.free n)⟩
 .obtain ⟨p,mp,e⟩:=tW.mp m
  exact ne p mp e
 .rcases sM.mp m with rfl | m
  .exact h.sm.free n
  .exact h.nw p m
 .rcases sM.mp m with rfl | m
  .exact zg
  .rw [zt (ne p m)];exact h.st p m
def fst_set (i:Nat) (e:L[i]?=Z (a,o)):(L.set i (a,o')).map uu=L.map uu:=by
 rw [List.map_set];apply List.ext_getElem?;intro j;rw [List.getElem?_set]
 split
 .rename_i q
  subst q
  split
  .rw [sN,e];rfl
  .rename_i q
   rw [List.getElem?_eq_none (by omega)]
 .rfl
def ne (h:Hd B L H) (i j:Nat) (ei:L[i]?=Z (a,o)) (ej:L[j]?=Z (b,o')) (hij:i≠j):a≠b:=λe=>by
 subst e;have h1:(L.map uu)[i]?=Z a:=by rw [sN,ei];rfl
 have h2:(L.map uu)[j]?=Z a:=by rw [sN,ej];rfl
 obtain ⟨b1,e1⟩:=tu.mp h1;obtain ⟨b2,e2⟩:=tu.mp h2
 have key:∀ (l:Jg),l.Nodup->∀ (i j:Nat) (b1:i<l.length) (b2:j<l.length),l[i]=l[j]->i=j:=by
  intro l hl
  induction l with
  | nil=>intro i j b1;cases b1
  | cons x r ih =>
   intro i j b1 b2 q;have nr:=ue.mp hl
   cases i with
   | zero =>
    cases j with
    | zero=>rfl
    | succ j=>exact absurd (by rw [List.getElem_cons_zero,vO] at q;rw [q];exact vB _) nr.1
   | succ i =>
    cases j with
    | zero=>exact absurd (by rw [List.getElem_cons_zero,vO] at q;rw [← q];exact vB _) nr.1
    | succ j=>rw [vO,vO] at q;rw [ih nr.2 i j _ _ q]
 exact hij (key _ h.nd i j b1 b2 (e1.trans e2.symm))
def chg (h:Hd B L H) (i:Nat) (e:L[i]?=Z (a,o)) (k:∀ c u,c≠a->H c=Z u->H' c=Z u) (q:H' a=Z o'):Hd B (L.set i (a,o')) H':=by
 have nb:B a=Y:=h.nw _ (sP e);refine ⟨by rw [fst_set i e];exact h.nd,λp m=>?_,λp m=>?_,λc u z=>k c u (zz z nb) (h.sm c u z)⟩
 .rcases List.mem_or_eq_of_mem_set m with m | rfl
  .exact h.nw p m
  .exact nb
 .obtain ⟨j,lt,ej⟩:=List.getElem_of_mem m
  have ej:(L.set i (a,o'))[j]?=Z p:=by rw [sI lt,ej]
  rw [List.getElem?_set] at ej
  split at ej
  .split at ej
   .cases ej;exact q
   .cases ej
  .rename_i hij
   obtain ⟨c,u⟩:=p;exact k c u (vQ (h.ne i j e ej hij)) (h.get j ej)
def put (h:Hd B L H) (i:Nat) (e:L[i]?=Z (a,o)):Hd B (L.set i (a,o')) (upd H a o'):=h.chg i e (λc u n z=>by rw [zt n];exact z) zg
def sql (h:Hd B L H) {K:Fg} {xs:Jn} (q:SqL K B a xs):SqL K H a xs:=yq q h.sm
def sqt (h:Hd B L H) {K:Fg} {xs:Jn} (q:SqT K B a xs):SqT K H a xs:=by
 rcases q with (q | ⟨o,q⟩) | q
 .exact .inl (.inl (h.sm _ _ q))
 .exact .inl (.inr ⟨o,h.sm _ _ q⟩)
 .exact .inr q
def lst (h:Hd B L H) {K:Fg} {xs:Jn} (i:Nat) (e:L[i]?=Z (a,.lst xs)):SqL K H a xs:=SqL.of (h.get i e)
def sub {L':Jm} (h:Hd B L H) (s:List.Sublist L' L):Hd B L' H:=⟨h.nd.sublist (s.map _),λp m=>h.nw p (s.subset m),λp m=>h.st p (s.subset m),h.sm⟩
def tl {p:Ad×HO} (h:Hd B (p::L) H):Hd B L H:=h.sub (List.sublist_cons_self _ _)
def free (h:Hd B L H) (n:H a=Y):B a=Y:=h.sm.free n
def add (h:Hd B L H) (n:∀ p∈L,p.1≠a) (nb:B a=Y) (e:H a=Z o):Hd B ((a,o)::L) H:=by
 refine ⟨ue.mpr ⟨λm=>?_,h.nd⟩,λp m=>?_,λp m=>?_,h.sm⟩
 .obtain ⟨p,mp,e⟩:=tW.mp m
  exact n p mp e
 .rcases sM.mp m with rfl | m
  .exact nb
  .exact h.nw p m
 .rcases sM.mp m with rfl | m
  .exact e
  .exact h.st p m
def made0 {C x dx:Ad} {ox:HO} (h:Hd B L H) (nx:H x=Y) (ndx:H dx=Y) (ne:dx≠x) (k:∀ b u,b≠x->upd (upd H dx (.own x)) x (.ins C dx []) b=Z u->H' b=Z u) (ex:H' x=Z ox):Hd B ((x,ox)::(dx,.own x)::L) H':=by
 have h1:Hd B ((dx,.own x)::L) (upd H dx (.own x)):=h.new ndx;have h2:Hd B ((x,.ins C dx [])::(dx,.own x)::L) (upd (upd H dx (.own x)) x (.ins C dx [])):=h1.new (by rw [zt (vQ ne)];exact nx);exact h2.chg 0 rfl k ex
def perm {B:Hp} {L L':Jm} {H:Hp} (h:Hd B L H) (p:L.Perm L'):Hd B L' H:=⟨(p.map uu).nodup h.nd,λq m=>h.nw q (p.mem_iff.mpr m),λq m=>h.st q (p.mem_iff.mpr m),h.sm⟩
end Hd
section
variable {st:Stmt} {t:TS} {e:Expr} {te:TE}
inductive tMid (t:TS) (D:Ends) (σ:St) (H:Hp):Prop
 | mk (M:St->Hp->Prop) (_:t { D with nx:=M } σ H) (_:∀ σ' H',M σ' H'->D.nx σ' H')
def yx (h:PS X st t):PS X st (tMid t):=by
 intro sq s σ H D I q;obtain ⟨M,q,k⟩:=q;refine thn (h sq s σ H _ I q) λf s1 z=>?_
 cases f with
 | next=>exact let ⟨σ',H',I',z⟩:=z;⟨σ',H',I',k _ _ z⟩
 | ret v=>exact z
 | brk=>exact z
 | cont=>exact z
end
def but (H:Hp) (ls:Jg):Hp:=λb=>if b∈ls then Y else H b
def Yx {H:Hp} {ls:Jg} {b:Ad} (h:b∈ls):but H ls b=Y:=by unfold but;rw [if_pos h]
def yn {H:Hp} {ls:Jg} {b:Ad} {o:HO} (h:H b=Z o) (n:b ∉ ls):but H ls b=Z o:=by unfold but;rw [if_neg n];exact h
def zd8 {H:Hp} {ls:Jg}:Same (but H ls) H:=λb o z=>by
 unfold but at z
 split at z
 .cases z
 .exact z
namespace Hd
variable {B B':Hp} {L:Jm} {a:Ad} {o:HO}
def but1 (h:H a=Z o):Hd (but H [a]) [(a,o)] H:=⟨by simp,λp m=>by rw [sG.mp m];exact Yx (by simp),λp m=>by rw [sG.mp m];exact h,zd8⟩
def weak (h:Hd B' L H) (s:Same B B'):Hd B L H:=⟨h.nd,λp m=>s.free (h.nw p m),h.st,s.trans h.sm⟩
def back {L:Jm} {o':HO} (h:Hd B L H) (i:Nat) (e:L[i]?=Z (a,o)) (k:Hd (but H [a]) [(a,o')] H'):Hd B (L.set i (a,o')) H' :=
 h.chg i e (λc u n z=>k.sm _ _ (yn z (by simp [n]))) (k.get 0 rfl)
end Hd
end L2
namespace L2
open PySem
namespace Hd
variable {B:Hp} {L:Jm} {J:Hp} {a b:Ad} {o o':HO}
def grow (h:Hd B L H) (n:H a=Y):Hd (upd B a o) L (upd H a o):=by
 refine ⟨h.nd,λp q=>?_,λp q=>?_,λb u z=>?_⟩
 .rw [zt (zz (h.st p q) n)];exact h.nw p q
 .rw [zt (zz (h.st p q) n)];exact h.st p q
 .by_cases e:b=a
  .subst e;rw [zg] at z ⊢;exact z
  .rw [zt e] at z ⊢;exact h.sm _ _ z
def settle (m:Hd B ((a,o)::L) H):Hd (upd B a o) L H:=by
 have h:=m.tl;have na:a ∉ L.map uu:=(ue.mp m.nd).1;refine ⟨h.nd,λp q=>?_,h.st,λb u z=>?_⟩
 .rw [zt (λe=>na (by rw [← e];exact uh q))];exact h.nw p q
 .by_cases e:b=a
  .subst e;rw [zg] at z;cases z;exact m.get 0 rfl
  .rw [zt e] at z;exact m.sm _ _ z
def settled (m:Hd B ((a,o)::L) H):Same B (upd B a o):=yj (Same.refl _) (m.nw (a,o) (x0z ..))
def fnew {p:Ad×HO} (h:Hd B (p::L) H) (n:H a=Y):Hd B (p::(a,o)::L) (upd H a o):=(h.new n).perm (uZ _ _ _)
def fput (h:Hd B ((a,o)::L) H):Hd B ((a,o')::L) (upd H a o'):=h.put 0 rfl
end Hd
namespace Hd
variable {B:Hp} {L L2:Jm} {J:Hp} {a b:Ad} {o o':HO}
end Hd
namespace Hd
def over {B J J2:Hp} {L:Jm} (h:Hd B L J) (s:Same J J2):∃ B2,Same B B2/\Hd B2 L J2/\∀ a o,J2 a=Z o->a ∉ L.map uu->B2 a=Z o:=by
 classical
 refine ⟨λa=>if a∈L.map uu then Y else J2 a,λa o e=>?_,⟨h.nd,λp q=>?_,λp q=>s _ _ (h.st p q),λa o e=>?_⟩,λa o e n=>?_⟩
 .have na:a ∉ L.map uu:=λm=>by
   obtain ⟨p,hp,rfl⟩:=tW.mp m;rw [h.nw p hp] at e;cases e
  show (if _ then _ else _)=_;rw [if_neg na];exact s _ _ (h.sm _ _ e)
 .show (if _ then _ else _)=_
  rw [if_pos (uh q)]
 .have e:(if a∈L.map uu then Y else J2 a)=Z o:=e
  split at e
  .cases e
  .exact e
 .show (if _ then _ else _)=_
  rw [if_neg n];exact e
end Hd
def yU {H X:Hp} {t:Ad} {o:HO} (h:upd H t o=X) (n:H t=Y):Same H X/\X t=Z o:=by
 subst h;exact ⟨yj (Same.refl _) n,zg⟩
def hdG {B H X:Hp} {L:Jm} {t:Ad} {o:HO} (m:Hd B L H) (h:upd H t o=X) (n:H t=Y):∃ B',Same B B'/\B' t=Z o/\Hd B' L X:=by
 subst h;exact ⟨_,yj (Same.refl _) (m.free n),zg,m.grow n⟩
def hdM {B H H2:Hp} {L:Jm} {C x dx:Ad} {ox:HO} (h:Hd B L H) (nx:H x=Y) (ndx:H dx=Y) (ne:dx≠x) (k:∀ b u,b≠x->upd (upd H dx (.own x)) x (.ins C dx []) b=Z u->H2 b=Z u) (ex:H2 x=Z ox):∃ B',Same B B'/\B' x=Z ox/\Hd B' L H2:=by
 have h2:=h.made0 nx ndx ne k ex;exact ⟨_,h2.settled.trans h2.settle.settled,by rw [zt (vQ ne)];exact zg,h2.settle.settle⟩
end L2
namespace L2
open PySem PySem.Spec PyProof.Rows
def but_inv {H:Hp} {a b:Ad} {o:HO} (h:but H [a] b=Z o):b≠a/\H b=Z o:=by
 unfold but at h
 split at h
 .cases h
 .rename_i z;exact ⟨λe=>z (by rw [e];exact List.mem_singleton_self a),h⟩
def zfl {H:Hp} {a b:Ad} (n:but H [a] b=Y) (ne:b≠a):H b=Y:=by
 unfold but at n;rw [if_neg (by simp [ne])] at n;exact n
section
variable {sq:Jc} {σ σ':St} {s s':Sh} {a:Ad} {xs:Jn}
end
namespace Hd
variable {B:Hp} {L L':Jm}
def split (h:Hd B L H) (s:List.Sublist L' L):Same B (but H (L'.map uu))/\Hd (but H (L'.map uu)) L' H:=by
 refine ⟨λb o z=>yn (h.sm _ _ z) λm=>?_,(h.sub s).nd,λp m=>Yx (uh m),(h.sub s).st,zd8⟩;obtain ⟨p,mp,e⟩:=tW.mp m;have:=h.nw p (s.subset mp);rw [e] at this;rw [this] at z;cases z
end Hd
section
variable {A:Around} {s:Sh}
end
section
variable {A:Around} {E:Ja} {s:Sh}
end
section
variable {e:Expr} {te:TE} {p p' pos pos':Pos}
end
end L2
namespace L2
open PySem PySem.Spec PyProof.Rows PyProof
end L2
namespace L2
open PySem PySem.Spec PyProof.Rows
def vals_len {vs:Jn} {us:Jd} (h:Vals vs us):us.length=vs.length:=by
 induction h with
 | nil=>rfl
 | cons _ _ ih=>rw [x2x,x2x,ih]
def zgm {xs:Jn} {b:Int} (hb:0<=b):cutV xs Y (Z b)=xs.take b.toNat:=by
 unfold cutV;rw [HT.sIx_none,sIx_pos hb,List.drop_zero,Nat.sub_zero];rw [List.take_eq_take_iff];omega
def zgn {xs:Jn} {a:Int} (ha:0<=a):cutV xs (Z a) Y=xs.drop a.toNat:=by
 unfold cutV;rw [HT.sIx_none,sIx_pos ha];by_cases h:a.toNat<=xs.length
 .rw [Nat.min_eq_left h]
  exact vN (by rw [uS];omega)
 .have e1:xs.drop xs.length=[]:=List.drop_length
  have e2:xs.drop a.toNat=[]:=List.drop_eq_nil_of_le (by omega);rw [Nat.min_eq_right (by omega),e1,e2];simp
section
variable {tg:Expr}
end
section
variable {sq:Jc} {σ σ':St} {s s':Sh} {a:Ad} {xs:Jn}
inductive tMidT (t:TT) (σ:St) (H:Hp) (Q:(Bool->Hp->Prop)):Prop
 | mk (M:Bool->Hp->Prop) (_:t σ H M) (_:∀ b H',M b H'->Q b H')
def XJ {e:Expr} {t:TT} (h:PT X e t):PT X e (tMidT t):=by
 intro sq s σ H Q I q;obtain ⟨M,q,k⟩:=q;exact thn (h sq s σ H _ I q) λb s1 z=>let ⟨H',I',z⟩:=z;⟨H',I',k _ _ z⟩
end
section
variable {sq:Jc} {σ:St} {s:Sh}
def kit_of {x:V} {u t:Vl} (I:Inv X sq σ H s) (rx:RelV x u) (ty:TyOf X.K H x t):∃ Z0_:Heap->Prop,PySem.W.KitX X.K u t Z0_/\Z0_ s.heap/\u≠.builtin "__main__.__loader__#opaque":=by
 cases ty with
 | non=>cases (show u=Value.none from rx);exact ⟨_,PySem.W.kitx_none,uK,λz=>nomatch z⟩
 | bl y=>cases (show u=Value.bool y from rx);exact ⟨_,PySem.W.kitx_bool,uK,λz=>nomatch z⟩
 | int i=>obtain ⟨t,q⟩:=(show ∃ t,u=wC i t from rx);cases q;exact ⟨_,PySem.W.kitx_int,uK,λz=>nomatch z⟩
 | str y=>obtain ⟨t,q⟩:=(show ∃ t,u=uT y t from rx);cases q;exact ⟨_,PySem.W.kitx_str,uK,λz=>nomatch z⟩
 | flt y=>obtain ⟨t,q⟩:=(show ∃ t,u=Value.float y t from rx);cases q;exact ⟨_,PySem.W.kitx_float,uK,λz=>nomatch z⟩
 | @lst a xs ea =>
  cases (show u=tI a from rx);obtain ⟨_,_,n,_,e1⟩:=(show ObjOk X.prog X.w H s.heap a (.lst xs) from I.hok a _ ea);exact ⟨_,wE,⟨_,e1,U⟩,λz=>nomatch z⟩
 | @frz a ob xs ea =>
  cases (show u=tI a from rx);obtain ⟨_,_,_,n,_,e1⟩:=(show ObjOk X.prog X.w H s.heap a (.frz ob (.lst xs)) from I.hok a _ ea);exact ⟨_,wE,⟨_,e1,U⟩,λz=>nomatch z⟩
 | @tup a xs ea =>
  cases (show u=tI a from rx);obtain ⟨_,_,_,p⟩:=(show ObjOk X.prog X.w H s.heap a (.tup xs) from I.hok a _ ea);obtain ⟨o,e1,e2,_⟩:=p;exact ⟨_,PySem.W.kitx_tuple,⟨o,e1,e2⟩,λz=>nomatch z⟩
 | @dK a sr ea =>
  cases (show u=tI a from rx);obtain ⟨_,_,vs,_,p⟩:=(show ObjOk X.prog X.w H s.heap a (.dK sr) from I.hok a _ ea);obtain ⟨o,es,ep,e1,e2,_⟩:=p;exact ⟨_,wF,⟨o,e1,e2.1⟩,λz=>nomatch z⟩
 | @dT a sr ea =>
  cases (show u=tI a from rx);obtain ⟨_,_,xs,_,p⟩:=(show ObjOk X.prog X.w H s.heap a (.dT sr) from I.hok a _ ea);obtain ⟨o,es,ep,e1,e2,_⟩:=p;exact ⟨_,wF,⟨o,e1,e2.1⟩,λz=>nomatch z⟩
 | @ins a C dx fs ea cl ha hn htk hm =>
  cases (show u=tI a from rx);obtain ⟨mA,O,_⟩:=Xy I.hok ea;obtain ⟨od,J,_⟩:=O.look;exact ⟨_,PySem.W.kitx_own (cl.get _) cl.hd ha hn htk hm,J,λz=>nomatch z⟩
def clsV:V->Vl
 | .ref a=>.ref a
 | .ty n=>.type n
 | _=>.none
def isClsV:V->Bool
 | .ref _=>true
 | .ty _=>true
 | _=>false
theorem zec:∀ {cs:Jn} {us:Jd},cs.all isClsV=true->Vals cs us->us=cs.map clsV
 | [],_,_,.nil=>rfl
 | c::cs,_,h,.cons r rr=>by
  rw [List.all_cons,uE] at h;rw [zec h.2 rr]
  cases c with
  | ref a=>cases (show _=tI a from r);rfl
  | ty n=>cases (show _=Value.type n from r);rfl
  | _=>cases h.1
inductive rIsiT (K:Fg) (vs:Jn) (H:Hp) (Q:VK):Prop
 | mk (x:V) (tp:Ad) (cs:Jn) (t:Vl) (b:Bool) (_:vs=[x,.ref tp]) (_:H tp=Z (.tup cs)) (_:cs.all isClsV=true) (_:TyOf K H x t) (_:PySem.W.kitAny K t (cs.map clsV)=Z b) (_:Q (.bl b) H)
def XE:ZY X (.builtin "isinstance") (rIsiT X.K):=by
 intro sq s σ H xs us Q I r h;obtain ⟨x,tp,cs,t,b,rfl,et,hc,ty,e,q⟩:=h;obtain ⟨u,w',rfl,ru,rw'⟩:=vals2 r;cases (show w'=tI tp from rw');obtain ⟨Z0_,kx,hz,nl⟩:=kit_of I ru ty;obtain ⟨_,its,rv,⟨cls,dd,data,sl⟩,e1,e2,n,e3⟩:=(show ObjOk X.prog X.w H s.heap tp (.tup cs) from I.hok tp _ et);simp only at e2 e3;subst e2 e3;rw [← zec hc rv] at e;exact PySem.W.kia_tup kx I.kIn hz e1 e nl λtk=>⟨.bl b,H,I.tok _,U,q⟩
end
section
variable {A:Around} {E:Ja} {s:Sh}
end
section
variable {pos:Pos}
inductive rAnyB (K:Fg) (xs:Jn) (H:Hp) (Q:VK):Prop
 | mk (p:Ad) (bs:List Bool) (_:xs=[.ref p]) (_:SqL K H p (bs.map V.bl)) (_:Q (.bl (bs.any id)) H)
def bools_at {bs:List Bool} {us:Jd} (h:Vals (bs.map V.bl) us) (i:Nat) (v:Vl) (e:us[i]?=Z v):∃ b,bs[i]?=Z b/\v=.bool b:=by
 induction bs generalizing us i with
 | nil=>cases h;cases e
 | cons b bs ih =>
  cases h with
  | cons r rr =>
   cases i with
   | zero=>cases (show _=Value.bool b from r);cases (show Z _=Z v from e);exact ⟨b,U,U⟩
   | succ i=>exact ih rr i e
def zfv (bs:List Bool):((List.range bs.length).any λi=>(bs[i]?).getD false)=bs.any id:=by
 induction bs with
 | nil=>rfl
 | cons n ns ih =>
  rw [x2x,List.range_succ_eq_map,vh,vX,vh,← ih];rfl
def YO (hc:X.calm=true):ZY X (.builtin "any") (rAnyB X.K):=by
 intro sq s σ H xs us Q I r h;obtain ⟨p,bs,rfl,hp,q⟩:=h;obtain ⟨u,rfl,ru⟩:=r.one;cases (show u=tI p from ru);obtain ⟨its,rv,pl,_⟩:=I.list hp;have hl:=pl.isList;have hlt:p<s.heap.objs.size:=by obtain ⟨_,e,_⟩:=hl;exact tw e
 refine call_any_walk (wpAny_pyIter_list hl ?_)
 refine ⟨s.heap.objs.size,[s.heap.objs.size,p],[s.heap.objs.size],its.toArray.size,_,_,λi=>(bs[i]?).getD false,U,Walks.list (A:=X.A.in1) (I.ok.hd hc) _ p (tQ hlt) its.toArray,
  ⟨⟨_,tR _ rfl,U,U⟩,hl.push _⟩,λi v s' Q' E' hP hQ=>?_,λh' tk hk=>?_⟩
 .obtain ⟨n,e,rfl⟩:=bools_at rv i v (by simpa using hP)
  simp only [e,Option.getD_some] at hQ;exact uI hQ
 .have ek:((List.range its.toArray.size).any λi=>(bs[i]?).getD false)=bs.any id:=by
   have:=vals_len rv;rw [Ji] at this;rw [tG,this];exact zfv bs
  rw [ek];exact ⟨.bl _,H,I.kept λb o e=>hk b o (λhm=>by rw [sG.mp hm] at e;exact vg _ (tw e)) (sV _ e),U,q⟩
end
section
variable {sq:Jc} {σ:St} {H3:Hp} {s3:Sh} {sE:Scope} {cl:List (Str×Ad)} {x0:Str} {NY:Jf} {fp:Jg}
end
section
variable {tg:Expr}
end
structure MkN (K:Fg) (C:Ad):Prop where
 makes:tL K C=true
 init:t6 K (.ref C) "__init__"=Z (Z (.builtin "object.__init__"))
 kp:tj K (.ref C)=true
def tMakeN (C:Ad):TE:=λ_ H Q=>∀ x dx,H x=Y->H dx=Y->dx≠x->Q (.ref x) (upd (upd H dx (.own x)) x (.ins C dx []))
section
variable {C:Ad} {x:Str} {p pos:Pos}
def pe_makeN (M:MkN X.K C) (hg:Gl X x) (hm:X.mg x=Z (.ref C)) (hdb:(x == ("__debug__":Str))=false:=by decide):PE X (.Call (.Name x p) [] [] pos) (tMakeN C):=by
 intro sq s σ H Q I h;refine v6 (Xx I hg hm ?_ hdb);refine PySem.W.callWith_K0 I.kIn M.kp ?_;have I2:=Inv.made (C:=C) I;have q:=h (s.heap.objs.size+1) s.heap.objs.size (I.hok.fresh (Nat.le_succ _)) (I.hok.fresh (sK _)) (tQ (wR _));refine wpAny_call (make_map0 I.kIn M.makes M.init (λself=>PySem.W.Looks.of_pure (PySem.W.oi_bind self)) ?_);have Y0_:=PySem.W.makes_of (M:=model X.prog X.w) I.kIn M.makes
 have e2:((s.heap.push tX).push (ua C s.heap.objs.size)).get? (s.heap.objs.size+1)=Z (ua C s.heap.objs.size):=by
  have:=tR (s.heap.push tX) (o:=ua C s.heap.objs.size) rfl
  rwa [Heap.size_push] at this
 have t1:PySem.W.Looks (model X.prog X.w) ((s.heap.push tX).push (ua C s.heap.objs.size)) (typeOf (.ref (s.heap.objs.size+1))) (.ref C):=(PySem.W.Looks.ld e2).andThen .now;have kp:∀ b o,s.heap.get? b=Z o->((s.heap.push tX).push (ua C s.heap.objs.size)).get? b=Z o:=λb o e=>sV _ (sV _ e);have t2:PySem.W.Looks (model X.prog X.w) ((s.heap.push tX).push (ua C s.heap.objs.size)) (isInstance (.ref (s.heap.objs.size+1)) (.type "object")) true:=t1.andThen (Y0_.top.keeps kp);refine vE PySem.W.oi_plain PySem.W.entry_oi (PySem.W.check_slot PySem.W.oi_kind PySem.W.oi_split t2 (PySem.W.oi_args _) ?_);rw [PySem.W.oi_run];exact q0y ⟨U,.ref (s.heap.objs.size+1),_,I2,U,q⟩
end
structure FunD (K:Fg) (x sy:Str) (st:Stmt) (f:Ad) (fd:uk) (ds:Array Vl):Prop where
 ex:∃ (oc:Vl) (od:Option Ad) (kV doc pm:Vl) (an:Option Ad) (sA ct:Vl) (osl:Array (Je)) (T:Ad) (o:Obj) (n:Nat),
  fd=tS x sy (yd st) (zS st) (zf st) (.ref T) kV doc pm an sA ct/\K.lookup f=Z ⟨oc,od,.func fd,osl⟩/\ur K sA sy=true/\K.lookup T=Z o/\o.data=.seq ds n
 kp:tj K (.ref f)=true
section
variable {K:Fg} {base:Heap}
def FunD.okE {x sy:Str} {st:Stmt} {f:Ad} {fd:uk} {ds:Array Vl} {N ps:Jf} {k:Nat} {sp:Sp} (F:FunD K x sy st f fd ds) (S:FnScope N ps (zf st)) (len:∀ vs H Q E,sp vs H Q E->vs.length=ps.length)
  (hbody:∀ (sA:Vl) (A:Around) (outer:List Env) (s:Sh) (H:Hp) (vs:Jn) (Q:VK) (E:XK),Room k (A.deeper (envOfC sy (zf st) s.heap.objs.size f sA))->sp vs H Q E ->
   ∃ t,PSs (Zl (CXe P w base) P w K mg base N sy (zf st) f sA A outer s H E) (zS st) t/\t { nx:=λ_ H'=>Q .non H',rt:=Q } (start N vs) H):FnOk P w K mg base (CXe P w base) (k+1) f fd ps sp:=by
 obtain ⟨oc,od,kV,doc,pm,an,sA,ct,osl,T,o,n,rfl,lk,hcd,_,_⟩:=F.ex;exact fn_of lk hcd S len λA outer s H vs Q E hr hsp=>hbody sA A outer s H vs Q E hr hsp
def FunD.binds {x sy:Str} {st:Stmt} {f:Ad} {fd:uk} {ds:Array Vl} {ps:Jf} {ds2:Jd} (F:FunD K x sy st f fd ds)
  (h:∀ (T:Ad) (kV doc pm:Vl) (an:Option Ad) (sA ct:Vl) (us:Jd),(us++ds2).length=ps.length->∃ k:Option (Array Vl)->Sem (List (Str×Vl)),bindArgs (tS x sy (yd st) (zS st) (zf st) (.ref T) kV doc pm an sA ct) ⟨us,[]⟩=seqItems? (.ref T) >>= k/\k (Z ds)=pure (ps.zip (us++ds2))):Binds K fd ps ds2:=by
 obtain ⟨oc,od,kV,doc,pm,an,sA,ct,osl,T,o,n,rfl,lk,hcd,lT,eT⟩:=F.ex;intro s us KX hl;obtain ⟨k,h1,h2⟩:=h T kV doc pm an sA ct us hl;exact BindsTo.of_defaults rfl (KX _ _ lT) eT h1 h2
def xp {x sy:Str} {st:Stmt} {f T:Ad} {oc ocT:Vl} {od an odT:Option Ad} {osl oslT:Array (Je)} {kV doc pm sA ct:Vl} {ds:Array Vl} {n:Nat} (l:K.lookup f=Z ⟨oc,od,.func (tS x sy (yd st) (zS st) (zf st) (.ref T) kV doc pm an sA ct),osl⟩)
  (c:ur K sA sy=true) (k:tj K (.ref f)=true) (lT:K.lookup T=Z ⟨ocT,odT,.seq ds n,oslT⟩):FunD K x sy st f (tS x sy (yd st) (zS st) (zf st) (.ref T) kV doc pm an sA ct) ds:=⟨⟨oc,od,kV,doc,pm,an,sA,ct,osl,T,_,n,U,l,c,lT,U⟩,k⟩
def X7 (K:Fg) (C:Ad) (sy:Str) (st:Stmt) (ps:Jf):Prop:=∃ (f:Ad) (fd:uk),Mk K C f/\FunD K "__init__" sy st f fd #[.none]/\Binds K fd ps []/\Binds K fd ps [.none]
def OkN (P:tV) (w:World) (K:Fg) (mg:J0) (base:Heap) (CX:CXT) (k:Nat) (C:Ad) (ps:Jf) (sp:Sp):Prop :=
 ∃ (f:Ad) (fd:uk),Mk K C f/\Binds K fd ps []/\Binds K fd ps [.none]/\FnOk P w K mg base CX k f fd ps sp
end
section
variable {CX:CXT} {k:Nat} {C:Ad} {ps:Jf} {sp:Sp} {E:XK} {x m:Str} {p pos apos:Pos} {e o:Expr} {es:Jh} {ta:TE} {t:TA}
def OkN.all {P:tV} {w:World} {K:Fg} {mg:J0} {base:Heap} (h:OkN P w K mg base CX k C ps sp):OkI P w K mg base CX k C ps sp:=by
 obtain ⟨f,fd,a,b,_,d⟩:=h;exact ⟨f,fd,a,b,d⟩
end
end L2
namespace My
open PySem PySem.W PyProof.Rows
end My
namespace L2
open PySem PySem.Spec PyProof.Rows
def zbt (P:tV) (w:World) (K:Fg) (mg:J0) (base:Heap) (CX:CXT) (k:Nat) (m:Str) (C:Ad) (sp:Sp):Prop:=Cls K C/\∃ (f:Ad) (fd:uk) (ps:Jf),Meth K C m f/\FnOk P w K mg base CX k f fd ps sp/\Binds K fd ps []
inductive tMethX_S (Ds:Ad->Sp->Prop) (m:Str) (E:XK) (t:TA) (σ:St) (Q:VK) (x:V) (H1:Hp):Prop
 | mk (a C:_) (dx fs sp:_) (_:x=.ref a) (_:H1 a=Z (.ins C dx fs)) (_:Ds C sp) (_:fs.lookup m=Y) (_:t σ H1 λvs H2=>sp (x::vs) H2 Q E)
def tMethX (Ds:Ad->Sp->Prop) (m:Str) (E:XK) (ta:TE) (t:TA):TE:=λσ H Q=>ta σ H λx H1=>tMethX_S Ds m E t σ Q x H1
section
variable {σ₀:St}
def pe1_methX {CX:CXT} {k:Nat} {E:XK} {m:Str} {apos pos:Pos} {o e:Expr} {es:Jh} {ta:TE} {t:TA} {pl:Sem Bool} (hr:Room k X.A) (hx:zeb CX X σ₀ E) (he:PE X o ta) (ha:PA X (e::es) t)
  (hst:tN (e::es) X.env=(false,eval e X.env)::tN es X.env:=by rfl) (hpl:(backTo pos (tN es X.env)).any (·.1)=false:=by rfl)
  (ht:eval (.Call (.Attribute o m apos) (e::es) [] pos) X.env=(do
   let ov ← eval o X.env
   standAt apos.atName
   let (f,first) ← holding [ov] (getMethod ov m pl)
   callWith pos f first (backTo pos (tN (e::es) X.env)) (vj pos (uH [] X.env))):=by rfl) :
  PE1 X σ₀ (.Call (.Attribute o m apos) (e::es) [] pos) (tMethX (zbt X.prog X.w X.K X.mg X.base CX k m) m E ta t):=by
 intro sq s H Q I h;refine PySem.W.methodCall_KW (pl:=pl) (thn (he sq s σ₀ H _ I h) λu s1 ⟨x,H1,I1,rx,a,C,dx,fs,sp,ex,ea,dp,l,q⟩=>?_) ht;subst ex;obtain rfl:u=tI a:=rx;obtain ⟨cl,f,fd,ps,hm,F,hb⟩:=dp;refine zbi I1 ea cl hm l ?_;refine wk (first:=[.ref a]) (h₀:=X.base) I.ok.mod.kin hm.kp (thn (ha pos sq s1 σ₀ H1 _ I1 q) λus s2 ⟨vs,H2,I2,r,q2⟩=>⟨I2.kIn,?_⟩) hst hpl;exact run_fn1 (us:=.ref a::us) (vs:=.ref a::vs) (dvs:=[]) (ds:=[]) F hr hb .nil hx I2 (.cons rfl r) (by simpa using q2)
def pe_methX {CX:CXT} {k:Nat} {E:XK} {m:Str} {apos pos:Pos} {o e:Expr} {es:Jh} {ta:TE} {t:TA} {pl:Sem Bool} (hr:Room k X.A) (hx:Passes CX X E) (he:PE X o ta) (ha:PA X (e::es) t)
  (hst:tN (e::es) X.env=(false,eval e X.env)::tN es X.env:=by rfl) (hpl:(backTo pos (tN es X.env)).any (·.1)=false:=by rfl)
  (ht:eval (.Call (.Attribute o m apos) (e::es) [] pos) X.env=(do
   let ov ← eval o X.env
   standAt apos.atName
   let (f,first) ← holding [ov] (getMethod ov m pl)
   callWith pos f first (backTo pos (tN (e::es) X.env)) (vj pos (uH [] X.env))):=by rfl) :
  PE X (.Call (.Attribute o m apos) (e::es) [] pos) (tMethX (zbt X.prog X.w X.K X.mg X.base CX k m) m E ta t) :=
 PE1.all λ_=>pe1_methX hr hx.one he ha hst hpl ht
end
end L2
namespace FM
open PySem L2
def kept (n:Int):Int:=(n+9223372036854775808) % (2*9223372036854775808)-9223372036854775808
structure Cs where
 num:Ad
 here:Ad
 cell:Ad
 shi:Ad
 loc:Ad
 at':Ad
 pair:Ad
 cho:Ad
 spot:Ad
end FM
namespace L2
open PySem PySem.Spec PyProof.Rows
section
variable {sq:Jc} {σ:St} {s:Sh} {e:Ad} {cls:Vl}
end
section
variable {A:Around} {R:Result->Sh->Prop} {s:Sh}
end
section
variable {sq:Jc} {σ:St} {s s':Sh} {e C T:Ad}
end
section
variable {tg:Expr}
end
end L2
namespace F2
open PySem L2
mutual
inductive Fm
 | num (n:Int) | here | cell (r:Int) | shi (r b o:Int) | loc (a:Int) | at' (r:Int) (p:Fm) | pair (sg:Str) (l r:Fm) | cho (t l r:Fm) | call (a:Int) (hs:Fms)
inductive Fms
 | nil | cons (f:Fm) (r:Fms)
end
instance:Inhabited Fm:=⟨.here⟩
def Fms.len:Fms->Nat
 | .nil=>0
 | .cons _ r=>r.len+1
structure Cs extends FM.Cs where
 call:Ad
mutual
def FormAt (c:Cs) (H:Hp):Fm->Ad->Prop
 | .num n,x=>∃ dx,H x=Z (.ins c.num dx [("number",.int n)])
 | .here,x=>∃ dx,H x=Z (.ins c.here dx [])
 | .cell r,x=>∃ dx,H x=Z (.ins c.cell dx [("row",.int r)])
 | .shi r b o,x=>∃ dx,H x=Z (.ins c.shi dx [("row",.int r),("by",.int b),("other",.int o)])
 | .loc a,x=>∃ dx,H x=Z (.ins c.loc dx [("at",.int a)])
 | .at' r p,x=>∃ dx y,H x=Z (.ins c.at' dx [("row",.int r),("place",.ref y)])/\FormAt c H p y
 | .pair sg l r,x=>∃ dx y z,H x=Z (.ins c.pair dx [("sign",.str sg),("left",.ref y),("right",.ref z)])/\FormAt c H l y/\FormAt c H r z
 | .cho t l r,x=>∃ dx u y z,H x=Z (.ins c.cho dx [("test",.ref u),("left",.ref y),("right",.ref z)])/\FormAt c H t u/\FormAt c H l y/\FormAt c H r z
 | .call a hs,x=>∃ dx l ys,H x=Z (.ins c.call dx [("at",.int a),("handed",.ref l)])/\H l=Z (.lst (ys.map V.ref))/\FormsAt c H hs ys
def FormsAt (c:Cs) (H:Hp):Fms->Jg->Prop
 | .nil,ys=>ys=[]
 | .cons f r,ys=>∃ y t,ys=y::t/\FormAt c H f y/\FormsAt c H r t
end
mutual
theorem FormAt.same {c:Cs} {H H':Hp} (s:Same H H'):∀ {F:Fm} {x:Ad},FormAt c H F x->FormAt c H' F x
 | .num _,_,h=>by obtain ⟨dx,h⟩:=h;exact ⟨dx,s _ _ h⟩
 | .here,_,h=>by obtain ⟨dx,h⟩:=h;exact ⟨dx,s _ _ h⟩
 | .cell _,_,h=>by obtain ⟨dx,h⟩:=h;exact ⟨dx,s _ _ h⟩
 | .shi _ _ _,_,h=>by obtain ⟨dx,h⟩:=h;exact ⟨dx,s _ _ h⟩
 | .loc _,_,h=>by obtain ⟨dx,h⟩:=h;exact ⟨dx,s _ _ h⟩
 | .at' _ _,_,h=>by obtain ⟨dx,y,h,p⟩:=h;exact ⟨dx,y,s _ _ h,FormAt.same s p⟩
 | .pair _ _ _,_,h=>by obtain ⟨dx,y,z,h,p,q⟩:=h;exact ⟨dx,y,z,s _ _ h,FormAt.same s p,FormAt.same s q⟩
 | .cho _ _ _,_,h=>by obtain ⟨dx,u,y,z,h,o,p,q⟩:=h;exact ⟨dx,u,y,z,s _ _ h,FormAt.same s o,FormAt.same s p,FormAt.same s q⟩
 | .call _ _,_,h=>by obtain ⟨dx,l,ys,h,e,p⟩:=h;exact ⟨dx,l,ys,s _ _ h,s _ _ e,FormsAt.same s p⟩
theorem FormsAt.same {c:Cs} {H H':Hp} (s:Same H H'):∀ {F:Fms} {ys:Jg},FormsAt c H F ys->FormsAt c H' F ys
 | .nil,_,h=>h
 | .cons _ _,_,h=>by obtain ⟨y,t,e,p,q⟩:=h;exact ⟨y,t,e,FormAt.same s p,FormsAt.same s q⟩
end
theorem FormsAt.len {c:Cs} {H:Hp}:∀ {F:Fms} {ys:Jg},FormsAt c H F ys->ys.length=F.len
 | .nil,_,h=>by cases (show _=[] from h);rfl
 | .cons _ r,_,h=>by
  obtain ⟨y,t,e,_,q⟩:=h;subst e;show t.length+1=r.len+1;rw [FormsAt.len q]
abbrev Fn:=Nat×Fm
structure FunsAt (c:Cs) (K:Fg) (H:Hp) (f:Ad) (fs:List Fn):Prop where
 ex:∃ ts:Jg,SqL K H f (ts.map V.ref)/\ts.length=fs.length/\∀ i,i<fs.length->∃ b,SqT K H (ts.getD i 0) [.int ((fs.getD i (0,.here)).1:Int),.ref b]/\FormAt c H (fs.getD i (0,.here)).2 b
def sqt_same {K:Fg} {H H':Hp} {a:Ad} {xs:Jn} (h:SqT K H a xs) (s:Same H H'):SqT K H' a xs:=by
 rcases h with h | h
 .exact .inl (h.imp (λz=>s _ _ z) λ⟨o,z⟩=>⟨o,s _ _ z⟩)
 .exact .inr h
def FunsAt.same {c:Cs} {K:Fg} {H H':Hp} {f:Ad} {fs:List Fn} (h:FunsAt c K H f fs) (s:Same H H'):FunsAt c K H' f fs:=by
 obtain ⟨ts,a,b,d⟩:=h.ex;exact ⟨ts,yq a s,b,λi hi=>let ⟨x,p,q⟩:=d i hi;⟨x,sqt_same p s,q.same s⟩⟩
end F2
namespace L2
open PySem PySem.Spec PyProof.Rows
def fold_rep (c:Nat):∀ (n:Nat) (a:Array Nat),List.foldl (λx1 x2=>x1++x2) a (tD n #[c])=a++(tD n c).toArray:=by
 intro n
 induction n with
 | zero=>intro a;simp
 | succ n ih=>intro a;rw [vD,List.foldl_cons,ih];apply Array.ext';simp [vD]
def rMulS:R2:=λx y H Q=>∃ (c:Nat) (n:Int),x=.str ⟨#[c]⟩/\y=.int n/\0<=n/\n<=100/\Q (.str ⟨(tD n.toNat c).toArray⟩) H
def Xt:OpR X (wQ .Mult) rMulS:=by
 intro sq s σ H x y v u Q I rx ry h;obtain ⟨c,n,rfl,rfl,h0,h1,q⟩:=h;obtain ⟨t,rfl⟩:=rx;obtain ⟨t',rfl⟩:=ry;have hl:(⟨#[c]⟩:Str).length=1:=rfl;refine PySem.P.mul_str (by simp;omega) (λ_ _=>?_) (λ_ _=>?_) ?_
 .rw [hl]
  have:(100:Int)<=(2 ^ 63-1) / n∨n=0:=by
   by_cases e:n=0
   .exact .inr e
   .exact .inl ((Int.le_ediv_iff_mul_le (by omega)).mpr (by omega))
  rcases this with z | z
  .omega
  .omega
 .rw [hl,Nat.one_mul]
  have:n.toNat<=100:=by omega
  unfold Builtin.Str.tooLong;have SL:(100:Nat)<sizeLine:=by decide
  exact decide_eq_false (by omega)
 .split
  .have:n=0:=by omega
   subst this;exact ⟨by decide,.str _,H,I.tok _,⟨_,U⟩,q⟩
  .split
   .rename_i h2 h3
    have:n=1:=by simpa [hl] using h3
    subst this;exact ⟨.str _,H,I,⟨_,U⟩,q⟩
   .have e:(⟨List.foldl (λx1 x2=>x1++x2) #[] (tD n.toNat #[c])⟩:Str)=⟨(tD n.toNat c).toArray⟩:=by rw [fold_rep];simp
    have SL:(100:Nat)<sizeLine:=by decide
    refine ⟨?_,.str _,H,I.tok _,⟨_,U⟩,?_⟩
    .show (⟨List.foldl (λx1 x2=>x1++x2) #[] (tD n.toNat #[c])⟩:Str).length<=_
     rw [e];simp [w8];omega
    show Q (.str ⟨List.foldl (λx1 x2=>x1++x2) #[] (tD n.toNat #[c])⟩) H;rw [e];exact q
end L2
namespace ST
open PySem L2 FM
inductive Kd
 | let' | put (p:F2.Fm) (m:Int) | fold (f:Str) (m:Int) | run (f:Str)
structure StepD where
 target:Int
 value:F2.Fm
 test:Option F2.Fm
 kind:Kd
def yF (sD:Jb) (L:StepD):Int:=match L.kind with
 | .put _ m=>m
 | .fold _ m=>m
 | _=>sD.getD L.target.toNat 0
structure Scs where
 let_:Ad
 put:Ad
 fold:Ad
 run:Ad
 till:Ad
 step:Ad
def Scs.of (q:Scs):Kd->Ad
 | .let'=>q.let_
 | .put _ _=>q.put
 | .fold _ _=>q.fold
 | .run _=>q.run
def isF:Kd->Bool
 | .fold _ _=>true
 | _=>false
def isP:Kd->Bool
 | .put _ _=>true
 | _=>false
def fieldsOf (L:StepD) (v p:Ad) (t:V):List (Str×V):=match L.kind with
 | .let'=>[("target",.int L.target),("value",.ref v),("test",t)]
 | .put _ m=>[("target",.int L.target),("value",.ref v),("place",.ref p),("many",.int m),("test",t)]
 | .fold f m=>[("target",.int L.target),("fold",.str f),("value",.ref v),("many",.int m),("test",t)]
 | .run f=>[("target",.int L.target),("fold",.str f),("value",.ref v),("test",t)]
def ZC {L:StepD} {v p:Ad} {t:V}:(fieldsOf L v p t).lookup ("target":Str)=Z (.int L.target):=by
 unfold fieldsOf;cases L.kind <;> rfl
def fld_value {L:StepD} {v p:Ad} {t:V}:(fieldsOf L v p t).lookup ("value":Str)=Z (.ref v):=by
 unfold fieldsOf;cases L.kind <;> rfl
def ze9 {L:StepD} {v p:Ad} {t:V}:(fieldsOf L v p t).lookup ("test":Str)=Z t:=by
 unfold fieldsOf;cases L.kind <;> rfl
def zfa {L:StepD} {v p:Ad} {t:V}:(fieldsOf L v p t).lookup ("many_of":Str)=Y:=by
 unfold fieldsOf;cases L.kind <;> rfl
structure StepAt (c:F2.Cs) (q:Scs) (H:Hp) (L:StepD) (x:Ad):Prop where
 ex:∃ dx v p t,H x=Z (.ins (q.of L.kind) dx (fieldsOf L v p t))/\F2.FormAt c H L.value v/\(match L.test with
  | none=>t=.non
  | some F=>∃ u,t=.ref u/\F2.FormAt c H F u)/\∀ F m,L.kind=.put F m->F2.FormAt c H F p
def StepAt.same {c:F2.Cs} {q:Scs} {H H':Hp} {L:StepD} {x:Ad} (h:StepAt c q H L x) (s:Same H H'):StepAt c q H' L x:=by
 obtain ⟨dx,v,p,t,a,b,d,e⟩:=h.ex;refine ⟨dx,v,p,t,s _ _ a,b.same s,?_,λF m z=>(e F m z).same s⟩
 cases y:L.test with
 | none=>rw [y] at d;exact d
 | some F=>rw [y] at d;obtain ⟨u,d1,d2⟩:=d;exact ⟨u,d1,d2.same s⟩
end ST
namespace L2
open PySem PySem.Spec PyProof.Rows
open Sem (wp)
section
variable {A:Around} {E:Ja} {s:Sh}
end
section
variable {sq:Jc} {σ:St} {s:Sh} {h':Heap}
def Inv.turnedT {its:Jg} {T:Ad} {o:HO} {t':Nat} (I:Inv X sq σ H s) (k:∀ b u,b ∉ its->s.heap.get? b=Z u->h'.get? b=Z u) (hf:∀ b∈its,Xj X sq H b) (hT:s.heap.objs.size<=T) (new:ObjOk X.prog X.w (upd H T o) h' T o) :
  Inv X sq σ (upd H T o) { s with heap:=h',toks:=t' }:=by
 have fr:=I.hok.fresh hT;have neT:∀ {b:Ad} {u:Obj},s.heap.get? b=Z u->b≠T:=λe=>tQ (x1z (tw e) hT);have ni:∀ {b:Ad} {u:HO},H b=Z u->b ∉ its:=λe m=>by rw [(hf _ m).1] at e;cases e
 refine I.step (g':=s.gens) (d':=s.drawn) (ch:=its) (λb hb=>?_) (λb u _ _ hc e _=>k b u hc e) (λb u _ _ hc e _=>⟨u.slots,k b u hc e⟩) (λb u _ e n=>by rw [zt (neT e)];exact n)
  (λb u hc e=>⟨u,k b u hc e⟩) (λb ys e=>by rw [zt (zz e fr)];exact e) (λb u v e=>by rw [zt (zz e fr)];exact e) (λb ps e=>⟨#[],by rw [zt (zz e fr),e];simp⟩) (λm hm=>?_) (λb u e=>?_) I.bare
 .obtain ⟨_,f1,_,f3,f4,f5⟩:=hf b hb
  exact ⟨f3,f1,f4,f5⟩
 .obtain ⟨ob,es,ep,ho,r⟩:=hm
  exact ⟨ob,es,ep,k _ ob (λm=>(hf _ m).2.1 rfl) ho,r⟩
 .by_cases hb:b=T
  .subst hb;rw [zg] at e;cases e;exact new
  .rw [zt hb] at e
   refine (I.hok b u e).stay (λc v hc q=>k c v ?_ q) (λc q=>by rw [zt (zz q fr)];exact q) λc ys q=>by rw [zt (zz q fr)];exact q
   rcases hc with z | z
   .rw [z];exact ni e
   .exact ni z
def Inv.turnedL {its:Jg} {t':Nat} (I:Inv X sq σ H s) (k:∀ b u,b ∉ its->s.heap.get? b=Z u->h'.get? b=Z u) (hf:∀ b∈its,Xj X sq H b):Inv X sq σ H { s with heap:=h',toks:=t' }:=by
 have ni:∀ {b:Ad} {u:HO},H b=Z u->b ∉ its:=λe m=>by rw [(hf _ m).1] at e;cases e
 refine I.step (g':=s.gens) (d':=s.drawn) (ch:=its) (λb hb=>?_) (λb u _ _ hc e _=>k b u hc e) (λb u _ _ hc e _=>⟨u.slots,k b u hc e⟩) (λ_ _ _ _ n=>n)
  (λb u hc e=>⟨u,k b u hc e⟩) (λ_ _ e=>e) (λ_ _ _ e=>e) (λb ps e=>⟨#[],by rw [e];simp⟩) (λm hm=>?_) (λb u e=>?_) I.bare
 .obtain ⟨_,f1,_,f3,f4,f5⟩:=hf b hb
  exact ⟨f3,f1,f4,f5⟩
 .obtain ⟨ob,es,ep,ho,r⟩:=hm
  exact ⟨ob,es,ep,k _ ob (λm=>(hf _ m).2.1 rfl) ho,r⟩
 .refine (I.hok b u e).stay (λc v hc q=>k c v ?_ q) (λ_ q=>q) λ_ _ q=>q
  rcases hc with z | z
  .rw [z];exact ni e
  .exact ni z
end
end L2
namespace L2
open PySem PySem.Spec PyProof.Rows
open Sem (wp)
open AutoSeq1 (wpAny_loadPart')
abbrev kwS (t:Tok):List (Str×Vl):=[("start",.int 1 t)]
section
variable {A:Around} {E:Ja} {s:Sh}
def en_new (l:Ad) (items:Array Vl) (n:Nat) (t:Tok) (od:Option Ad) (sl:Array (Je)) :
  Meets (Builtin.«enumerate.__new__» ⟨[.type "enumerate",.ref l],kwS t⟩) (λ_ R s=>s.heap.get? l=Z { cls:=.type "list",dict:=od,data:=.seq items n,slots:=sl } /\
   R (.ok (.ret (.ref (s.heap.push { cls:=.type "list_iterator",data:=.fields #[.ref l,.int 0 0] }).objs.size)))
    { s with heap:=(s.heap.push { cls:=.type "list_iterator",data:=.fields #[.ref l,.int 0 0] }).push { cls:=.type "enumerate",data:=.fields #[.none,.bool false,.ref s.heap.objs.size,rawInt 1,.none,.none] } }) :=
 .of_wp λprog w A R s h=>by
  obtain ⟨hp,g,d,tk,os⟩:=s;obtain ⟨hl,h⟩:=h;have hs:=sub_enumerate;have hL:Heap.IsList (Shared.heap ⟨hp,g,d,tk,os⟩) l items:=⟨_,hl,U,n,U⟩
  wp_walk using wy hl
  refine wpAny_stack_any λst=>q0y ?_;dsimp only
  split
  .rename_i c _ _ _ _ _;cases (c == Value.type "enumerate") <;> (wp_walk using wy hl,wpAny_pyIter_list hL;exact ⟨_,U,h⟩)
  .wp_walk using wy hl,wpAny_pyIter_list hL;exact ⟨_,U,h⟩
def oi_meets {T newId:String} {self a:Vl} {t:Tok} (hl:typeLookup (.type T) "__init__"=pure (Z (.builtin "object.__init__")))
  (hm:Bind.madeBy (.type T)=pure (Z newId)) (hne:(Z newId != Z "object.__new__")=true) :
  Meets (Builtin.«object.__init__» ⟨[self,a],kwS t⟩) (λ_ R s=>s.TypeIs self T/\R (.ok (.ret .none)) s):=by
 refine Meets.of_wp λprog w A R s hs=>?_;obtain ⟨hT,hq⟩:=hs
 repeat (any_goals (first | assumption | wp_step))
 exact ⟨_,U,hq⟩
def ao_en (obj a:Vl) (t:Tok):argsOk "object.__init__" ⟨[obj,a],kwS t⟩:=by unfold argsOk;kernel_rfl
def tc_en (a:Vl) (t:Tok):checkTypeCall "enumerate" ⟨[a],kwS t⟩=pure ():=by kernel_rfl
def cb_en (a:Vl) (t:Tok):checkBuiltinCall "enumerate.__new__" ⟨[.type "enumerate",a],kwS t⟩=pure ():=by kernel_rfl
def call_en {l:Ad} {items:Array Vl} {t:Tok} {Q:Ja} (hl:s.heap.IsList l items) (hQ:∀ h',IsEnum h' (s.heap.objs.size+1) s.heap.objs.size 1 .none->h'.IsListIter s.heap.objs.size l 0->(∀ b o,s.heap.get? b=Z o->h'.get? b=Z o)->Q (.ref (s.heap.objs.size+1)) { s with heap:=h' }) :
  wpAny (model prog w) A (call (.type "enumerate") [.ref l] (kwS t)) Q E s:=by
 have ft:=F.called_enumerate;obtain ⟨c,tl,hmro⟩:=ft.mro;have hmade:=ft.made;have hsub:=ft.sub;have hct:=tc_en (.ref l) t;refine wpAny_call (codeAny_of_tree ?_);show wpAny _ _ (callAny (.type "enumerate") _) _ _ _;refine q0y ⟨Code.quiet_builtin _ (by decide +kernel),codeAny_builtin F.entry_type_call ?_⟩;rw [Around.under_plain (weight_type_call_type "enumerate" [.ref l] (kwS t)) (units_type_call_type "enumerate" [.ref l] (kwS t))];have h1:=ft.notType;have h2:=ft.canCreate
 repeat (any_goals (first | assumption | wp_step))
 obtain ⟨⟨c',od,dt,sl⟩,hl,hc,n,hd⟩:=hl;replace hc:c'=.type "list":=hc;replace hd:dt=.seq items n:=hd;subst hc hd;have hz:(s.heap.push { cls:=.type "list_iterator",data:=.fields #[.ref l,.int 0 0] }).objs.size=s.heap.objs.size+1:=Heap.size_push ..;refine w9 (vE ft.plain F.entry_enumerate_new (wpAny_of_eq (cb_en (.ref l) t) (en_new l items n t od sl prog w A.in1 (wants (λobj s₁=>s₁.TypeIs obj "enumerate"/\Q obj s₁) E) s ⟨hl,?_⟩))) λr s₁ hr=>?_
 .show _/\_
  rw [hz]
  have he:IsEnum ((s.heap.push { cls:=.type "list_iterator",data:=.fields #[.ref l,.int 0 0] }).push { cls:=.type "enumerate",data:=.fields #[.none,.bool false,.ref s.heap.objs.size,rawInt 1,.none,.none] }) (s.heap.objs.size+1) s.heap.objs.size 1 .none:=by
   have:=tR (s.heap.push { cls:=.type "list_iterator",data:=.fields #[.ref l,.int 0 0] }) (o:={ cls:=.type "enumerate",data:=.fields #[.none,.bool false,.ref s.heap.objs.size,rawInt 1,.none,.none] }) rfl;rw [hz] at this;exact this
  refine ⟨⟨_,he,U⟩,hQ _ he ⟨_,sV _ (tR _ rfl),U,U⟩ λb o e=>sV _ (sV _ e)⟩
 .cases r with
  | error e=>exact hr
  | ok fl =>
   cases fl with
   | ret obj =>
    obtain ⟨hT,hq⟩:s₁.TypeIs obj "enumerate"/\Q obj s₁:=hr;have hli:=ft.init.lookup;have hbi:=ft.init.bind obj
    repeat (any_goals (first | assumption | wp_step))
    refine w9 (vE ft.init.plain F.entry_object_init (ft.init.check _ _ _ _ _ _ _ _ hT (ao_en obj (.ref l) t) (oi_meets ft.init.lookup ft.made (by decide) prog w A.in1 (wants (λr s₂=>r=.none/\Q obj s₂) E) s₁ ⟨hT,U,hq⟩))) λr₂ s₂ hr₂=>?_
    cases r₂ with
    | error e=>exact hr₂
    | ok fl₂ =>
     cases fl₂ with
     | ret r =>
      obtain ⟨rfl,hq⟩:r=.none/\Q obj s₂:=hr₂
      repeat (any_goals (first | assumption | wp_step))
     | _=>exact hr₂.elim
   | _=>exact hr.elim
def zgl {M:Model} {env:Env} {pos:Pos} {T:String} {e:Expr} {rest:Jh} {kws:List Keyword} {Q:Ja}
  (h:wpAny M A (spliced (backTo pos (tN (e::rest) env))) (λvs s1=>wpAny M A (evalAll ((vj pos (uH kws env)).map λx=>x.snd)) (λks s2=>wpAny M A (call (.type T) vs (((vj pos (uH kws env)).filterMap λx=>x.fst).zip ks)) Q E s2) E s1) E s)
  (he:tN (e::rest) env=(false,eval e env)::tN rest env) (hall:((vj pos (uH kws env)).all λx=>x.fst.isSome)=true) (hany:(((backTo pos (tN (e::rest) env)).any λx=>x.fst) || (vj pos (uH kws env)).any λx=>x.fst.isNone)=false) :
  wpAny M A (callWith pos (.type T) [] (backTo pos (tN (e::rest) env)) (vj pos (uH kws env))) Q E s:=by
 exact PySem.W.callWith_of (P:=λ_=>True) hany (λh _=>⟨.machine,.inr (.inl rfl),PySem.W.Looks.now⟩) (PyProof.Rows.evalArgs_kw2 hall (um h (λvs s1 h1=>um h1 (λks s2 h2=>⟨trivial,h2⟩) λ_ _ x=>x) λ_ _ x=>x) he)
end
def ItE (K:Fg) (l:Ad):It :=
  ⟨λi H=>∃ xs:Jn,SqL K H l xs/\i<xs.length,
   λi H x H'=>∃ T v,x=.ref T/\H T=Y/\H'=upd H T (.tup [.int ((i+1:Nat):Int),v])/\∀ xs,SqL K H l xs->xs[i]?=Z v,
   λi H=>∃ xs,SqL K H l xs/\xs.length=i⟩
structure EAt (e it l:Ad) (i:Nat) (h:Heap):Prop where
 e0:∃ old,IsEnum h e it ((i+1:Nat):Int) old
 j0:h.IsListIter it l i
def dr_list {prog:tV} {w:World} {A:Around} (hh:A.handled=Y) (it l:Ad) (hl:l≠it) (items:Array Vl):Draws prog w A it [it,l] (items.size+1) (λi x=>∃ j,i=j+1/\items[j]?=Z x) (λi h=>∃ j,i=j+1/\h.IsListIter it l j/\h.IsList l items) where
 live:=λi h ⟨j,_,⟨o,e,_⟩,_⟩=>⟨o,e⟩
 frame:=λi h h' ⟨j,ej,⟨o,e,r⟩,⟨o2,e2,r2⟩⟩ k=>⟨j,ej,⟨o,k _ (by simp) _ e,r⟩,⟨o2,k _ (by simp) _ e2,r2⟩⟩
 item:=λi s Q E hi ⟨j,ej,a,b⟩ q=>by
  subst ej;have hj:j<items.size:=by omega
  refine wpAny_nextOf_list_item a b (Array.getElem?_eq_getElem hj) λh' a' sb=>?_;obtain ⟨o2,e2,r2⟩:=b;exact q _ h' s.toks ⟨j,U,Array.getElem?_eq_getElem hj⟩ ⟨j+1,U,a',o2,sb.extBut _ _ hl e2,r2⟩ sb
 done:=λs Q E ⟨j,ej,a,b⟩ q=>by
  obtain rfl:j=items.size:=by omega
  exact wpAny_nextOf_list_end hh a b (by simp) λh' e ex ho=>q h' e ex ho
def turn_en {P:tV} {w:World} {K:Fg} {es:Jh} {kt:Nat} {pos:Pos} {e it l:Ad} (h1:e≠it) (h2:l≠e) (h3:l≠it) :
  Turn P w K (.Tuple es kt pos) (ItE K l) [e,it] e (EAt e it l) where
 mem:=x0z
 obj:=λi h st b hb=>by
  rcases sM.mp hb with rfl | hb
  .obtain ⟨old,z⟩:=st.e0;exact ⟨_,z,λv q=>by cases q⟩
  .cases sG.mp hb
   obtain ⟨o,eo,_,d⟩:=st.j0;exact ⟨o,eo,λv q=>by rw [d] at q;cases q⟩
 keep:=λi h h' st k=>by
  obtain ⟨old,z⟩:=st.e0;obtain ⟨o,eo,r⟩:=st.j0;exact ⟨⟨old,k _ (by simp) _ z⟩,o,k _ (by simp) _ eo,r⟩
 item:=by
  intro X hP hw hK hc i sq s σ H E I hf st hg;subst hP hw hK;obtain ⟨xs,hx,il⟩:=hg;obtain ⟨is,r1,p1,_⟩:=I.list hx;have W:=WalksT.enumerateD (dr_list (prog:=X.prog) (w:=X.w) (A:=X.A.in1) (I.ok.hd hc) it l h3 is.toArray) e h1 (by simp [h1,h2.symm]) (by simp);obtain ⟨old,z⟩:=st.e0;have lx:=r1.length;refine W.item (i+1) s _ _ (by simp;omega) ⟨⟨old,z⟩,i,U,st.j0,p1.isList⟩ λT vals h' tk pt hT hTu mid hk=>?_;obtain ⟨t,x,⟨j,ej,ex⟩,rfl⟩:=pt;obtain rfl:i=j:=wm ej;refine ⟨_,U,W.go es kt pos (i+1) T _ _ _ mid λh2 st2 hk2=>?_⟩
  have hv:∃ v,xs[i]?=Z v/\RelV v x:=by
   obtain ⟨v,ev⟩:∃ v,xs[i]?=Z v:=⟨_,sI il⟩;obtain ⟨u,hu,ru⟩:=r1.get ev;rw [List.getElem?_toArray] at ex;rw [hu] at ex;cases ex;exact ⟨v,ev,ru⟩
  obtain ⟨v,ev,rv⟩:=hv;have nw:=W.apart _ _ _ mid;obtain ⟨oT,eT,rT⟩:=hTu;have fr:=I.hok.fresh hT;obtain ⟨⟨old2,z2⟩,j,ej,a1,_⟩:=st2;obtain rfl:i+1=j:=wm ej;refine ⟨.ref T,upd H T (.tup [.int ((i+1:Nat):Int),v]),I.turnedT (its:=[e,it]) (t':=tk) (λb o nb eb=>hk2 _ _ nb (hk _ _ nb eb)) hf hT ⟨by show 2<=sL;decide,[.int ((i+1:Nat):Int) t,x],.cons ⟨_,U⟩ (.cons rv .nil),oT,hk2 _ _ nw eT,rT⟩,U,⟨T,v,U,fr,U,λys hy=>by rw [I.list_inj hy hx];exact ev⟩,⟨⟨old2,z2⟩,a1⟩,λb hb=>?_⟩;have:b≠T:=λz=>by subst z;exact nw hb
  rw [zt this];exact (hf b hb).1
 done:=by
  intro X hP hw hK hc i sq s σ H E I hf st hg;subst hP hw hK;obtain ⟨xs,hx,le⟩:=hg;obtain ⟨is,r1,p1,_⟩:=I.list hx;have W:=WalksT.enumerateD (dr_list (prog:=X.prog) (w:=X.w) (A:=X.A.in1) (I.ok.hd hc) it l h3 is.toArray) e h1 (by simp [h1,h2.symm]) (by simp);obtain ⟨old,z⟩:=st.e0;have lx:=r1.length;have ei:is.toArray.size=i:=by simp;omega
  rw [ei] at W;exact W.done s _ _ ⟨⟨old,z⟩,i,U,st.j0,p1.isList⟩ λh' tk hk=>⟨U,I.turnedL (its:=[e,it]) (t':=tk) (λb o nb eb=>hk _ _ nb eb) hf⟩
 self:=λ_ _ _ _ _ st h=>by
  obtain ⟨old,z⟩:=st.e0;exact wpAny_pyIter_enum z h
section
variable {es:Jh} {kt:Nat} {tp:Pos}
inductive iEn_S (K:Fg) (R:(It->Hp->Prop)) (vs:Jn) (H1:Hp):Prop
 | mk (l:Ad) (_:vs=[.ref l]) (_:∃ xs,SqL K H1 l xs) (_:R (ItE K l) H1)
def iEn (K:Fg) (ta:TA):TI:=λσ H R=>ta σ H λvs H1=>iEn_S K R vs H1
def pi_enum {a:Expr} {ta:TA} {p pos kp cp:Pos} {j:Nat} (hg:Gl X "enumerate") (hm:X.mg "enumerate"=Y) (ha:PA X [a] ta) (hs:tN [a] X.env=(false,eval a X.env)::tN [] X.env:=by rfl) (hall:(vj pos (uH [⟨Z "start",.Constant (.int 1) j cp,kp⟩] X.env)).all (·.1.isSome)=true:=by rfl) (hks:(vj pos (uH [⟨Z "start",.Constant (.int 1) j cp,kp⟩] X.env)).filterMap (·.1)=[("start":Str)]:=by rfl) (hpl:((backTo pos (tN [a] X.env)).any (·.1) || (vj pos (uH [⟨Z "start",.Constant (.int 1) j cp,kp⟩] X.env)).any (·.1.isNone))=false:=by rfl):PI X (.Tuple es kt tp) (.Call (.Name "enumerate" p) [a] [⟨Z "start",.Constant (.int 1) j cp,kp⟩] pos) (iEn X.K ta):=by
 intro sq s σ H R I h;refine v6 (zbe I hg hm boot_enumerate ?_);refine zgl (thn (ha pos sq s σ H _ I h) λus s1 ⟨vs,H1,I1,r1,q1⟩=>?_) hs hall hpl;refine thn ((pk_cons (nm:=Z "start") (kpos:=kp) (zd (i:=1) (j:=j) (pos:=cp)) pk_nil) pos sq s1 σ H1 (λzs H2=>zs=[.int 1]/\H2=H1) I1 ⟨U,U⟩) λws s2 ⟨zs,H2,I2,rz,e1,e2⟩=>?_;subst e1 e2;obtain ⟨l,e,⟨xs,hx⟩,q⟩:=q1;subst e;obtain ⟨u,rfl,ru⟩:=XV r1;obtain ⟨w,rfl,rw'⟩:=XV rz;cases (show u=tI l from ru);obtain ⟨t,rfl⟩:=(show ∃ t,w=wC 1 t from rw');rw [hks];obtain ⟨is,r2,p1,_⟩:=I2.list hx;have hL:=p1.isList;have lt:l<s2.heap.objs.size:=by obtain ⟨o,e,_⟩:=hL;exact tw e
 refine call_en (t:=t) hL λh' a1 a2 hk=>?_;refine wpAny_pyIter_enum (s:={ s2 with heap:=h' }) a1 ?_;have N:∀ {a b:Nat},¬ a=b->@Ne Ad a b:=λh=>h;have lt':@LT.lt Nat _ l s2.heap.objs.size:=lt;refine ⟨_,_,_,_,H2,U,I2.kept (t':=s2.toks) λb o e=>hk b o e,turn_en (l:=l) (N (by omega)) (N (by omega)) (N (by omega)),⟨⟨_,a1⟩,a2⟩,λb hb=>?_,q⟩
 have:@LE.le Nat _ s2.heap.objs.size b:=by
  rcases sM.mp hb with rfl | hb
  .exact Nat.le_succ _
  .cases sG.mp hb;exact sK _
 exact I2.fpOk this (I2.hok.fresh this)
end
def for_en {K:Fg} {l:Ad} {xs:Jn} {g:TG} {tb:TS} {D:Ends} {σ:St} {H:Hp} (Pv:Nat->St->Hp->Prop) (h0:Pv 0 σ H) (hl:∀ i σ H,i<=xs.length->Pv i σ H->SqL K H l xs)
  (hs:∀ i x σ H T,xs[i]?=Z x->Pv i σ H->H T=Y->g (.ref T) σ (upd H T (.tup [.int ((i+1:Nat):Int),x])) λσ2 H2=>tb { D with nx:=Pv (i+1),ct:=Pv (i+1),bk:=D.nx } σ2 H2) (hd:∀ σ H,Pv xs.length σ H->D.nx σ H) :
  tFor_S g tb D σ (ItE K l) H:=by
 refine ⟨λi m σ H=>m=xs.length-i/\i<=xs.length/\Pv i σ H,⟨xs.length,by simp,ub _,h0⟩,?_⟩;rintro i m σ H ⟨rfl,hi,p⟩;have q1:=hl i σ H hi p;by_cases hlt:i<xs.length
 .refine .inr ⟨⟨xs,q1,hlt⟩,Pv (i+1),λσ' H' p'=>⟨xs.length-(i+1),by omega,U,hlt,p'⟩,λx H' y=>?_⟩
  obtain ⟨T,v,e,nT,e',y1⟩:=y;subst e e';exact hs i v σ H T (y1 xs q1) p nT
 .have e:i=xs.length:=by omega
  subst e;exact .inl ⟨⟨xs,q1,U⟩,hd σ H p⟩
end L2
namespace L2
open PySem PySem.Spec PyProof.Rows
section
variable {sq:Jc} {σ σ':St} {s s':Sh} {a:Ad} {sr:Jl}
def Inv.hideD (I:Inv X sq σ H s) (e:H a=Z (.dK sr)):∃ (ob:Obj) (es:Array DictEntry) (ep:Nat) (vs:List (Key×Vl)),KV sr vs/\(ob.ExactDict/\ob.data=.dict es ep/\PySem.KeysOf (yf X.prog X.w) es/\PySem.Pairs (yf X.prog X.w) es.toList vs/\(vs.map (λx=>x.fst)).Nodup)/\s.heap.get? a=Z ob/\(a == uN)=false/\sr.length<=sL/\Inv X ((a,ob)::sq) σ (but H [a]) s:=by
 obtain ⟨hz,hS,vs,r,ob,es,ep,ea,c1,c2,c3⟩:=I.hok a _ e
 have ne:∀ {b:Ad} {o:HO},H b=Z o->o≠.dK sr->b ∉ [a]:=λ{b o} z y m=>by
  cases sG.mp m;rw [e] at z;injection z with z;exact y z.symm
 have nn:∀ {b:Ad},H b=Y->but H [a] b=Y:=λ{b} z=>by
  unfold but;split
  .rfl
  .exact z
 refine ⟨ob,es,ep,vs,r,⟨c1,c2,c3⟩,ea,hS,hz,I.ok,I.os,I.bare,⟨I.base.keep,I.base.slot,λb o q m x=>nn (I.base.free b o q m x),I.base.there,λb ys q=>yn (I.base.tups b ys q) (ne (I.base.tups b ys q) (λz=>by cases z)),λb o u q=>yn (I.base.frzs b o u q) (ne (I.base.frzs b o u q) (λz=>by cases z)),λb ps q=>let ⟨more,z⟩:=I.base.tbls b ps q;⟨more,yn z (ne z (λz=>by cases z))⟩⟩,I.loc,I.cell,nn I.free,λx c q=>nn (I.freeC x c q),λp m=>?_,λb u q=>?_,I.len⟩
 .rcases t9.mp m with m | m
  .have q:=I.pin p (uv _ m)
   exact ⟨q.1,nn q.2.1,q.2.2⟩
  .rcases sM.mp m with rfl | m
   .refine ⟨ea,Yx (List.mem_singleton_self a),λz=>?_,λz=>?_,λv z=>by rw [c2] at z;cases z⟩
    .have:=I.free
     rw [← z] at this;have e':H a=Z (.dK sr):=e;rw [e'] at this;cases this
    .obtain ⟨_,o,q,_⟩:=I.ok.funs.mem z
     have:=I.base.free a o q (I.ok.frf a z) (λy=>I.ok.exfs a y z);rw [e] at this;cases this
   .have q:=I.pin p (x1y _ m)
    exact ⟨q.1,nn q.2.1,q.2.2⟩
 .obtain ⟨nb,q⟩:=but_inv q
  exact (I.hok b u q).stay (λ_ _ _ z=>z) (λc z=>yn z (ne z (λy=>by cases y))) (λc ys z=>yn z (ne z (λy=>by cases y)))
end
def kV_rel {P:tV} {w:World} {k:Key} {u:Vl} (h:(yf P w).is k u=true):RelV (kV k) u:=by
 rcases yo h with ⟨i,t,rfl,rfl⟩ | ⟨x,t,rfl,rfl⟩
 .exact ⟨t,U⟩
 .exact ⟨t,U⟩
section
variable {tg:Expr}
end
section
variable {tg:Expr}
end
theorem zan:∀ {xs:Jn} {us:Jd},xs.length=us.length->(∀ (i:Nat) x v,xs[i]?=Z x->us[i]?=Z v->RelV x v)->Vals xs us
 | [],[],_,_=>.nil
 | x::xs,u::us,hl,h=>.cons (h 0 x u rfl rfl) (zan (wm hl) λi a b ea eb=>h (i+1) a b ea eb)
def zgr (hc:X.calm=true):ZY X (.type "list") (λxs H Q=>∃ (p:Ad) (sr:Jl),xs=[.ref p]/\H p=Z (.dK sr)/\sr.length<=sL/\∀ D,H D=Y->Q (.ref D) (upd H D (.lst (sr.map λq=>kV q.1)))):=by
 intro sq s σ H xs us Q I r h;obtain ⟨d,sr,rfl,hd,hl,q⟩:=h;obtain ⟨u,rfl,ru⟩:=XV r;cases ru;obtain ⟨ob,es,ep,vs,rk,cc,eob,hS,hz,_⟩:=I.hideD hd;have lk:sr.length=vs.length:=rk.length;have DA:Heap.DictAt (yf X.prog X.w) s.heap d vs ep:=⟨ob,es,eob,cc⟩;refine PySem.W.kdl_call (PySem.W.kdl_dict (knd:=yf X.prog X.w) (kvs:=vs) (ep:=ep) hS) (I.ok.hd hc) DA (by omega) λh' tk acc c' hk hD ha=>?_;refine ⟨.ref s.heap.objs.size,_,I.laid (t':=tk) hk (sK _) (show ObjOk X.prog X.w _ h' _ (.lst (sr.map λq=>kV q.1)) from ⟨by rw [Ji];exact hl,acc.toList,c',?_,by simpa using hD⟩),U,q _ (I.hok.fresh (sK _))⟩;refine zan (by rw [Ji];exact lk.trans (ha.1.symm.trans Array.length_toList.symm)) λi x v hx hv=>?_;obtain ⟨k,y,e1,e2⟩:=ha.2 i v (by rw [← Array.getElem?_toList];exact hv);have e3:(sr.map (·.1))[i]?=Z k:=by rw [rk.keys,sN,e1];rfl
 rw [sN] at e3 hx
 cases e4:sr[i]? with
 | none=>rw [e4] at hx;cases hx
 | some p =>
  rw [e4] at e3 hx;cases hx;have e3:p.1=k:=uq e3;show RelV (kV p.1) v;rw [e3];exact kV_rel e2
end L2
set_option exponentiation.threshold 3000
namespace L2
open PySem PySem.Spec PyProof.Rows
def numS (n:Int):Str:=Str.ofString (toString n)
def yI:ZY X (.type "str") (λxs H Q=>∃ n:Int,xs=[.int n]/\-(2 ^ 200)<n/\n<2 ^ 200/\Q (.str (numS n)) H):=by
 intro sq s σ H xs us Q I rs h;obtain ⟨n,rfl,h1,h2,q⟩:=h
 obtain ⟨u,rfl⟩:∃ u,us=[wC n u]:=by
  cases rs with
  | cons r1 r2=>cases r2;obtain ⟨u,rfl⟩:=r1;exact ⟨u,U⟩
 exact PySem.P.str_of_int (shown (N:=2 ^ 200) h1 h2 (by decide)) ⟨.str _,H,I.tok _,⟨_,U⟩,q⟩
def ze0 (m:Nat):lt' (numS (m:Int))=(uf 10 m).map uU:=PySem.W.KIN.signs_num m
def zez (m:Nat):lt' (numS (-((m+1:Nat):Int)))=45::(uf 10 (m+1)).map uU:=by
 show (PySem.Str.ofString (toString (Int.negSucc m))).cps.toList=_;rw [signs_ofString];show ("-"++Nat.repr (m+1)).toList.map uU=_;rw [String.toList_append,Jk,Nat.toList_repr];rfl
end L2
namespace ST
open PySem L2 FM
inductive Stp
 | one (L:StepD)
 | till (t most:Int) (ss:List Stp)
end ST
namespace K23
open PySem L2 FM
abbrev rq (a:Ad):Jo:=Z (.ref a)
abbrev iq (n:Int):Jo:=Z (.int n)
def top (i:Nat):Stmt:=PySem.Challenge.pw_rowbreadth_k23_steps_read.main.body.getD i (.Pass ⟨0,0,0,0⟩)
abbrev zdb:Stmt:=top 16
def sc_kept:FnScope ["number"] ["number"] (zf zdb):=scK
abbrev YF:Stmt:=top 35
def sc_is_sign:FnScope Uj Uj (zf YF):=scK
abbrev zdc:Stmt:=top 36
def sc_free:FnScope ["fold"] ["fold"] (zf zdc):=scK
abbrev YH:Stmt:=top 37
def sc_is_fold:FnScope Uj Uj (zf YH):=scK
abbrev Z3:Stmt:=top 55
def sc_words_of:FnScope ["line","apart","word"] ["line"] (zf Z3):=scK
abbrev Zr:Stmt:=top 56
def sc_is_made_of:FnScope ["word","signs","sign"] ["word","signs"] (zf Zr):=scK
abbrev YG:Stmt:=top 57
def sc_is_name:FnScope Uj Uj (zf YG):=scK
abbrev Zs:Stmt:=top 58
def sc_figures_of:FnScope Uj Uj (zf Zs):=scK
abbrev yk:Stmt:=top 59
def sc_is_written_as_number:FnScope ["word","figures"] Uj (zf yk):=scK
abbrev ZJ:Stmt:=top 60
def sc_number_in:FnScope ["word","number"] Uj (zf ZJ):=scK
abbrev ZE:Stmt:=top 65
def zc1:FnScope Ul Ul (zf ZE):=scK
abbrev xj:Stmt:=top 66
def XH:FnScope Ua Ua (zf xj):=scK
abbrev ZG:Stmt:=top 67
def sc_read_name:FnScope ["reading","word"] Ua (zf ZG):=scK
abbrev xS:Stmt:=top 68
def sc_read_number:FnScope ["reading","least","most","number"] UA (zf xS):=scK
abbrev Z4:Stmt:=top 69
def sc_read_row:FnScope Ug Ua (zf Z4):=scK
abbrev xv:Stmt:=top 70
def sc_read_forms:FnScope ["reading","many","forms"] UO (zf xv):=scK
abbrev ZZ:Stmt:=top 71
def sc_read_at:FnScope ["reading","row"] Ua (zf ZZ):=scK
abbrev xu:Stmt:=top 72
def sc_read_shifted:FnScope ["reading","row","by"] Ua (zf xu):=scK
abbrev Zg:Stmt:=top 73
def sc_read_pair:FnScope ["reading","sign","forms"] UX (zf Zg):=scK
abbrev xa:Stmt:=top 74
def sc_read_choice:FnScope ["reading","forms"] Ua (zf xa):=scK
abbrev Zi:Stmt:=top 75
def sc_read_call:FnScope ["reading","name","head"] Ug (zf Zi):=scK
abbrev ya:Stmt:=top 76
def sc_read_behind_bracket:FnScope ["reading","word"] Ua (zf ya):=scK
abbrev yQ:Stmt:=top 77
def sc_read_bracket:FnScope ["reading","form"] Ua (zf yQ):=scK
abbrev Zq:Stmt:=top 78
def sc_named_form:FnScope Ug Ug (zf Zq):=scK
abbrev Zh:Stmt:=top 79
def sc_read_form:FnScope ["reading","word","number"] Ua (zf Zh):=scK
abbrev Z5:Stmt:=top 89
def zeh:FnScope UP UP (zf Z5):=scK
abbrev xw:Stmt:=top 90
def sc_forms_within:FnScope ["form","found","at"] UP (zf xw):=scK
abbrev Zj:Stmt:=top 91
def sc_body_size:FnScope Uh Uh (zf Zj):=scK
abbrev Zf:Stmt:=top 92
def sc_size_with:FnScope ["form","functions","known","size","part"] Ud (zf Zf):=scK
abbrev Yz:Stmt:=top 93
def sc_size_of:FnScope Ut Ut (zf Yz):=scK
abbrev xz:Stmt:=top 94
def sc_body_depth:FnScope Uh Uh (zf xz):=scK
abbrev xy:Stmt:=top 95
def sc_depth_with:FnScope ["form","functions","known","deepest","waiting","pair","part","depth","inner"] Ud (zf xy):=scK
abbrev Z8:Stmt:=top 96
def sc_depth_of:FnScope Ut Ut (zf Z8):=scK
abbrev Z7:Stmt:=top 97
def sc_forms_of:FnScope ["step","forms"] ["step"] (zf Z7):=scK
abbrev yX:Stmt:=top 98
def sc_is_uneven_form:FnScope ["form","lengths","many","part"] UI (zf yX):=scK
abbrev Xl:Stmt:=top 99
def sc_uneven:FnScope ["step","lengths","many","form"] ["step","lengths"] (zf Xl):=scK
abbrev ZK:Stmt:=top 100
def zc2:FnScope ["step","part"] ["step","part"] (zf ZK):=scK
abbrev yM:Stmt:=top 101
def sc_is_crossed_form:FnScope ["step","form","part"] ["step","form"] (zf yM):=scK
abbrev YI:Stmt:=top 102
def sc_crossed:FnScope ["step","form"] ["step"] (zf YI):=scK
abbrev yw:Stmt:=top 115
def sc_refuse_within_till:FnScope Uc Uc (zf yw):=scK
abbrev xt:Stmt:=top 116
def sc_refuse_taken:FnScope Ug Ug (zf xt):=scK
abbrev xi:Stmt:=top 117
def sc_read_new_name:FnScope Ug Ua (zf xi):=scK
abbrev xg:Stmt:=top 118
def sc_read_row_line:FnScope ["draft","reading","name","length"] Uc (zf xg):=scK
abbrev xZ:Stmt:=top 120
def sc_check_forms:FnScope ["draft","line","forms","form"] UU (zf xZ):=scK
abbrev ZF:Stmt:=top 122
def sc_read_test:FnScope ["reading","test"] Ua (zf ZF):=scK
abbrev ZI:Stmt:=top 123
def sc_read_fold:FnScope ["reading","word"] Ua (zf ZI):=scK
abbrev ZH:Stmt:=top 124
def sc_read_many:FnScope Ua Ua (zf ZH):=scK
abbrev yr:Stmt:=top 125
def sc_refuse_further_step:FnScope UV UV (zf yr):=scK
abbrev ZD:Stmt:=top 126
def sc_take_step:FnScope Uz Uz (zf ZD):=scK
abbrev xk:Stmt:=top 127
def sc_read_let_line:FnScope ["draft","reading","target","value","test"] Uc (zf xk):=scK
abbrev xh:Stmt:=top 128
def sc_read_put_line:FnScope ["draft","reading","value","place","target","many","test"] Uc (zf xh):=scK
abbrev yW:Stmt:=top 129
def sc_read_fold_line:FnScope ["draft","reading","fold","value","target","many","test"] Uc (zf yW):=scK
abbrev xf:Stmt:=top 130
def sc_read_run_line:FnScope ["draft","reading","fold","value","target","test"] Uc (zf xf):=scK
abbrev yV:Stmt:=top 131
def sc_read_till_line:FnScope ["draft","reading","target","most"] Uc (zf yV):=scK
abbrev xn:Stmt:=top 132
def sc_read_end_line:FnScope ["draft","reading","till","steps"] Uc (zf xn):=scK
abbrev Zp:Stmt:=top 134
def sc_read_words:FnScope ["draft","reading","word"] Uc (zf Zp):=scK
abbrev zc9:Stmt:=top 135
def sc_read:FnScope ["text","draft","lines","number","line","words","program"] ["text"] (zf zc9):=scK
abbrev YB:Stmt:=top 137
def sc_l_mixed:FnScope ["_law_cell","_law_k","_law_mixed_here"] Uu (zf YB):=scK
abbrev YA:Stmt:=top 138
def zfs:FnScope ["_law_found"] ["_law_found"] (zf YA):=scK
abbrev zda:Stmt:=top 139
def sc_l_is:FnScope Ub Ub (zf zda):=scK
abbrev xT:Stmt:=top 140
def sc_l_number_by:FnScope ["_law_cell","_law_how","_law_edges"] UR (zf xT):=scK
abbrev xX:Stmt:=top 141
def sc_l_kept_word:FnScope ["_law_word","_law_some"] ["_law_word"] (zf xX):=scK
abbrev xU:Stmt:=top 142
def sc_l_near_kept:FnScope ["_law_cell","_law_some","_law_word"] UR (zf xU):=scK
abbrev ZO:Stmt:=top 143
def sc_l_name_by:FnScope ["_law_cell","_law_others","_law_some","_law_size","_law_mixed_here","_law_name","_law_k","_law_base","_law_at"] UQ (zf ZO):=scK
abbrev Z6:Stmt:=top 144
def sc_l_spaced:FnScope ["_law_words","_law_cell","_law_mixed_here","_law_line","_law_ahead","_law_word","_law_gap"] US (zf Z6):=scK
abbrev ZP:Stmt:=top 145
def sc_l_leaf_by:FnScope ["_law_cell","_law_known","_law_how","_law_rest","_law_mixed_here","_law_at","_law_row","_law_by","_law_other","_law_words","_law_number"] Ur (zf ZP):=scK
abbrev xW:Stmt:=top 146
def sc_l_like_leaf:FnScope Ue Ue (zf xW):=scK
abbrev Yi:Stmt:=top 147
def sc_l_like:FnScope ["_law_form","_law_due","_law_k"] Ue (zf Yi):=scK
abbrev ZN:Stmt:=top 148
def sc_l_numbers:FnScope ["_law_found","_law_due","_law_k"] Ub (zf ZN):=scK
abbrev ZQ:Stmt:=top 150
def sc_l_head_by:FnScope ["_law_cell","_law_known","_law_lengths","_law_kind","_law_rest","_law_mixed_here","_law_target","_law_ones","_law_k","_law_many","_law_narrow","_law_near","_law_folds"] Ur (zf ZQ):=scK
abbrev ZL:Stmt:=top 151
def sc_l_step_by:FnScope ["_law_head","_law_parts","_law_tested","_law_known","_law_kind","_law_target","_law_many","_law_fold_here","_law_name","_law_value","_law_test","_law_behind","_law_words"] Uq (zf ZL):=scK
abbrev xV:Stmt:=top 152
def sc_l_like_test:FnScope Ub Ub (zf xV):=scK
abbrev Xm:Stmt:=top 153
def sc_l_fold:FnScope Ub Ub (zf Xm):=scK
abbrev xb:Stmt:=top 154
def sc_l_like_step:FnScope UJ UJ (zf xb):=scK
abbrev yR:Stmt:=top 155
def sc_l_like_steps:FnScope ["_law_steps","_law_due","_law_k"] UD (zf yR):=scK
abbrev YC:Stmt:=top 156
def sc_l_lined:FnScope Ui Ui (zf YC):=scK
abbrev ZM:Stmt:=top 157
def sc_l_rows_by:FnScope ["_law_script","_law_known","_law_first","_law_told","_law_some","_law_k","_law_mixed_here","_law_name"] UY (zf ZM):=scK
abbrev xY:Stmt:=top 158
def sc_l_kept_step:FnScope Uk Uk (zf xY):=scK
abbrev YE:Stmt:=top 159
def sc_l_added:FnScope ["_law_known","_law_tills","_law_cell","_law_rest","_law_target","_law_most","_law_head","_law_parts","_law_k","_law_words","_law_due"] Uf (zf YE):=scK
abbrev YD:Stmt:=top 160
def sc_l_ended:FnScope ["_law_known","_law_tills","_law_cell","_law_target","_law_most","_law_steps"] Uf (zf YD):=scK
abbrev za1:Stmt:=top 161
def sc_law:FnScope ["_law_script","_law_known","_law_tills","_law_cell","_law_told"] UY (zf za1):=scK
abbrev x6:Stmt:=z5 (top 40) 0
def zay:FnScope UT UT (zf x6):=scK
abbrev ZT:Stmt:=z5 (top 42) 0
def zc6:FnScope ["self","row"] ["self","row"] (zf ZT):=scK
abbrev xA:Stmt:=z5 (top 43) 0
def X8:FnScope UK UK (zf xA):=scK
abbrev Zt:Stmt:=z5 (top 44) 0
def zbv:FnScope ["self","at"] ["self","at"] (zf Zt):=scK
abbrev YJ:Stmt:=z5 (top 45) 0
def zft:FnScope UL UL (zf YJ):=scK
abbrev ZS:Stmt:=z5 (top 46) 0
def zc4:FnScope UB UB (zf ZS):=scK
abbrev x9:Stmt:=z5 (top 47) 0
def za0:FnScope UC UC (zf x9):=scK
abbrev ZU:Stmt:=z5 (top 48) 0
def zc7:FnScope UM UM (zf ZU):=scK
abbrev xB:Stmt:=z5 (top 64) 0
def zaa:FnScope Ux Ux (zf xB):=scK
abbrev yG:Stmt:=z5 (top 64) 1
def YR:FnScope Uw Uw (zf yG):=scK
abbrev yA:Stmt:=z5 (top 64) 2
def Yh:FnScope Uw Uw (zf yA):=scK
abbrev xO:Stmt:=z5 (top 82) 0
def zej:FnScope UG UG (zf xO):=scK
abbrev x8:Stmt:=z5 (top 82) 1
def zaz:FnScope Up Up (zf x8):=scK
abbrev xN:Stmt:=z5 (top 83) 0
def zei:FnScope Um Um (zf xN):=scK
abbrev x5:Stmt:=z5 (top 83) 1
def zax:FnScope Up Up (zf x5):=scK
abbrev xr:Stmt:=z5 (top 84) 0
def zc5:FnScope Uo Uo (zf xr):=scK
abbrev xD:Stmt:=z5 (top 84) 1
def zac:FnScope Up Up (zf xD):=scK
abbrev yC:Stmt:=z5 (top 85) 0
def X9:FnScope Uv Uv (zf yC):=scK
abbrev yN:Stmt:=z5 (top 85) 1
def Y7:FnScope Up Up (zf yN):=scK
abbrev ZR:Stmt:=z5 (top 86) 0
def zc3:FnScope UH UH (zf ZR):=scK
abbrev xC:Stmt:=z5 (top 87) 0
def zab:FnScope Uy Uy (zf xC):=scK
abbrev x4:Stmt:=z5 (top 113) 0
def zaw:FnScope UE UE (zf x4):=scK
abbrev Zu:Stmt:=z5 (top 114) 0
def zbw:FnScope Uw Uw (zf Zu):=scK
section
variable {K:Fg} {base:Heap}
structure Ints (K:Fg) (mg:J0):Prop where
 isi:mg "isinstance"=Y
 int:mg "int"=Y
 bool:mg "bool"=Y
 ii:sC K (.type "int") (.type "int")=Z true
 ib:sC K (.type "int") (.type "bool")=Z false
def ok_whole (d:zj K mg "_law_whole" YA ["_law_found"]) (N:Ints K mg):Ok P w K mg base (CXe P w base) 1 "_law_whole" ["_law_found"] (sp1 λ_=>.bl true):=by
 refine oDe (len:=len1) d zfs λf sA A _ s H vs Q E hr h=>?_;obtain ⟨n,rfl,k⟩:=h;refine ⟨_,ze (zm (yH (zh zA rfl N.isi sF (za (pv 0) (za (Y8 N.int PyProof.Rows.boot_int) zc)))
  (yD (pe_not (zh zA rfl N.isi sF (za (pv 0) (za (Y8 N.bool PyProof.Rows.boot_bool) zc))))))),?_⟩
 refine ⟨_,U,_,_,.type "int",.type "int",true,U,U,(λu r=>r),.inl (.int n),N.ii,true,U,?_⟩;exact zL ⟨_,U,_,_,.type "bool",.type "int",false,U,U,(λu r=>r),.inl (.int n),N.ib,false,U,k⟩
def YL {H H':Hp} {x dx:Ad} {o1 o2:HO} (nx:H x=Y) (ndx:H dx=Y) (k:∀ b o,b≠x->upd (upd H dx o1) x o2 b=Z o->H' b=Z o):Same H H':=λc o z=>k c o (zz z nx) (by rw [zt (zz z nx),zt (zz z ndx)];exact z)
def Y3 (C:Ad):Sp:=λvs H Q _=>∃ (x dx:Ad) (u0:V),vs=[.ref x,u0]/\H x=Z (.ins C dx [])/\∀ H',(∀ b o,b≠x->H b=Z o->H' b=Z o)->H' x=Z (.ins C dx [("number",u0)])->Q .non H'
def zge {C:Ad} (d:z7 K C "Number.__init__" x6 UT) (cl:Cls K C) (n0:NoAttr K C "number"):OkI P w K mg base (CXe P w base) 1 C UT (Y3 C):=by
 refine oIe d zay λf sA A _ s H vs Q E hr h=>?_;obtain ⟨x,dx,u0,rfl,hx,k⟩:=h;refine ⟨_,(ze (zF (pv 0) (pv 1) rfl)),?_⟩;refine ⟨_,U,_,U,x,C,dx,[],U,hx,cl,n0,(by show 0<1000;decide),?_⟩
 exact k _ (λb o nb z=>by
  rw [zt nb];exact z) zg
def zeg (C:Ad):Sp:=λvs H Q _=>∃ (x dx:Ad) (u0:V),vs=[.ref x,u0]/\H x=Z (.ins C dx [])/\∀ H',(∀ b o,b≠x->H b=Z o->H' b=Z o)->H' x=Z (.ins C dx [("row",u0)])->Q .non H'
def okI_Cell {C:Ad} (d:z7 K C "Cell.__init__" ZT ["self","row"]) (cl:Cls K C) (n0:NoAttr K C "row"):OkI P w K mg base (CXe P w base) 1 C ["self","row"] (zeg C):=by
 refine oIe d zc6 λf sA A _ s H vs Q E hr h=>?_;obtain ⟨x,dx,u0,rfl,hx,k⟩:=h;refine ⟨_,(ze (zF (pv 0) (pv 1) rfl)),?_⟩;refine ⟨_,U,_,U,x,C,dx,[],U,hx,cl,n0,(by show 0<1000;decide),?_⟩
 exact k _ (λb o nb z=>by
  rw [zt nb];exact z) zg
def XY (C:Ad):Sp:=λvs H Q _=>∃ (x dx:Ad) (u0 u1 u2:V),vs=[.ref x,u0,u1,u2]/\H x=Z (.ins C dx [])/\∀ H',(∀ b o,b≠x->H b=Z o->H' b=Z o)->H' x=Z (.ins C dx [("row",u0),("by",u1),("other",u2)])->Q .non H'
def zey {C:Ad} (d:z7 K C "Shifted.__init__" xA UK) (cl:Cls K C) (n0:NoAttr K C "row") (n1:NoAttr K C "by") (n2:NoAttr K C "other"):OkI P w K mg base (CXe P w base) 1 C UK (XY C):=by
 refine oIe d X8 λf sA A _ s H vs Q E hr h=>?_;obtain ⟨x,dx,u0,u1,u2,rfl,hx,k⟩:=h;refine ⟨_,(zb (zF (pv 0) (pv 1) rfl) (zb (zF (pv 0) (pv 2) rfl) (ze (zF (pv 0) (pv 3) rfl)))),?_⟩;refine ⟨_,U,_,U,x,C,dx,[],U,hx,cl,n0,(by show 0<1000;decide),?_⟩;refine ⟨_,U,_,U,x,C,dx,[("row",u0)],U,zg,cl,n1,(by show 1<1000;decide),?_⟩;refine ⟨_,U,_,U,x,C,dx,[("row",u0),("by",u1)],U,zg,cl,n2,(by show 2<1000;decide),?_⟩
 exact k _ (λb o nb z=>by
  rw [zt nb,zt nb,zt nb];exact z) zg
def zb7 (C:Ad):Sp:=λvs H Q _=>∃ (x dx:Ad) (u0:V),vs=[.ref x,u0]/\H x=Z (.ins C dx [])/\∀ H',(∀ b o,b≠x->H b=Z o->H' b=Z o)->H' x=Z (.ins C dx [("at",u0)])->Q .non H'
def okI_Local {C:Ad} (d:z7 K C "Local.__init__" Zt ["self","at"]) (cl:Cls K C) (n0:NoAttr K C "at"):OkI P w K mg base (CXe P w base) 1 C ["self","at"] (zb7 C):=by
 refine oIe d zbv λf sA A _ s H vs Q E hr h=>?_;obtain ⟨x,dx,u0,rfl,hx,k⟩:=h;refine ⟨_,(ze (zF (pv 0) (pv 1) rfl)),?_⟩;refine ⟨_,U,_,U,x,C,dx,[],U,hx,cl,n0,(by show 0<1000;decide),?_⟩
 exact k _ (λb o nb z=>by
  rw [zt nb];exact z) zg
def spI_At (C:Ad):Sp:=λvs H Q _=>∃ (x dx:Ad) (u0 u1:V),vs=[.ref x,u0,u1]/\H x=Z (.ins C dx [])/\∀ H',(∀ b o,b≠x->H b=Z o->H' b=Z o)->H' x=Z (.ins C dx [("row",u0),("place",u1)])->Q .non H'
def okI_At {C:Ad} (d:z7 K C "At.__init__" YJ UL) (cl:Cls K C) (n0:NoAttr K C "row") (n1:NoAttr K C "place"):OkI P w K mg base (CXe P w base) 1 C UL (spI_At C):=by
 refine oIe d zft λf sA A _ s H vs Q E hr h=>?_;obtain ⟨x,dx,u0,u1,rfl,hx,k⟩:=h;refine ⟨_,(zb (zF (pv 0) (pv 1) rfl) (ze (zF (pv 0) (pv 2) rfl))),?_⟩;refine ⟨_,U,_,U,x,C,dx,[],U,hx,cl,n0,(by show 0<1000;decide),?_⟩;refine ⟨_,U,_,U,x,C,dx,[("row",u0)],U,zg,cl,n1,(by show 1<1000;decide),?_⟩
 exact k _ (λb o nb z=>by
  rw [zt nb,zt nb];exact z) zg
def zas (C:Ad):Sp:=λvs H Q _=>∃ (x dx:Ad) (u0 u1 u2:V),vs=[.ref x,u0,u1,u2]/\H x=Z (.ins C dx [])/\∀ H',(∀ b o,b≠x->H b=Z o->H' b=Z o)->H' x=Z (.ins C dx [("sign",u0),("left",u1),("right",u2)])->Q .non H'
def okI_Pair {C:Ad} (d:z7 K C "Pair.__init__" ZS UB) (cl:Cls K C) (n0:NoAttr K C "sign") (n1:NoAttr K C "left") (n2:NoAttr K C "right"):OkI P w K mg base (CXe P w base) 1 C UB (zas C):=by
 refine oIe d zc4 λf sA A _ s H vs Q E hr h=>?_;obtain ⟨x,dx,u0,u1,u2,rfl,hx,k⟩:=h;refine ⟨_,(zb (zF (pv 0) (pv 1) rfl) (zb (zF (pv 0) (pv 2) rfl) (ze (zF (pv 0) (pv 3) rfl)))),?_⟩;refine ⟨_,U,_,U,x,C,dx,[],U,hx,cl,n0,(by show 0<1000;decide),?_⟩;refine ⟨_,U,_,U,x,C,dx,[("sign",u0)],U,zg,cl,n1,(by show 1<1000;decide),?_⟩;refine ⟨_,U,_,U,x,C,dx,[("sign",u0),("left",u1)],U,zg,cl,n2,(by show 2<1000;decide),?_⟩
 exact k _ (λb o nb z=>by
  rw [zt nb,zt nb,zt nb];exact z) zg
def Y4 (C:Ad):Sp:=λvs H Q _=>∃ (x dx:Ad) (u0 u1 u2:V),vs=[.ref x,u0,u1,u2]/\H x=Z (.ins C dx [])/\∀ H',(∀ b o,b≠x->H b=Z o->H' b=Z o)->H' x=Z (.ins C dx [("test",u0),("left",u1),("right",u2)])->Q .non H'
def zgf {C:Ad} (d:z7 K C "Choice.__init__" x9 UC) (cl:Cls K C) (n0:NoAttr K C "test") (n1:NoAttr K C "left") (n2:NoAttr K C "right"):OkI P w K mg base (CXe P w base) 1 C UC (Y4 C):=by
 refine oIe d za0 λf sA A _ s H vs Q E hr h=>?_;obtain ⟨x,dx,u0,u1,u2,rfl,hx,k⟩:=h;refine ⟨_,(zb (zF (pv 0) (pv 1) rfl) (zb (zF (pv 0) (pv 2) rfl) (ze (zF (pv 0) (pv 3) rfl)))),?_⟩;refine ⟨_,U,_,U,x,C,dx,[],U,hx,cl,n0,(by show 0<1000;decide),?_⟩;refine ⟨_,U,_,U,x,C,dx,[("test",u0)],U,zg,cl,n1,(by show 1<1000;decide),?_⟩;refine ⟨_,U,_,U,x,C,dx,[("test",u0),("left",u1)],U,zg,cl,n2,(by show 2<1000;decide),?_⟩
 exact k _ (λb o nb z=>by
  rw [zt nb,zt nb,zt nb];exact z) zg
def zar (C:Ad):Sp:=λvs H Q _=>∃ (x dx:Ad) (u0 u1 u2:V),vs=[.ref x,u0,u1,u2]/\H x=Z (.ins C dx [])/\∀ H',(∀ b o,b≠x->H b=Z o->H' b=Z o)->H' x=Z (.ins C dx [("program",u0),("names",u1),("lines",u2)])->Q .non H'
def zgd {C:Ad} (d:z7 K C "Source.__init__" x4 UE) (cl:Cls K C) (n0:NoAttr K C "program") (n1:NoAttr K C "names") (n2:NoAttr K C "lines"):OkI P w K mg base (CXe P w base) 1 C UE (zar C):=by
 refine oIe d zaw λf sA A _ s H vs Q E hr h=>?_;obtain ⟨x,dx,u0,u1,u2,rfl,hx,k⟩:=h;refine ⟨_,(zb (zF (pv 0) (pv 1) rfl) (zb (zF (pv 0) (pv 2) rfl) (ze (zF (pv 0) (pv 3) rfl)))),?_⟩;refine ⟨_,U,_,U,x,C,dx,[],U,hx,cl,n0,(by show 0<1000;decide),?_⟩;refine ⟨_,U,_,U,x,C,dx,[("program",u0)],U,zg,cl,n1,(by show 1<1000;decide),?_⟩;refine ⟨_,U,_,U,x,C,dx,[("program",u0),("names",u1)],U,zg,cl,n2,(by show 2<1000;decide),?_⟩
 exact k _ (λb o nb z=>by
  rw [zt nb,zt nb,zt nb];exact z) zg
def zat (K:Fg) (C:Ad):Sp:=λvs H Q _=>∃ (x dx h:Ad) (u0:V) (xs:Jn),vs=[.ref x,u0,.ref h]/\H x=Z (.ins C dx [])/\SqL K H h xs/\∀ H' l,H l=Y->(∀ b o,b≠x->H b=Z o->H' b=Z o)->H' l=Z (.lst xs)->H' x=Z (.ins C dx [("at",u0),("handed",.ref l)])->Q .non H'
def okI_Call {C:Ad} (d:z7 K C "Call.__init__" ZU UM) (hlist:mg "list"=Y) (cl:Cls K C) (n0:NoAttr K C "at") (n1:NoAttr K C "handed"):OkI P w K mg base (CXe P w base) 1 C UM (zat K C):=by
 refine oIe d zc7 λf sA A _ s H vs Q E hr h=>?_;obtain ⟨x,dx,h,u0,xs,rfl,hx,hh,k⟩:=h;refine ⟨_,(zb (zF (pv 0) (pv 1) rfl) (ze (zF (pv 0) (z8 yZ (by rfl) hlist tZ (za (pv 2) zc)) rfl))),?_⟩;refine ⟨_,U,_,U,x,C,dx,[],U,hx,cl,n0,(by show 0<1000;decide),?_⟩
 have h2:SqL K (upd H x (.ins C dx [("at",u0)])) h xs:=by
  rcases hh with (z | ⟨o,z⟩) | z
  .exact .inl (.inl (by rw [zt (λe=>by subst e;rw [hx] at z;cases z)];exact z))
  .exact .inl (.inr ⟨o,by rw [zt (λe=>by subst e;rw [hx] at z;cases z)];exact z⟩)
  .exact .inr z
 refine ⟨_,U,h,_,U,.inl h2,λl nl=>?_⟩;have nx:l≠x:=λe=>by subst e;rw [zg] at nl;cases nl
 refine ⟨_,U,x,C,dx,[("at",u0)],U,(by rw [zt (vQ nx)];exact zg),cl,n1,(by show 1<1000;decide),?_⟩;refine k _ l (by rw [zt nx] at nl;exact nl) (λb o nb z=>?_) (by rw [zt nx];exact zg) zg;rw [zt nb];have nl':b≠l:=λe=>by subst e;rw [zt nb] at nl;rw [nl] at z;cases z
 rw [zt nl',zt nb];exact z
end
end K23
namespace K23
open PySem L2
def pe_gstr {X:Cx} {x z:Str} {t:Tok} {pos:Pos} (hm:X.mg x=Z (.str z t)) (hg:Gl X x:=by rfl) (hd:(x == ("__debug__":Str))=false:=by decide):PE X (.Name x pos) (tC (.str z)):=zdf hg hm (v:=.str z) ⟨_,U⟩ hd
def zdz {α:Type} {f:α->V} {l:List α} {i:Nat} {x:V} (h:(l.map f)[i]?=Z x):∃ a,l[i]?=Z a/\x=f a:=by
 rw [sN] at h;obtain ⟨a,e,r⟩:=uV.mp h;exact ⟨a,e,r.symm⟩
theorem XA (w:Str):∀ l:Jf,inV (.str w) (l.map V.str)=decide (w∈l)
 | []=>by simp [inV]
 | x::l=>by
  have ih:=XA w l;unfold inV at ih ⊢;rw [tz,vh,ih,vL];simp only [eqV,Bool.or_eq_true,decide_eq_true_eq,sM];constructor
  .rintro (h | h)
   .exact .inl (by have h:=h;simp at h;exact h.symm)
   .exact .inr h
  .rintro (h | h)
   .exact .inl (decide_eq_true (by rw [h]))
   .exact .inr h
def hasS (y:Str) (c:Nat):Bool:=!(uw y ⟨#[c]⟩ 0 y.length 1).isEmpty
def Ys (z y:Str):Bool:=z.cps.toList.all (hasS y)
def letS:Str:="abcdefghijklmnopqrstuvwxyz"
def figS:Str:="0123456789"
def keptWs:Jf:=["row","def","let","put","fold","run","till","end","at","in","of","into","where","most","here","shift","if","rest","least","sum","product","both","either","odd","chain","capped"]
def Z1 (z:Str):Bool:=decide (1<=z.length) && decide (z.length<=12) && (Ys z letS && decide (z ∉ keptWs))
def yL (z:Str):Str:=if vz z "-"=true then uB z (Z 1) Y else z
def isWr (z:Str):Bool:=(decide (1<=(yL z).length) && decide ((yL z).length<=19) && Ys (yL z) figS) && (decide (z="0") || !Txt.startswith (yL z) "0")
section
variable {K:Fg} {base:Heap}
inductive spMO (vs:Jn) (H:Hp) (Q:VK) (_:XK):Prop
 | mk (z y:Str) (_:vs=[.str z,.str y]) (_:z.length<=100000) (_:∀ H',Same H H'->Q (.bl (Ys z y)) H')
def zf2 (d:zj K mg "is_made_of" Zr ["word","signs"]) (hall:mg "all"=Y):Ok P w K mg base CX0 1 "is_made_of" ["word","signs"] spMO:=by
 refine oDf d sc_is_made_of λg sA A _ s H vs Q E hr h=>?_;obtain ⟨z,y,rfl,hz,q⟩:=h;have nd:=sc_is_made_of.nd;have SL:(100000:Nat)<sizeLine:=by decide
 refine ⟨_,(ze (zm (zh (call_all rfl) (by rfl) hall PyProof.Rows.boot_all (za (Z0 ["sign","signs"] [Y,Z 1] rfl rfl rfl (pi_str (pv 0)) (λs3 H3 fp=>⟨zR (i:=0) (Jp ["sign","signs"]) rfl (vG rfl),(ym op_in_str (pv 0) (pv 1) rfl)⟩)) zc)))),?_⟩;dsimp only [Zl,Cx.nox,Cx.wish];refine ⟨_,U,z,U,_,U,λD nD=>?_⟩;refine comp_v (D:=D) (xs:=sgs z) (λi σ J=>∃ u,σ=[u,Z (.str y)]/\Hd H [(D,.lst (((z.cps.toList.take i).map (hasS y)).map V.bl))] J) ⟨Y,U,Hd.base.new nD⟩ ?_ ?_
 .rintro i x σ J hi ⟨u,rfl,h⟩
  obtain ⟨c,ec,rfl⟩:=zdz hi;have il:=(tu.mp ec).1;have zl:z.cps.toList.length=z.length:=by simp [w8]
  refine ⟨_,U,_,U,_,_,U,U,_,h.get 0 rfl,by rw [Ji,Ji,ut];omega,_,U,?_⟩;rw [uF,ec,Jk,Jk];exact h.put 0 rfl
 rintro σ J ⟨u,rfl,h⟩;unfold sgs at h;rw [Ji,uD] at h;refine ⟨D,z.cps.toList.map (hasS y),U,h.lst 0 rfl,?_⟩;have e:(z.cps.toList.map (hasS y)).all id=Ys z y:=by rw [List.all_map];rfl
 rw [e];exact q _ h.sm
def spFO:Sp:=λvs H Q _=>∃ z:Str,vs=[.str z]/\z.length<=100000/\Q (.str (yL z)) H
def ok_figs (d:zj K mg "figures_of" Zs Uj):Ok P w K mg base CX0 1 "figures_of" Uj spFO:=by
 refine oDf d sc_figures_of λg sA A _ s H vs Q E hr h=>?_;obtain ⟨z,rfl,hz,q⟩:=h;have nd:=sc_figures_of.nd;have SL:(100000:Nat)<sizeLine:=by decide
 refine ⟨_,(zb (zB (zG (yz uz PySem.F.slot_str_startswith PySem.F.type_str_startswith zcb (pv 0) (za zn zc))) (ze (zm (xF Y6 (pv 0) (Zv zd) Zw))) zk)
   (ze (zm (pv 0)))),?_⟩
 dsimp only [Zl,Cx.nox,Cx.wish];unfold yL at q;refine ⟨_,U,U,_,_,U,U,_,U,?_⟩;by_cases hs:vz z "-"=true
 .rw [if_pos hs] at q
  rw [hs];exact zL ⟨_,U,_,U,_,U,by omega,q⟩
 .rw [if_neg hs] at q
  rw [vc.mpr hs];exact zy ⟨_,U,q⟩
def spNm:Sp:=λvs H Q _=>∃ z:Str,vs=[.str z]/\z.length<=100000/\∀ H',Same H H'->Q (.bl (Z1 z)) H'
def zf6 {kw:Ad} {t1 t2:Tok} (d:zj K mg "is_name" YG Uj) (hlen:mg "len"=Y) (hLE:mg "LETTERS"=Z (.str letS t1)) (hLN:mg "LONGEST_NAME"=Z (.int 12 t2)) (hKW:mg "KEPT_WORDS"=Z (.ref kw)) (hkw:∀ H,SqT K H kw (keptWs.map V.str)) (MO:Ok P w K mg base CX0 1 "is_made_of" ["word","signs"] spMO):Ok P w K mg base CX0 2 "is_name" Uj spNm:=by
 refine oDf d sc_is_name λg sA A _ s H vs Q E hr h=>?_;obtain ⟨z,rfl,hz,q⟩:=h;have nd:=sc_is_name.nd;have hr1:Room 1 _:=hr;have SL:(100000:Nat)<sizeLine:=by decide
 refine ⟨_,(ze (zm (yH (pe_chain zb9 zb9 zd (zh xK (by rfl) hlen sU (za (pv 0) zc)) (yt hLN)) (yH (zo MO hr1 (by rfl) zv (za (pv 0) (za (pe_gstr hLE) zc))) (yD (ym Xr (pv 0) (zK hKW) rfl)))))),?_⟩;dsimp only [Zl,Cx.nox,Cx.wish];unfold Z1 at q;refine ⟨_,U,_,U,by omega,_,_,U,U,_,U,?_⟩;by_cases h1:1<=z.length
 .rw [decide_eq_true (show (1:Int)<=(z.length:Nat) by omega)]
  rw [decide_eq_true h1] at q;refine zL ⟨_,_,U,U,_,U,?_⟩;by_cases h2:z.length<=12
  .rw [decide_eq_true (show ((z.length:Nat):Int)<=12 by omega)]
   rw [decide_eq_true h2] at q;refine zL ⟨_,U,_,_,U,hz,λJ sJ=>⟨_,U,?_⟩⟩
   cases hm:Ys z letS with
   | false =>
    rw [hm] at q;exact zy (q J sJ)
   | true =>
    rw [hm] at q;refine zL ⟨_,U,kw,_,U,.inr (hkw J),U,?_,?_⟩
    .rw [List.all_map];exact uM.mpr λ_ _=>rfl
    .rw [XA,if_pos rfl]
     have:=q J sJ;rw [decide_not] at this;exact this
  .rw [decide_eq_false (show ¬ ((z.length:Nat):Int)<=12 by omega)]
   rw [decide_eq_false h2] at q;exact zy (q H (Same.refl _))
 .rw [decide_eq_false (show ¬ (1:Int)<=(z.length:Nat) by omega)]
  rw [decide_eq_false h1] at q;exact zy ⟨_,U,zy (q H (Same.refl _))⟩
end
end K23
namespace K23
open PySem L2 PySem.NumText
def XB (y:Str) (c:Nat):hasS y c=decide (c∈y.cps.toList):=StrLaws.found_one y c
def zcm:figS.cps.toList=[48,49,50,51,52,53,54,55,56,57]:=by decide +kernel
def made_figs {z:Str} (h:Ys z figS=true):AllDigits z.cps.toList:=λc m=>by
 have:=uM.mp h c m;rw [XB,zcm] at this;have:=of_decide_eq_true this;simp only [sM,tM,or_false] at this;omega
def ZB (z:Str) (c:Nat):vz z ⟨#[c]⟩=decide (z.cps.toList[0]?=Z c):=by
 obtain ⟨⟨l⟩⟩:=z
 cases l with
 | nil=>rfl
 | cons a l =>
  unfold vz Builtin.Str.subAt;have e1:decide (0+(⟨#[c]⟩:Str).length<=(⟨⟨a::l⟩⟩:Str).length)=true:=decide_eq_true (by show 0+1<=(a::l).length;simp);have e2:(⟨a::l⟩:Array Nat).extract 0 (0+1)=#[a]:=by apply Array.ext';simp
  show (decide (0+(⟨#[c]⟩:Str).length<=(⟨⟨a::l⟩⟩:Str).length) && ((⟨a::l⟩:Array Nat).extract 0 (0+1) == #[c]))=decide ((a::l)[0]?=Z c);rw [e1,e2,wO,vL];simp
def zb8 {z:Str} (h:1<=z.cps.toList.length):(uB z (Z 1) Y).cps.toList=z.cps.toList.drop 1:=by
 have e:uB z (Z 1) Y=vi z (Z 1) Y:=rfl;rw [e,StrLaws.sliceText_from ⟨by decide,by omega⟩];show ((z.cps.toList.drop 1).take _).toArray.toList=_;rw [List.toList_toArray,vN (by rw [uS];omega)]
def wr_reads {z:Str} (h:isWr z=true):∃ n,intText? z=Z n/\z.length<=20:=by
 have zl:z.cps.toList.length=z.length:=by simp [w8]
 unfold isWr at h;simp only [uE,decide_eq_true_eq] at h;obtain ⟨⟨⟨h1,h2⟩,h3⟩,_⟩:=h;have ad:=made_figs h3;unfold yL at h1 h2 h3 ad;by_cases hs:vz z "-"=true
 .rw [if_pos hs] at h1 h2 ad
  have e:("-":Str)=⟨#[45]⟩:=by decide +kernel
  rw [e,ZB] at hs;have hs:=of_decide_eq_true hs
  obtain ⟨cs,ec⟩:∃ cs,z.cps.toList=45::cs:=by
   cases hz:z.cps.toList with
   | nil=>rw [hz] at hs;cases hs
   | cons a cs=>rw [hz] at hs;cases hs;exact ⟨cs,U⟩
  have es:(uB z (Z 1) Y).cps.toList=cs:=by rw [zb8 (by rw [ec];simp),ec];rfl
  have el:(uB z (Z 1) Y).length=cs.length:=by rw [← es];simp [w8]
  rw [es] at ad;rw [el] at h1 h2;have l20:z.length<=20:=by rw [← zl,ec,x2x];omega
  exact ⟨_,intText_neg ec ad (λz=>by rw [z] at h1;exact absurd h1 (by decide)) (by omega),l20⟩
 .rw [if_neg hs] at h1 h2 ad
  exact ⟨_,intText_digits ad (λz=>by rw [z] at zl;have:(0:Nat)=_:=zl;omega) (by omega),by omega⟩
def YX (z:Str):Option Int:=if isWr z=true then (match intText? z with | some n=>if FM.kept n=n then Z n else Y | none=>Y) else Y
def numV:Option Int->V
 | some n=>.int n
 | none=>.non
section
variable {K:Fg} {base:Heap}
inductive spWr (vs:Jn) (H:Hp) (Q:VK) (_:XK):Prop
 | mk (z:Str) (_:vs=[.str z]) (_:z.length<=100000) (_:∀ H',Same H H'->Q (.bl (isWr z)) H')
def figs_len (z:Str):(yL z).length<=z.length:=by
 unfold yL
 split
 .exact v7 z _ _
 .exact sK _
def ok_wr {t1 t2:Tok} (d:zj K mg "is_written_as_number" yk Uj) (hlen:mg "len"=Y) (hFI:mg "FIGURES"=Z (.str figS t1)) (hMF:mg "MOST_FIGURES"=Z (.int 19 t2)) (FO:Ok P w K mg base CX0 1 "figures_of" Uj spFO) (MO:Ok P w K mg base CX0 1 "is_made_of" ["word","signs"] spMO):Ok P w K mg base CX0 2 "is_written_as_number" Uj spWr:=by
 refine oDf d sc_is_written_as_number λg sA A _ s H vs Q E hr h=>?_;obtain ⟨z,rfl,hz,q⟩:=h;have nd:=sc_is_written_as_number.nd;have hr1:Room 1 _:=hr;have SL:(100000:Nat)<sizeLine:=by decide
 have fl:=figs_len z;refine ⟨_,(zb (oRz 1 nd (zo FO hr1 (by rfl) zv (za (pv 0) zc)))
   (zb (zB (xM (zW (zel zb9 zb9 zd (zh xK (by rfl) hlen sU (za (pv 1) zc)) (yt hMF))) (yS (zW (zG (zo MO hr1 (by rfl) zv (za (pv 1) (za (pe_gstr hFI) zc))))))).pt (ze (zm yE)) zk)
   (ze (zm (pe_or (ym zP (pv 0) zn (zw _)) (yD (pe_not (yz uz PySem.F.slot_str_startswith PySem.F.type_str_startswith zcb (pv 1) (za zn zc))))))))),?_⟩
 dsimp only [Zl,Cx.nox,Cx.wish];refine ⟨_,U,z,U,hz,?_⟩;unfold isWr at q;generalize yL z=f at q fl ⊢;refine ⟨_,U,_,U,by omega,_,_,U,U,_,U,?_⟩;by_cases h1:1<=f.length
 .rw [decide_eq_true (show (1:Int)<=(f.length:Nat) by omega)]
  rw [decide_eq_true h1] at q;refine zL ⟨_,_,U,U,_,U,?_⟩;by_cases h2:f.length<=19
  .rw [decide_eq_true (show ((f.length:Nat):Int)<=19 by omega)]
   rw [decide_eq_true h2] at q;refine zy ⟨_,U,_,_,U,by omega,λJ sJ=>⟨_,U,?_⟩⟩
   cases hm:Ys f figS with
   | false =>
    rw [hm] at q;exact zL (q J sJ)
   | true =>
    rw [hm] at q;refine zy ⟨_,U,U,_,U,?_⟩;rw [show decide (V.str z=V.str "0")=decide (z="0") from decide_eq_decide.mpr ⟨V.str.inj,λh=>by rw [h]⟩];by_cases h3:z="0"
    .rw [decide_eq_true h3] at q ⊢
     exact zL (q J sJ)
    .rw [decide_eq_false h3] at q ⊢
     exact zy ⟨_,U,U,_,_,U,U,_,U,q J sJ⟩
  .rw [decide_eq_false (show ¬ ((f.length:Nat):Int)<=19 by omega)]
   rw [decide_eq_false h2] at q;exact zL (zL (q H (Same.refl _)))
 .rw [decide_eq_false (show ¬ (1:Int)<=(f.length:Nat) by omega)]
  rw [decide_eq_false h1] at q;exact zy ⟨_,U,zL (zL (q H (Same.refl _)))⟩
def spNi:Sp:=λvs H Q _=>∃ z:Str,vs=[.str z]/\z.length<=100000/\∀ H',Same H H'->Q (numV (YX z)) H'
def zdq (d:zj K mg "number_in" ZJ Uj) (hint:mg "int"=Y) (IW:Ok P w K mg base CX0 2 "is_written_as_number" Uj spWr) (KP:Ok P w K mg base (CXe P w base) 1 "kept" ["number"] (sp1 λn=>.int (FM.kept n))):Ok P w K mg base CX0 3 "number_in" Uj spNi:=by
 refine oDf d sc_number_in λg sA A _ s H vs Q E hr h=>?_;obtain ⟨z,rfl,hz,q⟩:=h;have nd:=sc_number_in.nd;have hr2:Room 2 _:=hr;have hr1:Room 1 _:=hr.mono (by decide);refine ⟨_,(zb (zB (zW (zG (zo IW hr2 (by rfl) zv (za (pv 0) zc)))) (ze (zm yK)) zk)
   (zb (oRz 1 nd (z8 zb0 (by rfl) hint PyProof.Rows.boot_int (za (pv 0) zc)))
   (zb (zB (zp Yn (zo KP hr1 (by rfl) zU (za (pv 1) zc)) (pv 1) (zw _)) (ze (zm yK)) zk)
   (ze (zm (pv 1)))))),?_⟩
 refine ⟨_,U,z,U,hz,λJ sJ=>⟨_,U,?_⟩⟩;unfold YX at q;by_cases hw:isWr z=true
 .rw [if_pos hw] at q
  rw [hw];obtain ⟨n,hn,zl⟩:=wr_reads hw;rw [hn] at q;refine zy ⟨_,U,z,n,U,hn,by omega,?_⟩;refine ⟨_,U,n,U,_,U,U,_,U,?_⟩;rw [show decide (V.int (FM.kept n)=V.int n)=decide (FM.kept n=n) from decide_eq_decide.mpr ⟨V.int.inj,λh=>by rw [h]⟩];by_cases hk:FM.kept n=n
  .rw [decide_eq_true hk]
   have q:Q (numV (if FM.kept n=n then Z n else Y)) J:=q J sJ;rw [if_pos hk] at q;exact zy ⟨_,U,q⟩
  .rw [decide_eq_false hk]
   have q:Q (numV (if FM.kept n=n then Z n else Y)) J:=q J sJ;rw [if_neg hk] at q;exact zL q
 .rw [if_neg hw] at q
  rw [vc.mpr hw];exact zL (q J sJ)
end
end K23
namespace K23
open PySem L2
variable {K:Fg} {base:Heap}
inductive Er
 | bad | noName | twice | mn_ | long | deep | uneven | crossed
 deriving DecidableEq
structure Rdg where
 rows:Jf
 heads:List (Str×Nat)
 own:Option (Jf)
abbrev Pr (α:Type):=Except Er (α×Jf)
def signsL:Jf:=["+","-","*","/","rest","least","most","<","=","&","|","^"]
def plc (n:Str):Jf->Option Nat
 | []=>Y
 | x::l=>if x=n then Z 0 else (plc n l).map (·+1)
def Zn (p:Jf->Pr F2.Fm):Nat->Jf->Pr (List F2.Fm)
 | 0,ws=>.ok ([],ws)
 | k+1,ws=>(p ws).bind λx=>(Zn p k x.2).bind λy=>.ok (x.1::y.1,y.2)
def pWord (want:Str):Jf->Pr Unit
 | []=>.error .bad
 | w::r=>if w=want then .ok ((),r) else .error .bad
def YV:Jf->Pr Str
 | []=>.error .bad
 | w::r=>if Z1 w=true then .ok (w,r) else .error .bad
def YT (lo hi:Int):Jf->Pr Int
 | []=>.error .bad
 | w::r=>match YX w with
  | some n=>if lo<=n/\n<=hi then .ok (n,r) else .error .bad
  | none=>.error .bad
def Xa (R:Rdg) (ws:Jf):Pr Nat:=(YV ws).bind λx=>match plc x.1 R.rows with
 | some i=>.ok (i,x.2)
 | none=>.error .noName
def fmsOf:List F2.Fm->F2.Fms
 | []=>.nil
 | f::l=>.cons f (fmsOf l)
def Ya (R:Rdg) (p:Jf->Pr F2.Fm):Jf->Pr F2.Fm
 | []=>.error .bad
 | w::r =>
  if w∈signsL then (Zn p 2 r).bind λy=>.ok (.pair w (y.1.getD 0 .here) (y.1.getD 1 .here),y.2)
  else if w="if" then (Zn p 3 r).bind λy=>.ok (.cho (y.1.getD 0 .here) (y.1.getD 1 .here) (y.1.getD 2 .here),y.2)
  else if Z1 w=true then match plc w (R.heads.map uu) with
   | some i=>(Zn p (R.heads.getD i ("",0)).2 r).bind λy=>.ok (.call i (fmsOf y.1),y.2)
   | none=>.error .noName
  else if w="at"/\R.own=Y then (Xa R r).bind λx=>(p x.2).bind λy=>.ok (.at' x.1 y.1,y.2)
  else if w="shift"/\R.own=Y then (Xa R r).bind λx=>(YT (-400) 400 x.2).bind λy=>(YT (-9223372036854775808) 9223372036854775807 y.2).bind λz=>.ok (.shi x.1 y.1 z.1,z.2)
  else .error .bad
def Xb (R:Rdg) (w:Str):Except Er F2.Fm:=match R.own with
 | none=>match plc w R.rows with
  | some i=>.ok (.cell i)
  | none=>.error .noName
 | some o=>match plc w o with
  | some i=>.ok (.loc i)
  | none=>.error .noName
def zZ (R:Rdg):Nat->Jf->Pr F2.Fm
 | _,[]=>.error .bad
 | n,w::r =>
  if w="(" then match n with
   | 0=>.error .deep
   | n+1=>(Ya R (zZ R n) r).bind λx=>(pWord ")" x.2).bind λy=>.ok (x.1,y.2)
  else if w="here" then .ok (.here,r)
  else if Z1 w=true then (Xb R w).bind λf=>.ok (f,r)
  else match YX w with
   | some i=>.ok (.num i,r)
   | none=>.error .bad
structure Rg where
 C:Ad
 r:Ad
 dx:Ad
 wa:Ad
 ra:Ad
 ha:Ad
 ln:Int
 ov:V
abbrev Rg.o (g:Rg) (p b:Int):HO:=.ins g.C g.dx [("line",.int g.ln),("words",.ref g.wa),("rows",.ref g.ra),("heads",.ref g.ha),("own",g.ov),("passed",.int p),("brackets",.int b)]
structure RCls (K:Fg) (C:Ad):Prop where
 c:Cls K C
 n0:NoAttr K C "line"
 n1:NoAttr K C "words"
 n2:NoAttr K C "rows"
 n3:NoAttr K C "heads"
 n4:NoAttr K C "own"
 n5:NoAttr K C "passed"
 n6:NoAttr K C "brackets"
structure RAt (B:Hp) (g:Rg) (ws:Jf) (p:Nat) (b:Int) (L:Jm) (H:Hp):Prop where
 h:Hd B ((g.r,g.o p b)::L) H
 w:B g.wa=Z (.lst (ws.map V.str))
 l:ws.length<=50000
inductive spHM (C:Ad) (vs:Jn) (H:Hp) (Q:VK) (_:XK):Prop
 | mk (g:Rg) (B:Hp) (L:Jm) (ws:Jf) (p:Nat) (b:Int) (_:vs=[.ref g.r]) (_:g.C=C) (_:RAt B g ws p b L H) (_:Q (.bl (decide (p<ws.length))) H)
def zev {C:Ad} (d:xq K C "has_more" "Reading.has_more" yG Uw) (cC:RCls K C) (hlen:mg "len"=Y):OkM P w K mg base CX0 1 C "has_more" Uw (spHM C):=by
 refine oMf d YR λf sA A _ s H vs Q E hr h=>?_;obtain ⟨g,B,L,ws,p,b,rfl,rfl,A1,q⟩:=h;have hx:=A1.h.get 0 rfl;refine ⟨_,(ze (zm (ym za5 (zu (pv 0) rfl) (zh zr (by rfl) hlen sU (za (zu (pv 0) rfl) zc)) (zw _)))),?_⟩;dsimp only [Zl,Cx.nox,Cx.wish];refine ⟨_,U,g.r,g.C,g.dx,_,_,U,hx,cC.c,cC.n5,U,_,U,g.r,g.C,g.dx,_,_,U,hx,cC.c,cC.n1,U,g.wa,_,U,.inl (SqL.of (A1.h.sm _ _ A1.w)),_,_,U,U,?_⟩;rw [Ji];rw [show decide ((p:Int)<(ws.length:Int))=decide (p<ws.length) from decide_eq_decide.mpr (by omega)];exact q
inductive spNW (C:Ad) (vs:Jn) (H:Hp) (Q:VK) (_:XK):Prop
 | mk (g:Rg) (B:Hp) (L:Jm) (ws:Jf) (p:Nat) (b:Int) (x:Str) (r:Jf) (_:vs=[.ref g.r]) (_:g.C=C) (_:RAt B g ws p b L H) (_:ws.drop p=x::r) (_:∀ H',RAt B g ws (p+1) b L H'->ws.drop (p+1)=r->Q (.str x) H')
def zds {C:Ad} (d:xq K C "next_word" "Reading.next_word" yA Uw) (rC:RCls K C) (HM:OkM P w K mg base CX0 1 C "has_more" Uw (spHM C)):OkM P w K mg base CX0 2 C "next_word" Uw (spNW C):=by
 refine oMf d Yh λf sA A _ s H vs Q E hr h=>?_;obtain ⟨g,B,L,ws,p,b,x,r,rfl,rfl,A1,ew,q⟩:=h;have hr1:Room 1 _:=hr;have cC:=rC.c;have hx:=A1.h.get 0 rfl
 have pl:p<ws.length:=by
  have:=congrArg uY ew;rw [uS,x2x] at this;omega
 have ex:ws[p]?=Z x:=by
  have:=congrArg (λl:Jf=>l[0]?) ew;simpa using this
 have er:ws.drop (p+1)=r:=by rw [← List.tail_drop,ew];rfl
 refine ⟨_,(zb (zB (zW (zG (Za HM cC hr1 zv (pv 0)))) zO zk)
   (zb (zF (pv 0) (zq yh (zu (pv 0) rfl) zd) rfl)
   (ze (zm (zx zD (zu (pv 0) rfl) (zq Xc (zu (pv 0) rfl) zd) (λ_ _=>rfl)))))),?_⟩
 dsimp only [Zl,Cx.nox,Cx.wish];refine ⟨_,U,g.r,g.dx,_,U,hx,U,g,B,L,ws,p,b,U,U,A1,_,U,?_⟩;rw [decide_eq_true pl];refine zy ⟨_,U,g.r,g.C,g.dx,_,_,U,hx,cC,rC.n5,U,_,_,U,U,_,U,g.r,g.C,g.dx,_,U,hx,cC,rC.n5,(by show 7<1000;decide),?_⟩;have h2:Hd B ((g.r,g.o ((p:Int)+1) b)::L) (upd H g.r (g.o ((p:Int)+1) b)):=A1.h.put 0 rfl;have ep:((p+1:Nat):Int)=(p:Int)+1:=by omega
 have A2:RAt B g ws (p+1) b L (upd H g.r (g.o ((p:Int)+1) b)):=⟨by rw [ep];exact h2,A1.w,A1.l⟩;have hx2:=h2.get 0 rfl;refine ⟨_,U,g.r,g.C,g.dx,_,_,U,hx2,cC,rC.n1,U,_,U,g.r,g.C,g.dx,_,_,U,hx2,cC,rC.n5,U,_,_,U,U,g.wa,_,_,_,U,U,SqL.of (h2.sm _ _ A1.w),?_,q _ A2 er⟩;rw [show (p:Int)+1-1=p by omega];exact zM (by rw [sN,ex];rfl)
def RAt.over {B:Hp} {g:Rg} {ws:Jf} {p:Nat} {b:Int} {L:Jm} {H H':Hp} (h:RAt B g ws p b L H) (s:Same H H'):∃ B',Same B B'/\RAt B' g ws p b L H':=by
 obtain ⟨B',sB,h',_⟩:=h.h.over s;exact ⟨B',sB,h',sB _ _ h.w,h.l⟩
def spRW (C:Ad):Sp:=λvs H Q _=>∃ (g:Rg) (B:Hp) (L:Jm) (ws:Jf) (p:Nat) (b:Int) (x:Str) (r:Jf),vs=[.ref g.r,.str x]/\g.C=C/\RAt B g ws p b L H/\ws.drop p=x::r/\∀ H',RAt B g ws (p+1) b L H'->ws.drop (p+1)=r->Q .non H'
def zdj {C:Ad} (d:zj K mg "read_word" ZE Ul) (rC:RCls K C) (NW:OkM P w K mg base CX0 2 C "next_word" Uw (spNW C)):Ok P w K mg base CX0 3 "read_word" Ul (spRW C):=by
 refine oDf d zc1 λf sA A _ s H vs Q E hr h=>?_;obtain ⟨g,B,L,ws,p,b,x,r,rfl,rfl,A1,ew,q⟩:=h;have hr2:Room 2 _:=hr;have cC:=rC.c;refine ⟨_,(ze (zB (zp Yn (Za NW cC hr2 zv (pv 0)) (pv 1) (zw _)) zO zk)),?_⟩;refine ⟨_,U,g.r,g.dx,_,U,A1.h.get 0 rfl,U,g,B,L,ws,p,b,x,r,U,U,A1,ew,λH' A2 er=>⟨_,U,U,_,U,?_⟩⟩;rw [decide_eq_true rfl];exact zy (q H' A2 er)
def spLE (C:Ad):Sp:=λvs H Q _=>∃ (g:Rg) (B:Hp) (L:Jm) (ws:Jf) (p:Nat) (b:Int),vs=[.ref g.r]/\g.C=C/\RAt B g ws p b L H/\ws.drop p=[]/\Q .non H
def zet {C:Ad} (d:zj K mg "read_line_end" xj Ua) (rC:RCls K C) (HM:OkM P w K mg base CX0 1 C "has_more" Uw (spHM C)):Ok P w K mg base CX0 2 "read_line_end" Ua (spLE C):=by
 refine oDf d XH λf sA A _ s H vs Q E hr h=>?_;obtain ⟨g,B,L,ws,p,b,rfl,rfl,A1,ew,q⟩:=h;have hr1:Room 1 _:=hr;have cC:=rC.c
 have pl:¬ p<ws.length:=by
  have:=congrArg uY ew;rw [uS] at this;have e:([]:Jf).length=0:=rfl;omega
 refine ⟨_,(ze (zB (zG (Za HM cC hr1 zv (pv 0))) zO zk)),?_⟩;refine ⟨_,U,g.r,g.dx,_,U,A1.h.get 0 rfl,U,g,B,L,ws,p,b,U,U,A1,_,U,?_⟩;rw [decide_eq_false pl];exact zy q
def spRN (C:Ad):Sp:=λvs H Q _=>∃ (g:Rg) (B:Hp) (L:Jm) (ws:Jf) (p:Nat) (b:Int) (x:Str) (r:Jf),vs=[.ref g.r]/\g.C=C/\RAt B g ws p b L H/\YV (ws.drop p)=.ok (x,r)/\x.length<=100000/\∀ B' H',Same B B'->RAt B' g ws (p+1) b L H'->ws.drop (p+1)=r->Q (.str x) H'
def zdm {C:Ad} (d:zj K mg "read_name" ZG Ua) (rC:RCls K C) (NW:OkM P w K mg base CX0 2 C "next_word" Uw (spNW C)) (NM:Ok P w K mg base CX0 2 "is_name" Uj spNm):Ok P w K mg base CX0 3 "read_name" Ua (spRN C):=by
 refine oDf d sc_read_name λf sA A _ s H vs Q E hr h=>?_;obtain ⟨g,B,L,ws,p,b,x,r,rfl,rfl,A1,en,xl,q⟩:=h;have hr2:Room 2 _:=hr;have cC:=rC.c;have nd:=sc_read_name.nd
 obtain ⟨ew,hn⟩:ws.drop p=x::r/\Z1 x=true:=by
  cases hd:ws.drop p with
  | nil=>rw [hd] at en;cases en
  | cons y l =>
   rw [hd] at en;have en:(if Z1 y=true then vy (y,l) else .error .bad:Pr Str)=.ok (x,r):=en;by_cases hy:Z1 y=true
   .rw [if_pos hy] at en;cases en;exact ⟨U,hy⟩
   .rw [if_neg hy] at en;cases en
 refine ⟨_,(zb (oRz 1 nd (Za NW cC hr2 zv (pv 0)))
   (zb (zB (zW (zG (zo NM hr2 (by rfl) zv (za (pv 1) zc)))) zO zk)
   (ze (zm (pv 1))))),?_⟩
 refine ⟨_,U,g.r,g.dx,_,U,A1.h.get 0 rfl,U,g,B,L,ws,p,b,x,r,U,U,A1,ew,λH' A2 er=>⟨_,U,x,U,xl,λJ sJ=>⟨_,U,?_⟩⟩⟩;rw [hn];obtain ⟨B',sB,A3⟩:=A2.over sJ;exact zy ⟨_,U,q B' J sB A3 er⟩
def zX (i:Nat):Jf->Jl
 | []=>[]
 | x::l=>(.inr x,.int i)::zX (i+1) l
theorem xQ (n:Str):∀ (l:Jf) (i:Nat),zN (zX i l) (.inr n)=(plc n l).map λj=>V.int ((i+j:Nat):Int)
 | [],_=>rfl
 | x::l,i=>by
  have ih:=xQ n l (i+1);unfold plc;by_cases h:x=n
  .subst h
   rw [if_pos rfl];show zN (((wL x:Key),V.int i)::zX (i+1) l) _=_;simp [zN]
  .rw [if_neg h]
   have e:zN (zX i (x::l)) (.inr n)=zN (zX (i+1) l) (.inr n):=by
    show zN (((wL x:Key),V.int i)::zX (i+1) l) _=_;simp [zN,h]
   rw [e,ih]
   cases plc n l with
   | none=>rfl
   | some j=>show Z (V.int ((i+1+j:Nat):Int))=Z (V.int ((i+(j+1):Nat):Int));congr 2;omega
inductive spNu (C:Ad) (vs:Jn) (H:Hp) (Q:VK) (_:XK):Prop
 | mk (g:Rg) (B:Hp) (L:Jm) (ws:Jf) (p:Nat) (b lo hi n:Int) (r:Jf) (_:vs=[.ref g.r,.int lo,.int hi]) (_:g.C=C) (_:RAt B g ws p b L H) (_:YT lo hi (ws.drop p)=.ok (n,r)) (_:(∀ x∈ws,x.length<=50000)) (_:∀ B' H',Same B B'->RAt B' g ws (p+1) b L H'->ws.drop (p+1)=r->Q (.int n) H')
def za7 {C:Ad} (d:zj K mg "read_number" xS UA) (rC:RCls K C) (NW:OkM P w K mg base CX0 2 C "next_word" Uw (spNW C)) (NI:Ok P w K mg base CX0 3 "number_in" Uj spNi):Ok P w K mg base CX0 4 "read_number" UA (spNu C):=by
 refine oDf d sc_read_number λf sA A _ s H vs Q E hr h=>?_;obtain ⟨g,B,L,ws,p,b,lo,hi,n,r,rfl,rfl,A1,en,xl,q⟩:=h;have hr3:Room 3 _:=hr;have hr2:Room 2 _:=hr.mono (by decide);have cC:=rC.c;have nd:=sc_read_number.nd
 obtain ⟨x,ew,hn,hl,hh⟩:∃ x,ws.drop p=x::r/\YX x=Z n/\lo<=n/\n<=hi:=by
  cases hd:ws.drop p with
  | nil=>rw [hd] at en;cases en
  | cons y l =>
   rw [hd] at en;have en:(match YX y with | some n=>if lo<=n/\n<=hi then vy (n,l) else .error .bad | none=>.error .bad:Pr Int)=.ok (n,r):=en
   cases hy:YX y with
   | none=>rw [hy] at en;cases en
   | some k =>
    rw [hy] at en;have en:(if lo<=k/\k<=hi then vy (k,l) else .error .bad:Pr Int)=.ok (n,r):=en;by_cases hk:lo<=k/\k<=hi
    .rw [if_pos hk] at en;cases en;exact ⟨y,U,hy,hk.1,hk.2⟩
    .rw [if_neg hk] at en;cases en
 have mx:x∈ws:=v0 (show x∈ws.drop p by rw [ew];exact x0z);refine ⟨_,(zb (oRz 3 nd (zo NI hr3 (by rfl) zv (za (Za NW cC hr2 zv (pv 0)) zc)))
   (zb (zB (xM (zp Xe (pv 3) yK (zw _)) (yS (zW (zel zb9 zb9 (pv 1) (pv 3) (pv 2))))).pt zO zk)
   (ze (zm (pv 3))))),?_⟩
 refine ⟨_,U,g.r,g.dx,_,U,A1.h.get 0 rfl,U,g,B,L,ws,p,b,x,r,U,U,A1,ew,λH' A2 er=>⟨x,U,tE (xl x mx) (by decide),λJ sJ=>?_⟩⟩;rw [hn];obtain ⟨B',sB,A3⟩:=A2.over sJ;refine ⟨_,U,U,_,U,?_⟩;rw [show decide (numV (Z n)=V.non)=false from decide_eq_false (λz=>by cases z)];refine zy ⟨_,U,_,U,_,_,U,U,_,U,?_⟩;rw [decide_eq_true hl];refine zL ⟨_,U,_,_,U,U,_,U,?_⟩;rw [decide_eq_true hh];exact zy ⟨_,U,q B' J sB A3 er⟩
def spRo (C:Ad):Sp:=λvs H Q _=>∃ (g:Rg) (B:Hp) (L:Jm) (ws:Jf) (p:Nat) (b:Int) (R:Rdg) (i:Nat) (r:Jf),vs=[.ref g.r]/\g.C=C/\RAt B g ws p b L H/\B g.ra=Z (.dK (zX 0 R.rows))/\Xa R (ws.drop p)=.ok (i,r)/\(∀ x∈ws,x.length<=50000)/\∀ B' H',Same B B'->RAt B' g ws (p+1) b L H'->ws.drop (p+1)=r->Q (.int i) H'
def zeq {C:Ad} (d:zj K mg "read_row" Z4 Ua) (rC:RCls K C) (RN:Ok P w K mg base CX0 3 "read_name" Ua (spRN C)):Ok P w K mg base CX0 4 "read_row" Ua (spRo C):=by
 refine oDf d sc_read_row λf sA A _ s H vs Q E hr h=>?_;obtain ⟨g,B,L,ws,p,b,R,i,r,rfl,rfl,A1,er',en,xl,q⟩:=h;have hr3:Room 3 _:=hr;have hu:=tK (tO (show 1<=64 by decide) _) hr.units;have cC:=rC.c;have nd:=sc_read_row.nd
 obtain ⟨x,hn,hp⟩:∃ x,YV (ws.drop p)=.ok (x,r)/\plc x R.rows=Z i:=by
  unfold Xa at en
  cases hx:YV (ws.drop p) with
  | error e=>rw [hx] at en;cases en
  | ok y =>
   rw [hx] at en;have en:(match plc y.1 R.rows with | some i=>vy (i,y.2) | none=>.error .noName:Pr Nat)=.ok (i,r):=en
   cases hy:plc y.1 R.rows with
   | none=>rw [hy] at en;cases en
   | some k=>rw [hy] at en;cases en;exact ⟨y.1,U,hy⟩
 have mx:x.length<=50000:=by
  cases hd:ws.drop p with
  | nil=>rw [hd] at hn;cases hn
  | cons y l =>
   have my:y∈ws:=v0 (show y∈ws.drop p by rw [hd];exact x0z);rw [hd] at hn;have hn:(if Z1 y=true then vy (y,l) else .error .bad:Pr Str)=.ok (x,r):=hn;by_cases hy:Z1 y=true
   .rw [if_pos hy] at hn;cases hn;exact xl _ my
   .rw [if_neg hy] at hn;cases hn
 have gv:zN (zX 0 R.rows) (.inr x)=Z (V.int i):=by rw [xQ,hp];show Z (V.int ((0+i:Nat):Int))=_;rw [Nat.zero_add]
 refine ⟨_,(zb (oRz 1 nd (zo RN hr3 (by rfl) zv (za (pv 0) zc)))
   (zb (zB (Yj (YK hu (pv 1) (zu (pv 0) rfl)) rfl) zO zk)
   (ze (zm (zH hu (zu (pv 0) rfl) (pv 1) (λ_ _=>rfl)))))),?_⟩
 refine ⟨_,U,g,B,L,ws,p,b,x,r,U,U,A1,hn,tE mx (by decide),λB' H' sB A2 er=>?_⟩;have hx:=A2.h.get 0 rfl;have ed:=A2.h.sm _ _ (sB _ _ er');have dg:DGet H' g.ra (.str x) (Z (V.int i)):=by rw [← gv];exact DGet.k (k:=.inr x) ed
 refine ⟨_,U,_,U,g.r,g.C,g.dx,_,_,U,hx,rC.c,rC.n2,U,g.ra,_,U,dg,_,U,?_⟩;exact zy ⟨_,U,g.r,g.C,g.dx,_,_,U,hx,rC.c,rC.n2,U,_,U,g.ra,_,U,dg,q B' H' sB A2 er⟩
def szU (n:Nat) (h:n<=100000:=by decide):n<=sizeLine:=tE h (by decide)
def tyL {K:Fg} {H:Hp} {a:Ad} {xs:Jn} (h:H a=Z (.lst xs)):tyV K "list" (.ref a) H:=.inl ⟨U,_,SqL.of h⟩
def y9:Jg->List (Str×Nat)->Jl
 | t::ts,x::l=>(.inr x.1,.ref t)::y9 ts l
 | _,_=>[]
structure RdAt (B:Hp) (g:Rg) (R:Rdg):Prop where
 r:B g.ra=Z (.dK (zX 0 R.rows))
 h:∃ ts:Jg,ts.length=R.heads.length/\B g.ha=Z (.dK (y9 ts R.heads))/\∀ (i:Nat) t,ts[i]?=Z t->∃ x,R.heads[i]?=Z x/\B t=Z (.tup [.int i,.int x.2])
 o:(R.own=Y/\g.ov=.non)∨∃ o oa,R.own=Z o/\g.ov=.ref oa/\B oa=Z (.dK (zX 0 o))
 m:∀ x∈R.heads,x.2<=6
def RdAt.same {B B':Hp} {g:Rg} {R:Rdg} (h:RdAt B g R) (s:Same B B'):RdAt B' g R:=by
 obtain ⟨ts,e1,e2,e3⟩:=h.h;refine ⟨s _ _ h.r,⟨ts,e1,s _ _ e2,λi t e=>?_⟩,?_,h.m⟩
 .obtain ⟨x,ex,et⟩:=e3 i t e
  exact ⟨x,ex,s _ _ et⟩
 .rcases h.o with e | ⟨o,oa,a1,a2,a3⟩
  .exact .inl e
  .exact .inr ⟨o,oa,a1,a2,s _ _ a3⟩
def Yg (ws:Jf):Prop:=∀ x∈ws,x.length<=50000
inductive spFm (C:Ad) (c:F2.Cs) (n:Nat) (vs:Jn) (H:Hp) (Q:VK) (_:XK):Prop
 | mk (g:Rg) (B:Hp) (L:Jm) (ws:Jf) (p:Nat) (R:Rdg) (f:F2.Fm) (r:Jf) (_:vs=[.ref g.r]) (_:g.C=C) (_:RAt B g ws p (30-(n:Int)) L H) (_:RdAt B g R) (_:zZ R n (ws.drop p)=.ok (f,r)) (_:Yg ws) (_:∀ B' H' p' y,Same B B'->RAt B' g ws p' (30-(n:Int)) L H'->ws.drop p'=r->F2.FormAt c B' f y->Q (.ref y) H')
inductive spFs (C:Ad) (c:F2.Cs) (n:Nat) (vs:Jn) (H:Hp) (Q:VK) (_:XK):Prop
 | mk (g:Rg) (B:Hp) (L:Jm) (ws:Jf) (p:Nat) (R:Rdg) (k:Nat) (fs:List F2.Fm) (r:Jf) (_:vs=[.ref g.r,.int k]) (_:g.C=C) (_:RAt B g ws p (30-(n:Int)) L H) (_:RdAt B g R) (_:Zn (zZ R n) k (ws.drop p)=.ok (fs,r)) (_:Yg ws) (_:k<=100) (_:∀ B' H' p' l ys,Same B B'->RAt B' g ws p' (30-(n:Int)) L H'->ws.drop p'=r->B' l=Z (.lst (ys.map V.ref))->Paired (F2.FormAt c B') fs ys->fs.length=k->Q (.ref l) H')
def zby {C:Ad} {c:F2.Cs} {n k:Nat} (d:zj K mg "read_forms" xv UO) (hlen:mg "len"=Y) (RF:Ok P w K mg base CX0 k "read_form" Ua (spFm C c n)):Ok P w K mg base CX0 (k+1) "read_forms" UO (spFs C c n):=by
 refine oDf d sc_read_forms λf sA A _ s H vs Q E hr h=>?_;obtain ⟨g,B,L,ws,p,R,kk,fs,r,rfl,rfl,A1,RA,en,wo,k100,q⟩:=h;have hrk:Room k _:=hr;have nd:=sc_read_forms.nd;have SL:(1000:Nat)<sizeLine:=by decide
 refine ⟨_,(zb (oRz 2 nd (zJ zc))
   (zb (Yk tY (zp za5 (zh zr (by rfl) hlen sU (za (pv 2) zc)) (pv 1) (zw _)) (ze (zC (yz sQ t8 t7 zQ (pv 2) (za (zo RF hrk (by rfl) zv (za (pv 0) zc)) zc)))))
   (ze (zm (pv 2))))),?_⟩
 refine ⟨szU 0,λl nl=>?_⟩;have h0:Hd B ((g.r,g.o p (30-(n:Int)))::(l,.lst (([]:Jg).map V.ref))::L) (upd H l (.lst [])):=A1.h.fnew nl;refine ⟨λmm σ J=>∃ (B1:Hp) (p1:Nat) (fs1 fs2:List F2.Fm) (ys:Jg),σ=[rq g.r,iq kk,rq l]/\Same B B1/\RAt B1 g ws p1 (30-(n:Int)) ((l,.lst (ys.map V.ref))::L) J/\Paired (F2.FormAt c B1) fs1 ys/\fs1.length+mm=kk/\fs=fs1++fs2/\Zn (zZ R n) mm (ws.drop p1)=.ok (fs2,r),⟨kk,B,p,[],fs,[],U,Same.refl _,⟨h0,A1.w,A1.l⟩,.nil,Nat.zero_add _,U,en⟩,?_⟩;rintro mm σ J ⟨B1,p1,fs1,fs2,ys,rfl,sB,A2,pf,hm,ef,e2⟩;have yl:=Paired.length pf;have hl:=A2.h.get 1 rfl;refine ⟨_,U,l,_,U,.inl (SqL.of hl),_,U,_,_,U,U,_,U,?_⟩;rw [Ji];by_cases hz:mm=0
 .subst hz
  rw [decide_eq_false (by omega)];have e2:(vy ([],ws.drop p1):Pr (List F2.Fm))=.ok (fs2,r):=e2;cases e2;rw [x2y] at ef;subst ef;have h3:Hd B1 ((l,.lst (ys.map V.ref))::(g.r,g.o p1 (30-(n:Int)))::L) J:=A2.h.perm (uZ _ _ _);have h4:=h3.settle;have s4:=h3.settled;refine zy ⟨_,U,q _ J p1 l ys (sB.trans s4) ⟨h4,s4 _ _ A2.w,A2.l⟩ rfl zg (Paired.mapP pf λ_ _ z=>z.same s4) (by omega)⟩
 .obtain ⟨m1,rfl⟩:∃ m1,mm=m1+1:=⟨mm-1,by omega⟩
  rw [decide_eq_true (by omega)]
  obtain ⟨f1,r1,fs3,e3,e4,rfl⟩:∃ f1 r1 fs3,zZ R n (ws.drop p1)=.ok (f1,r1)/\Zn (zZ R n) m1 r1=.ok (fs3,r)/\fs2=f1::fs3:=by
   unfold Zn at e2
   cases h1:zZ R n (ws.drop p1) with
   | error e=>rw [h1] at e2;cases e2
   | ok x =>
    rw [h1] at e2;have e2:(Zn (zZ R n) m1 x.2).bind (λy=>(vy (x.1::y.1,y.2):Pr (List F2.Fm)))=.ok (fs2,r):=e2
    cases h2:Zn (zZ R n) m1 x.2 with
    | error e=>rw [h2] at e2;cases e2
    | ok y=>rw [h2] at e2;cases e2;exact ⟨x.1,x.2,y.1,U,h2,U⟩
  refine zL ⟨λσ' H'=>∃ m',m'<m1+1/\_,λ_ _ z=>z,?_⟩;refine ⟨_,U,tyL hl,_,U,g,B1,_,ws,p1,R,f1,r1,U,U,A2,RA.same sB,e3,wo,λB2 J2 p2 y s2 A3 er fy=>?_⟩;refine ⟨l,_,_,U,U,A3.h.get 1 rfl,by rw [Ji];omega,m1,wR _,B2,p2,fs1++[f1],fs3,ys++[y],U,sB.trans s2,⟨?_,A3.w,A3.l⟩,Paired.snoc (Paired.mapP pf λ_ _ z=>z.same s2) fy,by rw [Jj];show fs1.length+1+m1=kk;omega,by rw [ef,List.append_assoc];rfl,by rw [er];exact e4⟩;rw [Jk];exact A3.h.put 1 rfl
def RAt.made {B:Hp} {g:Rg} {ws:Jf} {p:Nat} {b:Int} {L:Jm} {H H2:Hp} {C x dx:Ad} {ox:HO} (h:RAt B g ws p b L H) (nx:H x=Y) (ndx:H dx=Y) (ne:dx≠x) (k:∀ b u,b≠x->upd (upd H dx (.own x)) x (.ins C dx []) b=Z u->H2 b=Z u) (ex:H2 x=Z ox):∃ B',Same B B'/\B' x=Z ox/\RAt B' g ws p b L H2:=by
 obtain ⟨B',s,e,h'⟩:=hdM h.h nx ndx ne k ex;exact ⟨B',s,e,h',s _ _ h.w,h.l⟩
inductive spPa (C:Ad) (c:F2.Cs) (n:Nat) (vs:Jn) (H:Hp) (Q:VK) (_:XK):Prop
 | mk (g:Rg) (B:Hp) (L:Jm) (ws:Jf) (p:Nat) (R:Rdg) (sg:Str) (fs:List F2.Fm) (r:Jf) (_:vs=[.ref g.r,.str sg]) (_:g.C=C) (_:RAt B g ws p (30-(n:Int)) L H) (_:RdAt B g R) (_:Zn (zZ R n) 2 (ws.drop p)=.ok (fs,r)) (_:Yg ws) (_:∀ B' H' p' y,Same B B'->RAt B' g ws p' (30-(n:Int)) L H'->ws.drop p'=r->F2.FormAt c B' (.pair sg (fs.getD 0 .here) (fs.getD 1 .here)) y->Q (.ref y) H')
def zdl {C:Ad} {c:F2.Cs} {n k:Nat} (hk:2<=k) (d:zj K mg "read_pair" Zg UX) (hPa:mg "Pair"=Z (.ref c.pair)) (IP:OkI P w K mg base (CXe P w base) 1 c.pair UB (zas c.pair)) (FS:Ok P w K mg base CX0 k "read_forms" UO (spFs C c n)):Ok P w K mg base CX0 (k+1) "read_pair" UX (spPa C c n):=by
 refine oDf d sc_read_pair λf sA A _ s H vs Q E hr h=>?_;obtain ⟨g,B,L,ws,p,R,sg,fs,r,rfl,rfl,A1,RA,en,wo,q⟩:=h;have hrk:Room k _:=hr;have hr2:Room 2 _:=hr.mono hk;have nd:=sc_read_pair.nd;refine ⟨_,(zb (oRz 2 nd (zo FS hrk (by rfl) zv (za (pv 0) (za zd zc))))
   (ze (zm (y8 IP hPa hr2 (by rfl) zU (za (pv 1) (za (zx zD (pv 2) zd (λ_ _=>rfl)) (za (zx zD (pv 2) zd (λ_ _=>rfl)) zc))))))),?_⟩
 refine ⟨_,U,g,B,L,ws,p,R,2,fs,r,U,U,A1,RA,en,wo,by decide,λB1 H1 p1 l ys s1 A2 er el pf fl=>?_⟩
 match fs,ys,pf,fl with
 | [f1,f2],[y1,y2],.cons h1 (.cons h2 .nil),_ =>
 have sl:SqL K H1 l ([y1,y2].map V.ref):=SqL.of (A2.h.sm _ _ el);refine ⟨_,U,_,U,l,_,_,_,U,U,sl,U,_,U,l,_,_,_,U,U,sl,U,λx dx nx ndx ne=>⟨x,dx,_,_,_,U,zg,λH2 k2 ex=>?_⟩⟩;obtain ⟨B2,s2,e2,A3⟩:=A2.made nx ndx ne k2 ex;exact ⟨U,q B2 H2 p1 x (s1.trans s2) A3 er ⟨dx,y1,y2,e2,h1.same s2,h2.same s2⟩⟩
def spCh (C:Ad) (c:F2.Cs) (n:Nat):Sp:=λvs H Q _=>∃ (g:Rg) (B:Hp) (L:Jm) (ws:Jf) (p:Nat) (R:Rdg) (fs:List F2.Fm) (r:Jf),vs=[.ref g.r]/\g.C=C/\RAt B g ws p (30-(n:Int)) L H/\RdAt B g R/\Zn (zZ R n) 3 (ws.drop p)=.ok (fs,r)/\Yg ws/\∀ B' H' p' y,Same B B'->RAt B' g ws p' (30-(n:Int)) L H'->ws.drop p'=r->F2.FormAt c B' (.cho (fs.getD 0 .here) (fs.getD 1 .here) (fs.getD 2 .here)) y->Q (.ref y) H'
def za8 {C:Ad} {c:F2.Cs} {n k:Nat} (hk:2<=k) (d:zj K mg "read_choice" xa Ua) (hCo:mg "Choice"=Z (.ref c.cho)) (IC:OkI P w K mg base (CXe P w base) 1 c.cho UC (Y4 c.cho)) (FS:Ok P w K mg base CX0 k "read_forms" UO (spFs C c n)):Ok P w K mg base CX0 (k+1) "read_choice" Ua (spCh C c n):=by
 refine oDf d sc_read_choice λf sA A _ s H vs Q E hr h=>?_;obtain ⟨g,B,L,ws,p,R,fs,r,rfl,rfl,A1,RA,en,wo,q⟩:=h;have hrk:Room k _:=hr;have hr2:Room 2 _:=hr.mono hk;have nd:=sc_read_choice.nd;refine ⟨_,(zb (oRz 1 nd (zo FS hrk (by rfl) zv (za (pv 0) (za zd zc))))
   (ze (zm (y8 IC hCo hr2 (by rfl) zU (za (zx zD (pv 1) zd (λ_ _=>rfl)) (za (zx zD (pv 1) zd (λ_ _=>rfl)) (za (zx zD (pv 1) zd (λ_ _=>rfl)) zc))))))),?_⟩
 refine ⟨_,U,g,B,L,ws,p,R,3,fs,r,U,U,A1,RA,en,wo,by decide,λB1 H1 p1 l ys s1 A2 er el pf fl=>?_⟩
 match fs,ys,pf,fl with
 | [f1,f2,f3],[y1,y2,y3],.cons h1 (.cons h2 (.cons h3 .nil)),_ =>
 have sl:SqL K H1 l ([y1,y2,y3].map V.ref):=SqL.of (A2.h.sm _ _ el);refine ⟨_,U,l,_,_,_,U,U,sl,U,_,U,l,_,_,_,U,U,sl,U,_,U,l,_,_,_,U,U,sl,U,λx dx nx ndx ne=>⟨x,dx,_,_,_,U,zg,λH2 k2 ex=>?_⟩⟩;obtain ⟨B2,s2,e2,A3⟩:=A2.made nx ndx ne k2 ex;exact ⟨U,q B2 H2 p1 x (s1.trans s2) A3 er ⟨dx,y1,y2,y3,e2,h1.same s2,h2.same s2,h3.same s2⟩⟩
inductive spAt (C:Ad) (c:F2.Cs) (n:Nat) (vs:Jn) (H:Hp) (Q:VK) (_:XK):Prop
 | mk (g:Rg) (B:Hp) (L:Jm) (ws:Jf) (p:Nat) (R:Rdg) (i:Nat) (f:F2.Fm) (r1 r:Jf) (_:vs=[.ref g.r]) (_:g.C=C) (_:RAt B g ws p (30-(n:Int)) L H) (_:RdAt B g R) (_:Xa R (ws.drop p)=.ok (i,r1)) (_:zZ R n r1=.ok (f,r)) (_:Yg ws) (_:∀ B' H' p' y,Same B B'->RAt B' g ws p' (30-(n:Int)) L H'->ws.drop p'=r->F2.FormAt c B' (.at' i f) y->Q (.ref y) H')
def zfz {C:Ad} {c:F2.Cs} {n k:Nat} (hk:4<=k) (d:zj K mg "read_at" ZZ Ua) (hAt:mg "At"=Z (.ref c.at')) (IA:OkI P w K mg base (CXe P w base) 1 c.at' UL (spI_At c.at')) (RR:Ok P w K mg base CX0 4 "read_row" Ua (spRo C)) (RF:Ok P w K mg base CX0 k "read_form" Ua (spFm C c n)):Ok P w K mg base CX0 (k+1) "read_at" Ua (spAt C c n):=by
 refine oDf d sc_read_at λf sA A _ s H vs Q E hr h=>?_;obtain ⟨g,B,L,ws,p,R,i,fm,r1,r,rfl,rfl,A1,RA,e1,e2,wo,q⟩:=h;have hrk:Room k _:=hr;have hr4:Room 4 _:=hr.mono hk;have hr2:Room 2 _:=hr4.mono (by decide);have nd:=sc_read_at.nd;refine ⟨_,(zb (oRz 1 nd (zo RR hr4 (by rfl) zv (za (pv 0) zc)))
   (ze (zm (y8 IA hAt hr2 (by rfl) zU (za (pv 1) (za (zo RF hrk (by rfl) zv (za (pv 0) zc)) zc)))))),?_⟩
 refine ⟨_,U,g,B,L,ws,p,_,R,i,r1,U,U,A1,RA.r,e1,wo,λB1 H1 s1 A2 er=>?_⟩;refine ⟨_,U,_,U,g,B1,L,ws,p+1,R,fm,r,U,U,A2,RA.same s1,by rw [er];exact e2,wo,λB2 H2 p2 y s2 A3 er2 fy=>?_⟩;refine λx dx nx ndx ne=>⟨x,dx,_,_,U,zg,λH3 k3 ex=>?_⟩;obtain ⟨B3,s3,e3,A4⟩:=A3.made nx ndx ne k3 ex;exact ⟨U,q B3 H3 p2 x (s1.trans (s2.trans s3)) A4 er2 ⟨dx,y,e3,fy.same s3⟩⟩
inductive spSh (C:Ad) (c:F2.Cs) (vs:Jn) (H:Hp) (Q:VK) (_:XK):Prop
 | mk (g:Rg) (B:Hp) (L:Jm) (ws:Jf) (p:Nat) (b:Int) (R:Rdg) (i:Nat) (n1 n2:Int) (r1 r2 r:Jf) (_:vs=[.ref g.r]) (_:g.C=C) (_:RAt B g ws p b L H) (_:RdAt B g R) (_:Xa R (ws.drop p)=.ok (i,r1)) (_:YT (-400) 400 r1=.ok (n1,r2)) (_:YT (-9223372036854775808) 9223372036854775807 r2=.ok (n2,r)) (_:Yg ws) (_:∀ B' H' p' y,Same B B'->RAt B' g ws p' b L H'->ws.drop p'=r->F2.FormAt c B' (.shi i n1 n2) y->Q (.ref y) H')
def zad {C:Ad} {c:F2.Cs} {t1 t2:Tok} (d:zj K mg "read_shifted" xu Ua) (hFS:mg "FARTHEST_SHIFT"=Z (.int 400 t1)) (hHA:mg "HALF"=Z (.int 9223372036854775808 t2)) (hSh:mg "Shifted"=Z (.ref c.shi)) (IS:OkI P w K mg base (CXe P w base) 1 c.shi UK (XY c.shi)) (RR:Ok P w K mg base CX0 4 "read_row" Ua (spRo C)) (NU:Ok P w K mg base CX0 4 "read_number" UA (spNu C)):Ok P w K mg base CX0 5 "read_shifted" Ua (spSh C c):=by
 refine oDf d sc_read_shifted λf sA A _ s H vs Q E hr h=>?_;obtain ⟨g,B,L,ws,p,b,R,i,n1,n2,r1,r2,r,rfl,rfl,A1,RA,e1,e2,e3,wo,q⟩:=h;have hr4:Room 4 _:=hr;have hr2:Room 2 _:=hr.mono (by decide);have nd:=sc_read_shifted.nd;refine ⟨_,(zb (oRz 1 nd (zo RR hr4 (by rfl) zv (za (pv 0) zc)))
   (zb (oRz 2 nd (zo NU hr4 (by rfl) zv (za (pv 0) (za (Ym ZA (yt hFS)) (za (yt hFS) zc)))))
   (ze (zm (y8 IS hSh hr2 (by rfl) zU (za (pv 1) (za (pv 2) (za (zo NU hr4 (by rfl) zv (za (pv 0) (za (Ym ZA (yt hHA)) (za (zq Xc (yt hHA) zd) zc)))) zc)))))))),?_⟩
 refine ⟨_,U,g,B,L,ws,p,b,R,i,r1,U,U,A1,RA.r,e1,wo,λB1 H1 s1 A2 er=>?_⟩;refine ⟨_,U,_,U,g,B1,L,ws,p+1,b,-400,400,n1,r2,U,U,A2,by rw [er];exact e2,wo,λB2 H2 s2 A3 er2=>?_⟩;refine ⟨_,U,_,U,_,U,_,U,_,_,U,U,g,B2,L,ws,p+1+1,b,_,_,n2,r,U,U,A3,by rw [er2];exact e3,wo,λB3 H3 s3 A4 er3=>?_⟩;refine λx dx nx ndx ne=>⟨x,dx,_,_,_,U,zg,λH4 k4 ex=>?_⟩;obtain ⟨B4,s4,e4,A5⟩:=A4.made nx ndx ne k4 ex;exact ⟨U,q B4 H4 _ x (s1.trans (s2.trans (s3.trans s4))) A5 er3 ⟨dx,e4⟩⟩
theorem Xg (n:Str):∀ (ts:Jg) (l:List (Str×Nat)),ts.length=l.length->zN (y9 ts l) (.inr n)=((plc n (l.map uu)).bind λj=>ts[j]?).map V.ref
 | [],[],_=>rfl
 | t::ts,x::l,e=>by
  have ih:=Xg n ts l (wm e);rw [tz];unfold plc;by_cases h:x.1=n
  .rw [if_pos h]
   show zN (((wL x.1:Key),V.ref t)::y9 ts l) _=_;simp [zN,h]
  .rw [if_neg h]
   have e:zN (y9 (t::ts) (x::l)) (.inr n)=zN (y9 ts l) (.inr n):=by
    show zN (((wL x.1:Key),V.ref t)::y9 ts l) _=_;simp [zN,h]
   rw [e,ih]
   cases plc n (l.map uu) with
   | none=>rfl
   | some j=>rfl
theorem plc_lt {n:Str}:∀ {l:Jf} {i:Nat},plc n l=Z i->i<l.length
 | [],_,h=>by cases h
 | x::l,i,h=>by
  unfold plc at h;by_cases e:x=n
  .rw [if_pos e] at h;cases h;exact Nat.succ_pos _
  .rw [if_neg e] at h
   obtain ⟨j,ej,rfl⟩:=uV.mp h;exact Nat.succ_lt_succ (plc_lt ej)
def RAt.made2 {B:Hp} {g:Rg} {ws:Jf} {p:Nat} {b:Int} {L:Jm} {H H2:Hp} {C x dx l:Ad} {ox ol:HO} (h:RAt B g ws p b L H) (nx:H x=Y) (ndx:H dx=Y) (nl:upd (upd H dx (.own x)) x (.ins C dx []) l=Y) (k:∀ b u,b≠x->upd (upd H dx (.own x)) x (.ins C dx []) b=Z u->H2 b=Z u) (el:H2 l=Z ol) (ex:H2 x=Z ox):∃ B',Same B B'/\B' x=Z ox/\B' l=Z ol/\RAt B' g ws p b L H2:=by
 have lx:l≠x:=λz=>by rw [z,zg] at nl;cases nl
 have nl1:H l=Y:=by
  rw [zt lx] at nl;by_cases z:l=dx
  .rw [z,zg] at nl;cases nl
  .rwa [zt z] at nl
 have k2:∀ b u,H b=Z u->H2 b=Z u:=λb u e=>k b u (zz e nx) (by rw [zt (zz e nx),zt (zz e ndx)];exact e)
 have n1:B x=Y:=by
  cases r:B x with
  | none=>rfl
  | some o=>have:=h.h.sm _ _ r;rw [nx] at this;cases this
 have n2:B l=Y:=by
  cases r:B l with
  | none=>rfl
  | some o=>have:=h.h.sm _ _ r;rw [nl1] at this;cases this
 have sB:Same B (upd (upd B l ol) x ox):=(yj (Same.refl _) n2).trans (yj (Same.refl _) (by rw [zt (vQ lx)];exact n1));refine ⟨upd (upd B l ol) x ox,sB,zg,by rw [zt lx];exact zg,⟨h.h.nd,λq m=>?_,λq m=>k2 _ _ (h.h.st q m),λb u e=>?_⟩,sB _ _ h.w,h.l⟩
 .have:=h.h.st q m
  rw [zt (zz this nx),zt (zz this nl1)];exact h.h.nw q m
 .by_cases z:b=x
  .subst z;rw [zg] at e;rw [ex];exact e
  .rw [zt z] at e
   by_cases z2:b=l
   .subst z2;rw [zg] at e;rw [el];exact e
   .rw [zt z2] at e;exact k2 _ _ (h.h.sm _ _ e)
theorem ze7 {c:F2.Cs} {H:Hp}:∀ {fs:List F2.Fm} {ys:Jg},Paired (F2.FormAt c H) fs ys->F2.FormsAt c H (fmsOf fs) ys
 | [],[],_=>rfl
 | _::_,_::_,.cons h t=>⟨_,_,U,h,ze7 t⟩
inductive spCa (C:Ad) (c:F2.Cs) (n:Nat) (vs:Jn) (H:Hp) (Q:VK) (_:XK):Prop
 | mk (g:Rg) (B:Hp) (L:Jm) (ws:Jf) (p:Nat) (R:Rdg) (nm:Str) (i:Nat) (fs:List F2.Fm) (r:Jf) (_:vs=[.ref g.r,.str nm]) (_:g.C=C) (_:RAt B g ws p (30-(n:Int)) L H) (_:RdAt B g R) (_:plc nm (R.heads.map uu)=Z i) (_:(R.heads.getD i ("",0)).2<=100) (_:Zn (zZ R n) (R.heads.getD i ("",0)).2 (ws.drop p)=.ok (fs,r)) (_:Yg ws) (_:∀ B' H' p' y,Same B B'->RAt B' g ws p' (30-(n:Int)) L H'->ws.drop p'=r->F2.FormAt c B' (.call i (fmsOf fs)) y->Q (.ref y) H')
def zdp {C:Ad} {c:F2.Cs} {n k:Nat} (hk:2<=k) (d:zj K mg "read_call" Zi Ug) (rC:RCls K C) (hCa:mg "Call"=Z (.ref c.call)) (IC:OkI P w K mg base (CXe P w base) 1 c.call UM (zat K c.call)) (FS:Ok P w K mg base CX0 k "read_forms" UO (spFs C c n)):Ok P w K mg base CX0 (k+1) "read_call" Ug (spCa C c n):=by
 refine oDf d sc_read_call λf sA A _ s H vs Q E hr h=>?_;obtain ⟨g,B,L,ws,p,R,nm,i,fs,r,rfl,rfl,A1,RA,en,h6,e2,wo,q⟩:=h;have hrk:Room k _:=hr;have hr2:Room 2 _:=hr.mono hk;have hu:=tK (tO (show 1<=64 by decide) _) hr.units;have nd:=sc_read_call.nd;obtain ⟨ts,tl,eh,et⟩:=RA.h;have il:i<R.heads.length:=by have:=plc_lt en;rwa [Ji] at this
 obtain ⟨t,eti⟩:∃ t,ts[i]?=Z t:=⟨_,sI (by omega)⟩;obtain ⟨x,ex,ett⟩:=et i t eti;have gx:R.heads.getD i ("",0)=x:=by rw [x0x,ex];rfl
 rw [gx] at h6 e2;have gv:zN (y9 ts R.heads) (.inr nm)=Z (V.ref t):=by rw [Xg nm ts R.heads tl,en];show (ts[i]?).map V.ref=_;rw [eti];rfl
 have hx:=A1.h.get 0 rfl;have dg:DGet H g.ha (.str nm) (Z (V.ref t)):=by rw [← gv];exact DGet.k (k:=.inr nm) (A1.h.sm _ _ eh)
 refine ⟨_,(zb (zB (Yj (YK hu (pv 1) (zu (pv 0) rfl)) rfl) zO zk)
   (zb (oRz 2 nd (zH hu (zu (pv 0) rfl) (pv 1) (λ_ _=>rfl)))
   (ze (zm (y8 IC hCa hr2 (by rfl) zU (za (zx zE (pv 2) zd (λ_ _=>rfl)) (za (zo FS hrk (by rfl) zv (za (pv 0) (za (zx zE (pv 2) zd (λ_ _=>rfl)) zc))) zc))))))),?_⟩
 refine ⟨_,U,_,U,g.r,g.C,g.dx,_,_,U,hx,rC.c,rC.n3,U,g.ha,_,U,dg,_,U,?_⟩;refine zy ⟨_,U,g.r,g.C,g.dx,_,_,U,hx,rC.c,rC.n3,U,_,U,g.ha,_,U,dg,?_⟩;have st:SqT K H t [.int i,.int x.2]:=SqT.of (A1.h.sm _ _ ett);refine ⟨_,U,t,_,_,_,U,U,st,U,_,U,_,U,t,_,_,_,U,U,st,U,g,B,L,ws,p,R,x.2,fs,r,U,U,A1,RA,e2,wo,h6,λB1 H1 p1 l ys s1 A2 er el pf fl=>?_⟩;have eH:=A2.h.sm _ _ el;refine λxx dx nx ndx ne=>⟨xx,dx,l,_,_,U,zg,SqL.of (by rw [zt (zz eH nx),zt (zz eH ndx)];exact eH),λH2 l2 nl2 k2 el2 ex2=>?_⟩;obtain ⟨B2,s2,e3,e4,A3⟩:=A2.made2 nx ndx nl2 k2 el2 ex2;exact ⟨U,q B2 H2 p1 xx (s1.trans s2) A3 er ⟨dx,l2,ys,e3,e4,ze7 (Paired.mapP pf λ_ _ z=>z.same s2)⟩⟩
inductive spNf (C:Ad) (c:F2.Cs) (vs:Jn) (H:Hp) (Q:VK) (_:XK):Prop
 | mk (g:Rg) (B:Hp) (L:Jm) (ws:Jf) (p:Nat) (b:Int) (R:Rdg) (nm:Str) (f:F2.Fm) (_:vs=[.ref g.r,.str nm]) (_:g.C=C) (_:RAt B g ws p b L H) (_:RdAt B g R) (_:Xb R nm=.ok f) (_:∀ B' H' y,Same B B'->RAt B' g ws p b L H'->F2.FormAt c B' f y->Q (.ref y) H')
def zbz {C:Ad} {c:F2.Cs} (d:zj K mg "named_form" Zq Ug) (rC:RCls K C) (hCe:mg "Cell"=Z (.ref c.cell)) (hLo:mg "Local"=Z (.ref c.loc)) (ICe:OkI P w K mg base (CXe P w base) 1 c.cell ["self","row"] (zeg c.cell)) (ILo:OkI P w K mg base (CXe P w base) 1 c.loc ["self","at"] (zb7 c.loc)):Ok P w K mg base CX0 3 "named_form" Ug (spNf C c):=by
 refine oDf d sc_named_form λf sA A _ s H vs Q E hr h=>?_;obtain ⟨g,B,L,ws,p,b,R,nm,fm,rfl,rfl,A1,RA,en,q⟩:=h;have hr2:Room 2 _:=hr;have hu:=tK (tO (show 1<=64 by decide) _) hr.units;have nd:=sc_named_form.nd;have hx:=A1.h.get 0 rfl;refine ⟨_,(zb (zB (yv (zp Xe (zu (pv 0) rfl) yK (zw _)) (yc (Yj (zdg hu (pv 1) (zu (pv 0) rfl)) rfl))).pt (ze (zm (y8 ICe hCe hr2 (by rfl) zU (za (zH hu (zu (pv 0) rfl) (pv 1) (λ_ _=>rfl)) zc)))) zk)
   (zb (zB (yv (zp zaj (zu (pv 0) rfl) yK (zw _)) (yc (Yj (zdg hu (pv 1) (zu (pv 0) rfl)) rfl))).pt (ze (zm (y8 ILo hLo hr2 (by rfl) zU (za (zH hu (zu (pv 0) rfl) (pv 1) (λ_ _=>rfl)) zc)))) zk)
   zO)),?_⟩
 refine ⟨_,U,g.r,g.C,g.dx,_,_,U,hx,rC.c,rC.n4,U,U,_,U,?_⟩;rcases RA.o with ⟨e1,e2⟩ | ⟨o,oa,e1,e2,e3⟩
 .unfold Xb at en
  rw [e1] at en
  obtain ⟨i,ei,rfl⟩:∃ i:Nat,plc nm R.rows=Z i/\fm=.cell i:=by
   cases hp:plc nm R.rows with
   | none=>rw [hp] at en;cases en
   | some i=>rw [hp] at en;cases en;exact ⟨i,U,U⟩
  have gv:zN (zX 0 R.rows) (.inr nm)=Z (V.int i):=by rw [xQ,ei];show Z (V.int ((0+i:Nat):Int))=_;rw [Nat.zero_add]
  have dg:DGet H g.ra (.str nm) (Z (V.int i)):=by rw [← gv];exact DGet.k (k:=.inr nm) (A1.h.sm _ _ RA.r)
  rw [show decide (g.ov=V.non)=true from decide_eq_true e2];refine zL ⟨_,U,_,U,g.r,g.C,g.dx,_,_,U,hx,rC.c,rC.n2,U,g.ra,_,U,dg,_,U,?_⟩;refine zL ⟨_,U,g.r,g.C,g.dx,_,_,U,hx,rC.c,rC.n2,U,_,U,g.ra,_,U,dg,?_⟩;refine λx dx nx ndx ne=>⟨x,dx,_,U,zg,λH2 k2 ex=>?_⟩;obtain ⟨B2,s2,e4,A3⟩:=A1.made nx ndx ne k2 ex;exact ⟨U,q B2 H2 x s2 A3 ⟨dx,e4⟩⟩
 .unfold Xb at en
  rw [e1] at en;have en:(match plc nm o with | some i=>vy (.loc i) | none=>.error .noName:Except Er F2.Fm)=.ok fm:=en
  obtain ⟨i,ei,rfl⟩:∃ i:Nat,plc nm o=Z i/\fm=.loc i:=by
   cases hp:plc nm o with
   | none=>rw [hp] at en;cases en
   | some i=>rw [hp] at en;cases en;exact ⟨i,U,U⟩
  have gv:zN (zX 0 o) (.inr nm)=Z (V.int i):=by rw [xQ,ei];show Z (V.int ((0+i:Nat):Int))=_;rw [Nat.zero_add]
  have dg:DGet H oa (.str nm) (Z (V.int i)):=by rw [← gv];exact DGet.k (k:=.inr nm) (A1.h.sm _ _ e3)
  have hd:decide (g.ov=V.non)=false:=decide_eq_false (by rw [e2];exact λz=>by cases z);rw [hd];refine zy (zy ⟨_,U,g.r,g.C,g.dx,_,_,U,hx,rC.c,rC.n4,U,U,_,U,?_⟩);rw [hd];refine zL ⟨_,U,_,U,g.r,g.C,g.dx,_,_,U,hx,rC.c,rC.n4,U,oa,_,e2,dg,_,U,?_⟩;refine zL ⟨_,U,g.r,g.C,g.dx,_,_,U,hx,rC.c,rC.n4,U,_,U,oa,_,e2,dg,?_⟩;refine λx dx nx ndx ne=>⟨x,dx,_,U,zg,λH2 k2 ex=>?_⟩;obtain ⟨B2,s2,e4,A3⟩:=A1.made nx ndx ne k2 ex;exact ⟨U,q B2 H2 x s2 A3 ⟨dx,e4⟩⟩
structure TopHas (w:World) (K:Fg) (mg:J0) (x:Str) (a:Ad) (l:Jf):Prop where
 g:mg x=Z (.ref a)
 T:YQ w K a
 lo:(a == uN)=false
 h:∀ z,∃ r,sY K a z=Z r/\r.isSome=decide (z∈l)
def xL {α β:Type} {e:Except Er α} {f:α->Except Er β} {y:β} (h:e.bind f=.ok y):∃ x,e=.ok x/\f x=.ok y:=by
 cases e with
 | error e=>cases h
 | ok x=>exact ⟨x,U,h⟩
def spSgn:Sp:=λvs H Q _=>∃ z:Str,vs=[.str z]/\Q (.bl (decide (z∈signsL))) H
def zf5 {aS:Ad} (d:zj K mg "is_sign" YF Uj) (T:TopHas w K mg "SIGNS" aS signsL):Ok P w K mg base CX0 1 "is_sign" Uj spSgn:=by
 refine oDf d sc_is_sign λf sA A _ s H vs Q E hr h=>?_;obtain ⟨z,rfl,q⟩:=h;have nd:=sc_is_sign.nd;obtain ⟨r,e1,e2⟩:=T.h z;refine ⟨_,(ze (zm (ym XN (pv 0) (zK T.g) rfl))),?_⟩;refine ⟨_,U,z,aS,r,U,U,T.T,T.lo,e1,?_⟩;rw [e2];exact q
inductive spBe (C:Ad) (c:F2.Cs) (n:Nat) (vs:Jn) (H:Hp) (Q:VK) (_:XK):Prop
 | mk (g:Rg) (B:Hp) (L:Jm) (ws:Jf) (p:Nat) (R:Rdg) (f:F2.Fm) (r:Jf) (_:vs=[.ref g.r]) (_:g.C=C) (_:RAt B g ws p (30-(n:Int)) L H) (_:RdAt B g R) (_:Ya R (zZ R n) (ws.drop p)=.ok (f,r)) (_:Yg ws) (_:∀ B' H' p' y,Same B B'->RAt B' g ws p' (30-(n:Int)) L H'->ws.drop p'=r->F2.FormAt c B' f y->Q (.ref y) H')
def ok_behind {C:Ad} {c:F2.Cs} {n k:Nat} (hk:4<=k) (d:zj K mg "read_behind_bracket" ya Ua) (rC:RCls K C) (NW:OkM P w K mg base CX0 2 C "next_word" Uw (spNW C)) (SG:Ok P w K mg base CX0 1 "is_sign" Uj spSgn) (NM:Ok P w K mg base CX0 2 "is_name" Uj spNm) (RP:Ok P w K mg base CX0 (k+2) "read_pair" UX (spPa C c n)) (RCH:Ok P w K mg base CX0 (k+2) "read_choice" Ua (spCh C c n)) (RCA:Ok P w K mg base CX0 (k+2) "read_call" Ug (spCa C c n)) (RAT:Ok P w K mg base CX0 (k+1) "read_at" Ua (spAt C c n)) (RSH:Ok P w K mg base CX0 5 "read_shifted" Ua (spSh C c)):Ok P w K mg base CX0 (k+3) "read_behind_bracket" Ua (spBe C c n):=by
 refine oDf d sc_read_behind_bracket λf sA A _ s H vs Q E hr h=>?_;obtain ⟨g,B,L,ws,p,R,fm,r,rfl,rfl,A1,RA,en,wo,q⟩:=h;have hrk:Room (k+2) _:=hr;have hrk1:Room (k+1) _:=hr.mono (by omega);have hr5:Room 5 _:=hr.mono (by omega);have hr2:Room 2 _:=hr.mono (by omega);have hr1:Room 1 _:=hr.mono (by omega);have cC:=rC.c;have nd:=sc_read_behind_bracket.nd
 obtain ⟨x,r0,ew⟩:∃ x r0,ws.drop p=x::r0:=by
  cases hd:ws.drop p with
  | nil=>rw [hd] at en;cases en
  | cons y l=>exact ⟨y,l,U⟩
 have mx:x.length<=50000:=wo x (v0 (show x∈ws.drop p by rw [ew];exact x0z));rw [ew] at en;refine ⟨_,(zb (oRz 1 nd (Za NW cC hr2 zv (pv 0)))
   (zb (zB (zG (zo SG hr1 (by rfl) zv (za (pv 1) zc))) (ze (zm (zo RP hrk (by rfl) zv (za (pv 0) (za (pv 1) zc))))) zk)
   (zb (zB (zp zP (pv 1) zn (zw _)) (ze (zm (zo RCH hrk (by rfl) zv (za (pv 0) zc)))) zk)
   (zb (zB (zG (zo NM hr2 (by rfl) zv (za (pv 1) zc))) (ze (zm (zo RCA hrk (by rfl) zv (za (pv 0) (za (pv 1) zc))))) zk)
   (zb (zB (yv (zp zP (pv 1) zn (zw _)) (yc (zp Xe (zu (pv 0) rfl) yK (zw _)))).pt (ze (zm (zo RAT hrk1 (by rfl) zv (za (pv 0) zc)))) zk)
   (zb (zB (yv (zp zP (pv 1) zn (zw _)) (yc (zp Xe (zu (pv 0) rfl) yK (zw _)))).pt (ze (zm (zo RSH hr5 (by rfl) zv (za (pv 0) zc)))) zk)
   zO)))))),?_⟩
 show (let s1:L2.TS:=_;let s2:L2.TS:=L2.tSeq _ s1;let s3:L2.TS:=L2.tSeq _ s2;let s4:L2.TS:=L2.tSeq _ s3;let s5:L2.TS:=L2.tSeq _ s4;let s6:L2.TS:=L2.tSeq _ s5;L2.tSeq _ s6 _ _ _);intro s1 s2 s3 s4 s5 s6;refine ⟨_,U,g.r,g.dx,_,U,A1.h.get 0 rfl,U,g,B,L,ws,p,_,x,r0,U,U,A1,ew,λH1 A2 er=>?_⟩;subst er;have en:(if x∈signsL then (Zn (zZ R n) 2 (ws.drop (p+1))).bind λy=>(.ok (.pair x (y.1.getD 0 .here) (y.1.getD 1 .here),y.2):Pr F2.Fm)
  else if x="if" then (Zn (zZ R n) 3 (ws.drop (p+1))).bind λy=>.ok (.cho (y.1.getD 0 .here) (y.1.getD 1 .here) (y.1.getD 2 .here),y.2)
  else if Z1 x=true then match plc x (R.heads.map uu) with
   | some i=>(Zn (zZ R n) (R.heads.getD i ("",0)).2 (ws.drop (p+1))).bind λy=>.ok (.call i (fmsOf y.1),y.2)
   | none=>.error .noName
  else if x="at"/\R.own=Y then (Xa R (ws.drop (p+1))).bind λx=>(zZ R n x.2).bind λy=>.ok (.at' x.1 y.1,y.2)
  else if x="shift"/\R.own=Y then (Xa R (ws.drop (p+1))).bind λx=>(YT (-400) 400 x.2).bind λy=>(YT (-9223372036854775808) 9223372036854775807 y.2).bind λz=>.ok (.shi x.1 y.1 z.1,z.2)
  else .error .bad)=.ok (fm,r):=en
 refine ⟨_,U,x,U,_,U,?_⟩;by_cases hs:x∈signsL
 .rw [decide_eq_true hs]
  rw [if_pos hs] at en;obtain ⟨y,e1,e2⟩:=xL en;cases e2;exact zL ⟨_,U,_,U,g,B,L,ws,p+1,R,x,y.1,y.2,U,U,A2,RA,e1,wo,q⟩
 rw [decide_eq_false hs];rw [if_neg hs] at en;refine zy ⟨_,U,U,_,U,?_⟩;by_cases hi:x="if"
 .rw [if_pos hi] at en
  obtain ⟨y,e1,e2⟩:=xL en;cases e2;rw [decide_eq_true (congrArg V.str hi)];exact zL ⟨_,U,g,B,L,ws,p+1,R,y.1,y.2,U,U,A2,RA,e1,wo,q⟩
 rw [if_neg hi] at en;rw [decide_eq_false (λz=>hi (V.str.inj z))];refine zy ⟨_,U,x,U,tE mx (by decide),λJ sJ=>⟨_,U,?_⟩⟩;obtain ⟨B2,sB,A3⟩:=A2.over sJ;have RA2:=RA.same sB;have q2:∀ B' H' p' y,Same B2 B'->RAt B' g ws p' (30-(n:Int)) L H'->ws.drop p'=r->F2.FormAt c B' fm y->Q (.ref y) H':=λB' H' p' y s=>q B' H' p' y (sB.trans s);by_cases hn:Z1 x=true
 .rw [if_pos hn] at en
  rw [hn]
  cases hp:plc x (R.heads.map uu) with
  | none=>rw [hp] at en;cases en
  | some i =>
   rw [hp] at en;obtain ⟨y,e1,e2⟩:=xL en;cases e2
   have hm:(R.heads.getD i ("",0)).2<=100:=by
    have il:i<R.heads.length:=by have:=plc_lt hp;rwa [Ji] at this
    have:=RA.m _ (vB il);rw [x0x,sI il];exact tE this (by decide)
   exact zL ⟨_,U,_,U,g,B2,L,ws,p+1,R,x,i,y.1,y.2,U,U,A3,RA2,hp,hm,e1,wo,q2⟩
 rw [if_neg hn] at en;rw [vc.mpr hn];have hx:=A3.h.get 0 rfl
 have ho:decide (g.ov=V.non)=decide (R.own=Y):=by
  rcases RA.o with ⟨a,b⟩ | ⟨o,oa,a,b,_⟩
  .rw [a,b];rfl
  .rw [a,b];rfl
 refine zy ⟨_,U,U,_,U,?_⟩;by_cases ha:x="at"/\R.own=Y
 .rw [if_pos ha] at en
  rw [decide_eq_true (congrArg V.str ha.1)];refine zL ⟨_,U,g.r,g.C,g.dx,_,_,U,hx,rC.c,rC.n4,U,U,_,U,?_⟩;rw [ho,decide_eq_true ha.2];obtain ⟨y,e1,e2⟩:=xL en;obtain ⟨z,e3,e4⟩:=xL e2;cases e4;exact zL ⟨_,U,g,B2,L,ws,p+1,R,y.1,z.1,y.2,z.2,U,U,A3,RA2,e1,e3,wo,q2⟩
 rw [if_neg ha] at en
 have hsh:x="shift"/\R.own=Y:=by
  by_cases hh:x="shift"/\R.own=Y
  .exact hh
  .rw [if_neg hh] at en;cases en
 rw [if_pos hsh] at en;rw [decide_eq_false (λz=>by cases (V.str.inj z).symm.trans hsh.1)];refine zy (zy ⟨_,U,U,_,U,?_⟩);rw [decide_eq_true (congrArg V.str hsh.1)];refine zL ⟨_,U,g.r,g.C,g.dx,_,_,U,hx,rC.c,rC.n4,U,U,_,U,?_⟩;rw [ho,decide_eq_true hsh.2];obtain ⟨y,e1,e2⟩:=xL en;obtain ⟨z,e3,e4⟩:=xL e2;obtain ⟨u,e5,e6⟩:=xL e4;cases e6;exact zL ⟨_,U,g,B2,L,ws,p+1,_,R,y.1,z.1,u.1,y.2,z.2,u.2,U,U,A3,RA2,e1,e3,e5,wo,q2⟩
inductive spBr (C:Ad) (c:F2.Cs) (n:Nat) (vs:Jn) (H:Hp) (Q:VK) (_:XK):Prop
 | mk (g:Rg) (B:Hp) (L:Jm) (ws:Jf) (p:Nat) (R:Rdg) (f:F2.Fm) (r0 r:Jf) (_:vs=[.ref g.r]) (_:g.C=C) (_:RAt B g ws p (30-((n+1:Nat):Int)) L H) (_:RdAt B g R) (_:Ya R (zZ R n) (ws.drop p)=.ok (f,r0)) (h4':pWord ")" r0=.ok ((),r)) (_:Yg ws) (_:∀ B' H' p' y,Same B B'->RAt B' g ws p' (30-((n+1:Nat):Int)) L H'->ws.drop p'=r->F2.FormAt c B' f y->Q (.ref y) H')
def zgc {C:Ad} {c:F2.Cs} {n k:Nat} {t1:Tok} (hk:4<=k) (d:zj K mg "read_bracket" yQ Ua) (rC:RCls K C) (hMB:mg "MOST_BRACKETS"=Z (.int 30 t1)) (RW:Ok P w K mg base CX0 3 "read_word" Ul (spRW C)) (BB:Ok P w K mg base CX0 k "read_behind_bracket" Ua (spBe C c n)):Ok P w K mg base CX0 (k+1) "read_bracket" Ua (spBr C c n):=by
 refine oDf d sc_read_bracket λf sA A _ s H vs Q E hr h=>?_;obtain ⟨g,B,L,ws,p,R,fm,r0,r,rfl,rfl,A1,RA,en,ec,wo,q⟩:=h;have hrk:Room k _:=hr;have hr3:Room 3 _:=hr.mono (by omega);have nd:=sc_read_bracket.nd;have hx:=A1.h.get 0 rfl;refine ⟨_,(zb (zB (zp zP (zu (pv 0) rfl) (yt hMB) (zw _)) zO zk)
   (zb (zF (pv 0) (zq yh (zu (pv 0) rfl) zd) rfl)
   (zb (oRz 1 nd (zo BB hrk (by rfl) zv (za (pv 0) zc)))
   (zb (zC (zo RW hr3 (by rfl) zv (za (pv 0) (za zn zc))))
   (zb (zF (pv 0) (zq Xc (zu (pv 0) rfl) zd) rfl)
   (ze (zm (pv 1)))))))),?_⟩
 show (let s1:L2.TS:=_;let s2:L2.TS:=L2.tSeq _ s1;let s3:L2.TS:=L2.tSeq _ s2;let s4:L2.TS:=L2.tSeq _ s3;let s5:L2.TS:=L2.tSeq _ s4;L2.tSeq _ s5 _ _ _);intro s1 s2 s3 s4 s5;refine ⟨_,U,g.r,g.C,g.dx,_,_,U,hx,rC.c,rC.n6,U,U,_,U,?_⟩;rw [decide_eq_false (λz=>by have:=V.int.inj z;omega)];refine zy ⟨_,U,g.r,g.C,g.dx,_,_,U,hx,rC.c,rC.n6,U,_,_,U,U,_,U,g.r,g.C,g.dx,_,U,hx,rC.c,rC.n6,(by show 7<1000;decide),?_⟩;have e1:(30:Int)-((n+1:Nat):Int)+1=30-(n:Int):=by omega
 have A2:RAt B g ws p (30-(n:Int)) L (upd H g.r (g.o p ((30:Int)-((n+1:Nat):Int)+1))):=by
  rw [e1];exact ⟨A1.h.put 0 rfl,A1.w,A1.l⟩
 refine ⟨_,U,g,B,L,ws,p,R,fm,r0,U,U,A2,RA,en,wo,λB' H' p' y sB A3 er fy=>?_⟩
 obtain ⟨rfl⟩:r0=(")":Str)::r:=by
  cases r0 with
  | nil=>cases ec
  | cons z l =>
   have ec:(if z=")" then .ok ((),l) else .error .bad:Pr Unit)=.ok ((),r):=ec;by_cases hz:z=")"
   .rw [if_pos hz] at ec;cases ec;rw [hz]
   .rw [if_neg hz] at ec;cases ec
 refine ⟨_,U,g,B',L,ws,p',_,")",r,U,U,A3,er,λH2 A4 er2=>?_⟩;have hx2:=A4.h.get 0 rfl;refine ⟨_,U,g.r,g.C,g.dx,_,_,U,hx2,rC.c,rC.n6,U,_,_,U,U,_,U,g.r,g.C,g.dx,_,U,hx2,rC.c,rC.n6,(by show 7<1000;decide),?_⟩;have e2:(30:Int)-(n:Int)-1=30-((n+1:Nat):Int):=by omega
 have A5:RAt B' g ws (p'+1) (30-((n+1:Nat):Int)) L (upd H2 g.r (g.o ((p'+1:Nat):Int) ((30:Int)-(n:Int)-1))):=by
  rw [e2];exact ⟨A4.h.put 0 rfl,A4.w,A4.l⟩
 exact ⟨_,U,q B' _ (p'+1) y sB A5 er2 fy⟩
def zcz:Sp:=λ_ _ _ _=>False
def ok_nevr {nm:Str} {ps N:Jf} {st:Stmt} {k:Nat} (d:zj K mg nm st ps) (sc:FnScope N ps (zf st)):Ok P w K mg base CX0 (k+1) nm ps zcz:=by
 obtain ⟨f,fd,m,F,b⟩:=d;exact ⟨f,fd,m,F.kp,b,F.ok sc (λ_ _ _ _ h=>h.elim) λ_ _ _ _ _ _ _ _ _ h=>h.elim⟩
def spBrN (C:Ad) (c:F2.Cs):Nat->Sp
 | 0=>zcz
 | n+1=>spBr C c n
def Xu {C:Ad} {c:F2.Cs} {n k:Nat} (hk:3<=k) (d:zj K mg "read_form" Zh Ua) (rC:RCls K C) (mN:MkN K c.here) (hHe:mg "Here"=Z (.ref c.here)) (hNu:mg "Number"=Z (.ref c.num)) (INu:OkI P w K mg base (CXe P w base) 1 c.num UT (Y3 c.num)) (NW:OkM P w K mg base CX0 2 C "next_word" Uw (spNW C)) (NM:Ok P w K mg base CX0 2 "is_name" Uj spNm) (NI:Ok P w K mg base CX0 3 "number_in" Uj spNi) (NF:Ok P w K mg base CX0 3 "named_form" Ug (spNf C c)) (BR:Ok P w K mg base CX0 k "read_bracket" Ua (spBrN C c n)):Ok P w K mg base CX0 (k+1) "read_form" Ua (spFm C c n):=by
 refine oDf d sc_read_form λf sA A _ s H vs Q E hr h=>?_;obtain ⟨g,B,L,ws,p,R,fm,r,rfl,rfl,A1,RA,en,wo,q⟩:=h;have hrk:Room k _:=hr;have hr3:Room 3 _:=hr.mono (by omega);have hr2:Room 2 _:=hr.mono (by omega);have cC:=rC.c;have nd:=sc_read_form.nd
 obtain ⟨x,r0,ew⟩:∃ x r0,ws.drop p=x::r0:=by
  cases hd:ws.drop p with
  | nil=>rw [hd] at en;unfold zZ at en;cases en
  | cons y l=>exact ⟨y,l,U⟩
 have mx:x.length<=50000:=wo x (v0 (show x∈ws.drop p by rw [ew];exact x0z));rw [ew] at en;unfold zZ at en;refine ⟨_,(zb (oRz 1 nd (Za NW cC hr2 zv (pv 0)))
   (zb (zB (zp zP (pv 1) zn (zw _)) (ze (zm (zo BR hrk (by rfl) zv (za (pv 0) zc)))) zk)
   (zb (zB (zp zP (pv 1) zn (zw _)) (ze (zm (pe_makeN mN (by rfl) hHe))) zk)
   (zb (zB (zG (zo NM hr2 (by rfl) zv (za (pv 1) zc))) (ze (zm (zo NF hr3 (by rfl) zv (za (pv 0) (za (pv 1) zc))))) zk)
   (zb (oRz 2 nd (zo NI hr3 (by rfl) zv (za (pv 1) zc)))
   (zb (zB (zp Xe (pv 2) yK (zw _)) zO zk)
   (ze (zm (y8 INu hNu hr2 (by rfl) zU (za (pv 2) zc)))))))))),?_⟩
 show (let s1:L2.TS:=_;let s2:L2.TS:=L2.tSeq _ s1;let s3:L2.TS:=L2.tSeq _ s2;let s4:L2.TS:=L2.tSeq _ s3;let s5:L2.TS:=L2.tSeq _ s4;let s6:L2.TS:=L2.tSeq _ s5;L2.tSeq _ s6 _ _ _);intro s1 s2 s3 s4 s5 s6;refine ⟨_,U,g.r,g.dx,_,U,A1.h.get 0 rfl,U,g,B,L,ws,p,_,x,r0,U,U,A1,ew,λH1 A2 er=>?_⟩;subst er;refine ⟨_,U,U,_,U,?_⟩;by_cases hb:x="("
 .rw [if_pos hb] at en
  rw [decide_eq_true (congrArg V.str hb)]
  cases n with
  | zero=>cases en
  | succ n =>
   obtain ⟨y,e1,e2⟩:=xL en;obtain ⟨z,e3,e4⟩:=xL e2;cases e4;exact zL ⟨_,U,g,B,L,ws,p+1,R,y.1,y.2,z.2,U,U,A2,RA,e1,e3,wo,q⟩
 rw [if_neg hb] at en;rw [decide_eq_false (λz=>hb (V.str.inj z))];refine zy ⟨_,U,U,_,U,?_⟩;by_cases hh:x="here"
 .rw [if_pos hh] at en
  cases en;rw [decide_eq_true (congrArg V.str hh)];refine zL λy dx nx ndx ne=>?_;obtain ⟨B2,s2,e4,A3⟩:=A2.made nx ndx ne (λ_ _ _ e=>e) zg;exact q B2 _ (p+1) y s2 A3 rfl ⟨dx,e4⟩
 rw [if_neg hh] at en;rw [decide_eq_false (λz=>hh (V.str.inj z))];refine zy ⟨_,U,x,U,tE mx (by decide),λJ sJ=>⟨_,U,?_⟩⟩;obtain ⟨B2,sB,A3⟩:=A2.over sJ;have RA2:=RA.same sB;by_cases hn:Z1 x=true
 .rw [if_pos hn] at en
  rw [hn];obtain ⟨y,e1,e2⟩:=xL en;cases e2;exact zL ⟨_,U,_,U,g,B2,L,ws,p+1,_,R,x,fm,U,U,A3,RA2,e1,λB3 H3 z s3 A4 fz=>q B3 H3 _ z (sB.trans s3) A4 rfl fz⟩
 rw [if_neg hn] at en;rw [vc.mpr hn];refine zy ⟨_,U,x,U,tE mx (by decide),λJ2 sJ2=>?_⟩;obtain ⟨B3,sB3,A4⟩:=A3.over sJ2
 cases hi:YX x with
 | none=>rw [hi] at en;cases en
 | some i =>
  rw [hi] at en;cases en;refine ⟨_,U,U,_,U,?_⟩;rw [show decide (numV (Z i)=V.non)=false from decide_eq_false (λz=>by cases z)];refine zy ⟨_,U,λy dx nx ndx ne=>⟨y,dx,_,U,zg,λH2 k2 ex=>?_⟩⟩;obtain ⟨B4,s4,e4,A5⟩:=A4.made nx ndx ne k2 ex;exact ⟨U,q B4 H2 (p+1) y (sB.trans (sB3.trans s4)) A5 rfl ⟨dx,e4⟩⟩
structure Dg where
 C:Ad
 d:Ad
 dd:Ad
 ra:Ad
 la:Ad
 ha:Ad
 fa:Ad
 ta:Ad
 va:Ad
 na:Ad
abbrev Dg.o (g:Dg):HO:=.ins g.C g.dd [("rows",.ref g.ra),("lengths",.ref g.la),("heads",.ref g.ha),("functions",.ref g.fa),("tills",.ref g.ta),("levels",.ref g.va),("lines",.ref g.na)]
structure DCls (K:Fg) (C:Ad):Prop where
 c:Cls K C
 n0:NoAttr K C "rows"
 n1:NoAttr K C "lengths"
 n2:NoAttr K C "heads"
 n3:NoAttr K C "functions"
 n4:NoAttr K C "tills"
 n5:NoAttr K C "levels"
 n6:NoAttr K C "lines"
structure Dr where
 rows:Jf
 lens:Jb
 heads:List (Str×Nat)
 fns:List F2.Fn
abbrev Dg.L (g:Dg) (ts us:Jg) (D:Dr):Jm:=[(g.ra,.dK (zX 0 D.rows)),(g.la,.lst (D.lens.map V.int)),(g.ha,.dK (y9 ts D.heads)),(g.fa,.lst (us.map V.ref))]
structure DrAt (B:Hp) (c:F2.Cs) (g:Dg) (D:Dr) (ts us:Jg):Prop where
 d:B g.d=Z g.o
 tl:ts.length=D.heads.length
 t:∀ (i:Nat) t,ts[i]?=Z t->∃ x,D.heads[i]?=Z x/\B t=Z (.tup [.int i,.int x.2])
 ul:us.length=D.fns.length
 u:∀ (i:Nat) u,us[i]?=Z u->∃ fn y,D.fns[i]?=Z fn/\B u=Z (.tup [.int fn.1,.ref y])/\F2.FormAt c B fn.2 y
 hf:D.heads.length=D.fns.length
 rl:D.rows.length=D.lens.length
 r12:D.rows.length<=12
 f8:D.fns.length<=8
 m:∀ x∈D.heads,x.2<=6
def DrAt.same {B B':Hp} {c:F2.Cs} {g:Dg} {D:Dr} {ts us:Jg} (h:DrAt B c g D ts us) (s:Same B B'):DrAt B' c g D ts us:=by
 refine ⟨s _ _ h.d,h.tl,λi t e=>?_,h.ul,λi u e=>?_,h.hf,h.rl,h.r12,h.f8,h.m⟩
 .obtain ⟨x,a,b⟩:=h.t i t e
  exact ⟨x,a,s _ _ b⟩
 .obtain ⟨fn,y,a,b,d⟩:=h.u i u e
  exact ⟨fn,y,a,s _ _ b,d.same s⟩
theorem X1 (x:Str):∀ (l:Jf) (i:Nat),zX i (l++[x])=zX i l++[(.inr x,.int ((i+l.length:Nat):Int))]
 | [],i=>rfl
 | y::l,i=>by
  show _::zX (i+1) (l++[x])=_::(zX (i+1) l++_);rw [X1 x l (i+1)];congr 4;show V.int ((i+1+l.length:Nat):Int)=V.int ((i+(l.length+1):Nat):Int);congr 2;omega
theorem Xf:∀ (l:Jf) (i:Nat),(zX i l).length=l.length
 | [],_=>rfl
 | _::l,i=>congrArg (·+1) (Xf l (i+1))
def zgg {x:Str} {l:Jf} (h:plc x l=Y):z9 (zX 0 l) (.inr x) (.int l.length)=zX 0 (l++[x]):=by
 rw [Xo _ (by rw [xQ,h];rfl),X1,Nat.zero_add]
theorem YU {C:Ad} {c:F2.Cs} {t1:Tok} (dF:zj K mg "read_form" Zh Ua) (dFs:zj K mg "read_forms" xv UO) (dP:zj K mg "read_pair" Zg UX) (dC:zj K mg "read_choice" xa Ua) (dK':zj K mg "read_call" Zi Ug) (dA:zj K mg "read_at" ZZ Ua) (dBB:zj K mg "read_behind_bracket" ya Ua) (dBr:zj K mg "read_bracket" yQ Ua) (rC:RCls K C) (mN:MkN K c.here) (hlen:mg "len"=Y) (hMB:mg "MOST_BRACKETS"=Z (.int 30 t1)) (hHe:mg "Here"=Z (.ref c.here)) (hNu:mg "Number"=Z (.ref c.num)) (hPa:mg "Pair"=Z (.ref c.pair)) (hCo:mg "Choice"=Z (.ref c.cho)) (hCa:mg "Call"=Z (.ref c.call)) (hAt:mg "At"=Z (.ref c.at'))
  (INu:OkI P w K mg base (CXe P w base) 1 c.num UT (Y3 c.num)) (IP:OkI P w K mg base (CXe P w base) 1 c.pair UB (zas c.pair)) (IC:OkI P w K mg base (CXe P w base) 1 c.cho UC (Y4 c.cho)) (ICa:OkI P w K mg base (CXe P w base) 1 c.call UM (zat K c.call)) (IA:OkI P w K mg base (CXe P w base) 1 c.at' UL (spI_At c.at'))
  (NW:OkM P w K mg base CX0 2 C "next_word" Uw (spNW C)) (NM:Ok P w K mg base CX0 2 "is_name" Uj spNm) (NI:Ok P w K mg base CX0 3 "number_in" Uj spNi) (NF:Ok P w K mg base CX0 3 "named_form" Ug (spNf C c)) (SG:Ok P w K mg base CX0 1 "is_sign" Uj spSgn) (RW:Ok P w K mg base CX0 3 "read_word" Ul (spRW C)) (RR:Ok P w K mg base CX0 4 "read_row" Ua (spRo C)) (RSH:Ok P w K mg base CX0 5 "read_shifted" Ua (spSh C c)):∀ n,Ok P w K mg base CX0 (5*n+4) "read_form" Ua (spFm C c n)
 | 0=>Xu (k:=3) (by decide) dF rC mN hHe hNu INu NW NM NI NF (ok_nevr (k:=2) dBr sc_read_bracket)
 | n+1=>by
  have RF:=YU dF dFs dP dC dK' dA dBB dBr rC mN hlen hMB hHe hNu hPa hCo hCa hAt INu IP IC ICa IA NW NM NI NF SG RW RR RSH n;have FS:=zby dFs hlen RF;have RP:=zdl (by omega) dP hPa IP FS;have RCH:=za8 (by omega) dC hCo IC FS;have RCA:=zdp (by omega) dK' rC hCa ICa FS;have RAT:=zfz (by omega) dA hAt IA RR RF;have BB:=ok_behind (by omega) dBB rC NW SG NM RP RCH RCA RAT RSH;have BR:=zgc (by omega) dBr rC hMB RW BB;exact Xu (k:=5*n+8) (by omega) dF rC mN hHe hNu INu NW NM NI NF BR
inductive spWT (vs:Jn) (H:Hp) (Q:VK) (_:XK):Prop
 | mk (g:Dg) (r:V) (_:vs=[.ref g.d,r]) (_:H g.d=Z g.o) (_:H g.ta=Z (.lst [])) (_:DCls K g.C) (_:Q .non H)
def za6 (d:zj K mg "refuse_within_till" yw Uc) (hlen:mg "len"=Y):Ok P w K mg base CX0 1 "refuse_within_till" Uc (spWT (K:=K)):=by
 refine oDf d sc_refuse_within_till λf sA A _ s H vs Q E hr h=>?_;obtain ⟨g,r,rfl,hx,ht,DC,q⟩:=h;have nd:=sc_refuse_within_till.nd;refine ⟨_,(ze (zB (zp ZV (zh zr (by rfl) hlen sU (za (zu (pv 0) rfl) zc)) zd (zw _)) zO zk)),?_⟩;refine ⟨_,U,g.d,g.C,g.dd,_,_,U,hx,DC.c,DC.n4,U,g.ta,_,U,.inl (SqL.of ht),_,_,U,U,_,U,?_⟩;exact zy q
inductive spRT (C:Ad) (vs:Jn) (H:Hp) (Q:VK) (_:XK):Prop
 | mk (g:Rg) (p b:Int) (nm:Str) (k1 k2:Jl) (_:vs=[.ref g.r,.str nm]) (_:g.C=C) (_:H g.r=Z (g.o p b)) (_:H g.ra=Z (.dK k1)) (_:H g.ha=Z (.dK k2)) (_:zN k1 (.inr nm)=Y) (_:zN k2 (.inr nm)=Y) (_:Q .non H)
def ok_taken {C:Ad} (d:zj K mg "refuse_taken" xt Ug) (rC:RCls K C):Ok P w K mg base CX0 1 "refuse_taken" Ug (spRT C):=by
 refine oDf d sc_refuse_taken λf sA A _ s H vs Q E hr h=>?_;obtain ⟨g,p,b,nm,k1,k2,rfl,rfl,hx,h1,h2,e1,e2,q⟩:=h;have nd:=sc_refuse_taken.nd;have hu:=tK (tO (show 1<=64 by decide) _) hr.units;have g1:DGet H g.ra (.str nm) Y:=by rw [← e1];exact DGet.k (k:=.inr nm) h1
 have g2:DGet H g.ha (.str nm) Y:=by rw [← e2];exact DGet.k (k:=.inr nm) h2
 refine ⟨_,(ze (zB (xM (Yj (zdg hu (pv 1) (zu (pv 0) rfl)) rfl) (yS (Yj (zdg hu (pv 1) (zu (pv 0) rfl)) rfl))).pt zO zk)),?_⟩;refine ⟨_,U,_,U,g.r,g.C,g.dx,_,_,U,hx,rC.c,rC.n2,U,g.ra,_,U,g1,_,U,?_⟩;refine zy ⟨_,U,_,U,g.r,g.C,g.dx,_,_,U,hx,rC.c,rC.n3,U,g.ha,_,U,g2,_,U,?_⟩;exact zy q
end K23
namespace F2
open PySem L2
def Fms.toL:Fms->List Fm
 | .nil=>[]
 | .cons f r=>f::r.toL
def partsF:Fm->List Fm
 | .at' _ p=>[p]
 | .pair _ l r=>[l,r]
 | .cho t l r=>[t,l,r]
 | .call _ gs=>gs.toL
 | _=>[]
mutual
def nodes:Fm->Nat
 | .at' _ p=>nodes p+1
 | .pair _ l r=>nodes l+nodes r+1
 | .cho t l r=>nodes t+nodes l+nodes r+1
 | .call _ gs=>nodesL gs+1
 | _=>1
def nodesL:Fms->Nat
 | .nil=>0
 | .cons f r=>nodes f+nodesL r
end
theorem nodesL_eq:∀ gs:Fms,nodesL gs=(gs.toL.map nodes).sum
 | .nil=>by unfold nodesL;rfl
 | .cons f r=>by
  unfold nodesL;rw [nodesL_eq r];rfl
def nodes_eq (F:Fm):nodes F=((partsF F).map nodes).sum+1:=by
  cases F with
  | num n=>unfold nodes;rfl
  | here=>unfold nodes;rfl
  | cell r=>unfold nodes;rfl
  | shi r b o=>unfold nodes;rfl
  | loc a=>unfold nodes;rfl
  | at' r p=>(conv=>lhs;unfold nodes);show _=nodes p+0+1;omega
  | pair s l r=>(conv=>lhs;unfold nodes);show _=nodes l+(nodes r+0)+1;omega
  | cho t l r=>(conv=>lhs;unfold nodes);show _=nodes t+(nodes l+(nodes r+0))+1;omega
  | call a gs=>(conv=>lhs;unfold nodes);rw [nodesL_eq];rfl
def clsOf (c:Cs):Fm->Ad
 | .num _=>c.num
 | .here=>c.here
 | .cell _=>c.cell
 | .shi _ _ _=>c.shi
 | .loc _=>c.loc
 | .at' _ _=>c.at'
 | .pair _ _ _=>c.pair
 | .cho _ _ _=>c.cho
 | .call _ _=>c.call
def PartsAt (c:Cs) (H:Hp) (F:Fm) (x:Ad) (Ps:List (Fm×Ad)):Prop:=∃ dx fl,H x=Z (.ins (clsOf c F) dx fl)/\match F with
 | .at' r p=>∃ y,fl=([("row",.int r),("place",.ref y)]:List (Str×V))/\Ps=[(p,y)]
 | .pair s l r=>∃ y z,fl=([("sign",.str s),("left",.ref y),("right",.ref z)]:List (Str×V))/\Ps=[(l,y),(r,z)]
 | .cho t l r=>∃ u y z,fl=([("test",.ref u),("left",.ref y),("right",.ref z)]:List (Str×V))/\Ps=[(t,u),(l,y),(r,z)]
 | .call a gs=>∃ l,fl=([("at",.int a),("handed",.ref l)]:List (Str×V))/\H l=Z (.lst (Ps.map λp=>V.ref p.2))
 | _=>Ps=[]
def PartsAt.same {c:Cs} {H H':Hp} {F:Fm} {x:Ad} {Ps:List (Fm×Ad)} (h:PartsAt c H F x Ps) (s:Same H H'):PartsAt c H' F x Ps:=by
 obtain ⟨dx,fl,a,b⟩:=h;refine ⟨dx,fl,s _ _ a,?_⟩
 cases F with
 | call a gs=>obtain ⟨l,e,e2⟩:=b;exact ⟨l,e,s _ _ e2⟩
 | num n=>exact b
 | here=>exact b
 | cell r=>exact b
 | shi r b' o=>exact b
 | loc a=>exact b
 | at' r p=>exact b
 | pair s l r=>exact b
 | cho t l r=>exact b
theorem X5 {c:Cs} {H:Hp}:∀ {gs:Fms} {ys:Jg},FormsAt c H gs ys->∃ Ps:List (Fm×Ad),Ps.map uu=gs.toL/\Ps.map Prod.snd=ys/\∀ p∈Ps,FormAt c H p.1 p.2
 | .nil,ys,h=>by cases (show ys=[] from h);exact ⟨[],U,U,λp hp=>nomatch hp⟩
 | .cons f r,ys,h=>by
  obtain ⟨y,t,rfl,h1,h2⟩:=h;obtain ⟨Ps,a,b,d⟩:=X5 h2;refine ⟨(f,y)::Ps,by rw [tz,a];rfl,by rw [tz,b],λp hp=>?_⟩;rcases sM.mp hp with rfl | hp
  .exact h1
  .exact d p hp
def parts_at {c:Cs} {H:Hp} {F:Fm} {x:Ad} (h:FormAt c H F x):∃ Ps,PartsAt c H F x Ps/\Ps.map uu=partsF F/\∀ p∈Ps,FormAt c H p.1 p.2:=by
 cases F with
 | num n=>obtain ⟨dx,e⟩:=h;exact ⟨[],⟨dx,_,e,U⟩,U,λp hp=>nomatch hp⟩
 | here=>obtain ⟨dx,e⟩:=h;exact ⟨[],⟨dx,_,e,U⟩,U,λp hp=>nomatch hp⟩
 | cell r=>obtain ⟨dx,e⟩:=h;exact ⟨[],⟨dx,_,e,U⟩,U,λp hp=>nomatch hp⟩
 | shi r b o=>obtain ⟨dx,e⟩:=h;exact ⟨[],⟨dx,_,e,U⟩,U,λp hp=>nomatch hp⟩
 | loc a=>obtain ⟨dx,e⟩:=h;exact ⟨[],⟨dx,_,e,U⟩,U,λp hp=>nomatch hp⟩
 | at' r p =>
  obtain ⟨dx,y,e,f⟩:=h;exact ⟨[(p,y)],⟨dx,_,e,y,U,U⟩,U,λq hq=>by cases sG.mp hq;exact f⟩
 | pair s l r =>
  obtain ⟨dx,y,z,e,f,g⟩:=h;refine ⟨[(l,y),(r,z)],⟨dx,_,e,y,z,U,U⟩,U,λq hq=>?_⟩;simp only [sM,tM,or_false] at hq;rcases hq with rfl | rfl
  .exact f
  .exact g
 | cho t l r =>
  obtain ⟨dx,u,y,z,e,d,f,g⟩:=h;refine ⟨[(t,u),(l,y),(r,z)],⟨dx,_,e,u,y,z,U,U⟩,U,λq hq=>?_⟩;simp only [sM,tM,or_false] at hq;rcases hq with rfl | rfl | rfl
  .exact d
  .exact f
  .exact g
 | call a gs =>
  obtain ⟨dx,l,ys,e,el,f⟩:=h;obtain ⟨Ps,p1,p2,p3⟩:=X5 f;refine ⟨Ps,⟨dx,_,e,l,U,?_⟩,p1,p3⟩;rw [el,← p2,ug];rfl
end F2
namespace K23
open PySem L2 FM
structure KForm (K:Fg) (c:F2.Cs) (C:Ad) (bA bP bO bK:Bool):Prop where
 cl:Cls K C
 k1:t6 K (.ref C) "__class__"=Z (Z (.builtin "object.__class__"))
 k2:tP K (.builtin "object.__class__") "__get__"=Z (Z (.builtin "getset_descriptor.__get__"))
 k3:tT K (.builtin "object.__class__")=Z true
 k4:u9 K C (.type "object")=Z true
 a:sC K (.ref C) (.ref c.at')=Z bA
 p:sC K (.ref C) (.ref c.pair)=Z bP
 o:sC K (.ref C) (.ref c.cho)=Z bO
 k:sC K (.ref C) (.ref c.call)=Z bK
def KForm.ty {K:Fg} {c:F2.Cs} {C:Ad} {bA bP bO bK:Bool} (s:KForm K c C bA bP bO bK) {H:Hp} {x dx:Ad} {fl:List (Str×V)} (h:H x=Z (.ins C dx fl)):TyX K H (.ref x) (.ref C):=.inl (.ins h s.cl s.k1 s.k2 s.k3 s.k4)
structure LooksK (K:Fg) (c:F2.Cs):Prop where
 num:KForm K c c.num false false false false
 here:KForm K c c.here false false false false
 cell:KForm K c c.cell false false false false
 shi:KForm K c c.shi false false false false
 loc:KForm K c c.loc false false false false
 at':KForm K c c.at' true false false false
 pair:KForm K c c.pair false true false false
 cho:KForm K c c.cho false false true false
 call:KForm K c c.call false false false true
 aP:NoAttr K c.at' "place"
 pL:NoAttr K c.pair "left"
 pR:NoAttr K c.pair "right"
 oT:NoAttr K c.cho "test"
 oL:NoAttr K c.cho "left"
 oR:NoAttr K c.cho "right"
 kH:NoAttr K c.call "handed"
 kA:NoAttr K c.call "at"
end K23
namespace F2
def isAt:Fm->Bool
 | .at' _ _=>true
 | _=>false
def isPair:Fm->Bool
 | .pair _ _ _=>true
 | _=>false
def isCho:Fm->Bool
 | .cho _ _ _=>true
 | _=>false
def isCall:Fm->Bool
 | .call _ _=>true
 | _=>false
end F2
namespace K23
open PySem L2 FM
def LooksK.of {K:Fg} {c:F2.Cs} (L:LooksK K c) (F:F2.Fm):KForm K c (F2.clsOf c F) (F2.isAt F) (F2.isPair F) (F2.isCho F) (F2.isCall F):=by
 cases F with
 | num n=>exact L.num
 | here=>exact L.here
 | cell r=>exact L.cell
 | shi r b o=>exact L.shi
 | loc a=>exact L.loc
 | at' r p=>exact L.at'
 | pair s l r=>exact L.pair
 | cho t l r=>exact L.cho
 | call a gs=>exact L.call
section
variable {K:Fg} {base:Heap}
inductive spParts (c:F2.Cs) (vs:Jn) (H:Hp) (Q:VK) (_:XK):Prop
 | mk (x:Ad) (F:F2.Fm) (Ps:List (F2.Fm×Ad)) (_:vs=[.ref x]) (_:F2.PartsAt c H F x Ps) (_:∀ H' l,Hd H [(l,.lst (Ps.map λp=>V.ref p.2))] H'->Q (.ref l) H')
def ok_parts {c:F2.Cs} (d:zj K mg "parts_of" Z5 UP) (hisi:mg "isinstance"=Y) (hlist:mg "list"=Y) (hAt:mg "At"=Z (.ref c.at')) (hPa:mg "Pair"=Z (.ref c.pair)) (hCo:mg "Choice"=Z (.ref c.cho)) (hCa:mg "Call"=Z (.ref c.call)) (L:LooksK K c):Ok P w K mg base (CXe P w base) 1 "parts_of" UP (spParts c):=by
 refine oDe d zeh λg sA A _ s H vs Q E hr h=>?_;obtain ⟨x,G,Ps,rfl,⟨dx,fl,hx,hp⟩,q⟩:=h;refine ⟨_,(zb (zB (zG (zh zA (by rfl) hisi sF (za (pv 0) (za (zK hAt) zc)))) (ze (zm (zJ (za (zu (pv 0) rfl) zc)))) zk)
   (zb (zB (zG (zh zA (by rfl) hisi sF (za (pv 0) (za (zK hPa) zc)))) (ze (zm (zJ (za (zu (pv 0) rfl) (za (zu (pv 0) rfl) zc))))) zk)
   (zb (zB (zG (zh zA (by rfl) hisi sF (za (pv 0) (za (zK hCo) zc)))) (ze (zm (zJ (za (zu (pv 0) rfl) (za (zu (pv 0) rfl) (za (zu (pv 0) rfl) zc)))))) zk)
   (zb (zB (zG (zh zA (by rfl) hisi sF (za (pv 0) (za (zK hCa) zc)))) (ze (zm (z8 yZ (by rfl) hlist tZ (za (zu (pv 0) rfl) zc)))) zk)
   (ze (zm (zJ zc))))))),?_⟩
 show (let s1:L2.TS:=_;let s2:L2.TS:=L2.tSeq _ s1;let s3:L2.TS:=L2.tSeq _ s2;let s4:L2.TS:=L2.tSeq _ s3;L2.tSeq _ s4 _ _ _);intro s1 s2 s3 s4;by_cases hl:∃ C,KForm K c C false false false false/\H x=Z (.ins C dx fl)/\Ps=[]
 .obtain ⟨C,s,hx,e⟩:=hl
  refine ⟨_,U,_,_,.ref c.at',_,false,U,U,(λu r=>r),s.ty hx,s.a,false,U,zy ?_⟩;refine ⟨_,U,_,_,.ref c.pair,_,false,U,U,(λu r=>r),s.ty hx,s.p,false,U,zy ?_⟩;refine ⟨_,U,_,_,.ref c.cho,_,false,U,U,(λu r=>r),s.ty hx,s.o,false,U,zy ?_⟩;refine ⟨_,U,_,_,.ref c.call,_,false,U,U,(λu r=>r),s.ty hx,s.k,false,U,zy ?_⟩;exact ⟨(by show 0<=sL;decide),λl nl=>q _ l (by subst e;exact Hd.base.new nl)⟩
 cases G with
 | num n=>exact absurd ⟨_,L.num,hx,hp⟩ hl
 | here=>exact absurd ⟨_,L.here,hx,hp⟩ hl
 | cell r=>exact absurd ⟨_,L.cell,hx,hp⟩ hl
 | shi r b o=>exact absurd ⟨_,L.shi,hx,hp⟩ hl
 | loc a=>exact absurd ⟨_,L.loc,hx,hp⟩ hl
 | at' r p =>
  obtain ⟨y,rfl,rfl⟩:=hp;refine ⟨_,U,_,_,.ref c.at',_,true,U,U,(λu r=>r),L.at'.ty hx,L.at'.a,true,U,zL ?_⟩;exact ⟨_,U,x,_,dx,_,.ref y,U,hx,L.at'.cl,L.aP,U,(by show 1<=sL;decide),λl nl=>q _ l (Hd.base.new nl)⟩
 | pair s' l' r' =>
  obtain ⟨y,z,rfl,rfl⟩:=hp;refine ⟨_,U,_,_,.ref c.at',_,false,U,U,(λu r=>r),L.pair.ty hx,L.pair.a,false,U,zy ?_⟩;refine ⟨_,U,_,_,.ref c.pair,_,true,U,U,(λu r=>r),L.pair.ty hx,L.pair.p,true,U,zL ?_⟩;exact ⟨_,U,x,_,dx,_,.ref y,U,hx,L.pair.cl,L.pL,U,_,U,x,_,dx,_,.ref z,U,hx,L.pair.cl,L.pR,U,(by show 2<=sL;decide),λl nl=>q _ l (Hd.base.new nl)⟩
 | cho t l' r' =>
  obtain ⟨u,y,z,rfl,rfl⟩:=hp;refine ⟨_,U,_,_,.ref c.at',_,false,U,U,(λu r=>r),L.cho.ty hx,L.cho.a,false,U,zy ?_⟩;refine ⟨_,U,_,_,.ref c.pair,_,false,U,U,(λu r=>r),L.cho.ty hx,L.cho.p,false,U,zy ?_⟩;refine ⟨_,U,_,_,.ref c.cho,_,true,U,U,(λu r=>r),L.cho.ty hx,L.cho.o,true,U,zL ?_⟩;exact ⟨_,U,x,_,dx,_,.ref u,U,hx,L.cho.cl,L.oT,U,_,U,x,_,dx,_,.ref y,U,hx,L.cho.cl,L.oL,U,_,U,x,_,dx,_,.ref z,U,hx,L.cho.cl,L.oR,U,(by show 3<=sL;decide),λl nl=>q _ l (Hd.base.new nl)⟩
 | call a gs =>
  obtain ⟨hd,rfl,el⟩:=hp;refine ⟨_,U,_,_,.ref c.at',_,false,U,U,(λu r=>r),L.call.ty hx,L.call.a,false,U,zy ?_⟩;refine ⟨_,U,_,_,.ref c.pair,_,false,U,U,(λu r=>r),L.call.ty hx,L.call.p,false,U,zy ?_⟩;refine ⟨_,U,_,_,.ref c.cho,_,false,U,U,(λu r=>r),L.call.ty hx,L.call.o,false,U,zy ?_⟩;refine ⟨_,U,_,_,.ref c.call,_,true,U,U,(λu r=>r),L.call.ty hx,L.call.k,true,U,zL ?_⟩;exact ⟨_,U,x,_,dx,_,.ref hd,U,hx,L.call.cl,L.kH,U,hd,_,U,.inl (SqL.of el),λl nl=>q _ l (Hd.base.new nl)⟩
def SumP (Ps:List (F2.Fm×Ad)) (F:F2.Fm):Prop:=∀ (own φ:F2.Fm->Int),(∀ G,φ G=own G+((F2.partsF G).map φ).sum)->(Ps.map λp=>own p.1).sum=φ F
def HerP (Ps:List (F2.Fm×Ad)) (F:F2.Fm):Prop:=∀ R:F2.Fm->Prop,(∀ G,R G->∀ g∈F2.partsF G,R g)->R F->∀ p∈Ps,R p.1
inductive spWithin (c:F2.Cs) (vs:Jn) (H:Hp) (Q:VK) (_:XK):Prop
 | mk (x:Ad) (F:F2.Fm) (B:Hp) (_:vs=[.ref x]) (_:Same B H) (_:F2.FormAt c B F x) (_:F2.nodes F<=2000) (_:∀ H' l Ps,Hd H [(l,.lst (Ps.map λp=>V.ref p.2))] H'->(∀ p∈Ps,F2.FormAt c B p.1 p.2)->Ps.length=F2.nodes F->SumP Ps F->HerP Ps F->Q (.ref l) H')
def ok_within {c:F2.Cs} (d:zj K mg "forms_within" xw UP) (hlen:mg "len"=Y) (PO:Ok P w K mg base (CXe P w base) 1 "parts_of" UP (spParts c)):Ok P w K mg base CX0 2 "forms_within" UP (spWithin c):=by
 refine oDf d sc_forms_within λg sA A _ s H vs Q E hr h=>?_;obtain ⟨x,G,B,rfl,sB,hx,hn,q⟩:=h;have nd:=sc_forms_within.nd;have hr1:=hr;have SL:(3000:Nat)<sizeLine:=by decide
 refine ⟨_,(zb (oRz 1 nd (zJ (za (pv 0) zc)))
   (zb (oRz 2 nd zd)
   (zb (Yk tY (zp za5 (pv 2) (zh zr (by rfl) hlen sU (za (pv 1) zc)) (zw _)) (zb (zC (yz sQ PySem.F.slot_list_extend PySem.F.type_list_extend zcd (pv 1) (za (zo PO hr1 (by rfl) zU (za (zx zD (pv 1) (pv 2) (λ_ _=>rfl)) zc)) zc)))
   (ze (oRz 2 nd (zq yh (pv 2) zd)))))
   (ze (zm (pv 1)))))),?_⟩
 show (let s1:L2.TS:=_;let s2:L2.TS:=L2.tSeq _ s1;let s3:L2.TS:=L2.tSeq _ s2;L2.tSeq _ s3 _ _ _);intro s1 s2 s3;refine ⟨_,U,(by show 1<=sL;decide),λl nl=>?_⟩;have h0:Hd H [(l,.lst (([]++[(G,x)]:List (F2.Fm×Ad)).map λp=>V.ref p.2))] (upd H l (.lst [.ref x])):=Hd.base.new nl;refine ⟨λm σ J=>∃ (done todo:List (F2.Fm×Ad)),σ=[rq x,rq l,iq done.length]/\Hd H [(l,.lst ((done++todo).map λp=>V.ref p.2))] J/\(∀ p∈done++todo,F2.FormAt c B p.1 p.2)/\m=(todo.map λp=>F2.nodes p.1).sum/\done.length+m=F2.nodes G/\(∀ (own φ:F2.Fm->Int),(∀ G,φ G=own G+((F2.partsF G).map φ).sum)->((done.map λp=>own p.1).sum+(todo.map λp=>φ p.1).sum=φ G))/\HerP (done++todo) G,⟨_,[],[(G,x)],U,h0,(λp hp=>by cases sG.mp hp;exact hx),U,by simp,(λown φ _=>by simp),λR _ h p hp=>by cases sG.mp hp;exact h⟩,?_⟩;rintro m σ J ⟨done,todo,rfl,h,hA,rfl,hm,hs,hh⟩;refine ⟨_,U,_,U,l,_,U,.inl (h.lst 0 rfl),_,_,U,U,_,U,?_⟩;rw [Ji,Jj];refine yu (λz=>?_) (λz=>?_)
 .have z:(done.length:Int)<((done.length+todo.length:Nat):Int):=by simpa using z
  cases todo with
  | nil=>simp at z
  | cons p rest =>
   refine ⟨λσ' H'=>∃ m',m'<((p::rest).map λp=>F2.nodes p.1).sum/\_,λ_ _ q=>q,?_⟩;obtain ⟨Qs,q1,q2,q3⟩:=F2.parts_at (hA p (x1y _ x0z));have ne:=F2.nodes_eq p.1
   have qn:(Qs.map λp=>F2.nodes p.1).sum+1=F2.nodes p.1:=by
    rw [ne,← q2,ug];rfl
   have pa:((done++p::rest).map λp=>V.ref p.2)[done.length]?=Z (V.ref p.2):=by
    rw [sN,tJ (sK _),uX];rfl
   have len:∀ ps:List (F2.Fm×Ad),ps.length<=(ps.map λp=>F2.nodes p.1).sum:=λps=>by
    induction ps with
    | nil=>exact sK _
    | cons a t ih =>
     rw [tz,uJ,x2x,F2.nodes_eq];omega
   have b1:=len rest;have b2:=len Qs;rw [tz,uJ] at hm;refine ⟨_,U,.inl ⟨U,_,h.lst 0 rfl⟩,_,U,_,U,l,_,_,_,U,U,h.lst 0 rfl,zM pa,p.2,p.1,Qs,U,q1.same (sB.trans h.sm),λJ1 l1 h1=>?_⟩;have h2:=h.same h1.sm;refine ⟨l,l1,_,_,U,U,h2.get 0 rfl,h1.get 0 rfl,(by rw [Ji,Ji,Jj,x2x];omega),?_⟩;have h3:=h2.put (o':=.lst (((done++[p])++(rest++Qs)).map λp=>V.ref p.2)) 0 rfl
   have el:((done++p::rest).map λp=>V.ref p.2)++(Qs.map λp=>V.ref p.2)=((done++[p])++(rest++Qs)).map λp=>V.ref p.2:=by
    rw [← vI];congr 1;simp
   rw [el];refine ⟨_,U,_,_,U,U,?_⟩;refine ⟨((rest++Qs).map λp=>F2.nodes p.1).sum,?_,done++[p],rest++Qs,?_,h3,λr hr=>?_,U,?_,λown φ ad=>?_,λR her h0 r hr=>?_⟩
   .rw [Jk,vq,tz,uJ]
    omega
   .rw [Jj]
    rfl
   .rcases t9.mp hr with hr | hr
    .rcases t9.mp hr with hr | hr
     .exact hA r (uv _ hr)
     .cases sG.mp hr
      exact hA _ (x1y _ x0z)
    .rcases t9.mp hr with hr | hr
     .exact hA r (x1y _ (x0y _ hr))
     .exact q3 r hr
   .rw [Jk,vq,Jj]
    show done.length+1+_=_;omega
   .have e:=hs own φ ad
    rw [tz,uJ] at e;have ep:=ad p.1;rw [← q2,ug] at ep;have ep:φ p.1=own p.1+(Qs.map λp=>φ p.1).sum:=ep;rw [Jk,vq,Jk,vq];show _+(own p.1+0)+_=_;omega
   .rcases t9.mp hr with hr | hr
    .rcases t9.mp hr with hr | hr
     .exact hh R her h0 r (uv _ hr)
     .cases sG.mp hr
      exact hh R her h0 _ (x1y _ x0z)
    .rcases t9.mp hr with hr | hr
     .exact hh R her h0 r (x1y _ (x0y _ hr))
     .exact her p.1 (hh R her h0 p (x1y _ x0z)) r.1 (by rw [← q2];exact uh hr)
 .have z:¬ (done.length:Int)<((done.length+todo.length:Nat):Int):=by simpa using z
  have e:todo=[]:=sW (by omega);subst e;rw [x2y] at h hA hh;exact ⟨_,U,q _ l done h hA (by simpa using hm) (λown φ ad=>by have:=hs own φ ad;simpa using this) hh⟩
end
end K23
namespace F2
open PySem L2
mutual
def sz (S:Nat->Int):Fm->Int
 | .at' _ p=>sz S p+1
 | .pair _ l r=>sz S l+sz S r+1
 | .cho t l r=>sz S t+sz S l+sz S r+1
 | .call a gs=>szL S gs+S a.toNat+1
 | _=>1
def szL (S:Nat->Int):Fms->Int
 | .nil=>0
 | .cons f r=>sz S f+szL S r
end
def szOwn (S:Nat->Int):Fm->Int
 | .call a _=>S a.toNat+1
 | _=>1
theorem szL_eq (S:Nat->Int):∀ gs:Fms,szL S gs=(gs.toL.map (sz S)).sum
 | .nil=>by unfold szL;rfl
 | .cons f r=>by
  unfold szL;rw [szL_eq S r];rfl
def sz_eq (S:Nat->Int) (F:Fm):sz S F=szOwn S F+((partsF F).map (sz S)).sum:=by
  cases F with
  | num n=>unfold sz;rfl
  | here=>unfold sz;rfl
  | cell r=>unfold sz;rfl
  | shi r b o=>unfold sz;rfl
  | loc a=>unfold sz;rfl
  | at' r p=>(conv=>lhs;unfold sz);show _=1+(sz S p+0);omega
  | pair s l r=>(conv=>lhs;unfold sz);show _=1+(sz S l+(sz S r+0));omega
  | cho t l r=>(conv=>lhs;unfold sz);show _=1+(sz S t+(sz S l+(sz S r+0)));omega
  | call a gs=>(conv=>lhs;unfold sz);rw [szL_eq];show _=S a.toNat+1+((gs.toL).map (sz S)).sum;omega
mutual
def CL (n:Nat):Fm->Prop
 | .at' _ p=>CL n p
 | .pair _ l r=>CL n l/\CL n r
 | .cho t l r=>CL n t/\CL n l/\CL n r
 | .call a gs=>0<=a/\a.toNat<n/\CLs n gs
 | _=>True
def CLs (n:Nat):Fms->Prop
 | .nil=>True
 | .cons f r=>CL n f/\CLs n r
end
theorem CLs.all {n:Nat}:∀ {gs:Fms},CLs n gs->∀ g∈gs.toL,CL n g
 | .nil,_,g,hg=>nomatch hg
 | .cons f r,h,g,hg=>by
  unfold CLs at h;rcases sM.mp hg with rfl | hg
  .exact h.1
  .exact CLs.all h.2 g hg
def CL.parts {n:Nat} (F:Fm) (h:CL n F):∀ g∈partsF F,CL n g:=by
 intro g hg
 cases F with
 | num n=>exact nomatch hg
 | here=>exact nomatch hg
 | cell r=>exact nomatch hg
 | shi r b o=>exact nomatch hg
 | loc a=>exact nomatch hg
 | at' r p=>unfold CL at h;cases sG.mp hg;exact h
 | pair s l r =>
  unfold CL at h;simp only [partsF,sM,tM,or_false] at hg;rcases hg with rfl | rfl
  .exact h.1
  .exact h.2
 | cho t l r =>
  unfold CL at h;simp only [partsF,sM,tM,or_false] at hg;rcases hg with rfl | rfl | rfl
  .exact h.1
  .exact h.2.1
  .exact h.2.2
 | call a gs=>unfold CL at h;exact h.2.2.all g hg
mutual
theorem CL.mono {j k:Nat} (h:j<=k):∀ {F:Fm},CL j F->CL k F
 | .num _,_=>by unfold CL;trivial
 | .here,_=>by unfold CL;trivial
 | .cell _,_=>by unfold CL;trivial
 | .shi _ _ _,_=>by unfold CL;trivial
 | .loc _,_=>by unfold CL;trivial
 | .at' _ _,q=>by unfold CL at q ⊢;exact CL.mono h q
 | .pair _ _ _,q=>by unfold CL at q ⊢;exact ⟨CL.mono h q.1,CL.mono h q.2⟩
 | .cho _ _ _,q=>by unfold CL at q ⊢;exact ⟨CL.mono h q.1,CL.mono h q.2.1,CL.mono h q.2.2⟩
 | .call _ _,q=>by unfold CL at q ⊢;exact ⟨q.1,by have:=q.2.1;omega,CLs.mono h q.2.2⟩
theorem CLs.mono {j k:Nat} (h:j<=k):∀ {F:Fms},CLs j F->CLs k F
 | .nil,_=>by unfold CLs;trivial
 | .cons _ _,q=>by unfold CLs at q ⊢;exact ⟨CL.mono h q.1,CLs.mono h q.2⟩
end
def body (fs:List Fn) (i:Nat):Fm:=(fs.getD i (0,.here)).2
structure Told (fs:List Fn) (v:(Nat->Int)->Fm->Int) (S:Nat->Int):Prop where
 few:fs.length<=1000
 eq:∀ i,i<fs.length->S i=v S (body fs i)
 cl:∀ i,i<fs.length->CL i (body fs i)
 nd:∀ i,i<fs.length->nodes (body fs i)<=2000
structure Kn (S:Nat->Int) (N:Nat) (sr:Jl):Prop where
 nd:(sr.map (·.1)).Nodup
 lt:∀ k∈sr.map (·.1),∃ i:Nat,i<N/\k=.inl (i:Int)
 v:∀ (i:Nat) u,zN sr (.inl (i:Int))=Z u->u=.int (S i)
theorem zd2:∀ (N:Nat) (l:Jl),(l.map (·.1)).Nodup->(∀ k∈l.map (·.1),∃ i:Nat,i<N/\k=.inl (i:Int))->l.length<=N
 | 0,l,_,h=>by
  cases l with
  | nil=>exact sK _
  | cons a t=>obtain ⟨i,z,_⟩:=h a.1 x0z;omega
 | N+1,l,nd,h=>by
  by_cases z:(Sum.inl (N:Int):Key)∈l.map (·.1)
  .have e:=zd2 N (Ye l (.inl (N:Int))) (zba nd) λk hk=>by
    obtain ⟨p,hp,rfl⟩:=tW.mp hk;obtain ⟨i,z,e⟩:=h p.1 (uh (zco hp));refine ⟨i,?_,e⟩;by_cases q:i=N
    .have:=(List.mem_filter.mp hp).2
     rw [e,q] at this;simp at this
    .omega
   have:=zcp nd z;omega
  .have e:=zd2 N l nd λk hk=>by
    obtain ⟨i,z',e⟩:=h k hk;refine ⟨i,?_,e⟩;by_cases q:i=N
    .rw [e,q] at hk;exact absurd hk z
    .omega
   omega
def Kn.nil {S:Nat->Int} {N:Nat}:Kn S N []:=⟨ww,(λk hk=>nomatch hk),λi u h=>by cases h⟩
def Kn.len {S:Nat->Int} {N:Nat} {sr:Jl} (h:Kn S N sr):sr.length<=N:=zd2 N _ h.nd h.lt
def keys_putK {sr:Jl} {k:Key} {v u:V} (h:zN sr k=Z u):(z9 sr k v).map (·.1)=sr.map (·.1):=by
 unfold z9;rw [Zz,h,if_pos (by rfl),ug];apply List.map_congr_left;intro p _;show (if p.1=k then (p.1,v) else p).1=p.1
 split <;> rfl
def Kn.put {S:Nat->Int} {N:Nat} {sr:Jl} (h:Kn S N sr) {i:Nat} (hi:i<N):Kn S N (z9 sr (.inl (i:Int)) (.int (S i))):=by
 have v:∀ (j:Nat) u,zN (z9 sr (.inl (i:Int)) (.int (S i))) (.inl (j:Int))=Z u->u=.int (S j):=λj u e=>by
  rw [zY] at e
  split at e
  .rename_i q
   injection q with q
   have q:j=i:=by omega
   subst q;injection e with e
   exact e.symm
  .exact h.v j u e
 cases z:zN sr (.inl (i:Int)) with
 | some u=>exact ⟨by rw [keys_putK z];exact h.nd,by rw [keys_putK z];exact h.lt,v⟩
 | none =>
  refine ⟨nd_putK _ h.nd z,λk hk=>?_,v⟩;rw [Xo _ z,Jk] at hk;rcases t9.mp hk with hk | hk
  .exact h.lt k hk
  .cases sG.mp hk
   exact ⟨i,hi,U⟩
end F2
namespace K23
open PySem L2 FM
section
variable {K:Fg} {base:Heap}
inductive spBody (c:F2.Cs) (K:Fg) (v:(Nat->Int)->F2.Fm->Int) (n:Nat) (vs:Jn) (H:Hp) (Q:VK) (_:XK):Prop
 | mk (a:Nat) (fa kd:Ad) (fs:List F2.Fn) (S:Nat->Int) (B:Hp) (sr:Jl) (_:vs=[.int a,.ref fa,.ref kd]) (_:a<n) (_:a<fs.length) (_:F2.Told fs v S) (_:F2.FunsAt c K B fa fs) (_:Hd B [(kd,.dK sr)] H) (_:F2.Kn S fs.length sr) (_:∀ H' kvs',Hd B [(kd,.dK kvs')] H'->F2.Kn S fs.length kvs'->Q (.int (S a)) H')
inductive spForm (c:F2.Cs) (K:Fg) (v:(Nat->Int)->F2.Fm->Int) (n:Nat) (vs:Jn) (H:Hp) (Q:VK) (_:XK):Prop
 | mk (x fa kd:Ad) (F:F2.Fm) (fs:List F2.Fn) (S:Nat->Int) (B:Hp) (sr:Jl) (_:vs=[.ref x,.ref fa,.ref kd]) (_:F2.FormAt c B F x) (_:F2.CL n F) (_:F2.CL fs.length F) (_:F2.nodes F<=2000) (_:F2.Told fs v S) (_:F2.FunsAt c K B fa fs) (_:Hd B [(kd,.dK sr)] H) (_:F2.Kn S fs.length sr) (_:∀ H' kvs',Hd B [(kd,.dK kvs')] H'->F2.Kn S fs.length kvs'->Q (.int (v S F)) H')
def ok_bs {c:F2.Cs} {n k:Nat} (d:zj K mg "body_size" Zj Uh) (SW:∀ n',n=n'+1->Ok P w K mg base CX0 k "size_with" Ud (spForm c K F2.sz n')):Ok P w K mg base CX0 (k+1) "body_size" Uh (spBody c K F2.sz n):=by
 refine oDf d sc_body_size λg sA A _ s H vs Q E hr h=>?_;obtain ⟨a,fa,kd,fs,S,B,sr,rfl,hn,hl,T,hF,h,hk,q⟩:=h;obtain ⟨n',rfl⟩:∃ n',n=n'+1:=⟨n-1,by omega⟩;have SW:=SW n' rfl;have nd:=sc_body_size.nd;have hr1:=hr;have hu:=tK (tO (show 1<=64 by decide) _) hr.units;have SL:(3000:Nat)<sizeLine:=by decide
 refine ⟨_,(zb (zB (Yj (YK hu (pv 0) (pv 2)) rfl) (ze (xE hu (pv 2) (pv 0) (zo SW hr1 (by rfl) zv (za (zx zE (zx zD (pv 1) (pv 0) (λ_ _=>rfl)) zd (λ_ _=>rfl)) (za (pv 1) (za (pv 2) zc)))) rfl)) zk)
   (ze (zm (zH hu (pv 2) (pv 0) (λ_ _=>rfl))))),?_⟩
 refine ⟨_,U,_,U,kd,_,U,DGet.k (k:=.inl a) (h.get 0 rfl),_,U,?_⟩
 cases z:zN sr (.inl (a:Int)) with
 | some u =>
  have gu:=DGet.k (k:=.inl (a:Int)) (h.get 0 rfl);rw [z] at gu;rw [hk.v a u z] at gu;exact zy ⟨_,U,_,U,kd,_,U,gu,q _ _ h hk⟩
 | none =>
  refine zL ?_;obtain ⟨ts,f1,f2,f3⟩:=hF.ex;obtain ⟨y,f4,f5⟩:=f3 a hl
  have et:(ts.map V.ref)[a]?=Z (V.ref (ts.getD a 0)):=by
   rw [sN,sI (by omega),x0x,sI (by omega)];rfl
  refine ⟨_,U,_,U,fa,_,_,_,U,U,h.sql f1,zM et,_,_,_,_,U,U,h.sqt f4,U,_,U,_,U,?_⟩;refine ⟨y,fa,kd,_,fs,S,B,sr,U,f5,(T.cl a hl).mono (by omega),(T.cl a hl).mono (by omega),T.nd a hl,T,hF,h,hk,λH1 kvs1 h1 hk1=>?_⟩;have hk2:=hk1.put hl;have e:F2.sz S (fs.getD a (0,.here)).2=S a:=(T.eq a hl).symm;rw [e];have le:=hk1.len;have le2:=T.few;have h2:=h1.put (o':=.dK (z9 kvs1 (.inl (a:Int)) (.int (S a)))) 0 rfl;refine ⟨_,U,_,U,kd,_,U,DPut.k (k:=.inl (a:Int)) (h1.get 0 rfl) (by omega),?_⟩;have gu:=DGet.k (k:=.inl (a:Int)) (h2.get 0 rfl);rw [zY,if_pos rfl] at gu;exact ⟨_,U,_,U,kd,_,U,gu,q _ _ h2 hk2⟩
def join {B:Hp} {L:Jm} {J J1:Hp} {a:Ad} {o:HO} (h:Hd B L J) (h':Hd J [(a,o)] J1):Hd B ((a,o)::L) J1 :=
 (h.same h'.sm).add (λp hp e=>by have:=h.st p hp;rw [e,h'.nw _ x0z] at this;cases this) (h.sm.free (h'.nw _ x0z)) (h'.get 0 rfl)
def ok_sw {c:F2.Cs} {n k:Nat} (d:zj K mg "size_with" Zf Ud) (hisi:mg "isinstance"=Y) (hCa:mg "Call"=Z (.ref c.call)) (L:LooksK K c) (hk2:2<=k) (WI:Ok P w K mg base CX0 2 "forms_within" UP (spWithin c)) (BS:Ok P w K mg base CX0 k "body_size" Uh (spBody c K F2.sz n)):Ok P w K mg base CX0 (k+1) "size_with" Ud (spForm c K F2.sz n):=by
 refine oDf d sc_size_with λg sA A _ s H vs Q E hr h=>?_;obtain ⟨x,fa,kd,G,fs,S,B,sr,rfl,hx,hc,hc',hn,T,hF,h,hk,q⟩:=h;have nd:=sc_size_with.nd;have hr1:=hr;have hr2:=hr.mono hk2;refine ⟨_,(zb (oRz 3 nd zd)
   (zb (Zm tY rfl (xo (zo WI hr2 (by rfl) zv (za (pv 0) zc))) (oQz 4 nd) (zb (oRz 3 nd (zq yh (pv 3) zd))
   (ze (zB (zG (zh zA (by rfl) hisi sF (za (pv 4) (za (zK hCa) zc)))) (ze (oRz 3 nd (zq yh (pv 3) (zo BS hr1 (by rfl) zv (za (zu (pv 4) rfl) (za (pv 1) (za (pv 2) zc))))))) zk))))
   (ze (zm (pv 3))))),?_⟩
 refine ⟨_,U,x,G,B,U,h.sm,hx,hn,λH1 l Ps h1 hA hl hS hH=>?_⟩;have h:=join h h1;refine ⟨l,U,⟨_,h.lst 0 rfl⟩,?_⟩;have hc1:=hH (F2.CL n) F2.CL.parts hc;have hc2:=hH (F2.CL fs.length) F2.CL.parts hc';refine Yv (K:=K) (a:=l) (xs:=Ps.map λp=>V.ref p.2) (λi σ J=>∃ (u:Jo) (kvs':Jl),σ=[Z (.ref x),Z (.ref fa),Z (.ref kd),Z (.int ((Ps.take i).map λp=>F2.szOwn S p.1).sum),u]/\Hd B [(l,.lst (Ps.map λp=>V.ref p.2)),(kd,.dK kvs')] J/\F2.Kn S fs.length kvs') ⟨Y,sr,U,h,hk⟩ (λi σ J hi ⟨u,kvs',_,h,_⟩=>h.lst 0 rfl) ?_ ?_
 .clear h hk
  rintro i y σ J hi ⟨u,kvs',rfl,h,hk⟩
  obtain ⟨p,hp,rfl⟩:∃ p,Ps[i]?=Z p/\y=V.ref p.2:=by
   rw [sN] at hi
   cases ez:Ps[i]? with
   | none=>rw [ez] at hi;cases hi
   | some z=>rw [ez] at hi;exact ⟨z,U,by injection hi with hi;exact hi.symm⟩
  have mp:=sP hp
  have et:((Ps.take (i+1)).map λp=>F2.szOwn S p.1).sum=((Ps.take i).map λp=>F2.szOwn S p.1).sum+F2.szOwn S p.1:=by
   rw [uF,hp,Jk,vq];show _+(F2.szOwn S p.1+0)=_;omega
  rw [et];generalize ((Ps.take i).map λp=>F2.szOwn S p.1).sum=N;obtain ⟨Rs,⟨dx,fl,px,pp⟩,-,-⟩:=F2.parts_at (hA p mp);have px:=h.sm _ _ px;have kf:=L.of p.1;refine ⟨_,U,_,_,U,U,_,U,_,_,.ref c.call,_,F2.isCall p.1,U,U,(λu r=>r),kf.ty px,kf.k,F2.isCall p.1,U,?_⟩;have c1:=hc1 p mp;have c2:=hc2 p mp;have hAp:=hA p mp;obtain ⟨G',y⟩:=p
  cases G' with
  | call a gs =>
   refine zL ?_;obtain ⟨l',e',-⟩:=pp;have c1:F2.CL n (.call a gs):=c1;have c2:F2.CL fs.length (.call a gs):=c2;unfold F2.CL at c1 c2;obtain ⟨a',rfl⟩:∃ a':Nat,a=a':=⟨a.toNat,by omega⟩;rw [q0z] at c1 c2;have px:J y=Z (.ins c.call dx fl):=px;have sp:=h.split (L':=[(kd,.dK kvs')]) (.cons _ (vR _));refine ⟨_,U,_,U,y,_,dx,_,.int a',U,px,L.call.cl,L.kA,by rw [e'];rfl,_,U,_,U,?_⟩;refine ⟨a',fa,kd,fs,S,but J [kd],kvs',U,c1.2.1,c2.2.1,T,hF.same sp.1,sp.2,hk,λJ1 kvs1 h1 hk1=>?_⟩;refine ⟨_,_,U,U,Z (V.ref y),kvs1,?_,h.back 1 rfl h1,hk1⟩;show [Z (V.ref x),Z (V.ref fa),Z (V.ref kd),Z (V.int (N+1+S a')),Z (V.ref y)]=[Z (V.ref x),Z (V.ref fa),Z (V.ref kd),Z (V.int (N+(S a'+1))),Z (V.ref y)];rw [Int.add_assoc,Int.add_comm 1]
  | num n=>exact zy ⟨_,kvs',U,h,hk⟩
  | here=>exact zy ⟨_,kvs',U,h,hk⟩
  | cell r=>exact zy ⟨_,kvs',U,h,hk⟩
  | shi r b o=>exact zy ⟨_,kvs',U,h,hk⟩
  | loc a=>exact zy ⟨_,kvs',U,h,hk⟩
  | at' r p=>exact zy ⟨_,kvs',U,h,hk⟩
  | pair s l r=>exact zy ⟨_,kvs',U,h,hk⟩
  | cho t l r=>exact zy ⟨_,kvs',U,h,hk⟩
 .rintro σ J ⟨u,kvs',rfl,h,hk⟩
  rw [Ji,uD,hS (F2.szOwn S) (F2.sz S) (F2.sz_eq S)];exact ⟨_,U,q _ _ h.tl hk⟩
theorem all_sw {c:F2.Cs} (dB:zj K mg "body_size" Zj Uh) (d:zj K mg "size_with" Zf Ud) (hisi:mg "isinstance"=Y) (hCa:mg "Call"=Z (.ref c.call)) (L:LooksK K c) (WI:Ok P w K mg base CX0 2 "forms_within" UP (spWithin c)):∀ n,Ok P w K mg base CX0 (2*n+4) "size_with" Ud (spForm c K F2.sz n)
 | 0=>ok_sw d hisi hCa L (by decide) WI (ok_bs (k:=2) dB λn' e=>by omega)
 | n+1=>ok_sw d hisi hCa L (by omega) WI (ok_bs (k:=2*n+4) dB λn' e=>by cases e;exact all_sw dB d hisi hCa L WI n)
inductive spOf (c:F2.Cs) (K:Fg) (v:(Nat->Int)->F2.Fm->Int) (vs:Jn) (H:Hp) (Q:VK) (_:XK):Prop
 | mk (x fa:Ad) (F:F2.Fm) (fs:List F2.Fn) (S:Nat->Int) (_:vs=[.ref x,.ref fa]) (_:F2.FormAt c H F x) (_:fs.length<=8) (_:F2.CL fs.length F) (_:F2.nodes F<=2000) (_:F2.Told fs v S) (_:F2.FunsAt c K H fa fs) (_:∀ H',Same H H'->Q (.int (v S F)) H')
def ok_so {c:F2.Cs} (d:zj K mg "size_of" Yz Ut) (SW:Ok P w K mg base CX0 20 "size_with" Ud (spForm c K F2.sz 8)):Ok P w K mg base CX0 21 "size_of" Ut (spOf c K F2.sz):=by
 refine oDf d sc_size_of λg sA A _ s H vs Q E hr h=>?_;obtain ⟨x,fa,G,fs,S,rfl,hx,h8,hc,hn,T,hF,q⟩:=h;have nd:=sc_size_of.nd;have hr1:=hr;refine ⟨_,(ze (zm (zo SW hr1 (by rfl) zv (za (pv 0) (za (pv 1) (za Xp zc)))))),?_⟩;refine ⟨_,U,_,U,λkd nk=>?_⟩;exact ⟨x,fa,kd,G,fs,S,H,[],U,hx,hc.mono h8,hc,hn,T,hF,Hd.base.new nk,F2.Kn.nil,λH' kvs' h' _=>q _ h'.sm⟩
end
end K23
namespace F2
open PySem L2
def mx (l:Jb):Int:=l.foldr max 0
theorem mx_nn:∀ l:Jb,0<=mx l
 | []=>vx _
 | a::t=>ve (mx_nn t) (wU a _)
theorem mx_append:∀ a b:Jb,mx (a++b)=max (mx a) (mx b)
 | [],b=>(vC (mx_nn b)).symm
 | x::t,b=>by
  show max x (mx (t++b))=max (max x (mx t)) (mx b);rw [mx_append t b,Int.max_assoc]
def add_max (d a b:Int):d+max a b=max (d+a) (d+b):=by
 rcases Int.le_total a b with h | h
 .rw [vC h,vC (Int.add_le_add_left h _)]
 .rw [vw h,vw (Int.add_le_add_left h _)]
theorem mx_add {d:Int} (hd:0<=d):∀ l:Jb,max d (mx (l.map λx=>d+x))=d+mx l
 | []=>by show max d 0=d+0;rw [vw hd,wu]
 | x::t=>by
  show max d (max (d+x) (mx (t.map λx=>d+x)))=d+max x (mx t);rw [add_max,← mx_add hd t]
  ac_rfl
def mx_fin {pd ic dep dst ds1 ds2 R U0_ M dF dG ex:Int} (hdd:pd+ic=dep) (hd1:max dep dst=ds1) (e2:ds2=max ds1 (dep+ex)) (ma:max dep U0_=dep+M) (de:dF=ic+max ex M) (hd:max dst (max R (max (pd+dF) 0))=dG) (d0:0<=dep):max ds2 (max R U0_)=dG:=by
 have k:pd+dF=max (dep+ex) (max dep U0_):=by rw [ma,de,← Int.add_assoc,hdd,add_max]
 rw [← hd,k,e2,← hd1,vw (ve d0 (ve (wf _ _) (wU _ _)))]
 ac_rfl
mutual
def dp (S:Nat->Int):Fm->Int
 | .at' _ p=>dp S p
 | .pair _ l r=>max (dp S l) (dp S r)
 | .cho t l r=>max (dp S t) (max (dp S l) (dp S r))+1
 | .call a gs=>max (S a.toNat) (dpL S gs)
 | _=>0
def dpL (S:Nat->Int):Fms->Int
 | .nil=>0
 | .cons f r=>max (dp S f) (dpL S r)
end
def incF (F:Fm):Int:=if isCho F then 1 else 0
def extF (S:Nat->Int):Fm->Int
 | .call a _=>S a.toNat
 | _=>0
theorem dpL_eq (S:Nat->Int):∀ gs:Fms,dpL S gs=mx (gs.toL.map (dp S))
 | .nil=>by unfold dpL;rfl
 | .cons f r=>by
  unfold dpL;rw [dpL_eq S r];rfl
mutual
theorem dp_nn (S:Nat->Int):∀ F:Fm,0<=dp S F
 | .num _=>by unfold dp;exact vx _
 | .here=>by unfold dp;exact vx _
 | .cell _=>by unfold dp;exact vx _
 | .shi _ _ _=>by unfold dp;exact vx _
 | .loc _=>by unfold dp;exact vx _
 | .at' _ p=>by unfold dp;exact dp_nn S p
 | .pair _ l r=>by unfold dp;exact ve (dp_nn S l) (wf _ _)
 | .cho t l r=>by unfold dp;exact ve (ve (dp_nn S t) (wf _ _)) (Int.le_add_of_nonneg_right (by decide))
 | .call a gs=>by unfold dp;exact ve (dpL_nn S gs) (wU _ _)
theorem dpL_nn (S:Nat->Int):∀ gs:Fms,0<=dpL S gs
 | .nil=>by unfold dpL;exact vx _
 | .cons f r=>by unfold dpL;exact ve (dpL_nn S r) (wU _ _)
end
def dp_eq (S:Nat->Int) (F:Fm):dp S F=incF F+max (extF S F) (mx ((partsF F).map (dp S))):=by
  cases F with
  | num n=>unfold dp;rfl
  | here=>unfold dp;rfl
  | cell r=>unfold dp;rfl
  | shi r b o=>unfold dp;rfl
  | loc a=>unfold dp;rfl
  | at' r p=>(conv=>lhs;unfold dp);show _=0+max 0 (max (dp S p) 0);rw [vw (dp_nn S p),vC (dp_nn S p),uG]
  | pair s l r=>(conv=>lhs;unfold dp);show _=0+max 0 (max (dp S l) (max (dp S r) 0));rw [vw (dp_nn S r),vC (ve (dp_nn S l) (wf _ _)),uG]
  | cho t l r=>(conv=>lhs;unfold dp);show _=1+max 0 (max (dp S t) (max (dp S l) (max (dp S r) 0)));rw [vw (dp_nn S r),vC (ve (dp_nn S t) (wf _ _)),Int.add_comm]
  | call a gs=>(conv=>lhs;unfold dp);rw [dpL_eq];exact (uG _).symm
theorem nodes_len:∀ l:List Fm,l.length<=(l.map nodes).sum
 | []=>sK _
 | a::t=>by
  have:=nodes_len t;rw [tz,uJ,x2x,nodes_eq];omega
def isCall_ex {F:Fm} (h:isCall F=true):∃ a gs,F=.call a gs:=by
 cases F with
 | call a gs=>exact ⟨a,gs,U⟩
 | _=>cases h
def ext_no {S:Nat->Int} {F:Fm} (h:isCall F=false):extF S F=0:=by
 cases F with
 | call a gs=>cases h
 | _=>rfl
structure WD where
 F:Fm
 y:Ad
 d:Int
 t:Ad
structure WAt (c:Cs) (n N:Nat) (H:Hp) (p:WD):Prop where
 t:H p.t=Z (.tup [.ref p.y,.int p.d])
 f:FormAt c H p.F p.y
 c1:CL n p.F
 c2:CL N p.F
 d:0<=p.d
def WAt.same {c:Cs} {n N:Nat} {H H':Hp} {p:WD} (h:WAt c n N H p) (s:Same H H'):WAt c n N H' p:=⟨s _ _ h.t,h.f.same s,h.c1,h.c2,h.d⟩
end F2
namespace K23
open PySem L2 FM
section
variable {K:Fg} {base:Heap}
def ok_bd {c:F2.Cs} {n k:Nat} (d:zj K mg "body_depth" xz Uh) (DW:∀ n',n=n'+1->Ok P w K mg base CX0 k "depth_with" Ud (spForm c K F2.dp n')):Ok P w K mg base CX0 (k+1) "body_depth" Uh (spBody c K F2.dp n):=by
 refine oDf d sc_body_depth λg sA A _ s H vs Q E hr h=>?_;obtain ⟨a,fa,kd,fs,S,B,sr,rfl,hn,hl,T,hF,h,hk,q⟩:=h;obtain ⟨n',rfl⟩:∃ n',n=n'+1:=⟨n-1,by omega⟩;have DW:=DW n' rfl;have nd:=sc_body_depth.nd;have hr1:=hr;have hu:=tK (tO (show 1<=64 by decide) _) hr.units;have SL:(3000:Nat)<sizeLine:=by decide
 refine ⟨_,(zb (zB (Yj (YK hu (pv 0) (pv 2)) rfl) (ze (xE hu (pv 2) (pv 0) (zo DW hr1 (by rfl) zv (za (zx zE (zx zD (pv 1) (pv 0) (λ_ _=>rfl)) zd (λ_ _=>rfl)) (za (pv 1) (za (pv 2) zc)))) rfl)) zk)
   (ze (zm (zH hu (pv 2) (pv 0) (λ_ _=>rfl))))),?_⟩
 refine ⟨_,U,_,U,kd,_,U,DGet.k (k:=.inl a) (h.get 0 rfl),_,U,?_⟩
 cases z:zN sr (.inl (a:Int)) with
 | some u =>
  have gu:=DGet.k (k:=.inl (a:Int)) (h.get 0 rfl);rw [z] at gu;rw [hk.v a u z] at gu;exact zy ⟨_,U,_,U,kd,_,U,gu,q _ _ h hk⟩
 | none =>
  refine zL ?_;obtain ⟨ts,f1,f2,f3⟩:=hF.ex;obtain ⟨y,f4,f5⟩:=f3 a hl
  have et:(ts.map V.ref)[a]?=Z (V.ref (ts.getD a 0)):=by
   rw [sN,sI (by omega),x0x,sI (by omega)];rfl
  refine ⟨_,U,_,U,fa,_,_,_,U,U,h.sql f1,zM et,_,_,_,_,U,U,h.sqt f4,U,_,U,_,U,?_⟩;refine ⟨y,fa,kd,_,fs,S,B,sr,U,f5,(T.cl a hl).mono (by omega),(T.cl a hl).mono (by omega),T.nd a hl,T,hF,h,hk,λH1 kvs1 h1 hk1=>?_⟩;have hk2:=hk1.put hl;have e:F2.dp S (fs.getD a (0,.here)).2=S a:=(T.eq a hl).symm;rw [e];have le:=hk1.len;have le2:=T.few;have h2:=h1.put (o':=.dK (z9 kvs1 (.inl (a:Int)) (.int (S a)))) 0 rfl;refine ⟨_,U,_,U,kd,_,U,DPut.k (k:=.inl (a:Int)) (h1.get 0 rfl) (by omega),?_⟩;have gu:=DGet.k (k:=.inl (a:Int)) (h2.get 0 rfl);rw [zY,if_pos rfl] at gu;exact ⟨_,U,_,U,kd,_,U,gu,q _ _ h2 hk2⟩
def grow {B H:Hp} {L:Jm} {t:Ad} {o:HO} (h:Hd B L H) (n:H t=Y):Hd (upd B t o) L (upd H t o):=by
 refine ⟨h.nd,λp m=>?_,λp m=>?_,λb u z=>?_⟩
 .rw [zt (zz (h.st p m) n)];exact h.nw p m
 .rw [zt (zz (h.st p m) n)];exact h.st p m
 .by_cases e:b=t
  .subst e;rw [zg] at z ⊢;exact z
  .rw [zt e] at z ⊢
   exact h.sm _ _ z
def ok_dw {c:F2.Cs} {n k:Nat} (d:zj K mg "depth_with" xy Ud) (hisi:mg "isinstance"=Y) (hCa:mg "Call"=Z (.ref c.call)) (L:LooksK K c) (hk2:2<=k) (hlen:mg "len"=Y) (hmax:mg "max"=Y) (hCo:mg "Choice"=Z (.ref c.cho)) (PO:Ok P w K mg base (CXe P w base) 1 "parts_of" UP (spParts c)) (BD:Ok P w K mg base CX0 k "body_depth" Uh (spBody c K F2.dp n)):Ok P w K mg base CX0 (k+1) "depth_with" Ud (spForm c K F2.dp n):=by
 refine oDf d sc_depth_with λg sA A _ s H vs Q E hr h=>?_;obtain ⟨x,fa,kd,G,fs,S,B,sr,rfl,hx,hc,hc',hn,T,hF,h,hk,q⟩:=h;have nd:=sc_depth_with.nd;have hr1:=hr;have hr2:=hr.mono (show 1<=k by omega);have SL:(3000:Nat)<sizeLine:=by decide
 refine ⟨_,(zb (oRz 3 nd zd)
   (zb (oRz 4 nd (zJ (za (yb (za (pv 0) (za zd zc))) zc)))
   (zb (Yk tY (zp ZV (zh zr (by rfl) hlen sU (za (pv 4) zc)) zd (zw _)) (zb (oRz 5 nd (Y9 sQ vp vm zbb (pv 4)))
   (zb (oRz 6 nd (zx zE (pv 5) zd (λ_ _=>rfl)))
   (zb (zi (i:=7) nd rfl (Or.inr rfl) (zx zE (pv 5) zd (λ_ _=>rfl)))
   (zb (yx (zB (zG (zh zA (by rfl) hisi sF (za (pv 6) (za (zK hCo) zc)))) (ze (zi (i:=7) nd rfl (Or.inr rfl) (zq yh (pv 7) zd))) zk))
   (zb (oRz 3 nd (zh (zcs rfl) (by rfl) hmax PyProof.Rows.boot_max (za (pv 3) (za (pv 7) zc))))
   (zb (yx (zB (zG (zh zA (by rfl) hisi sF (za (pv 6) (za (zK hCa) zc)))) (ze (oRz 3 nd (zh (zcs rfl) (by rfl) hmax PyProof.Rows.boot_max (za (pv 3) (za (zq yh (pv 7) (zo BD hr1 (by rfl) zv (za (zu (pv 6) rfl) (za (pv 1) (za (pv 2) zc))))) zc))))) zk))
   (ze (zC (yz sQ PySem.F.slot_list_extend PySem.F.type_list_extend zcd (pv 4) (za (Z0 ["inner","depth"] [Y,Z 7] rfl rfl rfl (xo (zo PO hr2 (by rfl) zU (za (pv 6) zc))) (λs3 H3 fp=>⟨zR (i:=0) (Jp ["inner","depth"]) rfl (vG rfl),(yb (za (pv 0) (za (pv 1) zc)))⟩)) zc)))))))))))
   (ze (zm (pv 3)))))),?_⟩
 refine ⟨_,U,(by show 2<=sL;decide),λt nt=>⟨(by show 1<=sL;decide),λwl nw=>?_⟩⟩;have sB:Same B (upd B t (.tup [.ref x,.int 0])):=yj (Same.refl _) (h.free nt);have h:=grow (o:=.tup [.ref x,.int 0]) h nt;have h:=h.new (o:=.lst ([(⟨G,x,0,t⟩:F2.WD)].map λp=>V.ref p.t)) nw;refine ⟨λm σ J=>∃ (B':Hp) (Ws:List F2.WD) (dst:Int) (kvs':Jl) (u5 u6 u7:Jo),σ=[rq x,rq fa,rq kd,iq dst,rq wl,u5,u6,u7,Y]/\Same B B'/\Hd B' [(wl,.lst (Ws.map λp=>V.ref p.t)),(kd,.dK kvs')] J/\(∀ p∈Ws,F2.WAt c n fs.length B' p)/\m=(Ws.map λp=>F2.nodes p.F).sum/\m<=2000/\F2.Kn S fs.length kvs'/\0<=dst/\max dst (F2.mx (Ws.map λp=>p.d+F2.dp S p.F))=F2.dp S G,⟨_,_,[⟨G,x,0,t⟩],0,sr,Y,Y,Y,U,sB,h,(λp hp=>by cases sG.mp hp;exact ⟨zg,hx.same sB,hc,hc',vx _⟩),U,(by show F2.nodes G+0<=2000;omega),hk,vx _,by have:=F2.dp_nn S G;show max 0 (max (0+F2.dp S G) 0)=_;omega⟩,?_⟩;clear h sB hk;rintro m σ J ⟨B',Ws,dst,kvs',u5,u6,u7,rfl,sB,h,hA,rfl,hm,hk,hd0,hd⟩;refine ⟨_,U,wl,_,U,.inl (h.lst 0 rfl),_,_,U,U,_,U,?_⟩;rw [Ji];refine yu (λz=>?_) (λz=>?_)
 .rcases List.eq_nil_or_concat Ws with e | ⟨rest,p,e⟩
  .subst e;simp at z
  rw [List.concat_eq_append] at e;subst e;refine ⟨λσ' H'=>∃ m',m'<((rest++[p]).map λp=>F2.nodes p.F).sum/\_,λ_ _ q=>q,?_⟩;have pw:=hA p (x1y _ x0z)
  have pl:((rest++[p]).map λp=>V.ref p.t)[((rest++[p]).map λp=>V.ref p.t).length-1]?=Z (V.ref p.t):=by
   rw [Ji,Jj,sN,tJ (by simp)];simp
  have dl:((rest++[p]).map λp=>V.ref p.t).dropLast=rest.map λp=>V.ref p.t:=by
   rw [Jk];exact List.dropLast_concat
  refine ⟨_,U,.inl ⟨U,_,h.lst 0 rfl⟩,wl,_,_,U,U,h.get 0 rfl,pl,?_⟩;rw [dl];have h:=h.put (o':=.lst (rest.map λp=>V.ref p.t)) 0 rfl;generalize upd J wl (.lst (rest.map λp=>V.ref p.t))=J1 at h ⊢;have kf:=L.of p.F;obtain ⟨Qs,⟨dx,fl,px,pp⟩,q2,q3⟩:=F2.parts_at pw.f;have pa:F2.PartsAt c B' p.F p.y Qs:=⟨dx,fl,px,pp⟩;have pxJ:=h.sm _ _ px;refine ⟨_,U,p.t,_,_,_,U,U,SqT.of (h.sm _ _ pw.t),U,?_⟩;refine ⟨_,U,p.t,_,_,_,U,U,SqT.of (h.sm _ _ pw.t),U,?_⟩;refine ⟨λσ' H'=>H'=J1/\σ'=[rq x,rq fa,rq kd,iq dst,rq wl,rq p.t,rq p.y,iq (p.d+F2.incF p.F),Y],?_,?_⟩
  .refine ⟨_,U,_,_,.ref c.cho,_,F2.isCho p.F,U,U,(λu r=>r),kf.ty pxJ,kf.o,F2.isCho p.F,U,?_⟩
   unfold F2.incF
   cases F2.isCho p.F with
   | true=>exact zL ⟨_,U,_,_,U,U,U,U⟩
   | false=>exact zy ⟨U,by rw [show p.d+(if (false:Bool)=true then (1:Int) else 0)=p.d by simp];rfl⟩
  rintro σ' H' ⟨rfl,rfl⟩;have inn:0<=F2.incF p.F:=by unfold F2.incF;split <;> omega
  have dd:=pw.d;generalize hdd:p.d+F2.incF p.F=dep;refine ⟨_,U,_,U,_,_,U,?_⟩;generalize hd1:(if dep > dst then dep else dst)=ds1;refine ⟨λσ' H'=>∃ ds2 kvs2,ds2=max ds1 (dep+F2.extF S p.F)/\F2.Kn S fs.length kvs2/\Hd B' [(wl,.lst (rest.map λp=>V.ref p.t)),(kd,.dK kvs2)] H'/\σ'=[rq x,rq fa,rq kd,iq ds2,rq wl,rq p.t,rq p.y,iq dep,Y],?_,?_⟩
  .refine ⟨_,U,_,_,.ref c.call,_,F2.isCall p.F,U,U,(λu r=>r),kf.ty pxJ,kf.k,F2.isCall p.F,U,?_⟩
   cases ec:F2.isCall p.F with
   | false=>exact zy ⟨ds1,kvs',by rw [F2.ext_no ec,← hd1];split <;> omega,hk,h,U⟩
   | true =>
    obtain ⟨a,gs,ef⟩:=F2.isCall_ex ec;have c1:=pw.c1;have c2:=pw.c2;rw [ef] at pp c1 c2 pxJ;rw [ef];obtain ⟨l',e',-⟩:=pp;unfold F2.CL at c1 c2;obtain ⟨a',rfl⟩:∃ a':Nat,a=a':=⟨a.toNat,by omega⟩;rw [q0z] at c1 c2;have sp:=h.split (L':=[(kd,.dK kvs')]) (.cons _ (vR _));refine zL ⟨_,U,_,U,_,U,p.y,_,dx,_,.int a',U,pxJ,L.call.cl,L.kA,by rw [e'];rfl,_,U,_,U,?_⟩;refine ⟨a',fa,kd,fs,S,but H' [kd],kvs',U,c1.2.1,c2.2.1,T,hF.same (sB.trans sp.1),sp.2,hk,λJ2 kvs1 h1 hk1=>?_⟩;refine ⟨_,_,U,U,_,_,U,_,kvs1,?_,hk1,h.back 1 rfl h1,U⟩;show (if dep+S a' > ds1 then dep+S a' else ds1)=max ds1 (dep+S a')
    split <;> omega
  rintro σ' J2 ⟨ds2,kvs2,e2,hk2,h2,rfl⟩;refine ⟨_,U,.inl ⟨U,_,h2.lst 0 rfl⟩,_,U,p.y,p.F,Qs,U,pa.same h2.sm,λJ3 ql h3=>?_⟩;have h3:=join h2 h3
  have qn:(Qs.map λq=>F2.nodes q.1).sum+1=F2.nodes p.F:=by
   rw [F2.nodes_eq p.F,← q2,ug];rfl
  have ql1:Qs.length<=(Qs.map λq=>F2.nodes q.1).sum:=by
   have:=F2.nodes_len (Qs.map uu);rw [Ji,ug] at this;exact this
  have ql2:rest.length<=(rest.map λq=>F2.nodes q.F).sum:=by
   have:=F2.nodes_len (rest.map F2.WD.F);rw [Ji,ug] at this;exact this
  have em:((rest++[p]).map λp=>F2.nodes p.F).sum=(rest.map λq=>F2.nodes q.F).sum+F2.nodes p.F:=by
   rw [Jk,vq];show _+(F2.nodes p.F+0)=_;omega
  rw [em] at hm;refine ⟨ql,U,⟨_,h3.lst 0 rfl⟩,_,U,λD nD=>?_⟩;have h0:=h3.new (o:=.lst (([]:List F2.WD).map λp=>V.ref p.t)) nD;refine Z2 (K:=K) (a:=ql) (D:=D) (xs:=Qs.map λp=>V.ref p.2) (λi σ J=>∃ (u:Jo) (B2:Hp) (Us:List F2.WD),σ=[u,iq dep]/\Same B' B2/\Hd B2 [(D,.lst (Us.map λp=>V.ref p.t)),(ql,.lst (Qs.map λp=>V.ref p.2)),(wl,.lst (rest.map λp=>V.ref p.t)),(kd,.dK kvs2)] J/\(∀ p∈Us,F2.WAt c n fs.length B2 p)/\Us.map (λu=>(u.F,u.d))=(Qs.take i).map λq=>(q.1,dep)) ⟨Y,B',[],U,Same.refl _,h0,(λp hp=>nomatch hp),U⟩ (λi σ J _ ⟨_,_,_,_,_,h,_⟩=>h.lst 1 rfl) ?_ ?_
  .clear h0
   rintro i y σ J4 hi ⟨u,B2,Us,rfl,sB2,h4,hA4,hU⟩
   obtain ⟨r,hr',rfl⟩:∃ r,Qs[i]?=Z r/\y=V.ref r.2:=by
    rw [sN] at hi
    cases ez:Qs[i]? with
    | none=>rw [ez] at hi;cases hi
    | some z=>rw [ez] at hi;exact ⟨z,U,by injection hi with hi;exact hi.symm⟩
   have il:=(tu.mp hr').1;have mr:=sP hr'
   have lu:Us.length<=i:=by
    have:=congrArg uY hU;rw [Ji,Ji,ut] at this;omega
   refine ⟨_,U,_,U,(by show 2<=sL;decide),λtt ntt=>?_⟩;have nB:=h4.free ntt;have h5:=grow (o:=.tup [.ref r.2,.int dep]) h4 ntt;have s5:Same B2 (upd B2 tt (.tup [.ref r.2,.int dep])):=yj (Same.refl _) nB;refine ⟨_,h5.get 0 rfl,(by rw [Ji];omega),?_⟩;have h6:=h5.put (o':=.lst ((Us++[(⟨r.1,r.2,dep,tt⟩:F2.WD)]).map λp=>V.ref p.t)) 0 rfl;have el:((Us++[(⟨r.1,r.2,dep,tt⟩:F2.WD)]).map λp=>V.ref p.t)=(Us.map λp=>V.ref p.t)++[V.ref tt]:=by rw [Jk];rfl
   refine ⟨_,_,Us++[⟨r.1,r.2,dep,tt⟩],U,sB2.trans s5,by rw [el] at h6 ⊢;exact h6,λv hv=>?_,?_⟩
   .rcases t9.mp hv with hv | hv
    .exact (hA4 v hv).same s5
    .cases sG.mp hv
     have mr':r.1∈F2.partsF p.F:=by rw [← q2];exact uh mr
     exact ⟨zg,((q3 r mr).same sB2).same s5,pw.c1.parts _ _ mr',pw.c2.parts _ _ mr',by show 0<=dep;omega⟩
   .rw [Jk,hU,uF,hr',Jk]
    rfl
  .rintro σ J4 ⟨u,B2,Us,rfl,sB2,h4,hA4,hU⟩
   rw [Ji,uD] at hU
   have lu:Us.length=Qs.length:=by
    have:=congrArg uY hU
    rwa [Ji,Ji] at this
   refine ⟨wl,D,_,_,U,U,h4.get 2 rfl,h4.get 0 rfl,(by rw [Ji,Ji];omega),?_⟩;have h5:=(h4.put (o':=.lst ((rest++Us).map λp=>V.ref p.t)) 2 rfl).tl.tl;have el:((rest++Us).map λp=>V.ref p.t)=(rest.map λp=>V.ref p.t)++Us.map λp=>V.ref p.t:=vI
   have en:((rest++Us).map λp=>F2.nodes p.F).sum=(rest.map λp=>F2.nodes p.F).sum+(Qs.map λq=>F2.nodes q.1).sum:=by
    rw [Jk,vq];have:=congrArg (List.map λz=>F2.nodes z.1) hU;rw [ug,ug] at this;have this:(Us.map λp=>F2.nodes p.F)=Qs.map λq=>F2.nodes q.1:=this;rw [this]
   refine ⟨((rest++Us).map λp=>F2.nodes p.F).sum,by rw [en,em];omega,B2,rest++Us,ds2,kvs2,_,_,_,U,sB.trans sB2,by rw [el] at h5 ⊢;exact h5,λv hv=>?_,U,by rw [en];omega,hk2,?_,?_⟩
   .rcases t9.mp hv with hv | hv
    .exact (hA v (uv _ hv)).same sB2
    .exact hA4 v hv
   .rw [e2,← hd1];split <;> omega
   .have eU:(Us.map λp=>p.d+F2.dp S p.F)=((F2.partsF p.F).map (F2.dp S)).map λx=>dep+x:=by
     have:=congrArg (List.map λz:F2.Fm×Int=>z.2+F2.dp S z.1) hU;rw [ug,ug] at this;have this:(Us.map λp=>p.d+F2.dp S p.F)=Qs.map λq=>dep+F2.dp S q.1:=this;rw [this,← q2,ug,ug];rfl
    have ma:=F2.mx_add (d:=dep) (by omega) ((F2.partsF p.F).map (F2.dp S));have de:=F2.dp_eq S p.F;rw [Jk,F2.mx_append,eU];rw [Jk,F2.mx_append] at hd;have hd:max dst (max (F2.mx (rest.map λp=>p.d+F2.dp S p.F)) (max (p.d+F2.dp S p.F) 0))=F2.dp S G:=hd;have hd1:max dep dst=ds1:=by rw [← hd1];split <;> omega
    exact F2.mx_fin hdd hd1 e2 ma de hd (by omega)
 .have e:Ws=[]:=sW (by
   by_cases e:Ws.length=0
   .exact e
   .exact absurd (by simp;omega) z)
  subst e;have e:dst=F2.dp S G:=by rw [← hd];show dst=max dst 0;omega
  rw [e];exact ⟨_,U,q _ _ (h.tl.weak sB) hk⟩
theorem all_dw {c:F2.Cs} (dB:zj K mg "body_depth" xz Uh) (d:zj K mg "depth_with" xy Ud) (hisi:mg "isinstance"=Y) (hCa:mg "Call"=Z (.ref c.call)) (L:LooksK K c) (hlen:mg "len"=Y) (hmax:mg "max"=Y) (hCo:mg "Choice"=Z (.ref c.cho)) (PO:Ok P w K mg base (CXe P w base) 1 "parts_of" UP (spParts c)):∀ n,Ok P w K mg base CX0 (2*n+4) "depth_with" Ud (spForm c K F2.dp n)
 | 0=>ok_dw d hisi hCa L (by decide) hlen hmax hCo PO (ok_bd (k:=2) dB λn' e=>by omega)
 | n+1=>ok_dw d hisi hCa L (by omega) hlen hmax hCo PO (ok_bd (k:=2*n+4) dB λn' e=>by cases e;exact all_dw dB d hisi hCa L hlen hmax hCo PO n)
def ok_do {c:F2.Cs} (d:zj K mg "depth_of" Z8 Ut) (DW:Ok P w K mg base CX0 20 "depth_with" Ud (spForm c K F2.dp 8)):Ok P w K mg base CX0 21 "depth_of" Ut (spOf c K F2.dp):=by
 refine oDf d sc_depth_of λg sA A _ s H vs Q E hr h=>?_;obtain ⟨x,fa,G,fs,S,rfl,hx,h8,hc,hn,T,hF,q⟩:=h;have nd:=sc_depth_of.nd;have hr1:=hr;refine ⟨_,(ze (zm (zo DW hr1 (by rfl) zv (za (pv 0) (za (pv 1) (za Xp zc)))))),?_⟩;refine ⟨_,U,_,U,λkd nk=>?_⟩;exact ⟨x,fa,kd,G,fs,S,H,[],U,hx,hc.mono h8,hc,hn,T,hF,Hd.base.new nk,F2.Kn.nil,λH' kvs' h' _=>q _ h'.sm⟩
end
end K23
namespace K23
open PySem L2
section
variable {K:Fg} {base:Heap}
def spNN (C:Ad):Sp:=λvs H Q _=>∃ (g:Rg) (B:Hp) (L:Jm) (ws:Jf) (p:Nat) (b:Int) (x:Str) (r:Jf) (k1 k2:Jl),vs=[.ref g.r]/\g.C=C/\RAt B g ws p b L H/\YV (ws.drop p)=.ok (x,r)/\x.length<=100000/\(g.ra,HO.dK k1)∈L/\(g.ha,HO.dK k2)∈L/\zN k1 (.inr x)=Y/\zN k2 (.inr x)=Y/\∀ B' H',Same B B'->RAt B' g ws (p+1) b L H'->ws.drop (p+1)=r->Q (.str x) H'
def zes {C:Ad} (d:zj K mg "read_new_name" xi Ua) (RN:Ok P w K mg base CX0 3 "read_name" Ua (spRN C)) (RT:Ok P w K mg base CX0 1 "refuse_taken" Ug (spRT C)):Ok P w K mg base CX0 4 "read_new_name" Ua (spNN C):=by
 refine oDf d sc_read_new_name λf sA A _ s H vs Q E hr h=>?_;obtain ⟨g,B,L,ws,p,b,x,r,k1,k2,rfl,rfl,A1,en,xl,m1,m2,e1,e2,q⟩:=h;have hr3:Room 3 _:=hr;have hr1:Room 1 _:=hr.mono (by decide);have nd:=sc_read_new_name.nd;refine ⟨_,(zb (oRz 1 nd (zo RN hr3 (by rfl) zv (za (pv 0) zc)))
   (zb (zC (zo RT hr1 (by rfl) zv (za (pv 0) (za (pv 1) zc))))
   (ze (zm (pv 1))))),?_⟩
 show (let s1:L2.TS:=_;let s2:L2.TS:=L2.tSeq _ s1;L2.tSeq _ s2 _ _ _);intro s1 s2;refine ⟨_,U,g,B,L,ws,p,b,x,r,U,U,A1,en,xl,λB' H' sB A2 er=>?_⟩;refine ⟨_,U,_,U,g,_,b,x,k1,k2,U,U,A2.h.get 0 rfl,A2.h.st _ (x0y _ m1),A2.h.st _ (x0y _ m2),e1,e2,?_⟩;exact ⟨_,U,q B' H' sB A2 er⟩
inductive spRL (K:Fg) (C:Ad) (c:F2.Cs) (vs:Jn) (H:Hp) (Q:VK) (_:XK):Prop
 | mk (g:Rg) (dg:Dg) (B:Hp) (L0:Jm) (ws:Jf) (p:Nat) (b:Int) (D:Dr) (ts us:Jg) (x:Str) (n:Int) (r1:Jf) (_:vs=[.ref dg.d,.ref g.r]) (_:g.C=C) (_:g.ra=dg.ra) (_:g.ha=dg.ha) (_:DCls K dg.C) (_:RAt B g ws p b (dg.L ts us D++(dg.ta,.lst [])::L0) H) (_:DrAt B c dg D ts us) (_:Yg ws) (_:YV (ws.drop p)=.ok (x,r1)) (_:YT 1 400 r1=.ok (n,[])) (_:plc x D.rows=Y) (_:plc x (D.heads.map uu)=Y) (_:D.rows.length<12) (_:∀ B' H',Same B B'->Hd B' (dg.L ts us { D with rows:=D.rows++[x],lens:=D.lens++[n] }++(dg.ta,.lst [])::L0) H'->DrAt B' c dg { D with rows:=D.rows++[x],lens:=D.lens++[n] } ts us->Q .non H')
def pName_len {ws:Jf} {p:Nat} {x:Str} {r:Jf} (wo:Yg ws) (h:YV (ws.drop p)=.ok (x,r)):x.length<=100000:=by
 cases hd:ws.drop p with
 | nil=>rw [hd] at h;cases h
 | cons y l =>
  have my:y∈ws:=v0 (show y∈ws.drop p by rw [hd];exact x0z);rw [hd] at h;have h:(if Z1 y=true then vy (y,l) else .error .bad:Pr Str)=.ok (x,r):=h;by_cases hy:Z1 y=true
  .rw [if_pos hy] at h;cases h;exact tE (wo _ my) (by decide)
  .rw [if_neg hy] at h;cases h
def zep {C:Ad} {c:F2.Cs} {t1 t2:Tok} (d:zj K mg "read_row_line" xg Uc) (hlen:mg "len"=Y) (hMC:mg "MOST_CELLS"=Z (.int 400 t1)) (hMR:mg "MOST_ROWS"=Z (.int 12 t2)) (WT:Ok P w K mg base CX0 1 "refuse_within_till" Uc (spWT (K:=K))) (NN:Ok P w K mg base CX0 4 "read_new_name" Ua (spNN C)) (NU:Ok P w K mg base CX0 4 "read_number" UA (spNu C)) (LE:Ok P w K mg base CX0 2 "read_line_end" Ua (spLE C)):Ok P w K mg base CX0 5 "read_row_line" Uc (spRL K C c):=by
 refine oDf d sc_read_row_line λf sA A _ s H vs Q E hr h=>?_;obtain ⟨g,dg,B,L0,ws,p,b,D,ts,us,x,n,r1,rfl,rfl,hra,hha,DC,A1,DA,wo,en,em,px,ph,r12,q⟩:=h;have hr4:Room 4 _:=hr;have hr2:Room 2 _:=hr.mono (by decide);have hr1:Room 1 _:=hr.mono (by decide);have hu:=tK (tO (show 1<=64 by decide) _) hr.units;have nd:=sc_read_row_line.nd;have SL:(100000:Nat)<sizeLine:=by decide
 refine ⟨_,(zb (zC (zo WT hr1 (by rfl) zv (za (pv 0) (za (pv 1) zc))))
   (zb (oRz 2 nd (zo NN hr4 (by rfl) zv (za (pv 1) zc)))
   (zb (oRz 3 nd (zo NU hr4 (by rfl) zv (za (pv 1) (za zd (za (yt hMC) zc)))))
   (zb (zC (zo LE hr2 (by rfl) zv (za (pv 1) zc)))
   (zb (zB (zp zP (zh zr (by rfl) hlen sU (za (zu (pv 0) rfl) zc)) (yt hMR) (zw _)) zO zk)
   (zb (xE hu (zu (pv 0) rfl) (pv 2) (zh zr (by rfl) hlen sU (za (zu (pv 0) rfl) zc)) rfl)
   (ze (zC (yz sQ t8 t7 zQ (zu (pv 0) rfl) (za (pv 3) zc)))))))))),?_⟩
 show (let s1:L2.TS:=_;let s2:L2.TS:=L2.tSeq _ s1;let s3:L2.TS:=L2.tSeq _ s2;let s4:L2.TS:=L2.tSeq _ s3;let s5:L2.TS:=L2.tSeq _ s4;let s6:L2.TS:=L2.tSeq _ s5;L2.tSeq _ s6 _ _ _);intro s1 s2 s3 s4 s5 s6;refine ⟨_,U,_,U,dg,_,U,A1.h.sm _ _ DA.d,A1.h.get 5 rfl,DC,?_⟩;refine ⟨_,U,g,B,_,ws,p,b,x,r1,_,_,U,U,A1,en,pName_len wo en,(by rw [hra];exact x0z),(by rw [hha];exact .tail _ (.tail _ (.head _))),(by rw [xQ,px];rfl),(by rw [Xg _ _ _ DA.tl,ph];rfl),λB1 H1 s1 A2 er=>?_⟩;subst er;refine ⟨_,U,g,B1,_,ws,p+1,b,1,400,n,[],U,U,A2,em,wo,λB2 H2 s2 A3 er2=>?_⟩;refine ⟨_,U,g,B2,_,ws,p+1+1,b,U,U,A3,er2,?_⟩;have D2:=DA.same (s1.trans s2);have hx:=A3.h.sm _ _ D2.d;refine ⟨_,U,dg.d,dg.C,dg.dd,_,_,U,hx,DC.c,DC.n1,U,dg.la,_,U,.inl (SqL.of (A3.h.get 2 rfl)),U,_,U,?_⟩;rw [Ji,decide_eq_false (λz=>by have z:=V.int.inj z;have:=DA.rl;omega)];refine zy ⟨_,U,dg.d,dg.C,dg.dd,_,_,U,hx,DC.c,DC.n1,U,dg.la,_,U,.inl (SqL.of (A3.h.get 2 rfl)),?_⟩;rw [Ji,← DA.rl];have nl:(zX 0 D.rows).length<sizeLine:=by rw [Xf];omega
 have h4:Hd B2 ((g.r,g.o ((p+1+1:Nat):Int) b)::(dg.ra,.dK (zX 0 (D.rows++[x])))::(dg.la,.lst (D.lens.map V.int))::(dg.ha,.dK (y9 ts D.heads))::(dg.fa,.lst (us.map V.ref))::(dg.ta,.lst [])::L0) (upd H2 dg.ra (.dK (z9 (zX 0 D.rows) (.inr x) (.int D.rows.length)))):=by
  rw [zgg px];exact A3.h.put 1 rfl
 refine ⟨_,U,dg.d,dg.C,dg.dd,_,_,U,hx,DC.c,DC.n0,U,_,U,dg.ra,_,U,DPut.k (k:=.inr x) (A3.h.get 1 rfl) nl,?_⟩
 have h5:Hd B2 ((g.r,g.o ((p+1+1:Nat):Int) b)::(dg.ra,.dK (zX 0 (D.rows++[x])))::(dg.la,.lst ((D.lens++[n]).map V.int))::(dg.ha,.dK (y9 ts D.heads))::(dg.fa,.lst (us.map V.ref))::(dg.ta,.lst [])::L0) (upd (upd H2 dg.ra (.dK (z9 (zX 0 D.rows) (.inr x) (.int D.rows.length)))) dg.la (.lst (D.lens.map V.int++[.int n]))):=by
  rw [Jk];exact h4.put 2 rfl
 have D3:DrAt B2 c dg { D with rows:=D.rows++[x],lens:=D.lens++[n] } ts us:=⟨D2.d,D2.tl,D2.t,D2.ul,D2.u,D2.hf,(by show (D.rows++[x]).length=(D.lens++[n]).length;rw [Jj,Jj,D2.rl];rfl),(by show (D.rows++[x]).length<=12;rw [Jj];show D.rows.length+1<=12;omega),D2.f8,D2.m⟩;refine ⟨_,U,dg.d,dg.C,dg.dd,_,_,U,h4.sm _ _ D2.d,DC.c,DC.n1,U,tyL (h4.get 2 rfl),_,U,dg.la,_,_,U,U,h4.get 2 rfl,(by rw [Ji,← DA.rl];omega),q B2 _ (s1.trans s2) h5.tl D3⟩
theorem zen {n:Str}:∀ {l:Jf},n ∉ l->plc n l=Y
 | [],_=>rfl
 | x::l,h=>by
  unfold plc;rw [if_neg (λe=>h (by rw [e];exact x0z)),zen (λm=>h (x0y _ m))];rfl
end
end K23
namespace L2
open PySem
def pe_fldK {X:Cx} {K:Fg} {e:Expr} {f:Str} {pos:Pos} {ta:TE} (h:X.K=K) (he:PE X e ta) (hb:wv e f X.env (eval e X.env)=eval e X.env):PE X (.Attribute e f pos) (tFld K ta f):=h ▸ zu he hb
end L2
namespace K23
open PySem L2
variable {K:Fg} {base:Heap}
def list_at {Ps:List (F2.Fm×Ad)} {i:Nat} {y:V} (h:(Ps.map λp=>V.ref p.2)[i]?=Z y):∃ p,Ps[i]?=Z p/\y=V.ref p.2:=by
 rw [sN] at h;obtain ⟨a,e,r⟩:=uV.mp h;exact ⟨a,e,r.symm⟩
structure CkOk (fs:List F2.Fn) (S T:Nat->Int) (forms:List F2.Fm):Prop where
 f8:fs.length<=8
 ts:F2.Told fs F2.sz S
 tt:F2.Told fs F2.dp T
 cl:∀ F∈forms,F2.CL fs.length F
 nd:∀ F∈forms,F2.nodes F<=2000
 s60:∀ F∈forms,F2.sz S F<=60
 d7:∀ F∈forms,F2.dp T F<=7
inductive spCk (K:Fg) (c:F2.Cs) (vs:Jn) (H:Hp) (Q:VK) (_:XK):Prop
 | mk (g:Dg) (ln:V) (fo:Ad) (fs:List F2.Fn) (S T:Nat->Int) (Ps:List (F2.Fm×Ad)) (_:vs=[.ref g.d,ln,.ref fo]) (_:H g.d=Z g.o) (_:DCls K g.C) (_:H fo=Z (.lst (Ps.map λp=>V.ref p.2))) (_:∀ p∈Ps,F2.FormAt c H p.1 p.2) (_:F2.FunsAt c K H g.fa fs) (_:CkOk fs S T (Ps.map uu)) (_:Ps.length<=3) (_:∀ H',Same H H'->Q .non H')
def ok_check {c:F2.Cs} {t1 t2:Tok} (d:zj K mg "check_forms" xZ UU) (hany:mg "any"=Y) (hGS:mg "GREATEST_SIZE"=Z (.int 60 t1)) (hGD:mg "GREATEST_DEPTH"=Z (.int 7 t2)) (SO:Ok P w K mg base CX0 21 "size_of" Ut (spOf c K F2.sz)) (DO:Ok P w K mg base CX0 21 "depth_of" Ut (spOf c K F2.dp)):Ok P w K mg base CX0 22 "check_forms" UU (spCk K c):=by
 refine oDf d sc_check_forms λf sA A _ s H vs Q E hr h=>?_;obtain ⟨g,ln,fo,fs,S,T,Ps,rfl,hx,DC,ef,fa,FA,CO,l3,q⟩:=h;have hr21:Room 21 _:=hr;have nd:=sc_check_forms.nd;have SL:(1000:Nat)<sizeLine:=by decide
 refine ⟨_,(zb (zB (zG (zh (YO rfl) (by rfl) hany vW (za (Z0 ["form","draft"] [Y,Z 0] rfl rfl rfl (xo (pv 2)) (λs3 H3 fp=>⟨zR (i:=0) (Jp ["form","draft"]) rfl (vG rfl),(ym ZV (zo SO hr21 (by rfl) zv (za (pv 0) (za (pe_fldK (K:=K) rfl (pv 1) rfl) zc))) (yt hGS) (zw _))⟩)) zc))) zO zk)
   (ze (zB (zG (zh (YO rfl) (by rfl) hany vW (za (Z0 ["form","draft"] [Y,Z 0] rfl rfl rfl (xo (pv 2)) (λs3 H3 fp=>⟨zR (i:=0) (Jp ["form","draft"]) rfl (vG rfl),(ym ZV (zo DO hr21 (by rfl) zv (za (pv 0) (za (pe_fldK (K:=K) rfl (pv 1) rfl) zc))) (yt hGD) (zw _))⟩)) zc))) zO zk))),?_⟩
 have SQ:Same H H:=Same.refl _;refine ⟨_,U,fo,U,⟨_,SqL.of (SQ _ _ ef)⟩,_,U,λD nD=>?_⟩;refine Z2 (K:=K) (a:=fo) (D:=D) (xs:=Ps.map λp=>V.ref p.2) (λi σ J=>∃ u,σ=[u,rq g.d]/\Hd H [(D,.lst (((Ps.take i).map λp=>false).map V.bl))] J) ⟨Y,U,Hd.base.new nD⟩ (λi σ J _ ⟨_,_,h⟩=>SqL.of (h.sm _ _ (SQ _ _ ef))) ?_ ?_
 .rintro i y σ J hy ⟨u,rfl,h⟩
  obtain ⟨p,hp,rfl⟩:=list_at hy;have mp:=sP hp;have mf:=uh (f:=uu) mp;have sH:=SQ.trans h.sm;refine ⟨_,U,_,U,g.d,g.C,g.dd,_,_,U,sH _ _ hx,DC.c,DC.n3,U,p.2,g.fa,p.1,fs,S,U,(fa p mp).same sH,CO.f8,CO.cl _ mf,CO.nd _ mf,CO.ts,FA.same sH,λJ2 s2=>?_⟩;have h2:=h.same s2;refine ⟨_,_,U,U,_,h2.get 0 rfl,(by rw [Ji,Ji,ut];omega),_,U,?_⟩;have bd:=CO.s60 _ mf;rw [decide_eq_false (by omega)];have h3:=h2.put (o':=.lst (((Ps.take (i+1)).map λp=>false).map V.bl)) 0 rfl
  have e:(((Ps.take (i+1)).map λp=>false).map V.bl)=(((Ps.take i).map λp=>false).map V.bl)++[V.bl false]:=by
   rw [uF,hp,Jk,Jk];rfl
  rw [e] at h3 ⊢;exact h3
 rintro σ J ⟨u,rfl,h⟩;rw [Ji,uD] at h;refine ⟨D,_,U,h.lst 0 rfl,?_⟩;have e:(Ps.map λp=>false).any id=false:=by rw [vX];exact wI.mpr (λ_ _ z=>by cases z)
 rw [e];refine ⟨_,U,zy ?_⟩;have SQ:Same H J:=h.sm;clear nD h e;refine ⟨_,U,fo,U,⟨_,SqL.of (SQ _ _ ef)⟩,_,U,λD nD=>?_⟩;refine Z2 (K:=K) (a:=fo) (D:=D) (xs:=Ps.map λp=>V.ref p.2) (λi σ J'=>∃ u,σ=[u,rq g.d]/\Hd J [(D,.lst (((Ps.take i).map λp=>false).map V.bl))] J') ⟨Y,U,Hd.base.new nD⟩ (λi σ J' _ ⟨_,_,h⟩=>SqL.of (h.sm _ _ (SQ _ _ ef))) ?_ ?_
 .rintro i y σ J' hy ⟨u,rfl,h⟩
  obtain ⟨p,hp,rfl⟩:=list_at hy;have mp:=sP hp;have mf:=uh (f:=uu) mp;have sH:=SQ.trans h.sm;refine ⟨_,U,_,U,g.d,g.C,g.dd,_,_,U,sH _ _ hx,DC.c,DC.n3,U,p.2,g.fa,p.1,fs,T,U,(fa p mp).same sH,CO.f8,CO.cl _ mf,CO.nd _ mf,CO.tt,FA.same sH,λJ2 s2=>?_⟩;have h2:=h.same s2;refine ⟨_,_,U,U,_,h2.get 0 rfl,(by rw [Ji,Ji,ut];omega),_,U,?_⟩;have bd:=CO.d7 _ mf;rw [decide_eq_false (by omega)];have h3:=h2.put (o':=.lst (((Ps.take (i+1)).map λp=>false).map V.bl)) 0 rfl
  have e:(((Ps.take (i+1)).map λp=>false).map V.bl)=(((Ps.take i).map λp=>false).map V.bl)++[V.bl false]:=by
   rw [uF,hp,Jk,Jk];rfl
  rw [e] at h3 ⊢;exact h3
 rintro σ J' ⟨u,rfl,h⟩;rw [Ji,uD] at h;refine ⟨D,_,U,h.lst 0 rfl,?_⟩;have e:(Ps.map λp=>false).any id=false:=by rw [vX];exact wI.mpr (λ_ _ z=>by cases z)
 rw [e];exact ⟨_,U,zy (q _ (SQ.trans h.sm))⟩
def Zc {B:Hp} {l:Jg} (hl:∀ a∈l,∃ sr,B a=Z (.dK sr)) {x:Ad} {o:HO} (h:B x=Z o) (n:∀ sr,o≠.dK sr):x ∉ l:=λm=>by
 obtain ⟨k,e⟩:=hl x m;rw [h] at e;exact n k (uq e)
mutual
theorem xJ {c:F2.Cs} {B:Hp} {l:Jg} (hl:∀ a∈l,∃ sr,B a=Z (.dK sr)):∀ {F:F2.Fm} {x:Ad},F2.FormAt c B F x->F2.FormAt c (but B l) F x
 | .num _,_,h=>by obtain ⟨dx,h⟩:=h;exact ⟨dx,yn h (Zc hl h (λ_ z=>by cases z))⟩
 | .here,_,h=>by obtain ⟨dx,h⟩:=h;exact ⟨dx,yn h (Zc hl h (λ_ z=>by cases z))⟩
 | .cell _,_,h=>by obtain ⟨dx,h⟩:=h;exact ⟨dx,yn h (Zc hl h (λ_ z=>by cases z))⟩
 | .shi _ _ _,_,h=>by obtain ⟨dx,h⟩:=h;exact ⟨dx,yn h (Zc hl h (λ_ z=>by cases z))⟩
 | .loc _,_,h=>by obtain ⟨dx,h⟩:=h;exact ⟨dx,yn h (Zc hl h (λ_ z=>by cases z))⟩
 | .at' _ _,_,h=>by obtain ⟨dx,y,h,p⟩:=h;exact ⟨dx,y,yn h (Zc hl h (λ_ z=>by cases z)),xJ hl p⟩
 | .pair _ _ _,_,h=>by obtain ⟨dx,y,z,h,p,q⟩:=h;exact ⟨dx,y,z,yn h (Zc hl h (λ_ z=>by cases z)),xJ hl p,xJ hl q⟩
 | .cho _ _ _,_,h=>by obtain ⟨dx,u,y,z,h,o,p,q⟩:=h;exact ⟨dx,u,y,z,yn h (Zc hl h (λ_ z=>by cases z)),xJ hl o,xJ hl p,xJ hl q⟩
 | .call _ _,_,h=>by obtain ⟨dx,l',ys,h,e,p⟩:=h;exact ⟨dx,l',ys,yn h (Zc hl h (λ_ z=>by cases z)),yn e (Zc hl e (λ_ z=>by cases z)),zck hl p⟩
theorem zck {c:F2.Cs} {B:Hp} {l:Jg} (hl:∀ a∈l,∃ sr,B a=Z (.dK sr)):∀ {F:F2.Fms} {ys:Jg},F2.FormsAt c B F ys->F2.FormsAt c (but B l) F ys
 | .nil,_,h=>h
 | .cons _ _,_,h=>by obtain ⟨y,t,e,p,q⟩:=h;exact ⟨y,t,e,xJ hl p,zck hl q⟩
end
section
variable {B:Hp} {g:Rg} {ws:Jf} {p:Nat} {b:Int} {dg:Dg} {ts us:Jg} {D:Dr} {L0:Jm}
def RAt.lay (h:RAt B g ws p b (dg.L ts us D++L0) H):∃ B1,Same B B1/\B1 dg.ra=Z (.dK (zX 0 D.rows))/\B1 dg.ha=Z (.dK (y9 ts D.heads))/\B dg.ra=Y/\B dg.ha=Y/\RAt B1 g ws p b ((dg.la,.lst (D.lens.map V.int))::(dg.fa,.lst (us.map V.ref))::L0) H:=by
 have h1:Hd B ((dg.ra,.dK (zX 0 D.rows))::(g.r,g.o p b)::(dg.la,.lst (D.lens.map V.int))::(dg.ha,.dK (y9 ts D.heads))::(dg.fa,.lst (us.map V.ref))::L0) H:=h.h.perm (uZ _ _ _);have h2:=h1.settle;have s1:=h1.settled;have h3:Hd (upd B dg.ra (.dK (zX 0 D.rows))) ((dg.ha,.dK (y9 ts D.heads))::(g.r,g.o p b)::(dg.la,.lst (D.lens.map V.int))::(dg.fa,.lst (us.map V.ref))::L0) H:=h2.perm (((uZ _ _ _).cons _).trans (uZ _ _ _));have s2:=h3.settled;exact ⟨_,s1.trans s2,s2 _ _ zg,zg,h1.nw _ x0z,h1.nw _ (.tail _ (.tail _ (.tail _ (.head _)))),h3.settle,(s1.trans s2) _ _ h.w,h.l⟩
def same_but2 {B2:Hp} {x y:Ad} (s:Same B B2) (e1:B x=Y) (e2:B y=Y):Same B (but B2 [x,y]):=λa o e=>yn (s _ _ e) (λm=>by
 rcases sM.mp m with rfl | m
 .rw [e1] at e;cases e
 .cases sG.mp m;rw [e2] at e;cases e)
def RAt.unlay {ho:HO} (hn:dg.ra≠dg.ha) (h:RAt B g ws p b ((dg.la,ho)::(dg.fa,.lst (us.map V.ref))::L0) H) (e1:B dg.ra=Z (.dK (zX 0 D.rows))) (e2:B dg.ha=Z (.dK (y9 ts D.heads))):RAt (but B [dg.ra,dg.ha]) g ws p b ((dg.ra,.dK (zX 0 D.rows))::(dg.la,ho)::(dg.ha,.dK (y9 ts D.heads))::(dg.fa,.lst (us.map V.ref))::L0) H:=by
 have s:Same (but B [dg.ra,dg.ha]) B:=zd8;have h1:Hd (but B [dg.ra,dg.ha]) ((g.r,g.o p b)::(dg.la,ho)::(dg.fa,.lst (us.map V.ref))::L0) H:=h.h.weak s
 have no:∀ a o,B a=Z o->∀ q∈((g.r,g.o p b)::(dg.la,ho)::(dg.fa,HO.lst (us.map V.ref))::L0),q.1≠a:=λa o e q m z=>by
  have:=h.h.nw q m;rw [z,e] at this;cases this
 have h2:=h1.add (no _ _ e2) (Yx (by simp)) (h.h.sm _ _ e2)
 have h3:=h2.add (a:=dg.ra) (λq m=>by
  rcases sM.mp m with rfl | m
  .exact vQ hn
  .exact no _ _ e1 q m) (Yx (by simp)) (h.h.sm _ _ e1)
 refine ⟨h3.perm (((uZ _ _ _).cons _).trans ((uZ _ _ _).trans (((uZ _ _ _).cons _).cons _))),yn h.w (λm=>?_),h.l⟩;rcases sM.mp m with z | m
 .have:=h.w;rw [z,e1] at this;cases this
 .have:=h.w;rw [sG.mp m,e2] at this;cases this
def RAt.lns (h:RAt B g ws p b (dg.L ts us D++L0) H):dg.ra≠dg.ha:=h.h.ne 1 3 rfl rfl (by decide)
def DrAt.funs {c:F2.Cs} {K:Fg} (h:DrAt B c dg D ts us) (s:Same B H) (e:H dg.fa=Z (.lst (us.map V.ref))):F2.FunsAt c K H dg.fa D.fns:=by
 refine ⟨us,SqL.of e,h.ul,λi hi=>?_⟩;have hu:i<us.length:=by rw [h.ul];exact hi
 obtain ⟨fn,y,a,b,d⟩:=h.u i _ (sI hu);have e1:us.getD i 0=us[i]:=by rw [x0x,sI hu];rfl
 have e2:D.fns.getD i (0,.here)=fn:=by rw [x0x,a];rfl
 rw [e1,e2];exact ⟨y,SqT.of (s _ _ b),d.same s⟩
end
def freeL:Jf:=["sum","product","least","most","both","either","odd"]
def ordL:Jf:=["chain","capped"]
def YN (z:Str):Bool:=decide (z∈freeL) || decide (z∈ordL)
def TestAt (c:F2.Cs) (B:Hp):Option F2.Fm->V->Prop
 | none,v=>v=.non
 | some f,v=>∃ y,v=.ref y/\F2.FormAt c B f y
inductive PTest (R:Rdg):Jf->Option F2.Fm->Prop
 | none:PTest R [] Y
 | some (f:F2.Fm) (r:Jf) (h:zZ R 30 r=.ok (f,[])):PTest R (("where":Str)::r) (Z f)
def spFree:Sp:=λvs H Q _=>∃ z:Str,vs=[.str z]/\Q (.bl (decide (z∈freeL))) H
def ok_freeW {aS:Ad} (d:zj K mg "free" zdc ["fold"]) (T:TopHas w K mg "FREE_FOLDS" aS freeL):Ok P w K mg base CX0 1 "free" ["fold"] spFree:=by
 refine oDf d sc_free λf sA A _ s H vs Q E hr h=>?_;obtain ⟨z,rfl,q⟩:=h;have nd:=sc_free.nd;obtain ⟨r,e1,e2⟩:=T.h z;refine ⟨_,(ze (zm (ym XN (pv 0) (zK T.g) rfl))),?_⟩;refine ⟨_,U,z,aS,r,U,U,T.T,T.lo,e1,?_⟩;rw [e2];exact q
def spIsF:Sp:=λvs H Q _=>∃ z:Str,vs=[.str z]/\Q (.bl (YN z)) H
def zf7 {aS:Ad} (d:zj K mg "is_fold" YH Uj) (T:TopHas w K mg "ORDERED_FOLDS" aS ordL) (FR:Ok P w K mg base CX0 1 "free" ["fold"] spFree):Ok P w K mg base CX0 2 "is_fold" Uj spIsF:=by
 refine oDf d sc_is_fold λf sA A _ s H vs Q E hr h=>?_;obtain ⟨z,rfl,q⟩:=h;have hr1:Room 1 _:=hr;have nd:=sc_is_fold.nd;obtain ⟨r,e1,e2⟩:=T.h z;refine ⟨_,(ze (zm (pe_or (zo FR hr1 (by rfl) zv (za (pv 0) zc)) (yD (ym XN (pv 0) (zK T.g) rfl))))),?_⟩;refine ⟨_,U,z,U,_,U,?_⟩;unfold YN at q
 cases hz:decide (z∈freeL) with
 | true=>rw [hz] at q;exact zL q
 | false =>
  rw [hz] at q;refine zy ⟨_,U,z,aS,r,U,U,T.T,T.lo,e1,?_⟩;rw [e2];exact q
inductive spRF (C:Ad) (vs:Jn) (H:Hp) (Q:VK) (_:XK):Prop
 | mk (g:Rg) (B:Hp) (L:Jm) (ws:Jf) (p:Nat) (b:Int) (x:Str) (r:Jf) (_:vs=[.ref g.r]) (_:g.C=C) (_:RAt B g ws p b L H) (_:ws.drop p=x::r) (_:YN x=true) (_:∀ H',RAt B g ws (p+1) b L H'->ws.drop (p+1)=r->Q (.str x) H')
def zdo {C:Ad} (d:zj K mg "read_fold" ZI Ua) (rC:RCls K C) (NW:OkM P w K mg base CX0 2 C "next_word" Uw (spNW C)) (IF:Ok P w K mg base CX0 2 "is_fold" Uj spIsF):Ok P w K mg base CX0 3 "read_fold" Ua (spRF C):=by
 refine oDf d sc_read_fold λf sA A _ s H vs Q E hr h=>?_;obtain ⟨g,B,L,ws,p,b,x,r,rfl,rfl,A1,ew,hx,q⟩:=h;have hr2:Room 2 _:=hr;have cC:=rC.c;have nd:=sc_read_fold.nd;refine ⟨_,(zb (oRz 1 nd (Za NW cC hr2 zv (pv 0)))
   (zb (zB (zW (zG (zo IF hr2 (by rfl) zv (za (pv 1) zc)))) zO zk)
   (ze (zm (pv 1))))),?_⟩
 show (let s1:L2.TS:=_;let s2:L2.TS:=L2.tSeq _ s1;L2.tSeq _ s2 _ _ _);intro s1 s2;refine ⟨_,U,g.r,g.dx,_,U,A1.h.get 0 rfl,U,g,B,L,ws,p,b,x,r,U,U,A1,ew,λH' A2 er=>⟨_,U,x,U,_,U,?_⟩⟩;rw [hx];exact zy ⟨_,U,q H' A2 er⟩
inductive spMa (C:Ad) (vs:Jn) (H:Hp) (Q:VK) (_:XK):Prop
 | mk (g:Rg) (B:Hp) (L:Jm) (ws:Jf) (p:Nat) (b n:Int) (r1 r:Jf) (_:vs=[.ref g.r]) (_:g.C=C) (_:RAt B g ws p b L H) (_:ws.drop p=("of":Str)::r1) (_:YT 1 400 r1=.ok (n,r)) (_:∀ x∈ws,x.length<=50000) (_:∀ B' H',Same B B'->RAt B' g ws (p+2) b L H'->ws.drop (p+2)=r->Q (.int n) H')
def zdn {C:Ad} {t1:Tok} (d:zj K mg "read_many" ZH Ua) (hMC:mg "MOST_CELLS"=Z (.int 400 t1)) (RW:Ok P w K mg base CX0 3 "read_word" Ul (spRW C)) (NU:Ok P w K mg base CX0 4 "read_number" UA (spNu C)):Ok P w K mg base CX0 5 "read_many" Ua (spMa C):=by
 refine oDf d sc_read_many λf sA A _ s H vs Q E hr h=>?_;obtain ⟨g,B,L,ws,p,b,n,r1,r,rfl,rfl,A1,ew,en,xl,q⟩:=h;have hr4:Room 4 _:=hr;have hr3:Room 3 _:=hr.mono (by decide);have nd:=sc_read_many.nd;refine ⟨_,(zb (zC (zo RW hr3 (by rfl) zv (za (pv 0) (za zn zc))))
   (ze (zm (zo NU hr4 (by rfl) zv (za (pv 0) (za zd (za (yt hMC) zc))))))),?_⟩
 refine ⟨_,U,g,B,L,ws,p,b,_,r1,U,U,A1,ew,λH' A2 er=>?_⟩;exact ⟨_,U,g,B,L,ws,p+1,b,1,400,n,r,U,U,A2,by rw [er];exact en,xl,λB' H2 sB A3 e3=>q B' H2 sB A3 e3⟩
inductive spFur (vs:Jn) (H:Hp) (Q:VK) (_:XK):Prop
 | mk (g:Dg) (ln:V) (ls:Jn) (_:vs=[.ref g.d,ln]) (_:H g.d=Z g.o) (_:H g.na=Z (.lst ls)) (_:DCls K g.C) (_:ls.length<40) (_:Q .non H)
def zf9 {t1:Tok} (d:zj K mg "refuse_further_step" yr UV) (hlen:mg "len"=Y) (hMS:mg "MOST_STEPS"=Z (.int 40 t1)):Ok P w K mg base CX0 1 "refuse_further_step" UV (spFur (K:=K)):=by
 refine oDf d sc_refuse_further_step λf sA A _ s H vs Q E hr h=>?_;obtain ⟨g,ln,ls,rfl,hg,hl,dC,l4,q⟩:=h;have nd:=sc_refuse_further_step.nd;refine ⟨_,(ze (zB (zp zP (zh zr (by rfl) hlen sU (za (zu (pv 0) rfl) zc)) (yt hMS) (zw _)) zO zk)),?_⟩;refine ⟨_,U,g.d,g.C,g.dd,_,_,U,hg,dC.c,dC.n6,U,g.na,_,U,.inl (SqL.of hl),U,_,U,?_⟩;rw [decide_eq_false (λz=>by have:=V.int.inj z;omega)];exact zy q
inductive spTe (C:Ad) (c:F2.Cs) (vs:Jn) (H:Hp) (Q:VK) (_:XK):Prop
 | mk (g:Rg) (B:Hp) (L:Jm) (ws:Jf) (p:Nat) (R:Rdg) (t:Option F2.Fm) (_:vs=[.ref g.r]) (_:g.C=C) (_:RAt B g ws p 0 L H) (_:RdAt B g R) (_:PTest R (ws.drop p) t) (_:Yg ws) (_:∀ B' H' p' v,Same B B'->RAt B' g ws p' 0 L H'->TestAt c B' t v->Q v H')
def zdk {C:Ad} {c:F2.Cs} (d:zj K mg "read_test" ZF Ua) (rC:RCls K C) (HM:OkM P w K mg base CX0 1 C "has_more" Uw (spHM C)) (RW:Ok P w K mg base CX0 3 "read_word" Ul (spRW C)) (RF:Ok P w K mg base CX0 154 "read_form" Ua (spFm C c 30)) (LE:Ok P w K mg base CX0 2 "read_line_end" Ua (spLE C)):Ok P w K mg base CX0 155 "read_test" Ua (spTe C c):=by
 refine oDf d sc_read_test λf sA A _ s H vs Q E hr h=>?_;obtain ⟨g,B,L,ws,p,R,t,rfl,rfl,A1,RA,pt,wo,q⟩:=h;have hrf:Room 154 _:=hr;have hr3:Room 3 _:=hr.mono (by decide);have hr2:Room 2 _:=hr.mono (by decide);have hr1:Room 1 _:=hr.mono (by decide);have cC:=rC.c;have nd:=sc_read_test.nd;have dl:(ws.drop p).length=ws.length-p:=uS ..;refine ⟨_,(zb (zB (zW (zG (Za HM cC hr1 zv (pv 0)))) (ze (zm yK)) zk)
   (zb (zC (zo RW hr3 (by rfl) zv (za (pv 0) (za zn zc))))
   (zb (oRz 1 nd (zo RF hrf (by rfl) zv (za (pv 0) zc)))
   (zb (zC (zo LE hr2 (by rfl) zv (za (pv 0) zc)))
   (ze (zm (pv 1))))))),?_⟩
 show (let s1:L2.TS:=_;let s2:L2.TS:=L2.tSeq _ s1;let s3:L2.TS:=L2.tSeq _ s2;let s4:L2.TS:=L2.tSeq _ s3;L2.tSeq _ s4 _ _ _);intro s1 s2 s3 s4;refine ⟨_,U,g.r,g.dx,_,U,A1.h.get 0 rfl,U,g,B,L,ws,p,0,U,U,A1,_,U,?_⟩;generalize hd:ws.drop p=wd at pt dl
 cases pt with
 | none =>
  rw [decide_eq_false (by have:([]:Jf).length=0:=rfl;omega)];exact zL (q B H p _ (Same.refl _) A1 rfl)
 | some fm r hp =>
  rw [decide_eq_true (by rw [x2x] at dl;omega)];refine zy ⟨_,U,g,B,L,ws,p,0,_,r,U,U,A1,hd,λH' A2 er=>?_⟩;refine ⟨_,U,g,B,L,ws,p+1,R,fm,[],U,U,A2,RA,by rw [er];exact hp,wo,λB' H2 p' y sB A3 e3 fy=>?_⟩;refine ⟨_,U,g,B',L,ws,p',0,U,U,A3,e3,?_⟩;exact ⟨_,U,q B' H2 p' _ sB A3 ⟨y,U,fy⟩⟩
end K23
namespace F2
open PySem L2
mutual
def tot (own:Fm->Int):Fm->Int
 | .num n=>own (.num n)
 | .here=>own .here
 | .cell r=>own (.cell r)
 | .shi r b o=>own (.shi r b o)
 | .loc a=>own (.loc a)
 | .at' r p=>own (.at' r p)+tot own p
 | .pair s l r=>own (.pair s l r)+(tot own l+tot own r)
 | .cho t l r=>own (.cho t l r)+(tot own t+(tot own l+tot own r))
 | .call a hs=>own (.call a hs)+totL own hs
def totL (own:Fm->Int):Fms->Int
 | .nil=>0
 | .cons f r=>tot own f+totL own r
end
theorem totL_eq {own:Fm->Int}:∀ {hs:Fms},totL own hs=(hs.toL.map (tot own)).sum
 | .nil=>by unfold totL;rfl
 | .cons f r=>by unfold totL;rw [totL_eq (hs:=r)];rfl
def tot_eq {own:Fm->Int} (F:Fm):tot own F=own F+((partsF F).map (tot own)).sum:=by
 cases F with
 | num n=>unfold tot;exact (wu _).symm
 | here=>unfold tot;exact (wu _).symm
 | cell n=>unfold tot;exact (wu _).symm
 | shi _ _ _=>unfold tot;exact (wu _).symm
 | loc n=>unfold tot;exact (wu _).symm
 | at' r p=>unfold tot;show _=_+(tot own p+0);omega
 | pair s l r=>unfold tot;show _=_+(tot own l+(tot own r+0));omega
 | cho t l r=>unfold tot;show _=_+(tot own t+(tot own l+(tot own r+0)));omega
 | call a hs=>unfold tot;rw [totL_eq];rfl
def nameOf:Fm->Option (Bool×Int)
 | .cell r=>Z (true,r)
 | .shi r _ _=>Z (false,r)
 | .at' r _=>Z (false,r)
 | _=>Y
def ownN (f:Bool×Int->Bool) (F:Fm):Int:=match nameOf F with
 | some q=>if f q then 1 else 0
 | none=>0
def ownN_nn {f:Bool×Int->Bool} (F:Fm):0<=ownN f F:=by
 unfold ownN;split
 .split <;> decide
 .decide
def hit (f:Bool×Int->Bool) (F:Fm):Bool:=decide (0<tot (ownN f) F)
theorem sum_nn:∀ {l:Jb},(∀ x∈l,0<=x)->0<=l.sum
 | [],_=>vx _
 | a::t,h=>by
  have:=sum_nn (l:=t) λx hx=>h x (x0y _ hx);have:=h a x0z;rw [uJ];omega
theorem sum_pos:∀ {l:Jb},(∀ x∈l,0<=x)->∀ {a:Int},a∈l->0<a->0<l.sum
 | [],_,_,m,_=>nomatch m
 | b::t,h,a,m,p=>by
  have n:=sum_nn (l:=t) λx hx=>h x (x0y _ hx);have nb:=h b x0z;rw [uJ];rcases sM.mp m with rfl | m
  .omega
  .have:=sum_pos (λx hx=>h x (x0y _ hx)) m p
   omega
theorem sum_zero:∀ {l:Jb},(∀ x∈l,x=0)->l.sum=0
 | [],_=>rfl
 | a::t,h=>by rw [uJ,h a x0z,sum_zero λx hx=>h x (x0y _ hx)];rfl
mutual
def RI (n:Nat):Fm->Prop
 | .num _=>True
 | .here=>True
 | .cell r=>0<=r/\r.toNat<n
 | .shi _ _ _=>True
 | .loc _=>True
 | .at' _ p=>RI n p
 | .pair _ l r=>RI n l/\RI n r
 | .cho t l r=>RI n t/\RI n l/\RI n r
 | .call _ hs=>RIs n hs
def RIs (n:Nat):Fms->Prop
 | .nil=>True
 | .cons f r=>RI n f/\RIs n r
end
theorem RIs.all {n:Nat}:∀ {gs:Fms},RIs n gs->∀ g∈gs.toL,RI n g
 | .nil,_,_,m=>nomatch m
 | .cons f r,h,g,m=>by
  unfold RIs at h;rcases sM.mp m with rfl | m
  .exact h.1
  .exact RIs.all h.2 g m
def RI.parts {n:Nat} (F:Fm) (h:RI n F):∀ g∈partsF F,RI n g:=by
 intro g m
 cases F with
 | at' r p=>unfold RI at h;cases sG.mp m;exact h
 | pair s l r =>
  unfold RI at h;rcases sM.mp m with rfl | m
  .exact h.1
  .cases sG.mp m;exact h.2
 | cho t l r =>
  unfold RI at h;rcases sM.mp m with rfl | m
  .exact h.1
  .rcases sM.mp m with rfl | m
   .exact h.2.1
   .cases sG.mp m;exact h.2.2
 | call a hs=>unfold RI at h;exact h.all g m
 | num _=>cases m
 | here=>cases m
 | cell _=>cases m
 | shi _ _ _=>cases m
 | loc _=>cases m
def isShi:Fm->Bool
 | .shi _ _ _=>true
 | _=>false
def isCell:Fm->Bool
 | .cell _=>true
 | _=>false
end F2
namespace ST
open PySem L2 FM
def zdd:Kd->List F2.Fm
 | .put p _=>[p]
 | _=>[]
def z6 (L:StepD):List F2.Fm:=[L.value]++zdd L.kind++L.test.toList
def Yb (L:StepD):(z6 L).length<=3:=by
 obtain ⟨a,b,t,k⟩:=L;cases k <;> cases t <;> simp [z6,zdd]
def fU (sD:Jb) (mn_:Int):Bool×Int->Bool:=λq=>q.1 && (!decide (sD.getD q.2.toNat 0=mn_) && !decide (sD.getD q.2.toNat 0=1))
def fX (pf:Bool) (tgt:Int):Bool×Int->Bool:=λq=>decide (q.2=tgt) && (!q.1 || pf)
def Zo (sD:Jb) (L:StepD):Bool:=(isF L.kind && !decide (sD.getD L.target.toNat 0=1)) || (z6 L).any (F2.hit (fU sD (yF sD L)))
def Xi (L:StepD):Bool:=(z6 L).any (F2.hit (fX (isP L.kind || isF L.kind) L.target))
end ST
namespace K23
open PySem L2 FM ST
variable {K:Fg} {base:Heap}
structure KAny (K:Fg) (C:Ad):Prop where
 cl:Cls K C
 k1:t6 K (.ref C) "__class__"=Z (Z (.builtin "object.__class__"))
 k2:tP K (.builtin "object.__class__") "__get__"=Z (Z (.builtin "getset_descriptor.__get__"))
 k3:tT K (.builtin "object.__class__")=Z true
 k4:u9 K C (.type "object")=Z true
def KAny.ty {K:Fg} {C:Ad} (s:KAny K C) {H:Hp} {x dx:Ad} {fl:List (Str×V)} (h:H x=Z (.ins C dx fl)):TyOf K H (.ref x) (.ref C):=.ins h s.cl s.k1 s.k2 s.k3 s.k4
structure KStep (K:Fg) (q:Scs) (C:Ad) (bT bP bF:Bool):Prop extends KAny K C where
 t:sC K (.ref C) (.ref q.till)=Z bT
 p:sC K (.ref C) (.ref q.put)=Z bP
 f:sC K (.ref C) (.ref q.fold)=Z bF
structure KPart (K:Fg) (c:F2.Cs) (C:Ad) (bC bS bA:Bool):Prop extends KAny K C where
 ce:sC K (.ref C) (.ref c.cell)=Z bC
 sh:sC K (.ref C) (.ref c.shi)=Z bS
 at':sC K (.ref C) (.ref c.at')=Z bA
def kitAny2 {K:Fg} {t a b:Vl} {x y:Bool} (h1:sC K t a=Z x) (h2:sC K t b=Z y):PySem.W.kitAny K t [a,b]=Z (x || y):=by
 unfold PySem.W.kitAny;rw [h1]
 cases x with
 | true=>rfl
 | false =>
  unfold PySem.W.kitAny;show (match sC K t b with | some true=>Z true | some false=>_ | none=>Y)=_;rw [h2];cases y <;> rfl
structure LooksS (K:Fg) (mg:J0) (c:F2.Cs) (q:Scs):Prop where
 st:∀ k,KStep K q (q.of k) false (isP k) (isF k)
 till:KStep K q q.till true false false
 nv:∀ k,NoAttr K (q.of k) "value"
 nt:∀ k,NoAttr K (q.of k) "test"
 ng:∀ k,NoAttr K (q.of k) "target"
 np:NoAttr K q.put "place"
 pa:∀ F,KPart K c (F2.clsOf c F) (F2.isCell F) (F2.isShi F) (F2.isAt F)
 rc:NoAttr K c.cell "row"
 rs:NoAttr K c.shi "row"
 ra:NoAttr K c.at' "row"
 hAt:mg "At"=Z (.ref c.at')
 hCe:mg "Cell"=Z (.ref c.cell)
 hSh:mg "Shifted"=Z (.ref c.shi)
 hPu:mg "Put"=Z (.ref q.put)
 hFo:mg "Fold"=Z (.ref q.fold)
 hTi:mg "Till"=Z (.ref q.till)
def clsAt {c:F2.Cs} {H:Hp} {F:F2.Fm} {x:Ad} (h:F2.FormAt c H F x):∃ dx fl,H x=Z (.ins (F2.clsOf c F) dx fl)/\∀ r,F2.nameOf F=Z r->fl.lookup ("row":Str)=Z (.int r.2):=by
 cases F with
 | num n=>obtain ⟨dx,h⟩:=h;exact ⟨dx,_,h,λr e=>by cases e⟩
 | here=>obtain ⟨dx,h⟩:=h;exact ⟨dx,_,h,λr e=>by cases e⟩
 | cell n=>obtain ⟨dx,h⟩:=h;exact ⟨dx,_,h,λr e=>by cases e;rfl⟩
 | shi _ _ _=>obtain ⟨dx,h⟩:=h;exact ⟨dx,_,h,λr e=>by cases e;rfl⟩
 | loc n=>obtain ⟨dx,h⟩:=h;exact ⟨dx,_,h,λr e=>by cases e⟩
 | at' r p=>obtain ⟨dx,y,h,_⟩:=h;exact ⟨dx,_,h,λr e=>by cases e;rfl⟩
 | pair s l r=>obtain ⟨dx,y,z,h,_⟩:=h;exact ⟨dx,_,h,λr e=>by cases e⟩
 | cho t l r=>obtain ⟨dx,u,y,z,h,_⟩:=h;exact ⟨dx,_,h,λr e=>by cases e⟩
 | call a gs=>obtain ⟨dx,l,ys,h,_⟩:=h;exact ⟨dx,_,h,λr e=>by cases e⟩
inductive spFormsOf (c:F2.Cs) (q:Scs) (vs:Jn) (H:Hp) (Q:VK) (_:XK):Prop
 | mk (x:Ad) (L:StepD) (_:vs=[.ref x]) (_:StepAt c q H L x) (_:∀ H' l (Ps:List (F2.Fm×Ad)),Hd H [(l,.lst (Ps.map λp=>V.ref p.2))] H'->Ps.map uu=z6 L->(∀ p∈Ps,F2.FormAt c H p.1 p.2)->Q (.ref l) H')
def zga {c:F2.Cs} {q:Scs} (d:zj K mg "forms_of" Z7 ["step"]) (hisi:mg "isinstance"=Y) (G:LooksS K mg c q):Ok P w K mg base (CXe P w base) 1 "forms_of" ["step"] (spFormsOf c q):=by
 refine oDe d sc_forms_of λg sA A _ s H vs Q E hr h=>?_;obtain ⟨x,L,rfl,hx,k⟩:=h;have nd:=sc_forms_of.nd;obtain ⟨dx,v,p,t,ex,fv,ft,fp⟩:=hx.ex;have S:=G.st L.kind;refine ⟨_,(zb (oRz 1 nd (zJ (za (zu (pv 0) rfl) zc)))
   (zb (yx (zB (zG (zh zA (by rfl) hisi sF (za (pv 0) (za (zK G.hPu) zc)))) (ze (zC (yz sQ t8 t7 zQ (pv 1) (za (zu (pv 0) rfl) zc)))) zk))
   (zb (zB (zp zaj (zu (pv 0) rfl) yK (zw _)) (ze (zC (yz sQ t8 t7 zQ (pv 1) (za (zu (pv 0) rfl) zc)))) zk)
   (ze (zm (pv 1)))))),?_⟩
 refine ⟨_,U,x,_,dx,_,.ref v,U,ex,S.cl,G.nv _,fld_value,(by show 1<=sL;decide),λl nl=>?_⟩;have h0:Hd H [(l,.lst (([(L.value,v)]:List (F2.Fm×Ad)).map λp=>V.ref p.2))] (upd H l (.lst [.ref v])):=Hd.base.new nl;generalize upd H l (.lst [.ref v])=H1 at h0 ⊢;refine ⟨λσ' H'=>σ'=[rq x,rq l]/\∃ Ps:List (F2.Fm×Ad),Hd H [(l,.lst (Ps.map λp=>V.ref p.2))] H'/\Ps.map uu=[L.value]++zdd L.kind/\(∀ p∈Ps,F2.FormAt c H p.1 p.2)/\Ps.length<=2,?_,?_⟩
 .refine ⟨_,U,_,_,.ref q.put,_,isP L.kind,U,U,(λu r=>r),.inl (S.ty (h0.sm _ _ ex)),S.p,isP L.kind,U,?_⟩
  cases hk:L.kind with
  | put pf mm =>
   refine zL ?_;rw [hk] at ex;refine ⟨_,U,.inl ⟨U,_,h0.lst 0 rfl⟩,_,U,x,_,dx,_,.ref p,U,h0.sm _ _ ex,(hk ▸ S).cl,G.np,(by unfold ST.fieldsOf;rw [hk];rfl),l,_,_,U,U,h0.get 0 rfl,(by show 1<sL;decide),?_⟩;have h1:=h0.put (o':=.lst (([(L.value,v),(pf,p)]:List (F2.Fm×Ad)).map λp=>V.ref p.2)) 0 rfl
   exact ⟨U,[(L.value,v),(pf,p)],h1,U,λr hr=>by
    rcases sM.mp hr with rfl | hr
    .exact fv
    .cases sG.mp hr;exact fp _ _ hk,sK 2⟩
  | let'=>exact zy ⟨U,_,h0,U,λr hr=>by cases sG.mp hr;exact fv,(by show 1<=2;decide)⟩
  | fold _ _=>exact zy ⟨U,_,h0,U,λr hr=>by cases sG.mp hr;exact fv,(by show 1<=2;decide)⟩
  | run _=>exact zy ⟨U,_,h0,U,λr hr=>by cases sG.mp hr;exact fv,(by show 1<=2;decide)⟩
 rintro σ' H' ⟨rfl,Ps,h,hm,hA,hl⟩;refine ⟨_,U,x,_,dx,_,t,U,h.sm _ _ ex,S.cl,G.nt _,ze9,U,_,U,?_⟩
 cases ht:L.test with
 | none =>
  rw [ht] at ft;cases ft;refine yu (λz=>absurd z (by decide)) (λz=>⟨_,U,k H' l Ps h (by rw [hm];unfold z6;rw [ht];simp) hA⟩)
 | some tf =>
  rw [ht] at ft;obtain ⟨u,rfl,fu⟩:=ft;refine yu (λz=>?_) (λz=>absurd (show (true:Bool)=true from rfl) z);refine ⟨_,U,.inl ⟨U,_,h.lst 0 rfl⟩,_,U,x,_,dx,_,.ref u,U,h.sm _ _ ex,S.cl,G.nt _,ze9,l,_,_,U,U,h.get 0 rfl,(by rw [Ji];exact tK hl (by decide)),?_⟩;have h1:=h.put (o':=.lst ((Ps++[(tf,u)]).map λp=>V.ref p.2)) 0 rfl;have h1:Hd H [(l,.lst ((Ps++[(tf,u)]).map λp=>V.ref p.2))] _:=h1;rw [Jk] at h1;refine ⟨_,U,k _ l (Ps++[(tf,u)]) (by rw [Jk];exact h1) (by rw [Jk,hm];unfold z6;rw [ht];rfl) λr hr=>?_⟩;rcases t9.mp hr with hr | hr
  .exact hA r hr
  .cases sG.mp hr;exact fu
def intEq (a b:Int):decide (V.int a=V.int b)=decide (a=b):=by
 by_cases h:a=b
 .subst h;rw [decide_eq_true rfl,decide_eq_true rfl]
 .rw [decide_eq_false h,decide_eq_false λq=>h (V.int.inj q)]
def hit_of {Ps:List (F2.Fm×Ad)} {F:F2.Fm} {f:Bool×Int->Bool} (hs:SumP Ps F) {p:F2.Fm×Ad} (m:p∈Ps) (h:F2.ownN f p.1=1):F2.hit f F=true:=by
 refine decide_eq_true ?_;rw [← hs (F2.ownN f) (F2.tot (F2.ownN f)) λG=>F2.tot_eq G];refine F2.sum_pos (λx hx=>?_) (uh (f:=λp=>F2.ownN f p.1) m) (by rw [h];decide);obtain ⟨r,_,rfl⟩:=tW.mp hx;exact F2.ownN_nn _
def hit_no {Ps:List (F2.Fm×Ad)} {F:F2.Fm} {f:Bool×Int->Bool} (hs:SumP Ps F) (h:∀ p∈Ps,F2.ownN f p.1=0):F2.hit f F=false:=by
 refine decide_eq_false ?_;rw [← hs (F2.ownN f) (F2.tot (F2.ownN f)) λG=>F2.tot_eq G,F2.sum_zero λx hx=>?_]
 .exact Int.lt_irrefl _
 .obtain ⟨r,m,rfl⟩:=tW.mp hx
  exact h r m
def inV2 (a b d:Int):inV (.int a) [.int b,.int d]=(decide (a=b) || decide (a=d)):=by
 show (eqV (.int b) (.int a) || (eqV (.int d) (.int a) || false))=_
 have e:∀ x y:Int,eqV (.int x) (.int y)=decide (y=x):=λx y=>by
  by_cases z:x=y
  .subst z;simp [eqV]
  .have z':¬ y=x:=λq=>z q.symm
   simp [eqV,z,z']
 rw [e,e,Bool.or_false]
def Xw {α:Type} {l:List α} {g:α->V} {i:Nat} {x:V} (h:(l.map g)[i]?=Z x):∃ p,l[i]?=Z p/\x=g p:=by
 rw [sN] at h
 cases e:l[i]? with
 | none=>rw [e] at h;cases h
 | some z=>rw [e] at h;exact ⟨z,U,by injection h with h;exact h.symm⟩
inductive spUF (c:F2.Cs) (K:Fg) (vs:Jn) (H:Hp) (Q:VK) (_:XK):Prop
 | mk (x l:Ad) (mn_:Int) (F:F2.Fm) (sD:Jb) (_:vs=[.ref x,.ref l,.int mn_]) (_:F2.FormAt c H F x) (_:F2.nodes F<=2000) (_:F2.RI sD.length F) (_:SqL K H l (sD.map V.int)) (_:∀ H',Same H H'->Q (.bl (F2.hit (fU sD mn_) F)) H')
def ok_uf {c:F2.Cs} {q:Scs} (d:zj K mg "is_uneven_form" yX UI) (hisi:mg "isinstance"=Y) (G:LooksS K mg c q) (WI:Ok P w K mg base CX0 2 "forms_within" UP (spWithin c)):Ok P w K mg base CX0 3 "is_uneven_form" UI (spUF c K):=by
 refine oDf d sc_is_uneven_form λg sA A _ s H vs Q E hr h=>?_;obtain ⟨x,l,mn_,F,sD,rfl,hx,hn,hR,hl,k⟩:=h;have nd:=sc_is_uneven_form.nd;have hr2:=hr;refine ⟨_,(zb (Zm tY rfl (xo (zo WI hr2 (by rfl) zv (za (pv 0) zc))) (oQz 3 nd) (ze (zB (yv (zG (zh zA (by rfl) hisi sF (za (pv 3) (za (zK G.hCe) zc)))) (yc (zp Xr (zx zD (pv 1) (zu (pv 3) rfl) (λ_ _=>rfl)) (yb (za (pv 2) (za zd zc))) rfl))).pt (ze (zm yE)) zk)))
   (ze (zm yE))),?_⟩
 refine ⟨_,U,x,F,H,U,Same.refl _,hx,hn,λH1 fw Ps h1 hA hl1 hs hh=>?_⟩;refine ⟨fw,U,⟨_,h1.lst 0 rfl⟩,?_⟩;refine Yv (K:=K) (a:=fw) (xs:=Ps.map λp=>V.ref p.2) (λi σ J=>∃ u3,σ=[rq x,rq l,iq mn_,u3]/\Same H1 J/\∀ p∈Ps.take i,F2.ownN (fU sD mn_) p.1=0) ⟨Y,U,Same.refl _,λp hp=>nomatch hp⟩ (λi σ J _ ⟨_,_,s,_⟩=>SqL.of (s _ _ (h1.get 0 rfl))) ?_ ?_
 .rintro i y σ J hy ⟨u3,rfl,sJ,hz⟩
  obtain ⟨p,hp,rfl⟩:=Xw hy;have mp:=sP hp;have sH:=h1.sm.trans sJ;obtain ⟨dx,fl,ex,er⟩:=clsAt ((hA p mp).same sH);have S:=G.pa p.1
  have next:F2.ownN (fU sD mn_) p.1=0->∀ r∈Ps.take (i+1),F2.ownN (fU sD mn_) r.1=0:=λe r hr=>by
   rw [uF,hp] at hr;rcases t9.mp hr with hr | hr
   .exact hz r hr
   .cases sG.mp hr;exact e
  refine ⟨_,U,_,_,.ref c.cell,_,F2.isCell p.1,U,U,(λu r=>r),.inl (S.ty ex),S.ce,F2.isCell p.1,U,?_⟩
  cases ec:F2.isCell p.1 with
  | false =>
   refine zy (zy ⟨_,U,sJ,next ?_⟩);unfold F2.ownN fU
   cases e:p.1 with
   | cell r=>rw [e] at ec;cases ec
   | _=>rfl
  | true =>
   refine zL ?_
   obtain ⟨r,e⟩:∃ r,p.1=.cell r:=by
    cases e:p.1 with
    | cell r=>exact ⟨r,U⟩
    | _=>rw [e] at ec;cases ec
   have hri:F2.RI sD.length p.1:=hh (F2.RI sD.length) (λG h g hg=>F2.RI.parts G h g hg) hR p mp;rw [e] at ex hri;unfold F2.RI at hri;have el:fl.lookup ("row":Str)=Z (.int r):=er (true,r) (by rw [e];rfl);refine ⟨_,U,_,U,p.2,_,dx,fl,.int r,U,ex,(e ▸ S).cl,G.rc,el,l,_,_,_,U,U,yq hl sH,zd9 r.toNat hri.2 (by omega),_,U,(by show 2<=sL;decide),λtp ntp=>?_⟩;have st:=yj (o:=.tup [.int mn_,.int 1]) (Same.refl J) ntp;refine ⟨tp,[.int mn_,.int 1],U,.inr (SqT.of zg),U,U,_,U,?_⟩;rw [if_pos rfl,inV2]
   have eo:F2.ownN (fU sD mn_) p.1=if (!(decide (sD.getD r.toNat 0=mn_) || decide (sD.getD r.toNat 0=1)))=true then 1 else 0:=by
    rw [e];show (if (true && _)=true then (1:Int) else 0)=_;rw [wO,Bool.not_or]
   refine yu (λz=>?_) (λz=>?_)
   .have h1':F2.hit (fU sD mn_) F=true:=hit_of hs mp (by rw [eo,if_pos z])
    have:=k _ (sH.trans st);rw [h1'] at this;exact this
   .exact ⟨_,U,sJ.trans st,next (by rw [eo,if_neg z])⟩
 .rintro σ J ⟨u3,rfl,sJ,hz⟩
  rw [Ji,uD] at hz;have:=k _ (h1.sm.trans sJ);rw [hit_no hs hz] at this;exact this
structure StepL (n:Nat) (L:StepD):Prop where
 t0:0<=L.target
 t1:L.target.toNat<n
 f:∀ F∈z6 L,F2.nodes F<=2000/\F2.RI n F
inductive spMany (K:Fg) (q:Scs) (kd:Kd) (vs:Jn) (H:Hp) (Q:VK) (_:XK):Prop
 | mk (x l dx v p:Ad) (sD:Jb) (L:StepD) (t:V) (_:vs=[.ref x,.ref l]) (_:L.kind=kd) (_:H x=Z (.ins (q.of kd) dx (ST.fieldsOf L v p t))) (_:SqL K H l (sD.map V.int)) (_:0<=L.target) (_:L.target.toNat<sD.length) (_:Q (.int (yF sD L)) H)
abbrev ManyK (P:tV) (w:World) (K:Fg) (mg:J0) (base:Heap) (q:Scs):Prop:=∀ kd,zbt P w K mg base (CXe P w base) 1 "many_of" (q.of kd) (spMany K q kd)
def many_Let {q:Scs} (d:xq K q.let_ "many_of" "Let.many_of" x8 Up) (cl:Cls K q.let_) (nT:NoAttr K q.let_ "target") :zbt P w K mg base (CXe P w base) 1 "many_of" (q.of (.let')) (spMany K q (.let')):=by
 obtain ⟨f,fd,m,F,bd⟩:=d;refine ⟨cl,f,fd,_,m,F.okE zaz (by rintro vs H Q E ⟨_,_,_,_,_,_,_,_,e,_⟩;rw [e];rfl) λsA A outer s H vs Q E hr h=>?_,bd⟩;obtain ⟨x,l,dx,v,p,sD,L,t,rfl,hk,hx,hl,t0,t1,k⟩:=h;refine ⟨_,(ze (zm (zx zD (pv 1) (zu (pv 0) rfl) (λ_ _=>rfl)))),?_⟩;have em:yF sD L=sD.getD L.target.toNat 0:=by unfold yF;rw [hk]
 rw [em] at k;exact ⟨_,U,_,U,x,_,dx,_,_,U,hx,cl,nT,ZC,l,_,_,_,U,U,hl,zd9 L.target.toNat t1 (by omega),k⟩
def many_Put {q:Scs} (d:xq K q.put "many_of" "Put.many_of" x5 Up) (cl:Cls K q.put) (nM:NoAttr K q.put "many") (pf:F2.Fm) (mm:Int):zbt P w K mg base (CXe P w base) 1 "many_of" (q.of (.put pf mm)) (spMany K q (.put pf mm)):=by
 obtain ⟨f,fd,m,F,bd⟩:=d;refine ⟨cl,f,fd,_,m,F.okE zax (by rintro vs H Q E ⟨_,_,_,_,_,_,_,_,e,_⟩;rw [e];rfl) λsA A outer s H vs Q E hr h=>?_,bd⟩;obtain ⟨x,l,dx,v,p,sD,L,t,rfl,hk,hx,hl,t0,t1,k⟩:=h;refine ⟨_,(ze (zm (zu (pv 0) rfl))),?_⟩;have ef:(ST.fieldsOf L v p t).lookup ("many":Str)=Z (.int (yF sD L)):=by unfold ST.fieldsOf yF;rw [hk];rfl
 exact ⟨_,U,x,_,dx,_,_,U,hx,cl,nM,ef,k⟩
def many_Fold {q:Scs} (d:xq K q.fold "many_of" "Fold.many_of" xD Up) (cl:Cls K q.fold) (nM:NoAttr K q.fold "many") (ff:Str) (mm:Int):zbt P w K mg base (CXe P w base) 1 "many_of" (q.of (.fold ff mm)) (spMany K q (.fold ff mm)):=by
 obtain ⟨f,fd,m,F,bd⟩:=d;refine ⟨cl,f,fd,_,m,F.okE zac (by rintro vs H Q E ⟨_,_,_,_,_,_,_,_,e,_⟩;rw [e];rfl) λsA A outer s H vs Q E hr h=>?_,bd⟩;obtain ⟨x,l,dx,v,p,sD,L,t,rfl,hk,hx,hl,t0,t1,k⟩:=h;refine ⟨_,(ze (zm (zu (pv 0) rfl))),?_⟩;have ef:(ST.fieldsOf L v p t).lookup ("many":Str)=Z (.int (yF sD L)):=by unfold ST.fieldsOf yF;rw [hk];rfl
 exact ⟨_,U,x,_,dx,_,_,U,hx,cl,nM,ef,k⟩
def zd0 {q:Scs} (d:xq K q.run "many_of" "Running.many_of" yN Up) (cl:Cls K q.run) (nT:NoAttr K q.run "target") (ff:Str):zbt P w K mg base (CXe P w base) 1 "many_of" (q.of (.run ff)) (spMany K q (.run ff)):=by
 obtain ⟨f,fd,m,F,bd⟩:=d;refine ⟨cl,f,fd,_,m,F.okE Y7 (by rintro vs H Q E ⟨_,_,_,_,_,_,_,_,e,_⟩;rw [e];rfl) λsA A outer s H vs Q E hr h=>?_,bd⟩;obtain ⟨x,l,dx,v,p,sD,L,t,rfl,hk,hx,hl,t0,t1,k⟩:=h;refine ⟨_,(ze (zm (zx zD (pv 1) (zu (pv 0) rfl) (λ_ _=>rfl)))),?_⟩;have em:yF sD L=sD.getD L.target.toNat 0:=by unfold yF;rw [hk]
 rw [em] at k;exact ⟨_,U,_,U,x,_,dx,_,_,U,hx,cl,nT,ZC,l,_,_,_,U,U,hl,zd9 L.target.toNat t1 (by omega),k⟩
def AskAt (c:F2.Cs) (q:Scs) (n:Nat) (H:Hp) (x:Ad):Option StepD->Prop
 | some L=>StepAt c q H L x/\StepL n L
 | none=>∃ dx fl,H x=Z (.ins q.till dx fl)
def unevO (sD:Jb):Option StepD->Bool
 | some L=>Zo sD L
 | none=>false
def croO:Option StepD->Bool
 | some L=>Xi L
 | none=>false
inductive spUneven (c:F2.Cs) (q:Scs) (K:Fg) (vs:Jn) (H:Hp) (Q:VK) (_:XK):Prop
 | mk (x l:Ad) (o:Option StepD) (sD:Jb) (_:vs=[.ref x,.ref l]) (_:AskAt c q sD.length H x o) (_:SqL K H l (sD.map V.int)) (_:∀ H',Same H H'->Q (.bl (unevO sD o)) H')
def ok_uneven {c:F2.Cs} {q:Scs} (d:zj K mg "uneven" Xl ["step","lengths"]) (hisi:mg "isinstance"=Y) (hany:mg "any"=Y) (G:LooksS K mg c q) (FO:Ok P w K mg base (CXe P w base) 1 "forms_of" ["step"] (spFormsOf c q)) (MO:ManyK P w K mg base q) (UF:Ok P w K mg base CX0 3 "is_uneven_form" UI (spUF c K)):Ok P w K mg base CX0 4 "uneven" ["step","lengths"] (spUneven c q K):=by
 refine oDf d sc_uneven λg sA A _ s H vs Q E hr h=>?_;obtain ⟨x,l,o,sD,rfl,hx,hl,k⟩:=h;have nd:=sc_uneven.nd;have hr3:=hr;have hr1:=hr.mono (show 1<=3 by decide);refine ⟨_,(zb (zB (zG (zh zA (by rfl) hisi sF (za (pv 0) (za (zK G.hTi) zc)))) (ze (zm yE)) zk)
   (zb (zB (XJ (yv (zG (zh zA (by rfl) hisi sF (za (pv 0) (za (zK G.hFo) zc)))) (yc (zp Yn (zx zD (pv 1) (zu (pv 0) rfl) (λ_ _=>rfl)) zd (zw _)))).pt) (ze (zm yE)) zk)
   (zb (zi (i:=2) nd rfl (Or.inr rfl) (pe_methX (CX:=CXe P w base) hr1 zU (pv 0) (za (pv 1) zc)))
   (ze (zm (zh (YO rfl) (by rfl) hany vW (za (Z0 UI [Y,Z 1,Z 2] rfl rfl rfl (xo (zo FO hr1 (by rfl) zU (za (pv 0) zc))) (λs3 H3 fp=>⟨zR (i:=0) (Jp UI) rfl (vG rfl),(zo UF hr3 (by rfl) zv (za (pv 0) (za (pv 1) (za (pv 2) zc))))⟩)) zc))))))),?_⟩
 cases o with
 | none =>
  obtain ⟨dx,fl,ex⟩:=hx;exact ⟨_,U,_,_,.ref q.till,_,true,U,U,(λu r=>r),.inl (G.till.ty ex),G.till.t,true,U,zL (k _ (Same.refl _))⟩
 | some L =>
  obtain ⟨hx,hL⟩:=hx;obtain ⟨dx,v,p,t,ex,fv,ft,fp⟩:=hx.ex;have S:=G.st L.kind;refine ⟨_,U,_,_,.ref q.till,_,false,U,U,(λu r=>r),.inl (S.ty ex),S.t,false,U,zy ?_⟩;refine ⟨λb H'=>H'=H/\b=(isF L.kind && !decide (sD.getD L.target.toNat 0=1)),?_,?_⟩
  .refine ⟨_,U,_,_,.ref q.fold,_,isF L.kind,U,U,(λu r=>r),.inl (S.ty ex),S.f,isF L.kind,U,?_⟩
   cases isF L.kind with
   | false=>exact zy ⟨U,U⟩
   | true =>
    refine zL ⟨_,U,_,U,x,_,dx,_,_,U,ex,S.cl,G.ng _,ZC,l,_,_,_,U,U,hl,zd9 L.target.toNat hL.t1 (by have:=hL.t0;omega),U,_,U,U,?_⟩;rw [intEq,wO]
  rintro b H' ⟨rfl,rfl⟩;refine yu (λz=>?_) (λz=>?_)
  .have:unevO sD (Z L)=true:=by show Zo sD L=true;unfold Zo;rw [z];rfl
   rw [this] at k;exact k _ (Same.refl _)
  .have z:(isF L.kind && !decide (sD.getD L.target.toNat 0=1))=false:=by simpa using z
   refine ⟨_,U,x,_,dx,_,_,U,ex,MO _,zfa,_,U,x,l,dx,v,p,sD,L,t,U,U,ex,hl,hL.t0,hL.t1,?_⟩;refine ⟨_,U,x,L,U,hx,λH1 fo Ps h1 hm hA=>?_⟩;refine ⟨fo,U,⟨_,h1.lst 0 rfl⟩,_,U,λD nD=>?_⟩;have h0:Hd H1 [(D,.lst (((Ps.take 0).map λp=>F2.hit (fU sD (yF sD L)) p.1).map V.bl))] (upd H1 D (.lst [])):=Hd.base.new nD
   have lPs:Ps.length<=3:=by
    have:Ps.length=(z6 L).length:=by rw [← hm,Ji]
    rw [this];exact Yb L
   have hLf:∀ p∈Ps,F2.nodes p.1<=2000/\F2.RI sD.length p.1:=λp hp=>hL.f p.1 (by rw [← hm];exact uh hp);refine Z2 (K:=K) (a:=fo) (D:=D) (xs:=Ps.map λp=>V.ref p.2) (λi σ J=>∃ u,σ=[u,rq l,iq (yF sD L)]/\Hd H1 [(D,.lst (((Ps.take i).map λp=>F2.hit (fU sD (yF sD L)) p.1).map V.bl))] J) ⟨Y,U,h0⟩ (λi σ J _ ⟨_,_,h⟩=>SqL.of (h.sm _ _ (h1.get 0 rfl))) ?_ ?_
   .clear h0
    rintro i y σ J hy ⟨u,rfl,h⟩;obtain ⟨p,hp,rfl⟩:=Xw hy;have mp:=sP hp;have sH:=h1.sm.trans h.sm;refine ⟨_,U,_,U,_,U,p.2,l,_,p.1,sD,U,(hA p mp).same sH,(hLf p mp).1,(hLf p mp).2,yq hl sH,λJ2 s2=>?_⟩;have h2:=h.same s2;refine ⟨_,h2.get 0 rfl,(by rw [Ji,Ji,ut];exact tK (tE (Nat.min_le_right _ _) lPs) (by decide)),_,U,?_⟩;have h3:=h2.put (o':=.lst (((Ps.take (i+1)).map λp=>F2.hit (fU sD (yF sD L)) p.1).map V.bl)) 0 rfl
    have e:(((Ps.take (i+1)).map λp=>F2.hit (fU sD (yF sD L)) p.1).map V.bl)=(((Ps.take i).map λp=>F2.hit (fU sD (yF sD L)) p.1).map V.bl)++[V.bl (F2.hit (fU sD (yF sD L)) p.1)]:=by
     rw [uF,hp,Jk,Jk];rfl
    rw [e] at h3 ⊢;exact h3
   .rintro σ J ⟨u,rfl,h⟩
    rw [Ji,uD] at h;refine ⟨D,_,U,h.lst 0 rfl,?_⟩
    have e:(Ps.map λp=>F2.hit (fU sD (yF sD L)) p.1).any id=unevO sD (Z L):=by
     show _=Zo sD L;unfold Zo;rw [z,Bool.false_or,← hm,vX,vX];rfl
    rw [e];exact k _ (h1.sm.trans h.sm)
inductive spMC (c:F2.Cs) (q:Scs) (vs:Jn) (H:Hp) (Q:VK) (_:XK):Prop
 | mk (x y:Ad) (L:StepD) (F:F2.Fm) (_:vs=[.ref x,.ref y]) (_:StepAt c q H L x) (_:F2.FormAt c H F y) (_:∀ H',Same H H'->Q (.bl (match F2.nameOf F with | some r=>!r.1 || (isP L.kind || isF L.kind) | none=>false)) H')
def ok_mc {c:F2.Cs} {q:Scs} (d:zj K mg "may_cross" ZK ["step","part"]) (hisi:mg "isinstance"=Y) (G:LooksS K mg c q):Ok P w K mg base (CXe P w base) 1 "may_cross" ["step","part"] (spMC c q):=by
 refine oDe d zc2 λg sA A _ s H vs Q E hr h=>?_;obtain ⟨x,y,L,F,rfl,hx,hy,k⟩:=h;refine ⟨_,(zb (zB (zG (zh zA (by rfl) hisi sF (za (pv 1) (za (zK G.hCe) zc)))) (ze (zm (zh XE (by rfl) hisi sF (za (pv 0) (za (yb (za (zK G.hPu) (za (zK G.hFo) zc))) zc))))) zk)
   (ze (zm (zh XE (by rfl) hisi sF (za (pv 1) (za (yb (za (zK G.hSh) (za (zK G.hAt) zc))) zc)))))),?_⟩
 obtain ⟨dx,v,p,t,ex,_⟩:=hx.ex;obtain ⟨dy,fl,ey,_⟩:=clsAt hy;have S:=G.st L.kind;have T:=G.pa F;refine ⟨_,U,_,_,.ref c.cell,_,F2.isCell F,U,U,(λu r=>r),.inl (T.ty ey),T.ce,F2.isCell F,U,?_⟩
 have far:F2.isCell F=false->(match F2.nameOf F with | some r=>!r.1 || (isP L.kind || isF L.kind) | none=>false)=(F2.isShi F || F2.isAt F):=λe=>by
  cases F with
  | cell r=>cases e
  | _=>rfl
 cases e:F2.isCell F with
 | true =>
  refine zL ⟨_,U,(by show 2<=sL;decide),λtp ntp=>?_⟩;have st:=yj (o:=.tup [.ref q.put,.ref q.fold]) (Same.refl H) ntp;refine ⟨_,tp,[.ref q.put,.ref q.fold],_,_,U,zg,U,S.ty (st _ _ ex),kitAny2 S.p S.f,?_⟩;have:=k _ st
  cases F with
  | cell r=>exact this
  | _=>cases e
 | false =>
  refine zy ⟨_,U,(by show 2<=sL;decide),λtp ntp=>?_⟩;have st:=yj (o:=.tup [.ref c.shi,.ref c.at']) (Same.refl H) ntp;refine ⟨_,tp,[.ref c.shi,.ref c.at'],_,_,U,zg,U,T.ty (st _ _ ey),kitAny2 T.sh T.at',?_⟩;have:=k _ st;rw [far e] at this;exact this
inductive spXF (c:F2.Cs) (q:Scs) (vs:Jn) (H:Hp) (Q:VK) (_:XK):Prop
 | mk (x y:Ad) (L:StepD) (F:F2.Fm) (_:vs=[.ref x,.ref y]) (_:StepAt c q H L x) (_:F2.FormAt c H F y) (_:F2.nodes F<=2000) (_:∀ H',Same H H'->Q (.bl (F2.hit (fX (isP L.kind || isF L.kind) L.target) F)) H')
def ok_xf {c:F2.Cs} {q:Scs} (d:zj K mg "is_crossed_form" yM ["step","form"]) (G:LooksS K mg c q) (WI:Ok P w K mg base CX0 2 "forms_within" UP (spWithin c)) (MC:Ok P w K mg base (CXe P w base) 1 "may_cross" ["step","part"] (spMC c q)):Ok P w K mg base CX0 3 "is_crossed_form" ["step","form"] (spXF c q):=by
 refine oDf d sc_is_crossed_form λg sA A _ s H vs Q E hr h=>?_;obtain ⟨x,y,L,F,rfl,hx,hy,hn,k⟩:=h;have nd:=sc_is_crossed_form.nd;have hr2:=hr;have hr1:=hr.mono (show 1<=2 by decide);obtain ⟨dx,v,p,t,ex,_⟩:=hx.ex;have S:=G.st L.kind;generalize epf:(isP L.kind || isF L.kind)=pf at k;refine ⟨_,(zb (Zm tY rfl (xo (zo WI hr2 (by rfl) zv (za (pv 1) zc))) (oQz 2 nd) (ze (zB (XJ (yv (zG (zo MC hr1 (by rfl) zU (za (pv 0) (za (pv 2) zc)))) (yc (zp zP (zu (pv 2) rfl) (zu (pv 0) rfl) (zw _)))).pt) (ze (zm yE)) zk)))
   (ze (zm yE))),?_⟩
 refine ⟨_,U,y,F,H,U,Same.refl _,hy,hn,λH1 fw Ps h1 hA hl1 hs hh=>?_⟩;refine ⟨fw,U,⟨_,h1.lst 0 rfl⟩,?_⟩;refine Yv (K:=K) (a:=fw) (xs:=Ps.map λp=>V.ref p.2) (λi σ J=>∃ u2,σ=[rq x,rq y,u2]/\Same H1 J/\∀ p∈Ps.take i,F2.ownN (fX pf L.target) p.1=0) ⟨Y,U,Same.refl _,λp hp=>nomatch hp⟩ (λi σ J _ ⟨_,_,s,_⟩=>SqL.of (s _ _ (h1.get 0 rfl))) ?_ ?_
 .rintro i z σ J hy' ⟨u3,rfl,sJ,hz⟩
  obtain ⟨p,hp,rfl⟩:=Xw hy';have mp:=sP hp;have sH:=h1.sm.trans sJ
  have next:F2.ownN (fX pf L.target) p.1=0->∀ r∈Ps.take (i+1),F2.ownN (fX pf L.target) r.1=0:=λe r hr=>by
   rw [uF,hp] at hr;rcases t9.mp hr with hr | hr
   .exact hz r hr
   .cases sG.mp hr;exact e
  refine ⟨λb J'=>Same J J'/\b=decide (F2.ownN (fX pf L.target) p.1=1),?_,?_⟩
  .refine ⟨_,U,_,U,x,p.2,L,p.1,U,hx.same sH,(hA p mp).same sH,λJ2 s2=>⟨_,U,?_⟩⟩
   rw [epf]
   cases en:F2.nameOf p.1 with
   | none =>
    refine zy ⟨s2,?_⟩;unfold F2.ownN;rw [en];rfl
   | some r =>
    have eo:F2.ownN (fX pf L.target) p.1=if (decide (r.2=L.target) && (!r.1 || pf))=true then 1 else 0:=by unfold F2.ownN;rw [en];rfl
    obtain ⟨dy,fl,ey,er⟩:=clsAt ((hA p mp).same (sH.trans s2));have el:=er r en
    have nr:NoAttr K (F2.clsOf c p.1) "row":=by
     cases e:p.1 with
     | cell _=>exact G.rc
     | shi _ _ _=>exact G.rs
     | at' _ _=>exact G.ra
     | _=>rw [e] at en;cases en
    refine yu (λz1=>?_) (λz1=>⟨s2,?_⟩)
    .refine ⟨_,U,p.2,_,dy,fl,_,U,ey,(G.pa p.1).cl,nr,el,_,U,x,_,dx,_,_,U,(sH.trans s2) _ _ ex,S.cl,G.ng _,ZC,U,_,U,s2,?_⟩
     rw [eo,intEq];by_cases z2:r.2=L.target
     .rw [decide_eq_true z2]
      rw [wO,if_pos z1];rfl
     .rw [decide_eq_false z2];rfl
    .rw [eo]
     have z1:(!r.1 || pf)=false:=by simpa using z1
     rw [z1,Bool.and_false];rfl
  rintro b J' ⟨s2,rfl⟩;refine yu (λz=>?_) (λz=>?_)
  .have h1':=hit_of hs mp (of_decide_eq_true z)
   rw [h1'] at k;exact k _ (sH.trans s2)
  .refine ⟨_,U,sJ.trans s2,next ?_⟩
   have z:¬ F2.ownN (fX pf L.target) p.1=1:=by simpa using z
   unfold F2.ownN at z ⊢
   split
   .split
    .rename_i e1 e2;rw [e1] at z;simp [e2] at z
    .rfl
   .rfl
 .rintro σ J ⟨u3,rfl,sJ,hz⟩
  rw [Ji,uD] at hz;have:=k _ (h1.sm.trans sJ);rw [hit_no hs hz] at this;exact this
inductive spCrossed (c:F2.Cs) (q:Scs) (n:Nat) (vs:Jn) (H:Hp) (Q:VK) (_:XK):Prop
 | mk (x:Ad) (o:Option StepD) (_:vs=[.ref x]) (_:AskAt c q n H x o) (_:∀ H',Same H H'->Q (.bl (croO o)) H')
def zgb {c:F2.Cs} {q:Scs} {n:Nat} (d:zj K mg "crossed" YI ["step"]) (hisi:mg "isinstance"=Y) (hany:mg "any"=Y) (G:LooksS K mg c q) (FO:Ok P w K mg base (CXe P w base) 1 "forms_of" ["step"] (spFormsOf c q)) (XF:Ok P w K mg base CX0 3 "is_crossed_form" ["step","form"] (spXF c q)):Ok P w K mg base CX0 4 "crossed" ["step"] (spCrossed c q n):=by
 refine oDf d sc_crossed λg sA A _ s H vs Q E hr h=>?_;obtain ⟨x,o,rfl,hx,k⟩:=h;have nd:=sc_crossed.nd;have hr3:=hr;have hr1:=hr.mono (show 1<=3 by decide);refine ⟨_,(zb (zB (zG (zh zA (by rfl) hisi sF (za (pv 0) (za (zK G.hTi) zc)))) (ze (zm yE)) zk)
   (ze (zm (zh (YO rfl) (by rfl) hany vW (za (Z0 ["form","step"] [Y,Z 0] rfl rfl rfl (xo (zo FO hr1 (by rfl) zU (za (pv 0) zc))) (λs3 H3 fp=>⟨zR (i:=0) (Jp ["form","step"]) rfl (vG rfl),(zo XF hr3 (by rfl) zv (za (pv 1) (za (pv 0) zc)))⟩)) zc))))),?_⟩
 cases o with
 | none =>
  obtain ⟨dx,fl,ex⟩:=hx;exact ⟨_,U,_,_,.ref q.till,_,true,U,U,(λu r=>r),.inl (G.till.ty ex),G.till.t,true,U,zL (k _ (Same.refl _))⟩
 | some L =>
  obtain ⟨hx,hL⟩:=hx;obtain ⟨dx,v,p,t,ex,fv,ft,fp⟩:=hx.ex;have S:=G.st L.kind;refine ⟨_,U,_,_,.ref q.till,_,false,U,U,(λu r=>r),.inl (S.ty ex),S.t,false,U,zy ?_⟩;refine ⟨_,U,x,L,U,hx,λH1 fo Ps h1 hm hA=>?_⟩;refine ⟨fo,U,⟨_,h1.lst 0 rfl⟩,_,U,λD nD=>?_⟩;generalize efx:fX (isP L.kind || isF L.kind) L.target=fx;have h0:Hd H1 [(D,.lst (((Ps.take 0).map λp=>F2.hit fx p.1).map V.bl))] (upd H1 D (.lst [])):=Hd.base.new nD
  have lPs:Ps.length<=3:=by
   have:Ps.length=(z6 L).length:=by rw [← hm,Ji]
   rw [this];exact Yb L
  have hLf:∀ p∈Ps,F2.nodes p.1<=2000:=λp hp=>(hL.f p.1 (by rw [← hm];exact uh hp)).1;refine Z2 (K:=K) (a:=fo) (D:=D) (xs:=Ps.map λp=>V.ref p.2) (λi σ J=>∃ u,σ=[u,rq x]/\Hd H1 [(D,.lst (((Ps.take i).map λp=>F2.hit fx p.1).map V.bl))] J) ⟨Y,U,h0⟩ (λi σ J _ ⟨_,_,h⟩=>SqL.of (h.sm _ _ (h1.get 0 rfl))) ?_ ?_
  .clear h0
   rintro i y σ J hy ⟨u,rfl,h⟩;obtain ⟨p,hp,rfl⟩:=Xw hy;have mp:=sP hp;have sH:=h1.sm.trans h.sm;refine ⟨_,U,_,U,x,p.2,L,p.1,U,hx.same sH,(hA p mp).same sH,hLf p mp,λJ2 s2=>?_⟩;rw [efx];have h2:=h.same s2;refine ⟨_,h2.get 0 rfl,(by rw [Ji,Ji,ut];exact tK (tE (Nat.min_le_right _ _) lPs) (by decide)),_,U,?_⟩;have h3:=h2.put (o':=.lst (((Ps.take (i+1)).map λp=>F2.hit fx p.1).map V.bl)) 0 rfl
   have e:(((Ps.take (i+1)).map λp=>F2.hit fx p.1).map V.bl)=(((Ps.take i).map λp=>F2.hit fx p.1).map V.bl)++[V.bl (F2.hit fx p.1)]:=by
    rw [uF,hp,Jk,Jk];rfl
   rw [e] at h3 ⊢;exact h3
  .rintro σ J ⟨u,rfl,h⟩
   rw [Ji,uD] at h;refine ⟨D,_,U,h.lst 0 rfl,?_⟩
   have e:(Ps.map λp=>F2.hit fx p.1).any id=croO (Z L):=by
    show _=Xi L;unfold Xi;rw [efx,← hm,vX,vX];rfl
   rw [e];exact k _ (h1.sm.trans h.sm)
abbrev LvL:=List (Ad×Jg)
abbrev Dg.S (g:Dg) (tl:Jg) (lv:LvL) (lns:Jb):Jm:=(g.ta,.lst (tl.map V.ref))::(g.va,.lst (lv.reverse.map λp=>V.ref p.1))::(g.na,.lst (lns.map V.int))::lv.map λp=>(p.1,.lst (p.2.map V.ref))
inductive spTk (K:Fg) (c:F2.Cs) (q:ST.Scs) (vs:Jn) (H:Hp) (Q:VK) (_:XK):Prop
 | mk (g:Dg) (B:Hp) (D:Dr) (ts us tl:Jg) (lv:LvL) (la:Ad) (xs:Jg) (lns:Jb) (ln:Int) (x:Ad) (L:ST.StepD) (S T:Nat->Int) (_:vs=[.ref g.d,.int ln,.ref x]) (_:Hd B (g.L ts us D++g.S tl ((la,xs)::lv) lns) H) (_:DCls K g.C) (_:DrAt B c g D ts us) (_:ST.StepAt c q B L x) (_:StepL D.lens.length L) (_:CkOk D.fns S T (z6 L)) (_:Zo D.lens L=false) (_:Xi L=false) (_:lns.length<40) (_:xs.length<=100) (_:∀ B' H',Same B B'->Hd B' (g.L ts us D++g.S tl ((la,xs++[x])::lv) (lns++[ln])) H'->Q .non H')
def ok_take {c:F2.Cs} {q:ST.Scs} (d:zj K mg "take_step" ZD Uz) (FU:Ok P w K mg base CX0 1 "refuse_further_step" UV (spFur (K:=K))) (CK:Ok P w K mg base CX0 22 "check_forms" UU (spCk K c)) (FO:Ok P w K mg base (CXe P w base) 1 "forms_of" ["step"] (spFormsOf c q)) (UN:Ok P w K mg base CX0 4 "uneven" ["step","lengths"] (spUneven c q K)) (CR:∀ n,Ok P w K mg base CX0 4 "crossed" ["step"] (spCrossed c q n)):Ok P w K mg base CX0 23 "take_step" Uz (spTk K c q):=by
 refine oDf d sc_take_step λf sA A _ s H vs Q E hr h=>?_;obtain ⟨g,B,D,ts,us,tl,lv,la,xs,lns,ln,x,L,S,T,rfl,hd,dC,dr,sa,sl,ck,un,cr,l40,l100,k⟩:=h;have hrc:Room 22 _:=hr;have hr4:Room 4 _:=hr.mono (by decide);have hr1:Room 1 _:=hr.mono (by decide);have CR:=CR D.lens.length;have nd:=sc_take_step.nd;have SL:(100000:Nat)<sizeLine:=by decide
 refine ⟨_,(zb (zC (zo FU hr1 (by rfl) zv (za (pv 0) (za (pv 1) zc))))
   (zb (zC (zo CK hrc (by rfl) zv (za (pv 0) (za (pv 1) (za (zo FO hr1 (by rfl) zU (za (pv 2) zc)) zc)))))
   (zb (zB (zG (zo UN hr4 (by rfl) zv (za (pv 2) (za (zu (pv 0) rfl) zc)))) zO zk)
   (zb (zB (zG (zo CR hr4 (by rfl) zv (za (pv 2) zc))) zO zk)
   (zb (zC (yz sQ t8 t7 zQ (zx zD (zu (pv 0) rfl) (Ym ZA zd) (λ_ _=>rfl)) (za (pv 2) zc)))
   (ze (zC (yz sQ t8 t7 zQ (zu (pv 0) rfl) (za (pv 1) zc))))))))),?_⟩
 show (let s1:L2.TS:=_;let s2:L2.TS:=L2.tSeq _ s1;let s3:L2.TS:=L2.tSeq _ s2;let s4:L2.TS:=L2.tSeq _ s3;let s5:L2.TS:=L2.tSeq _ s4;L2.tSeq _ s5 _ _ _);intro s1 s2 s3 s4 s5;have hg:=hd.sm _ _ dr.d;refine ⟨_,U,_,U,g,_,_,U,hg,hd.get 6 rfl,dC,by rw [Ji];exact l40,?_⟩;refine ⟨_,U,_,U,_,U,x,L,U,sa.same hd.sm,λH1 l Ps hd1 eP fP=>?_⟩;have s1:=hd1.sm;refine ⟨g,_,l,D.fns,S,T,Ps,U,s1 _ _ hg,dC,hd1.get 0 rfl,λp m=>(fP p m).same s1,dr.funs (hd.sm.trans s1) (s1 _ _ (hd.get 3 rfl)),by rw [eP];exact ck,?_,λH2 s2=>?_⟩
 .have:=congrArg uY eP
  rw [Ji] at this;rw [this];exact Yb L
 have s02:=s1.trans s2;refine ⟨_,U,_,U,g.d,g.C,g.dd,_,_,U,s02 _ _ hg,dC.c,dC.n1,U,x,g.la,Z L,D.lens,U,⟨sa.same (hd.sm.trans s02),sl⟩,SqL.of (s02 _ _ (hd.get 1 rfl)),λH3 s3=>⟨_,U,?_⟩⟩;show if Zo D.lens L=true then _ else _;rw [un];have s03:=s02.trans s3;refine zy ⟨_,U,x,Z L,U,⟨sa.same (hd.sm.trans s03),sl⟩,λH4 s4=>⟨_,U,?_⟩⟩;show if Xi L=true then _ else _;rw [cr];have s04:=s03.trans s4;obtain ⟨B',sB,hd4,_⟩:=hd.over s04;have hg4:=hd4.sm _ _ (sB _ _ dr.d);have eat:atI ((((la,xs)::lv).reverse).map λp=>V.ref p.1) (-1)=Z (V.ref la):=by rw [ud,Jk];exact Yy _ _
 refine zy ⟨_,U,g.d,g.C,g.dd,_,_,U,hg4,dC.c,dC.n5,U,_,U,g.va,_,_,_,U,U,SqL.of (hd4.get 5 rfl),eat,tyL (hd4.get 7 rfl),_,U,la,_,_,U,U,hd4.get 7 rfl,by rw [Ji];show xs.length<_;omega,?_⟩;have hd5:=hd4.put (o':=.lst (xs.map V.ref++[.ref x])) 7 rfl;generalize upd H4 la _=H5 at hd5 ⊢;have hg5:=hd5.sm _ _ (sB _ _ dr.d);refine ⟨_,U,g.d,g.C,g.dd,_,_,U,hg5,dC.c,dC.n6,U,tyL (hd5.get 6 rfl),_,U,g.na,_,_,U,U,hd5.get 6 rfl,by rw [Ji];omega,?_⟩;have hd6:=hd5.put (o':=.lst (lns.map V.int++[.int ln])) 6 rfl;refine k B' _ sB ?_;have e1:(xs++[x]).map V.ref=xs.map V.ref++[.ref x]:=by rw [Jk];rfl
 have e2:(lns++[ln]).map V.int=lns.map V.int++[.int ln]:=by rw [Jk];rfl
 have e0:g.S tl ((la,xs++[x])::lv) (lns++[ln])=(g.ta,.lst (tl.map V.ref))::(g.va,.lst ((((la,xs)::lv).reverse).map λp=>V.ref p.1))::(g.na,.lst (lns.map V.int++[.int ln]))::(la,.lst (xs.map V.ref++[.ref x]))::lv.map λp=>(p.1,.lst (p.2.map V.ref)):=by
  unfold Dg.S;simp only [tz,ud,Jk,List.map_nil]
 rw [e0];exact hd6
structure StepGo (D:Dr) (S T:Nat->Int) (L:StepD) (n m:Nat):Prop where
 l:StepL D.lens.length L
 ck:CkOk D.fns S T (z6 L)
 un:Zo D.lens L=false
 cr:Xi L=false
 l40:n<40
 l100:m<=100
def test_but {c:F2.Cs} {B:Hp} {l:Jg} (hl:∀ a∈l,∃ sr,B a=Z (.dK sr)) {t:Option F2.Fm} {v:V} (h:TestAt c B t v):TestAt c (but B l) t v:=by
 cases t with
 | none=>exact h
 | some f=>obtain ⟨y,e,f⟩:=h;exact ⟨y,e,xJ hl f⟩
def TestAt.same {c:F2.Cs} {B B':Hp} {t:Option F2.Fm} {v:V} (h:TestAt c B t v) (s:Same B B'):TestAt c B' t v:=by
 cases t with
 | none=>exact h
 | some f=>obtain ⟨y,e,f⟩:=h;exact ⟨y,e,f.same s⟩
inductive PSt (R:Rdg):Str->Jf->StepD->Prop
 | let_ (ws r1 r2:Jf) (i:Nat) (v:F2.Fm) (t:Option F2.Fm) (h1:Xa R ws=.ok (i,r1)) (h2:zZ R 30 r1=.ok (v,r2)) (h3:PTest R r2 t):PSt R "let" ws ⟨i,v,t,.let'⟩
 | put_ (ws r1 r2 r3 r4:Jf) (i:Nat) (v p:F2.Fm) (m:Int) (t:Option F2.Fm) (h1:zZ R 30 ws=.ok (v,("at":Str)::r1)) (h2:zZ R 30 r1=.ok (p,("in":Str)::r2)) (h3:Xa R r2=.ok (i,("of":Str)::r3)) (h4:YT 1 400 r3=.ok (m,r4)) (h5:PTest R r4 t):PSt R "put" ws ⟨i,v,t,.put p m⟩
 | fold_ (f:Str) (ws r1 r2 r3:Jf) (i:Nat) (v:F2.Fm) (m:Int) (t:Option F2.Fm) (h0:YN f=true) (h1:zZ R 30 ws=.ok (v,("into":Str)::r1)) (h2:Xa R r1=.ok (i,("of":Str)::r2)) (h3:YT 1 400 r2=.ok (m,r3)) (h4:PTest R r3 t):PSt R "fold" (f::ws) ⟨i,v,t,.fold f m⟩
 | run_ (f:Str) (ws r1 r2:Jf) (i:Nat) (v:F2.Fm) (t:Option F2.Fm) (h0:YN f=true) (h1:zZ R 30 ws=.ok (v,("into":Str)::r1)) (h2:Xa R r1=.ok (i,r2)) (h3:PTest R r2 t):PSt R "run" (f::ws) ⟨i,v,t,.run f⟩
def spI_Let (C:Ad):Sp:=λvs H Q _=>∃ (x dx:Ad) (u0 u1 u2:V),vs=[.ref x,u0,u1,u2]/\H x=Z (.ins C dx [])/\∀ H',(∀ b o,b≠x->H b=Z o->H' b=Z o)->H' x=Z (.ins C dx [("target",u0),("value",u1),("test",u2)])->Q .non H'
def okN_Let {C:Ad} (d:X7 K C "Let.__init__" xO UG) (cl:Cls K C) (n0:NoAttr K C "target") (n1:NoAttr K C "value") (n2:NoAttr K C "test"):OkN P w K mg base (CXe P w base) 1 C UG (spI_Let C):=by
 obtain ⟨f,fd,m,F,bd,bn⟩:=d;refine ⟨f,fd,m,bd,bn,F.okE zej (by rintro vs H Q E ⟨_,_,_,_,_,rfl,_⟩;rfl) λsA A outer s H vs Q E hr h=>?_⟩;obtain ⟨x,dx,u0,u1,u2,rfl,hx,k⟩:=h;refine ⟨_,(zb (zF (pv 0) (pv 1) rfl) (zb (zF (pv 0) (pv 2) rfl) (ze (zF (pv 0) (pv 3) rfl)))),?_⟩;show (let s1:L2.TS:=_;let s2:L2.TS:=L2.tSeq _ s1;L2.tSeq _ s2 _ _ _);intro s1 s2;refine ⟨_,U,_,U,x,C,dx,[],U,hx,cl,n0,(by show 0<1000;decide),?_⟩;refine ⟨_,U,_,U,x,C,dx,[("target",u0)],U,zg,cl,n1,(by show 1<1000;decide),?_⟩;refine ⟨_,U,_,U,x,C,dx,[("target",u0),("value",u1)],U,zg,cl,n2,(by show 2<1000;decide),?_⟩
 exact k _ (λb o nb z=>by
  rw [zt nb,zt nb,zt nb];exact z) zg
def spI_Put (C:Ad):Sp:=λvs H Q _=>∃ (x dx:Ad) (u0 u1 u2 u3 u4:V),vs=[.ref x,u0,u1,u2,u3,u4]/\H x=Z (.ins C dx [])/\∀ H',(∀ b o,b≠x->H b=Z o->H' b=Z o)->H' x=Z (.ins C dx [("target",u0),("value",u1),("place",u2),("many",u3),("test",u4)])->Q .non H'
def okN_Put {C:Ad} (d:X7 K C "Put.__init__" xN Um) (cl:Cls K C) (n0:NoAttr K C "target") (n1:NoAttr K C "value") (n2:NoAttr K C "place") (n3:NoAttr K C "many") (n4:NoAttr K C "test"):OkN P w K mg base (CXe P w base) 1 C Um (spI_Put C):=by
 obtain ⟨f,fd,m,F,bd,bn⟩:=d;refine ⟨f,fd,m,bd,bn,F.okE zei (by rintro vs H Q E ⟨_,_,_,_,_,_,_,rfl,_⟩;rfl) λsA A outer s H vs Q E hr h=>?_⟩;obtain ⟨x,dx,u0,u1,u2,u3,u4,rfl,hx,k⟩:=h;refine ⟨_,(zb (zF (pv 0) (pv 1) rfl) (zb (zF (pv 0) (pv 2) rfl) (zb (zF (pv 0) (pv 3) rfl) (zb (zF (pv 0) (pv 4) rfl) (ze (zF (pv 0) (pv 5) rfl)))))),?_⟩;show (let s1:L2.TS:=_;let s2:L2.TS:=L2.tSeq _ s1;let s3:L2.TS:=L2.tSeq _ s2;let s4:L2.TS:=L2.tSeq _ s3;L2.tSeq _ s4 _ _ _);intro s1 s2 s3 s4;refine ⟨_,U,_,U,x,C,dx,[],U,hx,cl,n0,(by show 0<1000;decide),?_⟩;refine ⟨_,U,_,U,x,C,dx,[("target",u0)],U,zg,cl,n1,(by show 1<1000;decide),?_⟩;refine ⟨_,U,_,U,x,C,dx,[("target",u0),("value",u1)],U,zg,cl,n2,(by show 2<1000;decide),?_⟩;refine ⟨_,U,_,U,x,C,dx,[("target",u0),("value",u1),("place",u2)],U,zg,cl,n3,(by show 3<1000;decide),?_⟩;refine ⟨_,U,_,U,x,C,dx,[("target",u0),("value",u1),("place",u2),("many",u3)],U,zg,cl,n4,(by show 4<1000;decide),?_⟩
 exact k _ (λb o nb z=>by
  rw [zt nb,zt nb,zt nb,zt nb,zt nb];exact z) zg
def zef (C:Ad):Sp:=λvs H Q _=>∃ (x dx:Ad) (u0 u1 u2 u3 u4:V),vs=[.ref x,u0,u1,u2,u3,u4]/\H x=Z (.ins C dx [])/\∀ H',(∀ b o,b≠x->H b=Z o->H' b=Z o)->H' x=Z (.ins C dx [("target",u0),("fold",u1),("value",u2),("many",u3),("test",u4)])->Q .non H'
def okN_Fold {C:Ad} (d:X7 K C "Fold.__init__" xr Uo) (cl:Cls K C) (n0:NoAttr K C "target") (n1:NoAttr K C "fold") (n2:NoAttr K C "value") (n3:NoAttr K C "many") (n4:NoAttr K C "test"):OkN P w K mg base (CXe P w base) 1 C Uo (zef C):=by
 obtain ⟨f,fd,m,F,bd,bn⟩:=d;refine ⟨f,fd,m,bd,bn,F.okE zc5 (by rintro vs H Q E ⟨_,_,_,_,_,_,_,rfl,_⟩;rfl) λsA A outer s H vs Q E hr h=>?_⟩;obtain ⟨x,dx,u0,u1,u2,u3,u4,rfl,hx,k⟩:=h;refine ⟨_,(zb (zF (pv 0) (pv 1) rfl) (zb (zF (pv 0) (pv 2) rfl) (zb (zF (pv 0) (pv 3) rfl) (zb (zF (pv 0) (pv 4) rfl) (ze (zF (pv 0) (pv 5) rfl)))))),?_⟩;show (let s1:L2.TS:=_;let s2:L2.TS:=L2.tSeq _ s1;let s3:L2.TS:=L2.tSeq _ s2;let s4:L2.TS:=L2.tSeq _ s3;L2.tSeq _ s4 _ _ _);intro s1 s2 s3 s4;refine ⟨_,U,_,U,x,C,dx,[],U,hx,cl,n0,(by show 0<1000;decide),?_⟩;refine ⟨_,U,_,U,x,C,dx,[("target",u0)],U,zg,cl,n1,(by show 1<1000;decide),?_⟩;refine ⟨_,U,_,U,x,C,dx,[("target",u0),("fold",u1)],U,zg,cl,n2,(by show 2<1000;decide),?_⟩;refine ⟨_,U,_,U,x,C,dx,[("target",u0),("fold",u1),("value",u2)],U,zg,cl,n3,(by show 3<1000;decide),?_⟩;refine ⟨_,U,_,U,x,C,dx,[("target",u0),("fold",u1),("value",u2),("many",u3)],U,zg,cl,n4,(by show 4<1000;decide),?_⟩
 exact k _ (λb o nb z=>by
  rw [zt nb,zt nb,zt nb,zt nb,zt nb];exact z) zg
def XZ (C:Ad):Sp:=λvs H Q _=>∃ (x dx:Ad) (u0 u1 u2 u3:V),vs=[.ref x,u0,u1,u2,u3]/\H x=Z (.ins C dx [])/\∀ H',(∀ b o,b≠x->H b=Z o->H' b=Z o)->H' x=Z (.ins C dx [("target",u0),("fold",u1),("value",u2),("test",u3)])->Q .non H'
def zex {C:Ad} (d:X7 K C "Running.__init__" yC Uv) (cl:Cls K C) (n0:NoAttr K C "target") (n1:NoAttr K C "fold") (n2:NoAttr K C "value") (n3:NoAttr K C "test"):OkN P w K mg base (CXe P w base) 1 C Uv (XZ C):=by
 obtain ⟨f,fd,m,F,bd,bn⟩:=d;refine ⟨f,fd,m,bd,bn,F.okE X9 (by rintro vs H Q E ⟨_,_,_,_,_,_,rfl,_⟩;rfl) λsA A outer s H vs Q E hr h=>?_⟩;obtain ⟨x,dx,u0,u1,u2,u3,rfl,hx,k⟩:=h;refine ⟨_,(zb (zF (pv 0) (pv 1) rfl) (zb (zF (pv 0) (pv 2) rfl) (zb (zF (pv 0) (pv 3) rfl) (ze (zF (pv 0) (pv 4) rfl))))),?_⟩;show (let s1:L2.TS:=_;let s2:L2.TS:=L2.tSeq _ s1;let s3:L2.TS:=L2.tSeq _ s2;L2.tSeq _ s3 _ _ _);intro s1 s2 s3;refine ⟨_,U,_,U,x,C,dx,[],U,hx,cl,n0,(by show 0<1000;decide),?_⟩;refine ⟨_,U,_,U,x,C,dx,[("target",u0)],U,zg,cl,n1,(by show 1<1000;decide),?_⟩;refine ⟨_,U,_,U,x,C,dx,[("target",u0),("fold",u1)],U,zg,cl,n2,(by show 2<1000;decide),?_⟩;refine ⟨_,U,_,U,x,C,dx,[("target",u0),("fold",u1),("value",u2)],U,zg,cl,n3,(by show 3<1000;decide),?_⟩
 exact k _ (λb o nb z=>by
  rw [zt nb,zt nb,zt nb,zt nb];exact z) zg
inductive spSt (K:Fg) (C:Ad) (c:F2.Cs) (q:Scs) (wd:Str) (vs:Jn) (H:Hp) (Q:VK) (_:XK):Prop
 | mk (g:Rg) (dg:Dg) (B:Hp) (ws:Jf) (p:Nat) (D:Dr) (ts us tl:Jg) (lv:LvL) (la:Ad) (xs:Jg) (lns:Jb) (L:StepD) (S T:Nat->Int) (_:vs=[.ref dg.d,.ref g.r]) (_:g.C=C) (_:g.ra=dg.ra) (_:g.ha=dg.ha) (h3':g.ov=.non) (_:DCls K dg.C) (_:RAt B g ws p 0 (dg.L ts us D++dg.S tl ((la,xs)::lv) lns) H) (_:DrAt B c dg D ts us) (_:Yg ws) (_:PSt ⟨D.rows,D.heads,Y⟩ wd (ws.drop p) L) (_:StepGo D S T L lns.length xs.length) (_:∀ B' H' x,Same B B'->Hd B' (dg.L ts us D++dg.S tl ((la,xs++[x])::lv) (lns++[g.ln])) H'->StepAt c q B' L x->Q .non H')
def laid {c:F2.Cs} {g:Rg} {dg:Dg} {B H:Hp} {ws:Jf} {p:Nat} {D:Dr} {ts us:Jg} {L0:Jm} (A1:RAt B g ws p 0 (dg.L ts us D++L0) H) (DA:DrAt B c dg D ts us) (hra:g.ra=dg.ra) (hha:g.ha=dg.ha) (hov:g.ov=.non):∃ B3,RAt B3 g ws p 0 ((dg.la,.lst (D.lens.map V.int))::(dg.fa,.lst (us.map V.ref))::L0) H/\RdAt B3 g ⟨D.rows,D.heads,Y⟩/\B3 g.ra=Z (.dK (zX 0 D.rows))/\∀ B6 H6 p6,Same B3 B6->RAt B6 g ws p6 0 ((dg.la,.lst (D.lens.map V.int))::(dg.fa,.lst (us.map V.ref))::L0) H6->∃ B9,Same B B9/\RAt B9 g ws p6 0 (dg.L ts us D++L0) H6/\(∀ F y,F2.FormAt c B6 F y->F2.FormAt c B9 F y)/\∀ t v,TestAt c B6 t v->TestAt c B9 t v:=by
 have hn:=A1.lns;obtain ⟨B3,s3,er3,eh3,nr3,nh3,A5⟩:=A1.lay;have D3:=DA.same s3;refine ⟨B3,A5,⟨by rw [hra];exact er3,⟨ts,D3.tl,by rw [hha];exact eh3,D3.t⟩,.inl ⟨U,hov⟩,D3.m⟩,by rw [hra];exact er3,λB6 H6 p6 s6 A8=>?_⟩
 have dk:∀ a∈[dg.ra,dg.ha],∃ sr,B6 a=Z (.dK sr):=λa m=>by
  rcases sM.mp m with rfl | m
  .exact ⟨_,s6 _ _ er3⟩
  .cases sG.mp m;exact ⟨_,s6 _ _ eh3⟩
 have A9:=RAt.unlay (D:=D) (ts:=ts) hn A8 (s6 _ _ er3) (s6 _ _ eh3);exact ⟨_,same_but2 (s3.trans s6) nr3 nh3,A9,λF y f=>xJ dk f,λt v f=>test_but dk f⟩
def zag {c:F2.Cs} {q:Scs} {g:Rg} {B H H':Hp} {ws:Jf} {p:Nat} {L0:Jm} {L:StepD} {x dx y pl:Ad} {tv:V} (A9:RAt B g ws p 0 L0 H) (nx:H x=Y) (sx:Same H H') (e7:H' x=Z (.ins (q.of L.kind) dx (fieldsOf L y pl tv))) (fy:F2.FormAt c B L.value y) (ft:TestAt c B L.test tv) (fp:∀ F m,L.kind=.put F m->F2.FormAt c B F pl):∃ B7,Same B B7/\Hd B7 L0 H'/\StepAt c q B7 L x:=by
 obtain ⟨B7,sB7,h7,ov7⟩:=A9.h.over sx;refine ⟨B7,sB7,h7.tl,dx,y,pl,tv,?_,fy.same sB7,?_,λF m z=>(fp F m z).same sB7⟩
 .refine ov7 _ _ e7 λmm=>?_
  obtain ⟨p',mp,ep⟩:=tW.mp mm;have:=A9.h.st p' mp;rw [ep,nx] at this;cases this
 .have:=ft.same sB7
  cases hl:L.test with
  | none=>rw [hl] at this;exact this
  | some F=>rw [hl] at this;exact this
def zeu {C:Ad} {c:F2.Cs} {q:Scs} (d:zj K mg "read_let_line" xk Uc) (rC:RCls K C) (hCl:mg "Let"=Z (.ref q.let_)) (II:OkI P w K mg base (CXe P w base) 1 q.let_ UG (spI_Let q.let_)) (RR:Ok P w K mg base CX0 4 "read_row" Ua (spRo C)) (RF:Ok P w K mg base CX0 154 "read_form" Ua (spFm C c 30)) (RT:Ok P w K mg base CX0 155 "read_test" Ua (spTe C c)) (TK:Ok P w K mg base CX0 23 "take_step" Uz (spTk K c q)):Ok P w K mg base CX0 156 "read_let_line" Uc (spSt K C c q "let"):=by
 refine oDf d sc_read_let_line λf sA A _ s H vs Q E hr h=>?_;obtain ⟨g,dg,B,ws,p,D,ts,us,tl,lv,la,xs,lns,L,S,T,rfl,rfl,hra,hha,hov,DC,A1,DA,wo,hp,go,k⟩:=h;have hrt:Room 155 _:=hr;have hrf:Room 154 _:=hr.mono (by decide);have hrk:Room 23 _:=hr.mono (by decide);have hr5:Room 5 _:=hr.mono (by decide);have hr4:Room 4 _:=hr.mono (by decide);have hr3:Room 3 _:=hr.mono (by decide);have hr2:Room 2 _:=hr.mono (by decide);have cC:=rC.c;have nd:=sc_read_let_line.nd;refine ⟨_,(zb (oRz 2 nd (zo RR hr4 (by rfl) zv (za (pv 1) zc)))
   (zb (oRz 3 nd (zo RF hrf (by rfl) zv (za (pv 1) zc)))
   (zb (oRz 4 nd (zo RT hrt (by rfl) zv (za (pv 1) zc)))
   (ze (zC (zo TK hrk (by rfl) zv (za (pv 0) (za (zu (pv 1) rfl) (za (y8 II hCl hr2 (by rfl) zU (za (pv 2) (za (pv 3) (za (pv 4) zc)))) zc))))))))),?_⟩
 show (let s1:L2.TS:=_;let s2:L2.TS:=L2.tSeq _ s1;let s3:L2.TS:=L2.tSeq _ s2;L2.tSeq _ s3 _ _ _);intro s1 s2 s3;obtain ⟨B3,A5,RA,er3,fin⟩:=laid A1 DA hra hha hov;generalize hw:ws.drop p=w0 at hp;cases hp with | let_ _ r1 r2 i v t h1 h2 h3=>?_
 refine ⟨_,U,g,B3,_,ws,p,0,⟨D.rows,D.heads,Y⟩,i,r1,U,U,A5,er3,by rw [hw];exact h1,wo,λB4 H4 s4 A6 e6=>?_⟩;have A6:RAt B4 g ws (p+1) (30-((30:Nat):Int)) _ _:=A6;refine ⟨_,U,g,B4,_,ws,p+1,⟨D.rows,D.heads,Y⟩,v,r2,U,U,A6,RA.same s4,by rw [e6];exact h2,wo,λB5 H5 p5 y s5 A7 e7 fy=>?_⟩;have A7:RAt B5 g ws p5 0 _ H5:=A7;refine ⟨_,U,g,B5,_,ws,p5,⟨D.rows,D.heads,Y⟩,t,U,U,A7,RA.same (s4.trans s5),by rw [e7];exact h3,wo,λB6 H6 p6 tv s6 A8 ft=>?_⟩;refine ⟨_,U,_,U,g.r,g.C,g.dx,_,_,U,A8.h.get 0 rfl,rC.c,rC.n0,U,_,U,_,U,_,U,λx dx nx ndx _=>⟨x,dx,_,_,_,U,zg,λH7 k7 e7=>⟨U,?_⟩⟩⟩;obtain ⟨B9,s9,A9,tf,tt⟩:=fin _ _ _ (s4.trans (s5.trans s6)) A8;obtain ⟨B7,sB7,h7,st7⟩:=zag (q:=q) (L:=⟨i,v,t,.let'⟩) (pl:=0) A9 nx (YL nx ndx k7) e7 (tf _ _ (fy.same (s6))) (tt _ _ ft) (λF m z=>by cases z);refine ⟨dg,B7,D,ts,us,tl,lv,la,xs,lns,g.ln,x,_,S,T,U,h7,DC,(DA.same s9).same sB7,st7,go.l,go.ck,go.un,go.cr,go.l40,go.l100,λB8 H8 s8 h8=>?_⟩;exact k B8 H8 x (s9.trans (sB7.trans s8)) h8 (st7.same s8)
def zer {C:Ad} {c:F2.Cs} {q:Scs} (d:zj K mg "read_put_line" xh Uc) (rC:RCls K C) (hCl:mg "Put"=Z (.ref q.put)) (II:OkI P w K mg base (CXe P w base) 1 q.put Um (spI_Put q.put)) (RR:Ok P w K mg base CX0 4 "read_row" Ua (spRo C)) (RF:Ok P w K mg base CX0 154 "read_form" Ua (spFm C c 30)) (RT:Ok P w K mg base CX0 155 "read_test" Ua (spTe C c)) (TK:Ok P w K mg base CX0 23 "take_step" Uz (spTk K c q)) (RW:Ok P w K mg base CX0 3 "read_word" Ul (spRW C)) (MA:Ok P w K mg base CX0 5 "read_many" Ua (spMa C)):Ok P w K mg base CX0 156 "read_put_line" Uc (spSt K C c q "put"):=by
 refine oDf d sc_read_put_line λf sA A _ s H vs Q E hr h=>?_;obtain ⟨g,dg,B,ws,p,D,ts,us,tl,lv,la,xs,lns,L,S,T,rfl,rfl,hra,hha,hov,DC,A1,DA,wo,hp,go,k⟩:=h;have hrt:Room 155 _:=hr;have hrf:Room 154 _:=hr.mono (by decide);have hrk:Room 23 _:=hr.mono (by decide);have hr5:Room 5 _:=hr.mono (by decide);have hr4:Room 4 _:=hr.mono (by decide);have hr3:Room 3 _:=hr.mono (by decide);have hr2:Room 2 _:=hr.mono (by decide);have cC:=rC.c;have nd:=sc_read_put_line.nd;refine ⟨_,(zb (oRz 2 nd (zo RF hrf (by rfl) zv (za (pv 1) zc)))
   (zb (zC (zo RW hr3 (by rfl) zv (za (pv 1) (za zn zc))))
   (zb (oRz 3 nd (zo RF hrf (by rfl) zv (za (pv 1) zc)))
   (zb (zC (zo RW hr3 (by rfl) zv (za (pv 1) (za zn zc))))
   (zb (oRz 4 nd (zo RR hr4 (by rfl) zv (za (pv 1) zc)))
   (zb (oRz 5 nd (zo MA hr5 (by rfl) zv (za (pv 1) zc)))
   (zb (oRz 6 nd (zo RT hrt (by rfl) zv (za (pv 1) zc)))
   (ze (zC (zo TK hrk (by rfl) zv (za (pv 0) (za (zu (pv 1) rfl) (za (y8 II hCl hr2 (by rfl) zU (za (pv 4) (za (pv 2) (za (pv 3) (za (pv 5) (za (pv 6) zc)))))) zc))))))))))))),?_⟩
 show (let s1:L2.TS:=_;let s2:L2.TS:=L2.tSeq _ s1;let s3:L2.TS:=L2.tSeq _ s2;let s4:L2.TS:=L2.tSeq _ s3;let s5:L2.TS:=L2.tSeq _ s4;let s6:L2.TS:=L2.tSeq _ s5;let s7:L2.TS:=L2.tSeq _ s6;L2.tSeq _ s7 _ _ _);intro s1 s2 s3 s4 s5 s6 s7;obtain ⟨B3,A5,RA,er3,fin⟩:=laid A1 DA hra hha hov;generalize hw:ws.drop p=w0 at hp;cases hp with | put_ _ r1 r2 r3 r4 i v pf m t h1 h2 h3 h4 h5=>?_
 have A5:RAt B3 g ws (p) (30-((30:Nat):Int)) _ _:=A5;refine ⟨_,U,g,B3,_,ws,p,⟨D.rows,D.heads,Y⟩,v,_,U,U,A5,RA,by rw [hw];exact h1,wo,λB4 H4 p4 y s4 A6 e6 fy=>?_⟩;have A6:RAt B4 g ws p4 0 _ H4:=A6;refine ⟨_,U,g,B4,_,ws,p4,0,_,r1,U,U,A6,e6,λH5 A7 e7=>?_⟩;have A7:RAt B4 g ws (p4+1) (30-((30:Nat):Int)) _ _:=A7;refine ⟨_,U,g,B4,_,ws,p4+1,⟨D.rows,D.heads,Y⟩,pf,_,U,U,A7,RA.same s4,by rw [e7];exact h2,wo,λB5 H6 p5 yp s5 A8 e8 fp=>?_⟩;have A8:RAt B5 g ws p5 0 _ H6:=A8;refine ⟨_,U,g,B5,_,ws,p5,0,_,r2,U,U,A8,e8,λH7 A9 e9=>?_⟩;refine ⟨_,U,g,B5,_,ws,p5+1,0,⟨D.rows,D.heads,Y⟩,i,_,U,U,A9,(s4.trans s5) _ _ er3,by rw [e9];exact h3,wo,λB6 H8 s6 A10 e10=>?_⟩;refine ⟨_,U,g,B6,_,ws,p5+1+1,0,m,r3,r4,U,U,A10,e10,h4,wo,λB7 H9 s7 A11 e11=>?_⟩;refine ⟨_,U,g,B7,_,ws,p5+1+1+2,⟨D.rows,D.heads,Y⟩,t,U,U,A11,RA.same (s4.trans (s5.trans (s6.trans s7))),by rw [e11];exact h5,wo,λB8 H10 p6 tv s8 A8 ft=>?_⟩;refine ⟨_,U,_,U,g.r,g.C,g.dx,_,_,U,A8.h.get 0 rfl,rC.c,rC.n0,U,_,U,_,U,_,U,_,U,_,U,λx dx nx ndx _=>⟨x,dx,_,_,_,_,_,U,zg,λH7 k7 e7=>⟨U,?_⟩⟩⟩;obtain ⟨B9,s9,A9,tf,tt⟩:=fin _ _ _ (s4.trans (s5.trans (s6.trans (s7.trans s8)))) A8;obtain ⟨B7,sB7,h7,st7⟩:=zag (q:=q) (L:=⟨i,v,t,.put pf m⟩) (pl:=yp) A9 nx (YL nx ndx k7) e7 (tf _ _ (fy.same (s5.trans (s6.trans (s7.trans s8))))) (tt _ _ ft) (λF m z=>by cases z;exact tf _ _ (fp.same (s6.trans (s7.trans s8))));refine ⟨dg,B7,D,ts,us,tl,lv,la,xs,lns,g.ln,x,_,S,T,U,h7,DC,(DA.same s9).same sB7,st7,go.l,go.ck,go.un,go.cr,go.l40,go.l100,λB8 H8 s8 h8=>?_⟩;exact k B8 H8 x (s9.trans (sB7.trans s8)) h8 (st7.same s8)
def zdy {C:Ad} {c:F2.Cs} {q:Scs} (d:zj K mg "read_fold_line" yW Uc) (rC:RCls K C) (hCl:mg "Fold"=Z (.ref q.fold)) (II:OkI P w K mg base (CXe P w base) 1 q.fold Uo (zef q.fold)) (RR:Ok P w K mg base CX0 4 "read_row" Ua (spRo C)) (RF:Ok P w K mg base CX0 154 "read_form" Ua (spFm C c 30)) (RT:Ok P w K mg base CX0 155 "read_test" Ua (spTe C c)) (TK:Ok P w K mg base CX0 23 "take_step" Uz (spTk K c q)) (RW:Ok P w K mg base CX0 3 "read_word" Ul (spRW C)) (MA:Ok P w K mg base CX0 5 "read_many" Ua (spMa C)) (RFo:Ok P w K mg base CX0 3 "read_fold" Ua (spRF C)):Ok P w K mg base CX0 156 "read_fold_line" Uc (spSt K C c q "fold"):=by
 refine oDf d sc_read_fold_line λf sA A _ s H vs Q E hr h=>?_;obtain ⟨g,dg,B,ws,p,D,ts,us,tl,lv,la,xs,lns,L,S,T,rfl,rfl,hra,hha,hov,DC,A1,DA,wo,hp,go,k⟩:=h;have hrt:Room 155 _:=hr;have hrf:Room 154 _:=hr.mono (by decide);have hrk:Room 23 _:=hr.mono (by decide);have hr5:Room 5 _:=hr.mono (by decide);have hr4:Room 4 _:=hr.mono (by decide);have hr3:Room 3 _:=hr.mono (by decide);have hr2:Room 2 _:=hr.mono (by decide);have cC:=rC.c;have nd:=sc_read_fold_line.nd;refine ⟨_,(zb (oRz 2 nd (zo RFo hr3 (by rfl) zv (za (pv 1) zc)))
   (zb (oRz 3 nd (zo RF hrf (by rfl) zv (za (pv 1) zc)))
   (zb (zC (zo RW hr3 (by rfl) zv (za (pv 1) (za zn zc))))
   (zb (oRz 4 nd (zo RR hr4 (by rfl) zv (za (pv 1) zc)))
   (zb (oRz 5 nd (zo MA hr5 (by rfl) zv (za (pv 1) zc)))
   (zb (oRz 6 nd (zo RT hrt (by rfl) zv (za (pv 1) zc)))
   (ze (zC (zo TK hrk (by rfl) zv (za (pv 0) (za (zu (pv 1) rfl) (za (y8 II hCl hr2 (by rfl) zU (za (pv 4) (za (pv 2) (za (pv 3) (za (pv 5) (za (pv 6) zc)))))) zc)))))))))))),?_⟩
 show (let s1:L2.TS:=_;let s2:L2.TS:=L2.tSeq _ s1;let s3:L2.TS:=L2.tSeq _ s2;let s4:L2.TS:=L2.tSeq _ s3;let s5:L2.TS:=L2.tSeq _ s4;let s6:L2.TS:=L2.tSeq _ s5;L2.tSeq _ s6 _ _ _);intro s1 s2 s3 s4 s5 s6;obtain ⟨B3,A5,RA,er3,fin⟩:=laid A1 DA hra hha hov;generalize hw:ws.drop p=w0 at hp;cases hp with | fold_ f' _ r1 r2 r3 i v m t h0 h1 h2 h3 h4=>?_
 refine ⟨_,U,g,B3,_,ws,p,0,f',_,U,U,A5,hw,h0,λH4 A6 e6=>?_⟩;have A6:RAt B3 g ws (p+1) (30-((30:Nat):Int)) _ _:=A6;refine ⟨_,U,g,B3,_,ws,p+1,⟨D.rows,D.heads,Y⟩,v,_,U,U,A6,RA,by rw [e6];exact h1,wo,λB4 H5 p4 y s4 A7 e7 fy=>?_⟩;have A7:RAt B4 g ws p4 0 _ H5:=A7;refine ⟨_,U,g,B4,_,ws,p4,0,_,r1,U,U,A7,e7,λH6 A8 e8=>?_⟩;refine ⟨_,U,g,B4,_,ws,p4+1,0,⟨D.rows,D.heads,Y⟩,i,_,U,U,A8,s4 _ _ er3,by rw [e8];exact h2,wo,λB5 H7 s5 A9 e9=>?_⟩;refine ⟨_,U,g,B5,_,ws,p4+1+1,0,m,r2,r3,U,U,A9,e9,h3,wo,λB6 H8 s6 A10 e10=>?_⟩;refine ⟨_,U,g,B6,_,ws,p4+1+1+2,⟨D.rows,D.heads,Y⟩,t,U,U,A10,RA.same (s4.trans (s5.trans s6)),by rw [e10];exact h4,wo,λB7 H9 p6 tv s7 A8 ft=>?_⟩;refine ⟨_,U,_,U,g.r,g.C,g.dx,_,_,U,A8.h.get 0 rfl,rC.c,rC.n0,U,_,U,_,U,_,U,_,U,_,U,λx dx nx ndx _=>⟨x,dx,_,_,_,_,_,U,zg,λH7 k7 e7=>⟨U,?_⟩⟩⟩;obtain ⟨B9,s9,A9,tf,tt⟩:=fin _ _ _ (s4.trans (s5.trans (s6.trans s7))) A8;obtain ⟨B7,sB7,h7,st7⟩:=zag (q:=q) (L:=⟨i,v,t,.fold f' m⟩) (pl:=0) A9 nx (YL nx ndx k7) e7 (tf _ _ (fy.same (s5.trans (s6.trans s7)))) (tt _ _ ft) (λF m z=>by cases z);refine ⟨dg,B7,D,ts,us,tl,lv,la,xs,lns,g.ln,x,_,S,T,U,h7,DC,(DA.same s9).same sB7,st7,go.l,go.ck,go.un,go.cr,go.l40,go.l100,λB8 H8 s8 h8=>?_⟩;exact k B8 H8 x (s9.trans (sB7.trans s8)) h8 (st7.same s8)
def zeo {C:Ad} {c:F2.Cs} {q:Scs} (d:zj K mg "read_run_line" xf Uc) (rC:RCls K C) (hCl:mg "Running"=Z (.ref q.run)) (II:OkI P w K mg base (CXe P w base) 1 q.run Uv (XZ q.run)) (RR:Ok P w K mg base CX0 4 "read_row" Ua (spRo C)) (RF:Ok P w K mg base CX0 154 "read_form" Ua (spFm C c 30)) (RT:Ok P w K mg base CX0 155 "read_test" Ua (spTe C c)) (TK:Ok P w K mg base CX0 23 "take_step" Uz (spTk K c q)) (RW:Ok P w K mg base CX0 3 "read_word" Ul (spRW C)) (RFo:Ok P w K mg base CX0 3 "read_fold" Ua (spRF C)):Ok P w K mg base CX0 156 "read_run_line" Uc (spSt K C c q "run"):=by
 refine oDf d sc_read_run_line λf sA A _ s H vs Q E hr h=>?_;obtain ⟨g,dg,B,ws,p,D,ts,us,tl,lv,la,xs,lns,L,S,T,rfl,rfl,hra,hha,hov,DC,A1,DA,wo,hp,go,k⟩:=h;have hrt:Room 155 _:=hr;have hrf:Room 154 _:=hr.mono (by decide);have hrk:Room 23 _:=hr.mono (by decide);have hr5:Room 5 _:=hr.mono (by decide);have hr4:Room 4 _:=hr.mono (by decide);have hr3:Room 3 _:=hr.mono (by decide);have hr2:Room 2 _:=hr.mono (by decide);have cC:=rC.c;have nd:=sc_read_run_line.nd;refine ⟨_,(zb (oRz 2 nd (zo RFo hr3 (by rfl) zv (za (pv 1) zc)))
   (zb (oRz 3 nd (zo RF hrf (by rfl) zv (za (pv 1) zc)))
   (zb (zC (zo RW hr3 (by rfl) zv (za (pv 1) (za zn zc))))
   (zb (oRz 4 nd (zo RR hr4 (by rfl) zv (za (pv 1) zc)))
   (zb (oRz 5 nd (zo RT hrt (by rfl) zv (za (pv 1) zc)))
   (ze (zC (zo TK hrk (by rfl) zv (za (pv 0) (za (zu (pv 1) rfl) (za (y8 II hCl hr2 (by rfl) zU (za (pv 4) (za (pv 2) (za (pv 3) (za (pv 5) zc))))) zc))))))))))),?_⟩
 show (let s1:L2.TS:=_;let s2:L2.TS:=L2.tSeq _ s1;let s3:L2.TS:=L2.tSeq _ s2;let s4:L2.TS:=L2.tSeq _ s3;let s5:L2.TS:=L2.tSeq _ s4;L2.tSeq _ s5 _ _ _);intro s1 s2 s3 s4 s5;obtain ⟨B3,A5,RA,er3,fin⟩:=laid A1 DA hra hha hov;generalize hw:ws.drop p=w0 at hp;cases hp with | run_ f' _ r1 r2 i v t h0 h1 h2 h3=>?_
 refine ⟨_,U,g,B3,_,ws,p,0,f',_,U,U,A5,hw,h0,λH4 A6 e6=>?_⟩;have A6:RAt B3 g ws (p+1) (30-((30:Nat):Int)) _ _:=A6;refine ⟨_,U,g,B3,_,ws,p+1,⟨D.rows,D.heads,Y⟩,v,_,U,U,A6,RA,by rw [e6];exact h1,wo,λB4 H5 p4 y s4 A7 e7 fy=>?_⟩;have A7:RAt B4 g ws p4 0 _ H5:=A7;refine ⟨_,U,g,B4,_,ws,p4,0,_,r1,U,U,A7,e7,λH6 A8 e8=>?_⟩;refine ⟨_,U,g,B4,_,ws,p4+1,0,⟨D.rows,D.heads,Y⟩,i,_,U,U,A8,s4 _ _ er3,by rw [e8];exact h2,wo,λB5 H7 s5 A9 e9=>?_⟩;refine ⟨_,U,g,B5,_,ws,p4+1+1,⟨D.rows,D.heads,Y⟩,t,U,U,A9,RA.same (s4.trans s5),by rw [e9];exact h3,wo,λB6 H8 p6 tv s6 A8 ft=>?_⟩;refine ⟨_,U,_,U,g.r,g.C,g.dx,_,_,U,A8.h.get 0 rfl,rC.c,rC.n0,U,_,U,_,U,_,U,_,U,λx dx nx ndx _=>⟨x,dx,_,_,_,_,U,zg,λH7 k7 e7=>⟨U,?_⟩⟩⟩;obtain ⟨B9,s9,A9,tf,tt⟩:=fin _ _ _ (s4.trans (s5.trans s6)) A8;obtain ⟨B7,sB7,h7,st7⟩:=zag (q:=q) (L:=⟨i,v,t,.run f'⟩) (pl:=0) A9 nx (YL nx ndx k7) e7 (tf _ _ (fy.same (s5.trans s6))) (tt _ _ ft) (λF m z=>by cases z);refine ⟨dg,B7,D,ts,us,tl,lv,la,xs,lns,g.ln,x,_,S,T,U,h7,DC,(DA.same s9).same sB7,st7,go.l,go.ck,go.un,go.cr,go.l40,go.l100,λB8 H8 s8 h8=>?_⟩;exact k B8 H8 x (s9.trans (sB7.trans s8)) h8 (st7.same s8)
end K23
namespace K23
open PySem L2
section
variable {K:Fg} {base:Heap}
inductive spWords (vs:Jn) (H:Hp) (Q:VK) (_:XK):Prop
 | mk (z:Str) (_:vs=[.str z]) (_:z.length<=50000) (_:∀ (H':Hp) (D:Ad),Hd H [(D,.lst ((yB z).map V.str))] H'->Q (.ref D) H')
def ze6 {l:List Nat} {f:Nat->List Nat} {k:Nat} (h:∀ a,(f a).length<=k):(l.flatMap f).length<=k*l.length:=by
 induction l with
 | nil=>simp
 | cons a l ih =>
  rw [wH,Jj,x2x,Nat.mul_add];have:=h a;omega
def yT (z:Str):z.length=(lt' z).length:=by simp [w8]
def len_r1 (z:Str):(w6 z "(" " ( ").length<=3*z.length:=by
 have a1:("(":Str)=⟨#[40]⟩:=by decide
 rw [yT,yT z,a1,XI];refine ze6 λa=>?_
 split
 .decide
 .simp
def len_ap (z:Str):(apart z).length<=3*z.length:=by
 rw [yT,yT z,zbs];refine ze6 λa=>?_;unfold gB
 split
 .decide
 .split
  .decide
  .simp
def zce (z:Str):(uo (apart z) " ").length<=3*z.length+2:=by
 have h:=PyProof.Rows.len_le_of_split (l:=(uo (apart z) " ").map λy=>(y,(0:Tok))) (x:=apart z) (y:=" ") (by rw [ug];exact List.map_id _);rw [Ji] at h;have:=len_ap z;omega
def ok_words (d:zj K mg "words_of" Z3 ["line"]):Ok P w K mg base CX0 1 "words_of" ["line"] spWords:=by
 obtain ⟨f,fd,m,F,bd⟩:=d;refine ⟨f,fd,m,F.kp,bd,F.okT sc_words_of (by decide +kernel) (by rintro vs H Q E ⟨_,e,_⟩;rw [e];rfl) λsA A outer s H vs Q E hr h=>?_⟩;obtain ⟨z,rfl,hz,k⟩:=h;have nd:=sc_words_of.nd;refine ⟨_,psst_cons (pst_set (i:=1) nd rfl (vG rfl) (X0 (X0 (PE.pet (pv 0)))))
  (ze (zm (za4 Uj [Y] rfl rfl rfl (xo (yz uz uy vM ze2 (pv 1) (za zn zc))) (λs3 H3 fp=>⟨zR (i:=0) (Jp Uj) rfl (vG rfl),(zp Yn (pv 0) zn (zw _)),(pv 0)⟩)))),?_⟩
 have l1:=len_r1 z;have l2:=len_ap z;have l3:=zce z;have SL:(200000:Nat)<sizeLine:=by decide
 refine ⟨_,U,z,U,?_,_,U,?_,?_⟩
 .show z.length+(z.length+1)*3<=16777216
  omega
 .show (w6 z "(" " ( ").length+((w6 z "(" " ( ").length+1)*3<=16777216
  omega
 refine ⟨_,U,U,apart z," ",U,U,U,?_,λS nS=>?_⟩
 .omega
 refine ⟨S,U,⟨_,SqL.of zg⟩,_,U,λD nD=>?_⟩;refine zbm (K:=K) (a:=S) (D:=D) (xs:=(uo (apart z) " ").map V.str) (λi σ H2=>∃ u,σ=[u]/\Hd H [(D,.lst ((((uo (apart z) " ").take i).filter λw:Str=>w != "").map V.str)),(S,.lst ((uo (apart z) " ").map V.str))] H2) ?_ (λi σ H2 _ ⟨_,_,h⟩=>h.lst 1 rfl) ?_ ?_
 .exact ⟨Y,U,(Hd.base.new nS).new nD⟩
 .rintro i x σ H2 hi ⟨u,rfl,h⟩
  rw [sN] at hi;obtain ⟨y,hy,rfl⟩:=uV.mp hi;have hlt:i<(uo (apart z) " ").length:=(tu.mp hy).1;have hy':(uo (apart z) " ")[i]=y:=(tu.mp hy).2;have et:(uo (apart z) " ").take (i+1)=(uo (apart z) " ").take i++[y]:=by rw [List.take_succ,hy];rfl
  refine ⟨_,U,U,?_⟩;have ed:(!decide (V.str y=V.str ("":Str)))=(y != ""):=by rw [zd5];rfl
  rw [ed];refine ⟨_,U,?_⟩;refine yu (λq=>?_) (λq=>?_)
  .refine ⟨_,U,_,h.get 0 rfl,?_,Z (.str y),U,?_⟩
   .rw [Ji]
    have:=List.length_filter_le (λw:Str=>w != "") ((uo (apart z) " ").take i);rw [ut] at this;omega
   .rw [et,vK,Jk]
    have:[y].filter (λw:Str=>w != "")=[y]:=by rw [uW,if_pos q];rfl
    rw [this];exact h.put 0 rfl
  .refine ⟨Z (.str y),U,?_⟩
   rw [et,vK];have:[y].filter (λw:Str=>w != "")=[]:=by rw [uW,if_neg q];rfl
   rw [this,x2y];exact h
 .rintro σ H2 ⟨u,rfl,h⟩
  rw [Ji,uD] at h;exact k _ D (h.sub (List.Sublist.cons₂ _ (List.nil_sublist _)))
end
end K23
namespace L2
open PySem PySem.Spec
inductive rTopNotIn (w:World) (K:Fg) (x y:V) (H:Hp) (Q:VK):Prop
 | mk (k:Str) (a:Ad) (r:Je) (_:x=.str k) (_:y=.ref a) (_:YQ w K a) (_:(a == uN)=false) (_:sY K a k=Z r) (_:Q (.bl (!r.isSome)) H)
def zdh {X:Cx}:OpR X (uA .NotIn) (rTopNotIn X.w X.K):=by
 intro sq s σ H x y v u Q I rx ry h;obtain ⟨k,a,r,rfl,rfl,⟨es,n,hl,hk⟩,lo,e,q⟩:=h;obtain ⟨t,rfl⟩:=(show ∃ t,v=uT k t from rx);cases (show u=tI a from ry);refine wpAny_notIn_of (strKind_is X.prog X.w k t) lo (PySem.W.mapOf_K (prog:=X.prog) I.kIn hl hk) ?_;rw [PySem.W.find_K hl e];exact ⟨.bl (!r.isSome),H,I.tok _,U,q⟩
end L2
namespace K23
open PySem L2
section
variable {K:Fg} {base:Heap}
inductive spI_Rd (C:Ad) (vs:Jn) (H:Hp) (Q:VK) (_:XK):Prop
 | mk (x dx:Ad) (u0 u1 u2 u3:V) (_:vs=[.ref x,u0,u1,u2,u3]) (_:H x=Z (.ins C dx [])) (_:∀ H',(∀ b o,b≠x->H b=Z o->H' b=Z o)->H' x=Z (.ins C dx [("line",u0),("words",u1),("rows",u2),("heads",u3),("own",V.non),("passed",V.int 0),("brackets",V.int 0)])->Q .non H')
def okI_Rd {C:Ad} (d:z7 K C "Reading.__init__" xB Ux) (rC:RCls K C):OkI P w K mg base (CXe P w base) 1 C Ux (spI_Rd C):=by
 refine oIe d zaa λf sA A _ s H vs Q E hr h=>?_;obtain ⟨x,dx,u0,u1,u2,u3,rfl,hx,k⟩:=h;refine ⟨_,(zb (zF (pv 0) (pv 1) rfl)
   (zb (zF (pv 0) (pv 2) rfl)
   (zb (zF (pv 0) (pv 3) rfl)
   (zb (zF (pv 0) (pv 4) rfl)
   (zb (zF (pv 0) yK rfl)
   (zb (zF (pv 0) zd rfl)
   (ze (zF (pv 0) zd rfl)))))))),?_⟩
 refine ⟨_,U,_,U,x,C,dx,[],U,hx,rC.c,rC.n0,(by show 0<1000;decide),?_⟩;refine ⟨_,U,_,U,x,C,dx,[("line",u0)],U,zg,rC.c,rC.n1,(by show 1<1000;decide),?_⟩;refine ⟨_,U,_,U,x,C,dx,[("line",u0),("words",u1)],U,zg,rC.c,rC.n2,(by show 2<1000;decide),?_⟩;refine ⟨_,U,_,U,x,C,dx,[("line",u0),("words",u1),("rows",u2)],U,zg,rC.c,rC.n3,(by show 3<1000;decide),?_⟩;refine ⟨_,U,x,C,dx,[("line",u0),("words",u1),("rows",u2),("heads",u3)],U,zg,rC.c,rC.n4,(by show 4<1000;decide),?_⟩;refine ⟨_,U,x,C,dx,[("line",u0),("words",u1),("rows",u2),("heads",u3),("own",V.non)],U,zg,rC.c,rC.n5,(by show 5<1000;decide),?_⟩;refine ⟨_,U,x,C,dx,[("line",u0),("words",u1),("rows",u2),("heads",u3),("own",V.non),("passed",V.int 0)],U,zg,rC.c,rC.n6,(by show 6<1000;decide),?_⟩
 exact k _ (λb o nb z=>by
  rw [zt nb,zt nb,zt nb,zt nb,zt nb,zt nb,zt nb];exact z) zg
inductive spI_Dr (C:Ad) (vs:Jn) (H:Hp) (Q:VK) (_:XK):Prop
 | mk (x dx:Ad) (_:vs=[.ref x]) (_:H x=Z (.ins C dx [])) (_:∀ H' ra la ha fa ta va na l0,Hd (but H [x]) [(x,.ins C dx [("rows",.ref ra),("lengths",.ref la),("heads",.ref ha),("functions",.ref fa),("tills",.ref ta),("levels",.ref va),("lines",.ref na)]),(na,.lst []),(va,.lst [.ref l0]),(l0,.lst []),(ta,.lst []),(fa,.lst []),(ha,.dK []),(la,.lst []),(ra,.dK [])] H'->Q .non H')
def okI_Dr {C:Ad} (d:z7 K C "Draft.__init__" Zu Uw) (DC:DCls K C):OkI P w K mg base (CXe P w base) 1 C Uw (spI_Dr C):=by
 refine oIe d zbw λf sA A _ s H vs Q E hr h=>?_;obtain ⟨x,dx,rfl,hx,q⟩:=h;refine ⟨_,(zb (zF (pv 0) Xp rfl)
   (zb (zF (pv 0) (zJ zc) rfl)
   (zb (zF (pv 0) Xp rfl)
   (zb (zF (pv 0) (zJ zc) rfl)
   (zb (zF (pv 0) (zJ zc) rfl)
   (zb (zF (pv 0) (zJ (za (zJ zc) zc)) rfl)
   (ze (zF (pv 0) (zJ zc) rfl)))))))),?_⟩
 dsimp only [Zl,Cx.nox,Cx.wish];have h:Hd (but H [x]) [(x,.ins C dx [])] H:=Hd.but1 hx;intro ra nra;have h:=h.fnew (o:=.dK []) nra;refine ⟨_,U,x,C,dx,[],U,h.get 0 rfl,DC.c,DC.n0,(by show 0<1000;decide),?_⟩;have h:=h.fput (o':=.ins C dx [("rows",.ref ra)]);refine ⟨szU 0,λla nla=>?_⟩;have h:=h.fnew (o:=.lst []) nla;refine ⟨_,U,x,C,dx,[("rows",.ref ra)],U,h.get 0 rfl,DC.c,DC.n1,(by show 1<1000;decide),?_⟩;have h:=h.fput (o':=.ins C dx [("rows",.ref ra),("lengths",.ref la)]);intro ha nha;have h:=h.fnew (o:=.dK []) nha;refine ⟨_,U,x,C,dx,[("rows",.ref ra),("lengths",.ref la)],U,h.get 0 rfl,DC.c,DC.n2,(by show 2<1000;decide),?_⟩;have h:=h.fput (o':=.ins C dx [("rows",.ref ra),("lengths",.ref la),("heads",.ref ha)]);refine ⟨szU 0,λfa nfa=>?_⟩;have h:=h.fnew (o:=.lst []) nfa;refine ⟨_,U,x,C,dx,[("rows",.ref ra),("lengths",.ref la),("heads",.ref ha)],U,h.get 0 rfl,DC.c,DC.n3,(by show 3<1000;decide),?_⟩;have h:=h.fput (o':=.ins C dx [("rows",.ref ra),("lengths",.ref la),("heads",.ref ha),("functions",.ref fa)]);refine ⟨szU 0,λta nta=>?_⟩;have h:=h.fnew (o:=.lst []) nta;refine ⟨_,U,x,C,dx,[("rows",.ref ra),("lengths",.ref la),("heads",.ref ha),("functions",.ref fa)],U,h.get 0 rfl,DC.c,DC.n4,(by show 4<1000;decide),?_⟩;have h:=h.fput (o':=.ins C dx [("rows",.ref ra),("lengths",.ref la),("heads",.ref ha),("functions",.ref fa),("tills",.ref ta)]);refine ⟨szU 0,λl0 nl0=>⟨szU 1,λva nva=>?_⟩⟩;have h:=h.fnew (o:=.lst []) nl0;have h:=h.fnew (o:=.lst [.ref l0]) nva;refine ⟨_,U,x,C,dx,[("rows",.ref ra),("lengths",.ref la),("heads",.ref ha),("functions",.ref fa),("tills",.ref ta)],U,h.get 0 rfl,DC.c,DC.n5,(by show 5<1000;decide),?_⟩;have h:=h.fput (o':=.ins C dx [("rows",.ref ra),("lengths",.ref la),("heads",.ref ha),("functions",.ref fa),("tills",.ref ta),("levels",.ref va)]);refine ⟨szU 0,λna nna=>?_⟩;have h:=h.fnew (o:=.lst []) nna;refine ⟨_,U,x,C,dx,[("rows",.ref ra),("lengths",.ref la),("heads",.ref ha),("functions",.ref fa),("tills",.ref ta),("levels",.ref va)],U,h.get 0 rfl,DC.c,DC.n6,(by show 6<1000;decide),?_⟩;have h:=h.fput (o':=.ins C dx [("rows",.ref ra),("lengths",.ref la),("heads",.ref ha),("functions",.ref fa),("tills",.ref ta),("levels",.ref va),("lines",.ref na)]);exact q _ ra la ha fa ta va na l0 h
def linesL:Jf:=["row","def","let","put","fold","run","till","end"]
structure LineFn (P:tV) (w:World) (K:Fg) (mg:J0) (base:Heap) (aL:Ad) (k:Nat) (x:Str) (sp:Sp):Prop where
 ex:∃ (f:Ad) (fd:uk),sY K aL x=Z (Z (.ref f))/\FnOk P w K mg base CX0 k f fd Uc sp/\tj K (.ref f)=true/\Binds K fd Uc []
def LineFn.of {aL f:Ad} {k k':Nat} {x nm:Str} {sp:Sp} (a:sY K aL x=Z (Z (.ref f))) (m:mg nm=Z (.ref f)) (h:Ok P w K mg base CX0 k nm Uc sp) (hk:k<=k'):LineFn P w K mg base aL k' x sp:=by
 obtain ⟨f',fd,m',kp,bd,F⟩:=h;rw [m] at m';cases m';exact ⟨f,fd,a,F.mono hk,kp,bd⟩
inductive spRWs (P:tV) (w:World) (K:Fg) (mg:J0) (base:Heap) (C aL:Ad) (k:Nat) (vs:Jn) (H:Hp) (Q:VK) (E:XK):Prop
 | mk (g:Rg) (d:V) (B:Hp) (L:Jm) (ws:Jf) (b:Int) (x:Str) (r:Jf) (sp:Sp) (_:vs=[d,.ref g.r]) (_:g.C=C) (_:RAt B g ws 0 b L H) (_:ws=x::r) (_:x∈linesL) (_:LineFn P w K mg base aL k x sp) (_:∀ H',RAt B g ws 1 b L H'->sp [d,.ref g.r] H' (λ_ J=>Q .non J) E0)
def zbx {C aL:Ad} {k:Nat} (hk:2<=k) (d:zj K mg "read_words" Zp Uc) (rC:RCls K C) (T:TopHas w K mg "LINES" aL linesL) (NW:OkM P w K mg base CX0 2 C "next_word" Uw (spNW C)):Ok P w K mg base CX0 (k+1) "read_words" Uc (spRWs P w K mg base C aL k):=by
 refine oDf d sc_read_words λf sA A _ s H vs Q E hr h=>?_;obtain ⟨g,dv,B,L,ws,b,x,r,sp,rfl,rfl,A1,ew,xm,LF,q⟩:=h;have hrk:Room k _:=hr;have hr2:Room 2 _:=hr.mono hk;have cC:=rC.c;have nd:=sc_read_words.nd;obtain ⟨ro,e1,e2⟩:=T.h x;rw [decide_eq_true xm] at e2;obtain ⟨f',fd',a',F',kp',bd'⟩:=LF.ex;refine ⟨_,(zb (oRz 2 nd (Za NW cC hr2 zv (pv 1)))
   (zb (zB (zp zdh (pv 2) (zK T.g) rfl) zO zk)
   (ze (zC (pe_callV (CX:=CX0) (k:=k) (zx ix_top (zK T.g) (pv 2) (λ_ _=>rfl)) hrk zv (za (pv 0) (za (pv 1) zc))))))),?_⟩
 refine ⟨_,U,g.r,g.dx,_,U,A1.h.get 0 rfl,U,g,B,L,ws,0,b,x,r,U,U,A1,ew,λH1 A2 er=>?_⟩;refine ⟨_,U,x,aL,ro,U,U,T.T,T.lo,e1,?_⟩;rw [e2];refine ⟨_,U,zy ⟨_,U,aL,x,_,.ref f',U,U,T.T,a',U,f',fd',_,sp,U,F',kp',bd',_,U,_,U,q H1 A2⟩⟩
end
end K23
namespace L2
open PySem
def pe_okI0 {X:Cx} {CX:CXT} {k:Nat} {C:Ad} {ps:Jf} {sp:Sp} {E:XK} {x:Str} {p pos:Pos} (h:OkI X.prog X.w X.K X.mg X.base CX k C ps sp) (hm:X.mg x=Z (.ref C)) (hr:Room (k+1) X.A) (hg:Gl X x) (hx:Passes CX X E) (hdb:(x == ("__debug__":Str))=false:=by decide):PE X (.Call (.Name x p) [] [] pos) (tMake C sp [] E tNil):=by
 obtain ⟨f,fd,a,b,d⟩:=h;exact pe_make0 a d hr hg hm b .nil hx hdb
def zah {K:Fg} {H:Hp} {x C dx a:Ad} {fl:List (Str×V)} {xs:Jn} (hx:H x=Z (.ins C dx fl)) (ha:SqL K H a xs):SqL K (but H [x]) a xs:=by
 have ne:∀ {o:HO},H a=Z o->o≠.ins C dx fl->a ∉ [x]:=λ{o} z n m=>by
  cases sG.mp m;rw [hx] at z;injection z with z;exact n z.symm
 rcases ha with (z | ⟨o,z⟩) | z
 .exact .inl (.inl (yn z (ne z (λq=>by cases q))))
 .exact .inl (.inr ⟨o,yn z (ne z (λq=>by cases q))⟩)
 .exact .inr z
end L2
namespace K23
open PySem L2
structure ProgC (K:Fg) (C:Ad):Prop where
 c:Cls K C
 n0:NoAttr K C "lengths"
 n1:NoAttr K C "functions"
 n2:NoAttr K C "steps"
section
variable {K:Fg} {base:Heap}
def zb6 (K:Fg) (C:Ad):Sp:=λvs H Q _=>∃ (x dx a b c:Ad) (xs ys zs:Jn),vs=[.ref x,.ref a,.ref b,.ref c]/\H x=Z (.ins C dx [])/\SqL K H a xs/\SqL K H b ys/\SqL K H c zs/\∀ H' la lb lc,(H la=Y/\H lb=Y/\H lc=Y)->(∀ b o,b≠x->H b=Z o->H' b=Z o)->H' la=Z (.lst xs)->H' lb=Z (.lst ys)->H' lc=Z (.lst zs)->H' x=Z (.ins C dx [("lengths",.ref la),("functions",.ref lb),("steps",.ref lc)])->Q .non H'
def okI_ProgF {C:Ad} (d:z7 K C "Program.__init__" xC Uy) (hlist:mg "list"=Y) (pc:ProgC K C):OkI P w K mg base (CXe P w base) 1 C Uy (zb6 K C):=by
 refine oIe d zab λf sA A _ s H vs Q E hr h=>?_;obtain ⟨x,dx,a,b,c,xs,ys,zs,rfl,hx,ha,hb,hc,k⟩:=h;refine ⟨_,(zb (zF (pv 0) (z8 yZ (by rfl) hlist tZ (za (pv 1) zc)) rfl)
   (zb (zF (pv 0) (z8 yZ (by rfl) hlist tZ (za (pv 2) zc)) rfl)
   (ze (zF (pv 0) (z8 yZ (by rfl) hlist tZ (za (pv 3) zc)) rfl)))),?_⟩
 show (let s1:L2.TS:=_;let s2:L2.TS:=L2.tSeq _ s1;L2.tSeq _ s2 _ _ _);intro s1 s2;have h:=Hd.but1 hx;have ha:=zah hx ha;have hb:=zah hx hb;have hc:=zah hx hc;have nb:∀ b' o,b'≠x->H b'=Z o->but H [x] b'=Z o:=λb' o n z=>yn z (λe=>n (sG.mp e));have fre:∀ {L:Jm} {J:Hp} {l:Ad} {o:HO} (i:Nat),Hd (but H [x]) L J->L[i]?=Z (x,o)->J l=Y->H l=Y:=λ{L J l o} i hh e n=>zfl (hh.free n) (zz (hh.get i e) n).symm;refine ⟨_,U,a,_,U,.inl (h.sql ha),λla nla=>?_⟩;have fa:=fre 0 h rfl nla;have h:=h.new (o:=.lst xs) nla;refine ⟨_,U,x,C,dx,[],U,h.get 1 rfl,pc.c,pc.n0,(by show 0<1000;decide),?_⟩;have h:=h.put (o':=.ins C dx [("lengths",.ref la)]) 1 rfl;refine ⟨_,U,b,_,U,.inl (h.sql hb),λlb nlb=>?_⟩;have fb:=fre 1 h rfl nlb;have h:=h.new (o:=.lst ys) nlb;refine ⟨_,U,x,C,dx,[("lengths",.ref la)],U,h.get 2 rfl,pc.c,pc.n1,(by show 1<1000;decide),?_⟩;have h:=h.put (o':=.ins C dx [("lengths",.ref la),("functions",.ref lb)]) 2 rfl;refine ⟨_,U,c,_,U,.inl (h.sql hc),λlc nlc=>?_⟩;have fc:=fre 2 h rfl nlc;have h:=h.new (o:=.lst zs) nlc;refine ⟨_,U,x,C,dx,[("lengths",.ref la),("functions",.ref lb)],U,h.get 3 rfl,pc.c,pc.n2,(by show 2<1000;decide),?_⟩;have h:=h.put (o':=.ins C dx [("lengths",.ref la),("functions",.ref lb),("steps",.ref lc)]) 3 rfl;exact k _ la lb lc ⟨fa,fb,fc⟩ (λb' o n z=>h.sm _ _ (nb b' o n z)) (h.get 2 rfl) (h.get 1 rfl) (h.get 0 rfl) (h.get 3 rfl)
abbrev Dg.L0 (g:Dg) (l0:Ad):Jm:=[(l0,.lst []),(g.va,.lst [.ref l0]),(g.na,.lst [])]
inductive spRead (P:tV) (w:World) (K:Fg) (mg:J0) (base:Heap) (C aL CD CP CS:Ad) (k:Nat) (vs:Jn) (H:Hp) (Q:VK) (E:XK):Prop
 | mk (z:Str) (ls:Jf) (W:Nat->Hp->Dg->Jm->Prop) (_:vs=[.str z]) (_:uo z "\n"=ls) (hz:z.length<=10000000) (hl:ls.length<=100000) (_:∀ y∈ls,y.length<=15000)
  (hs:∀ i B B' dg L,W i B dg L->Same B B'->W i B' dg L)
  (h3:∀ B dg l0,Same H B->dg.C=CD->B dg.d=Z dg.o->W 0 B dg (dg.L [] [] ⟨[],[],[],[]⟩++(dg.ta,.lst [])::dg.L0 l0))
  (h4:∀ i y B dg L,ls[i]?=Z y->W i B dg L->yB y=[]->W (i+1) B dg L)
  (h5:∀ i y B dg L x r,ls[i]?=Z y->W i B dg L->yB y=x::r->B dg.d=Z dg.o->dg.C=CD->x∈linesL/\∃ sp,LineFn P w K mg base aL k x sp/\∀ g H',g.C=C->g.ra=dg.ra->g.ha=dg.ha->g.ln=((i+1:Nat):Int)->g.ov=.non->RAt B g (x::r) 1 0 L H'->∀ Q':VK,(∀ v J B' L',Same B B'->Hd B' L' J->W (i+1) B' dg L'->Q' v J)->sp [.ref dg.d,.ref g.r] H' Q' E0)
  (h6:∀ B dg L J,Same H B->W ls.length B dg L->Hd B L J->dg.C=CD->∃ sD us st sr lv l0 nl,(dg.ta,HO.lst [])∈L/\(dg.la,HO.lst sD)∈L/\(dg.fa,HO.lst us)∈L/\(dg.va,HO.lst (.ref l0::lv))∈L/\(l0,HO.lst st)∈L/\(dg.ra,HO.dK sr)∈L/\(dg.na,HO.lst nl)∈L/\sr.length<=1000 /\
   ∀ H' so sd pr pd la lb lc na,Same J H'->H' so=Z (.ins CS sd [("program",.ref pr),("names",.ref na),("lines",.ref dg.na)])->H' pr=Z (.ins CP pd [("lengths",.ref la),("functions",.ref lb),("steps",.ref lc)])->H' la=Z (.lst sD)->H' lb=Z (.lst us)->H' lc=Z (.lst st)->H' na=Z (.lst (sr.map λq=>kV q.1))->Q (.ref so) H')
def ok_read {C aL CD CP CS:Ad} {k:Nat} (hk:2<=k) (d:zj K mg "read" zc9 ["text"]) (rC:RCls K C) (dC:DCls K CD) (hlen:mg "len"=Y) (hlist:mg "list"=Y) (hen:mg "enumerate"=Y) (hRe:mg "Reading"=Z (.ref C)) (hDr:mg "Draft"=Z (.ref CD)) (hPr:mg "Program"=Z (.ref CP)) (hSo:mg "Source"=Z (.ref CS))
  (IR:OkI P w K mg base (CXe P w base) 1 C Ux (spI_Rd C)) (ID:OkI P w K mg base (CXe P w base) 1 CD Uw (spI_Dr CD)) (IP:OkI P w K mg base (CXe P w base) 1 CP Uy (zb6 K CP)) (IS:OkI P w K mg base (CXe P w base) 1 CS UE (zar CS))
  (WO:Ok P w K mg base CX0 1 "words_of" ["line"] spWords) (RWS:Ok P w K mg base CX0 (k+1) "read_words" Uc (spRWs P w K mg base C aL k)):Ok P w K mg base CX0 (k+2) "read" ["text"] (spRead P w K mg base C aL CD CP CS k):=by
 refine oDf d sc_read λf sA A _ s H vs Q E hr h=>?_;obtain ⟨z,ls,W,rfl,ez,hz,hl,h2,hs,h3,h4,h5,h6⟩:=h;have hrk:Room (k+1) _:=hr;have hr2:Room 2 _:=hr.mono (by omega);have hr1:Room 1 _:=hr.mono (by omega);have nd:=sc_read.nd;have SL:(16000000:Nat)<sizeLine:=by decide
 refine ⟨_,(zb (oRz 1 nd (pe_okI0 ID hDr hr2 (by rfl) zU))
   (zb (oRz 2 nd (yz uz uy vM ze2 (pv 0) (za zn zc)))
   (zb (Zm tY rfl (pi_enum rfl hen (za (pv 2) zc)) (zde rfl (xc (oQz 3 nd) (xc (oQz 4 nd) zai))) (zb (oRz 5 nd (zo WO hr1 (by rfl) zv (za (pv 4) zc)))
   (ze (zB (zp ZV (zh zr (by rfl) hlen sU (za (pv 5) zc)) zd (zw _)) (ze (zC (zo RWS hrk (by rfl) zv (za (pv 1) (za (y8 IR hRe hr2 (by rfl) zU (za (pv 3) (za (pv 5) (za (zu (pv 1) rfl) (za (zu (pv 1) rfl) zc))))) zc))))) zk))))
   (zb (zB (zp ZV (zh zr (by rfl) hlen sU (za (zu (pv 1) rfl) zc)) zd (zw _)) zO zk)
   (zb (oRz 6 nd (y8 IP hPr hr2 (by rfl) zU (za (zu (pv 1) rfl) (za (zu (pv 1) rfl) (za (zx zD (zu (pv 1) rfl) zd (λ_ _=>rfl)) zc)))))
   (ze (zm (y8 IS hSo hr2 (by rfl) zU (za (pv 6) (za (z8 (zgr rfl) (by rfl) hlist tZ (za (zu (pv 1) rfl) zc)) (za (zu (pv 1) rfl) zc))))))))))),?_⟩
 show (let s1:L2.TS:=_;let s2:L2.TS:=L2.tSeq _ s1;let s3:L2.TS:=L2.tSeq _ s2;let s4:L2.TS:=L2.tSeq _ s3;let s5:L2.TS:=L2.tSeq _ s4;L2.tSeq _ s5 _ _ _);intro s1 s2 s3 s4 s5;refine λdx ddx nx ndx ne=>⟨dx,ddx,U,zg,λH1 ra la ha fa ta va na l0 h=>⟨U,?_⟩⟩;obtain ⟨dg,edg⟩:∃ dg:Dg,dg=⟨CD,dx,ddx,ra,la,ha,fa,ta,va,na⟩:=⟨_,U⟩;have s0:Same H (but (upd (upd H ddx (.own dx)) dx (.ins CD ddx [])) [dx]):=λb o e=>yn (by rw [zt (zz e nx),zt (zz e ndx)];exact e) (λm=>zz e nx (sG.mp m))
 have hd1:Hd (upd (but (upd (upd H ddx (.own dx)) dx (.ins CD ddx [])) [dx]) dg.d dg.o) (dg.L [] [] ⟨[],[],[],[]⟩++(dg.ta,.lst [])::dg.L0 l0) H1:=by
  subst edg;exact h.settle.perm (List.reverse_perm _).symm
 have s1:Same H (upd (but (upd (upd H ddx (.own dx)) dx (.ins CD ddx [])) [dx]) dg.d dg.o):=s0.trans (by subst edg;exact h.settled);have ed1:(upd (but (upd (upd H ddx (.own dx)) dx (.ins CD ddx [])) [dx]) dg.d dg.o) dg.d=Z dg.o:=zg;have eC:dg.C=CD:=by rw [edg]
 have edx:dx=dg.d:=by rw [edg]
 generalize (upd (but (upd (upd H ddx (.own dx)) dx (.ins CD ddx [])) [dx]) dg.d dg.o)=B1 at hd1 s1 ed1;rw [edx];clear h s0 edx edg;refine ⟨_,U,U,z,"
",U,U,U,by omega,λS nS=>?_⟩
 rw [ez];have hd2:=hd1.grow (o:=.lst (ls.map V.str)) nS;have sS:Same B1 (upd B1 S (.lst (ls.map V.str))):=yj (Same.refl _) (hd1.free nS);have eS:(upd B1 S (.lst (ls.map V.str))) S=Z (.lst (ls.map V.str)):=zg;generalize upd B1 S (.lst (ls.map V.str))=B2 at hd2 sS eS;generalize upd H1 S (.lst (ls.map V.str))=H2 at hd2;refine ⟨_,U,S,U,⟨_,SqL.of (hd2.sm _ _ eS)⟩,?_⟩;refine for_en (K:=K) (l:=S) (xs:=ls.map V.str) (λi σ J=>∃ (B:Hp) (L:Jm) (u1 u2 u3:Jo),σ=[Z (.str z),Z (.ref dg.d),Z (.ref S),u1,u2,u3,Y]/\Same B2 B/\Hd B L J/\W i B dg L) ⟨B2,_,Y,Y,Y,U,Same.refl _,hd2,h3 B2 dg l0 (s1.trans sS) eC (sS _ _ ed1)⟩ (λi σ J _ ⟨B,L,_,_,_,_,sB,h,_⟩=>SqL.of (h.sm _ _ (sB _ _ eS))) ?_ ?_
 .rintro i x σ J T hx ⟨B,L,u1,u2,u3,rfl,sB,hd,hW⟩ nT
  rw [sN] at hx;obtain ⟨y,ey,rfl⟩:=uV.mp hx;have my:=h2 y (sP ey);have sT:Same J (upd J T (.tup [.int ((i+1:Nat):Int),.str y])):=yj (Same.refl _) nT;have hdT:=hd.same sT;refine ⟨T,_,U,SqT.of zg,U,_,_,U,_,_,U,U,?_⟩;generalize upd J T (.tup [.int ((i+1:Nat):Int),.str y])=J1 at hdT;refine ⟨_,U,y,U,by omega,λJ2 D hD=>?_⟩;have hL:=hD.get 0 rfl;have hd3:=hdT.same hD.sm;refine ⟨_,U,D,_,U,.inl (SqL.of hL),_,_,U,U,_,U,?_⟩;rw [Ji]
  cases hw:yB y with
  | nil =>
   rw [show decide ((0:Int)<(([]:Jf).length:Nat))=false from rfl];exact zy ⟨B,L,_,_,_,U,sB,hd3,h4 i y B dg L ey hW hw⟩
  | cons x r =>
   rw [hw] at hL;rw [show decide ((0:Int)<((x::r).length:Nat))=true from decide_eq_true (by rw [x2x];omega)];obtain ⟨B3,s3,hd4,ov⟩:=hdT.over hD.sm
   have eD:B3 D=Z (.lst ((x::r).map V.str)):=ov _ _ hL (λm=>by
    obtain ⟨q,mq,eq⟩:=tW.mp m;have:=hdT.st q mq;rw [eq,hD.nw _ x0z] at this;cases this)
   have ed3:=s3 _ _ (sB _ _ (sS _ _ ed1));have edJ:=hd4.sm _ _ ed3;obtain ⟨xm,sp,LF,hsp⟩:=h5 i y B3 dg L x r ey (hs i B B3 dg L hW s3) hw ed3 eC;rw [← eC] at dC;refine zL ⟨_,U,_,U,_,U,_,U,dg.d,dg.C,dg.dd,_,_,U,edJ,dC.c,dC.n0,U,_,U,dg.d,dg.C,dg.dd,_,_,U,edJ,dC.c,dC.n2,U,?_⟩;refine λrx rdx nx ndx ne=>⟨rx,rdx,_,_,_,_,U,zg,λJ3 k3 ex=>⟨U,?_⟩⟩;have hd5:=(hd4.made0 nx ndx ne k3 ex).sub (.cons₂ _ (.cons _ (vR _)))
   have wl:(x::r).length<=50000:=by
    have a:=zce y;have b:=List.length_filter_le (λw:Str=>w != "") (uo (apart y) " ");have c:(yB y).length<=(uo (apart y) " ").length:=b;rw [hw] at c;omega
   have A1:RAt B3 ⟨C,rx,rdx,D,dg.ra,dg.ha,((i+1:Nat):Int),.non⟩ (x::r) 0 0 L J3:=⟨hd5,eD,wl⟩;refine ⟨⟨C,rx,rdx,D,dg.ra,dg.ha,((i+1:Nat):Int),.non⟩,_,B3,L,x::r,0,x,r,sp,U,U,A1,U,xm,LF,λJ4 A2=>?_⟩;exact hsp _ J4 rfl rfl rfl rfl rfl A2 _ λv J5 B5 L5 s5 hd6 hW5=>⟨B5,L5,_,_,_,U,sB.trans (s3.trans s5),hd6,hW5⟩
 .rintro σ J ⟨B,L,u1,u2,u3,rfl,sB,hd,hW⟩
  rw [Ji] at hW;obtain ⟨sD,us,st,sr,lv,l0',nl,m1,m2,m3,m4,m5,m6,m7,kl,q⟩:=h6 B dg L J ((s1.trans sS).trans sB) hW hd eC;have edJ:=hd.sm _ _ (sB _ _ (sS _ _ ed1));rw [← eC] at dC;refine ⟨_,U,dg.d,dg.C,dg.dd,_,_,U,edJ,dC.c,dC.n4,U,dg.ta,_,U,.inl (SqL.of (hd.st _ m1)),_,_,U,U,_,U,?_⟩;refine zy ⟨_,U,dg.d,dg.C,dg.dd,_,_,U,edJ,dC.c,dC.n1,U,_,U,dg.d,dg.C,dg.dd,_,_,U,edJ,dC.c,dC.n3,U,_,U,dg.d,dg.C,dg.dd,_,_,U,edJ,dC.c,dC.n5,U,dg.va,_,_,_,U,U,SqL.of (hd.st _ m4),zM (xs:=V.ref l0'::lv) (j:=0) (v:=.ref l0') rfl,?_⟩;refine λpx pdx npx npdx npe=>?_;have up1:∀ b o,J b=Z o->(upd (upd J pdx (.own px)) px (.ins CP pdx [])) b=Z o:=λb o e=>by rw [zt (zz e npx),zt (zz e npdx)];exact e
  refine ⟨px,pdx,dg.la,dg.fa,l0',sD,us,st,U,zg,?_,?_,?_,λH5 la' lb' lc' fr k5 e1 e2 e3 e4=>⟨U,?_⟩⟩
  .exact SqL.of (up1 _ _ (hd.st _ m2))
  .exact SqL.of (up1 _ _ (hd.st _ m3))
  .exact SqL.of (up1 _ _ (hd.st _ m5))
  have s5:Same J H5:=λb o e=>k5 b o (zz e npx) (up1 _ _ e);refine ⟨_,U,_,U,dg.d,dg.C,dg.dd,_,_,U,s5 _ _ edJ,dC.c,dC.n0,U,dg.ra,sr,U,s5 _ _ (hd.st _ m6),by omega,λnD nnD=>?_⟩;obtain ⟨s6,e6⟩:=yU (H:=H5) (t:=nD) (o:=.lst (sr.map λq=>kV q.1)) rfl nnD;generalize upd H5 nD (.lst (sr.map λq=>kV q.1))=H6 at s6 e6;refine ⟨_,U,dg.d,dg.C,dg.dd,_,_,U,s6 _ _ (s5 _ _ edJ),dC.c,dC.n6,U,?_⟩;refine λsx sdx nsx nsdx nse=>⟨sx,sdx,_,_,_,U,zg,λH7 k7 e7=>⟨U,?_⟩⟩;have s7:Same H6 H7:=λb o e=>k7 b o (zz e nsx) (by rw [zt (zz e nsx),zt (zz e nsdx)];exact e);exact q H7 sx sdx px pdx la' lb' lc' nD (s5.trans (s6.trans s7)) e7 (s7 _ _ (s6 _ _ e4)) (s7 _ _ (s6 _ _ e1)) (s7 _ _ (s6 _ _ e2)) (s7 _ _ (s6 _ _ e3)) (s7 _ _ e6)
end
end K23
namespace K23
open PySem L2 FM ST
section
variable {K:Fg} {base:Heap}
def S_eq (g:Dg) (tl:Jg) (la:Ad) (xs:Jg) (lv:LvL) (lns:Jb):g.S tl ((la,xs)::lv) lns=(g.ta,.lst (tl.map V.ref))::(g.va,.lst (lv.reverse.map (λp=>V.ref p.1)++[.ref la]))::(g.na,.lst (lns.map V.int))::(la,.lst (xs.map V.ref))::lv.map λp=>(p.1,.lst (p.2.map V.ref)):=by
 unfold Dg.S;simp only [tz,ud,Jk,List.map_nil]
inductive spTi (K:Fg) (C:Ad) (c:F2.Cs) (vs:Jn) (H:Hp) (Q:VK) (_:XK):Prop
 | mk (g:Rg) (dg:Dg) (B:Hp) (ws:Jf) (p:Nat) (D:Dr) (ts us tl:Jg) (lv:LvL) (lns:Jb) (i:Nat) (m:Int) (r1:Jf) (_:vs=[.ref dg.d,.ref g.r]) (_:g.C=C) (_:g.ra=dg.ra) (_:g.ha=dg.ha) (h3':g.ov=.non) (_:DCls K dg.C) (_:RAt B g ws p 0 (dg.L ts us D++dg.S tl lv lns) H) (_:DrAt B c dg D ts us) (_:Yg ws) (_:Xa ⟨D.rows,D.heads,Y⟩ (ws.drop p)=.ok (i,("most":Str)::r1)) (_:YT 1 1000 r1=.ok (m,[])) (_:lns.length<40) (_:tl.length<3) (_:lv.length<=4) (_:∀ B' H' t la,Same B B'->Hd B' (dg.L ts us D++dg.S (tl++[t]) ((la,[])::lv) (lns++[g.ln])) H'->B' t=Z (.tup [.int i,.int m])->Q .non H')
def zdi {C:Ad} {c:F2.Cs} {t1 t2:Tok} (d:zj K mg "read_till_line" yV Uc) (rC:RCls K C) (hlen:mg "len"=Y) (hMT:mg "MOST_TURNS"=Z (.int 1000 t1)) (hMI:mg "MOST_TILLS"=Z (.int 3 t2)) (RR:Ok P w K mg base CX0 4 "read_row" Ua (spRo C)) (RW:Ok P w K mg base CX0 3 "read_word" Ul (spRW C)) (NU:Ok P w K mg base CX0 4 "read_number" UA (spNu C)) (LE:Ok P w K mg base CX0 2 "read_line_end" Ua (spLE C)) (FU:Ok P w K mg base CX0 1 "refuse_further_step" UV (spFur (K:=K))):Ok P w K mg base CX0 5 "read_till_line" Uc (spTi K C c):=by
 refine oDf d sc_read_till_line λf sA A _ s H vs Q E hr h=>?_;obtain ⟨g,dg,B,ws,p,D,ts,us,tl,lv,lns,i,m,r1,rfl,rfl,hra,hha,hov,DC,A1,DA,wo,er,en,l40,l3,l4,k⟩:=h;have hr4:Room 4 _:=hr;have hr3:Room 3 _:=hr.mono (by decide);have hr2:Room 2 _:=hr.mono (by decide);have hr1:Room 1 _:=hr.mono (by decide);have nd:=sc_read_till_line.nd;have SL:(100000:Nat)<sizeLine:=by decide
 refine ⟨_,(zb (oRz 2 nd (zo RR hr4 (by rfl) zv (za (pv 1) zc)))
   (zb (zC (zo RW hr3 (by rfl) zv (za (pv 1) (za zn zc))))
   (zb (oRz 3 nd (zo NU hr4 (by rfl) zv (za (pv 1) (za zd (za (yt hMT) zc)))))
   (zb (zC (zo LE hr2 (by rfl) zv (za (pv 1) zc)))
   (zb (zC (zo FU hr1 (by rfl) zv (za (pv 0) (za (zu (pv 1) rfl) zc))))
   (zb (zB (zp zP (zh zr (by rfl) hlen sU (za (zu (pv 0) rfl) zc)) (yt hMI) (zw _)) zO zk)
   (zb (zC (yz sQ t8 t7 zQ (zu (pv 0) rfl) (za (yb (za (pv 2) (za (pv 3) zc))) zc)))
   (zb (zC (yz sQ t8 t7 zQ (zu (pv 0) rfl) (za (zJ zc) zc)))
   (ze (zC (yz sQ t8 t7 zQ (zu (pv 0) rfl) (za (zu (pv 1) rfl) zc)))))))))))),?_⟩
 show (let s1:L2.TS:=_;let s2:L2.TS:=L2.tSeq _ s1;let s3:L2.TS:=L2.tSeq _ s2;let s4:L2.TS:=L2.tSeq _ s3;let s5:L2.TS:=L2.tSeq _ s4;let s6:L2.TS:=L2.tSeq _ s5;let s7:L2.TS:=L2.tSeq _ s6;let s8:L2.TS:=L2.tSeq _ s7;L2.tSeq _ s8 _ _ _);intro s1 s2 s3 s4 s5 s6 s7 s8;obtain ⟨B3,A5,RA,er3,fin⟩:=laid A1 DA hra hha hov;refine ⟨_,U,g,B3,_,ws,p,0,⟨D.rows,D.heads,Y⟩,i,_,U,U,A5,er3,er,wo,λB4 H4 s4 A6 e6=>?_⟩;refine ⟨_,U,g,B4,_,ws,p+1,0,_,r1,U,U,A6,e6,λH5 A7 e7=>?_⟩;refine ⟨_,U,g,B4,_,ws,p+1+1,0,1,1000,m,[],U,U,A7,by rw [e7];exact en,wo,λB5 H6 s5 A8 e8=>?_⟩;refine ⟨_,U,g,B5,_,ws,p+1+1+1,0,U,U,A8,e8,?_⟩;obtain ⟨B9,s9,A9,_,_⟩:=fin _ _ _ (s4.trans s5) A8;have h9:=A9.h;have dd:=(DA.same s9).d;have hg:=h9.sm _ _ dd;refine ⟨_,U,_,U,g.r,g.C,g.dx,_,_,U,h9.get 0 rfl,rC.c,rC.n0,U,dg,_,_,U,hg,h9.get 7 rfl,DC,by rw [Ji];exact l40,?_⟩;refine ⟨_,U,dg.d,dg.C,dg.dd,_,_,U,hg,DC.c,DC.n4,U,dg.ta,_,U,.inl (SqL.of (h9.get 5 rfl)),U,_,U,?_⟩;rw [Ji,decide_eq_false (λz=>by have:=V.int.inj z;omega)];refine zy ⟨_,U,dg.d,dg.C,dg.dd,_,_,U,hg,DC.c,DC.n4,U,tyL (h9.get 5 rfl),_,U,_,U,szU 2,λt nt=>?_⟩;obtain ⟨B10,s10,et,h10⟩:=hdG h9 rfl nt;generalize upd H6 t _=H10 at h10 ⊢;refine ⟨dg.ta,_,_,U,U,h10.get 5 rfl,by rw [Ji];omega,?_⟩;have h11:=h10.put (o':=.lst (tl.map V.ref++[.ref t])) 5 rfl;generalize upd H10 dg.ta _=H11 at h11 ⊢;have hg:=h11.sm _ _ (s10 _ _ dd);refine ⟨_,U,dg.d,dg.C,dg.dd,_,_,U,hg,DC.c,DC.n5,U,tyL (h11.get 6 rfl),szU 0,λla nla=>?_⟩;have h12:=h11.new (o:=.lst []) nla;generalize upd H11 la _=H12 at h12 ⊢;refine ⟨dg.va,_,_,U,U,h12.get 7 rfl,by rw [Ji,List.length_reverse];omega,?_⟩;have h13:=h12.put (o':=.lst (lv.reverse.map (λp=>V.ref p.1)++[.ref la])) 7 rfl;generalize upd H12 dg.va _=H13 at h13 ⊢;have hg:=h13.sm _ _ (s10 _ _ dd);refine ⟨_,U,dg.d,dg.C,dg.dd,_,_,U,hg,DC.c,DC.n6,U,tyL (h13.get 8 rfl),_,U,g.r,g.C,g.dx,_,_,U,h13.get 1 rfl,rC.c,rC.n0,U,dg.na,_,_,U,U,h13.get 8 rfl,by rw [Ji];omega,?_⟩;have h14:=h13.put (o':=.lst (lns.map V.int++[.int g.ln])) 8 rfl;refine k B10 _ t la (s9.trans s10) ?_ et;rw [S_eq,Jk,Jk];have h15:Hd B10 ((la,HO.lst [])::(dg.L ts us D++(dg.ta,.lst (tl.map V.ref++[.ref t]))::(dg.va,.lst (lv.reverse.map (λp=>V.ref p.1)++[.ref la]))::(dg.na,.lst (lns.map V.int++[.int g.ln]))::lv.map λp=>(p.1,.lst (p.2.map V.ref)))) _:=h14.sub (.cons₂ _ (.cons _ (vR _)));refine h15.perm ?_;exact (vZ (l₁:=[_,_,_,_,_,_,_])).symm
inductive spEn (K:Fg) (C:Ad) (q:Scs) (vs:Jn) (H:Hp) (Q:VK) (_:XK):Prop
 | mk (g:Rg) (dg:Dg) (B:Hp) (ws:Jf) (p:Nat) (L0:Jm) (D:Dr) (ts us tl:Jg) (t:Ad) (lv:LvL) (la lb:Ad) (xs ys:Jg) (lns:Jb) (i m:Int) (_:vs=[.ref dg.d,.ref g.r]) (_:g.C=C) (_:DCls K dg.C) (_:RAt B g ws p 0 (dg.L ts us D++dg.S (tl++[t]) ((la,xs)::(lb,ys)::lv) lns) H) (_:B dg.d=Z dg.o) (_:ws.drop p=[]) (_:B t=Z (.tup [.int i,.int m])) (_:ys.length<=100) (_:∀ B' H' x dx sa,Same B B'->Hd B' (dg.L ts us D++dg.S tl ((lb,ys++[x])::lv) lns) H'->B' x=Z (.ins q.till dx [("target",.int i),("most",.int m),("steps",.ref sa)])->B' sa=Z (.lst (xs.map V.ref))->Q .non H')
def Ze {α:Type} (l:List α) (a:α):(l++[a]).dropLast=l:=List.dropLast_concat
def YM {α:Type} (l:List α) (a:α):(l++[a])[(l++[a]).length-1]?=Z a:=by
 rw [Jj];show (l++[a])[l.length+1-1]?=_;rw [Nat.add_sub_cancel,tJ (sK _),uX];rfl
def zee (K:Fg) (C:Ad):Sp:=λvs H Q _=>∃ (x dx a:Ad) (u0 u1:V) (xs:Jn),vs=[.ref x,u0,u1,.ref a]/\H x=Z (.ins C dx [])/\SqL K H a xs/\∀ H' l,H l=Y->(∀ b o,b≠x->H b=Z o->H' b=Z o)->H' l=Z (.lst xs)->H' x=Z (.ins C dx [("target",u0),("most",u1),("steps",.ref l)])->Q .non H'
def okI_Till {C:Ad} (d:z7 K C "Till.__init__" ZR UH) (hlist:mg "list"=Y) (cl:Cls K C) (n0:NoAttr K C "target") (n1:NoAttr K C "most") (n2:NoAttr K C "steps"):OkI P w K mg base (CXe P w base) 1 C UH (zee K C):=by
 refine oIe d zc3 λf sA A _ s H vs Q E hr h=>?_;obtain ⟨x,dx,a,u0,u1,xs,rfl,hx,ha,k⟩:=h;refine ⟨_,(zb (zF (pv 0) (pv 1) rfl)
   (zb (zF (pv 0) (pv 2) rfl)
   (ze (zF (pv 0) (z8 yZ (by rfl) hlist tZ (za (pv 3) zc)) rfl)))),?_⟩
 show (let s1:L2.TS:=_;let s2:L2.TS:=L2.tSeq _ s1;L2.tSeq _ s2 _ _ _);intro s1 s2;have h:=Hd.but1 hx;have ha:=zah hx ha;have nb:∀ b' o,b'≠x->H b'=Z o->but H [x] b'=Z o:=λb' o n z=>yn z (λe=>n (sG.mp e));refine ⟨_,U,_,U,x,C,dx,[],U,h.get 0 rfl,cl,n0,(by show 0<1000;decide),?_⟩;have h:=h.put (o':=.ins C dx [("target",u0)]) 0 rfl;refine ⟨_,U,_,U,x,C,dx,[("target",u0)],U,h.get 0 rfl,cl,n1,(by show 1<1000;decide),?_⟩;have h:=h.put (o':=.ins C dx [("target",u0),("most",u1)]) 0 rfl;refine ⟨_,U,a,_,U,.inl (h.sql ha),λl nl=>?_⟩;have nlx:l≠x:=(zz (h.get 0 rfl) nl).symm;have fr:H l=Y:=zfl (h.free nl) nlx;have h:=h.new (o:=.lst xs) nl;refine ⟨_,U,x,C,dx,[("target",u0),("most",u1)],U,h.get 1 rfl,cl,n2,(by show 2<1000;decide),?_⟩;have h:=h.put (o':=.ins C dx [("target",u0),("most",u1),("steps",.ref l)]) 1 rfl;exact k _ l fr (λb' o n z=>h.sm _ _ (nb b' o n z)) (h.get 0 rfl) (h.get 1 rfl)
def zew {C:Ad} {q:Scs} (d:zj K mg "read_end_line" xn Uc) (rC:RCls K C) (hlen:mg "len"=Y) (hTi:mg "Till"=Z (.ref q.till)) (IT:OkI P w K mg base (CXe P w base) 1 q.till UH (zee K q.till)) (LE:Ok P w K mg base CX0 2 "read_line_end" Ua (spLE C)):Ok P w K mg base CX0 3 "read_end_line" Uc (spEn K C q):=by
 refine oDf d sc_read_end_line λf sA A _ s H vs Q E hr h=>?_;obtain ⟨g,dg,B,ws,p,L0,D,ts,us,tl,t,lv,la,lb,xs,ys,lns,i,m,rfl,rfl,DC,A1,dd,ew,et,l100,k⟩:=h;have hr2:Room 2 _:=hr;have nd:=sc_read_end_line.nd;have SL:(100000:Nat)<sizeLine:=by decide
 refine ⟨_,(zb (zB (zp zP (zh zr (by rfl) hlen sU (za (zu (pv 0) rfl) zc)) zd (zw _)) zO zk)
   (zb (zC (zo LE hr2 (by rfl) zv (za (pv 1) zc)))
   (zb (oRz 2 nd (Y9 sQ vp vm zbb (zu (pv 0) rfl)))
   (zb (oRz 3 nd (Y9 sQ vp vm zbb (zu (pv 0) rfl)))
   (ze (zC (yz sQ t8 t7 zQ (zx zD (zu (pv 0) rfl) (Ym ZA zd) (λ_ _=>rfl)) (za (y8 IT hTi hr2 (by rfl) zU (za (zx zE (pv 2) zd (λ_ _=>rfl)) (za (zx zE (pv 2) zd (λ_ _=>rfl)) (za (pv 3) zc)))) zc)))))))),?_⟩
 show (let s1:L2.TS:=_;let s2:L2.TS:=L2.tSeq _ s1;let s3:L2.TS:=L2.tSeq _ s2;let s4:L2.TS:=L2.tSeq _ s3;L2.tSeq _ s4 _ _ _);intro s1 s2 s3 s4;have h1:=A1.h;have eT:(tl++[t]).map V.ref=tl.map V.ref++[.ref t]:=by rw [Jk];rfl
 rw [S_eq,eT] at h1;have hg:=h1.sm _ _ dd;refine ⟨_,U,dg.d,dg.C,dg.dd,_,_,U,hg,DC.c,DC.n4,U,dg.ta,_,U,.inl (SqL.of (h1.get 5 rfl)),U,_,U,?_⟩;rw [decide_eq_false (λz=>by have:=V.int.inj z;rw [Jj] at this;have e:[V.ref t].length=1:=rfl;omega)];refine zy ⟨_,U,g,B,_,ws,p,0,U,U,A1,ew,?_⟩;refine ⟨_,U,dg.d,dg.C,dg.dd,_,_,U,hg,DC.c,DC.n4,U,tyL (h1.get 5 rfl),dg.ta,_,_,U,U,h1.get 5 rfl,YM _ _,?_⟩;rw [Ze];have h2:=h1.put (o':=.lst (tl.map V.ref)) 5 rfl;generalize upd H dg.ta _=H2 at h2 ⊢;have hg:=h2.sm _ _ dd;refine ⟨_,U,dg.d,dg.C,dg.dd,_,_,U,hg,DC.c,DC.n5,U,tyL (h2.get 6 rfl),dg.va,_,_,U,U,h2.get 6 rfl,YM _ _,?_⟩;rw [Ze];have h3:=h2.put (o':=.lst (((lb,ys)::lv).reverse.map (λp=>V.ref p.1))) 6 rfl;generalize upd H2 dg.va _=H3 at h3 ⊢;have hg:=h3.sm _ _ dd;have eat:atI ((((lb,ys)::lv).reverse).map λp=>V.ref p.1) (-1)=Z (V.ref lb):=by rw [ud,Jk];exact Yy _ _
 have et3:=h3.sm _ _ et;refine ⟨_,U,dg.d,dg.C,dg.dd,_,_,U,hg,DC.c,DC.n5,U,_,U,dg.va,_,_,_,U,U,SqL.of (h3.get 6 rfl),eat,tyL (h3.get 9 rfl),_,U,t,_,_,_,U,U,SqT.of et3,zM (xs:=[V.int i,.int m]) (j:=0) rfl,_,U,t,_,_,_,U,U,SqT.of et3,zM (xs:=[V.int i,.int m]) (j:=1) rfl,_,U,λx dx nx ndx ne=>?_⟩;have up1:∀ b o,H3 b=Z o->(upd (upd H3 dx (.own x)) x (.ins q.till dx [])) b=Z o:=λb o e=>by rw [zt (zz e nx),zt (zz e ndx)];exact e
 refine ⟨x,dx,la,_,_,_,U,zg,SqL.of (up1 _ _ (h3.get 8 rfl)),λH4 sa nsa k4 esa ex=>⟨U,?_⟩⟩;have s4:Same H3 H4:=λb o e=>k4 b o (zz e nx) (up1 _ _ e)
 have nsa3:H3 sa=Y:=by
  cases hs:H3 sa with
  | none=>rfl
  | some o=>rw [up1 _ _ hs] at nsa;cases nsa
 obtain ⟨B4,s4B,h4,ov⟩:=h3.over s4
 have fr:∀ a o,H3 a=Y->H4 a=Z o->B4 a=Z o:=λa o n e=>ov _ _ e λmm=>by
  obtain ⟨p',mp,ep⟩:=tW.mp mm;have:=h3.st p' mp;rw [ep,n] at this;cases this
 refine ⟨lb,_,_,U,U,h4.get 9 rfl,by rw [Ji];show ys.length<_;omega,?_⟩;have h5:=h4.put (o':=.lst (ys.map V.ref++[.ref x])) 9 rfl;refine k B4 _ x dx sa s4B ?_ (fr _ _ nx ex) (fr _ _ nsa3 esa);rw [S_eq,Jk];rw [ud,Jk] at h5;exact h5.sub (.cons _ (.cons₂ _ (.cons₂ _ (.cons₂ _ (.cons₂ _ (.cons₂ _ (.cons₂ _ (.cons₂ _ (.cons _ (vR _))))))))))
end
end K23
namespace K23
open PySem L2 PySem.NumText
def Yd (m:Nat):AllDigits ((uf 10 m).map uU):=λc hc=>by
 obtain ⟨ch,hch,e⟩:=tW.mp hc;have r:=PyProof.Rows.digit_range (Nat.isDigit_of_mem_toDigits (by decide) (by decide) hch);rw [← e];exact r
def XU (m:Nat):((uf 10 m).map uU)≠[]:=λe=>by
 have h:=toDigits_len_ge 10 m;rw [List.map_eq_nil_iff.mp e] at h;exact absurd h (by decide)
def zff:∀ m:Nat,0<m->((uf 10 m).map uU)[0]?≠Z 48:=by
 intro m
 induction m using Nat.strongRecOn with
 | _ m ih =>
  intro hm;by_cases h:m<10
  .rw [vH h]
   have:∀ d:Nat,d<10->0<d->([Nat.digitChar d].map uU)[0]?≠Z 48:=by decide
   exact this m h hm
  .have hm':m % 10<10:=Nat.mod_lt m (by decide)
   have t:uf 10 (m / 10)++uf 10 (m % 10)=uf 10 (10*(m / 10)+m % 10):=Nat.toDigits_append_toDigits (by decide) (by omega) hm';rw [Nat.div_add_mod] at t;rw [← t,Jk];have ne:=XU (m / 10);have:=ih (m / 10) (by omega) (by omega);rw [x2z (List.length_pos_iff.mpr ne)];exact this
theorem zal:∀ (k m:Nat),m<10 ^ (k+1)->((uf 10 m).map uU).length<=k+1
 | 0,m,h=>by rw [vH (by simpa using h)];exact sK _
 | k+1,m,h=>by
  by_cases h1:m<10
  .rw [vH h1];show 1<=k+2;omega
  .have hm':m % 10<10:=Nat.mod_lt m (by decide)
   have t:uf 10 (m / 10)++uf 10 (m % 10)=uf 10 (10*(m / 10)+m % 10):=Nat.toDigits_append_toDigits (by decide) (by omega) hm';rw [Nat.div_add_mod] at t;rw [← t,Jk,Jj];have a:=zal k (m / 10) (by rw [Nat.pow_succ] at h;omega);have b:((uf 10 (m % 10)).map uU).length=1:=by rw [vH hm'];rfl
   omega
def Yr {z:Str} (h:AllDigits z.cps.toList):Ys z figS=true:=uM.mpr λc m=>by
 have:=h c m;rw [XB,zcm];refine decide_eq_true ?_;simp only [sM,tM,or_false];omega
def Yo {n:Int} (h1:-9223372036854775808<=n) (h2:n<=9223372036854775807):YX (numS n)=Z n:=by
 have hk:FM.kept n=n:=by
  unfold FM.kept;omega
 unfold YX;by_cases h0:0<=n
 .obtain ⟨m,rfl⟩:=wN h0
  have el:(numS (m:Int)).cps.toList=(uf 10 m).map uU:=ze0 m;have hl:=zal 18 m (by have:(10:Nat) ^ 19=10000000000000000000:=(by decide);omega)
  have zl:(numS (m:Int)).length=((uf 10 m).map uU).length:=by rw [← el];simp [w8]
  have it:=intText_digits (x:=numS (m:Int)) (by rw [el];exact Yd m) (by rw [el];exact XU m) (by rw [zl];omega);rw [el,PySem.W.KIN.val_back] at it
  have fo:yL (numS (m:Int))=numS (m:Int):=by
   unfold yL;rw [if_neg];rw [show ("-":Str)=⟨#[45]⟩ by decide +kernel,ZB,decide_eq_true_eq,el];intro e;have:=Yd m 45 (sP e);omega
  have wr:isWr (numS (m:Int))=true:=by
   unfold isWr;rw [fo,Yr (by rw [el];exact Yd m),decide_eq_true (show 1<=(numS (m:Int)).length by rw [zl];exact List.length_pos_iff.mpr (XU m)),decide_eq_true (show (numS (m:Int)).length<=19 by rw [zl];exact hl)];by_cases hm:m=0
   .subst hm
    rw [show numS ((0:Nat):Int)="0" by decide +kernel,decide_eq_true rfl];rfl
   .rw [show ("0":Str)=⟨#[48]⟩ by decide +kernel,ZB,el,decide_eq_false (p:=_[0]?=Z 48) (zff m (by omega)),Bool.not_false,Bool.or_true]
    rfl
  rw [if_pos wr,it];show (if FM.kept (m:Int)=m then Z (m:Int) else Y)=_;rw [if_pos hk]
 .obtain ⟨m,rfl⟩:∃ m:Nat,n=-((m+1:Nat):Int):=⟨(-n-1).toNat,by omega⟩
  have el:(numS (-((m+1:Nat):Int))).cps.toList=45::(uf 10 (m+1)).map uU:=zez m;have hl:=zal 18 (m+1) (by have:(10:Nat) ^ 19=10000000000000000000:=(by decide);omega)
  have zl:(numS (-((m+1:Nat):Int))).length=((uf 10 (m+1)).map uU).length+1:=by
   have:(numS (-((m+1:Nat):Int))).length=(numS (-((m+1:Nat):Int))).cps.toList.length:=by simp [w8]
   rw [this,el,x2x]
  have it:=intText_neg (x:=numS (-((m+1:Nat):Int))) el (Yd (m+1)) (XU (m+1)) (by rw [zl];omega);rw [PySem.W.KIN.val_back] at it
  have st:vz (numS (-((m+1:Nat):Int))) "-"=true:=by
   rw [show ("-":Str)=⟨#[45]⟩ by decide +kernel,ZB,el];rfl
  have fo:(yL (numS (-((m+1:Nat):Int)))).cps.toList=(uf 10 (m+1)).map uU:=by
   unfold yL;rw [if_pos st,zb8 (by rw [el];simp),el];rfl
  have fl:(yL (numS (-((m+1:Nat):Int)))).length=((uf 10 (m+1)).map uU).length:=by rw [← fo];simp [w8]
  have wr:isWr (numS (-((m+1:Nat):Int)))=true:=by
   unfold isWr;rw [Yr (by rw [fo];exact Yd (m+1)),decide_eq_true (show 1<=(yL (numS (-((m+1:Nat):Int)))).length by rw [fl];exact List.length_pos_iff.mpr (XU (m+1))),decide_eq_true (show (yL (numS (-((m+1:Nat):Int)))).length<=19 by rw [fl];exact hl)];rw [show vz (yL (numS (-((m+1:Nat):Int)))) "0"=false by rw [show ("0":Str)=⟨#[48]⟩ by decide +kernel,ZB,fo];exact decide_eq_false (zff (m+1) (by omega))];rw [Bool.not_false,Bool.or_true];rfl
  rw [if_pos wr,it];show (if FM.kept (-((m+1:Nat):Int))=_ then Z (-((m+1:Nat):Int)) else Y)=_;rw [if_pos hk]
end K23
namespace K23
open PySem L2
variable {K:Fg} {base:Heap}
def SgnN (l:List Nat):Prop:=∀ a∈l,a≠32/\a≠40/\a≠41/\a≠10
def WG (w:Str):Prop:=w="("∨w=")"∨(lt' w≠[]/\SgnN (lt' w))
def brk (w:Str):Bool:=decide (w="("∨w=")")
def zd1 {x y:Str} (h:lt' x=lt' y):x=y:=by
 obtain ⟨⟨a⟩⟩:=x;obtain ⟨⟨b⟩⟩:=y;have h:a=b:=h;rw [h]
def map_inj:∀ {xs ys:Jf},xs.map lt'=ys.map lt'->xs=ys:=by
 intro xs
 induction xs with
 | nil=>intro ys h;cases ys with
  | nil=>rfl
  | cons=>cases h
 | cons x xs ih=>intro ys h;cases ys with
  | nil=>cases h
  | cons y ys=>injection h with h1 h2;rw [zd1 h1,ih h2]
def xH (x y:Str):lt' (x++y)=lt' x++lt' y:=by
 show (x.cps++y.cps).toList=_;rw [Array.toList_append]
def Zd (x y:Str):(x++y).length=x.length+y.length:=by rw [yT,yT x,yT y,xH,Jj]
def ZW (n c:Nat):(⟨(tD n c).toArray⟩:Str).length=n:=by rw [yT];show (tD n c).length=n;simp
def brk_in {w:Str} (h:WG w):(!(uw ("()":Str) w 0 ("()":Str).length 1).isEmpty)=brk w:=by
 rcases h with rfl | rfl | ⟨h1,h2⟩
 .decide +kernel
 .decide +kernel
 .have hb:brk w=false:=decide_eq_false λz=>by
   rcases z with rfl | rfl
   .exact (h2 40 (by decide)).2.1 rfl
   .exact (h2 41 (by decide)).2.2.1 rfl
  rw [hb,vc];intro q;obtain ⟨i,hi,hs⟩:=(StrLaws.found_iff _ _).mp q
  obtain ⟨a,ha⟩:∃ a,a∈lt' w:=by
   cases hw:lt' w with
   | nil=>exact absurd hw h1
   | cons a l=>exact ⟨a,x0z⟩
  have hs:(("()":Str).cps.extract i (i+w.length) == w.cps)=true:=hs;have hs:=eq_of_beq hs;have hm:a∈("()":Str).cps.extract i (i+w.length):=by rw [hs];exact Array.mem_toList_iff.mp ha
  have hm:a∈("()":Str).cps:=by
   obtain ⟨j,hj,e⟩:=Array.mem_iff_getElem.mp hm;rw [Array.getElem_extract] at e;rw [← e];exact Array.getElem_mem _
  have:a=40∨a=41:=by
   have e:("()":Str).cps=#[40,41]:=by decide +kernel
   rw [e] at hm;simpa using hm
  rcases this with rfl | rfl
  .exact (h2 40 ha).2.1 rfl
  .exact (h2 41 ha).2.2.1 rfl
def WG.free {w:Str} (h:WG w):10 ∉ lt' w:=by
 rcases h with rfl | rfl | ⟨_,h⟩
 .decide
 .decide
 .exact λm=>(h 10 m).2.2.2 rfl
def Wd.snoc {z w:Str} {due:List (List Nat)} {b:Bool} (h:Wd (lt' z) due b) (hw:WG w) (hb:b=true->brk w=true):∃ b',Wd (lt' (z++w)) (due++[lt' w]) b'/\(b'=true->brk w=false):=by
 rw [xH];rcases hw with rfl | rfl | ⟨h1,h2⟩
 .exact ⟨false,h.bracket (c:=40) (.inl rfl),λz=>by cases z⟩
 .exact ⟨false,h.bracket (c:=41) (.inr rfl),λz=>by cases z⟩
 .have nb:brk w=false:=decide_eq_false λz=>by
   rcases z with rfl | rfl
   .exact (h2 40 (by decide)).2.1 rfl
   .exact (h2 41 (by decide)).2.2.1 rfl
  cases b with
  | true=>rw [nb] at hb;exact absurd (hb rfl) (by decide)
  | false=>exact ⟨true,h.word (λa ha=>⟨(h2 a ha).1,(h2 a ha).2.1,(h2 a ha).2.2.1⟩) h1,λ_=>nb⟩
def Wd.sp {z:Str} {due:List (List Nat)} {b:Bool} (h:Wd (lt' z) due b) (g:Nat):∃ b',Wd (lt' (z++(⟨(tD g 32).toArray⟩:Str))) due b'/\(b'=true->g=0/\b=true):=by
 rw [xH]
 cases g with
 | zero=>exact ⟨b,by show Wd (lt' z++[]) due b;rw [x2y];exact h,λz=>⟨U,z⟩⟩
 | succ g=>exact ⟨false,h.spaces g,λz=>by cases z⟩
def Xn (g:Nat):10 ∉ lt' (⟨(tD g 32).toArray⟩:Str):=λm=>by
 have m:10∈tD g 32:=m;rw [List.mem_replicate] at m;exact absurd m.2 (by decide)
def spMx:Sp:=λvs H Q _=>∃ a k:Int,vs=[.int a,.int k]/\∀ n,0<=n->n<2147483629->Q (.int n) H
def ok_mixed (d:zj K mg "_law_mixed" YB Uu):Ok P w K mg base (CXe P w base) 1 "_law_mixed" Uu spMx:=by
 refine oDe d sc_l_mixed λg sA A _ s H vs Q E hr h=>?_;obtain ⟨a,k,rfl,q⟩:=h;have nd:=sc_l_mixed.nd;refine ⟨_,(zb (oRz 2 nd (zq zI (zq Xd (zq yh (zq yh (zq zI (pv 0) zd) (zq Xd zd (pv 1))) zd) zd) zd))
   (ze (zm (zq zI (zq Xd (pv 2) (pv 2)) zd)))),?_⟩
 refine ⟨_,U,_,_,U,U,(by show (0:Int)<2147483647;decide),_,U,_,_,U,U,.inl ⟨by decide,by decide⟩,_,_,U,U,_,_,U,U,_,_,U,U,.inr ⟨by decide,by decide⟩,_,_,U,U,(by show (0:Int)<2147483647;decide),?_⟩;have z0:=sZ ((a % 2147483647+5*k+1)*48271) (show (2147483647:Int)≠0 by decide);have z1:=sX ((a % 2147483647+5*k+1)*48271) (show (0:Int)<2147483647 by decide);show zbj 2 (.int ((a % 2147483647+5*k+1)*48271 % 2147483647)) _ _ _;generalize (a % 2147483647+5*k+1)*48271 % 2147483647=z at z0 z1;exact ⟨_,U,_,U,_,_,U,U,.inl ⟨by omega,by omega⟩,_,_,U,U,(by show (0:Int)<2147483629;decide),q _ (sZ _ (by decide)) (sX _ (by decide))⟩
inductive spSpc (vs:Jn) (H:Hp) (Q:VK) (_:XK):Prop
 | mk (a:Ad) (ws:Jf) (c:Int) (_:vs=[.ref a,.int c]) (_:H a=Z (.lst (ws.map V.str))) (_:∀ w∈ws,WG w/\w.length<=20) (_:ws.length<=500) (_:∀ z:Str,yB z=ws->10 ∉ lt' z->z.length<=15000->Q (.str z) H)
def ok_spaced (d:zj K mg "_law_spaced" Z6 US) (MX:Ok P w K mg base (CXe P w base) 1 "_law_mixed" Uu spMx):Ok P w K mg base CX0 2 "_law_spaced" US spSpc:=by
 refine oDf d sc_l_spaced λf sA A _ s H vs Q E hr h=>?_;obtain ⟨a,ws,c,rfl,ha,wg,l5,q⟩:=h;have hr1:Room 1 _:=hr;have nd:=sc_l_spaced.nd;have SL:(100000:Nat)<sizeLine:=by decide
 refine ⟨_,(zb (oRz 2 nd (zo MX hr1 (by rfl) zU (za (pv 1) (za zd zc))))
   (zb (oRz 3 nd (zq Xt zn (zq zI (pv 2) zd)))
   (zb (oRz 4 nd zn)
   (zb (Zm tY rfl (xo (pv 0)) (oQz 5 nd) (zb (oRz 2 nd (zq zI (zq yh (zq Xd (pv 2) zd) zd) zd))
   (zb (oRz 6 nd (zq zI (zq zT (pv 2) zd) zd))
   (zb (yx (zB (yv (zp zP (pv 6) zd (zw _)) (yv (zp Xq (pv 4) zn rfl) (yc (zp Xq (pv 5) zn rfl)))).pt (ze (oRz 6 nd zd)) zk))
   (zb (oRz 3 nd (zq yg (zq yg (pv 3) (zq Xt zn (pv 6))) (pv 5)))
   (ze (oRz 4 nd (pv 5))))))))
   (ze (zm (zq yg (pv 3) (zq Xt zn (zq zI (zq zT (pv 2) zd) zd))))))))),?_⟩
 refine ⟨_,U,c,4,U,λm0 m0p m0l=>?_⟩;have e3:0<=m0 % 3/\m0 % 3<3:=⟨sZ _ (by decide),sX _ (by decide)⟩;refine ⟨_,U,_,_,U,U,(by show (0:Int)<3;decide),32,_,U,U,e3.1,by omega,?_⟩;obtain ⟨b0,w0,w1⟩:=Wd.sp (z:="") Wd.nil (m0 % 3).toNat;rw [xH] at w0;have b0f:b0=true->False:=λz=>by cases (w1 z).2
 refine ⟨_,U,a,U,⟨_,SqL.of ha⟩,?_⟩;refine Yv (K:=K) (a:=a) (xs:=ws.map V.str) (λi σ J=>∃ (mx:Int) (z ah:Str) (u5 u6:Jo) (b:Bool),σ=[Z (.ref a),Z (.int c),Z (.int mx),Z (.str z),Z (.str ah),u5,u6]/\J=H/\0<=mx/\Wd (lt' z) ((ws.take i).map lt') b/\(b=true->brk ah=false)/\WG ah/\10 ∉ lt' z/\z.length<=22*i+2) ?_ (λi σ J _ ⟨_,_,_,_,_,_,_,e,_⟩=>by rw [e];exact SqL.of ha) ?_ ?_
 .refine ⟨m0,_,"(",Y,Y,b0,U,U,m0p,w0,λz=>(b0f z).elim,.inl rfl,Xn _,?_⟩
  rw [ZW];omega
 .rintro i x σ J hi ⟨mx,z,ah,u5,u6,b,rfl,rfl,mp,wd,hb,ga,fz,zl⟩
  obtain ⟨y,ey,rfl⟩:=zdz hi;have il:i<ws.length:=(tu.mp ey).1;have my:=wg y (sP ey);refine ⟨_,U,_,_,U,U,.inr ⟨by decide,by decide⟩,_,_,U,U,_,_,U,U,(by show (0:Int)<2147483647;decide),?_⟩;have mp2:=sZ (mx*48271+11) (show (2147483647:Int)≠0 by decide);generalize (mx*48271+11) % 2147483647=mx2 at mp2 ⊢;refine ⟨_,U,_,_,U,U,⟨by decide,by decide⟩,_,_,U,U,(by show (0:Int)<3;decide),?_⟩;have g0:0<=mx2 / 16 % 3/\mx2 / 16 % 3<3:=⟨sZ _ (by decide),sX _ (by decide)⟩;generalize mx2 / 16 % 3=gp at g0 ⊢;refine ⟨λσ' J'=>∃ g:Int,σ'=[Z (.ref a),Z (.int c),Z (.int mx2),Z (.str z),Z (.str ah),Z (.str y),Z (.int g)]/\J'=J/\0<=g/\g<3/\(g=0->brk ah=true∨brk y=true),?_,?_⟩
  .refine ⟨_,U,U,_,U,?_⟩
   by_cases hg:gp=0
   .subst hg
    refine zL ⟨_,U,ah,"()",U,U,_,U,?_⟩;rw [brk_in ga]
    cases ha':brk ah with
    | true=>exact zy ⟨0,U,U,by omega,by omega,λ_=>.inl rfl⟩
    | false =>
     refine zL ⟨_,U,y,"()",U,U,_,U,?_⟩;rw [brk_in my.1]
     cases hy':brk y with
     | true=>exact zy ⟨0,U,U,by omega,by omega,λ_=>.inr rfl⟩
     | false=>exact zL ⟨1,U,U,by omega,by omega,λz=>by omega⟩
   .rw [decide_eq_false (λz=>hg (V.int.inj z))]
    exact zy (zy ⟨gp,U,U,g0.1,g0.2,λz=>absurd z hg⟩)
  rintro σ' J' ⟨g,rfl,rfl,gl,gh,gz⟩;obtain ⟨b1,wd1,hb1⟩:=Wd.sp wd g.toNat
  have hb2:b1=true->brk y=true:=λz=>by
   obtain ⟨e1,e2⟩:=hb1 z;rcases gz (by omega) with q | q
   .rw [hb e2] at q;cases q
   .exact q
  obtain ⟨b3,wd3,hb3⟩:=Wd.snoc wd1 my.1 hb2;have l1:(z++(⟨(tD g.toNat 32).toArray⟩:Str)).length<=22*i+4:=by rw [Zd,ZW];omega
  have l2:(z++(⟨(tD g.toNat 32).toArray⟩:Str)++y).length<=22*(i+1)+2:=by rw [Zd];have:=my.2;omega
  have fz2:10 ∉ lt' (z++(⟨(tD g.toNat 32).toArray⟩:Str)++y):=by
   rw [xH,xH];intro m;rcases t9.mp m with m | m
   .rcases t9.mp m with m | m
    .exact fz m
    .exact Xn _ m
   .exact my.1.free m
  have et:(ws.take (i+1)).map lt'=(ws.take i).map lt'++[lt' y]:=by rw [uF,ey,Jk];rfl
  refine ⟨_,U,_,U,32,g,U,U,gl,by omega,_,_,U,U,?_,_,U,_,_,U,U,?_,?_⟩
  .rw [ZW];omega
  .have:=my.2;omega
  exact ⟨_,U,mx2,_,y,_,_,b3,U,U,mp2,by rw [et];exact wd3,hb3,my.1,fz2,l2⟩
 .rintro σ J ⟨mx,z,ah,u5,u6,b,rfl,rfl,mp,wd,hb,ga,fz,zl⟩
  rw [Ji] at wd zl;rw [uD] at wd;have g0:0<=mx / 256 % 2/\mx / 256 % 2<2:=⟨sZ _ (by decide),sX _ (by decide)⟩;obtain ⟨b1,wd1,hb1⟩:=Wd.sp wd (mx / 256 % 2).toNat;refine ⟨_,U,_,U,_,_,U,U,⟨by decide,by decide⟩,_,_,U,U,(by show (0:Int)<2;decide),32,_,U,U,g0.1,by omega,_,_,U,U,?_,?_⟩
  .rw [ZW];omega
  refine q _ (map_inj (Wd.words wd1)) ?_ ?_
  .rw [xH]
   intro m;rcases t9.mp m with m | m
   .exact fz m
   .exact Xn _ m
  .rw [Zd,ZW];omega
def Lw (l:List Nat):Prop:=∀ a∈l,97<=a/\a<=122
def NmG (z:Str):Prop:=Lw (lt' z)/\1<=z.length/\z.length<=12
instance (l:List Nat):Decidable (Lw l):=by unfold Lw;exact inferInstance
instance (z:Str):Decidable (NmG z):=by unfold NmG;exact inferInstance
def Lw.app {x y:List Nat} (h:Lw x) (g:Lw y):Lw (x++y):=λa m=>by
 rcases t9.mp m with m | m
 .exact h a m
 .exact g a m
def XO:letS.cps.toList=(List.range 26).map (·+97):=by decide +kernel
def nm_of {z:Str} (h:NmG z) (k:z ∉ keptWs):Z1 z=true:=by
 unfold Z1;rw [decide_eq_true h.2.1,decide_eq_true h.2.2,decide_eq_true k,Bool.and_true,Bool.and_true,wO];refine uM.mpr λc m=>?_;rw [XB,XO];have:=h.1 c m;exact decide_eq_true (tW.mpr ⟨c-97,vS.mpr (by omega),by omega⟩)
def NmG.wg {z:Str} (h:NmG z):WG z:=by
 refine .inr (.inr ⟨λe=>?_,λa m=>?_⟩)
 .have:=h.2.1;rw [yT,e] at this;exact absurd this (by decide)
 .have:=h.1 a m;omega
def zau {z:Str} {j:Int} (h0:0<=j) (h:j<=z.length):lt' (uB z Y (Z j))=(lt' z).take j.toNat:=by
 have e:uB z Y (Z j)=vi z Y (Z j):=rfl;rw [e,StrLaws.sliceText_to ⟨h0,by rw [yT] at h;exact h⟩];show ((lt' z).drop 0).take (j-0).toNat=_;rw [List.drop_zero,Int.sub_zero]
def zfq {z:Str} {j:Int} (h0:0<=j) (h:j<=z.length):lt' (uB z (Z j) Y)=(lt' z).drop j.toNat:=by
 have e:uB z (Z j) Y=vi z (Z j) Y:=rfl;rw [e,StrLaws.sliceText_from ⟨h0,by rw [yT] at h;exact h⟩];show ((lt' z).drop j.toNat).take _=_;refine vN ?_;rw [uS];show _<=(((lt' z).length:Int)-j).toNat;omega
def slice_all {z:Str} {j:Int} (h:(z.length:Int)<=j):uB z Y (Z j)=z:=by
 have e:uB z Y (Z j)=vi z Y (Z (z.length:Int)):=by
  show vi z Y (Z j)=_;unfold vi
  have e1:wJ Y (Z j) 1 z.length=wJ Y (Z (z.length:Int)) 1 z.length:=by
   unfold wJ;have a1:¬ (j<0):=by omega
   have a2:¬ ((z.length:Int)<0):=by omega
   have a3:min j (z.length:Int)=z.length:=by omega
   simp only [a1,a2,a3,if_false]
   try simp
  rw [e1]
 refine zd1 ?_;have e2:uB z Y (Z (z.length:Int))=vi z Y (Z (z.length:Int)):=rfl;rw [e,← e2,zau (by omega) (by omega)];exact vN (by rw [yT];omega)
def zcx {z:Str} {j:Int} {c:Nat} (h:NmG z) (h0:0<=j) (hj:j<z.length) (hc:97<=c/\c<=122):NmG (uB z Y (Z j)++(⟨#[c]⟩:Str)++uB z (Z (j+1)) Y)/\(uB z Y (Z j)++(⟨#[c]⟩:Str)++uB z (Z (j+1)) Y).length=z.length:=by
 have e:lt' (uB z Y (Z j)++(⟨#[c]⟩:Str)++uB z (Z (j+1)) Y)=(lt' z).take j.toNat++[c]++(lt' z).drop (j.toNat+1):=by
  rw [xH,xH,zau h0 (by omega),zfq (by omega) (by omega)];rw [show (j+1).toNat=j.toNat+1 by omega]
 have zl:=yT z
 have l:(uB z Y (Z j)++(⟨#[c]⟩:Str)++uB z (Z (j+1)) Y).length=z.length:=by
  rw [yT,e,Jj,Jj,ut,uS,tF];omega
 refine ⟨⟨?_,by rw [l];exact h.2.1,by rw [l];exact h.2.2⟩,l⟩;rw [e];refine Lw.app (Lw.app (λa m=>h.1 a (List.mem_of_mem_take m)) (λa m=>?_)) (λa m=>h.1 a (v0 m));rw [sG.mp m];exact hc
def xI {m:Int} (h0:0<=m) (h:m<26):atI letS.cps.toList m=Z (97+m.toNat):=by
 obtain ⟨k,rfl⟩:=wN h0;refine zM ?_;have hk:k<26:=by omega
 rw [XO,sN,List.getElem?_range hk];show Z (k+97)=Z (97+((k:Nat):Int).toNat);rw [q0z,Nat.add_comm]
theorem zao:∀ {l r:Jf},l.Nodup->(∀ x∈l,x∈r)->l.length<=r.length
 | [],_,_,_=>ub _
 | a::l,r,nd,s=>by
  have ma:=s a x0z;have nd':=ue.mp nd;have:=zao (l:=l) (r:=r.erase a) nd'.2 λx m=>(List.mem_erase_of_ne (λe=>nd'.1 (by rw [← e];exact m))).mpr (s x (x0y _ m));rw [List.length_erase_of_mem ma] at this;have:0<r.length:=List.length_pos_of_mem ma;rw [x2x];omega
def nm2 (k:Nat):Str:=⟨#[97+k / 26 % 26,97+k % 26]⟩
def nm2_g (k:Nat):NmG (nm2 k):=by
 refine ⟨λa m=>?_,by show 1<=2;decide,by show 2<=12;decide⟩;have m:a∈[97+k / 26 % 26,97+k % 26]:=m;simp only [sM,tM,or_false] at m;omega
def nm2_inj {j k:Nat} (h1:26<=j) (h2:j<700) (h3:26<=k) (h4:k<700) (e:nm2 j=nm2 k):j=k:=by
 have e:(⟨#[97+j / 26 % 26,97+j % 26]⟩:Str)=⟨#[97+k / 26 % 26,97+k % 26]⟩:=e;have e1:#[97+j / 26 % 26,97+j % 26]=#[97+k / 26 % 26,97+k % 26]:=congrArg Str.cps e;have e2:=Array.toList_inj.mpr e1;simp only [List.cons.injEq,and_true] at e2;omega
def nm2_free {l:Jf} (n:Nat) (hn:n<=600) (hl:l.length<n):∃ k,26<=k/\k<26+n/\nm2 k ∉ l:=by
 refine wx λh=>?_;have all:∀ k,26<=k->k<26+n->nm2 k∈l:=λk h1 h2=>wx λq=>h ⟨k,h1,h2,q⟩
 have nd:((List.range n).map λi=>nm2 (26+i)).Nodup:=by
  refine List.Pairwise.map _ (R:=λa b=>a<n/\b<n/\a≠b) (λa b h e=>h.2.2 (by have:=nm2_inj (by omega) (by omega) (by omega) (by omega) e;omega)) ?_;refine List.Pairwise.imp_of_mem (R:=λa b=>a<b) (λha hb h=>⟨vS.mp ha,vS.mp hb,by omega⟩) List.pairwise_lt_range
 have:=zao nd λx m=>by
  obtain ⟨i,mi,rfl⟩:=tW.mp m;have:=vS.mp mi;exact all _ (by omega) (by omega)
 rw [Ji,List.length_range] at this;omega
def Y5:Str:="row def let put fold run till end at in of into where most here shift if rest least sum product both"
def some26:wD (Y5++(" either odd chain capped":Str))=keptWs:=by decide +kernel
def words22:(wD Y5).length=22/\∀ w∈wD Y5,NmG (uB w Y (Z (-1)))/\NmG w/\w.length<=7:=by decide +kernel
inductive spNb (vs:Jn) (H:Hp) (Q:VK) (_:XK):Prop
 | mk (c:Int) (_:vs=[.int c]) (_:∀ n H',-9223372036854775808<=n->n<=9223372036854775807->Same H H'->Q (.int n) H')
def zdr (d:zj K mg "_law_number_by" xT UR):Ok P w K mg base CX0 1 "_law_number_by" UR spNb:=by
 refine oDf d sc_l_number_by λf sA A _ s H vs Q E hr h=>?_;obtain ⟨c,rfl,q⟩:=h;have nd:=sc_l_number_by.nd;refine ⟨_,(zb (oRz 1 nd (zq zI (pv 0) zd))
   (zb (zB (zp zP (pv 1) zd (zw _)) (ze (zm (zq Xc (zq zI (zq zT (pv 0) zd) zd) zd))) zk)
   (zb (zB (zp zP (pv 1) zd (zw _)) (zb (oRz 2 nd (zJ (za zd (za (Ym ZA zd) (za zd (za (Ym ZA zd) (za zd (za (Ym ZA zd) zc))))))))
   (ze (zm (zx zD (pv 2) (zq zI (zq zT (pv 0) zd) zd) (λ_ _=>rfl))))) zk)
   (ze (zm (zq Xc (zq zI (zq Xd (zq zT (pv 0) zd) zd) zd) zd)))))),?_⟩
 refine ⟨_,U,_,_,U,U,(by show (0:Int)<3;decide),_,U,U,_,U,?_⟩;have h7:0<=c / 3 % 7/\c / 3 % 7<7:=⟨sZ _ (by decide),sX _ (by decide)⟩;refine yu (λ_=>⟨_,U,_,_,U,U,⟨by decide,by decide⟩,_,_,U,U,(by show (0:Int)<7;decide),_,_,U,U,q _ H (by omega) (by omega) (Same.refl _)⟩) (λ_=>⟨_,U,U,_,U,?_⟩);refine yu (λ_=>?_) (λ_=>?_)
 .refine ⟨_,U,_,U,_,U,szU 6,λl nl=>?_⟩
  have h6:0<=c / 3 % 6/\c / 3 % 6<6:=⟨sZ _ (by decide),sX _ (by decide)⟩;obtain ⟨k,ek⟩:∃ k:Nat,c / 3 % 6=k:=⟨(c / 3 % 6).toNat,by omega⟩;have k6:k<6:=by omega
  have k7:∀ k,k<6->∃ n:Int,([9223372036854775807,-9223372036854775808,1000000000,-1,400,-9999999999].map V.int)[k]?=Z (.int n)/\-9223372036854775808<=n/\n<=9223372036854775807:=λk h=>by
   match k,h with
   | 0,_=>exact ⟨_,U,by decide,by decide⟩
   | 1,_=>exact ⟨_,U,by decide,by decide⟩
   | 2,_=>exact ⟨_,U,by decide,by decide⟩
   | 3,_=>exact ⟨_,U,by decide,by decide⟩
   | 4,_=>exact ⟨_,U,by decide,by decide⟩
   | 5,_=>exact ⟨_,U,by decide,by decide⟩
  obtain ⟨n,en,n1,n2⟩:=k7 k k6;exact ⟨_,U,_,U,_,_,U,U,⟨by decide,by decide⟩,_,_,U,U,(by show (0:Int)<6;decide),l,_,_,_,U,U,SqL.of zg,by rw [ek];exact zM en,q n _ n1 n2 (yj (Same.refl _) nl)⟩
 .refine ⟨_,U,_,_,U,U,⟨by decide,by decide⟩,_,_,U,U,.inr ⟨by decide,by decide⟩,_,_,U,U,(by show (0:Int)<18446744073709551616;decide),_,_,U,U,?_⟩
  have z0:=sZ (c / 3*2862933555777941757) (show (18446744073709551616:Int)≠0 by decide);have z1:=sX (c / 3*2862933555777941757) (show (0:Int)<18446744073709551616 by decide);generalize c / 3*2862933555777941757 % 18446744073709551616=z at z0 z1;exact q _ H (by omega) (by omega) (Same.refl _)
inductive spKw (vs:Jn) (H:Hp) (Q:VK) (_:XK):Prop
 | mk (z:Str) (_:vs=[.str z]) (_:∀ H',Same H H'->Q (.bl (decide (z∈keptWs))) H')
def zdw (d:zj K mg "_law_kept_word" xX ["_law_word"]):Ok P w K mg base CX0 1 "_law_kept_word" ["_law_word"] spKw:=by
 refine oDf d sc_l_kept_word λf sA A _ s H vs Q E hr h=>?_;obtain ⟨z,rfl,q⟩:=h;have nd:=sc_l_kept_word.nd;refine ⟨_,(zb (oRz 1 nd zn)
   (ze (zm (ym zca (pv 0) (Y9 uz uy vM zcc (zq yg (pv 1) zn)) rfl)))),?_⟩
 refine ⟨_,U,_,U,Y5," either odd chain capped",U,U,by decide +kernel,?_⟩;refine ⟨U,_,U,U,by decide +kernel,by decide +kernel,by decide +kernel,λa na=>?_⟩;rw [some26];refine ⟨a,_,U,.inl (SqL.of zg),U,?_,?_⟩
 .rw [List.all_map];exact uM.mpr λ_ _=>rfl
 .rw [XA]
  exact q _ (yj (Same.refl _) na)
def spNg :Sp:=λvs H Q _=>∃ c:Int,vs=[.int c]/\∀ z H',NmG z->Same H H'->Q (.str z) H'
def zdt (d:zj K mg "_law_near_kept" xU UR):Ok P w K mg base CX0 1 "_law_near_kept" UR spNg:=by
 refine oDf d sc_l_near_kept λf sA A _ s H vs Q E hr h=>?_;obtain ⟨c,rfl,q⟩:=h;have nd:=sc_l_near_kept.nd;have SL:(1000:Nat)<sizeLine:=by decide
 refine ⟨_,(zb (oRz 1 nd zn)
   (zb (oRz 2 nd (zx zD (Y9 uz uy vM zcc (pv 1)) (zq zI (pv 0) zd) (λ_ _=>rfl)))
   (zb (zB (zp zP (zq zI (zq zT (pv 0) zd) zd) zd (zw _)) (ze (zm (zq yg (pv 2) (zx Yu zn (zq zI (zq zT (pv 0) zd) zd) (λ_ _=>rfl))))) zk)
   (ze (zm (xF Y6 (pv 2) Zw (Zv (Ym ZA zd)))))))),?_⟩
 refine ⟨_,U,U,Y5,U,U,by decide +kernel,by decide +kernel,by decide +kernel,λa na=>?_⟩;have h22:0<=c % 22/\c % 22<22:=⟨sZ _ (by decide),sX _ (by decide)⟩;obtain ⟨k,ek⟩:∃ k:Nat,c % 22=k:=⟨(c % 22).toNat,by omega⟩;obtain ⟨y,ey⟩:∃ y,(wD Y5)[k]?=Z y:=⟨_,sI (by rw [words22.1];omega)⟩;obtain ⟨y1,y2,y3⟩:=words22.2 y (sP ey);have s1:=yj (o:=.lst ((wD Y5).map V.str)) (Same.refl H) na;refine ⟨_,U,_,_,U,U,(by show (0:Int)<22;decide),a,_,_,_,U,U,SqL.of zg,by rw [ek];exact zM (by rw [sN,ey];rfl),?_⟩;refine ⟨_,U,_,_,U,U,⟨by decide,by decide⟩,_,_,U,U,(by show (0:Int)<2;decide),U,_,U,?_⟩;refine yu (λ_=>?_) (λ_=>?_)
 .have h26:0<=c / 44 % 26/\c / 44 % 26<26:=⟨sZ _ (by decide),sX _ (by decide)⟩
  refine ⟨_,U,_,U,_,_,U,U,⟨by decide,by decide⟩,_,_,U,U,(by show (0:Int)<26;decide),letS,_,_,U,U,by decide +kernel,xI h26.1 h26.2,_,_,U,U,?_,q _ _ ?_ s1⟩
  .show y.length+1<=sL;omega
  .refine ⟨?_,?_,?_⟩
   .rw [xH]
    exact Lw.app y2.1 λa m=>by
     have:a=97+(c / 44 % 26).toNat:=by simpa using m
     omega
   .rw [Zd];exact tE y2.2.1 (Nat.le_add_right _ _)
   .rw [Zd];show y.length+1<=12;omega
 .exact ⟨_,U,_,U,_,U,y,U,by omega,q _ _ y1 s1⟩
inductive spName (K:Fg) (vs:Jn) (H:Hp) (Q:VK) (_:XK):Prop
 | mk (a:Ad) (os:Jf) (c:Int) (_:vs=[.int c,.ref a]) (_:SqL K H a (os.map V.str)) (_:∀ z∈os,NmG z) (_:os.length<=100) (_:∀ z H',NmG z->z ∉ os->z ∉ keptWs->Same H H'->Q (.str z) H')
def zf1 (d:zj K mg "_law_name_by" ZO UQ) (hlen:mg "len"=Y) (hrg:mg "range"=Y) (MX:Ok P w K mg base (CXe P w base) 1 "_law_mixed" Uu spMx) (KW:Ok P w K mg base CX0 1 "_law_kept_word" ["_law_word"] spKw) (NK:Ok P w K mg base CX0 1 "_law_near_kept" UR spNg):Ok P w K mg base CX0 2 "_law_name_by" UQ (spName K):=by
 refine oDf d sc_l_name_by λf sA A _ s H vs Q E hr h=>?_;obtain ⟨a,os,c,rfl,ha,og,l1,q⟩:=h;have hr1:Room 1 _:=hr;have nd:=sc_l_name_by.nd;have SL:(100000:Nat)<sizeLine:=by decide
 refine ⟨_,(zb (oRz 2 nd zn)
   (zb (oRz 3 nd (zq yh (zq zI (pv 0) zd) zd))
   (zb (oRz 4 nd (zo MX hr1 (by rfl) zU (za (zq zT (pv 0) zd) (za zd zc))))
   (zb (oRz 5 nd (zq Xt (zx Yu (pv 2) (zq zI (pv 4) zd) (λ_ _=>rfl)) (pv 3)))
   (zb (yx (zB (zp zP (zq zI (zq zT (pv 4) zd) zd) zd (zw _)) (zb (oRz 5 nd zn)
   (ze (Zm tY rfl (yY rfl hrg (za (pv 3) zc)) (oQz 6 nd) (zb (oRz 4 nd (zq zI (zq yh (zq Xd (pv 4) zd) zd) zd))
   (ze (oRz 5 nd (zq yg (pv 5) (zx Yu (pv 2) (zq zI (zq zT (pv 4) zd) zd) (λ_ _=>rfl))))))))) zk))
   (zb (yx (zB (zp zP (zq zI (zq zT (pv 4) zd) zd) zd (zw _)) (ze (oRz 5 nd (zo NK hr1 (by rfl) zv (za (zq zT (pv 4) zd) zc)))) zk))
   (zb (yx (zB (yv (zp ZV (zh zr (by rfl) hlen sU (za (pv 1) zc)) zd (zw _)) (yc (zp zP (zq zI (zq zT (pv 4) zd) zd) zd (zw _)))).pt (zb (oRz 7 nd (zx zD (pv 1) (zq zI (zq zT (pv 4) zd) (zh zr (by rfl) hlen sU (za (pv 1) zc))) (λ_ _=>rfl)))
   (zb (oRz 8 nd (zq zI (zq zT (pv 4) zd) (zh xK (by rfl) hlen sU (za (pv 7) zc))))
   (ze (oRz 5 nd (zq yg (zq yg (xF Y6 (pv 7) Zw (Zv (pv 8))) (zx Yu (pv 2) (zq zI (zq zT (pv 4) zd) zd) (λ_ _=>rfl))) (xF Y6 (pv 7) (Zv (zq yh (pv 8) zd)) Zw)))))) zk))
   (zb (yx (zB (yv (zp ZV (zh zr (by rfl) hlen sU (za (pv 1) zc)) zd (zw _)) (yc (zp zP (zq zI (zq zT (pv 4) zd) zd) zd (zw _)))).pt (zb (oRz 7 nd (zx zD (pv 1) (zq zI (zq zT (pv 4) zd) (zh zr (by rfl) hlen sU (za (pv 1) zc))) (λ_ _=>rfl)))
   (ze (oRz 5 nd (xF Y6 (zq yg (pv 7) (zx Yu (pv 2) (zq zI (zq zT (pv 4) zd) zd) (λ_ _=>rfl))) Zw (Zv zd))))) zk))
   (zb (oRz 8 nd (zq zI (zq zT (pv 4) zd) (zh xK (by rfl) hlen sU (za (pv 5) zc))))
   (zb (oRz 6 nd zd)
   (zb (Yk tY (xM (zp zca (pv 5) (pv 1) rfl) (yS (zG (zo KW hr1 (by rfl) zv (za (pv 5) zc))))).pt (zb (zB (zp za5 (pv 6) zd (zw _)) (ze (oRz 5 nd (zq yg (zq yg (xF Y6 (pv 5) Zw (Zv (pv 8))) (zx Yu (pv 2) (pv 6) (λ_ _=>rfl))) (xF Y6 (pv 5) (Zv (zq yh (pv 8) zd)) Zw)))) (ze (oRz 5 nd (zq yg (zx Yu (pv 2) (zq zI (zq zT (pv 6) zd) zd) (λ_ _=>rfl)) (zx Yu (pv 2) (zq zI (pv 6) zd) (λ_ _=>rfl))))))
   (ze (oRz 6 nd (zq yh (pv 6) zd)))))
   (ze (zm (pv 5)))))))))))))),?_⟩
 show (let s1:L2.TS:=_;let s2:L2.TS:=L2.tSeq _ s1;let s3:L2.TS:=L2.tSeq _ s2;let s4:L2.TS:=L2.tSeq _ s3;let s5:L2.TS:=L2.tSeq _ s4;let s6:L2.TS:=L2.tSeq _ s5;let s7:L2.TS:=L2.tSeq _ s6;let s8:L2.TS:=L2.tSeq _ s7;let s9:L2.TS:=L2.tSeq _ s8;let s10:L2.TS:=L2.tSeq _ s9;let s11:L2.TS:=L2.tSeq _ s10;L2.tSeq _ s11 _ _ _);intro s1 s2 s3 s4 s5 s6 s7 s8 s9 s10 s11;refine ⟨_,U,_,_,U,U,(by show (0:Int)<12;decide),_,_,U,U,?_⟩;have h12:0<=c % 12/\c % 12<12:=⟨sZ _ (by decide),sX _ (by decide)⟩;generalize c % 12=sz at h12;refine ⟨_,U,_,_,U,U,⟨by decide,by decide⟩,_,3,U,λm0 m0p m0l=>?_⟩;have h26:0<=m0 % 26/\m0 % 26<26:=⟨sZ _ (by decide),sX _ (by decide)⟩;refine ⟨_,U,_,U,_,_,U,U,(by show (0:Int)<26;decide),letS,_,_,U,U,by decide +kernel,xI h26.1 h26.2,_,U,_,_,U,U,by omega,by omega,?_⟩
 have n0:NmG (⟨(tD (sz+1).toNat (97+(m0 % 26).toNat)).toArray⟩:Str):=by
  refine ⟨λb m=>?_,?_,?_⟩
  .have m:b∈tD (sz+1).toNat (97+(m0 % 26).toNat):=m
   rw [(List.mem_replicate.mp m).2];omega
  .rw [ZW];omega
  .rw [ZW];omega
 generalize (⟨(tD (sz+1).toNat (97+(m0 % 26).toNat)).toArray⟩:Str)=z0 at n0;obtain ⟨PSt,hPSt⟩:∃ PSt:St->Hp->Prop,PSt=λσ J=>∃ (mx:Int) (z:Str) (u6 u7 u8:Jo),σ=[Z (.int c),Z (.ref a),Z (.str letS),Z (.int (sz+1)),Z (.int mx),Z (.str z),u6,u7,u8]/\Same H J/\0<=mx/\NmG z:=⟨_,U⟩;have ol:(os.map V.str).length=os.length:=vJ ..;refine ⟨PSt,?_,?_⟩
 .subst hPSt
  refine ⟨_,U,_,_,U,U,⟨by decide,by decide⟩,_,_,U,U,(by show (0:Int)<3;decide),U,_,U,?_⟩;refine yu (λ_=>?_) (λ_=>⟨m0,z0,Y,Y,Y,U,Same.refl _,m0p,n0⟩);refine ⟨_,U,_,U,(by show -(2 ^ 62)<=sz+1;omega),(by show sz+1<2 ^ 62;omega),?_⟩;refine Zy (n:=(sz+1).toNat) (λi σ J=>∃ (mx:Int) (z:Str) (u6:Jo),σ=[Z (.int c),Z (.ref a),Z (.str letS),Z (.int (sz+1)),Z (.int mx),Z (.str z),u6,Y,Y]/\J=H/\0<=mx/\Lw (lt' z)/\z.length=i) ⟨m0,"",Y,U,U,m0p,(λb m=>by cases m),U⟩ ?_ ?_
  .rintro i σ J hi ⟨mx,z,u6,rfl,rfl,mp,lz,zl⟩
   refine ⟨_,U,_,_,U,U,.inr ⟨by decide,by decide⟩,_,_,U,U,_,_,U,U,(by show (0:Int)<2147483647;decide),?_⟩;have mp2:=sZ (mx*48271+11) (show (2147483647:Int)≠0 by decide);generalize (mx*48271+11) % 2147483647=mx2 at mp2;have g26:0<=mx2 / 8 % 26/\mx2 / 8 % 26<26:=⟨sZ _ (by decide),sX _ (by decide)⟩;refine ⟨_,U,_,U,_,U,_,_,U,U,⟨by decide,by decide⟩,_,_,U,U,(by show (0:Int)<26;decide),letS,_,_,U,U,by decide +kernel,xI g26.1 g26.2,_,_,U,U,?_,?_⟩
   .show z.length+1<=sL;omega
   refine ⟨mx2,_,_,U,U,mp2,?_,?_⟩
   .rw [xH]
    exact Lw.app lz λb m=>by
     have:b=97+(mx2 / 8 % 26).toNat:=by simpa using m
     omega
   .rw [Zd,zl];rfl
  .rintro σ J ⟨mx,z,u6,rfl,rfl,mp,lz,zl⟩
   exact ⟨mx,z,u6,Y,Y,U,Same.refl _,mp,lz,by omega,by omega⟩
 rintro σ J hσ;rw [hPSt] at hσ;obtain ⟨mx,z,u6,u7,u8,rfl,sJ,mp,nz⟩:=hσ;refine ⟨PSt,?_,?_⟩
 .subst hPSt
  refine ⟨_,U,_,_,U,U,⟨by decide,by decide⟩,_,_,U,U,(by show (0:Int)<7;decide),U,_,U,?_⟩;refine yu (λ_=>?_) (λ_=>⟨mx,z,u6,u7,u8,U,sJ,mp,nz⟩);exact ⟨_,U,_,_,U,U,⟨by decide,by decide⟩,_,U,λz' J' nz' s'=>⟨mx,z',u6,u7,u8,U,sJ.trans s',mp,nz'⟩⟩
 clear mp nz sJ;rintro σ J hσ;rw [hPSt] at hσ;obtain ⟨mx,z,u6,u7,u8,rfl,sJ,mp,nz⟩:=hσ;refine ⟨PSt,?_,?_⟩
 .subst hPSt
  refine ⟨_,U,a,_,U,.inl (yq ha sJ),_,_,U,U,_,U,?_⟩;rw [ol];refine yu (λho=>?_) (λ_=>zy ⟨mx,z,u6,u7,u8,U,sJ,mp,nz⟩);have ho:0<os.length:=by have:=of_decide_eq_true ho;omega
  refine ⟨_,U,_,_,U,U,⟨by decide,by decide⟩,_,_,U,U,(by show (0:Int)<3;decide),U,_,U,?_⟩;refine yu (λ_=>?_) (λ_=>⟨mx,z,u6,u7,u8,U,sJ,mp,nz⟩);obtain ⟨k,ek,kl⟩:∃ k:Nat,mx / 21 % (os.length:Int)=k/\k<os.length:=⟨(mx / 21 % (os.length:Int)).toNat,by have:=sZ (mx / 21) (show ((os.length:Nat):Int)≠0 by omega);omega,by have a:=sZ (mx / 21) (show ((os.length:Nat):Int)≠0 by omega);have:=sX (mx / 21) (show (0:Int)<(os.length:Nat) by omega);omega⟩;obtain ⟨y,ey⟩:∃ y,os[k]?=Z y:=⟨_,sI kl⟩;have gy:=og y (sP ey);refine ⟨_,U,_,U,_,_,U,U,⟨by decide,by decide⟩,_,U,a,_,U,.inl (yq ha sJ),_,_,U,U,(by rw [ol];omega),a,_,_,_,U,U,yq ha sJ,by rw [ol,ek];exact zM (by rw [sN,ey];rfl),?_⟩;have g26:0<=mx / 300 % 26/\mx / 300 % 26<26:=⟨sZ _ (by decide),sX _ (by decide)⟩;have yl:(0:Int)<(y.length:Nat):=by have:=gy.2.1;omega
  have at0:=sZ (mx / 5) (show ((y.length:Nat):Int)≠0 by omega);have at1:=sX (mx / 5) yl;refine ⟨_,U,_,_,U,U,⟨by decide,by decide⟩,_,U,_,U,by have:=gy.2.2;omega,_,_,U,U,yl,?_⟩;generalize mx / 5 % (y.length:Int)=at' at at0 at1;have ty:=zcx (c:=97+(mx / 300 % 26).toNat) gy at0 at1 (by omega);have ysl:y.length<=sizeLine:=by have:=gy.2.2;omega
  have sa:=v7 y Y (Z at');have sb:=v7 y (Z (at'+1)) Y;refine ⟨_,U,_,U,_,U,y,U,ysl,_,U,_,U,_,_,U,U,⟨by decide,by decide⟩,_,_,U,U,(by show (0:Int)<26;decide),letS,_,_,U,U,by decide +kernel,xI g26.1 g26.2,_,_,U,U,?_,?_⟩
  .show _+1<=sL;have:=gy.2.2;omega
  refine ⟨_,U,_,U,_,_,U,U,_,U,y,U,ysl,_,_,U,U,?_,?_⟩
  .rw [Zd];show _+1+_<=sL;have:=gy.2.2;omega
  exact ⟨mx,_,u6,_,_,U,sJ,mp,ty.1⟩
 clear mp nz sJ;rintro σ J hσ;rw [hPSt] at hσ;obtain ⟨mx,z,u6,u7,u8,rfl,sJ,mp,nz⟩:=hσ;refine ⟨PSt,?_,?_⟩
 .subst hPSt
  refine ⟨_,U,a,_,U,.inl (yq ha sJ),_,_,U,U,_,U,?_⟩;rw [ol];refine yu (λho=>?_) (λ_=>zy ⟨mx,z,u6,u7,u8,U,sJ,mp,nz⟩);have ho:0<os.length:=by have:=of_decide_eq_true ho;omega
  refine ⟨_,U,_,_,U,U,⟨by decide,by decide⟩,_,_,U,U,(by show (0:Int)<9;decide),U,_,U,?_⟩;refine yu (λ_=>?_) (λ_=>⟨mx,z,u6,u7,u8,U,sJ,mp,nz⟩);obtain ⟨k,ek,kl⟩:∃ k:Nat,mx / 63 % (os.length:Int)=k/\k<os.length:=⟨(mx / 63 % (os.length:Int)).toNat,by have:=sZ (mx / 63) (show ((os.length:Nat):Int)≠0 by omega);omega,by have a:=sZ (mx / 63) (show ((os.length:Nat):Int)≠0 by omega);have:=sX (mx / 63) (show (0:Int)<(os.length:Nat) by omega);omega⟩;obtain ⟨y,ey⟩:∃ y,os[k]?=Z y:=⟨_,sI kl⟩;have gy:=og y (sP ey);refine ⟨_,U,_,U,_,_,U,U,⟨by decide,by decide⟩,_,U,a,_,U,.inl (yq ha sJ),_,_,U,U,(by rw [ol];omega),a,_,_,_,U,U,yq ha sJ,by rw [ol,ek];exact zM (by rw [sN,ey];rfl),?_⟩;have g26:0<=mx / 300 % 26/\mx / 300 % 26<26:=⟨sZ _ (by decide),sX _ (by decide)⟩;refine ⟨_,U,_,U,_,U,_,_,U,U,⟨by decide,by decide⟩,_,_,U,U,(by show (0:Int)<26;decide),letS,_,_,U,U,by decide +kernel,xI g26.1 g26.2,_,_,U,U,?_,?_⟩
  .show y.length+1<=sL;have:=gy.2.2;omega
  have yl:(y++(⟨#[97+(mx / 300 % 26).toNat]⟩:Str)).length=y.length+1:=by rw [Zd];rfl
  have lw:Lw (lt' (y++(⟨#[97+(mx / 300 % 26).toNat]⟩:Str))):=by
   rw [xH]
   exact Lw.app gy.1 λb m=>by
    have:b=97+(mx / 300 % 26).toNat:=by simpa using m
    omega
  generalize (y++(⟨#[97+(mx / 300 % 26).toNat]⟩:Str))=yy at yl lw;refine ⟨_,U,yy,U,by have:=gy.2.2;omega,?_⟩;refine ⟨mx,_,u6,_,_,U,sJ,mp,?_⟩;by_cases h13:yy.length<=12
  .rw [slice_all (by omega)]
   exact ⟨lw,by omega,h13⟩
  .have e:=zau (z:=yy) (j:=12) (by decide) (by omega)
   have el:(uB yy Y (Z 12)).length=12:=by rw [yT,e,ut];have:=yT yy;omega
   exact ⟨by rw [e];exact λb m=>lw b (List.mem_of_mem_take m),by omega,by omega⟩
 clear mp nz sJ;rintro σ J hσ;rw [hPSt] at hσ;obtain ⟨mx,z,u6,u7,u8,rfl,sJ,mp,nz⟩:=hσ;clear hPSt;have zl:(0:Int)<(z.length:Nat):=by have:=nz.2.1;omega
 have at0:=sZ (mx / 5) (show ((z.length:Nat):Int)≠0 by omega);have at1:=sX (mx / 5) zl;refine ⟨_,U,_,_,U,U,⟨by decide,by decide⟩,_,U,_,U,by have:=nz.2.2;omega,_,_,U,U,zl,?_⟩;generalize mx / 5 % (z.length:Int)=at' at at0 at1;obtain ⟨n,hn⟩:∃ n,n=(os++keptWs).length+1:=⟨_,U⟩;have kl26:keptWs.length=26:=rfl;have n600:n<=600:=by rw [hn,Jj];omega
 refine ⟨λmm σ J=>∃ (k:Nat) (z:Str),σ=[Z (.int c),Z (.ref a),Z (.str letS),Z (.int (sz+1)),Z (.int mx),Z (.str z),Z (.int k),u7,Z (.int at')]/\Same H J/\NmG z/\(k<26->at'<z.length)/\k+mm=26+n/\(∀ j,26<=j->j+1<k->nm2 j∈os++keptWs)/\(26<k->z=nm2 (k-1)),⟨26+n,0,z,U,sJ,nz,λ_=>at1,by omega,λj h1 h2=>by omega,λh=>by omega⟩,?_⟩;clear nz at1 zl sJ;rintro mm σ J ⟨k,z,rfl,sJ,nz,hat,hk,hA,hB⟩;have all':(os.map V.str).all (λx=>match x with | .str _=>true | _=>true)=true:=by rw [List.all_map];exact uM.mpr λ_ _=>rfl
 refine ⟨_,U,_,U,a,_,U,.inl (yq ha sJ),U,by rw [List.all_map];exact uM.mpr λ_ _=>rfl,_,U,?_⟩;rw [XA]
 have next:z∈os++keptWs->k<26+n:=λhz=>by
  refine wx λhc=>?_;obtain ⟨j,j1,j2,j3⟩:=nm2_free (l:=os++keptWs) n n600 (by omega);by_cases e:j+1<k
  .exact j3 (hA j j1 e)
  .have e2:j=k-1:=by omega
   rw [e2,← hB (by omega)] at j3;exact j3 hz
 by_cases ho:z∈os
 .rw [decide_eq_true ho]
  have hz:z∈os++keptWs:=uv _ ho;have kn:=next hz;refine zL (zL ?_);refine ⟨λσ' H'=>∃ m',m'<mm/\_,λ_ _ z=>z,?_⟩;refine ⟨_,U,_,_,U,U,_,U,?_⟩;by_cases k26:k<26
  .rw [decide_eq_true (show ((k:Nat):Int)<26 by omega)]
   have ty:=zcx (c:=97+((k:Nat):Int).toNat) nz at0 (hat k26) (by omega);have zsl:z.length<=sizeLine:=by have:=nz.2.2;omega
   have sa:=v7 z Y (Z at');have sb:=v7 z (Z (at'+1)) Y;refine zL ⟨_,U,_,U,_,U,z,U,zsl,_,U,_,U,letS,_,_,U,U,by decide +kernel,xI (by omega) (by omega),_,_,U,U,?_,?_⟩
   .show _+1<=sL;have:=nz.2.2;omega
   refine ⟨_,U,_,U,_,_,U,U,_,U,z,U,zsl,_,_,U,U,?_,?_⟩
   .rw [Zd];show _+1+_<=sL;have:=nz.2.2;omega
   exact ⟨_,U,_,_,U,U,mm-1,by omega,k+1,_,U,sJ,ty.1,λ_=>by rw [ty.2];exact hat k26,by omega,λj j1 j2=>by omega,λh=>by omega⟩
  .rw [decide_eq_false (show ¬ ((k:Nat):Int)<26 by omega)]
   have g1:0<=((k:Nat):Int) / 26 % 26/\((k:Nat):Int) / 26 % 26<26:=⟨sZ _ (by decide),sX _ (by decide)⟩;have g2:0<=((k:Nat):Int) % 26/\((k:Nat):Int) % 26<26:=⟨sZ _ (by decide),sX _ (by decide)⟩;refine zy ⟨_,U,_,U,_,_,U,U,⟨by decide,by decide⟩,_,_,U,U,(by show (0:Int)<26;decide),letS,_,_,U,U,by decide +kernel,xI g1.1 g1.2,?_⟩;refine ⟨_,U,_,U,_,_,U,U,(by show (0:Int)<26;decide),letS,_,_,U,U,by decide +kernel,xI g2.1 g2.2,_,_,U,U,(by show 1+1<=sL;decide),?_⟩
   have e2:(⟨#[97+(((k:Nat):Int) / 26 % 26).toNat]⟩:Str)++(⟨#[97+(((k:Nat):Int) % 26).toNat]⟩:Str)=nm2 k:=by
    refine zd1 ?_;rw [xH];show [97+(((k:Nat):Int) / 26 % 26).toNat]++[97+(((k:Nat):Int) % 26).toNat]=[97+k / 26 % 26,97+k % 26];rw [show (((k:Nat):Int) / 26 % 26).toNat=k / 26 % 26 by omega,show (((k:Nat):Int) % 26).toNat=k % 26 by omega];rfl
   rw [e2];refine ⟨_,U,_,_,U,U,mm-1,by omega,k+1,nm2 k,U,sJ,nm2_g k,λh=>by omega,by omega,λj j1 j2=>?_,λ_=>rfl⟩;by_cases e:j+1<k
   .exact hA j j1 e
   .have e3:j=k-1:=by omega
    rw [e3,← hB (by omega)];exact hz
 .rw [decide_eq_false ho]
  refine zy ⟨_,U,z,U,λJ2 s2=>⟨_,U,?_⟩⟩;by_cases hk':z∈keptWs
  .rw [decide_eq_true hk']
   have hz:z∈os++keptWs:=x1y _ hk';have kn:=next hz;refine zL ?_;refine ⟨λσ' H'=>∃ m',m'<mm/\_,λ_ _ z=>z,?_⟩;refine ⟨_,U,_,_,U,U,_,U,?_⟩;by_cases k26:k<26
   .rw [decide_eq_true (show ((k:Nat):Int)<26 by omega)]
    have ty:=zcx (c:=97+((k:Nat):Int).toNat) nz at0 (hat k26) (by omega);have zsl:z.length<=sizeLine:=by have:=nz.2.2;omega
    have sa:=v7 z Y (Z at');have sb:=v7 z (Z (at'+1)) Y;refine zL ⟨_,U,_,U,_,U,z,U,zsl,_,U,_,U,letS,_,_,U,U,by decide +kernel,xI (by omega) (by omega),_,_,U,U,?_,?_⟩
    .show _+1<=sL;have:=nz.2.2;omega
    refine ⟨_,U,_,U,_,_,U,U,_,U,z,U,zsl,_,_,U,U,?_,?_⟩
    .rw [Zd];show _+1+_<=sL;have:=nz.2.2;omega
    exact ⟨_,U,_,_,U,U,mm-1,by omega,k+1,_,U,(sJ.trans s2),ty.1,λ_=>by rw [ty.2];exact hat k26,by omega,λj j1 j2=>by omega,λh=>by omega⟩
   .rw [decide_eq_false (show ¬ ((k:Nat):Int)<26 by omega)]
    have g1:0<=((k:Nat):Int) / 26 % 26/\((k:Nat):Int) / 26 % 26<26:=⟨sZ _ (by decide),sX _ (by decide)⟩;have g2:0<=((k:Nat):Int) % 26/\((k:Nat):Int) % 26<26:=⟨sZ _ (by decide),sX _ (by decide)⟩;refine zy ⟨_,U,_,U,_,_,U,U,⟨by decide,by decide⟩,_,_,U,U,(by show (0:Int)<26;decide),letS,_,_,U,U,by decide +kernel,xI g1.1 g1.2,?_⟩;refine ⟨_,U,_,U,_,_,U,U,(by show (0:Int)<26;decide),letS,_,_,U,U,by decide +kernel,xI g2.1 g2.2,_,_,U,U,(by show 1+1<=sL;decide),?_⟩
    have e2:(⟨#[97+(((k:Nat):Int) / 26 % 26).toNat]⟩:Str)++(⟨#[97+(((k:Nat):Int) % 26).toNat]⟩:Str)=nm2 k:=by
     refine zd1 ?_;rw [xH];show [97+(((k:Nat):Int) / 26 % 26).toNat]++[97+(((k:Nat):Int) % 26).toNat]=[97+k / 26 % 26,97+k % 26];rw [show (((k:Nat):Int) / 26 % 26).toNat=k / 26 % 26 by omega,show (((k:Nat):Int) % 26).toNat=k % 26 by omega];rfl
    rw [e2];refine ⟨_,U,_,_,U,U,mm-1,by omega,k+1,nm2 k,U,(sJ.trans s2),nm2_g k,λh=>by omega,by omega,λj j1 j2=>?_,λ_=>rfl⟩;by_cases e:j+1<k
    .exact hA j j1 e
    .have e3:j=k-1:=by omega
     rw [e3,← hB (by omega)];exact hz
  .rw [decide_eq_false hk']
   exact zy ⟨_,U,q z J2 nz ho hk' (sJ.trans s2)⟩
end K23
namespace F2
open PySem L2
end F2
namespace K23
open PySem L2
variable {K:Fg} {base:Heap}
def Sof (hs:List (Int×Int)):Nat->Int:=λi=>(hs.getD i (0,0)).1
def Dof (hs:List (Int×Int)):Nat->Int:=λi=>(hs.getD i (0,0)).2
structure Kw where
 names:Jf
 lens:Jb
 calls:Jf
 counts:List Nat
 heads:List (Int×Int)
 bodies:List F2.Fm
 own:Option (Jf)
 near:List Nat
 far:List Nat
def Kw.R (W:Kw):Rdg:=⟨W.names,W.calls.zip W.counts,W.own⟩
def NmK (z:Str):Prop:=NmG z/\z ∉ keptWs
def NmK.nm {z:Str} (h:NmK z):Z1 z=true:=nm_of h.1 h.2
structure Pt where
 ws:Jf
 F:F2.Fm
 s:Int
 d:Int
 b:Nat
structure PtOk (W:Kw) (p:Pt):Prop where
 rd:∀ n r,p.b<=n->zZ W.R n (p.ws++r)=.ok (p.F,r)
 s:p.s=F2.sz (Sof W.heads) p.F
 d:p.d=F2.dp (Dof W.heads) p.F
 c:F2.CL W.calls.length p.F
 g:∀ w∈p.ws,WG w/\w.length<=20
 l:p.ws.length<=6*F2.nodes p.F
 s60:p.s<=60
 d7:p.d<=7
 b30:p.b<=30
theorem Zx {x:Str}:∀ {l:Jf} {i:Nat},l.Nodup->l[i]?=Z x->plc x l=Z i
 | [],i,_,e=>by cases e
 | y::l,0,_,e=>by
  unfold plc;rw [if_pos (by simpa using e)]
 | y::l,i+1,nd,e=>by
  have e:l[i]?=Z x:=e;have nd':=ue.mp nd;unfold plc;rw [if_neg (λz=>nd'.1 (by rw [z];exact sP e)),Zx nd'.2 e];rfl
def nm_ne {z:Str} (h:NmK z):z≠"("/\z≠"here":=by
 constructor
 .rintro rfl;exact absurd h.1 (by decide +kernel)
 .rintro rfl;exact h.2 (by decide)
def pf_here (R:Rdg) (n:Nat) (r:Jf):zZ R n ("here"::r)=.ok (.here,r):=by
 unfold zZ;rw [if_neg (by decide),if_pos rfl]
def pf_name {R:Rdg} {z:Str} {f:F2.Fm} (h:NmK z) (hf:Xb R z=.ok f) (n:Nat) (r:Jf):zZ R n (z::r)=.ok (f,r):=by
 unfold zZ;rw [if_neg (nm_ne h).1,if_neg (nm_ne h).2,if_pos h.nm,hf];rfl
def Zb {m:Int} (h1:-9223372036854775808<=m) (h2:m<=9223372036854775807):numS m≠"("/\numS m≠"here"/\Z1 (numS m)=false/\WG (numS m)/\(numS m).length<=20:=by
 have hl:=zal 18
 have key:∃ l:List Nat,lt' (numS m)=l/\l≠[]/\(∀ a∈l,a=45∨48<=a/\a<=57)/\l.length<=20:=by
  have p19:(10:Nat) ^ 19=10000000000000000000:=by decide
  by_cases h0:0<=m
  .obtain ⟨k,rfl⟩:=wN h0
   have:=hl k (by omega);exact ⟨_,ze0 k,XU k,λa ha=>.inr (Yd k a ha),by omega⟩
  .obtain ⟨k,rfl⟩:∃ k:Nat,m=-((k+1:Nat):Int):=⟨(-m-1).toNat,by omega⟩
   have:=hl (k+1) (by omega);refine ⟨_,zez k,by simp,λa ha=>?_,by rw [x2x];omega⟩;rcases sM.mp ha with rfl | ha
   .exact .inl rfl
   .exact .inr (Yd (k+1) a ha)
 obtain ⟨l,e,ne,ha,hl⟩:=key;have zl:=yT (numS m);refine ⟨λz=>?_,λz=>?_,?_,.inr (.inr ⟨by rw [e];exact ne,λa m=>?_⟩),by rw [zl,e];exact hl⟩
 .rw [z] at e
  have:=ha 40 (by rw [← e];decide);omega
 .rw [z] at e
  have:=ha 104 (by rw [← e];decide);omega
 .rw [vc]
  intro q;unfold Z1 at q;simp only [uE] at q
  obtain ⟨a,ma⟩:∃ a,a∈l:=by
   cases l with
   | nil=>exact absurd rfl ne
   | cons a l=>exact ⟨a,x0z⟩
  have h3:=uM.mp q.2.1 a (by show a∈lt' (numS m);rw [e];exact ma);rw [XB,XO] at h3;obtain ⟨i,_,ei⟩:=tW.mp (of_decide_eq_true h3);have:=ha a ma;omega
 .have:=ha a (by rw [← e];exact m)
  omega
def pf_num {R:Rdg} {m:Int} (h1:-9223372036854775808<=m) (h2:m<=9223372036854775807) (n:Nat) (r:Jf):zZ R n (numS m::r)=.ok (.num m,r):=by
 obtain ⟨a,b,c,_⟩:=Zb h1 h2;unfold zZ;rw [if_neg a,if_neg b,if_neg (by rw [c];decide),Yo h1 h2]
def zfw {R:Rdg} {n:Nat} {ws r:Jf} {f:F2.Fm} (h:Ya R (zZ R n) (ws++(")":Str)::r)=.ok (f,")"::r)):zZ R (n+1) ("("::(ws++(")":Str)::r))=.ok (f,r):=by
 unfold zZ;rw [if_pos rfl];show (Ya R (zZ R n) (ws++(")":Str)::r)).bind _=_;rw [h];simp [Except.bind,pWord]
mutual
def DueAt (H:Hp):F2.Fm->Ad->Prop
 | .num n,x=>H x=Z (.tup [.str "number",.int n])
 | .here,x=>H x=Z (.tup [.str "here"])
 | .cell r,x=>H x=Z (.tup [.str "cell",.int r])
 | .loc a,x=>H x=Z (.tup [.str "local",.int a])
 | .shi r b o,x=>H x=Z (.tup [.str "shift",.int r,.int b,.int o])
 | .at' r p,x=>∃ y,H x=Z (.tup [.str "at",.int r,.ref y])/\DueAt H p y
 | .pair sg l r,x=>∃ y z,H x=Z (.tup [.str "pair",.str sg,.ref y,.ref z])/\DueAt H l y/\DueAt H r z
 | .cho t l r,x=>∃ u y z,H x=Z (.tup [.str "choice",.ref u,.ref y,.ref z])/\DueAt H t u/\DueAt H l y/\DueAt H r z
 | .call a hs,x=>∃ l ys,H x=Z (.tup [.str "call",.int a,.ref l])/\H l=Z (.lst (ys.map V.ref))/\DuesAt H hs ys
def DuesAt (H:Hp):F2.Fms->Jg->Prop
 | .nil,ys=>ys=[]
 | .cons f r,ys=>∃ y t,ys=y::t/\DueAt H f y/\DuesAt H r t
end
mutual
theorem DueAt.same {H H':Hp} (s:Same H H'):∀ {F:F2.Fm} {x:Ad},DueAt H F x->DueAt H' F x
 | .num _,_,h=>s _ _ h
 | .here,_,h=>s _ _ h
 | .cell _,_,h=>s _ _ h
 | .shi _ _ _,_,h=>s _ _ h
 | .loc _,_,h=>s _ _ h
 | .at' _ _,_,h=>by obtain ⟨y,h,p⟩:=h;exact ⟨y,s _ _ h,DueAt.same s p⟩
 | .pair _ _ _,_,h=>by obtain ⟨y,z,h,p,q⟩:=h;exact ⟨y,z,s _ _ h,DueAt.same s p,DueAt.same s q⟩
 | .cho _ _ _,_,h=>by obtain ⟨u,y,z,h,o,p,q⟩:=h;exact ⟨u,y,z,s _ _ h,DueAt.same s o,DueAt.same s p,DueAt.same s q⟩
 | .call _ _,_,h=>by obtain ⟨l,ys,h,e,p⟩:=h;exact ⟨l,ys,s _ _ h,s _ _ e,DuesAt.same s p⟩
theorem DuesAt.same {H H':Hp} (s:Same H H'):∀ {F:F2.Fms} {ys:Jg},DuesAt H F ys->DuesAt H' F ys
 | .nil,_,h=>h
 | .cons _ _,_,h=>by obtain ⟨y,t,e,p,q⟩:=h;exact ⟨y,t,e,DueAt.same s p,DuesAt.same s q⟩
end
def KLs (H:Hp) (sr:Jl) (k:Str) (xs:Jn):Prop:=∃ a,zN sr (.inr k)=Z (.ref a)/\H a=Z (.lst xs)
structure KLf (H:Hp) (kd:Ad) (W:Kw):Prop where
 ex:∃ sr,H kd=Z (.dK sr)/\((W.own=Y/\zN sr (.inr "own")=Z .non)∨∃ o,W.own=Z o/\KLs H sr "own" (o.map V.str))/\KLs H sr "names" (W.names.map V.str)/\KLs H sr "near" (W.near.map λk:Nat=>V.int k)/\KLs H sr "far" (W.far.map λk:Nat=>V.int k)
def LfF (W:Kw):F2.Fm->Prop
 | .num _=>True
 | .here=>True
 | .loc _=>W.own≠Y
 | .cell r=>∃ j∈W.near,r=(j:Nat)
 | .shi r _ _=>∃ j∈W.far,r=(j:Nat)
 | _=>False
structure LfOk (W:Kw) (p:Pt):Prop where
 f:LfF W p.F
 o:PtOk W p
 s:p.s=1
 d:p.d=0
 b:p.b<=1
structure LfK (W:Kw):Prop where
 g:∀ z∈W.names++W.own.getD [],NmK z
 nd:W.names.Nodup
 od:(W.own.getD []).Nodup
 near:∀ k∈W.near,k<W.names.length
 far:∀ k∈W.far,k<W.names.length
 n12:W.names.length<=12
 o6:(W.own.getD []).length<=6
 nl:W.near.length<=12
 fl:W.far.length<=12
def Lf.of {W:Kw} {F:F2.Fm} {ws:Jf} {b:Nat} (hf:LfF W F) (hb:b<=1) (rd:∀ n r,b<=n->zZ W.R n (ws++r)=.ok (F,r)) (h1:∀ S,F2.sz S F=1) (h2:∀ S,F2.dp S F=0) (h3:∀ n,F2.CL n F) (g:∀ w∈ws,WG w/\w.length<=20) (l:ws.length<=6):LfOk W ⟨ws,F,1,0,b⟩:=by
 have hn:1<=F2.nodes F:=by rw [F2.nodes_eq];omega
 exact ⟨hf,⟨rd,(h1 _).symm,(h2 _).symm,h3 _,g,(by show ws.length<=6*F2.nodes F;omega),(by show (1:Int)<=60;decide),(by show (0:Int)<=7;decide),(by show b<=30;omega)⟩,U,U,hb⟩
def lf_here {W:Kw}:LfOk W ⟨["here"],.here,1,0,0⟩:=Lf.of trivial (by decide) (λn r _=>pf_here _ n r) (λ_=>by unfold F2.sz;rfl) (λ_=>by unfold F2.dp;rfl) (λ_=>by unfold F2.CL;trivial) (λw m=>by cases sG.mp m;exact ⟨.inr (.inr ⟨by decide,by unfold SgnN;decide⟩),by decide⟩) (by decide)
def lf_num {W:Kw} {m:Int} (h1:-9223372036854775808<=m) (h2:m<=9223372036854775807):LfOk W ⟨[numS m],.num m,1,0,0⟩:=Lf.of trivial (by decide) (λn r _=>pf_num h1 h2 n r) (λ_=>by unfold F2.sz;rfl) (λ_=>by unfold F2.dp;rfl) (λ_=>by unfold F2.CL;trivial) (λw m=>by cases sG.mp m;exact (Zb h1 h2).2.2.2) (by show 1<=6;decide)
def NmK.wl {z:Str} (h:NmK z):WG z/\z.length<=20:=⟨h.1.wg,tE h.1.2.2 (by decide)⟩
def lf_loc {W:Kw} {o:Jf} {i:Nat} {z:Str} (h:LfK W) (ho:W.own=Z o) (e:o[i]?=Z z):LfOk W ⟨[z],.loc i,1,0,0⟩:=by
 have hz:=h.g z (x1y _ (by rw [ho];exact sP e));have od:o.Nodup:=by have:=h.od;rw [ho] at this;exact this
 refine Lf.of (by show W.own≠Y;rw [ho];exact λz=>by cases z) (by decide) (λn r _=>pf_name hz ?_ n r) (λ_=>by unfold F2.sz;rfl) (λ_=>by unfold F2.dp;rfl) (λ_=>by unfold F2.CL;trivial) (λw m=>by cases sG.mp m;exact hz.wl) (by show 1<=6;decide);unfold Xb Kw.R;rw [ho];show (match plc z o with | some i=>vy (F2.Fm.loc i) | none=>Except.error Er.noName)=_;rw [Zx od e]
def lf_cell {W:Kw} {i:Nat} {z:Str} (h:LfK W) (hi:i∈W.near) (ho:W.own=Y) (e:W.names[i]?=Z z):LfOk W ⟨[z],.cell i,1,0,0⟩:=by
 have hz:=h.g z (uv _ (sP e));refine Lf.of ⟨i,hi,U⟩ (by decide) (λn r _=>pf_name hz ?_ n r) (λ_=>by unfold F2.sz;rfl) (λ_=>by unfold F2.dp;rfl) (λ_=>by unfold F2.CL;trivial) (λw m=>by cases sG.mp m;exact hz.wl) (by show 1<=6;decide);unfold Xb Kw.R;rw [ho];show (match plc z W.names with | some i=>vy (F2.Fm.cell i) | none=>Except.error Er.noName)=_;rw [Zx h.nd e]
def XL {R:Rdg} {z:Str} {i:Nat} (h:NmK z) (e:plc z R.rows=Z i) (r:Jf):Xa R (z::r)=.ok (i,r):=by
 unfold Xa YV;dsimp only;rw [if_pos h.nm];show (match plc z R.rows with | some i=>vy (i,r) | none=>.error .noName:Pr Nat)=_;rw [e]
def XM {lo hi m:Int} (h1:-9223372036854775808<=m) (h2:m<=9223372036854775807) (hl:lo<=m) (hh:m<=hi) (r:Jf):YT lo hi (numS m::r)=.ok (m,r):=by
 unfold YT;dsimp only;rw [Yo h1 h2];show (if lo<=m/\m<=hi then vy (m,r) else .error .bad:Pr Int)=_;rw [if_pos ⟨hl,hh⟩]
def lf_shi {W:Kw} {i:Nat} {z:Str} {b o:Int} (h:LfK W) (hi:i∈W.far) (ho:W.own=Y) (e:W.names[i]?=Z z) (b1:-400<=b) (b2:b<=400) (o1:-9223372036854775808<=o) (o2:o<=9223372036854775807):LfOk W ⟨["(","shift",z,numS b,numS o,")"],.shi i b o,1,0,1⟩:=by
 have hz:=h.g z (uv _ (sP e));refine Lf.of ⟨i,hi,U⟩ (by decide) (λn r hn=>?_) (λ_=>by unfold F2.sz;rfl) (λ_=>by unfold F2.dp;rfl) (λ_=>by unfold F2.CL;trivial) (λw m=>?_) (by show 6<=6;decide)
 .obtain ⟨n,rfl⟩:∃ k,n=k+1:=⟨n-1,by omega⟩
  refine zfw (ws:=["shift",z,numS b,numS o]) ?_;show Ya W.R _ ("shift"::z::numS b::numS o::")"::r)=_;unfold Ya;dsimp only;rw [if_neg (by decide),if_neg (by decide),if_neg (by decide +kernel),if_neg (by rintro ⟨z,_⟩;exact absurd z (by decide)),if_pos ⟨U,ho⟩,XL (R:=W.R) hz (Zx h.nd e)];show (YT (-400) 400 (numS b::numS o::")"::r)).bind _=_;rw [XM (by omega) (by omega) b1 b2];show (YT (-9223372036854775808) 9223372036854775807 (numS o::")"::r)).bind _=_;rw [XM o1 o2 o1 o2];rfl
 .simp only [sM,tM,or_false] at m
  rcases m with rfl | rfl | rfl | rfl | rfl | rfl
  .exact ⟨.inl rfl,by decide⟩
  .exact ⟨.inr (.inr ⟨by decide,by unfold SgnN;decide⟩),by decide⟩
  .exact hz.wl
  .exact (Zb (by omega) (by omega)).2.2.2
  .exact (Zb o1 o2).2.2.2
  .exact ⟨.inr (.inl rfl),by decide⟩
def ext (B H H':Hp):Hp:=λa=>if (H a).isSome=true then B a else H' a
def ZX {B H H':Hp} {a:Ad} (n:H a=Y):ext B H H' a=H' a:=by unfold ext;rw [n];rfl
def Yc {B H H':Hp} (s:Same B H):Same B (ext B H H'):=λa o e=>by unfold ext;rw [s a o e];exact e
theorem ext_sub {B H H':Hp} (s:Same B H) (s':Same H H'):Same (ext B H H') H':=λa o e=>by
 unfold ext at e
 cases z:H a with
 | none=>rw [z] at e;exact e
 | some u=>rw [z] at e;exact s' _ _ (s _ _ e)
def zd4 {B H H':Hp} {L:Jm} (h:Hd B L H) (s:Same H H'):Hd (ext B H H') L H' :=
 ⟨h.nd,λp m=>by unfold ext;rw [h.st p m];exact h.nw p m,λp m=>s _ _ (h.st p m),ext_sub h.sm s⟩
structure PtAs' (H:Hp) (x wa da:Ad) (p:Pt):Prop where
 t:H x=Z (.tup [.ref wa,.ref da,.int p.s,.int p.d,.int p.b])
 w:H wa=Z (.lst (p.ws.map V.str))
 d:DueAt H p.F da
def Yq {m:Int} {n:Nat} (h:0<n):∃ k:Nat,m % (n:Int)=k/\k<n:=⟨(m % (n:Int)).toNat,by have:=sZ m (show ((n:Nat):Int)≠0 by omega);omega,by have a:=sZ m (show ((n:Nat):Int)≠0 by omega);have:=sX m (show (0:Int)<(n:Nat) by omega);omega⟩
def yJ {H:Hp} {kd:Ad} {sr:Jl} {k:Str} {v:V} (h:H kd=Z (.dK sr)) (e:zN sr (.inr k)=Z v):DGet H kd (.str k) (Z v):=by rw [← e];exact DGet.k (k:=.inr k) h
inductive spLf (vs:Jn) (H:Hp) (Q:VK) (_:XK):Prop
 | mk (c:Int) (kd:Ad) (W:Kw) (_:vs=[.int c,.ref kd]) (_:KLf H kd W) (_:LfK W) (_:∀ p x H',Same H H'->(∀ B,Same B H->∃ wa da,PtAs' H' x wa da p/\PtAs' (ext B H H') x wa da p)->LfOk W p->Q (.ref x) H')
def za2 {H J H1 H2 H3:Hp} {wl dl t:Ad} {p:Pt} (sJ:Same H J) (e1:upd J wl (.lst (p.ws.map V.str))=H1) (n1:J wl=Y) {o:HO} (e2:upd H1 dl o=H2) (n2:H1 dl=Y) (d2:∀ X:Hp,X dl=Z o->DueAt X p.F dl) (e3:upd H2 t (.tup [.ref wl,.ref dl,.int p.s,.int p.d,.int p.b])=H3) (n3:H2 t=Y):Same H H3/\∀ B,Same B H->∃ wa da,PtAs' H3 t wa da p/\PtAs' (ext B H H3) t wa da p:=by
 obtain ⟨s1,a1⟩:=yU e1 n1;obtain ⟨s2,a2⟩:=yU e2 n2;obtain ⟨s3,a3⟩:=yU e3 n3;have z1:H wl=Y:=sJ.free n1;have z2:H dl=Y:=sJ.free (s1.free n2);have z3:H t=Y:=sJ.free (s1.free (s2.free n3));refine ⟨sJ.trans (s1.trans (s2.trans s3)),λB _=>⟨wl,dl,⟨a3,s3 _ _ (s2 _ _ a1),d2 _ (s3 _ _ a2)⟩,⟨?_,?_,d2 _ ?_⟩⟩⟩
 .rw [ZX z3];exact a3
 .rw [ZX z1];exact s3 _ _ (s2 _ _ a1)
 .rw [ZX z2];exact s3 _ _ a2
def zf4 (d:zj K mg "_law_leaf_by" ZP Ur) (hlen:mg "len"=Y) (hstr:mg "str"=Y) (MX:Ok P w K mg base (CXe P w base) 1 "_law_mixed" Uu spMx) (NB:Ok P w K mg base CX0 1 "_law_number_by" UR spNb):Ok P w K mg base CX0 2 "_law_leaf_by" Ur spLf:=by
 refine oDf d sc_l_leaf_by λf sA A _ s H vs Q E hr h=>?_;obtain ⟨c,kd,W,rfl,KL,LK,q⟩:=h;have hr1:Room 1 _:=hr;have hu:=tK (tO (show 1<=64 by decide) _) hr.units;have nd:=sc_l_leaf_by.nd;obtain ⟨sr,ek,ko,⟨na,vn,en⟩,⟨ne,vne,ene⟩,⟨fa,vfa,efa⟩⟩:=KL.ex;refine ⟨_,(zb (oRz 2 nd (zq zI (pv 0) zd))
   (zb (oRz 3 nd (zq zT (pv 0) zd))
   (zb (oRz 4 nd (zo MX hr1 (by rfl) zU (za (pv 3) (za zd zc))))
   (zb (zB (zp zP (pv 2) zd (zw _)) (ze (zm (yb (za (zJ (za zn zc)) (za (yb (za zn zc)) (za zd (za zd (za zd zc)))))))) zk)
   (zb (yx (zB (zp zaj (zH hu (pv 1) zn (λ_ _=>rfl)) yK (zw _)) (ze (zB (yv (zp ZV (pv 2) zd (zw _)) (yc (zp ZV (zh zr (by rfl) hlen sU (za (zH hu (pv 1) zn (λ_ _=>rfl)) zc)) zd (zw _)))).pt (zb (oRz 5 nd (zq zI (pv 3) (zh zr (by rfl) hlen sU (za (zH hu (pv 1) zn (λ_ _=>rfl)) zc))))
   (ze (zm (yb (za (zJ (za (zx zD (zH hu (pv 1) zn (λ_ _=>rfl)) (pv 5) (λ_ _=>rfl)) zc)) (za (yb (za zn (za (pv 5) zc))) (za zd (za zd (za zd zc))))))))) zk)) (ze (zB (yv (zp zP (pv 2) zd (zw _)) (yc (zp ZV (zh zr (by rfl) hlen sU (za (zH hu (pv 1) zn (λ_ _=>rfl)) zc)) zd (zw _)))).pt (zb (oRz 6 nd (zx zD (zH hu (pv 1) zn (λ_ _=>rfl)) (zq zI (pv 3) (zh zr (by rfl) hlen sU (za (zH hu (pv 1) zn (λ_ _=>rfl)) zc))) (λ_ _=>rfl)))
   (ze (zm (yb (za (zJ (za (zx zD (zH hu (pv 1) zn (λ_ _=>rfl)) (pv 6) (λ_ _=>rfl)) zc)) (za (yb (za zn (za (pv 6) zc))) (za zd (za zd (za zd zc))))))))) (ze (zB (yv (zp zP (pv 2) zd (zw _)) (yc (zp ZV (zh zr (by rfl) hlen sU (za (zH hu (pv 1) zn (λ_ _=>rfl)) zc)) zd (zw _)))).pt (zb (oRz 6 nd (zx zD (zH hu (pv 1) zn (λ_ _=>rfl)) (zq zI (pv 3) (zh zr (by rfl) hlen sU (za (zH hu (pv 1) zn (λ_ _=>rfl)) zc))) (λ_ _=>rfl)))
   (zb (oRz 7 nd (zq Xc (zq zI (pv 4) zd) zd))
   (zb (oRz 8 nd (zo NB hr1 (by rfl) zv (za (zq zT (pv 3) zd) zc)))
   (zb (oRz 9 nd (zJ (za zn (za zn (za (zx zD (zH hu (pv 1) zn (λ_ _=>rfl)) (pv 6) (λ_ _=>rfl)) (za (z8 yI (by rfl) hstr up (za (pv 7) zc)) (za (z8 yI (by rfl) hstr up (za (pv 8) zc)) (za zn zc))))))))
   (ze (zm (yb (za (pv 9) (za (yb (za zn (za (pv 6) (za (pv 7) (za (pv 8) zc))))) (za zd (za zd (za zd zc)))))))))))) zk))))))
   (zb (oRz 10 nd (zo NB hr1 (by rfl) zv (za (pv 3) zc)))
   (ze (zm (yb (za (zJ (za (z8 yI (by rfl) hstr up (za (pv 10) zc)) zc)) (za (yb (za zn (za (pv 10) zc))) (za zd (za zd (za zd zc)))))))))))))),?_⟩
 refine ⟨_,U,_,_,U,U,(by show (0:Int)<4;decide),_,U,_,_,U,U,⟨by decide,by decide⟩,_,U,_,_,U,λmx mxp mxl=>?_⟩;have h4:0<=c % 4/\c % 4<4:=⟨sZ _ (by decide),sX _ (by decide)⟩;generalize c % 4=how at h4;generalize c / 4=rest;refine ⟨_,U,U,_,U,?_⟩;refine yu (λ_=>?_) (λe1=>?_)
 .refine ⟨szU 1,λwl nwl=>⟨szU 1,λdl ndl=>⟨szU 5,λt nt=>?_⟩⟩⟩
  have:=za2 (p:=⟨["here"],.here,1,0,0⟩) (Same.refl _) rfl nwl rfl ndl (λX e=>e) rfl nt;exact q _ t _ this.1 this.2 lf_here
 have SL:(1000:Nat)<sizeLine:=by decide
 refine ⟨λσ J=>σ=[iq c,rq kd,iq how,iq rest,iq mx,Y,Y,Y,Y,Y,Y]/\J=H,?_,?_⟩
 .rcases ko with ⟨eo,vo⟩ | ⟨o,eo,oa,vo,eoa⟩
  .refine ⟨_,U,kd,_,U,yJ ek vo,U,_,U,?_⟩
   refine zy ⟨_,U,U,_,U,?_⟩;refine yu (λe2=>?_) (λe2=>zy ?_)
   .refine ⟨_,U,kd,_,U,yJ ek vne,ne,_,U,.inl (SqL.of ene),_,_,U,U,_,U,?_⟩
    rw [Ji];refine yu (λl0=>?_) (λ_=>?_)
    .have l0:0<W.near.length:=by have:=of_decide_eq_true l0;omega
     obtain ⟨k,ekk,kl⟩:=Yq (m:=rest) l0;obtain ⟨r,er⟩:∃ r,W.near[k]?=Z r:=⟨_,sI kl⟩;have rl:=LK.near r (sP er);obtain ⟨z,ez⟩:∃ z,W.names[r]?=Z z:=⟨_,sI rl⟩;refine ⟨_,U,kd,_,U,yJ ek vne,_,U,_,U,kd,_,U,yJ ek vne,ne,_,U,.inl (SqL.of ene),_,_,U,U,by rw [Ji];omega,ne,_,_,_,U,U,SqL.of ene,by rw [Ji,ekk];exact zM (by rw [sN,er];rfl),?_⟩;refine ⟨_,U,kd,_,U,yJ ek vn,_,U,na,_,_,_,U,U,SqL.of en,zM (by rw [sN,ez];rfl),szU 1,λwl nwl=>⟨_,U,szU 2,λdl ndl=>⟨szU 5,λt nt=>?_⟩⟩⟩;have:=za2 (p:=⟨[z],.cell r,1,0,0⟩) (Same.refl _) rfl nwl rfl ndl (λX e=>e) rfl nt;exact q _ t _ this.1 this.2 (lf_cell LK (sP er) eo ez)
    .refine ⟨_,U,U,_,U,?_⟩
     have e2:how=2:=V.int.inj (of_decide_eq_true e2);rw [decide_eq_false (λz=>by have:=V.int.inj z;omega)];exact zy (zy ⟨U,U⟩)
   .refine ⟨_,U,U,_,U,?_⟩
    refine yu (λe3=>?_) (λe3=>zy ⟨U,U⟩);refine ⟨_,U,kd,_,U,yJ ek vfa,fa,_,U,.inl (SqL.of efa),_,_,U,U,_,U,?_⟩;rw [Ji];refine yu (λl0=>?_) (λ_=>⟨U,U⟩);have l0:0<W.far.length:=by have:=of_decide_eq_true l0;omega
    obtain ⟨k,ekk,kl⟩:=Yq (m:=rest) l0;obtain ⟨r,er⟩:∃ r,W.far[k]?=Z r:=⟨_,sI kl⟩;have rl:=LK.far r (sP er);obtain ⟨z,ez⟩:∃ z,W.names[r]?=Z z:=⟨_,sI rl⟩;refine ⟨_,U,kd,_,U,yJ ek vfa,_,U,_,U,kd,_,U,yJ ek vfa,fa,_,U,.inl (SqL.of efa),_,_,U,U,by rw [Ji];omega,fa,_,_,_,U,U,SqL.of efa,by rw [Ji,ekk];exact zM (by rw [sN,er];rfl),?_⟩;refine ⟨_,U,_,_,U,U,(by show (0:Int)<801;decide),_,_,U,U,?_⟩;have h8:0<=mx % 801/\mx % 801<801:=⟨sZ _ (by decide),sX _ (by decide)⟩;obtain ⟨by',eby,b1,b2⟩:∃ by':Int,mx % 801-400=by'/\-400<=by'/\by'<=400:=⟨_,U,by omega,by omega⟩
    rw [eby];refine ⟨_,U,_,_,U,U,⟨by decide,by decide⟩,_,U,λn J n1 n2 sJ=>?_⟩;refine ⟨_,U,kd,_,U,yJ (sJ _ _ ek) vn,_,U,na,_,_,_,U,U,SqL.of (sJ _ _ en),zM (by rw [sN,ez];rfl),_,U,by',U,by omega,by omega,_,U,n,U,by omega,by omega,szU 6,λwl nwl=>?_⟩;refine ⟨_,U,_,U,_,U,_,U,szU 4,λdl ndl=>⟨szU 5,λt nt=>?_⟩⟩;have:=za2 (p:=⟨["(","shift",z,numS by',numS n,")"],.shi r by' n,1,0,1⟩) sJ rfl nwl rfl ndl (λX e=>e) rfl nt;exact q _ t _ this.1 this.2 (lf_shi LK (sP er) eo ez b1 b2 n1 n2)
  .refine ⟨_,U,kd,_,U,yJ ek vo,U,_,U,?_⟩
   refine zL ⟨_,U,_,_,U,U,_,U,?_⟩;refine yu (λe2=>?_) (λe2=>zy ⟨U,U⟩);refine ⟨_,U,kd,_,U,yJ ek vo,oa,_,U,.inl (SqL.of eoa),_,_,U,U,_,U,?_⟩;rw [Ji];refine yu (λl0=>?_) (λ_=>⟨U,U⟩);have l0:0<o.length:=by have:=of_decide_eq_true l0;omega
   obtain ⟨k,ekk,kl⟩:=Yq (m:=rest) l0;obtain ⟨z,ez⟩:∃ z,o[k]?=Z z:=⟨_,sI kl⟩;refine ⟨_,U,_,U,kd,_,U,yJ ek vo,oa,_,U,.inl (SqL.of eoa),_,_,U,U,by rw [Ji];omega,?_⟩;rw [Ji,ekk];refine ⟨_,U,kd,_,U,yJ ek vo,_,U,oa,_,_,_,U,U,SqL.of eoa,zM (by rw [sN,ez];rfl),szU 1,λwl nwl=>⟨_,U,szU 2,λdl ndl=>⟨szU 5,λt nt=>?_⟩⟩⟩;have:=za2 (p:=⟨[z],.loc k,1,0,0⟩) (Same.refl _) rfl nwl rfl ndl (λX e=>e) rfl nt;exact q _ t _ this.1 this.2 (lf_loc LK eo ez)
 .rintro σ J ⟨rfl,rfl⟩
  refine ⟨_,U,_,U,λn J n1 n2 sJ=>?_⟩;refine ⟨_,U,n,U,by omega,by omega,szU 1,λwl nwl=>⟨_,U,szU 2,λdl ndl=>⟨szU 5,λt nt=>?_⟩⟩⟩;have:=za2 (p:=⟨[numS n],.num n,1,0,0⟩) sJ rfl nwl rfl ndl (λX e=>e) rfl nt;exact q _ t _ this.1 this.2 (lf_num n1 n2)
structure LikeG (mg:J0) (c:F2.Cs) (CF:Ad):Prop where
 nu:mg "Number"=Z (.ref c.num)
 he:mg "Here"=Z (.ref c.here)
 ce:mg "Cell"=Z (.ref c.cell)
 lo:mg "Local"=Z (.ref c.loc)
 sh:mg "Shifted"=Z (.ref c.shi)
 at_:mg "At"=Z (.ref c.at')
 pa:mg "Pair"=Z (.ref c.pair)
 co:mg "Choice"=Z (.ref c.cho)
 ca:mg "Call"=Z (.ref c.call)
 fo:mg "Form"=Z (.ref CF)
structure LikeK (K:Fg) (c:F2.Cs) (CF:Ad):Prop where
 L:LooksK K c
 num:sC K (.ref c.num) (.ref c.num)=Z true
 here:sC K (.ref c.here) (.ref c.here)=Z true
 cell:sC K (.ref c.cell) (.ref c.cell)=Z true
 shi:sC K (.ref c.shi) (.ref c.shi)=Z true
 loc:sC K (.ref c.loc) (.ref c.loc)=Z true
 fn:sC K (.ref c.num) (.ref CF)=Z true
 fh:sC K (.ref c.here) (.ref CF)=Z true
 fc:sC K (.ref c.cell) (.ref CF)=Z true
 fs:sC K (.ref c.shi) (.ref CF)=Z true
 fl:sC K (.ref c.loc) (.ref CF)=Z true
 fa:sC K (.ref c.at') (.ref CF)=Z true
 fp:sC K (.ref c.pair) (.ref CF)=Z true
 fo:sC K (.ref c.cho) (.ref CF)=Z true
 fk:sC K (.ref c.call) (.ref CF)=Z true
 nN:NoAttr K c.num "number"
 cR:NoAttr K c.cell "row"
 lA:NoAttr K c.loc "at"
 sR:NoAttr K c.shi "row"
 sB:NoAttr K c.shi "by"
 sO:NoAttr K c.shi "other"
 aR:NoAttr K c.at' "row"
 pS:NoAttr K c.pair "sign"
def spIs:Sp:=λvs H Q _=>∃ n:Int,vs=[.int n,.int n]/\Q (.bl true) H
def ok_is (d:zj K mg "_law_is" zda Ub) (WH:Ok P w K mg base (CXe P w base) 1 "_law_whole" ["_law_found"] (sp1 λ_=>.bl true)):Ok P w K mg base (CXe P w base) 2 "_law_is" Ub spIs:=by
 refine oDe d sc_l_is λf sA A _ s H vs Q E hr h=>?_;obtain ⟨n,rfl,q⟩:=h;have hr1:Room 1 _:=hr;have nd:=sc_l_is.nd;refine ⟨_,(ze (zm (yH (zo WH hr1 (by rfl) zU (za (pv 0) zc)) (yD (ym zP (pv 0) (pv 1) (zw _)))))),?_⟩;refine ⟨_,U,n,U,true,U,zL ⟨_,U,_,U,U,?_⟩⟩;rw [decide_eq_true rfl];exact q
def isLeaf:F2.Fm->Bool
 | .num _=>true
 | .here=>true
 | .cell _=>true
 | .shi _ _ _=>true
 | .loc _=>true
 | _=>false
inductive spLL (c:F2.Cs) (vs:Jn) (H:Hp) (Q:VK) (_:XK):Prop
 | mk (x y:Ad) (G:F2.Fm) (_:vs=[.ref x,.ref y]) (_:F2.FormAt c H G x) (_:DueAt H G y) (_:isLeaf G=true) (_:Q (.bl true) H)
def zdv {c:F2.Cs} {CF:Ad} (d:zj K mg "_law_like_leaf" xW Ue) (hisi:mg "isinstance"=Y) (G:LikeG mg c CF) (L:LikeK K c CF) (IS:Ok P w K mg base (CXe P w base) 2 "_law_is" Ub spIs):Ok P w K mg base (CXe P w base) 3 "_law_like_leaf" Ue (spLL c):=by
 refine oDe d sc_l_like_leaf λf sA A _ s H vs Q E hr h=>?_;obtain ⟨x,y,X,rfl,hx,hy,hl,q⟩:=h;have hr2:Room 2 _:=hr;have nd:=sc_l_like_leaf.nd;refine ⟨_,(zb (zB (zp zP (zx zE (pv 1) zd (λ_ _=>rfl)) zn (zw _)) (ze (zm (yH (zh zA (by rfl) hisi sF (za (pv 0) (za (zK G.nu) zc))) (yD (zo IS hr2 (by rfl) zU (za (zu (pv 0) rfl) (za (zx zE (pv 1) zd (λ_ _=>rfl)) zc))))))) zk)
   (zb (zB (zp zP (zx zE (pv 1) zd (λ_ _=>rfl)) zn (zw _)) (ze (zm (zh zA (by rfl) hisi sF (za (pv 0) (za (zK G.he) zc))))) zk)
   (zb (zB (zp zP (zx zE (pv 1) zd (λ_ _=>rfl)) zn (zw _)) (ze (zm (yH (zh zA (by rfl) hisi sF (za (pv 0) (za (zK G.ce) zc))) (yD (zo IS hr2 (by rfl) zU (za (zu (pv 0) rfl) (za (zx zE (pv 1) zd (λ_ _=>rfl)) zc))))))) zk)
   (zb (zB (zp zP (zx zE (pv 1) zd (λ_ _=>rfl)) zn (zw _)) (ze (zm (yH (zh zA (by rfl) hisi sF (za (pv 0) (za (zK G.lo) zc))) (yD (zo IS hr2 (by rfl) zU (za (zu (pv 0) rfl) (za (zx zE (pv 1) zd (λ_ _=>rfl)) zc))))))) zk)
   (zb (zB (xM (zW (zG (zh zA (by rfl) hisi sF (za (pv 0) (za (zK G.sh) zc))))) (yS (zW (zG (zo IS hr2 (by rfl) zU (za (zu (pv 0) rfl) (za (zx zE (pv 1) zd (λ_ _=>rfl)) zc))))))).pt (ze (zm yE)) zk)
   (ze (zm (yH (zo IS hr2 (by rfl) zU (za (zu (pv 0) rfl) (za (zx zE (pv 1) zd (λ_ _=>rfl)) zc))) (yD (zo IS hr2 (by rfl) zU (za (zu (pv 0) rfl) (za (zx zE (pv 1) zd (λ_ _=>rfl)) zc)))))))))))),?_⟩
 show (let s1:L2.TS:=_;let s2:L2.TS:=L2.tSeq _ s1;let s3:L2.TS:=L2.tSeq _ s2;let s4:L2.TS:=L2.tSeq _ s3;let s5:L2.TS:=L2.tSeq _ s4;L2.tSeq _ s5 _ _ _);intro s1 s2 s3 s4 s5
 cases X with
 | num n =>
  obtain ⟨dx,ex⟩:=hx;have ey:H y=Z (.tup [.str "number",.int n]):=hy;refine ⟨_,U,y,_,_,_,U,U,SqT.of ey,U,U,_,U,zL ?_⟩;refine ⟨_,U,_,_,.ref c.num,_,true,U,U,(λu r=>r),L.L.num.ty ex,L.num,true,U,zL ?_⟩;exact ⟨_,U,x,c.num,dx,_,_,U,ex,L.L.num.cl,L.nN,U,_,U,y,_,_,_,U,U,SqT.of ey,U,n,U,q⟩
 | here =>
  obtain ⟨dx,ex⟩:=hx;have ey:H y=Z (.tup [.str "here"]):=hy;refine ⟨_,U,y,_,_,_,U,U,SqT.of ey,U,U,_,U,zy ?_⟩;refine ⟨_,U,y,_,_,_,U,U,SqT.of ey,U,U,_,U,zL ?_⟩;exact ⟨_,U,_,_,.ref c.here,_,true,U,U,(λu r=>r),L.L.here.ty ex,L.here,q⟩
 | cell r =>
  obtain ⟨dx,ex⟩:=hx;have ey:H y=Z (.tup [.str "cell",.int r]):=hy;refine ⟨_,U,y,_,_,_,U,U,SqT.of ey,U,U,_,U,zy ?_⟩;refine ⟨_,U,y,_,_,_,U,U,SqT.of ey,U,U,_,U,zy ?_⟩;refine ⟨_,U,y,_,_,_,U,U,SqT.of ey,U,U,_,U,zL ?_⟩;refine ⟨_,U,_,_,.ref c.cell,_,true,U,U,(λu r=>r),L.L.cell.ty ex,L.cell,true,U,zL ?_⟩;exact ⟨_,U,x,c.cell,dx,_,_,U,ex,L.L.cell.cl,L.cR,U,_,U,y,_,_,_,U,U,SqT.of ey,U,r,U,q⟩
 | loc r =>
  obtain ⟨dx,ex⟩:=hx;have ey:H y=Z (.tup [.str "local",.int r]):=hy;refine ⟨_,U,y,_,_,_,U,U,SqT.of ey,U,U,_,U,zy ?_⟩;refine ⟨_,U,y,_,_,_,U,U,SqT.of ey,U,U,_,U,zy ?_⟩;refine ⟨_,U,y,_,_,_,U,U,SqT.of ey,U,U,_,U,zy ?_⟩;refine ⟨_,U,y,_,_,_,U,U,SqT.of ey,U,U,_,U,zL ?_⟩;refine ⟨_,U,_,_,.ref c.loc,_,true,U,U,(λu r=>r),L.L.loc.ty ex,L.loc,true,U,zL ?_⟩;exact ⟨_,U,x,c.loc,dx,_,_,U,ex,L.L.loc.cl,L.lA,U,_,U,y,_,_,_,U,U,SqT.of ey,U,r,U,q⟩
 | shi r b o =>
  obtain ⟨dx,ex⟩:=hx;have ey:H y=Z (.tup [.str "shift",.int r,.int b,.int o]):=hy;refine ⟨_,U,y,_,_,_,U,U,SqT.of ey,U,U,_,U,zy ?_⟩;refine ⟨_,U,y,_,_,_,U,U,SqT.of ey,U,U,_,U,zy ?_⟩;refine ⟨_,U,y,_,_,_,U,U,SqT.of ey,U,U,_,U,zy ?_⟩;refine ⟨_,U,y,_,_,_,U,U,SqT.of ey,U,U,_,U,zy ?_⟩;refine ⟨_,U,_,_,.ref c.shi,_,true,U,U,(λu r=>r),L.L.shi.ty ex,L.shi,true,U,zy ?_⟩;refine ⟨_,U,x,c.shi,dx,_,_,U,ex,L.L.shi.cl,L.sR,U,_,U,y,_,_,_,U,U,SqT.of ey,U,r,U,true,U,zy ?_⟩;refine ⟨_,U,x,c.shi,dx,_,_,U,ex,L.L.shi.cl,L.sB,U,_,U,y,_,_,_,U,U,SqT.of ey,U,b,U,true,U,zL ?_⟩;exact ⟨_,U,x,c.shi,dx,_,_,U,ex,L.L.shi.cl,L.sO,U,_,U,y,_,_,_,U,U,SqT.of ey,U,o,U,q⟩
 | at' r p=>cases hl
 | pair s l r=>cases hl
 | cho t l r=>cases hl
 | call a gs=>cases hl
def xP (G:F2.Fm):1<=F2.nodes G:=by rw [F2.nodes_eq];omega
theorem zcj {c:F2.Cs} {H:Hp}:∀ {gs:F2.Fms} {ys ds:Jg} {i:Nat},F2.FormsAt c H gs ys->DuesAt H gs ds->i<ys.length->∃ g y d,ys[i]?=Z y/\ds[i]?=Z d/\F2.FormAt c H g y/\DueAt H g d/\F2.nodes g<=F2.nodesL gs
 | .nil,ys,ds,i,h,_,hi=>by cases (show ys=[] from h);exact absurd hi (Nat.not_lt_zero _)
 | .cons f r,ys,ds,i,h,k,hi=>by
  obtain ⟨y,t,rfl,a,b⟩:=h;obtain ⟨d,u,rfl,a',b'⟩:=k;have en:F2.nodesL (.cons f r)=F2.nodes f+F2.nodesL r:=by rw [F2.nodesL_eq,F2.nodesL_eq];rfl
  match i,hi with
  | 0,_=>exact ⟨f,y,d,U,U,a,a',by omega⟩
  | i+1,hi =>
   obtain ⟨g,y',d',e1,e2,e3,e4,e5⟩:=zcj (i:=i) b b' (Nat.lt_of_succ_lt_succ hi);exact ⟨g,y',d',e1,e2,e3,e4,by omega⟩
theorem zfc {H:Hp}:∀ {gs:F2.Fms} {ds:Jg},DuesAt H gs ds->ds.length=gs.len
 | .nil,ds,h=>by cases (show ds=[] from h);rfl
 | .cons f r,ds,h=>by
  obtain ⟨d,u,rfl,_,b⟩:=h;show u.length+1=r.len+1;rw [zfc b]
inductive spLi (c:F2.Cs) (n:Nat) (vs:Jn) (H:Hp) (Q:VK) (_:XK):Prop
 | mk (x y:Ad) (G:F2.Fm) (_:vs=[.ref x,.ref y]) (_:F2.FormAt c H G x) (_:DueAt H G y) (_:F2.nodes G<=n) (_:Q (.bl true) H)
def zf3 {c:F2.Cs} {CF:Ad} {n k:Nat} (hk:3<=k) (hn:n<=100) (d:zj K mg "_law_like" Yi Ue) (hisi:mg "isinstance"=Y) (hlist:mg "list"=Y) (hstr:mg "str"=Y) (hlen:mg "len"=Y) (hrg:mg "range"=Y) (kl:sC K (.type "list") (.type "list")=Z true) (ks:sC K (.type "str") (.type "str")=Z true) (G:LikeG mg c CF) (L:LikeK K c CF) (IS:Ok P w K mg base (CXe P w base) 2 "_law_is" Ub spIs) (LL:Ok P w K mg base (CXe P w base) 3 "_law_like_leaf" Ue (spLL c)) (LI:Ok P w K mg base CX0 k "_law_like" Ue (spLi c n)):Ok P w K mg base CX0 (k+1) "_law_like" Ue (spLi c (n+1)):=by
 refine oDf d sc_l_like λf sA A _ s H vs Q E hr h=>?_;obtain ⟨x,y,X,rfl,hx,hy,hl,q⟩:=h;have hrk:Room k _:=hr;have hr3:Room 3 _:=hr.mono hk;have hr2:Room 2 _:=hr.mono (by omega);have nd:=sc_l_like.nd;refine ⟨_,(zb (zB (zW (zG (zh zA (by rfl) hisi sF (za (pv 0) (za (zK G.fo) zc))))) (ze (zm yE)) zk)
   (zb (zB (zp zP (zx zE (pv 1) zd (λ_ _=>rfl)) zn (zw _)) (ze (zm (yH (zh zA (by rfl) hisi sF (za (pv 0) (za (zK G.at_) zc))) (yH (zo IS hr2 (by rfl) zU (za (zu (pv 0) rfl) (za (zx zE (pv 1) zd (λ_ _=>rfl)) zc))) (yD (zo LI hrk (by rfl) zv (za (zu (pv 0) rfl) (za (zx zE (pv 1) zd (λ_ _=>rfl)) zc)))))))) zk)
   (zb (zB (zp zP (zx zE (pv 1) zd (λ_ _=>rfl)) zn (zw _)) (zb (zB (xM (zW (zG (zh zA (by rfl) hisi sF (za (pv 0) (za (zK G.pa) zc))))) (xM (zW (zG (zh zA (by rfl) hisi sF (za (zu (pv 0) rfl) (za (Y8 hstr up) zc))))) (yS (zp Yn (zu (pv 0) rfl) (zx zE (pv 1) zd (λ_ _=>rfl)) (zw _))))).pt (ze (zm yE)) zk)
   (ze (zm (yH (zo LI hrk (by rfl) zv (za (zu (pv 0) rfl) (za (zx zE (pv 1) zd (λ_ _=>rfl)) zc))) (yD (zo LI hrk (by rfl) zv (za (zu (pv 0) rfl) (za (zx zE (pv 1) zd (λ_ _=>rfl)) zc)))))))) zk)
   (zb (zB (zp zP (zx zE (pv 1) zd (λ_ _=>rfl)) zn (zw _)) (zb (zB (xM (zW (zG (zh zA (by rfl) hisi sF (za (pv 0) (za (zK G.co) zc))))) (yS (zW (zG (zo LI hrk (by rfl) zv (za (zu (pv 0) rfl) (za (zx zE (pv 1) zd (λ_ _=>rfl)) zc))))))).pt (ze (zm yE)) zk)
   (ze (zm (yH (zo LI hrk (by rfl) zv (za (zu (pv 0) rfl) (za (zx zE (pv 1) zd (λ_ _=>rfl)) zc))) (yD (zo LI hrk (by rfl) zv (za (zu (pv 0) rfl) (za (zx zE (pv 1) zd (λ_ _=>rfl)) zc)))))))) zk)
   (zb (zB (zp Yn (zx zE (pv 1) zd (λ_ _=>rfl)) zn (zw _)) (ze (zm (zo LL hr3 (by rfl) zU (za (pv 0) (za (pv 1) zc))))) zk)
   (zb (zB (xM (zW (zG (zh zA (by rfl) hisi sF (za (pv 0) (za (zK G.ca) zc))))) (yS (zW (zG (zo IS hr2 (by rfl) zU (za (zu (pv 0) rfl) (za (zx zE (pv 1) zd (λ_ _=>rfl)) zc))))))).pt (ze (zm yE)) zk)
   (zb (zB (xM (zW (zG (zh zA (by rfl) hisi sF (za (zu (pv 0) rfl) (za (Y8 hlist tZ) zc))))) (yS (zp Yn (zh zr (by rfl) hlen sU (za (zu (pv 0) rfl) zc)) (zh zr (by rfl) hlen sU (za (zx zE (pv 1) zd (λ_ _=>rfl)) zc)) (zw _)))).pt (ze (zm yE)) zk)
   (zb (Zm tY rfl (yY rfl hrg (za (zh zr (by rfl) hlen sU (za (zx zE (pv 1) zd (λ_ _=>rfl)) zc)) zc)) (oQz 2 nd) (ze (zB (zW (zG (zo LI hrk (by rfl) zv (za (zx zD (zu (pv 0) rfl) (pv 2) (λ_ _=>rfl)) (za (zx zD (zx zE (pv 1) zd (λ_ _=>rfl)) (pv 2) (λ_ _=>rfl)) zc))))) (ze (zm yE)) zk)))
   (ze (zm yE)))))))))),?_⟩
 show (let s1:L2.TS:=_;let s2:L2.TS:=L2.tSeq _ s1;let s3:L2.TS:=L2.tSeq _ s2;let s4:L2.TS:=L2.tSeq _ s3;let s5:L2.TS:=L2.tSeq _ s4;let s6:L2.TS:=L2.tSeq _ s5;let s7:L2.TS:=L2.tSeq _ s6;let s8:L2.TS:=L2.tSeq _ s7;L2.tSeq _ s8 _ _ _);intro s1 s2 s3 s4 s5 s6 s7 s8
 have leaf:isLeaf X=true->∃ (C dx:Ad) (fl:List (Str×V)) (b1 b2 b3 b4:Bool) (t:Str) (vs:Jn),KForm K c C b1 b2 b3 b4/\sC K (.ref C) (.ref CF)=Z true/\H x=Z (.ins C dx fl)/\H y=Z (.tup (.str t::vs))/\t≠"at"/\t≠"pair"/\t≠"choice"/\t≠"call":=by
  intro lf
  cases X with
  | num n=>obtain ⟨dx,ex⟩:=hx;exact ⟨_,_,_,_,_,_,_,_,_,L.L.num,L.fn,ex,hy,by decide,by decide,by decide,by decide⟩
  | here=>obtain ⟨dx,ex⟩:=hx;exact ⟨_,_,_,_,_,_,_,_,_,L.L.here,L.fh,ex,hy,by decide,by decide,by decide,by decide⟩
  | cell r=>obtain ⟨dx,ex⟩:=hx;exact ⟨_,_,_,_,_,_,_,_,_,L.L.cell,L.fc,ex,hy,by decide,by decide,by decide,by decide⟩
  | loc r=>obtain ⟨dx,ex⟩:=hx;exact ⟨_,_,_,_,_,_,_,_,_,L.L.loc,L.fl,ex,hy,by decide,by decide,by decide,by decide⟩
  | shi r b o=>obtain ⟨dx,ex⟩:=hx;exact ⟨_,_,_,_,_,_,_,_,_,L.L.shi,L.fs,ex,hy,by decide,by decide,by decide,by decide⟩
  | _=>cases lf
 by_cases lf:isLeaf X=true
 .obtain ⟨C,dx,fl,b1,b2,b3,b4,t,vs,kf,kC,ex,ey,n1,n2,n3,n4⟩:=leaf lf
  clear leaf;refine ⟨_,U,_,_,.ref CF,_,true,U,U,(λu r=>r),kf.ty ex,kC,true,U,zy ?_⟩;refine ⟨_,U,y,_,_,_,U,U,SqT.of ey,zM (xs:=V.str t::vs) (j:=0) rfl,U,_,U,?_⟩;rw [decide_eq_false (λz=>n1 (V.str.inj z))];refine zy ⟨_,U,y,_,_,_,U,U,SqT.of ey,zM (xs:=V.str t::vs) (j:=0) rfl,U,_,U,?_⟩;rw [decide_eq_false (λz=>n2 (V.str.inj z))];refine zy ⟨_,U,y,_,_,_,U,U,SqT.of ey,zM (xs:=V.str t::vs) (j:=0) rfl,U,_,U,?_⟩;rw [decide_eq_false (λz=>n3 (V.str.inj z))];refine zy ⟨_,U,y,_,_,_,U,U,SqT.of ey,zM (xs:=V.str t::vs) (j:=0) rfl,U,_,U,?_⟩;rw [decide_eq_false (λz=>n4 (V.str.inj z))];exact zL ⟨_,U,_,U,x,y,X,U,hx,hy,lf,q⟩
 clear leaf
 cases X with
 | num n=>exact absurd rfl lf
 | here=>exact absurd rfl lf
 | cell r=>exact absurd rfl lf
 | loc r=>exact absurd rfl lf
 | shi r b o=>exact absurd rfl lf
 | at' r p =>
  clear lf;obtain ⟨dx,y1,ex,hp⟩:=hx;obtain ⟨d1,ey,hd⟩:=hy;have en:F2.nodes (.at' r p)=F2.nodes p+1:=by rw [F2.nodes_eq];show (F2.nodes p+0)+1=_;omega
  refine ⟨_,U,_,_,.ref CF,_,true,U,U,(λu r=>r),L.L.at'.ty ex,L.fa,true,U,zy ?_⟩;refine ⟨_,U,y,_,_,_,U,U,SqT.of ey,U,U,_,U,zL ?_⟩;refine ⟨_,U,_,_,.ref c.at',_,true,U,U,(λu r=>r),L.L.at'.ty ex,L.L.at'.a,true,U,zL ?_⟩;refine ⟨_,U,x,c.at',dx,_,_,U,ex,L.L.at'.cl,L.aR,U,_,U,y,_,_,_,U,U,SqT.of ey,U,r,U,true,U,zL ?_⟩;exact ⟨_,U,x,c.at',dx,_,_,U,ex,L.L.at'.cl,L.L.aP,U,_,U,y,_,_,_,U,U,SqT.of ey,U,y1,d1,p,U,hp,hd,by omega,q⟩
 | pair sg l r =>
  clear lf;obtain ⟨dx,y1,y2,ex,hp1,hp2⟩:=hx;obtain ⟨d1,d2,ey,hd1,hd2⟩:=hy;have en:F2.nodes (.pair sg l r)=F2.nodes l+F2.nodes r+1:=by rw [F2.nodes_eq];show (F2.nodes l+(F2.nodes r+0))+1=_;omega
  have p1:=xP l;have p2:=xP r;refine ⟨_,U,_,_,.ref CF,_,true,U,U,(λu r=>r),L.L.pair.ty ex,L.fp,true,U,zy ?_⟩;refine ⟨_,U,y,_,_,_,U,U,SqT.of ey,U,U,_,U,zy ?_⟩;refine ⟨_,U,y,_,_,_,U,U,SqT.of ey,U,U,_,U,zL ?_⟩;refine ⟨_,U,_,_,.ref c.pair,_,true,U,U,(λu r=>r),L.L.pair.ty ex,L.L.pair.p,true,U,zy ?_⟩;refine ⟨_,U,x,c.pair,dx,_,_,U,ex,L.L.pair.cl,L.pS,U,_,_,.type "str",.type "str",true,U,U,(λu r=>r),.inl (.str _),ks,true,U,zy ?_⟩;refine ⟨_,U,x,c.pair,dx,_,_,U,ex,L.L.pair.cl,L.pS,U,_,U,y,_,_,_,U,U,SqT.of ey,U,U,_,U,?_⟩;rw [decide_eq_true rfl];refine zy ⟨_,U,x,c.pair,dx,_,_,U,ex,L.L.pair.cl,L.L.pL,U,_,U,y,_,_,_,U,U,SqT.of ey,U,y1,d1,l,U,hp1,hd1,by omega,true,U,zL ?_⟩;exact ⟨_,U,x,c.pair,dx,_,_,U,ex,L.L.pair.cl,L.L.pR,U,_,U,y,_,_,_,U,U,SqT.of ey,U,y2,d2,r,U,hp2,hd2,by omega,q⟩
 | cho t l r =>
  clear lf;obtain ⟨dx,y0,y1,y2,ex,hp0,hp1,hp2⟩:=hx;obtain ⟨d0,d1,d2,ey,hd0,hd1,hd2⟩:=hy;have en:F2.nodes (.cho t l r)=F2.nodes t+F2.nodes l+F2.nodes r+1:=by rw [F2.nodes_eq];show (F2.nodes t+(F2.nodes l+(F2.nodes r+0)))+1=_;omega
  have p0:=xP t;have p1:=xP l;have p2:=xP r;refine ⟨_,U,_,_,.ref CF,_,true,U,U,(λu r=>r),L.L.cho.ty ex,L.fo,true,U,zy ?_⟩;refine ⟨_,U,y,_,_,_,U,U,SqT.of ey,U,U,_,U,zy ?_⟩;refine ⟨_,U,y,_,_,_,U,U,SqT.of ey,U,U,_,U,zy ?_⟩;refine ⟨_,U,y,_,_,_,U,U,SqT.of ey,U,U,_,U,zL ?_⟩;refine ⟨_,U,_,_,.ref c.cho,_,true,U,U,(λu r=>r),L.L.cho.ty ex,L.L.cho.o,true,U,zy ?_⟩;refine ⟨_,U,x,c.cho,dx,_,_,U,ex,L.L.cho.cl,L.L.oT,U,_,U,y,_,_,_,U,U,SqT.of ey,U,y0,d0,t,U,hp0,hd0,by omega,true,U,zy ?_⟩;refine ⟨_,U,x,c.cho,dx,_,_,U,ex,L.L.cho.cl,L.L.oL,U,_,U,y,_,_,_,U,U,SqT.of ey,U,y1,d1,l,U,hp1,hd1,by omega,true,U,zL ?_⟩;exact ⟨_,U,x,c.cho,dx,_,_,U,ex,L.L.cho.cl,L.L.oR,U,_,U,y,_,_,_,U,U,SqT.of ey,U,y2,d2,r,U,hp2,hd2,by omega,q⟩
 | call a gs =>
  clear lf;obtain ⟨dx,la,ys,ex,el,hp⟩:=hx;obtain ⟨ld,ds,ey,ed,hd⟩:=hy;have en:F2.nodes (.call a gs)=F2.nodesL gs+1:=by rw [F2.nodes_eq,F2.nodesL_eq];rfl
  have yl:=F2.FormsAt.len hp;have dl:=zfc hd;have ly:(ys.map V.ref).length=ys.length:=vJ ..;have ldd:(ds.map V.ref).length=ys.length:=by rw [Ji];omega
  have gl:∀ gs:F2.Fms,gs.len<=F2.nodesL gs:=λgs=>by
   have:∀ l:List F2.Fm,l.length<=(l.map F2.nodes).sum:=λl=>by
    induction l with
    | nil=>exact sK _
    | cons f l ih=>rw [tz,uJ,x2x];have:=xP f;omega
   have e:∀ gs:F2.Fms,gs.len=gs.toL.length:=λgs=>by
    have key:∀ (n:Nat) (gs:F2.Fms),gs.len<=n->gs.len=gs.toL.length:=λn=>by
     induction n with
     | zero=>intro gs h;cases gs with
      | nil=>rfl
      | cons f r=>exact absurd h (Nat.not_succ_le_zero _)
     | succ n ih=>intro gs h;cases gs with
      | nil=>rfl
      | cons f r=>exact congrArg (·+1) (ih r (Nat.le_of_succ_le_succ h))
    exact key _ gs (sK _)
   rw [e gs,F2.nodesL_eq];exact this _
  have g1:=gl gs;refine ⟨_,U,_,_,.ref CF,_,true,U,U,(λu r=>r),L.L.call.ty ex,L.fk,true,U,zy ?_⟩;refine ⟨_,U,y,_,_,_,U,U,SqT.of ey,U,U,_,U,zy ?_⟩;refine ⟨_,U,y,_,_,_,U,U,SqT.of ey,U,U,_,U,zy ?_⟩;refine ⟨_,U,y,_,_,_,U,U,SqT.of ey,U,U,_,U,zy ?_⟩;refine ⟨_,U,y,_,_,_,U,U,SqT.of ey,U,U,_,U,zy ?_⟩;refine ⟨_,U,_,_,.ref c.call,_,true,U,U,(λu r=>r),L.L.call.ty ex,L.L.call.k,true,U,zy ?_⟩;refine ⟨_,U,x,c.call,dx,_,_,U,ex,L.L.call.cl,L.L.kA,U,_,U,y,_,_,_,U,U,SqT.of ey,U,a,U,true,U,zy ?_⟩;refine ⟨_,U,x,c.call,dx,_,_,U,ex,L.L.call.cl,L.L.kH,U,_,_,.type "list",.type "list",true,U,U,(λu r=>r),.inl (.lst el),kl,true,U,zy ?_⟩;refine ⟨_,U,x,c.call,dx,_,_,U,ex,L.L.call.cl,L.L.kH,U,la,_,U,.inl (SqL.of el),_,U,y,_,_,_,U,U,SqT.of ey,U,ld,_,U,.inl (SqL.of ed),U,_,U,?_⟩;rw [ly,ldd,decide_eq_true rfl];refine zy ⟨_,U,y,_,_,_,U,U,SqT.of ey,U,ld,_,U,.inl (SqL.of ed),_,U,by rw [ldd];omega,by rw [ldd];omega,?_⟩;rw [ldd,q0z];refine Zy (lo:=0) (n:=ys.length) (λi σ H'=>∃ u,σ=[rq x,rq y,u]/\H'=H) ⟨Y,U,U⟩ ?_ ?_
  .rintro i σ H' hi ⟨u,rfl,rfl⟩
   obtain ⟨g,yi,di,e1,e2,e3,e4,e5⟩:=zcj hp hd hi;have i0:(0:Int)+(i:Int)=((i:Nat):Int):=uG _;rw [i0];refine ⟨_,U,x,c.call,dx,_,_,U,ex,L.L.call.cl,L.L.kH,U,_,U,la,_,_,_,U,U,SqL.of el,zM (by rw [sN,e1];rfl),?_⟩;refine ⟨_,U,y,_,_,_,U,U,SqT.of ey,U,_,U,ld,_,_,_,U,U,SqL.of ed,zM (by rw [sN,e2];rfl),yi,di,g,U,e3,e4,by omega,true,U,zy ?_⟩;exact ⟨_,U,U⟩
  .rintro σ H' ⟨u,rfl,rfl⟩
   exact q
theorem ok_like {c:F2.Cs} {CF:Ad} (d:zj K mg "_law_like" Yi Ue) (hisi:mg "isinstance"=Y) (hlist:mg "list"=Y) (hstr:mg "str"=Y) (hlen:mg "len"=Y) (hrg:mg "range"=Y) (kl:sC K (.type "list") (.type "list")=Z true) (ks:sC K (.type "str") (.type "str")=Z true) (G:LikeG mg c CF) (L:LikeK K c CF) (IS:Ok P w K mg base (CXe P w base) 2 "_law_is" Ub spIs) (LL:Ok P w K mg base (CXe P w base) 3 "_law_like_leaf" Ue (spLL c)):∀ n,n<=100->Ok P w K mg base CX0 (n+4) "_law_like" Ue (spLi c n)
 | 0,_=>by
  refine oDf d sc_l_like λf sA A _ s H vs Q E hr h=>?_;obtain ⟨x,y,X,rfl,hx,hy,hl,q⟩:=h;have:=xP X;omega
 | n+1,h=>zf3 (by omega) (by omega) d hisi hlist hstr hlen hrg kl ks G L IS LL (ok_like d hisi hlist hstr hlen hrg kl ks G L IS LL n (by omega))
inductive spNs (vs:Jn) (H:Hp) (Q:VK) (_:XK):Prop
 | mk (a b:Ad) (ns:Jb) (_:vs=[.ref a,.ref b]) (_:H a=Z (.lst (ns.map V.int))) (_:H b=Z (.lst (ns.map V.int))) (_:ns.length<=1000) (_:Q (.bl true) H)
def zf0 (d:zj K mg "_law_numbers" ZN Ub) (hrg:mg "range"=Y) (hlen:mg "len"=Y) (hisi:mg "isinstance"=Y) (hlist:mg "list"=Y) (kl:sC K (.type "list") (.type "list")=Z true) (IS:Ok P w K mg base (CXe P w base) 2 "_law_is" Ub spIs):Ok P w K mg base CX0 3 "_law_numbers" Ub spNs:=by
 refine oDf d sc_l_numbers λf sA A _ s H vs Q E hr h=>?_;obtain ⟨a,b,ns,rfl,ha,hb,hn,q⟩:=h;have hr2:Room 2 _:=hr;have nd:=sc_l_numbers.nd;have ll:(ns.map V.int).length=ns.length:=vJ ..;refine ⟨_,(zb (zB (xM (zW (zG (zh zA (by rfl) hisi sF (za (pv 0) (za (Y8 hlist tZ) zc))))) (yS (zp Yn (zh zr (by rfl) hlen sU (za (pv 0) zc)) (zh zr (by rfl) hlen sU (za (pv 1) zc)) (zw _)))).pt (ze (zm yE)) zk)
   (zb (Zm tY rfl (yY rfl hrg (za (zh zr (by rfl) hlen sU (za (pv 1) zc)) zc)) (oQz 2 nd) (ze (zB (zW (zG (zo IS hr2 (by rfl) zU (za (zx zD (pv 0) (pv 2) (λ_ _=>rfl)) (za (zx zD (pv 1) (pv 2) (λ_ _=>rfl)) zc))))) (ze (zm yE)) zk)))
   (ze (zm yE)))),?_⟩
 refine ⟨_,U,_,_,.type "list",.type "list",true,U,U,(λu r=>r),.inl (.lst ha),kl,true,U,zy ?_⟩;refine ⟨_,U,a,_,U,.inl (SqL.of ha),_,U,b,_,U,.inl (SqL.of hb),U,_,U,?_⟩;rw [decide_eq_true rfl];refine zy ⟨_,U,b,_,U,.inl (SqL.of hb),_,U,by rw [ll];omega,by rw [ll];omega,?_⟩;rw [ll,q0z];refine Zy (lo:=0) (n:=ns.length) (λi σ H'=>∃ u,σ=[rq a,rq b,u]/\H'=H) ⟨Y,U,U⟩ ?_ ?_
 .rintro i σ H' hi ⟨u,rfl,rfl⟩
  have i0:(0:Int)+(i:Int)=((i:Nat):Int):=uG _;obtain ⟨n,en⟩:∃ n,ns[i]?=Z n:=⟨_,sI hi⟩;have e1:atI (ns.map V.int) ((i:Nat):Int)=Z (.int n):=zM (by rw [sN,en];rfl);rw [i0];exact ⟨_,U,_,U,a,_,_,_,U,U,SqL.of ha,e1,_,U,_,U,b,_,_,_,U,U,SqL.of hb,e1,n,U,true,U,zy ⟨_,U,U⟩⟩
 .rintro σ H' ⟨u,rfl,rfl⟩
  exact q
end K23
namespace K23
open PySem L2 FM ST
variable {K:Fg} {base:Heap}
structure LineTx (z:Str):Prop where
 f:10 ∉ lt' z
 l:z.length<=15000
structure Dt where
 D:Dr
 tl:List (Int×Int)
 lv:List (List Stp)
 lns:Jb
def Dt0:Dt:=⟨⟨[],[],[],[]⟩,[],[[]],[]⟩
inductive LineS (X:Dt) (n:Int) (z:Str):Dt->Prop
 | blank (h:yB z=[]):LineS X n z X
 | row (x:Str) (m:Int) (h:yB z=[("row":Str),x,numS m]) (hx:NmK x) (n1:1<=m) (n4:m<=400) (h1:plc x X.D.rows=Y) (h2:plc x (X.D.heads.map uu)=Y) (h3:X.D.rows.length<12) (ht:X.tl=[]):LineS X n z { X with D:={ X.D with rows:=X.D.rows++[x],lens:=X.D.lens++[m] } }
 | step (wd:Str) (r:Jf) (L:StepD) (S T:Nat->Int) (l:List Stp) (lv:List (List Stp)) (h:yB z=wd::r) (hw:Yg (wd::r)) (hp:PSt ⟨X.D.rows,X.D.heads,Y⟩ wd r L) (hl:X.lv=l::lv) (go:StepGo X.D S T L X.lns.length l.length):LineS X n z { X with lv:=(l++[.one L])::lv,lns:=X.lns++[n] }
 | till (x:Str) (i:Nat) (m:Int) (h:yB z=[("till":Str),x,"most",numS m]) (hx:NmK x) (hi:plc x X.D.rows=Z i) (m1:1<=m) (m2:m<=1000) (l40:X.lns.length<40) (l3:X.tl.length<3) (l4:X.lv.length<=4):LineS X n z { X with tl:=X.tl++[((i:Int),m)],lv:=[]::X.lv,lns:=X.lns++[n] }
 | end_ (tl:List (Int×Int)) (t m:Int) (l l':List Stp) (lv:List (List Stp)) (h:yB z=[("end":Str)]) (ht:X.tl=tl++[(t,m)]) (hl:X.lv=l::l'::lv) (h1:l'.length<=100) (h2:lv.length<=2):LineS X n z { X with tl:=tl,lv:=(l'++[.till t m l])::lv }
structure TextS (ls:Jf) (X:Dt):Prop where
 t:∀ z∈ls,LineTx z
 ex:∃ Xs:Nat->Dt,Xs 0=Dt0/\Xs ls.length=X/\∀ (i:Nat) z,ls[i]?=Z z->LineS (Xs i) ((i+1:Nat):Int) z (Xs (i+1))
def TextS.nil:TextS [] Dt0:=⟨λz m=>(nomatch m),λ_=>Dt0,U,U,λi z e=>by cases e⟩
def TextS.snoc {ls:Jf} {X X':Dt} {z:Str} (h:TextS ls X) (hz:LineTx z) (g:LineS X ((ls.length+1:Nat):Int) z X'):TextS (ls++[z]) X':=by
 obtain ⟨Ds,e0,e1,e2⟩:=h.ex;refine ⟨λy m=>?_,λi=>if i<=ls.length then Ds i else X',?_,?_,λi y e=>?_⟩
 .rcases t9.mp m with m | m
  .exact h.t y m
  .cases sG.mp m;exact hz
 .show (if 0<=ls.length then Ds 0 else X')=_
  rw [if_pos (ub _)];exact e0
 .show (if (ls++[z]).length<=ls.length then _ else X')=_
  rw [if_neg (by rw [Jj];show ¬ _+1<=_;omega)]
 .by_cases hi:i<ls.length
  .rw [x2z hi] at e
   show LineS (if i<=ls.length then Ds i else X') _ y (if i+1<=ls.length then Ds (i+1) else X');rw [if_pos (by omega),if_pos (by omega)];exact e2 i y e
  .have hl:=(tu.mp e).1
   rw [Jj,tF] at hl;have hi2:i=ls.length:=by omega
   subst hi2;rw [tJ (sK _),uX] at e;cases e;show LineS (if ls.length<=ls.length then Ds ls.length else X') _ z (if ls.length+1<=ls.length then Ds (ls.length+1) else X');rw [if_pos (sK _),if_neg (by omega),e1];exact g
theorem zbr {X:Dt}:∀ {bl ls:Jf},TextS ls X->(∀ b∈bl,yB b=[]/\LineTx b)->TextS (ls++bl) X
 | [],ls,h,_=>by rw [x2y];exact h
 | b::bl,ls,h,g=>by
  have:=zbr (bl:=bl) (h.snoc (g b x0z).2 (.blank (g b x0z).1)) λc m=>g c (x0y _ m)
  rwa [List.append_assoc] at this
def sum_le {l:Jf} {k:Nat} (h:∀ y∈l,y.length<=k):(l.map (·.length)).sum<=k*l.length:=by
 induction l with
 | nil=>exact ub _
 | cons a l ih =>
  have:=ih λy m=>h y (x0y _ m);have:=h a x0z;rw [tz,uJ,x2x,Nat.mul_add];omega
def join_ok {ls:Jf} (h:∀ y∈ls,y.length<=15000) (hl:ls.length<=300):JoinOk "\n" ls=true/\(Txt.join "\n" ls).length<=10000000:=by
 have s:=sum_le h;have SL:(16000000:Nat)<sizeLine:=by decide
 have n1:("\n":Str).length=1:=by decide
 constructor
 .unfold JoinOk
  rw [StrLaws.joinTotal,n1];unfold Builtin.Str.tooLong;rw [Bool.not_eq_true',decide_eq_false_iff_not];omega
 .show (Builtin.Str.glued "\n" ls).length<=_
  rw [StrLaws.glued_eq_join];have:=StrLaws.join_length_le "\n" ls;rw [n1] at this;omega
def backL:Jf->Jf
 | []=>[""]
 | l=>l
def zfp {ls:Jf} (h:∀ y∈ls,10 ∉ lt' y):uo (Txt.join "\n" ls) "\n"=backL ls:=by
 have e:("\n":Str)=⟨#[10]⟩:=by decide
 refine map_inj ?_;rw [e,Y1];show ye 10 (lt' (Builtin.Str.glued _ ls))=_;rw [StrLaws.glued_eq_join,XR]
 cases ls with
 | nil=>decide
 | cons x r =>
  have:=XW (c:=10) (r.map lt') (lt' x) (h x x0z) λp m=>by
   obtain ⟨y,my,rfl⟩:=tW.mp m;exact h y (x0y _ my)
  exact this
def TextS.back {ls:Jf} {X:Dt} (h:TextS ls X):TextS (backL ls) X:=by
 cases ls with
 | nil =>
  obtain ⟨Ds,e0,e1,_⟩:=h.ex;have eD:X=Dt0:=by rw [← e1];exact e0
  rw [eD];exact TextS.nil.snoc (z:="") ⟨by decide,by decide⟩ (.blank (by decide +kernel))
 | cons x r=>exact h
def SpAt (c:F2.Cs) (q:Scs) (H:Hp):Nat->Stp->Ad->Prop
 | _,.one L,x=>StepAt c q H L x
 | 0,.till _ _ _,_=>False
 | d+1,.till t m ss,x=>∃ (dx sa:Ad) (xs:Jg),H x=Z (.ins q.till dx [("target",.int t),("most",.int m),("steps",.ref sa)])/\H sa=Z (.lst (xs.map V.ref))/\xs.length=ss.length/\∀ (i:Nat) (s:Stp) (y:Ad),ss[i]?=Z s->xs[i]?=Z y->SpAt c q H d s y
theorem SpAt.same {c:F2.Cs} {q:Scs} {H H':Hp} (sm:Same H H'):∀ {d:Nat} {s:Stp} {x:Ad},SpAt c q H d s x->SpAt c q H' d s x
 | 0,.one L,x,h=>StepAt.same h sm
 | 0,.till _ _ _,_,h=>h.elim
 | _+1,.one L,x,h=>StepAt.same h sm
 | d+1,.till t m ss,x,⟨dx,sa,xs,a,b,e,f⟩=>⟨dx,sa,xs,sm _ _ a,sm _ _ b,e,λi s y z w=>SpAt.same sm (f i s y z w)⟩
def one_sp {c:F2.Cs} {q:Scs} {H:Hp} {d:Nat} {L:StepD} {x:Ad} (h:SpAt c q H d (.one L) x):StepAt c q H L x:=by
 cases d <;> exact h
def sp_one {c:F2.Cs} {q:Scs} {H:Hp} {d:Nat} {L:StepD} {x:Ad} (h:StepAt c q H L x):SpAt c q H d (.one L) x:=by
 cases d <;> exact h
def LAt (c:F2.Cs) (q:Scs) (H:Hp) (d:Nat) (ss:List Stp) (xs:Jg):Prop:=xs.length=ss.length/\∀ (i:Nat) (s:Stp) (y:Ad),ss[i]?=Z s->xs[i]?=Z y->SpAt c q H d s y
def LvAt (c:F2.Cs) (q:Scs) (H:Hp):List (List Stp)->LvL->Prop
 | [],[]=>True
 | ss::X,p::lv=>LAt c q H (3-lv.length) ss p.2/\LvAt c q H X lv
 | [],_::_=>False
 | _::_,[]=>False
def TlAt (H:Hp) (ts:List (Int×Int)) (tl:Jg):Prop:=tl.length=ts.length/\∀ (i:Nat) (t:Ad),tl[i]?=Z t->∃ x,ts[i]?=Z x/\H t=Z (.tup [.int x.1,.int x.2])
section
variable {c:F2.Cs} {q:Scs}
def LAt.same {d:Nat} {ss:List Stp} {xs:Jg} (h:LAt c q H d ss xs) (s:Same H H'):LAt c q H' d ss xs:=⟨h.1,λi st y a b=>(h.2 i st y a b).same s⟩
def LAt.snoc {d:Nat} {ss:List Stp} {xs:Jg} {s:Stp} {x:Ad} (h:LAt c q H d ss xs) (g:SpAt c q H d s x):LAt c q H d (ss++[s]) (xs++[x]):=by
 refine ⟨by rw [Jj,Jj,h.1];rfl,λi st y a b=>?_⟩;by_cases hi:i<ss.length
 .rw [x2z hi] at a
  rw [x2z (by rw [h.1];exact hi)] at b;exact h.2 i st y a b
 .have hl:=(tu.mp a).1
  rw [Jj,tF] at hl;have hi2:i=ss.length:=by omega
  subst hi2;rw [tJ (sK _),uX] at a;rw [← h.1,tJ (sK _),uX] at b;cases a;cases b;exact g
theorem LvAt.same:∀ {X:List (List Stp)} {lv:LvL},LvAt c q H X lv->Same H H'->LvAt c q H' X lv
 | [],[],_,_=>trivial
 | _::_,_::_,h,s=>⟨h.1.same s,h.2.same s⟩
 | [],_::_,h,_=>h.elim
 | _::_,[],h,_=>h.elim
theorem LvAt.len:∀ {X:List (List Stp)} {lv:LvL},LvAt c q H X lv->lv.length=X.length
 | [],[],_=>rfl
 | _::_,_::_,h=>congrArg (·+1) h.2.len
 | [],_::_,h=>h.elim
 | _::_,[],h=>h.elim
def LvAt.cons {ss:List Stp} {X:List (List Stp)} {lv:LvL} (h:LvAt c q H (ss::X) lv):∃ la xs lv',lv=(la,xs)::lv'/\LAt c q H (3-lv'.length) ss xs/\LvAt c q H X lv':=by
 cases lv with
 | nil=>exact h.elim
 | cons p lv'=>exact ⟨p.1,p.2,lv',U,h.1,h.2⟩
def TlAt.same {ts:List (Int×Int)} {tl:Jg} (h:TlAt H ts tl) (s:Same H H'):TlAt H' ts tl:=⟨h.1,λi t e=>by obtain ⟨x,a,b⟩:=h.2 i t e;exact ⟨x,a,s _ _ b⟩⟩
def TlAt.snoc {ts:List (Int×Int)} {tl:Jg} {x:Int×Int} {t:Ad} (h:TlAt H ts tl) (g:H t=Z (.tup [.int x.1,.int x.2])):TlAt H (ts++[x]) (tl++[t]):=by
 refine ⟨by rw [Jj,Jj,h.1];rfl,λi t' e=>?_⟩;by_cases hi:i<tl.length
 .rw [x2z hi] at e
  obtain ⟨x',a,b⟩:=h.2 i t' e;exact ⟨x',by rw [x2z (by rw [← h.1];exact hi)];exact a,b⟩
 .have hl:=(tu.mp e).1
  rw [Jj,tF] at hl;have hi2:i=tl.length:=by omega
  subst hi2;rw [tJ (sK _),uX] at e;cases e;exact ⟨x,by rw [h.1,tJ (sK _),uX];rfl,g⟩
def TlAt.last {ts:List (Int×Int)} {x:Int×Int} {tl:Jg} (h:TlAt H (ts++[x]) tl):∃ tl' t,tl=tl'++[t]/\TlAt H ts tl'/\H t=Z (.tup [.int x.1,.int x.2]):=by
 have l:=h.1;rw [Jj,tF] at l;obtain ⟨tl',t,rfl⟩:∃ tl' t,tl=tl'++[t]:=⟨tl.dropLast,tl.getLast (List.ne_nil_of_length_pos (by omega)),(List.dropLast_concat_getLast _).symm⟩;rw [Jj,tF] at l;have l':tl'.length=ts.length:=by omega
 refine ⟨tl',t,U,⟨l',λi t' e=>?_⟩,?_⟩
 .have hi:=(tu.mp e).1
  obtain ⟨x',a,b⟩:=h.2 i t' (by rw [x2z hi];exact e);rw [x2z (by omega)] at a;exact ⟨x',a,b⟩
 .obtain ⟨x',a,b⟩:=h.2 tl'.length t (by rw [tJ (sK _),uX];rfl)
  rw [l',tJ (sK _),uX] at a;cases a;exact b
end
def PSt.mem {R:Rdg} {wd:Str} {r:Jf} {L:StepD} (h:PSt R wd r L):wd∈([("let":Str),"put","fold","run"]):=by
 cases h <;> decide
def RAt.perm {B:Hp} {g:Rg} {ws:Jf} {p:Nat} {b:Int} {L L':Jm} {H:Hp} (h:RAt B g ws p b L H) (e:L.Perm L'):RAt B g ws p b L' H:=⟨h.h.perm (e.cons _),h.w,h.l⟩
structure ReadS (c:F2.Cs) (q:Scs) (CP CS:Ad) (X:Dt) (ss:List Stp) (so:Ad) (H:Hp):Prop where
 ex:∃ (sd pr pd la lb lc na nl:Ad) (xs:Jg),H so=Z (.ins CS sd [("program",.ref pr),("names",.ref na),("lines",.ref nl)])/\H pr=Z (.ins CP pd [("lengths",.ref la),("functions",.ref lb),("steps",.ref lc)])/\H la=Z (.lst (X.D.lens.map V.int))/\H lc=Z (.lst (xs.map V.ref))/\H nl=Z (.lst (X.lns.map V.int))/\LAt c q H 3 ss xs
def zfu {C aL CD CP CS:Ad} {c:F2.Cs} {q:Scs} (dC:DCls K CD) (LR:LineFn P w K mg base aL 156 "row" (spRL K C c)) (LS:∀ wd∈([("let":Str),"put","fold","run"]),LineFn P w K mg base aL 156 wd (spSt K C c q wd)) (LT:LineFn P w K mg base aL 156 "till" (spTi K C c)) (LE:LineFn P w K mg base aL 156 "end" (spEn K C q)) {ls:Jf} {X:Dt} {ss:List Stp} (h:TextS ls X) (x0:X.tl=[]) (x1:X.lv=[ss]) (hl:ls.length<=300) {H:Hp} {Q:VK} {E:XK} (qq:∀ so H',Same H H'->ReadS c q CP CS X ss so H'->Q (.ref so) H'):spRead P w K mg base C aL CD CP CS 156 [.str (Txt.join "\n" ls)] H Q E:=by
 have jo:=join_ok (λy m=>(h.t y m).l) hl;have hb:=h.back;obtain ⟨Ds,e0,e1,e2⟩:=hb.ex
 have bl:(backL ls).length<=301:=by
  cases ls with
  | nil=>decide
  | cons x r=>show (x::r).length<=301;omega
 refine ⟨_,backL ls,λi B dg L=>∃ ts us tl lv,L.Perm (dg.L ts us (Ds i).D++dg.S tl lv (Ds i).lns)/\DrAt B c dg (Ds i).D ts us/\TlAt B (Ds i).tl tl/\LvAt c q B (Ds i).lv lv,U,zfp λy m=>(h.t y m).f,jo.2,by omega,λy m=>(hb.t y m).l,?_,?_,?_,?_,?_⟩
 .rintro i B B' dg L ⟨ts,us,tl,lv,e,d,t,v⟩ s
  exact ⟨ts,us,tl,lv,e,d.same s,t.same s,v.same s⟩
 .rintro B dg l0 s eC ed
  rw [e0];refine ⟨[],[],[],[(l0,[])],((vZ (l₁:=[(dg.va,HO.lst [.ref l0]),(dg.na,.lst [])]) (l₂:=[])).symm.append_left (dg.L [] [] ⟨[],[],[],[]⟩++[(dg.ta,.lst [])])),?_,⟨U,λi t e=>by cases e⟩,⟨U,λi s y a=>by cases a⟩,trivial⟩;exact ⟨ed,U,(λi t e=>by cases e),U,(λi t e=>by cases e),U,U,by decide,by decide,(λx m=>nomatch m)⟩
 .rintro i y B dg L ey ⟨ts,us,tl,lv,e,d,t,v⟩ wz
  have ld:=e2 i y ey;generalize Ds (i+1)=D2 at ld
  cases ld with
  | blank _=>exact ⟨ts,us,tl,lv,e,d,t,v⟩
  | row x n hw=>rw [wz] at hw;cases hw
  | step wd r L S T l lv hw=>rw [wz] at hw;cases hw
  | till x i m hw=>rw [wz] at hw;cases hw
  | end_ tl t m l l' lv hw=>rw [wz] at hw;cases hw
 .rintro i y B dg L x r ey ⟨ts,us,tl,lv,e,d,t,v⟩ wz ed eC
  have dCg:DCls K dg.C:=by rw [eC];exact dC
  have ld:=e2 i y ey;generalize Ds (i+1)=D2 at ld
  cases ld with
  | blank hw=>rw [wz] at hw;cases hw
  | row z n hw hx n1 n4 h1 h2 h3 ht =>
   rw [wz] at hw;obtain ⟨rfl,rfl⟩:=wM hw;refine ⟨by decide,spRL K C c,LR,λg H' gC gr gh gl go A1 Q' hq=>?_⟩;replace A1:=A1.perm e
   have wo:Yg [("row":Str),z,numS n]:=λy m=>by
    simp only [sM,tM,or_false] at m;rcases m with rfl | rfl | rfl
    .decide
    .exact tE hx.wl.2 (by decide)
    .exact tE (Zb (by omega) (by omega)).2.2.2.2 (by decide)
   have t0:tl=[]:=sW (by rw [t.1,ht];rfl);subst t0;refine ⟨g,dg,B,_,_,1,0,(Ds i).D,ts,us,z,n,[numS n],U,gC,gr,gh,dCg,A1,d,wo,?_,XM (by omega) (by omega) n1 n4 [],h1,h2,h3,λB' H2 sB hd dd=>hq _ _ B' _ sB hd ⟨ts,us,[],lv,List.Perm.refl _,dd,t.same sB,v.same sB⟩⟩;show YV (z::[numS n])=_;unfold YV;dsimp only;rw [if_pos hx.nm]
  | step wd r' L S T l lv' hw hwo hp hlv go =>
   rw [wz] at hw;obtain ⟨rfl,rfl⟩:=wM hw;rw [hlv] at v;obtain ⟨la,xs,lv2,rfl,va,vr⟩:=v.cons;refine ⟨?_,spSt K C c q x,LS x hp.mem,λg H' gC gr gh gl gov A1 Q' hq=>?_⟩
   .have:=hp.mem
    simp only [sM,tM,or_false] at this;rcases this with rfl | rfl | rfl | rfl <;> decide
   replace A1:=A1.perm e;rw [← va.1] at go;refine ⟨g,dg,B,_,1,(Ds i).D,ts,us,tl,lv2,la,xs,(Ds i).lns,L,S,T,U,gC,gr,gh,gov,dCg,A1,d,hwo,hp,go,λB' H2 x' sB hd st=>?_⟩;rw [gl] at hd;exact hq _ _ B' _ sB hd ⟨ts,us,tl,(la,xs++[x'])::lv2,List.Perm.refl _,d.same sB,t.same sB,(va.same sB).snoc (sp_one st),vr.same sB⟩
  | till z j m hw hx hi m1 m2 l40 l3 l4 =>
   rw [wz] at hw;obtain ⟨rfl,rfl⟩:=wM hw;refine ⟨by decide,spTi K C c,LT,λg H' gC gr gh gl gov A1 Q' hq=>?_⟩;replace A1:=A1.perm e
   have wo:Yg [("till":Str),z,"most",numS m]:=λy m=>by
    simp only [sM,tM,or_false] at m;rcases m with rfl | rfl | rfl | rfl
    .decide
    .exact tE hx.wl.2 (by decide)
    .decide
    .exact tE (Zb (by omega) (by omega)).2.2.2.2 (by decide)
   refine ⟨g,dg,B,_,1,(Ds i).D,ts,us,tl,lv,(Ds i).lns,j,m,[numS m],U,gC,gr,gh,gov,dCg,A1,d,wo,XL hx hi _,XM (by omega) (by omega) m1 m2 [],l40,by rw [t.1];exact l3,by rw [v.len];exact l4,λB' H2 t' la sB hd et=>?_⟩;rw [gl] at hd;exact hq _ _ B' _ sB hd ⟨ts,us,tl++[t'],(la,[])::lv,List.Perm.refl _,d.same sB,(t.same sB).snoc et,⟨U,λi s y a=>by cases a⟩,v.same sB⟩
  | end_ tl' tt m l l' lv' hw ht hlv h1 h2 =>
   rw [wz] at hw;obtain ⟨rfl,rfl⟩:=wM hw;rw [hlv] at v;obtain ⟨la,xs,lv2,rfl,va,vr⟩:=v.cons;obtain ⟨lb,ys,lv3,rfl,vb,vs⟩:=vr.cons;rw [ht] at t;obtain ⟨tl2,t2,rfl,ta,et⟩:=t.last;refine ⟨by decide,spEn K C q,LE,λg H' gC gr gh gl gov A1 Q' hq=>?_⟩;replace A1:=A1.perm e;have l2:lv3.length<=2:=by rw [vs.len];exact h2
   refine ⟨g,dg,B,_,1,[],(Ds i).D,ts,us,tl2,t2,lv3,la,lb,xs,ys,(Ds i).lns,tt,m,U,gC,dCg,A1,d.d,U,et,by rw [vb.1];exact h1,λB' H2 x dx sa sB hd ex esa=>?_⟩;refine hq _ _ B' _ sB hd ⟨ts,us,tl2,(lb,ys++[x])::lv3,List.Perm.refl _,d.same sB,ta.same sB,(vb.same sB).snoc ?_,vs.same sB⟩;obtain ⟨k,ek⟩:∃ k,3-lv3.length=k+1:=⟨2-lv3.length,by omega⟩;have ek2:3-(((lb,ys):Ad×Jg)::lv3).length=k:=by rw [x2x];omega
   rw [ek2] at va;show SpAt c q B' (3-lv3.length) _ x;rw [ek];exact ⟨dx,sa,xs,ex,esa,va.1,λi s y a b=>(va.2 i s y a b).same sB⟩
 .rintro B dg L J sHB ⟨ts,us,tl,lv,e,d,t,v⟩ hd eC
  replace hd:=hd.perm e;rw [e1] at d hd t v e;rw [x1] at v;obtain ⟨la0,xs,lv2,rfl,va,vr⟩:=v.cons;have l0:lv2=[]:=sW vr.len;subst l0;have t0:tl=[]:=sW (by rw [t.1,x0];rfl);subst t0;have mm:∀ {y:Ad×HO},y∈dg.L ts us X.D++dg.S [] [(la0,xs)] X.lns->y∈L:=λm=>e.mem_iff.mpr m;refine ⟨_,_,_,_,[],la0,_,mm (.tail _ (.tail _ (.tail _ (.tail _ (.head _))))),mm (.tail _ (.head _)),mm (.tail _ (.tail _ (.tail _ (.head _)))),mm (.tail _ (.tail _ (.tail _ (.tail _ (.tail _ (.head _)))))),mm (.tail _ (.tail _ (.tail _ (.tail _ (.tail _ (.tail _ (.tail _ (.head _)))))))),mm (.head _),mm (.tail _ (.tail _ (.tail _ (.tail _ (.tail _ (.tail _ (.head _))))))),by rw [Xf];have:=d.r12;omega,λH' so sd pr pd la lb lc na sJ y1 y2 y3 y4 y5 y6=>?_⟩;refine qq so H' (sHB.trans (hd.sm.trans sJ)) ⟨sd,pr,pd,la,lb,lc,na,dg.na,xs,y1,y2,y3,y5,?_,(va.same hd.sm).same sJ⟩;exact sJ _ _ (hd.st (dg.na,.lst _) (.tail _ (.tail _ (.tail _ (.tail _ (.tail _ (.tail _ (.head _))))))))
def tagK:Kd->Str
 | .let'=>"let"
 | .put _ _=>"put"
 | .fold _ _=>"fold"
 | .run _=>"run"
def restK (p:Ad):Kd->Jn
 | .let'=>[]
 | .put _ m=>[.int m,.ref p]
 | .fold f m=>[.int m,.str f]
 | .run f=>[.str f]
abbrev dueL (L:StepD) (v p:Ad) (t:V):Jn:=.str (tagK L.kind)::.int L.target::.ref v::t::restK p L.kind
def DueT (H:Hp):Option F2.Fm->V->Prop
 | none,v=>v=.non
 | some f,v=>∃ y,v=.ref y/\DueAt H f y
def DueT.same {H H':Hp} {t:Option F2.Fm} {v:V} (h:DueT H t v) (s:Same H H'):DueT H' t v:=by
 cases t with
 | none=>exact h
 | some f=>obtain ⟨y,e,f⟩:=h;exact ⟨y,e,f.same s⟩
def DueS1 (H:Hp) (L:StepD) (x:Ad):Prop:=∃ v p t,H x=Z (.tup (dueL L v p t))/\DueAt H L.value v/\DueT H L.test t/\∀ F m,L.kind=.put F m->DueAt H F p
def DueS1.same {H H':Hp} {L:StepD} {x:Ad} (h:DueS1 H L x) (s:Same H H'):DueS1 H' L x:=by
 obtain ⟨v,p,t,a,b,d,e⟩:=h;exact ⟨v,p,t,s _ _ a,b.same s,d.same s,λF m z=>(e F m z).same s⟩
def DueS (H:Hp):Nat->Stp->Ad->Prop
 | _,.one L,x=>DueS1 H L x
 | 0,.till _ _ _,_=>False
 | d+1,.till t m ss,x=>∃ (sa:Ad) (ys:Jg),H x=Z (.tup [.str "till",.int t,.int m,.ref sa])/\H sa=Z (.lst (ys.map V.ref))/\ys.length=ss.length/\∀ (i:Nat) (s:Stp) (y:Ad),ss[i]?=Z s->ys[i]?=Z y->DueS H d s y
theorem DueS.same {H H':Hp} (sm:Same H H'):∀ {d:Nat} {s:Stp} {x:Ad},DueS H d s x->DueS H' d s x
 | 0,.one L,x,h=>DueS1.same h sm
 | 0,.till _ _ _,_,h=>h.elim
 | _+1,.one L,x,h=>DueS1.same h sm
 | d+1,.till t m ss,x,⟨sa,ys,a,b,e,f⟩=>⟨sa,ys,sm _ _ a,sm _ _ b,e,λi s y z w=>DueS.same sm (f i s y z w)⟩
def due_one {H:Hp} {d:Nat} {L:StepD} {x:Ad} (h:DueS1 H L x):DueS H d (.one L) x:=by cases d <;> exact h
def one_due {H:Hp} {d:Nat} {L:StepD} {x:Ad} (h:DueS H d (.one L) x):DueS1 H L x:=by cases d <;> exact h
def FewS (n:Nat):Nat->Stp->Prop
 | _,.one L=>∀ F∈z6 L,F2.nodes F<=n
 | 0,.till _ _ _=>False
 | d+1,.till _ _ ss=>ss.length<=100/\∀ s∈ss,FewS n d s
structure StG (mg:J0) (q:Scs):Prop where
 l:mg "Let"=Z (.ref q.let_)
 p:mg "Put"=Z (.ref q.put)
 f:mg "Fold"=Z (.ref q.fold)
 r:mg "Running"=Z (.ref q.run)
 t:mg "Till"=Z (.ref q.till)
 s:mg "Step"=Z (.ref q.step)
structure StK (K:Fg) (q:Scs):Prop where
 any:∀ k,KAny K (q.of k)
 kk:∀ k,sC K (.ref (q.of k)) (.ref (q.of k))=Z true
 ks:∀ k,sC K (.ref (q.of k)) (.ref q.step)=Z true
 nv:∀ k,NoAttr K (q.of k) "value"
 nt:∀ k,NoAttr K (q.of k) "test"
 ng:∀ k,NoAttr K (q.of k) "target"
 np:NoAttr K q.put "place"
 nm:NoAttr K q.put "many"
 fm:NoAttr K q.fold "many"
 ff:NoAttr K q.fold "fold"
 rf:NoAttr K q.run "fold"
 till:KAny K q.till
 tt:sC K (.ref q.till) (.ref q.till)=Z true
 ts:sC K (.ref q.till) (.ref q.step)=Z true
 tg:NoAttr K q.till "target"
 tm:NoAttr K q.till "most"
 tp:NoAttr K q.till "steps"
inductive spLt (c:F2.Cs) (vs:Jn) (H:Hp) (Q:VK) (_:XK):Prop
 | mk (v u:V) (t:Option F2.Fm) (_:vs=[v,u]) (_:TestAt c H t v) (_:DueT H t u) (_:∀ F,t=Z F->F2.nodes F<=100) (_:Q (.bl true) H)
def zdu {c:F2.Cs} (d:zj K mg "_law_like_test" xV Ub) (LI:Ok P w K mg base CX0 104 "_law_like" Ue (spLi c 100)):Ok P w K mg base CX0 105 "_law_like_test" Ub (spLt c):=by
 refine oDf d sc_l_like_test λf sA A _ s H vs Q E hr h=>?_;obtain ⟨v,u,t,rfl,h1,h2,h3,q⟩:=h;have hrl:Room 104 _:=hr;have nd:=sc_l_like_test.nd;refine ⟨_,(zb (zB (zp Xe (pv 1) yK (zw _)) (ze (zm (ym Xe (pv 0) yK (zw _)))) zk)
   (ze (zm (yH (ym zaj (pv 0) yK (zw _)) (yD (zo LI hrl (by rfl) zv (za (pv 0) (za (pv 1) zc)))))))),?_⟩
 cases t with
 | none =>
  cases (show v=.non from h1);cases (show u=.non from h2);exact ⟨_,U,U,_,U,zL ⟨_,U,U,q⟩⟩
 | some F =>
  obtain ⟨x,rfl,fx⟩:=h1;obtain ⟨y,rfl,fy⟩:=h2;exact ⟨_,U,U,_,U,zy ⟨_,U,U,_,U,zL ⟨_,U,_,U,x,y,F,U,fx,fy,h3 F rfl,q⟩⟩⟩
inductive spFo (vs:Jn) (H:Hp) (Q:VK) (_:XK):Prop
 | mk (z:Str) (_:vs=[.str z,.str z]) (_:Q (.bl true) H)
def ok_fold (d:zj K mg "_law_fold" Xm Ub) (hisi:mg "isinstance"=Y) (hstr:mg "str"=Y) (ks:sC K (.type "str") (.type "str")=Z true):Ok P w K mg base (CXe P w base) 1 "_law_fold" Ub spFo:=by
 refine oDe d sc_l_fold λf sA A _ s H vs Q E hr h=>?_;obtain ⟨z,rfl,q⟩:=h;have nd:=sc_l_fold.nd;refine ⟨_,(ze (zm (yH (zh zA (by rfl) hisi sF (za (pv 0) (za (Y8 hstr up) zc))) (yD (ym zP (pv 0) (pv 1) (zw _)))))),?_⟩;refine ⟨_,U,_,_,.type "str",_,true,U,U,(λu r=>r),.inl (.str _),ks,true,U,zL ⟨_,U,_,U,U,?_⟩⟩;rw [decide_eq_true rfl];exact q
inductive spLp (c:F2.Cs) (q:Scs) (d:Nat) (vs:Jn) (H:Hp) (Q:VK) (_:XK):Prop
 | mk (x y:Ad) (s:Stp) (_:vs=[.ref x,.ref y]) (_:SpAt c q H d s x) (_:DueS H d s y) (_:FewS 100 d s) (_:Q (.bl true) H)
inductive spLs (c:F2.Cs) (q:Scs) (d:Nat) (vs:Jn) (H:Hp) (Q:VK) (_:XK):Prop
 | mk (a b:Ad) (xs ys:Jg) (ss:List Stp) (_:vs=[.ref a,.ref b]) (_:H a=Z (.lst (xs.map V.ref))) (_:H b=Z (.lst (ys.map V.ref))) (_:LAt c q H d ss xs) (_:ys.length=ss.length) (_:∀ (i:Nat) (s:Stp) (y:Ad),ss[i]?=Z s->ys[i]?=Z y->DueS H d s y) (_:ss.length<=100) (_:∀ s∈ss,FewS 100 d s) (_:Q (.bl true) H)
def spLsN (c:F2.Cs) (q:Scs):Nat->Sp
 | 0=>zcz
 | d+1=>spLs c q d
def Xv {c:F2.Cs} {q:Scs} {n:Nat} {k:Nat} (hk:105<=k) (d:zj K mg "_law_like_step" xb UJ) (hisi:mg "isinstance"=Y) (G:StG mg q) (S:StK K q) (IS:Ok P w K mg base (CXe P w base) 2 "_law_is" Ub spIs) (LI:Ok P w K mg base CX0 104 "_law_like" Ue (spLi c 100)) (LT:Ok P w K mg base CX0 105 "_law_like_test" Ub (spLt c)) (FO:Ok P w K mg base (CXe P w base) 1 "_law_fold" Ub spFo) (LS:Ok P w K mg base CX0 k "_law_like_steps" UD (spLsN c q n)):Ok P w K mg base CX0 (k+1) "_law_like_step" UJ (spLp c q n):=by
 refine oDf d sc_l_like_step λf sA A _ s H vs Q E hr h=>?_;obtain ⟨x,y,st,rfl,hx,hy,few,q'⟩:=h;have hrk:Room k _:=hr;have hrt:Room 105 _:=hr.mono hk;have hrl:Room 104 _:=hr.mono (by omega);have hr2:Room 2 _:=hr.mono (by omega);have hr1:Room 1 _:=hr.mono (by omega);have nd:=sc_l_like_step.nd;refine ⟨_,(zb (zB (xM (zW (zG (zh zA (by rfl) hisi sF (za (pv 0) (za (zK G.s) zc))))) (yS (zW (zG (zo IS hr2 (by rfl) zU (za (zu (pv 0) rfl) (za (zx zE (pv 1) zd (λ_ _=>rfl)) zc))))))).pt (ze (zm yE)) zk)
   (zb (zB (zp zP (zx zE (pv 1) zd (λ_ _=>rfl)) zn (zw _)) (ze (zm (yH (zh zA (by rfl) hisi sF (za (pv 0) (za (zK G.t) zc))) (yH (zo IS hr2 (by rfl) zU (za (zu (pv 0) rfl) (za (zx zE (pv 1) zd (λ_ _=>rfl)) zc))) (yD (zo LS hrk (by rfl) zv (za (zu (pv 0) rfl) (za (zx zE (pv 1) zd (λ_ _=>rfl)) zc)))))))) zk)
   (zb (zB (xM (yv (zp zP (zx zE (pv 1) zd (λ_ _=>rfl)) zn (zw _)) (yc (zW (zG (zh zA (by rfl) hisi sF (za (pv 0) (za (zK G.l) zc))))))).pt (yS (yv (zp zP (zx zE (pv 1) zd (λ_ _=>rfl)) zn (zw _)) (yc (zW (zG (zh zA (by rfl) hisi sF (za (pv 0) (za (zK G.p) zc))))))).pt)).pt (ze (zm yE)) zk)
   (zb (zB (xM (yv (zp zP (zx zE (pv 1) zd (λ_ _=>rfl)) zn (zw _)) (yc (zW (zG (zh zA (by rfl) hisi sF (za (pv 0) (za (zK G.f) zc))))))).pt (yS (yv (zp zP (zx zE (pv 1) zd (λ_ _=>rfl)) zn (zw _)) (yc (zW (zG (zh zA (by rfl) hisi sF (za (pv 0) (za (zK G.r) zc))))))).pt)).pt (ze (zm yE)) zk)
   (zb (zB (xM (zW (zG (zo LI hrl (by rfl) zv (za (zu (pv 0) rfl) (za (zx zE (pv 1) zd (λ_ _=>rfl)) zc))))) (yS (zW (zG (zo LT hrt (by rfl) zv (za (zu (pv 0) rfl) (za (zx zE (pv 1) zd (λ_ _=>rfl)) zc))))))).pt (ze (zm yE)) zk)
   (zb (zB (zp zP (zx zE (pv 1) zd (λ_ _=>rfl)) zn (zw _)) (ze (zm (yH (zo IS hr2 (by rfl) zU (za (zu (pv 0) rfl) (za (zx zE (pv 1) zd (λ_ _=>rfl)) zc))) (yD (zo LI hrl (by rfl) zv (za (zu (pv 0) rfl) (za (zx zE (pv 1) zd (λ_ _=>rfl)) zc))))))) zk)
   (zb (zB (zp zP (zx zE (pv 1) zd (λ_ _=>rfl)) zn (zw _)) (ze (zm (yH (zo IS hr2 (by rfl) zU (za (zu (pv 0) rfl) (za (zx zE (pv 1) zd (λ_ _=>rfl)) zc))) (yD (zo FO hr1 (by rfl) zU (za (zu (pv 0) rfl) (za (zx zE (pv 1) zd (λ_ _=>rfl)) zc))))))) zk)
   (ze (zm (pe_or (ym zP (zx zE (pv 1) zd (λ_ _=>rfl)) zn (zw _)) (yD (zo FO hr1 (by rfl) zU (za (zu (pv 0) rfl) (za (zx zE (pv 1) zd (λ_ _=>rfl)) zc)))))))))))))),?_⟩
 show (let s1:L2.TS:=_;let s2:L2.TS:=L2.tSeq _ s1;let s3:L2.TS:=L2.tSeq _ s2;let s4:L2.TS:=L2.tSeq _ s3;let s5:L2.TS:=L2.tSeq _ s4;let s6:L2.TS:=L2.tSeq _ s5;let s7:L2.TS:=L2.tSeq _ s6;L2.tSeq _ s7 _ _ _);intro s1 s2 s3 s4 s5 s6 s7
 cases st with
 | till t mo ss =>
  cases n with
  | zero=>exact hx.elim
  | succ n =>
   obtain ⟨dx,sa,xs,ex,esa,lx,fx⟩:=hx;obtain ⟨sb,ys,ey,esb,ly,fy⟩:=hy;refine ⟨_,U,_,_,.ref q.step,_,true,U,U,(λu r=>r),(.inl (S.till.ty ex)),S.ts,true,U,zy ?_⟩;refine ⟨_,U,x,q.till,dx,_,_,U,ex,S.till.cl,S.tg,U,_,U,y,_,_,_,U,U,SqT.of ey,U,t,U,true,U,zy ?_⟩;refine ⟨_,U,y,_,_,_,U,U,SqT.of ey,U,U,_,U,zL ?_⟩;refine ⟨_,U,_,_,.ref q.till,_,true,U,U,(λu r=>r),(.inl (S.till.ty ex)),S.tt,true,U,zL ?_⟩;refine ⟨_,U,x,q.till,dx,_,_,U,ex,S.till.cl,S.tm,U,_,U,y,_,_,_,U,U,SqT.of ey,U,mo,U,true,U,zL ?_⟩;exact ⟨_,U,x,q.till,dx,_,_,U,ex,S.till.cl,S.tp,U,_,U,y,_,_,_,U,U,SqT.of ey,U,sa,sb,xs,ys,ss,U,esa,esb,⟨lx,fx⟩,ly,fy,few.1,few.2,q'⟩
 | one L =>
  obtain ⟨dx,v,p,t,ex,fv,ft,fp⟩:=(one_sp hx).ex;obtain ⟨dv,dp,dt,ey,gv,gt,gp⟩:=one_due hy;have few:∀ F∈z6 L,F2.nodes F<=100:=by cases n <;> exact few
  have ft:TestAt c H L.test t:=by
   cases hl:L.test with
   | none=>rw [hl] at ft;exact ft
   | some F=>rw [hl] at ft;exact ft
  have A1:=S.any L.kind;have a0:∀ {i:Nat} {u:V},(dueL L dv dp dt)[i]?=Z u->atI (dueL L dv dp dt) (i:Int)=Z u:=λe=>zM e;refine ⟨_,U,_,_,.ref q.step,_,true,U,U,(λu r=>r),(.inl (A1.ty ex)),S.ks L.kind,true,U,zy ?_⟩;refine ⟨_,U,x,_,dx,_,_,U,ex,A1.cl,S.ng L.kind,ZC,_,U,y,_,_,_,U,U,SqT.of ey,a0 (i:=1) rfl,L.target,U,true,U,zy ?_⟩;have nt:(decide (V.str (tagK L.kind)=.str "till"))=false:=by cases L.kind <;> rfl
  refine ⟨_,U,y,_,_,_,U,U,SqT.of ey,a0 (i:=0) rfl,U,_,U,?_⟩;rw [nt];refine zy ?_;obtain ⟨tgt,fm,tst,kd⟩:=L;have few3:∀ {F:F2.Fm},tst=Z F->F∈z6 ⟨tgt,fm,tst,kd⟩:=λ{F} e=>x1y _ (by show F∈tst.toList;rw [e];exact x0z)
  cases kd with
  | let' =>
   refine ⟨_,U,y,_,_,_,U,U,SqT.of ey,a0 (i:=0) rfl,U,_,U,zL ⟨_,U,_,_,.ref q.let_,_,true,U,U,(λu r=>r),.inl (A1.ty ex),S.kk .let',true,U,zy ⟨_,U,y,_,_,_,U,U,SqT.of ey,a0 (i:=0) rfl,U,_,U,zy (zy ?_)⟩⟩⟩;refine ⟨_,U,y,_,_,_,U,U,SqT.of ey,a0 (i:=0) rfl,U,_,U,zy (zy ⟨_,U,y,_,_,_,U,U,SqT.of ey,a0 (i:=0) rfl,U,_,U,zy (zy ?_)⟩)⟩;refine ⟨_,U,x,_,dx,_,_,U,ex,A1.cl,S.nv .let',U,_,U,y,_,_,_,U,U,SqT.of ey,a0 (i:=2) rfl,v,dv,fm,U,fv,gv,few fm x0z,true,U,zy ?_⟩;refine ⟨_,U,x,_,dx,_,_,U,ex,A1.cl,S.nt .let',U,_,U,y,_,_,_,U,U,SqT.of ey,a0 (i:=3) rfl,t,dt,tst,U,ft,gt,(λF e=>few F (few3 e)),true,U,zy ?_⟩;refine ⟨_,U,y,_,_,_,U,U,SqT.of ey,a0 (i:=0) rfl,U,_,U,zy ?_⟩;refine ⟨_,U,y,_,_,_,U,U,SqT.of ey,a0 (i:=0) rfl,U,_,U,zy ?_⟩;exact ⟨_,U,y,_,_,_,U,U,SqT.of ey,a0 (i:=0) rfl,U,_,U,zL q'⟩
  | put pf mm =>
   refine ⟨_,U,y,_,_,_,U,U,SqT.of ey,a0 (i:=0) rfl,U,_,U,zy (zy ⟨_,U,y,_,_,_,U,U,SqT.of ey,a0 (i:=0) rfl,U,_,U,zL ⟨_,U,_,_,.ref q.put,_,true,U,U,(λu r=>r),.inl (A1.ty ex),S.kk (.put pf mm),true,U,zy ?_⟩⟩)⟩;refine ⟨_,U,y,_,_,_,U,U,SqT.of ey,a0 (i:=0) rfl,U,_,U,zy (zy ⟨_,U,y,_,_,_,U,U,SqT.of ey,a0 (i:=0) rfl,U,_,U,zy (zy ?_)⟩)⟩;refine ⟨_,U,x,_,dx,_,_,U,ex,A1.cl,S.nv (.put pf mm),U,_,U,y,_,_,_,U,U,SqT.of ey,a0 (i:=2) rfl,v,dv,fm,U,fv,gv,few fm x0z,true,U,zy ?_⟩;refine ⟨_,U,x,_,dx,_,_,U,ex,A1.cl,S.nt (.put pf mm),U,_,U,y,_,_,_,U,U,SqT.of ey,a0 (i:=3) rfl,t,dt,tst,U,ft,gt,(λF e=>few F (few3 e)),true,U,zy ?_⟩;refine ⟨_,U,y,_,_,_,U,U,SqT.of ey,a0 (i:=0) rfl,U,_,U,zL ?_⟩;refine ⟨_,U,x,_,dx,_,_,U,ex,A1.cl,S.nm,U,_,U,y,_,_,_,U,U,SqT.of ey,a0 (i:=4) rfl,mm,U,true,U,zL ?_⟩;exact ⟨_,U,x,_,dx,_,_,U,ex,A1.cl,S.np,U,_,U,y,_,_,_,U,U,SqT.of ey,a0 (i:=5) rfl,p,dp,pf,U,fp pf mm rfl,gp pf mm rfl,few pf (.tail _ (.head _)),q'⟩
  | fold fo mm =>
   refine ⟨_,U,y,_,_,_,U,U,SqT.of ey,a0 (i:=0) rfl,U,_,U,zy (zy ⟨_,U,y,_,_,_,U,U,SqT.of ey,a0 (i:=0) rfl,U,_,U,zy (zy ?_)⟩)⟩;refine ⟨_,U,y,_,_,_,U,U,SqT.of ey,a0 (i:=0) rfl,U,_,U,zL ⟨_,U,_,_,.ref q.fold,_,true,U,U,(λu r=>r),.inl (A1.ty ex),S.kk (.fold fo mm),true,U,zy ⟨_,U,y,_,_,_,U,U,SqT.of ey,a0 (i:=0) rfl,U,_,U,zy (zy ?_)⟩⟩⟩;refine ⟨_,U,x,_,dx,_,_,U,ex,A1.cl,S.nv (.fold fo mm),U,_,U,y,_,_,_,U,U,SqT.of ey,a0 (i:=2) rfl,v,dv,fm,U,fv,gv,few fm x0z,true,U,zy ?_⟩;refine ⟨_,U,x,_,dx,_,_,U,ex,A1.cl,S.nt (.fold fo mm),U,_,U,y,_,_,_,U,U,SqT.of ey,a0 (i:=3) rfl,t,dt,tst,U,ft,gt,(λF e=>few F (few3 e)),true,U,zy ?_⟩;refine ⟨_,U,y,_,_,_,U,U,SqT.of ey,a0 (i:=0) rfl,U,_,U,zy ?_⟩;refine ⟨_,U,y,_,_,_,U,U,SqT.of ey,a0 (i:=0) rfl,U,_,U,zL ?_⟩;refine ⟨_,U,x,_,dx,_,_,U,ex,A1.cl,S.fm,U,_,U,y,_,_,_,U,U,SqT.of ey,a0 (i:=4) rfl,mm,U,true,U,zL ?_⟩;exact ⟨_,U,x,_,dx,_,_,U,ex,A1.cl,S.ff,U,_,U,y,_,_,_,U,U,SqT.of ey,a0 (i:=5) rfl,fo,U,q'⟩
  | run fo =>
   refine ⟨_,U,y,_,_,_,U,U,SqT.of ey,a0 (i:=0) rfl,U,_,U,zy (zy ⟨_,U,y,_,_,_,U,U,SqT.of ey,a0 (i:=0) rfl,U,_,U,zy (zy ?_)⟩)⟩;refine ⟨_,U,y,_,_,_,U,U,SqT.of ey,a0 (i:=0) rfl,U,_,U,zy (zy ⟨_,U,y,_,_,_,U,U,SqT.of ey,a0 (i:=0) rfl,U,_,U,zL ⟨_,U,_,_,.ref q.run,_,true,U,U,(λu r=>r),.inl (A1.ty ex),S.kk (.run fo),true,U,zy ?_⟩⟩)⟩;refine ⟨_,U,x,_,dx,_,_,U,ex,A1.cl,S.nv (.run fo),U,_,U,y,_,_,_,U,U,SqT.of ey,a0 (i:=2) rfl,v,dv,fm,U,fv,gv,few fm x0z,true,U,zy ?_⟩;refine ⟨_,U,x,_,dx,_,_,U,ex,A1.cl,S.nt (.run fo),U,_,U,y,_,_,_,U,U,SqT.of ey,a0 (i:=3) rfl,t,dt,tst,U,ft,gt,(λF e=>few F (few3 e)),true,U,zy ?_⟩;refine ⟨_,U,y,_,_,_,U,U,SqT.of ey,a0 (i:=0) rfl,U,_,U,zy ?_⟩;refine ⟨_,U,y,_,_,_,U,U,SqT.of ey,a0 (i:=0) rfl,U,_,U,zy ?_⟩;refine ⟨_,U,y,_,_,_,U,U,SqT.of ey,a0 (i:=0) rfl,U,_,U,zy ?_⟩;exact ⟨_,U,x,_,dx,_,_,U,ex,A1.cl,S.rf,U,_,U,y,_,_,_,U,U,SqT.of ey,a0 (i:=4) rfl,fo,U,q'⟩
def YW {c:F2.Cs} {q:Scs} {n:Nat} {k:Nat} (d:zj K mg "_law_like_steps" yR UD) (hrg:mg "range"=Y) (hlen:mg "len"=Y) (hisi:mg "isinstance"=Y) (hlist:mg "list"=Y) (kl:sC K (.type "list") (.type "list")=Z true) (LP:Ok P w K mg base CX0 k "_law_like_step" UJ (spLp c q n)):Ok P w K mg base CX0 (k+1) "_law_like_steps" UD (spLs c q n):=by
 refine oDf d sc_l_like_steps λf sA A _ s H vs Q E hr h=>?_;obtain ⟨a,b,xs,ys,ss,rfl,ha,hb,hx,ly,hy,l1,few,q'⟩:=h;have hrk:Room k _:=hr;have nd:=sc_l_like_steps.nd;have lx:(xs.map V.ref).length=ss.length:=by rw [Ji];exact hx.1
 have ll:(ys.map V.ref).length=ss.length:=by rw [Ji];exact ly
 refine ⟨_,(zb (zB (xM (zW (zG (zh zA (by rfl) hisi sF (za (pv 0) (za (Y8 hlist tZ) zc))))) (yS (zp Yn (zh zr (by rfl) hlen sU (za (pv 0) zc)) (zh zr (by rfl) hlen sU (za (pv 1) zc)) (zw _)))).pt (ze (zm yE)) zk)
   (zb (Zm tY rfl (yY rfl hrg (za (zh zr (by rfl) hlen sU (za (pv 1) zc)) zc)) (oQz 2 nd) (ze (zB (zW (zG (zo LP hrk (by rfl) zv (za (zx zD (pv 0) (pv 2) (λ_ _=>rfl)) (za (zx zD (pv 1) (pv 2) (λ_ _=>rfl)) zc))))) (ze (zm yE)) zk)))
   (ze (zm yE)))),?_⟩
 show (let s1:L2.TS:=_;let s2:L2.TS:=L2.tSeq _ s1;L2.tSeq _ s2 _ _ _);intro s1 s2;refine ⟨_,U,_,_,.type "list",.type "list",true,U,U,(λu r=>r),.inl (.lst ha),kl,true,U,zy ?_⟩;refine ⟨_,U,a,_,U,.inl (SqL.of ha),_,U,b,_,U,.inl (SqL.of hb),U,_,U,?_⟩;rw [lx,ll,decide_eq_true rfl];refine zy ⟨_,U,b,_,U,.inl (SqL.of hb),_,U,by rw [ll];omega,by rw [ll];omega,?_⟩;rw [ll,q0z];refine Zy (lo:=0) (n:=ss.length) (λi σ H'=>∃ u,σ=[rq a,rq b,u]/\H'=H) ⟨Y,U,U⟩ ?_ ?_
 .rintro i σ H' hi ⟨u,rfl,rfl⟩
  have i0:(0:Int)+(i:Int)=((i:Nat):Int):=uG _;obtain ⟨st,es⟩:∃ n,ss[i]?=Z n:=⟨_,sI hi⟩;obtain ⟨x,ex⟩:∃ n,xs[i]?=Z n:=⟨_,sI (by rw [hx.1];exact hi)⟩;obtain ⟨y,ey⟩:∃ n,ys[i]?=Z n:=⟨_,sI (by rw [ly];exact hi)⟩;have e1:atI (xs.map V.ref) ((i:Nat):Int)=Z (.ref x):=zM (by rw [sN,ex];rfl);have e2:atI (ys.map V.ref) ((i:Nat):Int)=Z (.ref y):=zM (by rw [sN,ey];rfl);rw [i0];exact ⟨_,U,_,U,a,_,_,_,U,U,SqL.of ha,e1,_,U,_,U,b,_,_,_,U,U,SqL.of hb,e2,x,y,st,U,hx.2 i st x es ex,hy i st y es ey,few st (sP es),true,U,zy ⟨_,U,U⟩⟩
 .rintro σ H' ⟨u,rfl,rfl⟩
  exact q'
theorem zfn {c:F2.Cs} {q:Scs} (dP:zj K mg "_law_like_step" xb UJ) (dS:zj K mg "_law_like_steps" yR UD) (hrg:mg "range"=Y) (hlen:mg "len"=Y) (hisi:mg "isinstance"=Y) (hlist:mg "list"=Y) (kl:sC K (.type "list") (.type "list")=Z true) (G:StG mg q) (S:StK K q) (IS:Ok P w K mg base (CXe P w base) 2 "_law_is" Ub spIs) (LI:Ok P w K mg base CX0 104 "_law_like" Ue (spLi c 100)) (LT:Ok P w K mg base CX0 105 "_law_like_test" Ub (spLt c)) (FO:Ok P w K mg base (CXe P w base) 1 "_law_fold" Ub spFo):∀ n,Ok P w K mg base CX0 (2*n+107) "_law_like_steps" UD (spLs c q n)
 | 0=>YW dS hrg hlen hisi hlist kl (Xv (k:=105) (sK _) dP hisi G S IS LI LT FO (ok_nevr (k:=104) dS sc_l_like_steps))
 | n+1=>YW (k:=2*n+108) dS hrg hlen hisi hlist kl (Xv (k:=2*n+107) (by omega) dP hisi G S IS LI LT FO (zfn dP dS hrg hlen hisi hlist kl G S IS LI LT FO n))
end K23
namespace K23
open PySem L2
variable {K:Fg} {base:Heap}
def words_sp (n:Nat):yB ⟨(tD n 32).toArray⟩=[]:=by
 have:Wd (lt' (⟨(tD n 32).toArray⟩:Str)) [] false:=by
  cases n with
  | zero=>exact Wd.nil
  | succ n=>exact Wd.nil.spaces n
 have e:=Wd.words this
 cases h:yB ⟨(tD n 32).toArray⟩ with
 | nil=>rfl
 | cons a l=>rw [h] at e;cases e
structure Kg where
 kd:Ad
 li:Ad
 na:Ad
 le:Ad
 du:Ad
 st:Ad
structure KvOk (g:Kg) (sr:Jl):Prop where
 li:zN sr (.inr "lines")=Z (.ref g.li)
 na:zN sr (.inr "names")=Z (.ref g.na)
 le:zN sr (.inr "lengths")=Z (.ref g.le)
 du:zN sr (.inr "due")=Z (.ref g.du)
 st:zN sr (.inr "stack")=Z (.ref g.st)
 ow:zN sr (.inr "own")=Z .non
 sg:∃ n:Int,zN sr (.inr "signs")=Z (.int n)
 l:sr.length<=7+(zN sr (.inr "near")).isSome.toNat+(zN sr (.inr "far")).isSome.toNat
def KvOk.l9 {g:Kg} {sr:Jl} (h:KvOk g sr):sr.length<=9:=by
 have:=h.l;have a:=Bool.toNat_le (zN sr (.inr "near")).isSome;have b:=Bool.toNat_le (zN sr (.inr "far")).isSome;omega
def zak {sr:Jl} {k:Key} {u v:V} (h:zN sr k=Z u):(z9 sr k v).length=sr.length:=by
 have:=congrArg uY (F2.keys_putK (v:=v) h)
 rwa [Ji,Ji] at this
def KvOk.put {g:Kg} {sr:Jl} (h:KvOk g sr) {k:Str} {v:V} (hk:k="near"∨k="far"):KvOk g (z9 sr (.inr k) v):=by
 have hn:k ∉ [("lines":Str),"names","lengths","due","stack","own","signs"]:=by rcases hk with rfl | rfl <;> decide
 have ne:∀ {j:Str} {o:Jo},j∈[("lines":Str),"names","lengths","due","stack","own","signs"]->zN sr (.inr j)=o->zN (z9 sr (.inr k) v) (.inr j)=o:=λ{j o} m e=>by
  rw [zY,if_neg (λz=>hn (by cases z;exact m))];exact e
 obtain ⟨n,en⟩:=h.sg;refine ⟨ne (by decide) h.li,ne (by decide) h.na,ne (by decide) h.le,ne (by decide) h.du,ne (by decide) h.st,ne (by decide) h.ow,⟨n,ne (by decide) en⟩,?_⟩;have hl:=h.l;rw [zY,zY]
 cases hv:zN sr (.inr k) with
 | none =>
  rw [Xo _ hv,Jj,tF];rcases hk with rfl | rfl
  .rw [hv] at hl
   rw [if_pos rfl,if_neg (by decide)];have e1:(Option.isSome (Y:Jo)).toNat=0:=rfl;have e2:(Option.isSome (Z v)).toNat=1:=rfl;omega
  .rw [hv] at hl
   rw [if_neg (by decide),if_pos rfl];have e1:(Option.isSome (Y:Jo)).toNat=0:=rfl;have e2:(Option.isSome (Z v)).toNat=1:=rfl;omega
 | some u =>
  rw [zak hv];rcases hk with rfl | rfl
  .rw [hv] at hl
   rw [if_pos rfl,if_neg (by decide)];exact hl
  .rw [hv] at hl
   rw [if_neg (by decide),if_pos rfl];exact hl
def KvOk.sgn {g:Kg} {sr:Jl} (h:KvOk g sr) (m:Int):KvOk g (z9 sr (.inr "signs") (.int m)):=by
 have ne:∀ {j:Str} {o:Jo},j≠"signs"->zN sr (.inr j)=o->zN (z9 sr (.inr "signs") (.int m)) (.inr j)=o:=λ{j o} m e=>by
  rw [zY,if_neg (λz=>m (by cases z;rfl))];exact e
 obtain ⟨n,en⟩:=h.sg;exact ⟨ne (by decide) h.li,ne (by decide) h.na,ne (by decide) h.le,ne (by decide) h.du,ne (by decide) h.st,ne (by decide) h.ow,⟨m,by rw [zY,if_pos rfl]⟩,by rw [zak en,ne (by decide) rfl,ne (by decide) rfl];exact h.l⟩
def KvOk.own {g:Kg} {sr:Jl} (h:KvOk g sr):KvOk g (z9 sr (.inr "own") .non):=by
 have ne:∀ {j:Str} {o:Jo},j≠"own"->zN sr (.inr j)=o->zN (z9 sr (.inr "own") .non) (.inr j)=o:=λ{j o} m e=>by
  rw [zY,if_neg (λz=>m (by cases z;rfl))];exact e
 obtain ⟨n,en⟩:=h.sg;exact ⟨ne (by decide) h.li,ne (by decide) h.na,ne (by decide) h.le,ne (by decide) h.du,ne (by decide) h.st,by rw [zY,if_pos rfl],⟨n,ne (by decide) en⟩,by rw [zak h.ow,ne (by decide) rfl,ne (by decide) rfl];exact h.l⟩
inductive spLn (vs:Jn) (H:Hp) (Q:VK) (_:XK):Prop
 | mk (g:Kg) (wa:Ad) (c:Int) (sr:Jl) (ws lines:Jf) (B:Hp) (L:Jm) (_:vs=[.ref g.kd,.ref wa,.int c]) (_:Hd B ((g.kd,.dK sr)::(g.li,.lst (lines.map V.str))::L) H) (_:KvOk g sr) (_:B wa=Z (.lst (ws.map V.str))) (_:∀ w∈ws,WG w/\w.length<=20) (_:ws.length<=500) (_:lines.length<=1000) (_:∀ (bl:Jf) (z:Str) (kvs':Jl) (H':Hp),bl.length<=1->(∀ b∈bl,yB b=[]/\LineTx b)->yB z=ws->LineTx z->KvOk g kvs'->Hd B ((g.kd,.dK kvs')::(g.li,.lst ((lines++bl++[z]).map V.str))::L) H'->Q .non H')
def ok_lined (d:zj K mg "_law_lined" YC Ui) (hlen:mg "len"=Y) (SP:Ok P w K mg base CX0 2 "_law_spaced" US spSpc):Ok P w K mg base CX0 3 "_law_lined" Ui spLn:=by
 refine oDf d sc_l_lined λf sA A _ s H vs Q E hr h=>?_;obtain ⟨g,wa,c,sr,ws,lines,B,L,rfl,hd,kv,ew,wg,l5,l1,q⟩:=h;have hr2:Room 2 _:=hr;have hu:=tK (tO (show 1<=64 by decide) _) hr.units;have nd:=sc_l_lined.nd;have SL:(100000:Nat)<sizeLine:=by decide
 refine ⟨_,(zb (yx (zB (zp zP (zq zI (zq zT (pv 2) zd) zd) zd (zw _)) (ze (zC (yz sQ t8 t7 zQ (zH hu (pv 0) zn (λ_ _=>rfl)) (za (zq Xt zn (zq zI (zq zT (pv 2) zd) zd)) zc)))) zk))
   (zb (zC (yz sQ t8 t7 zQ (zH hu (pv 0) zn (λ_ _=>rfl)) (za (zo SP hr2 (by rfl) zv (za (pv 1) (za (pv 2) zc))) zc)))
   (ze (xE hu (pv 0) zn (zq yh (zq yh (zH hu (pv 0) zn (λ_ _=>rfl)) (zh xK (by rfl) hlen sU (za (zx zD (zH hu (pv 0) zn (λ_ _=>rfl)) (Ym ZA zd) (λ_ _=>rfl)) zc))) zd) rfl)))),?_⟩
 refine ⟨λσ J=>∃ bl:Jf,σ=[rq g.kd,rq wa,iq c]/\bl.length<=1/\(∀ b∈bl,yB b=[]/\LineTx b)/\Hd B ((g.kd,.dK sr)::(g.li,.lst ((lines++bl).map V.str))::L) J,?_,?_⟩
 .refine ⟨_,U,_,_,U,U,⟨by decide,by decide⟩,_,_,U,U,(by show (0:Int)<4;decide),U,_,U,?_⟩
  refine yu (λ_=>?_) (λ_=>⟨[],U,by decide,(λb m=>nomatch m),by rw [x2y];exact hd⟩);have g3:0<=c / 20 % 3/\c / 20 % 3<3:=⟨sZ _ (by decide),sX _ (by decide)⟩;refine ⟨_,U,g.kd,_,U,yJ (hd.get 0 rfl) kv.li,tyL (hd.get 1 rfl),_,U,_,_,U,U,⟨by decide,by decide⟩,_,_,U,U,(by show (0:Int)<3;decide),32,_,U,U,g3.1,by omega,g.li,_,_,U,U,hd.get 1 rfl,by rw [Ji];omega,?_⟩;refine ⟨[⟨(tD (c / 20 % 3).toNat 32).toArray⟩],U,(by show 1<=1;decide),λb m=>?_,by rw [Jk];exact hd.put 1 rfl⟩;cases sG.mp m;exact ⟨words_sp _,Xn _,by rw [ZW];omega⟩
 rintro σ J ⟨bl,rfl,b1,b2,hd2⟩;refine ⟨_,U,g.kd,_,U,yJ (hd2.get 0 rfl) kv.li,tyL (hd2.get 1 rfl),_,U,_,U,wa,ws,c,U,hd2.sm _ _ ew,wg,l5,λz e1 e2 e3=>?_⟩;refine ⟨g.li,_,_,U,U,hd2.get 1 rfl,by rw [Ji,Jj];omega,?_⟩;have hd3:=hd2.put (o':=.lst ((lines++bl).map V.str++[.str z])) 1 rfl;generalize upd J g.li _=J3 at hd3 ⊢;have e0:=hd3.get 0 rfl;obtain ⟨n,en⟩:=kv.sg;refine ⟨_,U,g.kd,_,U,yJ e0 en,_,U,g.kd,_,U,yJ e0 kv.li,_,U,g.li,_,_,_,U,U,SqL.of (hd3.get 1 rfl),Yy _ _,z,U,by omega,_,_,U,U,_,_,U,U,_,U,g.kd,_,U,DPut.k (k:=.inr "signs") e0 (by have:=kv.l9;omega),?_⟩;refine q bl z _ _ b1 b2 e1 ⟨e2,e3⟩ (kv.sgn (n+((z.length:Nat):Int)+4)) ?_;rw [Jk];exact hd3.put 0 rfl
structure HeadOk (sD:Jb) (kind:Int) (i:Nat) (mn_:Int) (near far:List Nat):Prop where
 k:kind=0∨kind=1∨kind=2∨kind=3
 il:i<sD.length
 m:1<=mn_/\mn_<=400
 m0:kind=0∨kind=3->mn_=sD.getD i 0
 o:kind=2->sD.getD i 0=1
 ne:∀ k∈near,k<sD.length/\(sD.getD k 0=1∨sD.getD k 0=mn_)/\(kind=1∨kind=2->k≠i)
 fa:∀ k∈far,k<sD.length/\k≠i
 nl:near.length<=12
 fl:far.length<=12
def foldsL:Jf:=["sum","product","least","most","both","either","odd","chain","capped"]
def ze8:∀ f∈foldsL,YN f=true/\WG f/\f.length<=20:=by
 intro f m;unfold foldsL at m;simp only [sM,tM,or_false] at m;rcases m with rfl | rfl | rfl | rfl | rfl | rfl | rfl | rfl | rfl <;> exact ⟨by decide,.inr (.inr ⟨by decide,by unfold SgnN;decide⟩),by decide⟩
abbrev nV (l:List Nat):Jn:=l.map λk:Nat=>V.int k
inductive spHe (vs:Jn) (H:Hp) (Q:VK) (_:XK):Prop
 | mk (c:Int) (B:Hp) (g:Kg) (sr:Jl) (sD:Jb) (L:Jm) (_:vs=[.int c,.ref g.kd]) (_:Hd B ((g.kd,.dK sr)::L) H) (_:KvOk g sr) (_:(g.le,HO.lst (sD.map V.int))∈L) (_:1<=sD.length) (_:sD.length<=12) (_:∀ n∈sD,1<=n/\n<=400)
  (h7:∀ B' H' t kind i mn_ f near far ne fa kvs',Same B B'->Hd B' ((g.kd,.dK kvs')::L) H'->KvOk g kvs'->zN kvs' (.inr "near")=Z (.ref ne)->zN kvs' (.inr "far")=Z (.ref fa)->B' ne=Z (.lst (nV near))->B' fa=Z (.lst (nV far))->B' t=Z (.tup [.int kind,.int (i:Nat),.int mn_,.str f])->HeadOk sD kind i mn_ near far->f∈foldsL->Q (.ref t) H')
def zf8 (d:zj K mg "_law_head_by" ZQ Ur) (hlen:mg "len"=Y) (hrg:mg "range"=Y) (hint:mg "int"=Y) (MX:Ok P w K mg base (CXe P w base) 1 "_law_mixed" Uu spMx):Ok P w K mg base CX0 2 "_law_head_by" Ur spHe:=by
 refine oDf d sc_l_head_by λf sA A _ s H vs Q E hr h=>?_;obtain ⟨c,B,g,sr,sD,L,rfl,hd,kv,ml,l1,l12,l4,q⟩:=h;have hr1:Room 1 _:=hr;have hu4:=hr.units;have hu:=tK (tO (show 1<=64 by decide) _) hr.units;have nd:=sc_l_head_by.nd;have SL:(100000:Nat)<sizeLine:=by decide
 have ll:(sD.map V.int).length=sD.length:=vJ ..;have eL:∀ {B' H':Hp} {o:HO},Hd B' ((g.kd,o)::L) H'->H' g.le=Z (.lst (sD.map V.int)):=λh=>h.st _ (.tail _ ml);have lg:∀ {k:Nat},k<sD.length->atI (sD.map V.int) (k:Int)=Z (.int (sD.getD k 0)):=λ{k} hk=>zM (by rw [sN,x0x,sI hk];rfl);have ig:∀ {k:Nat},k<sD.length->1<=sD.getD k 0/\sD.getD k 0<=400:=λ{k} hk=>l4 _ (by rw [x0x,sI hk];exact vB hk);have ng:∀ {l:List Nat} {k:Nat} (hk:k<l.length),atI (nV l) (k:Int)=Z (.int (l[k]:Nat)):=λ{l k} hk=>zM (by rw [sN,sI hk];rfl);refine ⟨_,(zb (zi (i:=2) nd rfl (Or.inr rfl) (zH hu (pv 1) zn (λ_ _=>rfl)))
   (zb (oRz 3 nd (zq zI (pv 0) zd))
   (zb (oRz 4 nd (zq zT (pv 0) zd))
   (zb (oRz 5 nd (zo MX hr1 (by rfl) zU (za (pv 4) (za zd zc))))
   (zb (zi (i:=6) nd rfl (Or.inr rfl) (zq zI (pv 4) (zh zr (by rfl) hlen sU (za (pv 2) zc))))
   (zb (zem (i:=7) ["_law_k","_law_lengths"] [Y,Z 2] rfl rfl rfl (yY rfl hrg (za (zh zr (by rfl) hlen sU (za (pv 2) zc)) zc)) (λs3 H3 fp=>⟨zR (i:=0) (Jp ["_law_k","_law_lengths"]) rfl (vG rfl),(zp zP (zx (zbh (K:=K) rfl) (pv 1) (pv 0) (λ_ _=>rfl)) zd (zw _)),(pv 0)⟩) nd rfl (vG rfl))
   (zb (yx (zB (yv (zp zP (pv 3) zd (zw _)) (yc (zp (op_eqD hu4) (pv 7) (zJ zc) (zw _)))).pt (ze (oRz 3 nd zd)) zk))
   (zb (yx (zB (zp zP (pv 3) zd (zw _)) (ze (zi (i:=6) nd rfl (Or.inr rfl) (zx zD (pv 7) (zq zI (pv 4) (zh zr (by rfl) hlen sU (za (pv 7) zc))) (λ_ _=>rfl)))) zk))
   (zb (zi (i:=9) nd rfl (Or.inr rfl) (zx zD (pv 2) (pv 6) (λ_ _=>rfl)))
   (zb (yx (zB (XJ (xM (zp zP (pv 3) zd (zw _)) (yS (zp zP (pv 3) zd (zw _)))).pt) (ze (zi (i:=9) nd rfl (Or.inr rfl) (zx zD (zJ (za (zx zD (pv 2) (zq zI (pv 5) (zh zr (by rfl) hlen sU (za (pv 2) zc))) (λ_ _=>rfl)) (za (zq yh (zq zI (zq zT (pv 5) zd) zd) zd) zc))) (z8 call_int1 (by rfl) hint PyProof.Rows.boot_int (za (ym zP (zq zI (pv 5) zd) zd (zw _)) zc)) (λ_ _=>rfl)))) zk))
   (zb (yx (oRz 10 nd (pe_or (ym zP (pv 3) zd (zw _)) (yD (ym zP (pv 3) zd (zw _))))))
   (zb (yx (zem (i:=11) ["_law_k","_law_many","_law_lengths"] [Y,Z 9,Z 2] rfl rfl rfl (yY rfl hrg (za (zh zr (by rfl) hlen sU (za (pv 2) zc)) zc)) (λs3 H3 fp=>⟨zR (i:=0) (Jp ["_law_k","_law_many","_law_lengths"]) rfl (vG rfl),(xM (zp zP (zx (zbh (K:=K) rfl) (pv 2) (pv 0) (λ_ _=>rfl)) zd (zw _)) (yS (zp zP (zx (zbh (K:=K) rfl) (pv 2) (pv 0) (λ_ _=>rfl)) (pv 1) (zw _)))).pt,(pv 0)⟩) nd rfl (vG rfl)))
   (zb (xE hu (pv 1) zn (za4 UW [Y,Z 6] rfl rfl rfl (yY rfl hrg (za (zh zr (by rfl) hlen sU (za (pv 2) zc)) zc)) (λs3 H3 fp=>⟨zR (i:=0) (Jp UW) rfl (vG rfl),(zp Yn (pv 0) (pv 1) (zw _)),(pv 0)⟩)) rfl)
   (zb (xE hu (pv 1) zn (pv 11) rfl)
   (zb (yx (zB (zG (pv 10)) (ze (xE hu (pv 1) zn (za4 UW [Y,Z 6] rfl rfl rfl (xo (pv 11)) (λs3 H3 fp=>⟨zR (i:=0) (Jp UW) rfl (vG rfl),(zp Yn (pv 0) (pv 1) (zw _)),(pv 0)⟩)) rfl)) zk))
   (zb (xE hu (pv 1) zn yK rfl)
   (zb (oRz 12 nd (zJ (pa_ks rfl)))
   (ze (zm (yb (za (pv 3) (za (pv 6) (za (pv 9) (za (zx zD (pv 12) (zq zI (zq zT (pv 5) zd) zd) (λ_ _=>rfl)) zc)))))))))))))))))))))))),?_⟩
 show (let s1:L2.TS:=_;let s2:L2.TS:=L2.tSeq _ s1;let s3:L2.TS:=L2.tSeq _ s2;let s4:L2.TS:=L2.tSeq _ s3;let s5:L2.TS:=L2.tSeq _ s4;let s6:L2.TS:=L2.tSeq _ s5;let s7:L2.TS:=L2.tSeq _ s6;let s8:L2.TS:=L2.tSeq _ s7;let s9:L2.TS:=L2.tSeq _ s8;let s10:L2.TS:=L2.tSeq _ s9;let s11:L2.TS:=L2.tSeq _ s10;let s12:L2.TS:=L2.tSeq _ s11;let s13:L2.TS:=L2.tSeq _ s12;let s14:L2.TS:=L2.tSeq _ s13;let s15:L2.TS:=L2.tSeq _ s14;let s16:L2.TS:=L2.tSeq _ s15;let s17:L2.TS:=L2.tSeq _ s16;L2.tSeq _ s17 _ _ _);intro s1 s2 s3 s4 s5 s6 s7 s8 s9 s10 s11 s12 s13 s14 s15 s16 s17;refine ⟨_,U,g.kd,_,U,yJ (hd.get 0 rfl) kv.le,_,U,_,_,U,U,(by show (0:Int)<4;decide),_,U,_,_,U,U,⟨by decide,by decide⟩,_,U,_,_,U,λmx mxp mxl=>?_⟩;have k4:0<=c % 4/\c % 4<4:=⟨sZ _ (by decide),sX _ (by decide)⟩;generalize c % 4=kind0 at k4 ⊢;generalize c / 4=rest;refine ⟨_,U,_,U,g.le,_,U,.inl (SqL.of (eL hd)),_,_,U,U,(by rw [ll];omega),?_⟩;rw [ll];obtain ⟨tg,etg,htg⟩:=Yq (m:=rest) (n:=sD.length) (by omega);rw [etg];refine ⟨_,U,g.le,_,U,.inl (SqL.of (eL hd)),_,U,by omega,(by rw [ll];omega),_,U,λD nD=>?_⟩;rw [ll,q0z];have h0:Hd B ((D,.lst (nV []))::(g.kd,.dK sr)::L) (upd H D (.lst [])):=hd.new nD;generalize upd H D (.lst [])=H1 at h0 ⊢;refine Yw (n:=sD.length) (λi σ J=>∃ (u:Jo) (rs:List Nat),σ=[u,rq g.le]/\Hd B ((D,.lst (nV rs))::(g.kd,.dK sr)::L) J/\rs.length<=i/\∀ r∈rs,r<sD.length/\sD.getD r 0=1) ⟨Y,[],U,h0,sK _,λr hr=>nomatch hr⟩ ?_ ?_
 .clear h0
  rintro i σ J hi ⟨u,rs,rfl,h,hl,hg⟩;refine ⟨_,U,_,U,g.le,_,_,_,U,U,SqL.of (eL h.tl),by rw [uG];exact lg hi,U,_,U,?_⟩;refine yu (λy=>?_) (λ_=>⟨_,rs,U,h,by omega,hg⟩);have y:=V.int.inj (of_decide_eq_true y);refine ⟨_,U,_,h.get 0 rfl,(by rw [Ji];omega),_,rs++[i],U,?_,(by rw [Jj];show _+1<=_;omega),λr hr=>?_⟩
  .rw [nV,Jk,uG];exact h.put 0 rfl
  .rcases t9.mp hr with hr | hr
   .exact hg r hr
   .cases sG.mp hr;exact ⟨hi,y⟩
 rintro σ J ⟨u,rs,rfl,h,hl,hg⟩;clear h0;have rsl:(nV rs).length=rs.length:=vJ ..;refine ⟨λσ J'=>∃ kind:Int,σ=[iq c,rq g.kd,rq g.le,iq kind,iq rest,iq mx,iq tg,rq D,Y,Y,Y,Y,Y]/\(kind=0∨kind=1∨kind=2∨kind=3)/\(kind=2->0<rs.length)/\∃ B1,Same B B1/\Hd B1 ((D,.lst (nV rs))::(g.kd,.dK sr)::L) J',?_,?_⟩
 .refine ⟨_,U,U,_,U,?_⟩
  refine yu (λy=>?_) (λy=>zy ⟨kind0,U,by omega,λz=>?_,B,Same.refl _,h⟩)
  .have y:=V.int.inj (of_decide_eq_true y)
   refine ⟨_,U,szU 0,λe ne=>?_⟩;obtain ⟨B1,s1,e1,h1⟩:=hdG h rfl ne;generalize upd J e _=J1 at h1 ⊢;have ez:nV rs=(rs.map λk:Nat=>(k:Int)).map V.int:=by rw [ug];rfl
   refine ⟨dI (rs.map λk:Nat=>(k:Int)),dI [],dv_ints (SqL.of (by rw [← ez];exact h1.get 0 rfl)),dv_ints (SqL.of (h1.sm _ _ e1)),zbf,zbf,(by have:=dep_ints (ns:=rs.map λk:Nat=>(k:Int));omega),_,U,?_⟩;refine yu (λy=>⟨0,U,.inl rfl,(λz=>by cases z),B1,s1,h1⟩) (λy'=>⟨kind0,U,by omega,λ_=>?_,B1,s1,h1⟩)
   cases rs with
   | nil=>exact absurd (show ((dI []).eqv (dI []))=true from SeqAt.eqv_refl _ zbf) y'
   | cons x r=>exact Nat.succ_pos _
  .rw [z] at y;exact absurd (decide_eq_true rfl) y
 rintro σ J' ⟨kind,rfl,k0,k2,B1,s1,h1⟩;clear h hd;refine ⟨λσ J'=>∃ i:Nat,σ=[iq c,rq g.kd,rq g.le,iq kind,iq rest,iq mx,iq i,rq D,Y,Y,Y,Y,Y]/\i<sD.length/\(kind=2->sD.getD i 0=1)/\Hd B1 ((g.kd,.dK sr)::L) J',?_,?_⟩
 .refine ⟨_,U,U,_,U,?_⟩
  refine yu (λy=>?_) (λy=>⟨tg,U,htg,λz=>?_,h1.tl⟩)
  .have y:=V.int.inj (of_decide_eq_true y)
   have r0:=k2 y;refine ⟨_,U,_,U,_,U,D,_,U,.inl (SqL.of (h1.get 0 rfl)),_,_,U,U,(by rw [rsl];omega),?_⟩;rw [rsl];obtain ⟨j,ej,hj⟩:=Yq (m:=rest) (n:=rs.length) r0;rw [ej];refine ⟨D,_,_,_,U,U,SqL.of (h1.get 0 rfl),ng hj,rs[j],U,?_⟩;have:=hg _ (vB hj);exact ⟨this.1,λ_=>this.2,h1.tl⟩
  .rw [z] at y;exact absurd (decide_eq_true rfl) y
 rintro σ J2 ⟨i,rfl,hi,i2,h2⟩;clear h1;have gi:=ig hi;refine ⟨_,U,_,U,g.le,_,_,_,U,U,SqL.of (eL h2),lg hi,?_⟩;refine ⟨λσ J'=>∃ mn_:Int,σ=[iq c,rq g.kd,rq g.le,iq kind,iq rest,iq mx,iq i,rq D,Y,iq mn_,Y,Y,Y]/\(1<=mn_/\mn_<=400)/\(kind=0∨kind=3->mn_=sD.getD i 0)/\∃ B2,Same B1 B2/\Hd B2 ((g.kd,.dK sr)::L) J',?_,?_⟩
 .refine ⟨λb H'=>H'=J2/\(b=false->¬ (kind=1∨kind=2))/\(b=true->kind=1∨kind=2),?_,?_⟩
  .refine ⟨_,U,U,_,U,?_⟩
   refine yu (λy=>⟨U,(λz=>by cases z),λ_=>.inl (V.int.inj (of_decide_eq_true y))⟩) (λy=>⟨_,U,U,_,U,U,λz=>?_,λz=>.inr (V.int.inj (of_decide_eq_true z))⟩);rintro (rfl | rfl)
   .exact absurd (decide_eq_true rfl) y
   .rw [decide_eq_true rfl] at z;cases z
  rintro b H' ⟨rfl,b0,b1⟩;refine yu (λy=>?_) (λy=>?_)
  .have y:=b1 y
   refine ⟨_,U,_,U,_,U,g.le,_,U,.inl (SqL.of (eL h2)),_,_,U,U,(by rw [ll];omega),?_⟩;rw [ll];obtain ⟨j,ej,hj⟩:=Yq (m:=mx) (n:=sD.length) (by omega);rw [ej];have g400:0<=mx / 12 % 400/\mx / 12 % 400<400:=⟨sZ _ (by decide),sX _ (by decide)⟩;refine ⟨g.le,_,_,_,U,U,SqL.of (eL h2),lg hj,_,U,_,_,U,U,⟨by decide,by decide⟩,_,_,U,U,(by show (0:Int)<400;decide),_,_,U,U,szU 2,λl nl=>?_⟩;obtain ⟨B3,s3,e3,h3⟩:=hdG h2 rfl nl;generalize upd H' l _=J3 at h3 ⊢;have gj:=ig hj;refine ⟨_,U,_,_,U,U,(by show (0:Int)<5;decide),U,.inr ⟨_,U,?_⟩⟩
   cases hz:decide (V.int (mx % 5)=V.int 0) with
   | true=>exact ⟨l,_,_,_,U,U,SqL.of (h3.sm _ _ e3),U,mx / 12 % 400+1,U,by omega,(λz=>by omega),B3,s3,h3⟩
   | false=>exact ⟨l,_,_,_,U,U,SqL.of (h3.sm _ _ e3),U,sD.getD j 0,U,gj,(λz=>by omega),B3,s3,h3⟩
  .exact ⟨sD.getD i 0,U,gi,λ_=>rfl,B1,Same.refl _,h2⟩
 rintro σ J3 ⟨mn_,rfl,hm,hm0,B2,s2,h3⟩;clear h2;refine ⟨λσ J'=>J'=J3/\∃ b:Bool,σ=[iq c,rq g.kd,rq g.le,iq kind,iq rest,iq mx,iq i,rq D,Y,iq mn_,Z (.bl b),Y,Y]/\(b=false->¬ (kind=1∨kind=2)),?_,?_⟩
 .refine ⟨_,U,U,?_⟩
  cases hz:decide (V.int kind=V.int 1) with
  | true=>exact ⟨_,U,zL ⟨U,true,U,λz=>by cases z⟩⟩
  | false =>
   refine ⟨_,U,zy ⟨_,U,U,U,_,U,λz=>?_⟩⟩;rintro (rfl | rfl)
   .rw [decide_eq_true rfl] at hz;cases hz
   .rw [decide_eq_true rfl] at z;cases z
 rintro σ J' ⟨rfl,nb,rfl,hnb⟩;refine ⟨λσ J4=>∃ (ne:Ad) (rs:List Nat),σ=[iq c,rq g.kd,rq g.le,iq kind,iq rest,iq mx,iq i,rq D,Y,iq mn_,Z (.bl nb),rq ne,Y]/\rs.length<=12/\(∀ k∈rs,k<sD.length/\(sD.getD k 0=1∨sD.getD k 0=mn_))/\∃ B3,Same B2 B3/\B3 ne=Z (.lst (nV rs))/\Hd B3 ((g.kd,.dK sr)::L) J4,?_,?_⟩
 .refine ⟨_,U,g.le,_,U,.inl (SqL.of (eL h3)),_,U,by omega,(by rw [ll];omega),_,U,λE nE=>?_⟩
  rw [ll,q0z];have h0:Hd B2 ((E,.lst (nV []))::(g.kd,.dK sr)::L) (upd J' E (.lst [])):=h3.new nE;generalize upd J' E (.lst [])=H1 at h0 ⊢;refine Yw (n:=sD.length) (λi σ J=>∃ (u:Jo) (rs:List Nat),σ=[u,iq mn_,rq g.le]/\Hd B2 ((E,.lst (nV rs))::(g.kd,.dK sr)::L) J/\rs.length<=i/\∀ r∈rs,r<sD.length/\(sD.getD r 0=1∨sD.getD r 0=mn_)) ⟨Y,[],U,h0,sK _,λr hr=>nomatch hr⟩ ?_ ?_
  .clear h0
   rintro i σ J hi ⟨u,rs,rfl,h,hl,hg⟩;refine ⟨_,U,_,U,g.le,_,_,_,U,U,SqL.of (eL h.tl),by rw [uG];exact lg hi,U,_,U,?_⟩;refine yu (λy=>zL ?_) (λ_=>?_)
   .refine ⟨_,U,_,h.get 0 rfl,(by rw [Ji];omega),_,rs++[i],U,?_,(by rw [Jj];show _+1<=_;omega),λr hr=>?_⟩
    .rw [nV,Jk,uG];exact h.put 0 rfl
    .rcases t9.mp hr with hr | hr
     .exact hg r hr
     .cases sG.mp hr;exact ⟨hi,.inl (V.int.inj (of_decide_eq_true y))⟩
   refine ⟨_,U,_,U,g.le,_,_,_,U,U,SqL.of (eL h.tl),by rw [uG];exact lg hi,_,U,U,_,U,?_⟩;refine yu (λy=>?_) (λ_=>⟨_,rs,U,h,by omega,hg⟩);refine ⟨_,U,_,h.get 0 rfl,(by rw [Ji];omega),_,rs++[i],U,?_,(by rw [Jj];show _+1<=_;omega),λr hr=>?_⟩
   .rw [nV,Jk,uG];exact h.put 0 rfl
   .rcases t9.mp hr with hr | hr
    .exact hg r hr
    .cases sG.mp hr;exact ⟨hi,.inr (V.int.inj (of_decide_eq_true y))⟩
  .rintro σ J ⟨u,rs,rfl,h,hl,hg⟩
   exact ⟨E,rs,U,by omega,hg,_,h.settled,zg,h.settle⟩
 rintro σ J4 ⟨ne,near,rfl,nl,hne,B3,s3,ene,h4⟩;clear h3;refine ⟨_,U,g.le,_,U,.inl (SqL.of (eL h4)),_,U,by omega,(by rw [ll];omega),_,U,λfa nfa=>?_⟩;rw [ll,q0z];have h0:Hd B3 ((fa,.lst (nV []))::(g.kd,.dK sr)::L) (upd J4 fa (.lst [])):=h4.new nfa;generalize upd J4 fa (.lst [])=H1 at h0 ⊢;refine Yw (n:=sD.length) (λj σ J=>∃ (u:Jo) (rs:List Nat),σ=[u,iq i]/\Hd B3 ((fa,.lst (nV rs))::(g.kd,.dK sr)::L) J/\rs.length<=j/\∀ r∈rs,r<sD.length/\r≠i) ⟨Y,[],U,h0,sK _,λr hr=>nomatch hr⟩ ?_ ?_
 .clear h0
  rintro j σ J hj ⟨u,rs,rfl,h,hl,hg⟩;refine ⟨_,U,_,U,U,_,U,?_⟩;refine yu (λy=>?_) (λ_=>⟨_,rs,U,h,by omega,hg⟩);refine ⟨_,U,_,h.get 0 rfl,(by rw [Ji];omega),_,rs++[j],U,?_,(by rw [Jj];show _+1<=_;omega),λr hr=>?_⟩
  .rw [nV,Jk,uG];exact h.put 0 rfl
  .rcases t9.mp hr with hr | hr
   .exact hg r hr
   .cases sG.mp hr
    refine ⟨hj,λz=>?_⟩;rw [z,uG,decide_eq_true rfl] at y;cases y
 rintro σ J5 ⟨u,far,rfl,h5,fl,hfa⟩;clear h0 h4;refine ⟨_,U,g.kd,_,U,DPut.k (k:=.inr "far") (h5.get 1 rfl) (by have:=kv.l9;omega),?_⟩;have kv6:KvOk g (z9 sr (.inr "far") (.ref fa)):=kv.put (.inr rfl);have vf6:zN (z9 sr (.inr "far") (.ref fa)) (.inr "far")=Z (.ref fa):=by rw [zY,if_pos rfl]
 have h6:=h5.put (o':=.dK (z9 sr (.inr "far") (.ref fa))) 1 rfl;generalize upd J5 g.kd _=J6 at h6 ⊢;generalize z9 sr (.inr "far") (.ref fa)=kvs6 at kv6 vf6 h6;refine ⟨_,U,_,U,g.kd,_,U,DPut.k (k:=.inr "near") (h6.get 1 rfl) (by have:=kv6.l9;omega),?_⟩;have kv7:KvOk g (z9 kvs6 (.inr "near") (.ref ne)):=kv6.put (.inl rfl);have vn7:zN (z9 kvs6 (.inr "near") (.ref ne)) (.inr "near")=Z (.ref ne):=by rw [zY,if_pos rfl]
 have vf7:zN (z9 kvs6 (.inr "near") (.ref ne)) (.inr "far")=Z (.ref fa):=by rw [zY,if_neg (by decide)];exact vf6
 have h7:=h6.put (o':=.dK (z9 kvs6 (.inr "near") (.ref ne))) 1 rfl;generalize upd J6 g.kd _=J7 at h7 ⊢;generalize z9 kvs6 (.inr "near") (.ref ne)=kvs7 at kv7 vn7 vf7 h7;refine ⟨λσ J8=>∃ (ne':Ad) (near':List Nat) (kvs8:Jl) (B4:Hp),σ=[iq c,rq g.kd,rq g.le,iq kind,iq rest,iq mx,iq i,rq D,Y,iq mn_,Z (.bl nb),rq ne,Y]/\near'.length<=12/\(∀ k∈near',k<sD.length/\(sD.getD k 0=1∨sD.getD k 0=mn_)/\(kind=1∨kind=2->k≠i))/\KvOk g kvs8/\zN kvs8 (.inr "near")=Z (.ref ne')/\zN kvs8 (.inr "far")=Z (.ref fa)/\Same B3 B4/\B4 ne'=Z (.lst (nV near'))/\Hd B4 ((fa,.lst (nV far))::(g.kd,.dK kvs8)::L) J8,?_,?_⟩
 .refine ⟨_,U,nb,U,?_⟩
  cases nb with
  | false=>exact zy ⟨ne,near,kvs7,B3,U,nl,λk m=>⟨(hne k m).1,(hne k m).2,λz=>absurd z (hnb rfl)⟩,kv7,vn7,vf7,Same.refl _,ene,h7⟩
  | true =>
   refine zL ⟨_,U,ne,U,⟨_,SqL.of (h7.sm _ _ ene)⟩,_,U,λE nE=>?_⟩;have h0:Hd B3 ((E,.lst (nV []))::(fa,.lst (nV far))::(g.kd,.dK kvs7)::L) (upd J7 E (.lst [])):=h7.new nE;generalize upd J7 E (.lst [])=H2 at h0 ⊢;refine zbm (K:=K) (a:=ne) (xs:=nV near) (λj σ J=>∃ (u:Jo) (rs:List Nat),σ=[u,iq i]/\Hd B3 ((E,.lst (nV rs))::(fa,.lst (nV far))::(g.kd,.dK kvs7)::L) J/\rs.length<=j/\∀ r∈rs,r∈near/\r≠i) ⟨Y,[],U,h0,sK _,λr hr=>nomatch hr⟩ (λj σ J _ ⟨_,_,_,h,_⟩=>SqL.of (h.sm _ _ ene)) ?_ ?_
   .clear h0
    rintro j x σ J hx ⟨u,rs,rfl,h,hl,hg⟩;obtain ⟨r,er,rfl⟩:=zdz hx;have jl:=(tu.mp er).1;refine ⟨_,U,_,U,U,_,U,?_⟩;refine yu (λy=>?_) (λ_=>⟨_,rs,U,h,by omega,hg⟩);refine ⟨_,U,_,h.get 0 rfl,(by rw [Ji];omega),_,rs++[r],U,?_,(by rw [Jj];show _+1<=_;omega),λr' hr=>?_⟩
    .rw [nV,Jk];exact h.put 0 rfl
    .rcases t9.mp hr with hr | hr
     .exact hg r' hr
     .cases sG.mp hr
      refine ⟨sP er,λz=>?_⟩;rw [z,decide_eq_true rfl] at y;cases y
   rintro σ J8 ⟨u,rs,rfl,h8,rl,hrs⟩;clear h0;rw [Ji] at rl;refine ⟨_,U,g.kd,_,U,DPut.k (k:=.inr "near") (h8.get 2 rfl) (by have:=kv7.l9;omega),?_⟩;have kv9:KvOk g (z9 kvs7 (.inr "near") (.ref E)):=kv7.put (.inl rfl);have vn9:zN (z9 kvs7 (.inr "near") (.ref E)) (.inr "near")=Z (.ref E):=by rw [zY,if_pos rfl]
   have vf9:zN (z9 kvs7 (.inr "near") (.ref E)) (.inr "far")=Z (.ref fa):=by rw [zY,if_neg (by decide)];exact vf7
   have h9:=h8.put (o':=.dK (z9 kvs7 (.inr "near") (.ref E))) 2 rfl;exact ⟨E,rs,_,_,U,by omega,λk m=>⟨(hne k (hrs k m).1).1,(hne k (hrs k m).1).2,λ_=>(hrs k m).2⟩,kv9,vn9,vf9,h9.settled,zg,h9.settle⟩
 rintro σ J8 ⟨ne',near',kvs8,B4,rfl,nl',hne',kv8,vn8,vf8,s4,ene',h8⟩;clear h5 h6 h7;refine ⟨_,U,g.kd,_,U,DPut.k (k:=.inr "own") (h8.get 1 rfl) (by have:=kv8.l9;omega),?_⟩;have kv9:KvOk g (z9 kvs8 (.inr "own") .non):=kv8.own;have vn9:zN (z9 kvs8 (.inr "own") .non) (.inr "near")=Z (.ref ne'):=by rw [zY,if_neg (by decide)];exact vn8
 have vf9:zN (z9 kvs8 (.inr "own") .non) (.inr "far")=Z (.ref fa):=by rw [zY,if_neg (by decide)];exact vf8
 have h9:=h8.put (o':=.dK (z9 kvs8 (.inr "own") .non)) 1 rfl;generalize upd J8 g.kd _=J9 at h9 ⊢;generalize z9 kvs8 (.inr "own") .non=kvs9 at kv9 vn9 vf9 h9;refine ⟨szU 9,λfl' nfl=>?_⟩;have h10:=h9.settle;have s10:=h9.settled;have ef10:(upd B4 fa (.lst (nV far))) fa=Z (.lst (nV far)):=zg;generalize upd B4 fa (.lst (nV far))=B5 at h10 s10 ef10;obtain ⟨B6,s6,e6,h11⟩:=hdG h10 rfl nfl;generalize upd J9 fl' _=J10 at h11 ⊢;obtain ⟨j,ej,hj⟩:=Yq (m:=mx / 5) (n:=9) (by decide);have hj:j<foldsL.length:=hj;refine ⟨_,U,_,U,_,U,_,U,_,U,_,_,U,U,⟨by decide,by decide⟩,_,_,U,U,(by show (0:Int)<9;decide),fl',_,_,_,U,U,SqL.of (h11.sm _ _ e6),(by rw [show mx / 5 % 9=(j:Int) from ej];exact zM (xs:=foldsL.map V.str) (v:=.str foldsL[j]) (by rw [sN,sI hj];rfl)),szU 4,λt nt=>?_⟩;obtain ⟨B7,s7,e7,h12⟩:=hdG h11 rfl nt;have sz:=s6.trans s7;exact q B7 _ t kind i mn_ _ near' far ne' fa kvs9 (s1.trans (s2.trans (s3.trans (s4.trans (s10.trans sz))))) h12 kv9 vn9 vf9 (sz _ _ (s10 _ _ ene')) (sz _ _ ef10) e7 ⟨k0,hi,hm,hm0,i2,hne',hfa,nl',by omega⟩ (vB hj)
end K23
namespace K23
open PySem L2 FM ST
variable {K:Fg} {base:Heap}
def Wk (names:Jf) (sD:Jb) (near far:List Nat):Kw:=⟨names,sD,[],[],[],[],Y,near,far⟩
structure Nms (names:Jf) (sD:Jb):Prop where
 g:∀ z∈names,NmK z
 nd:names.Nodup
 nl:sD.length=names.length
 n12:names.length<=12
 l4:∀ n∈sD,1<=n/\n<=400
def Nms.lf {names:Jf} {sD:Jb} (h:Nms names sD) {kind:Int} {i:Nat} {mn_:Int} {near far:List Nat} (k:HeadOk sD kind i mn_ near far):LfK (Wk names sD near far) :=
 ⟨λz m=>h.g z (by have m:z∈names++[]:=m;rwa [x2y] at m),h.nd,ww,λj m=>by show j<names.length;rw [← h.nl];exact (k.ne j m).1,λj m=>by show j<names.length;rw [← h.nl];exact (k.fa j m).1,h.n12,ub _,k.nl,k.fl⟩
structure StpW (names:Jf) (sD:Jb) (ws:Jf) (L:StepD):Prop where
 ex:∃ wd r,ws=wd::r/\PSt ⟨names,[],Y⟩ wd r L
 g:∀ w∈ws,WG w/\w.length<=20
 l:ws.length<=500
 go:∀ n m,n<40->m<=100->StepGo ⟨names,sD,[],[]⟩ (λ_=>0) (λ_=>0) L n m
 few:∀ F∈z6 L,F2.nodes F<=100
structure LfS (sD:Jb) (kind:Int) (i:Nat) (mn_:Int) (F:F2.Fm):Prop where
 n:F2.nodes F=1
 cl:F2.CL 0 F
 sz:∀ S,F2.sz S F=1
 dp:∀ S,F2.dp S F=0
 ri:F2.RI sD.length F
 un:F2.hit (fU sD mn_) F=false
 cr:F2.hit (fX (decide (kind=1) || decide (kind=2)) (i:Nat)) F=false
def Zk {f:Bool×Int->Bool} {F:F2.Fm} (hp:F2.partsF F=[]) (h:∀ q,F2.nameOf F=Z q->f q=false):F2.hit f F=false:=by
 unfold F2.hit;refine decide_eq_false ?_;have e:F2.tot (F2.ownN f) F=F2.ownN f F+((F2.partsF F).map (F2.tot (F2.ownN f))).sum:=F2.tot_eq _;rw [e,hp];show ¬ 0<F2.ownN f F+0;unfold F2.ownN
 split
 .rename_i q hq
  rw [h q hq];decide
 .decide
def LfS.of {names:Jf} {sD:Jb} {kind:Int} {i:Nat} {mn_:Int} {near far:List Nat} (k:HeadOk sD kind i mn_ near far) {F:F2.Fm} (h:LfF (Wk names sD near far) F):LfS sD kind i mn_ F:=by
 cases F with
 | num n=>exact ⟨by rw [F2.nodes_eq];rfl,by unfold F2.CL;trivial,λ_=>by unfold F2.sz;rfl,λ_=>by unfold F2.dp;rfl,by unfold F2.RI;trivial,Zk rfl (λq e=>by cases e),Zk rfl (λq e=>by cases e)⟩
 | here=>exact ⟨by rw [F2.nodes_eq];rfl,by unfold F2.CL;trivial,λ_=>by unfold F2.sz;rfl,λ_=>by unfold F2.dp;rfl,by unfold F2.RI;trivial,Zk rfl (λq e=>by cases e),Zk rfl (λq e=>by cases e)⟩
 | cell r =>
  obtain ⟨j,mj,rfl⟩:=h;obtain ⟨a,b,c⟩:=k.ne j mj;refine ⟨by rw [F2.nodes_eq];rfl,by unfold F2.CL;trivial,λ_=>by unfold F2.sz;rfl,λ_=>by unfold F2.dp;rfl,by unfold F2.RI;exact ⟨by omega,by rw [q0z];exact a⟩,Zk rfl (λq e=>?_),Zk rfl (λq e=>?_)⟩
  .cases e
   show (true && (!decide (sD.getD ((j:Nat):Int).toNat 0=mn_) && !decide (sD.getD ((j:Nat):Int).toNat 0=1)))=false;rw [q0z];rcases b with b | b
   .rw [b,decide_eq_true (rfl:(1:Int)=1),Bool.not_true,Bool.and_false];rfl
   .rw [b,decide_eq_true (rfl:mn_=mn_)];rfl
  .cases e
   show (decide (((j:Nat):Int)=((i:Nat):Int)) && (!true || (decide (kind=1) || decide (kind=2))))=false;by_cases z:kind=1∨kind=2
   .rw [decide_eq_false (λe=>c z (by omega))];rfl
   .rw [decide_eq_false (λe=>z (.inl e)),decide_eq_false (λe=>z (.inr e)),Bool.and_comm];rfl
 | shi r b o =>
  obtain ⟨j,mj,rfl⟩:=h;obtain ⟨a,c⟩:=k.fa j mj;refine ⟨by rw [F2.nodes_eq];rfl,by unfold F2.CL;trivial,λ_=>by unfold F2.sz;rfl,λ_=>by unfold F2.dp;rfl,by unfold F2.RI;trivial,Zk rfl (λq e=>by cases e;rfl),Zk rfl (λq e=>?_)⟩;cases e;show (decide (((j:Nat):Int)=((i:Nat):Int)) && _)=false;rw [decide_eq_false (λe=>c (by omega))];rfl
 | loc a=>exact absurd rfl h
 | at' r p=>exact h.elim
 | pair s l r=>exact h.elim
 | cho t l r=>exact h.elim
 | call a gs=>exact h.elim
def any_not {α:Type} {p:α->Bool} {l:List α} (h:∀ x∈l,p x=false):l.any p=false:=by
 rw [wI];intro x m;rw [h x m];decide
def go_of {names:Jf} {sD:Jb} {kind:Int} {i:Nat} {mn_:Int} {near far:List Nat} (k:HeadOk sD kind i mn_ near far) {L:StepD} (ht:L.target=(i:Nat)) (hf:∀ F∈z6 L,LfS sD kind i mn_ F) (hm:yF sD L=mn_) (hF:isF L.kind=true->kind=2) (hk:(isP L.kind || isF L.kind)=(decide (kind=1) || decide (kind=2))) (n m:Nat) (h40:n<40) (h100:m<=100):StepGo ⟨names,sD,[],[]⟩ (λ_=>0) (λ_=>0) L n m:=by
 refine ⟨⟨by rw [ht];omega,by rw [ht,q0z];exact k.il,λF m=>⟨by rw [(hf F m).n];decide,(hf F m).ri⟩⟩,⟨ub _,⟨ub _,(λi h=>by cases h),(λi h=>by cases h),(λi h=>by cases h)⟩,⟨ub _,(λi h=>by cases h),(λi h=>by cases h),(λi h=>by cases h)⟩,λF m=>(hf F m).cl,λF m=>by rw [(hf F m).n];decide,λF m=>by rw [(hf F m).sz];decide,λF m=>by rw [(hf F m).dp];decide⟩,?_,?_,h40,h100⟩
 .unfold Zo
  rw [any_not λF m=>by rw [hm];exact (hf F m).un,Bool.or_false]
  cases e:isF L.kind with
  | false=>rfl
  | true =>
   rw [ht,q0z,show sD.getD i 0=1 from k.o (hF e)];rfl
 .unfold Xi
  exact any_not λF m=>by rw [hk,ht];exact (hf F m).cr
inductive Bhd (W:Kw) (p2:Pt):Bool->Jf->Option F2.Fm->Prop
 | no:Bhd W p2 false [] Y
 | yes:Bhd W p2 true (("where":Str)::p2.ws) (Z p2.F)
def Bhd.pt {W:Kw} {p2:Pt} (h2:LfOk W p2) {b:Bool} {bh:Jf} {t:Option F2.Fm} (h:Bhd W p2 b bh t):PTest W.R bh t:=by
 cases h with
 | no=>exact .none
 | yes =>
  have:=h2.o.rd 30 [] (tE h2.b (by decide));rw [x2y] at this;exact .some _ _ this
def wg_w (z:Str) (h:z∈[("where":Str),"let","put","fold","run","at","in","of","into"]):WG z/\z.length<=20:=by
 simp only [sM,tM,or_false] at h;rcases h with rfl | rfl | rfl | rfl | rfl | rfl | rfl | rfl | rfl <;> exact ⟨.inr (.inr ⟨by decide,by unfold SgnN;decide⟩),by decide⟩
def Bhd.len {W:Kw} {p2:Pt} (h2:LfOk W p2) (n2:F2.nodes p2.F=1) {b:Bool} {bh:Jf} {t:Option F2.Fm} (h:Bhd W p2 b bh t):bh.length<=7/\(∀ w∈bh,WG w/\w.length<=20)/\∀ F∈t.toList,F=p2.F:=by
 cases h with
 | no=>exact ⟨ub _,(λw m=>nomatch m),(λw m=>nomatch m)⟩
 | yes =>
  have:=h2.o.l;rw [n2] at this;refine ⟨by rw [x2x];omega,λw m=>?_,λF m=>sG.mp m⟩;rcases sM.mp m with rfl | m
  .exact wg_w _ (by decide)
  .exact h2.o.g w m
section
variable {names:Jf} {sD:Jb} {kind:Int} {i:Nat} {mn_:Int} {near far:List Nat} {f:Str} {p0 p1 p2:Pt} {b:Bool} {bh:Jf} {t:Option F2.Fm} {z:Str}
def stw {ws r:Jf} {wd:Str} {L:StepD} (k:HeadOk sD kind i mn_ near far) (h0:LfOk (Wk names sD near far) p0) (h1:LfOk (Wk names sD near far) p1) (h2:LfOk (Wk names sD near far) p2) (hb:Bhd (Wk names sD near far) p2 b bh t) (e:ws=wd::r) (hp:PSt ⟨names,[],Y⟩ wd r L) (hg:∀ w∈ws,w∈p0.ws∨w∈p1.ws∨w∈bh∨WG w/\w.length<=20) (hl:ws.length<=p0.ws.length+p1.ws.length+bh.length+10) (hv:L.value=p0.F) (hpl:∀ F∈zdd L.kind,F=p1.F) (hts:L.test=t) (htg:L.target=(i:Nat)) (hm:yF sD L=mn_) (hF:isF L.kind=true->kind=2) (hk:(isP L.kind || isF L.kind)=(decide (kind=1) || decide (kind=2))):StpW names sD ws L:=by
 have f0:=LfS.of k h0.f;have f1:=LfS.of k h1.f;have f2:=LfS.of k h2.f;have l0:=h0.o.l;have l1:=h1.o.l;rw [f0.n] at l0;rw [f1.n] at l1;obtain ⟨lb,gb,tb⟩:=hb.len h2 f2.n
 have hf:∀ F∈z6 L,LfS sD kind i mn_ F:=λF m=>by
  unfold z6 at m;rcases t9.mp m with m | m
  .rcases t9.mp m with m | m
   .cases sG.mp m;rw [hv];exact f0
   .rw [hpl F m];exact f1
  .rw [hts] at m;rw [tb F m];exact f2
 refine ⟨⟨wd,r,e,hp⟩,λw m=>?_,by omega,go_of k htg hf hm hF hk,λF m=>by rw [(hf F m).n];decide⟩;rcases hg w m with m | m | m | m
 .exact h0.o.g w m
 .exact h1.o.g w m
 .exact gb w m
 .exact m
variable (k:HeadOk sD kind i mn_ near far) (nm:Nms names sD) (h0:LfOk (Wk names sD near far) p0) (h1:LfOk (Wk names sD near far) p1) (h2:LfOk (Wk names sD near far) p2) (hb:Bhd (Wk names sD near far) p2 b bh t) (ez:names[i]?=Z z) (hf:f∈foldsL)
include k nm h0 h1 h2 hb ez
def w_let (e:kind=0):StpW names sD ([("let":Str),z]++p0.ws++bh) ⟨(i:Nat),p0.F,t,.let'⟩:=by
 have hz:=nm.g z (sP ez);refine stw k h0 h1 h2 hb (wd:="let") (r:=z::(p0.ws++bh)) rfl (.let_ _ (p0.ws++bh) bh i p0.F t (XL hz (Zx nm.nd ez) _) (h0.o.rd 30 bh (tE h0.b (by decide))) (hb.pt h2)) (λw m=>?_) (by rw [Jj,Jj];show 2+_+_<=_;omega) rfl (λF m=>nomatch m) rfl rfl (by rw [k.m0 (.inl e)];show sD.getD ((i:Nat):Int).toNat 0=_;rw [q0z]) (λz=>by cases z) (by rw [e];rfl);rcases t9.mp m with m | m
 .rcases t9.mp m with m | m
  .rcases sM.mp m with rfl | m
   .exact .inr (.inr (.inr (wg_w _ (by decide))))
   .cases sG.mp m;exact .inr (.inr (.inr hz.wl))
  .exact .inl m
 .exact .inr (.inr (.inl m))
def w_put (e:kind=1):StpW names sD ([("put":Str)]++p0.ws++[("at":Str)]++p1.ws++[("in":Str),z,"of",numS mn_]++bh) ⟨(i:Nat),p0.F,t,.put p1.F mn_⟩:=by
 have hz:=nm.g z (sP ez);have km:=k.m;refine stw k h0 h1 h2 hb (wd:="put") (r:=p0.ws++("at":Str)::(p1.ws++("in":Str)::z::"of"::numS mn_::bh)) (by simp) (.put_ _ (p1.ws++("in":Str)::z::"of"::numS mn_::bh) (z::"of"::numS mn_::bh) (numS mn_::bh) bh i p0.F p1.F mn_ t (h0.o.rd 30 _ (tE h0.b (by decide))) (h1.o.rd 30 _ (tE h1.b (by decide))) (XL hz (Zx nm.nd ez) _) (XM (by omega) (by omega) km.1 km.2 _) (hb.pt h2)) (λw m=>?_) (by simp only [Jj,x2x,tU];omega) rfl (λF m=>sG.mp m) rfl rfl rfl (λz=>by cases z) (by rw [e];rfl);simp only [t9,sM,tM,or_false] at m;have W:∀ w,w∈[("where":Str),"let","put","fold","run","at","in","of","into"]->w∈p0.ws∨w∈p1.ws∨w∈bh∨WG w/\w.length<=20:=λw m=>.inr (.inr (.inr (wg_w w m)));rcases m with ((((rfl | m) | rfl) | m) | rfl | rfl | rfl | rfl) | m
 .exact W _ (by decide)
 .exact .inl m
 .exact W _ (by decide)
 .exact .inr (.inl m)
 .exact W _ (by decide)
 .exact .inr (.inr (.inr hz.wl))
 .exact W _ (by decide)
 .exact .inr (.inr (.inr (Zb (by omega) (by omega)).2.2.2))
 .exact .inr (.inr (.inl m))
include hf
def w_fold (e:kind=2):StpW names sD ([("fold":Str),f]++p0.ws++[("into":Str),z,"of",numS mn_]++bh) ⟨(i:Nat),p0.F,t,.fold f mn_⟩:=by
 have hz:=nm.g z (sP ez);have hf:=ze8 f hf;have km:=k.m;refine stw k h0 h1 h2 hb (wd:="fold") (r:=f::(p0.ws++("into":Str)::z::"of"::numS mn_::bh)) (by simp) (.fold_ f _ (z::"of"::numS mn_::bh) (numS mn_::bh) bh i p0.F mn_ t hf.1 (h0.o.rd 30 _ (tE h0.b (by decide))) (XL hz (Zx nm.nd ez) _) (XM (by omega) (by omega) km.1 km.2 _) (hb.pt h2)) (λw m=>?_) (by simp only [Jj,x2x,tU];omega) rfl (λF m=>nomatch m) rfl rfl rfl (λ_=>e) (by rw [e];rfl);simp only [t9,sM,tM,or_false] at m;have W:∀ w,w∈[("where":Str),"let","put","fold","run","at","in","of","into"]->w∈p0.ws∨w∈p1.ws∨w∈bh∨WG w/\w.length<=20:=λw m=>.inr (.inr (.inr (wg_w w m)));rcases m with (((rfl | rfl) | m) | rfl | rfl | rfl | rfl) | m
 .exact W _ (by decide)
 .exact .inr (.inr (.inr hf.2))
 .exact .inl m
 .exact W _ (by decide)
 .exact .inr (.inr (.inr hz.wl))
 .exact W _ (by decide)
 .exact .inr (.inr (.inr (Zb (by omega) (by omega)).2.2.2))
 .exact .inr (.inr (.inl m))
def w_run (e:kind=3):StpW names sD ([("run":Str),f]++p0.ws++[("into":Str),z]++bh) ⟨(i:Nat),p0.F,t,.run f⟩:=by
 have hz:=nm.g z (sP ez);have hf:=ze8 f hf;refine stw k h0 h1 h2 hb (wd:="run") (r:=f::(p0.ws++("into":Str)::z::bh)) (by simp) (.run_ f _ (z::bh) bh i p0.F t hf.1 (h0.o.rd 30 _ (tE h0.b (by decide))) (XL hz (Zx nm.nd ez) _) (hb.pt h2)) (λw m=>?_) (by simp only [Jj,x2x,tU];omega) rfl (λF m=>nomatch m) rfl rfl (by rw [k.m0 (.inr e)];show sD.getD ((i:Nat):Int).toNat 0=_;rw [q0z]) (λz=>by cases z) (by rw [e];rfl);simp only [t9,sM,tM,or_false] at m;have W:∀ w,w∈[("where":Str),"let","put","fold","run","at","in","of","into"]->w∈p0.ws∨w∈p1.ws∨w∈bh∨WG w/\w.length<=20:=λw m=>.inr (.inr (.inr (wg_w w m)));rcases m with (((rfl | rfl) | m) | rfl | rfl) | m
 .exact W _ (by decide)
 .exact .inr (.inr (.inr hf.2))
 .exact .inl m
 .exact W _ (by decide)
 .exact .inr (.inr (.inr hz.wl))
 .exact .inr (.inr (.inl m))
end
def PtAs'.same {H H':Hp} {x wa da:Ad} {p:Pt} (h:PtAs' H x wa da p) (s:Same H H'):PtAs' H' x wa da p:=⟨s _ _ h.t,s _ _ h.w,h.d.same s⟩
def zc8 {B H J J1 J2:Hp} {wl dt t v p:Ad} {tv:V} {ws:Jf} {L:StepD} (sB:Same B H) (sJ:Same H J) (ew:J wl=Z (.lst (ws.map V.str))) (nw:H wl=Y) (e1:upd J dt (.tup (dueL L v p tv))=J1) (n1:J dt=Y) (e2:upd J1 t (.tup [.ref wl,.ref dt])=J2) (n2:J1 t=Y) (dv:DueAt B L.value v) (dT:DueT B L.test tv) (dp:∀ F m,L.kind=.put F m->DueAt B F p):Same H J2/\ext B H J2 t=Z (.tup [.ref wl,.ref dt])/\ext B H J2 wl=Z (.lst (ws.map V.str))/\DueS1 (ext B H J2) L dt:=by
 obtain ⟨s1,a1⟩:=yU e1 n1;obtain ⟨s2,a2⟩:=yU e2 n2;have so:Same B (ext B H J2):=Yc sB;refine ⟨sJ.trans (s1.trans s2),?_,?_,v,p,tv,?_,dv.same so,dT.same so,λF m z=>(dp F m z).same so⟩
 .rw [ZX (sJ.free (s1.free n2))];exact a2
 .rw [ZX nw];exact s2 _ _ (s1 _ _ ew)
 .rw [ZX (sJ.free n1)];exact s2 _ _ a1
inductive spSb (vs:Jn) (H:Hp) (Q:VK) (_:XK):Prop
 | mk (B:Hp) (ht pl kd na x0 x1 x2 w0 w1 w2 d0 d1 d2:Ad) (b:Bool) (sr:Jl) (names:Jf) (sD:Jb) (kind:Int) (i:Nat) (mn_:Int) (f:Str) (near far:List Nat) (p0 p1 p2:Pt) (_:vs=[.ref ht,.ref pl,.bl b,.ref kd]) (sB:Same B H) (_:B ht=Z (.tup [.int kind,.int (i:Nat),.int mn_,.str f])) (_:B pl=Z (.lst [.ref x0,.ref x1,.ref x2])) (_:PtAs' B x0 w0 d0 p0) (_:PtAs' B x1 w1 d1 p1) (_:PtAs' B x2 w2 d2 p2) (_:H kd=Z (.dK sr)) (_:zN sr (.inr "names")=Z (.ref na)) (_:H na=Z (.lst (names.map V.str))) (_:HeadOk sD kind i mn_ near far) (_:Nms names sD) (l0:LfOk (Wk names sD near far) p0) (l1:LfOk (Wk names sD near far) p1) (l2:LfOk (Wk names sD near far) p2) (hf:f∈foldsL)
  (q:∀ H' t wl dt ws L,Same H H'->ext B H H' t=Z (.tup [.ref wl,.ref dt])->ext B H H' wl=Z (.lst (ws.map V.str))->DueS1 (ext B H H') L dt->StpW names sD ws L->Q (.ref t) H')
def zfx (d:zj K mg "_law_step_by" ZL Uq) (hstr:mg "str"=Y):Ok P w K mg base CX0 1 "_law_step_by" Uq spSb:=by
 refine oDf d sc_l_step_by λf sA A _ s H vs Q E hr h=>?_;obtain ⟨B,ht,pl,kd,na,x0,x1,x2,w0,w1,w2,d0,d1,d2,b,sr,names,sD,kind,i,mn_,f,near,far,p0,p1,p2,rfl,sB,e1,e2,a0,a1,a2,ek,vn,en,hk,nm,l0,l1,l2,hf,q⟩:=h;have hu:=tK (tO (show 1<=64 by decide) _) hr.units;have nd:=sc_l_step_by.nd;have SL:(1000:Nat)<sizeLine:=by decide
 have il:i<names.length:=by rw [← nm.nl];exact hk.il
 obtain ⟨z,ez⟩:∃ z,names[i]?=Z z:=⟨_,sI il⟩;have c0:=a0.same sB;have c1:=a1.same sB;have c2:=a2.same sB;have f0:=LfS.of hk l0.f;have f1:=LfS.of hk l1.f;have f2:=LfS.of hk l2.f;have g0:=l0.o.l;have g1:=l1.o.l;have g2:=l2.o.l;rw [f0.n] at g0;rw [f1.n] at g1;rw [f2.n] at g2;have km:=hk.m;refine ⟨_,(zb (ps_asg (pv 0) (zde rfl (xc (oQz 4 nd) (xc (oQz 5 nd) (xc (oQz 6 nd) (xc (oQz 7 nd) zai))))))
   (zb (oRz 8 nd (zx zD (zH hu (pv 3) zn (λ_ _=>rfl)) (pv 5) (λ_ _=>rfl)))
   (zb (oRz 9 nd (zx zD (pv 1) zd (λ_ _=>rfl)))
   (zb (oRz 10 nd yK)
   (zb (oRz 11 nd (zJ zc))
   (zb (yx (zB (zG (pv 2)) (zb (oRz 10 nd (zx zE (zx zD (pv 1) zd (λ_ _=>rfl)) zd (λ_ _=>rfl)))
   (ze (oRz 11 nd (zq xG (zJ (za zn zc)) (zx zE (zx zD (pv 1) zd (λ_ _=>rfl)) zd (λ_ _=>rfl)))))) zk))
   (zb (zB (zp zP (pv 4) zd (zw _)) (ze (zm (yb (za (zq xG (zq xG (zJ (za zn (za (pv 8) zc))) (zx zE (pv 9) zd (λ_ _=>rfl))) (pv 11)) (za (yb (za zn (za (pv 5) (za (zx zE (pv 9) zd (λ_ _=>rfl)) (za (pv 10) zc))))) zc))))) zk)
   (zb (zB (zp zP (pv 4) zd (zw _)) (zb (oRz 12 nd (zq xG (zq xG (zq xG (zq xG (zJ (za zn zc)) (zx zE (pv 9) zd (λ_ _=>rfl))) (zJ (za zn zc))) (zx zE (zx zD (pv 1) zd (λ_ _=>rfl)) zd (λ_ _=>rfl))) (zJ (za zn (za (pv 8) (za zn (za (z8 yI (by rfl) hstr up (za (pv 6) zc)) zc)))))))
   (ze (zm (yb (za (zq xG (pv 12) (pv 11)) (za (yb (za zn (za (pv 5) (za (zx zE (pv 9) zd (λ_ _=>rfl)) (za (pv 10) (za (pv 6) (za (zx zE (zx zD (pv 1) zd (λ_ _=>rfl)) zd (λ_ _=>rfl)) zc))))))) zc)))))) zk)
   (zb (zB (zp zP (pv 4) zd (zw _)) (zb (oRz 12 nd (zq xG (zq xG (zJ (za zn (za (pv 7) zc))) (zx zE (pv 9) zd (λ_ _=>rfl))) (zJ (za zn (za (pv 8) (za zn (za (z8 yI (by rfl) hstr up (za (pv 6) zc)) zc)))))))
   (ze (zm (yb (za (zq xG (pv 12) (pv 11)) (za (yb (za zn (za (pv 5) (za (zx zE (pv 9) zd (λ_ _=>rfl)) (za (pv 10) (za (pv 6) (za (pv 7) zc))))))) zc)))))) zk)
   (ze (zm (yb (za (zq xG (zq xG (zq xG (zJ (za zn (za (pv 7) zc))) (zx zE (pv 9) zd (λ_ _=>rfl))) (zJ (za zn (za (pv 8) zc)))) (pv 11)) (za (yb (za zn (za (pv 5) (za (zx zE (pv 9) zd (λ_ _=>rfl)) (za (pv 10) (za (pv 7) zc)))))) zc)))))))))))))),?_⟩
 show (let s1:L2.TS:=_;let s2:L2.TS:=L2.tSeq _ s1;let s3:L2.TS:=L2.tSeq _ s2;let s4:L2.TS:=L2.tSeq _ s3;let s5:L2.TS:=L2.tSeq _ s4;let s6:L2.TS:=L2.tSeq _ s5;let s7:L2.TS:=L2.tSeq _ s6;let s8:L2.TS:=L2.tSeq _ s7;let s9:L2.TS:=L2.tSeq _ s8;L2.tSeq _ s9 _ _ _);intro s1 s2 s3 s4 s5 s6 s7 s8 s9;refine ⟨_,U,ht,_,U,SqT.of (sB _ _ e1),U,_,_,U,_,_,U,_,_,U,_,_,U,U,?_⟩;have p3:∀ (J:Hp) (j:Nat) (x:Ad),Same H J->([V.ref x0,.ref x1,.ref x2])[j]?=Z (.ref x)->SqL K J pl [.ref x0,.ref x1,.ref x2]/\atI [V.ref x0,.ref x1,.ref x2] (j:Int)=Z (.ref x):=λJ j x s e=>⟨SqL.of (s _ _ (sB _ _ e2)),zM e⟩;refine ⟨_,U,kd,_,U,yJ ek vn,_,U,na,_,_,_,U,U,SqL.of en,zM (by rw [sN,ez];rfl),_,U,pl,_,_,_,U,U,(p3 H 0 x0 (Same.refl _) rfl).1,(p3 H 0 x0 (Same.refl _) rfl).2,szU 0,λbl nbl=>?_⟩;obtain ⟨s1,b1⟩:=yU (H:=H) (t:=bl) rfl nbl;generalize upd H bl _=H1 at s1 b1 ⊢;refine ⟨λσ J=>∃ (tv:V) (bl:Ad) (bh:Jf) (t:Option F2.Fm),σ=[Z (.ref ht),Z (.ref pl),Z (.bl b),Z (.ref kd),Z (.int kind),Z (.int (i:Nat)),Z (.int mn_),Z (.str f),Z (.str z),Z (.ref x0),Z tv,Z (.ref bl),Y]/\Same H J/\J bl=Z (.lst (bh.map V.str))/\Bhd (Wk names sD near far) p2 b bh t/\DueT B t tv,?_,?_⟩
 .refine ⟨_,U,b,U,?_⟩
  cases b with
  | false=>exact zy ⟨.non,bl,[],Y,U,s1,b1,.no,U⟩
  | true =>
   refine zL ⟨_,U,pl,_,_,_,U,U,(p3 H1 2 x2 s1 rfl).1,(p3 H1 2 x2 s1 rfl).2,x2,_,_,_,U,U,SqT.of (s1 _ _ c2.t),U,szU 1,λu nu=>?_⟩;obtain ⟨su,bu⟩:=yU (H:=H1) (t:=u) rfl nu;generalize upd H1 u _=H2 at su bu ⊢;have s2:=s1.trans su;refine ⟨_,U,pl,_,_,_,U,U,(p3 H2 2 x2 s2 rfl).1,(p3 H2 2 x2 s2 rfl).2,x2,_,_,_,U,U,SqT.of (s2 _ _ c2.t),U,u,w2,_,_,U,U,bu,s2 _ _ c2.w,by rw [Ji];show 1+_<=_;omega,λv nv=>?_⟩;obtain ⟨sv,bv⟩:=yU (H:=H2) (t:=v) rfl nv;exact ⟨.ref d2,v,("where":Str)::p2.ws,Z p2.F,U,s2.trans sv,bv,.yes,d2,U,a2.d⟩
 rintro σ J ⟨tv,bl,bh,t,rfl,sJ,eb,hb,dT⟩;clear s1 b1 nbl;obtain ⟨lb,_,_⟩:=hb.len l2 f2.n;refine ⟨_,U,U,_,U,?_⟩;refine yu (λy=>?_) (λy0=>?_)
 .have y:=V.int.inj (of_decide_eq_true y)
  refine ⟨_,U,szU 2,λu1 n_u1=>?_⟩;obtain ⟨s_u1,b_u1⟩:=yU (H:=J) (t:=u1) rfl n_u1;generalize upd J u1 _=J1 at s_u1 b_u1 ⊢;have T1:=sJ.trans s_u1;refine ⟨_,U,x0,_,_,_,U,U,SqT.of (T1 _ _ c0.t),U,u1,w0,_,_,U,U,b_u1,T1 _ _ c0.w,(by simp only [Jj,Ji,x2x,tU];omega),λu2 n_u2=>?_⟩;obtain ⟨s_u2,b_u2⟩:=yU (H:=J1) (t:=u2) rfl n_u2;generalize upd J1 u2 _=J2 at s_u2 b_u2 ⊢;have T2:=T1.trans s_u2;refine ⟨_,U,u2,bl,_,_,U,U,b_u2,(s_u2 _ _ (s_u1 _ _ (eb))),(by simp only [Jj,Ji,x2x,tU];omega),λwl n_wl=>?_⟩;obtain ⟨s_wl,b_wl⟩:=yU (H:=J2) (t:=wl) rfl n_wl;generalize upd J2 wl _=J3 at s_wl b_wl ⊢;have T3:=T2.trans s_wl;have ew:J3 wl=Z (.lst (([("let":Str),z]++p0.ws++bh).map V.str)):=by simp only [Jk];exact b_wl
  refine ⟨_,U,_,U,x0,_,_,_,U,U,SqT.of (T3 _ _ c0.t),U,_,U,szU 4,λdt ndt=>⟨szU 2,λtt ntt=>?_⟩⟩;have z:=zc8 (L:=⟨(i:Nat),p0.F,t,.let'⟩) (p:=0) sB T3 ew (T2.free n_wl) rfl ndt rfl ntt a0.d dT (λF m e=>by cases e);exact q _ tt wl dt _ _ z.1 z.2.1 z.2.2.1 z.2.2.2 (w_let hk nm l0 l1 l2 hb ez y)
 refine ⟨_,U,U,_,U,?_⟩;refine yu (λy=>?_) (λy1=>?_)
 .have y:=V.int.inj (of_decide_eq_true y)
  refine ⟨szU 1,λu1 n_u1=>?_⟩;obtain ⟨s_u1,b_u1⟩:=yU (H:=J) (t:=u1) rfl n_u1;generalize upd J u1 _=J1 at s_u1 b_u1 ⊢;have T1:=sJ.trans s_u1;refine ⟨_,U,x0,_,_,_,U,U,SqT.of (T1 _ _ c0.t),U,u1,w0,_,_,U,U,b_u1,T1 _ _ c0.w,(by simp only [Jj,Ji,x2x,tU];omega),λu2 n_u2=>?_⟩;obtain ⟨s_u2,b_u2⟩:=yU (H:=J1) (t:=u2) rfl n_u2;generalize upd J1 u2 _=J2 at s_u2 b_u2 ⊢;have T2:=T1.trans s_u2;refine ⟨szU 1,λu3 n_u3=>?_⟩;obtain ⟨s_u3,b_u3⟩:=yU (H:=J2) (t:=u3) rfl n_u3;generalize upd J2 u3 _=J3 at s_u3 b_u3 ⊢;have T3:=T2.trans s_u3;refine ⟨u2,u3,_,_,U,U,(s_u3 _ _ (b_u2)),b_u3,(by simp only [Jj,Ji,x2x,tU];omega),λu4 n_u4=>?_⟩;obtain ⟨s_u4,b_u4⟩:=yU (H:=J3) (t:=u4) rfl n_u4;generalize upd J3 u4 _=J4 at s_u4 b_u4 ⊢;have T4:=T3.trans s_u4;refine ⟨_,U,pl,_,_,_,U,U,(p3 J4 1 x1 T4 rfl).1,(p3 J4 1 x1 T4 rfl).2,x1,_,_,_,U,U,SqT.of (T4 _ _ c1.t),U,u4,w1,_,_,U,U,b_u4,T4 _ _ c1.w,(by simp only [Jj,Ji,x2x,tU];omega),λu5 n_u5=>?_⟩;obtain ⟨s_u5,b_u5⟩:=yU (H:=J4) (t:=u5) rfl n_u5;generalize upd J4 u5 _=J5 at s_u5 b_u5 ⊢;have T5:=T4.trans s_u5;refine ⟨_,U,_,U,mn_,U,by omega,by omega,szU 4,λu6 n_u6=>?_⟩;obtain ⟨s_u6,b_u6⟩:=yU (H:=J5) (t:=u6) rfl n_u6;generalize upd J5 u6 _=J6 at s_u6 b_u6 ⊢;have T6:=T5.trans s_u6;refine ⟨u5,u6,_,_,U,U,(s_u6 _ _ (b_u5)),b_u6,(by simp only [Jj,Ji,x2x,tU];omega),λu7 n_u7=>?_⟩;obtain ⟨s_u7,b_u7⟩:=yU (H:=J6) (t:=u7) rfl n_u7;generalize upd J6 u7 _=J7 at s_u7 b_u7 ⊢;have T7:=T6.trans s_u7;refine ⟨_,U,_,U,u7,bl,_,_,U,U,b_u7,(s_u7 _ _ (s_u6 _ _ (s_u5 _ _ (s_u4 _ _ (s_u3 _ _ (s_u2 _ _ (s_u1 _ _ (eb)))))))),(by simp only [Jj,Ji,x2x,tU];omega),λwl n_wl=>?_⟩;obtain ⟨s_wl,b_wl⟩:=yU (H:=J7) (t:=wl) rfl n_wl;generalize upd J7 wl _=J8 at s_wl b_wl ⊢;have T8:=T7.trans s_wl;have ew:J8 wl=Z (.lst (([("put":Str)]++p0.ws++[("at":Str)]++p1.ws++[("in":Str),z,"of",numS mn_]++bh).map V.str)):=by simp only [Jk];exact b_wl
  refine ⟨_,U,_,U,x0,_,_,_,U,U,SqT.of (T8 _ _ c0.t),U,_,U,_,U,_,U,pl,_,_,_,U,U,(p3 J8 1 x1 T8 rfl).1,(p3 J8 1 x1 T8 rfl).2,x1,_,_,_,U,U,SqT.of (T8 _ _ c1.t),U,szU 6,λdt ndt=>⟨szU 2,λtt ntt=>?_⟩⟩;have z:=zc8 (L:=⟨(i:Nat),p0.F,t,.put p1.F mn_⟩) (p:=d1) sB T8 ew (T7.free n_wl) rfl ndt rfl ntt a0.d dT (λF m e=>by cases e;exact a1.d);exact q _ tt wl dt _ _ z.1 z.2.1 z.2.2.1 z.2.2.2 (w_put hk nm l0 l1 l2 hb ez y)
 refine ⟨_,U,U,_,U,?_⟩;refine yu (λy=>?_) (λy2=>?_)
 .have y:=V.int.inj (of_decide_eq_true y)
  refine ⟨_,U,szU 2,λu1 n_u1=>?_⟩;obtain ⟨s_u1,b_u1⟩:=yU (H:=J) (t:=u1) rfl n_u1;generalize upd J u1 _=J1 at s_u1 b_u1 ⊢;have T1:=sJ.trans s_u1;refine ⟨_,U,x0,_,_,_,U,U,SqT.of (T1 _ _ c0.t),U,u1,w0,_,_,U,U,b_u1,T1 _ _ c0.w,(by simp only [Jj,Ji,x2x,tU];omega),λu2 n_u2=>?_⟩;obtain ⟨s_u2,b_u2⟩:=yU (H:=J1) (t:=u2) rfl n_u2;generalize upd J1 u2 _=J2 at s_u2 b_u2 ⊢;have T2:=T1.trans s_u2;refine ⟨_,U,_,U,mn_,U,by omega,by omega,szU 4,λu3 n_u3=>?_⟩;obtain ⟨s_u3,b_u3⟩:=yU (H:=J2) (t:=u3) rfl n_u3;generalize upd J2 u3 _=J3 at s_u3 b_u3 ⊢;have T3:=T2.trans s_u3;refine ⟨u2,u3,_,_,U,U,(s_u3 _ _ (b_u2)),b_u3,(by simp only [Jj,Ji,x2x,tU];omega),λu4 n_u4=>?_⟩;obtain ⟨s_u4,b_u4⟩:=yU (H:=J3) (t:=u4) rfl n_u4;generalize upd J3 u4 _=J4 at s_u4 b_u4 ⊢;have T4:=T3.trans s_u4;refine ⟨_,U,_,U,u4,bl,_,_,U,U,b_u4,(s_u4 _ _ (s_u3 _ _ (s_u2 _ _ (s_u1 _ _ (eb))))),(by simp only [Jj,Ji,x2x,tU];omega),λwl n_wl=>?_⟩;obtain ⟨s_wl,b_wl⟩:=yU (H:=J4) (t:=wl) rfl n_wl;generalize upd J4 wl _=J5 at s_wl b_wl ⊢;have T5:=T4.trans s_wl;have ew:J5 wl=Z (.lst (([("fold":Str),f]++p0.ws++[("into":Str),z,"of",numS mn_]++bh).map V.str)):=by simp only [Jk];exact b_wl
  refine ⟨_,U,_,U,x0,_,_,_,U,U,SqT.of (T5 _ _ c0.t),U,_,U,_,U,_,U,szU 6,λdt ndt=>⟨szU 2,λtt ntt=>?_⟩⟩;have z:=zc8 (L:=⟨(i:Nat),p0.F,t,.fold f mn_⟩) (p:=0) sB T5 ew (T4.free n_wl) rfl ndt rfl ntt a0.d dT (λF m e=>by cases e);exact q _ tt wl dt _ _ z.1 z.2.1 z.2.2.1 z.2.2.2 (w_fold hk nm l0 l1 l2 hb ez hf y)
 have y:kind=3:=by
  rcases hk.k with rfl | rfl | rfl | rfl
  .exact absurd (decide_eq_true rfl) y0
  .exact absurd (decide_eq_true rfl) y1
  .exact absurd (decide_eq_true rfl) y2
  .rfl
 refine ⟨_,U,szU 2,λu1 n_u1=>?_⟩;obtain ⟨s_u1,b_u1⟩:=yU (H:=J) (t:=u1) rfl n_u1;generalize upd J u1 _=J1 at s_u1 b_u1 ⊢;have T1:=sJ.trans s_u1;refine ⟨_,U,x0,_,_,_,U,U,SqT.of (T1 _ _ c0.t),U,u1,w0,_,_,U,U,b_u1,T1 _ _ c0.w,(by simp only [Jj,Ji,x2x,tU];omega),λu2 n_u2=>?_⟩;obtain ⟨s_u2,b_u2⟩:=yU (H:=J1) (t:=u2) rfl n_u2;generalize upd J1 u2 _=J2 at s_u2 b_u2 ⊢;have T2:=T1.trans s_u2;refine ⟨_,U,szU 2,λu3 n_u3=>?_⟩;obtain ⟨s_u3,b_u3⟩:=yU (H:=J2) (t:=u3) rfl n_u3;generalize upd J2 u3 _=J3 at s_u3 b_u3 ⊢;have T3:=T2.trans s_u3;refine ⟨u2,u3,_,_,U,U,(s_u3 _ _ (b_u2)),b_u3,(by simp only [Jj,Ji,x2x,tU];omega),λu4 n_u4=>?_⟩;obtain ⟨s_u4,b_u4⟩:=yU (H:=J3) (t:=u4) rfl n_u4;generalize upd J3 u4 _=J4 at s_u4 b_u4 ⊢;have T4:=T3.trans s_u4;refine ⟨_,U,u4,bl,_,_,U,U,b_u4,(s_u4 _ _ (s_u3 _ _ (s_u2 _ _ (s_u1 _ _ (eb))))),(by simp only [Jj,Ji,x2x,tU];omega),λwl n_wl=>?_⟩;obtain ⟨s_wl,b_wl⟩:=yU (H:=J4) (t:=wl) rfl n_wl;generalize upd J4 wl _=J5 at s_wl b_wl ⊢;have T5:=T4.trans s_wl;have ew:J5 wl=Z (.lst (([("run":Str),f]++p0.ws++[("into":Str),z]++bh).map V.str)):=by simp only [Jk];exact b_wl
 refine ⟨_,U,_,U,x0,_,_,_,U,U,SqT.of (T5 _ _ c0.t),U,_,U,_,U,szU 5,λdt ndt=>⟨szU 2,λtt ntt=>?_⟩⟩;have z:=zc8 (L:=⟨(i:Nat),p0.F,t,.run f⟩) (p:=0) sB T5 ew (T4.free n_wl) rfl ndt rfl ntt a0.d dT (λF m e=>by cases e);exact q _ tt wl dt _ _ z.1 z.2.1 z.2.2.1 z.2.2.2 (w_run hk nm l0 l1 l2 hb ez hf y)
def DAt (H:Hp) (d:Nat) (ss:List Stp) (ys:Jg):Prop:=ys.length=ss.length/\∀ (i:Nat) (s:Stp) (y:Ad),ss[i]?=Z s->ys[i]?=Z y->DueS H d s y/\FewS 100 d s
def DvAt (H:Hp):List (List Stp)->LvL->Prop
 | [],[]=>True
 | ss::X,p::lv=>DAt H (3-lv.length) ss p.2/\DvAt H X lv
 | [],_::_=>False
 | _::_,[]=>False
def DAt.same {H H':Hp} {d:Nat} {ss:List Stp} {ys:Jg} (h:DAt H d ss ys) (s:Same H H'):DAt H' d ss ys:=⟨h.1,λi st y a b=>⟨(h.2 i st y a b).1.same s,(h.2 i st y a b).2⟩⟩
def DAt.snoc {H:Hp} {d:Nat} {ss:List Stp} {ys:Jg} {s:Stp} {y:Ad} (h:DAt H d ss ys) (g:DueS H d s y) (f:FewS 100 d s):DAt H d (ss++[s]) (ys++[y]):=by
 refine ⟨by rw [Jj,Jj,h.1];rfl,λi st y' a b=>?_⟩;by_cases hi:i<ss.length
 .rw [x2z hi] at a
  rw [x2z (by rw [h.1];exact hi)] at b;exact h.2 i st y' a b
 .have hl:=(tu.mp a).1
  rw [Jj,tF] at hl;have hi2:i=ss.length:=by omega
  subst hi2;rw [tJ (sK _),uX] at a;rw [← h.1,tJ (sK _),uX] at b;cases a;cases b;exact ⟨g,f⟩
def DAt.few {H:Hp} {d:Nat} {ss:List Stp} {ys:Jg} (h:DAt H d ss ys):∀ s∈ss,FewS 100 d s:=λs m=>by
 obtain ⟨i,hi,e⟩:=List.getElem_of_mem m;exact (h.2 i s (ys[i]'(by rw [h.1];exact hi)) (by rw [sI hi,e]) (sI _)).2
theorem DvAt.same {H H':Hp}:∀ {X:List (List Stp)} {lv:LvL},DvAt H X lv->Same H H'->DvAt H' X lv
 | [],[],_,_=>trivial
 | _::_,_::_,h,s=>⟨h.1.same s,h.2.same s⟩
 | [],_::_,h,_=>h.elim
 | _::_,[],h,_=>h.elim
theorem DvAt.len {H:Hp}:∀ {X:List (List Stp)} {lv:LvL},DvAt H X lv->lv.length=X.length
 | [],[],_=>rfl
 | _::_,_::_,h=>congrArg (·+1) h.2.len
 | [],_::_,h=>h.elim
 | _::_,[],h=>h.elim
def DvAt.cons {H:Hp} {ss:List Stp} {X:List (List Stp)} {lv:LvL} (h:DvAt H (ss::X) lv):∃ la ys lv',lv=(la,ys)::lv'/\DAt H (3-lv'.length) ss ys/\DvAt H X lv':=by
 cases lv with
 | nil=>exact h.elim
 | cons p lv'=>exact ⟨p.1,p.2,lv',U,h.1,h.2⟩
abbrev Kg.L (g:Kg) (sr:Jl) (names:Jf) (sD:Jb) (lines:Jf) (lns:Jb) (ta:Ad) (tl:Jg) (lv:LvL):Jm:=(g.kd,.dK sr)::(g.li,.lst (lines.map V.str))::(g.na,.lst (names.map V.str))::(g.le,.lst (sD.map V.int))::(g.du,.lst (lns.map V.int))::(g.st,.lst (lv.reverse.map λp=>V.ref p.1))::(ta,.lst (tl.map V.ref))::lv.map λp=>(p.1,.lst (p.2.map V.ref))
structure WrAt (B:Hp) (g:Kg) (sr:Jl) (names:Jf) (sD:Jb) (lines:Jf) (X:Dt) (ta:Ad) (tl:Jg) (lv:LvL) (H:Hp):Prop where
 h:Hd B (g.L sr names sD lines X.lns ta tl lv) H
 kv:KvOk g sr
 nm:Nms names sD
 n1:1<=names.length
 d:X.D=⟨names,sD,[],[]⟩
 t:TextS lines X
 tl:TlAt B X.tl tl
 lv:DvAt B X.lv lv
 c:(X.lv.map uY).sum+X.tl.length<=X.lns.length
 n:X.lv.length=X.tl.length+1
 l3:X.tl.length<=3
 l40:X.lns.length<=40
def WrAt.ext {B:Hp} {g:Kg} {sr:Jl} {names:Jf} {sD:Jb} {lines:Jf} {X:Dt} {ta:Ad} {tl:Jg} {lv:LvL} {H H':Hp} (h:WrAt B g sr names sD lines X ta tl lv H) (s:Same H H'):WrAt (ext B H H') g sr names sD lines X ta tl lv H' :=
 ⟨zd4 h.h s,h.kv,h.nm,h.n1,h.d,h.t,h.tl.same (Yc h.h.sm),h.lv.same (Yc h.h.sm),h.c,h.n,h.l3,h.l40⟩
def step_line {names:Jf} {sD:Jb} {X:Dt} {ws:Jf} {L:StepD} {z:Str} {l:List Stp} {lv:List (List Stp)} {n:Int} (d:X.D=⟨names,sD,[],[]⟩) (w:StpW names sD ws L) (e:yB z=ws) (hl:X.lv=l::lv) (l40:X.lns.length<40) (l100:l.length<=100):LineS X n z { X with lv:=(l++[.one L])::lv,lns:=X.lns++[n] }:=by
 obtain ⟨wd,r,rfl,hp⟩:=w.ex;have hw:Yg (wd::r):=λy m=>tE (w.g y m).2 (by decide);refine .step wd r L (λ_=>0) (λ_=>0) l lv e hw (by rw [d];exact hp) hl ?_;rw [d];exact w.go _ _ l40 l100
inductive spKs (vs:Jn) (H:Hp) (Q:VK) (_:XK):Prop
 | mk (B:Hp) (g:Kg) (sr:Jl) (names:Jf) (sD:Jb) (lines:Jf) (X:Dt) (ta:Ad) (tl:Jg) (lv:LvL) (wa dt:Ad) (c:Int) (ws:Jf) (L:StepD) (_:vs=[.ref g.kd,.ref wa,.ref dt,.int c]) (_:WrAt B g sr names sD lines X ta tl lv H) (_:B wa=Z (.lst (ws.map V.str))) (_:StpW names sD ws L) (_:DueS1 B L dt) (_:X.lns.length<40) (_:lines.length<=900)
  (h7:∀ kvs' lines' X' lv' H',WrAt B g kvs' names sD lines' X' ta tl lv' H'->lines'.length<=lines.length+2->Q .non H')
def zdx (d:zj K mg "_law_kept_step" xY Uk) (hlen:mg "len"=Y) (LN:Ok P w K mg base CX0 3 "_law_lined" Ui spLn):Ok P w K mg base CX0 4 "_law_kept_step" Uk spKs:=by
 refine oDf d sc_l_kept_step λf sA A _ s H vs Q E hr h=>?_;obtain ⟨B,g,sr,names,sD,lines,X,ta,tl,lv,wa,dt,c,ws,L,rfl,W,ew,sw,du,l40,l9,q⟩:=h;have hr3:Room 3 _:=hr;have hu:=tK (tO (show 1<=64 by decide) _) hr.units;have nd:=sc_l_kept_step.nd;have SL:(100000:Nat)<sizeLine:=by decide
 refine ⟨_,(zb (zC (zo LN hr3 (by rfl) zv (za (pv 0) (za (pv 1) (za (pv 3) zc)))))
   (zb (zC (yz sQ t8 t7 zQ (zH hu (pv 0) zn (λ_ _=>rfl)) (za (zh zr (by rfl) hlen sU (za (zH hu (pv 0) zn (λ_ _=>rfl)) zc)) zc)))
   (ze (zC (yz sQ t8 t7 zQ (zx zD (zH hu (pv 0) zn (λ_ _=>rfl)) (Ym ZA zd) (λ_ _=>rfl)) (za (pv 2) zc)))))),?_⟩
 show (let s1:L2.TS:=_;let s2:L2.TS:=L2.tSeq _ s1;L2.tSeq _ s2 _ _ _);intro s1 s2
 obtain ⟨l,lr,hlv⟩:∃ l lr,X.lv=l::lr:=by
  cases e:X.lv with
  | nil=>have:=W.n;rw [e] at this;cases this
  | cons a r=>exact ⟨a,r,U⟩
 have wl:=W.lv;rw [hlv] at wl;obtain ⟨la,ys,lv2,rfl,va,vr⟩:=wl.cons;have cc:=W.c;rw [hlv,tz,uJ] at cc;have yl:=va.1;refine ⟨_,U,_,U,_,U,g,wa,c,sr,ws,lines,B,_,U,W.h,W.kv,ew,sw.g,sw.l,by omega,λbl z kvs' H1 b1 b2 e1 e2 kv' h1=>?_⟩;have e0:=h1.get 0 rfl;refine ⟨_,U,g.kd,_,U,yJ e0 kv'.du,tyL (h1.get 4 rfl),_,U,g.kd,_,U,yJ e0 kv'.li,g.li,_,U,.inl (SqL.of (h1.get 1 rfl)),g.du,_,_,U,U,h1.get 4 rfl,by rw [Ji];omega,?_⟩;rw [Ji];have h2:=h1.put (o':=.lst (X.lns.map V.int++[.int ((lines++bl++[z]).length:Nat)])) 4 rfl;generalize upd H1 g.du _=H2 at h2 ⊢;have f0:=h2.get 0 rfl;have eat:atI ((((la,ys)::lv2).reverse).map λp=>V.ref p.1) (-1)=Z (V.ref la):=by rw [ud,Jk];exact Yy _ _
 refine ⟨_,U,g.kd,_,U,yJ f0 kv'.st,_,U,g.st,_,_,_,U,U,SqL.of (h2.get 5 rfl),eat,tyL (h2.get 7 rfl),_,U,la,_,_,U,U,h2.get 7 rfl,by rw [Ji];show ys.length<_;omega,?_⟩;have h3:=h2.put (o':=.lst (ys.map V.ref++[.ref dt])) 7 rfl;have ln:((lines++bl).length+1:Nat)=(lines++bl++[z]).length:=by rw [List.length_append (bs:=[z])];rfl
 refine q kvs' (lines++bl++[z]) { X with lv:=(l++[.one L])::lr,lns:=X.lns++[(((lines++bl).length+1:Nat):Int)] } ((la,ys++[dt])::lv2) _ ⟨?_,kv',W.nm,W.n1,W.d,(zbr W.t b2).snoc e2 (step_line W.d sw e1 hlv l40 (by omega)),W.tl,⟨va.snoc (due_one du) (by cases 3-lv2.length <;> exact sw.few),vr⟩,?_,?_,W.l3,?_⟩ (by rw [Jj,Jj];show _+_+1<=_;omega)
 .have x1:(ys++[dt]).map V.ref=ys.map V.ref++[.ref dt]:=by rw [Jk];rfl
  have x2:(X.lns++[(((lines++bl).length+1:Nat):Int)]).map V.int=X.lns.map V.int++[.int ((lines++bl++[z]).length:Nat)]:=by rw [Jk,ln];rfl
  have x3:(((la,ys++[dt])::lv2).reverse.map λp=>V.ref p.1)=(((la,ys)::lv2).reverse.map λp=>V.ref p.1):=by
   rw [ud,ud,Jk,Jk];rfl
  dsimp only [Kg.L];rw [x2,x3,tz];dsimp only;rw [x1];exact h3
 .show ((l++[_]).length+(lr.map uY).sum)+X.tl.length<=(X.lns++[_]).length
  rw [Jj,Jj,tF,tF];omega
 .have:=W.n;rw [hlv] at this;exact this
 .show (X.lns++[_]).length<=40
  rw [Jj,tF];omega
inductive spEd (vs:Jn) (H:Hp) (Q:VK) (_:XK):Prop
 | mk (B:Hp) (g:Kg) (sr:Jl) (names:Jf) (sD:Jb) (lines:Jf) (X:Dt) (ta:Ad) (tl:Jg) (lv:LvL) (c:Int) (_:vs=[.ref g.kd,.ref ta,.int c]) (_:WrAt B g sr names sD lines X ta tl lv H) (_:0<X.tl.length) (_:lines.length<=900)
  (h7:∀ B' kvs' lines' X' tl' lv' H',Same B B'->WrAt B' g kvs' names sD lines' X' ta tl' lv' H'->lines'.length<=lines.length+2->X'.tl.length+1=X.tl.length->Q .non H')
def ok_ended (d:zj K mg "_law_ended" YD Uf) (LN:Ok P w K mg base CX0 3 "_law_lined" Ui spLn):Ok P w K mg base CX0 4 "_law_ended" Uf spEd:=by
 refine oDf d sc_l_ended λf sA A _ s H vs Q E hr h=>?_;obtain ⟨B,g,sr,names,sD,lines,X,ta,tl,lv,c,rfl,W,t0,l9,q⟩:=h;have hr3:Room 3 _:=hr;have hu:=tK (tO (show 1<=64 by decide) _) hr.units;have nd:=sc_l_ended.nd;have SL:(100000:Nat)<sizeLine:=by decide
 refine ⟨_,(zb (zC (zo LN hr3 (by rfl) zv (za (pv 0) (za (zJ (za zn zc)) (za (pv 2) zc)))))
   (zb (ps_asg (Y9 sQ vp vm zbb (pv 1)) (zde rfl (xc (oQz 3 nd) (xc (oQz 4 nd) zai))))
   (zb (oRz 5 nd (Y9 sQ vp vm zbb (zH hu (pv 0) zn (λ_ _=>rfl))))
   (ze (zC (yz sQ t8 t7 zQ (zx zD (zH hu (pv 0) zn (λ_ _=>rfl)) (Ym ZA zd) (λ_ _=>rfl)) (za (yb (za zn (za (pv 3) (za (pv 4) (za (pv 5) zc))))) zc))))))),?_⟩
 show (let s1:L2.TS:=_;let s2:L2.TS:=L2.tSeq _ s1;let s3:L2.TS:=L2.tSeq _ s2;L2.tSeq _ s3 _ _ _);intro s1 s2 s3
 obtain ⟨l,l',lr,hlv⟩:∃ l l' lr,X.lv=l::l'::lr:=by
  have:=W.n
  cases e:X.lv with
  | nil=>rw [e] at this;cases this
  | cons a r =>
   cases r with
   | nil=>rw [e] at this;have:1=X.tl.length+1:=this;omega
   | cons b r=>exact ⟨a,b,r,U⟩
 obtain ⟨tq,x,htl⟩:∃ tq x,X.tl=tq++[x]:=⟨X.tl.dropLast,X.tl.getLast (List.ne_nil_of_length_pos t0),(List.dropLast_concat_getLast _).symm⟩;have wl:=W.lv;rw [hlv] at wl;obtain ⟨la,ys,lv2,rfl,va,vr⟩:=wl.cons;obtain ⟨lb,zs,lv3,rfl,vb,vs⟩:=vr.cons;have wt:=W.tl;rw [htl] at wt;obtain ⟨tl2,tt,rfl,ta2,ett⟩:=wt.last;have cc:=W.c;have wn:=W.n;have w3:=W.l3;have w4:=W.l40;rw [hlv,tz,uJ,tz,uJ] at cc;rw [hlv,x2x,x2x] at wn;have yl:=va.1;have zl:=vb.1;have l2:lv3.length<=2:=by have:=vs.len;omega
 refine ⟨_,U,szU 1,λwa nwa=>?_⟩;obtain ⟨B1,s1,ew,h0⟩:=hdG W.h rfl nwa;generalize upd H wa _=H0 at h0 ⊢;refine ⟨_,U,g,wa,c,sr,[("end":Str)],lines,B1,_,U,h0,W.kv,ew,λw m=>?_,(by show 1<=500;decide),by omega,λbl z kvs' H1 b1 b2 e1 e2 kv' h1=>?_⟩
 .cases sG.mp m
  exact ⟨.inr (.inr ⟨by decide,by unfold SgnN;decide⟩),by decide⟩
 have eT:(tl2++[tt]).map V.ref=tl2.map V.ref++[.ref tt]:=by rw [Jk];rfl
 have eV:((((la,ys)::(lb,zs)::lv3).reverse).map λp=>V.ref p.1)=((((lb,zs)::lv3).reverse).map λp=>V.ref p.1)++[.ref la]:=by rw [ud,Jk];rfl
 rw [eT,eV] at h1;refine ⟨_,U,tyL (h1.get 6 rfl),ta,_,_,U,U,h1.get 6 rfl,YM _ _,?_⟩;rw [Ze];have h2:=h1.put (o':=.lst (tl2.map V.ref)) 6 rfl;generalize upd H1 ta _=H2 at h2 ⊢;refine ⟨tt,_,U,SqT.of (h2.sm _ _ (s1 _ _ ett)),U,_,_,U,_,_,U,U,?_⟩;refine ⟨_,U,g.kd,_,U,yJ (h2.get 0 rfl) kv'.st,tyL (h2.get 5 rfl),g.st,_,_,U,U,h2.get 5 rfl,YM _ _,?_⟩;rw [Ze];have h3:=h2.put (o':=.lst (((lb,zs)::lv3).reverse.map (λp=>V.ref p.1))) 5 rfl;generalize upd H2 g.st _=H3 at h3 ⊢;have eat:atI ((((lb,zs)::lv3).reverse).map λp=>V.ref p.1) (-1)=Z (V.ref lb):=by rw [ud,Jk];exact Yy _ _
 refine ⟨_,U,g.kd,_,U,yJ (h3.get 0 rfl) kv'.st,_,U,g.st,_,_,_,U,U,SqL.of (h3.get 5 rfl),eat,tyL (h3.get 8 rfl),_,U,_,U,_,U,szU 4,λdt ndt=>?_⟩;obtain ⟨B2,s2,edt,h4⟩:=hdG h3 rfl ndt;generalize upd H3 dt _=H4 at h4 ⊢;refine ⟨lb,_,_,U,U,h4.get 8 rfl,by rw [Ji];show zs.length<_;omega,?_⟩;have h5:=h4.put (o':=.lst (zs.map V.ref++[.ref dt])) 8 rfl;generalize upd H4 lb _=H5 at h5 ⊢;have h6:Hd (upd B2 la (.lst (ys.map V.ref))) _ H5:=(h5.perm (vZ (l₁:=[_,_,_,_,_,_,_]))).settle;have s6:Same B2 (upd B2 la (.lst (ys.map V.ref))):=(h5.perm (vZ (l₁:=[_,_,_,_,_,_,_]))).settled;have ela:(upd B2 la (.lst (ys.map V.ref))) la=Z (.lst (ys.map V.ref)):=zg;have s12:=s1.trans s2;generalize upd B2 la (.lst (ys.map V.ref))=B3 at h6 s6 ela;have s16:=s12.trans s6;have tq3:tq.length+1=X.tl.length:=by rw [htl,Jj];rfl
 refine q B3 kvs' (lines++bl++[z]) { X with tl:=tq,lv:=(l'++[.till x.1 x.2 l])::lr } tl2 ((lb,zs++[dt])::lv3) H5 s16 ⟨?_,kv',W.nm,W.n1,W.d,(zbr W.t b2).snoc e2 (.end_ tq x.1 x.2 l l' lr e1 htl hlv (by omega) (by rw [← vs.len];exact l2)),ta2.same s16,⟨?_,vs.same s16⟩,?_,?_,?_,w4⟩ (by rw [Jj,Jj];show _+_+1<=_;omega) tq3
 .have x1:(zs++[dt]).map V.ref=zs.map V.ref++[.ref dt]:=by rw [Jk];rfl
  have x3:(((lb,zs++[dt])::lv3).reverse.map λp=>V.ref p.1)=(((lb,zs)::lv3).reverse.map λp=>V.ref p.1):=by
   rw [ud,ud,Jk,Jk];rfl
  dsimp only [Kg.L];rw [x3,tz];dsimp only;rw [x1];exact h6
 .obtain ⟨k,ek⟩:∃ k,3-lv3.length=k+1:=⟨2-lv3.length,by omega⟩
  have ek2:3-(((lb,zs):Ad×Jg)::lv3).length=k:=by rw [x2x];omega
  rw [ek2] at va;refine (vb.same s16).snoc ?_ ?_
  .rw [ek]
   exact ⟨la,ys,s6 _ _ edt,ela,yl,λi s y a b=>((va.2 i s y a b).1).same s16⟩
  .rw [ek]
   exact ⟨by omega,va.few⟩
 .show ((l'++[_]).length+(lr.map uY).sum)+tq.length<=X.lns.length
  rw [Jj,tF];omega
 .show lr.length+1=tq.length+1
  omega
 .show tq.length<=3
  omega
inductive spAd (vs:Jn) (H:Hp) (Q:VK) (_:XK):Prop
 | mk (B:Hp) (g:Kg) (sr:Jl) (names:Jf) (sD:Jb) (lines:Jf) (X:Dt) (ta:Ad) (tl:Jg) (lv:LvL) (c:Int) (_:vs=[.ref g.kd,.ref ta,.int c]) (_:WrAt B g sr names sD lines X ta tl lv H) (_:X.lns.length<40) (_:lines.length<=800)
  (h7:∀ B' kvs' lines' X' tl' lv' H',Same B B'->WrAt B' g kvs' names sD lines' X' ta tl' lv' H'->lines'.length<=lines.length+2->Q .non H')
def ok_added (d:zj K mg "_law_added" YE Uf) (hlen:mg "len"=Y) (hrg:mg "range"=Y) (hstr:mg "str"=Y) (MX:Ok P w K mg base (CXe P w base) 1 "_law_mixed" Uu spMx) (LN:Ok P w K mg base CX0 3 "_law_lined" Ui spLn) (ED:Ok P w K mg base CX0 4 "_law_ended" Uf spEd) (HB:Ok P w K mg base CX0 2 "_law_head_by" Ur spHe) (LF:Ok P w K mg base CX0 2 "_law_leaf_by" Ur spLf) (SB:Ok P w K mg base CX0 1 "_law_step_by" Uq spSb) (KS:Ok P w K mg base CX0 4 "_law_kept_step" Uk spKs):Ok P w K mg base CX0 5 "_law_added" Uf spAd:=by
 refine oDf d sc_l_added λf sA A _ s H vs Q E hr h=>?_;obtain ⟨B,g,sr,names,sD,lines,X,ta,tl,lv,c,rfl,W,l40,l8,q⟩:=h;have hr4:Room 4 _:=hr;have hr3:Room 3 _:=hr.mono (by decide);have hr2:Room 2 _:=hr.mono (by decide);have hr1:Room 1 _:=hr.mono (by decide);have hu:=tK (tO (show 1<=64 by decide) _) hr.units;have nd:=sc_l_added.nd;have SL:(100000:Nat)<sizeLine:=by decide
 have tlen:(tl.map V.ref).length=X.tl.length:=by rw [Ji];exact W.tl.1
 refine ⟨_,(zb (oRz 3 nd (zq zT (pv 2) zd))
   (ze (zB (XJ (yv (zp zP (zq zI (pv 2) zd) zd (zw _)) (yc (zp za5 (zh zr (by rfl) hlen sU (za (pv 1) zc)) zd (zw _)))).pt) (zb (oRz 4 nd (zq zI (pv 3) (zh zr (by rfl) hlen sU (za (zH hu (pv 0) zn (λ_ _=>rfl)) zc))))
   (zb (oRz 5 nd (zq yh (zq zI (zo MX hr1 (by rfl) zU (za (pv 3) (za zd zc))) zd) zd))
   (zb (zC (zo LN hr3 (by rfl) zv (za (pv 0) (za (zJ (za zn (za (zx zD (zH hu (pv 0) zn (λ_ _=>rfl)) (pv 4) (λ_ _=>rfl)) (za zn (za (z8 yI (by rfl) hstr up (za (pv 5) zc)) zc))))) (za (pv 2) zc)))))
   (zb (zC (yz sQ t8 t7 zQ (zH hu (pv 0) zn (λ_ _=>rfl)) (za (zh zr (by rfl) hlen sU (za (zH hu (pv 0) zn (λ_ _=>rfl)) zc)) zc)))
   (zb (zC (yz sQ t8 t7 zQ (pv 1) (za (yb (za (pv 4) (za (pv 5) zc))) zc)))
   (ze (zC (yz sQ t8 t7 zQ (zH hu (pv 0) zn (λ_ _=>rfl)) (za (zJ zc) zc))))))))) (ze (zB (XJ (yv (zp zP (zq zI (pv 2) zd) zd (zw _)) (yc (zp ZV (zh zr (by rfl) hlen sU (za (pv 1) zc)) zd (zw _)))).pt) (ze (zC (zo ED hr4 (by rfl) zv (za (pv 0) (za (pv 1) (za (pv 2) zc)))))) (zb (oRz 6 nd (zo HB hr2 (by rfl) zv (za (pv 3) (za (pv 0) zc))))
   (zb (oRz 7 nd (zJ zc))
   (zb (Zm tY rfl (yY rfl hrg (za zd zc)) (oQz 8 nd) (ze (zC (yz sQ t8 t7 zQ (pv 7) (za (zo LF hr2 (by rfl) zv (za (zo MX hr1 (by rfl) zU (za (pv 3) (za (zq yh zd (pv 8)) zc))) (za (pv 0) zc))) zc)))))
   (zb (ps_asg (zo SB hr1 (by rfl) zv (za (pv 6) (za (pv 7) (za (ym zP (zq zI (zq zT (pv 3) zd) zd) zd (zw _)) (za (pv 0) zc))))) (zde rfl (xc (oQz 9 nd) (xc (oQz 10 nd) zai))))
   (ze (zC (zo KS hr4 (by rfl) zv (za (pv 0) (za (pv 9) (za (pv 10) (za (pv 2) zc)))))))))))))))),?_⟩
 refine ⟨_,U,_,_,U,U,⟨by decide,by decide⟩,?_⟩;refine ⟨λb H'=>H'=H/\(b=true->X.tl.length<3),?_,?_⟩
 .refine ⟨_,U,_,_,U,U,(by show (0:Int)<6;decide),U,_,U,?_⟩
  refine yu (λ_=>?_) (λ_=>⟨U,λz=>by cases z⟩);refine ⟨_,U,ta,_,U,.inl (SqL.of (W.h.get 6 rfl)),_,_,U,U,_,U,U,λz=>?_⟩;rw [tlen] at z;have:=of_decide_eq_true z;omega
 rintro b H' ⟨rfl,hb⟩;refine yu (λbt=>?_) (λ_=>?_)
 .have l3:=hb bt
  have e0:=W.h.get 0 rfl;have n12:=W.nm.n12;have n1:=W.n1;refine ⟨_,U,_,U,g.kd,_,U,yJ e0 W.kv.na,g.na,_,U,.inl (SqL.of (W.h.get 2 rfl)),_,_,U,U,(by rw [Ji];omega),?_⟩;rw [Ji];obtain ⟨i,ei,hi⟩:=Yq (m:=c / 6) (n:=names.length) (by omega);rw [ei];obtain ⟨z,ez⟩:∃ z,names[i]?=Z z:=⟨_,sI hi⟩;have hz:=W.nm.g z (sP ez);refine ⟨_,U,_,_,U,λmx mxp mxl=>⟨_,_,U,U,(by show (0:Int)<1000;decide),_,_,U,U,?_⟩⟩;have h4:0<=mx % 1000/\mx % 1000<1000:=⟨sZ _ (by decide),sX _ (by decide)⟩;obtain ⟨mo,emo,m1,m2⟩:∃ n:Int,mx % 1000+1=n/\1<=n/\n<=1000:=⟨_,U,by omega,by omega⟩;rw [emo];refine ⟨_,U,_,U,g.kd,_,U,yJ e0 W.kv.na,_,U,g.na,_,_,_,U,U,SqL.of (W.h.get 2 rfl),zM (by rw [sN,ez];rfl),_,U,mo,U,by omega,by omega,szU 4,λwa nwa=>?_⟩;obtain ⟨B1,s1,ew,h1⟩:=hdG W.h rfl nwa;generalize upd H' wa _=H1 at h1 ⊢;refine ⟨_,U,g,wa,c,sr,[("till":Str),z,"most",numS mo],lines,B1,_,U,h1,W.kv,ew,λw m=>?_,(by show 4<=500;decide),by omega,λbl y kvs' H2 b1 b2 e1 e2 kv' h2=>?_⟩
  .simp only [sM,tM,or_false] at m
   rcases m with rfl | rfl | rfl | rfl
   .exact ⟨.inr (.inr ⟨by decide,by unfold SgnN;decide⟩),by decide⟩
   .exact hz.wl
   .exact ⟨.inr (.inr ⟨by decide,by unfold SgnN;decide⟩),by decide⟩
   .exact (Zb (by omega) (by omega)).2.2.2
  have f0:=h2.get 0 rfl;refine ⟨_,U,g.kd,_,U,yJ f0 kv'.du,tyL (h2.get 4 rfl),_,U,g.kd,_,U,yJ f0 kv'.li,g.li,_,U,.inl (SqL.of (h2.get 1 rfl)),g.du,_,_,U,U,h2.get 4 rfl,by rw [Ji];omega,?_⟩;rw [Ji];have h3:=h2.put (o':=.lst (X.lns.map V.int++[.int ((lines++bl++[y]).length:Nat)])) 4 rfl;generalize upd H2 g.du _=H3 at h3 ⊢;refine ⟨_,U,tyL (h3.get 6 rfl),_,U,_,U,szU 2,λt nt=>?_⟩;obtain ⟨B2,s2,et,h4⟩:=hdG h3 rfl nt;generalize upd H3 t _=H4 at h4 ⊢;refine ⟨ta,_,_,U,U,h4.get 6 rfl,by rw [tlen];omega,?_⟩;have h5:=h4.put (o':=.lst (tl.map V.ref++[.ref t])) 6 rfl;generalize upd H4 ta _=H5 at h5 ⊢;refine ⟨_,U,g.kd,_,U,yJ (h5.get 0 rfl) kv'.st,tyL (h5.get 5 rfl),szU 0,λla nla=>?_⟩;have h6:=h5.new (o:=.lst []) nla;generalize upd H5 la _=H6 at h6 ⊢;have lvl:=W.lv.len;have wn:=W.n;refine ⟨g.st,_,_,U,U,h6.get 6 rfl,by rw [Ji,List.length_reverse];omega,?_⟩;have h7:=h6.put (o':=.lst (lv.reverse.map (λp=>V.ref p.1)++[.ref la])) 6 rfl;have ln:((lines++bl).length+1:Nat)=(lines++bl++[y]).length:=by rw [List.length_append (bs:=[y])];rfl
  have s12:=s1.trans s2;refine q B2 kvs' (lines++bl++[y]) { X with tl:=X.tl++[((i:Int),mo)],lv:=[]::X.lv,lns:=X.lns++[(((lines++bl).length+1:Nat):Int)] } (tl++[t]) ((la,[])::lv) _ s12 ⟨?_,kv',W.nm,W.n1,W.d,(zbr W.t b2).snoc e2 (.till z i mo e1 hz (by rw [W.d];exact Zx W.nm.nd ez) m1 m2 l40 l3 (by omega)),(W.tl.same s12).snoc et,⟨⟨U,λi s y a=>by cases a⟩,W.lv.same s12⟩,?_,?_,?_,?_⟩ (by rw [Jj,Jj];show _+_+1<=_;omega)
  .have x1:(tl++[t]).map V.ref=tl.map V.ref++[.ref t]:=by rw [Jk];rfl
   have x2:(X.lns++[(((lines++bl).length+1:Nat):Int)]).map V.int=X.lns.map V.int++[.int ((lines++bl++[y]).length:Nat)]:=by rw [Jk,ln];rfl
   have x3:(((la,[])::lv).reverse.map λp:Ad×Jg=>V.ref p.1)=lv.reverse.map (λp=>V.ref p.1)++[.ref la]:=by
    rw [ud,Jk];rfl
   dsimp only [Kg.L];rw [x1,x2,x3];exact h7.perm (vZ (l₁:=[_,_,_,_,_,_,_])).symm
  .show (0+(X.lv.map uY).sum)+(X.tl++[_]).length<=(X.lns++[_]).length
   have:=W.c;rw [Jj,Jj,tF,tF];omega
  .show X.lv.length+1=(X.tl++[_]).length+1
   rw [Jj,tF];omega
  .show (X.tl++[_]).length<=3
   rw [Jj,tF];omega
  .show (X.lns++[_]).length<=40
   rw [Jj,tF];omega
 refine ⟨λb H''=>H''=H'/\(b=true->0<X.tl.length),?_,?_⟩
 .refine ⟨_,U,_,_,U,U,(by show (0:Int)<6;decide),U,_,U,?_⟩
  refine yu (λ_=>?_) (λ_=>⟨U,λz=>by cases z⟩);refine ⟨_,U,ta,_,U,.inl (SqL.of (W.h.get 6 rfl)),_,_,U,U,_,U,U,λz=>?_⟩;rw [tlen] at z;have:=of_decide_eq_true z;omega
 rintro b H'' ⟨rfl,hb⟩;refine yu (λbt=>?_) (λ_=>?_)
 .exact ⟨_,U,_,U,_,U,B,g,sr,names,sD,lines,X,ta,tl,lv,c,U,W,hb bt,by omega,λB' kvs' lines' X' tl' lv' J sB W' ll _=>q B' kvs' lines' X' tl' lv' J sB W' ll⟩
 have nm:=W.nm;refine ⟨_,U,_,U,c / 6,B,g,sr,sD,_,U,W.h,W.kv,.tail _ (.tail _ (.head _)),by rw [nm.nl];exact W.n1,by rw [nm.nl];exact nm.n12,nm.l4,λB1 H1 ht kind i mn_ fo near far ne fa kvs1 s1 h1 kv1 vn1 vf1 en1 ef1 eht hk hfo=>?_⟩;refine ⟨szU 0,λpl npl=>?_⟩;have h2:=h1.new (o:=.lst []) npl;generalize upd H1 pl _=H2 at h2 ⊢;have LK:=nm.lf hk;refine ⟨_,U,(by decide),(by decide),?_⟩;refine Zy (n:=3) (λj σ J=>∃ (B3:Hp) (xs:Jg) (u:Jo),σ=[rq g.kd,rq ta,iq c,iq (c / 6),Y,Y,rq ht,rq pl,u,Y,Y]/\Same B1 B3/\Hd B3 ((pl,.lst (xs.map V.ref))::g.L kvs1 names sD lines X.lns ta tl lv) J/\xs.length=j/\∀ x∈xs,∃ wa da p,PtAs' B3 x wa da p/\LfOk (Wk names sD near far) p) ⟨B1,[],Y,U,Same.refl _,h2,U,λx m=>nomatch m⟩ ?_ ?_
 .rintro j σ J hj ⟨B3,xs,u,rfl,s3,h3,xl,hx⟩
  have KL:KLf J g.kd (Wk names sD near far):=⟨kvs1,h3.get 1 rfl,.inl ⟨U,kv1.ow⟩,⟨g.na,kv1.na,h3.get 3 rfl⟩,⟨ne,vn1,h3.sm _ _ (s3 _ _ en1)⟩,⟨fa,vf1,h3.sm _ _ (s3 _ _ ef1)⟩⟩;refine ⟨_,U,tyL (h3.get 0 rfl),_,U,_,U,_,_,U,U,_,_,U,λmx mxp mxl=>⟨_,U,mx,g.kd,_,U,KL,LK,λp x J1 sJ hp lp=>?_⟩⟩;obtain ⟨wa,da,_,pB⟩:=hp B3 h3.sm;have h4:=zd4 h3 sJ;have s4:Same B3 (ext B3 J J1):=Yc h3.sm;generalize ext B3 J J1=B4 at pB h4 s4;refine ⟨pl,_,_,U,U,h4.get 0 rfl,by rw [Ji];omega,B4,xs++[x],_,U,s3.trans s4,?_,by rw [Jj,xl];rfl,λy m=>?_⟩
  .rw [Jk];exact h4.put 0 rfl
  .rcases t9.mp m with m | m
   .obtain ⟨wa',da',p',a,b⟩:=hx y m
    exact ⟨wa',da',p',a.same s4,b⟩
   .cases sG.mp m;exact ⟨wa,da,p,pB,lp⟩
 rintro σ J ⟨B3,xs,u,rfl,s3,h3,xl,hx⟩
 obtain ⟨x0,x1,x2,rfl⟩:∃ x0 x1 x2,xs=[x0,x1,x2]:=by
  match xs,xl with
  | [a,b,c],_=>exact ⟨a,b,c,U⟩
 obtain ⟨w0,d0,p0,a0,l0⟩:=hx x0 (.head _);obtain ⟨w1,d1,p1,a1,l1⟩:=hx x1 (.tail _ (.head _));obtain ⟨w2,d2,p2,a2,l2⟩:=hx x2 (.tail _ (.tail _ (.head _)));have h4:=h3.settle;have s4:=h3.settled;have epl:(upd B3 pl (.lst ([x0,x1,x2].map V.ref))) pl=Z (.lst ([x0,x1,x2].map V.ref)):=zg;generalize upd B3 pl (.lst ([x0,x1,x2].map V.ref))=B4 at h4 s4 epl;have sB:=s1.trans (s3.trans s4);have W4:WrAt B4 g kvs1 names sD lines X ta tl lv J:=⟨h4,kv1,nm,W.n1,W.d,W.t,W.tl.same sB,W.lv.same sB,W.c,W.n,W.l3,W.l40⟩;refine ⟨_,U,_,U,_,U,_,_,U,U,⟨by decide,by decide⟩,_,_,U,U,(by show (0:Int)<2;decide),U,_,U,?_⟩;refine ⟨B4,ht,pl,g.kd,g.na,x0,x1,x2,w0,w1,w2,d0,d1,d2,_,kvs1,names,sD,kind,i,mn_,fo,near,far,p0,p1,p2,U,h4.sm,(s3.trans s4) _ _ eht,epl,a0.same s4,a1.same s4,a2.same s4,h4.get 0 rfl,kv1.na,h4.get 2 rfl,hk,nm,l0,l1,l2,hfo,λJ2 t wl dt ws L sJ et ewl du sw=>?_⟩;have W5:=W4.ext sJ;have s5:Same B4 (ext B4 J J2):=Yc h4.sm;generalize ext B4 J J2=B5 at et ewl du W5 s5;refine ⟨t,_,U,SqT.of (W5.h.sm _ _ et),U,_,_,U,_,_,U,U,?_⟩;refine ⟨_,U,_,U,_,U,_,U,B5,g,kvs1,names,sD,lines,X,ta,tl,lv,wl,dt,c,ws,L,U,W5,ewl,sw,du,l40,by omega,λkvs' lines' X' lv' H' W' ll=>?_⟩;exact q B5 kvs' lines' X' tl lv' H' (sB.trans s5) W' ll
end K23
namespace L2
open PySem
def rCatQ (K:Fg):R2:=λx y H Q=>∃ l b xs zs,x=.ref l/\y=.ref b/\SqL K H l xs/\SqL K H b zs/\xs.length+zs.length<=sL/\∀ p,H p=Y->Q (.ref p) (upd H p (.lst (xs++zs)))
def op_catQ {X:Cx}:OpR X (wQ .Add) (rCatQ X.K):=by
 intro sq s σ H x y v u Q I rx ry h;obtain ⟨l,b,xs,zs,rfl,rfl,hl,hb,hz,q⟩:=h;cases (show v=tI l from rx);cases (show u=tI b from ry);obtain ⟨i1,r1,⟨⟨c1,d1,e1,f1⟩,n1,o1,k1,_,g1⟩,_⟩:=I.list hl;obtain ⟨i2,r2,⟨⟨c2,d2,e2,f2⟩,n2,o2,k2,_,g2⟩,_⟩:=I.list hb;simp only at k1 g1 k2 g2;subst k1 g1 k2 g2;have ea:i1.toArray++i2.toArray=(i1++i2).toArray:=by simp
 have z1:=r1.length;have z2:=r2.length;refine PySem.concat_meets ⟨_,o1,U⟩ ⟨_,o2,U⟩ PySem.noFill_list_add PySem.seq_list_add PySem.F.slot_list_add PySem.F.entry_list_add (PySem.F.args_list_add_2 _ _) (PyProof.Rows.list_addW l b i1.toArray i2.toArray n1 n2 d1 d2 f1 f2 (by simp only [tG];omega)) ⟨o1,o2,?_⟩;rw [ea];exact ⟨.ref s.heap.objs.size,_,I.lnew (t':=s.toks) (r1.append r2) (by rw [Jj];exact hz),U,q _ I.fresh⟩
def pe_disp5 {X:Cx} {pos:Pos} {k1 k2 k3 k4 k5 v1 v2 v3 v4 v5:Expr} {t1 t2 t3 t4 t5 u1 u2 u3 u4 u5:TE} (a1:PE X k1 t1) (b1:PE X v1 u1) (a2:PE X k2 t2) (b2:PE X v2 u2) (a3:PE X k3 t3) (b3:PE X v3 u3) (a4:PE X k4 t4) (b4:PE X v4 u4) (a5:PE X k5 t5) (b5:PE X v5 u5) :
  PE X (.Dict [Z k1,Z k2,Z k3,Z k4,Z k5] [v1,v2,v3,v4,v5] pos) (tDisp [(t1,u1),(t2,u2),(t3,u3),(t4,u4),(t5,u5)]):=pe_disp (Yl a1 b1 (Yl a2 b2 (Yl a3 b3 (Yl a4 b4 (Yl a5 b5 pps_nil))))) rfl rfl (by simp) (show (5:Nat)<=15 by decide)
def pw_disp5 {X:Cx} {i:Nat} {x:Str} {pos pos' pd:Pos} {k1 k2 k3 k4 k5 v1 v2 v3 v4 v5:Expr} {t1 t2 t3 t4 t5 u1 u2 u3 u4 u5:TE} (hN:X.N.Nodup) (hi:X.N[i]?=Z x) (hx:Loc X.env.scope x) (a1:PE X k1 t1) (b1:PE X v1 u1) (a2:PE X k2 t2) (b2:PE X v2 u2) (a3:PE X k3 t3) (b3:PE X v3 u3) (a4:PE X k4 t4) (b4:PE X v4 u4) (a5:PE X k5 t5) (b5:PE X v5 u5) (hf:X.fn x=true∨X.env.scope.names.lookup x=Z .local:=by first | exact .inl rfl | exact .inr rfl | assumption) :
  PW1 X (.Assign [.Name x pos'] (.Dict [Z k1,Z k2,Z k3,Z k4,Z k5] [v1,v2,v3,v4,v5] pd) pos) (tAsg (tDisp [(t1,u1),(t2,u2),(t3,u3),(t4,u4),(t5,u5)]) (zbj i)):=⟨zi hN hi hx (pe_disp5 a1 b1 a2 b2 a3 b3 a4 b4 a5 b5) rfl hf⟩
def pw_mid {X:Cx} {st:Stmt} {t:TS} (h:PW1 X st t):PW1 X st (tMid t):=⟨yx h.h⟩
end L2
namespace K23
open PySem L2 FM ST
variable {K:Fg} {base:Heap}
def KvOk.stk {g:Kg} {sr:Jl} (h:KvOk g sr) (s:Ad):KvOk { g with st:=s } (z9 sr (.inr "stack") (.ref s)):=by
 have ne:∀ {j:Str} {o:Jo},j≠"stack"->zN sr (.inr j)=o->zN (z9 sr (.inr "stack") (.ref s)) (.inr j)=o:=λ{j o} m e=>by
  rw [zY,if_neg (λz=>m (by cases z;rfl))];exact e
 obtain ⟨n,en⟩:=h.sg;exact ⟨ne (by decide) h.li,ne (by decide) h.na,ne (by decide) h.le,ne (by decide) h.du,by rw [zY,if_pos rfl],ne (by decide) h.ow,⟨n,ne (by decide) en⟩,by rw [zak h.st,ne (by decide) rfl,ne (by decide) rfl];exact h.l⟩
abbrev Dt.rows (names:Jf) (sD:Jb):Dt:=⟨⟨names,sD,[],[]⟩,[],[[]],[]⟩
structure RwAt (B:Hp) (g:Kg) (sr:Jl) (names:Jf) (sD:Jb) (lines:Jf) (H:Hp):Prop where
 h:Hd B [(g.kd,.dK sr),(g.li,.lst (lines.map V.str)),(g.na,.lst (names.map V.str)),(g.le,.lst (sD.map V.int)),(g.du,.lst []),(g.st,.lst [])] H
 kv:KvOk g sr
 nm:Nms names sD
 t:TextS lines (Dt.rows names sD)
def Nms.snoc {names:Jf} {sD:Jb} (h:Nms names sD) {z:Str} {n:Int} (hz:NmK z) (nz:z ∉ names) (n1:1<=n) (n4:n<=400) (l:names.length<12):Nms (names++[z]) (sD++[n]):=by
 refine ⟨λy m=>?_,List.nodup_append.mpr ⟨h.nd,by simp,λa ma b mb e=>?_⟩,by rw [Jj,Jj,h.nl];rfl,by rw [Jj,tF];omega,λy m=>?_⟩
 .rcases t9.mp m with m | m
  .exact h.g y m
  .cases sG.mp m;exact hz
 .cases sG.mp mb;subst e;exact nz ma
 .rcases t9.mp m with m | m
  .exact h.l4 y m
  .cases sG.mp m;exact ⟨n1,n4⟩
inductive spRb (K:Fg) (vs:Jn) (H:Hp) (Q:VK) (_:XK):Prop
 | mk (a:Ad) (ns:Jb) (_:vs=[.ref a]) (_:SqL K H a (ns.map V.int)) (_:ns.length<=63) (_:∀ B g sr names sD lines H',Same H B->RwAt B g sr names sD lines H'->1<=names.length->lines.length<=12->Q (.ref g.kd) H')
def zfy (d:zj K mg "_law_rows_by" ZM UY) (hrg:mg "range"=Y) (hstr:mg "str"=Y) (MX:Ok P w K mg base (CXe P w base) 1 "_law_mixed" Uu spMx) (NB2:Ok P w K mg base CX0 2 "_law_name_by" UQ (spName K)) (LN:Ok P w K mg base CX0 3 "_law_lined" Ui spLn):Ok P w K mg base CX0 4 "_law_rows_by" UY (spRb K):=by
 obtain ⟨f,fd,m,F,bd⟩:=d;refine ⟨f,fd,m,F.kp,bd,F.okB sc_l_rows_by (by rintro vs H Q E ⟨_,_,e,_⟩;rw [e];rfl) λsA A outer s H vs Q E hr h=>?_⟩;obtain ⟨a,ns,rfl,ha,l63,q⟩:=h;have hr3:Room 3 _:=hr;have hr2:Room 2 _:=hr.mono (by decide);have hr1:Room 1 _:=hr.mono (by decide);have hu:=tK (tO (show 1<=64 by decide) _) hr.units;have nd:=sc_l_rows_by.nd;have SL:(1000:Nat)<sizeLine:=by decide
 refine ⟨_,(Z9 (pw_mid (pw_disp5 (i:=1) nd rfl (vG rfl) zn (zJ zc) zn (zJ zc) zn (zJ zc) zn yK zn zd))
   (Z9 (PW1.mk (xE hu (pv 1) zn (zJ zc) rfl))
   (Z9 (PW1.mk (yx (xE hu (pv 1) zn (zJ zc) rfl)))
   (Z9 (PW1.mk (yx (oRz 2 nd (xF sl_list (zq op_catQ (pv 0) (zJ (za zd (za zd (za zd (za zd zc)))))) Zw (Zv zd)))))
   (Z9 (PW1.mk (oRz 3 nd (zq yh (zq zI (zx zD (pv 2) zd (λ_ _=>rfl)) zd) zd)))
   (Z9 (PW1.mk (yx (oRz 4 nd (zJ (za (pv 3) (za zd (za (pv 3) (za (zq yh (zq zI (zx zD (pv 2) zd (λ_ _=>rfl)) zd) zd) (za zd (za (pv 3) zc))))))))))
   (Z9 (PW1.mk (Zm tY rfl (yY rfl hrg (za (zq yh (zq zI (zx zD (pv 2) zd (λ_ _=>rfl)) zd) zd) zc)) (oQz 5 nd) (zb (oRz 6 nd (zo MX hr1 (by rfl) zU (za (zx zD (pv 2) zd (λ_ _=>rfl)) (za (zq yh zd (pv 5)) zc))))
   (zb (oRz 7 nd (zo NB2 hr2 (by rfl) zv (za (pv 6) (za (zH hu (pv 1) zn (λ_ _=>rfl)) zc))))
   (zb (zC (zo LN hr3 (by rfl) zv (za (pv 1) (za (zJ (za zn (za (pv 7) (za (z8 yI (by rfl) hstr up (za (zx zD (pv 4) (pv 5) (λ_ _=>rfl)) zc)) zc)))) (za (zq zT (pv 6) zd) zc)))))
   (zb (zC (yz sQ t8 t7 zQ (zH hu (pv 1) zn (λ_ _=>rfl)) (za (pv 7) zc)))
   (ze (zC (yz sQ t8 t7 zQ (zH hu (pv 1) zn (λ_ _=>rfl)) (za (zx zD (pv 4) (pv 5) (λ_ _=>rfl)) zc))))))))))
   (pb_one (PW1.mk (zm (pv 1))))))))))),?_⟩
 refine ⟨λσ J=>∃ kd li na le,σ=[rq a,rq kd,Y,Y,Y,Y,Y,Y]/\Hd H [(le,.lst []),(na,.lst []),(li,.lst []),(kd,.dK [(.inr "lines",.ref li),(.inr "names",.ref na),(.inr "lengths",.ref le),(.inr "own",.non),(.inr "signs",.int 0)])] J,?_,?_⟩
 .intro kd n0
  have h0:Hd H [(kd,.dK [])] (upd H kd (.dK [])):=Hd.base.new n0;refine ⟨szU 0,λli n1=>?_⟩;have h1:=h0.new (o:=.lst []) n1;refine ⟨szU 0,λna n2=>?_⟩;have h2:=h1.new (o:=.lst []) n2;refine ⟨szU 0,λle n3=>?_⟩;have h3:=h2.new (o:=.lst []) n3;refine ⟨h3.get 3 rfl,[(.inr "lines",.ref li),(.inr "names",.ref na),(.inr "lengths",.ref le),(.inr "own",.non),(.inr "signs",.int 0)],U,(by show 5<=15;decide),?_⟩;exact ⟨kd,li,na,le,U,h3.put 3 rfl⟩
 rintro σ J ⟨kd,li,na,le,rfl,h⟩;refine ⟨szU 0,λdu ndu=>?_⟩;have h:=h.new (o:=.lst []) ndu;refine ⟨_,U,kd,_,U,DPut.k (k:=.inr "due") (h.get 4 rfl) (by show 5<sL;omega),?_⟩;have h:=h.put (o':=.dK [(.inr "lines",.ref li),(.inr "names",.ref na),(.inr "lengths",.ref le),(.inr "own",.non),(.inr "signs",.int 0),(.inr "due",.ref du)]) 4 rfl;refine ⟨λσ J=>∃ g sr,σ=[rq a,rq g.kd,Y,Y,Y,Y,Y,Y]/\RwAt H g sr [] [] [] J,?_,?_⟩
 .refine ⟨szU 0,λst nst=>?_⟩
  have h:=h.new (o:=.lst []) nst;refine ⟨_,U,kd,_,U,DPut.k (k:=.inr "stack") (h.get 5 rfl) (by show 6<sL;omega),?_⟩;have h:=h.put (o':=.dK [(.inr "lines",.ref li),(.inr "names",.ref na),(.inr "lengths",.ref le),(.inr "own",.non),(.inr "signs",.int 0),(.inr "due",.ref du),(.inr "stack",.ref st)]) 5 rfl;exact ⟨⟨kd,li,na,le,du,st⟩,_,U,h.perm (List.reverse_perm _).symm,⟨U,U,U,U,U,U,⟨0,U⟩,by show 7<=7+0+0;decide⟩,⟨(λz m=>nomatch m),ww,U,ub _,(λz m=>nomatch m)⟩,TextS.nil⟩
 rintro σ J1 ⟨g,sr,rfl,R⟩;clear h;refine ⟨λσ J=>∃ (fl:Ad) (c0 c1 c2 c3:Int) (B:Hp),σ=[rq a,rq g.kd,rq fl,Y,Y,Y,Y,Y]/\Same H B/\B fl=Z (.lst [.int c0,.int c1,.int c2,.int c3])/\RwAt B g sr [] [] [] J,?_,?_⟩
 .refine ⟨_,U,szU 4,λz nz=>?_⟩
  obtain ⟨s1,e1⟩:=yU (H:=J1) (t:=z) rfl nz;generalize upd J1 z _=J2 at s1 e1 ⊢;have e1:J2 z=Z (.lst (([0,0,0,0]:Jb).map V.int)):=e1;refine ⟨a,z,_,_,U,U,yq (yq ha R.h.sm) s1,SqL.of e1,(by rw [Ji];show _+4<=_;omega),λp np=>?_⟩;rw [← vI];obtain ⟨s2,e2⟩:=yU (H:=J2) (t:=p) (o:=.lst ((ns++[0,0,0,0]).map V.int)) rfl np;generalize upd J2 p _=J3 at s2 e2 ⊢;refine ⟨_,U,p,_,U,SqL.of e2,λsl nsl=>?_⟩;rw [zgm (by decide),← List.map_take]
  obtain ⟨c0,c1,c2,c3,ec⟩:∃ c0 c1 c2 c3,(ns++[0,0,0,0]).take (4:Int).toNat=[c0,c1,c2,c3]:=by
   have hl:((ns++[0,0,0,0]).take (4:Int).toNat).length=4:=by rw [ut,Jj];show min 4 (_+4)=4;omega
   match (ns++[0,0,0,0]).take (4:Int).toNat,hl with
   | [a,b,c,d],_=>exact ⟨a,b,c,d,U⟩
  rw [ec];obtain ⟨s3,e3⟩:=yU (H:=J3) (t:=sl) (o:=.lst ([c0,c1,c2,c3].map V.int)) rfl nsl;generalize upd J3 sl _=J4 at s3 e3 ⊢;have s4:=s1.trans (s2.trans s3);exact ⟨sl,c0,c1,c2,c3,ext H J1 J4,U,Yc R.h.sm,by rw [ZX ((s1.trans s2).free nsl)];exact e3,zd4 R.h s4,R.kv,R.nm,R.t⟩
 rintro σ J2 ⟨fl,c0,c1,c2,c3,B,rfl,sB,efl,R⟩;have at4:∀ (j:Nat) (x:V),([V.int c0,.int c1,.int c2,.int c3])[j]?=Z x->atI [V.int c0,.int c1,.int c2,.int c3] (j:Int)=Z x:=λj x e=>zM e;have g1:0<=c1 % 400/\c1 % 400<400:=⟨sZ _ (by decide),sX _ (by decide)⟩;have g2:0<=c2 % 400/\c2 % 400<400:=⟨sZ _ (by decide),sX _ (by decide)⟩;refine ⟨_,U,fl,_,_,_,U,U,SqL.of (R.h.sm _ _ efl),at4 1 _ rfl,_,_,U,U,(by show (0:Int)<400;decide),_,_,U,U,?_⟩;refine ⟨λσ J=>∃ (sl:Ad) (sx:Jb) (B1:Hp),σ=[rq a,rq g.kd,rq fl,iq (c1 % 400+1),rq sl,Y,Y,Y]/\Same B B1/\B1 sl=Z (.lst (sx.map V.int))/\sx.length=6/\(∀ n∈sx,1<=n/\n<=400)/\RwAt B1 g sr [] [] [] J,?_,?_⟩
 .refine ⟨_,U,_,U,_,U,fl,_,_,_,U,U,SqL.of (R.h.sm _ _ efl),at4 2 _ rfl,_,_,U,U,(by show (0:Int)<400;decide),_,_,U,U,_,U,szU 6,λsl nsl=>?_⟩
  obtain ⟨B1,s1,e1,h1⟩:=hdG R.h rfl nsl;refine ⟨sl,[c1 % 400+1,1,c1 % 400+1,c2 % 400+1,1,c1 % 400+1],B1,U,s1,e1,U,λn m=>?_,h1,R.kv,R.nm,R.t⟩;simp only [sM,tM,or_false] at m;rcases m with rfl | rfl | rfl | rfl | rfl | rfl <;> omega
 rintro σ J3 ⟨sl,sx,B1,rfl,s1,esl,sx6,sx4,R⟩;have g0:0<=c0 % 4/\c0 % 4<4:=⟨sZ _ (by decide),sX _ (by decide)⟩;refine ⟨_,U,fl,_,_,_,U,U,SqL.of (R.h.sm _ _ (s1 _ _ efl)),at4 0 _ rfl,_,_,U,U,(by show (0:Int)<4;decide),_,_,U,U,_,U,by omega,by omega,?_⟩;obtain ⟨n,en,n3,n6⟩:∃ n:Nat,c0 % 4+3=n/\3<=n/\n<=6:=⟨(c0 % 4+3).toNat,by omega,by omega,by omega⟩;rw [en,q0z];refine Zy (n:=n) (λi σ J=>∃ (B2:Hp) (sr:Jl) (names:Jf) (sD:Jb) (lines:Jf) (u5 u6 u7:Jo),σ=[rq a,rq g.kd,rq fl,iq (c1 % 400+1),rq sl,u5,u6,u7]/\Same B1 B2/\RwAt B2 g sr names sD lines J/\names.length=i/\lines.length<=2*i) ⟨B1,sr,[],[],[],Y,Y,Y,U,Same.refl _,R,U,sK _⟩ ?_ ?_
 .clear R
  rintro i σ J hi ⟨B2,sr,names,sD,lines,u5,u6,u7,rfl,s2,R,nl,ll⟩;have i0:(0:Int)+(i:Int)=((i:Nat):Int):=uG _;rw [i0];refine ⟨_,U,fl,_,_,_,U,U,SqL.of (R.h.sm _ _ ((s1.trans s2) _ _ efl)),at4 3 _ rfl,_,U,_,_,U,U,_,_,U,λmx mxp mxl=>?_⟩;refine ⟨_,U,_,U,g.kd,_,U,yJ (R.h.get 0 rfl) R.kv.na,g.na,names,mx,U,SqL.of (R.h.get 2 rfl),λz m=>(R.nm.g z m).1,by omega,λz J1 z1 z2 z3 sJ=>?_⟩;have hz:NmK z:=⟨z1,z3⟩;have h1:=zd4 R.h sJ;have s3:Same B2 (ext B2 J J1):=Yc R.h.sm;generalize ext B2 J J1=B3 at h1 s3;obtain ⟨x,ex⟩:∃ x,sx[i]?=Z x:=⟨_,sI (by omega)⟩;have hx:=sx4 x (sP ex);have esl3:=h1.sm _ _ ((s2.trans s3) _ _ esl);have eat:atI (sx.map V.int) ((i:Nat):Int)=Z (.int x):=zM (by rw [sN,ex];rfl);refine ⟨_,U,_,U,_,U,_,U,sl,_,_,_,U,U,SqL.of esl3,eat,x,U,by omega,by omega,szU 3,λwa nwa=>?_⟩;obtain ⟨B4,s4,ew,h2⟩:=hdG h1 rfl nwa;generalize upd J1 wa _=J2 at h2 ⊢;refine ⟨_,U,_,_,U,U,⟨by decide,by decide⟩,g,wa,_,sr,[("row":Str),z,numS x],lines,B4,_,U,h2,R.kv,ew,λw m=>?_,(by show 3<=500;decide),by omega,λbl y kvs' H2 b1 b2 e1 e2 kv' h3=>?_⟩
  .simp only [sM,tM,or_false] at m
   rcases m with rfl | rfl | rfl
   .exact ⟨.inr (.inr ⟨by decide,by unfold SgnN;decide⟩),by decide⟩
   .exact hz.wl
   .exact (Zb (by omega) (by omega)).2.2.2
  refine ⟨_,U,g.kd,_,U,yJ (h3.get 0 rfl) kv'.na,tyL (h3.get 2 rfl),_,U,g.na,_,_,U,U,h3.get 2 rfl,by rw [Ji];omega,?_⟩;have h4:=h3.put (o':=.lst (names.map V.str++[.str z])) 2 rfl;generalize upd H2 g.na _=H3 at h4 ⊢;have esl4:=h4.sm _ _ ((s2.trans (s3.trans s4)) _ _ esl);refine ⟨_,U,g.kd,_,U,yJ (h4.get 0 rfl) kv'.le,tyL (h4.get 3 rfl),_,U,_,U,sl,_,_,_,U,U,SqL.of esl4,eat,g.le,_,_,U,U,h4.get 3 rfl,by rw [Ji,R.nm.nl];omega,?_⟩;have h5:=h4.put (o':=.lst (sD.map V.int++[.int x])) 3 rfl;refine ⟨B4,kvs',names++[z],sD++[x],lines++bl++[y],_,_,_,U,s2.trans (s3.trans s4),⟨?_,kv',R.nm.snoc hz z2 hx.1 hx.2 (by omega),(zbr R.t b2).snoc e2 (.row z x e1 hz hx.1 hx.2 (zen z2) rfl (by show names.length<12;omega) rfl)⟩,by rw [Jj,nl];rfl,by rw [Jj,Jj];show _+_+1<=_;omega⟩;have x1:(names++[z]).map V.str=names.map V.str++[.str z]:=by rw [Jk];rfl
  have x2:(sD++[x]).map V.int=sD.map V.int++[.int x]:=by rw [Jk];rfl
  rw [x1,x2];exact h5
 .rintro σ J ⟨B2,sr,names,sD,lines,u5,u6,u7,rfl,s2,R,nl,ll⟩
  exact ⟨_,U,q B2 g sr names sD lines J (sB.trans (s1.trans s2)) R (by omega) (by omega)⟩
structure SoC (K:Fg) (CS CP:Ad):Prop where
 c:Cls K CS
 n0:NoAttr K CS "program"
 n2:NoAttr K CS "lines"
 p:ProgC K CP
inductive spLaw (K:Fg) (vs:Jn) (H:Hp) (Q:VK) (_:XK):Prop
 | mk (a:Ad) (ns:Jb) (_:vs=[.ref a]) (_:SqL K H a (ns.map V.int)) (_:ns.length<=63) (_:∀ H',Q (.bl true) H')
def ok_law {f:Ad} {fd:uk} {C aL CD CP CS:Ad} {c:F2.Cs} {q:Scs} (F:Fun K "law" "law" za1 f fd) (hlen:mg "len"=Y) (SC:SoC K CS CP) (dC:DCls K CD) (LR:LineFn P w K mg base aL 156 "row" (spRL K C c)) (LSt:∀ wd∈([("let":Str),"put","fold","run"]),LineFn P w K mg base aL 156 wd (spSt K C c q wd)) (LTi:LineFn P w K mg base aL 156 "till" (spTi K C c)) (LEn:LineFn P w K mg base aL 156 "end" (spEn K C q))
  (RB:Ok P w K mg base CX0 4 "_law_rows_by" UY (spRb K)) (AD:Ok P w K mg base CX0 5 "_law_added" Uf spAd) (ED:Ok P w K mg base CX0 4 "_law_ended" Uf spEd) (RD:Ok P w K mg base CX0 158 "read" ["text"] (spRead P w K mg base C aL CD CP CS 156)) (LS:Ok P w K mg base CX0 113 "_law_like_steps" UD (spLs c q 3)) (NS:Ok P w K mg base CX0 3 "_law_numbers" Ub spNs):FnOk P w K mg base CX0 159 f fd UY (spLaw K):=by
 refine F.ok sc_law (by rintro vs H Q E ⟨_,_,e,_⟩;rw [e];rfl) λsA A outer s H vs Q E hr h=>?_;obtain ⟨a,ns,rfl,ha,l63,qq⟩:=h;have hrk:Room 158 _:=hr;have hrl:Room 113 _:=hr.mono (by decide);have hr5:Room 5 _:=hr.mono (by decide);have hr4:Room 4 _:=hr.mono (by decide);have hr3:Room 3 _:=hr.mono (by decide);have hu:=tK (tO (show 1<=64 by decide) _) hr.units;have nd:=sc_law.nd;have SL:(100000:Nat)<sizeLine:=by decide
 refine ⟨_,(zb (oRz 1 nd (zo RB hr4 (by rfl) zv (za (pv 0) zc)))
   (zb (xE hu (pv 1) zn (zJ (za (zJ zc) zc)) rfl)
   (zb (oRz 2 nd (zJ zc))
   (zb (Zm tY rfl (xo (xF sl_list (pv 0) (Zv zd) Zw)) (oQz 3 nd) (ze (zB (XJ (yv (zp za5 (zh zr (by rfl) hlen sU (za (zH hu (pv 1) zn (λ_ _=>rfl)) zc)) zd (zw _)) (yc (zp za5 (zH hu (pv 1) zn (λ_ _=>rfl)) zd (zw _)))).pt) (ze (zC (zo AD hr5 (by rfl) zv (za (pv 1) (za (pv 2) (za (pv 3) zc)))))) zk)))
   (zb (Yk tY (zp ZV (zh zr (by rfl) hlen sU (za (pv 2) zc)) zd (zw _)) (ze (zC (zo ED hr4 (by rfl) zv (za (pv 1) (za (pv 2) (za (zh zr (by rfl) hlen sU (za (pv 2) zc)) zc)))))))
   (zb (oRz 4 nd (zo RD hrk (by rfl) zv (za (yz uz PySem.F.slot_str_join PySem.F.type_str_join mt_join zn (za (zH hu (pv 1) zn (λ_ _=>rfl)) zc)) zc)))
   (zb (zB (zW (zG (zo LS hrl (by rfl) zv (za (zu (zu (pv 4) rfl) rfl) (za (zx zD (zH hu (pv 1) zn (λ_ _=>rfl)) zd (λ_ _=>rfl)) zc))))) (ze (zm yE)) zk)
   (ze (zm (yH (zo NS hr3 (by rfl) zv (za (zu (pv 4) rfl) (za (zH hu (pv 1) zn (λ_ _=>rfl)) zc))) (yD (zo NS hr3 (by rfl) zv (za (zu (zu (pv 4) rfl) rfl) (za (zH hu (pv 1) zn (λ_ _=>rfl)) zc)))))))))))))),?_⟩
 show (let s1:L2.TS:=_;let s2:L2.TS:=L2.tSeq _ s1;let s3:L2.TS:=L2.tSeq _ s2;let s4:L2.TS:=L2.tSeq _ s3;let s5:L2.TS:=L2.tSeq _ s4;let s6:L2.TS:=L2.tSeq _ s5;let s7:L2.TS:=L2.tSeq _ s6;L2.tSeq _ s7 _ _ _);intro s1 s2 s3 s4 s5 s6 s7;refine ⟨_,U,a,ns,U,ha,l63,λB g0 sr names sD lines H1 sB R n1 l12=>?_⟩;refine ⟨szU 0,λl0 nl0=>⟨szU 1,λst nst=>?_⟩⟩;have h1:=(R.h.new (o:=.lst []) nl0).new (o:=.lst [.ref l0]) nst;generalize upd (upd H1 l0 _) st _=H2 at h1 ⊢;refine ⟨_,U,g0.kd,_,U,DPut.k (k:=.inr "stack") (h1.get 2 rfl) (by have:=R.kv.l9;omega),?_⟩;have kv:=R.kv.stk st;have h2:=h1.put (o':=.dK (z9 sr (.inr "stack") (.ref st))) 2 rfl;generalize upd H2 g0.kd _=H3 at h2 ⊢;generalize z9 sr (.inr "stack") (.ref st)=kvs2 at kv h2;refine ⟨szU 0,λta nta=>?_⟩;have h3:=h2.new (o:=.lst []) nta;generalize upd H3 ta _=H4 at h3 ⊢;obtain ⟨g,eg⟩:∃ g:Kg,g={ g0 with st:=st }:=⟨_,U⟩;rw [← eg] at kv
 have h4:Hd B (g.L kvs2 names sD lines [] ta [] [(l0,[])]) H4:=by
  subst eg;have h4:Hd B [(ta,.lst []),(st,.lst [.ref l0]),(l0,.lst []),(g0.kd,.dK kvs2),(g0.li,.lst (lines.map V.str)),(g0.na,.lst (names.map V.str)),(g0.le,.lst (sD.map V.int)),(g0.du,.lst [])] H4:=h3.sub (by simp);refine h4.perm ?_;refine (List.perm_append_comm (l₁:=[(ta,HO.lst []),(st,.lst [.ref l0]),(l0,.lst [])]) (l₂:=[(g0.kd,.dK kvs2),(g0.li,.lst (lines.map V.str)),(g0.na,.lst (names.map V.str)),(g0.le,.lst (sD.map V.int)),(g0.du,.lst [])])).trans ?_;exact List.Perm.append_left _ (uZ _ _ _)
 have W0:WrAt B g kvs2 names sD lines (Dt.rows names sD) ta [] [(l0,[])] H4:=⟨h4,kv,R.nm,n1,U,R.t,⟨U,λi t e=>by cases e⟩,⟨⟨U,λi s y a=>by cases a⟩,trivial⟩,sK _,U,ub _,ub _⟩;have ekd:g0.kd=g.kd:=by rw [eg]
 rw [ekd];clear h1 h2 h3 h4 R kv nta nst nl0 ekd eg;have ha4:=yq (yq ha sB) W0.h.sm;refine ⟨_,U,_,U,a,_,U,ha4,λsl nsl=>?_⟩;rw [zgn (by decide),← List.map_drop];have l80:(ns.drop (4:Int).toNat).length<=63:=by rw [uS];omega
 generalize ns.drop (4:Int).toNat=ks at l80 ⊢;obtain ⟨s1,e1⟩:=yU (H:=H4) (t:=sl) (o:=.lst (ks.map V.int)) rfl nsl;generalize upd H4 sl _=H5 at s1 e1 ⊢;have W1:=W0.ext s1;have e1B:ext B H4 H5 sl=Z (.lst (ks.map V.int)):=by rw [ZX nsl];exact e1
 generalize ext B H4 H5=B1 at W1 e1B;clear W0 ha4 sB ha s1 e1 nsl;refine ⟨sl,U,⟨_,SqL.of (W1.h.sm _ _ e1B)⟩,?_⟩;refine Yv (K:=K) (a:=sl) (xs:=ks.map V.int) (λi σ J=>∃ (B:Hp) (sr:Jl) (lines:Jf) (X:Dt) (tl:Jg) (lv:LvL) (u:Jo),σ=[rq a,rq g.kd,rq ta,u,Y]/\Same B1 B/\WrAt B g sr names sD lines X ta tl lv J/\lines.length<=12+2*i) ⟨B1,kvs2,lines,_,[],[(l0,[])],Y,U,Same.refl _,W1,l12⟩ (λi σ J _ ⟨B,_,_,_,_,_,_,_,sB,W,_⟩=>SqL.of (W.h.sm _ _ (sB _ _ e1B))) ?_ ?_
 .clear W1
  rintro i x σ J hi ⟨B,sr,lines,X,tl,lv,u,rfl,sB,W,ll⟩;obtain ⟨cl,ecl,rfl⟩:=zdz hi;have i63:i<63:=x1z (tu.mp ecl).1 l80;refine ⟨λb H'=>H'=J/\(b=true->X.lns.length<40),?_,?_⟩
  .refine ⟨_,U,g.kd,_,U,yJ (W.h.get 0 rfl) W.kv.du,g.du,_,U,.inl (SqL.of (W.h.get 4 rfl)),_,_,U,U,_,U,?_⟩
   rw [Ji];obtain ⟨n,en⟩:=W.kv.sg;refine yu (λy=>?_) (λ_=>⟨U,λz=>by cases z⟩);have y:=of_decide_eq_true y;exact ⟨_,U,g.kd,_,U,yJ (W.h.get 0 rfl) en,_,_,U,U,_,U,U,λ_=>by omega⟩
  rintro b H' ⟨rfl,hb⟩;refine yu (λbt=>?_) (λ_=>⟨B,sr,lines,X,tl,lv,_,U,sB,W,by omega⟩);refine ⟨_,U,_,U,_,U,B,g,sr,names,sD,lines,X,ta,tl,lv,cl,U,W,hb bt,by omega,λB' kvs' lines' X' tl' lv' J' sB' W' ll'=>?_⟩;exact ⟨B',kvs',lines',X',tl',lv',_,U,sB.trans sB',W',by omega⟩
 rintro σ J ⟨B,sr,lines,X,tl,lv,u,rfl,sB,W,ll⟩;rw [Ji] at ll;clear W1;refine ⟨λmm σ J=>∃ (B:Hp) (sr:Jl) (lines:Jf) (X:Dt) (tl:Jg) (lv:LvL),mm=X.tl.length/\σ=[rq a,rq g.kd,rq ta,u,Y]/\WrAt B g sr names sD lines X ta tl lv J/\lines.length+2*X.tl.length<=200,⟨X.tl.length,B,sr,lines,X,tl,lv,U,U,W,by have:=W.l3;omega⟩,?_⟩;clear W;rintro mm σ J ⟨B,sr,lines,X,tl,lv,rfl,rfl,W,ll⟩;have tlen:(tl.map V.ref).length=X.tl.length:=by rw [Ji];exact W.tl.1
 refine ⟨_,U,ta,_,U,.inl (SqL.of (W.h.get 6 rfl)),_,_,U,U,_,U,?_⟩;rw [tlen];refine yu (λy=>?_) (λy=>?_)
 .have y:0<X.tl.length:=by have:=of_decide_eq_true y;omega
  refine ⟨_,λ_ _ h=>h,_,U,_,U,_,U,ta,_,U,.inl (SqL.of (W.h.get 6 rfl)),B,g,sr,names,sD,lines,X,ta,tl,lv,_,U,W,y,by omega,λB' kvs' lines' X' tl' lv' J' sB' W' ll' le'=>?_⟩;exact ⟨X'.tl.length,by omega,B',kvs',lines',X',tl',lv',U,U,W',by omega⟩
 have x0:X.tl=[]:=sW (by
  cases h:X.tl.length with
  | zero=>rfl
  | succ n=>rw [h] at y;exact absurd (decide_eq_true (by omega)) y)
 obtain ⟨ss,x1⟩:∃ ss,X.lv=[ss]:=by
  have:=W.n;rw [x0] at this
  match X.lv,this with
  | [s],_=>exact ⟨s,U⟩
 have wl:=W.lv;rw [x1] at wl;obtain ⟨la0,ys,lv2,rfl,va,vr⟩:=wl.cons;have lv0:lv2=[]:=sW vr.len;subst lv0;have e0:=W.h.get 0 rfl;refine ⟨U,_,U,g.kd,_,U,yJ e0 W.kv.li,"\n",g.li,lines,U,U,SqL.of (W.h.get 1 rfl),(join_ok (λy m=>(W.t.t y m).l) (by omega)).1,zfu dC LR LSt LTi LEn W.t x0 x1 (by omega) λso J1 sJ RS=>?_⟩;obtain ⟨sd,pr,pd,la,lb,lc,na,nl,xs,y1,y2,y3,y4,y5,y6⟩:=RS.ex;have f0:=sJ _ _ e0;have cc:=W.c;rw [x1,x0] at cc;have cc:ss.length+0+0<=X.lns.length:=cc;have l40:=W.l40;have hy:∀ (i:Nat) (s:Stp) (y:Ad),ss[i]?=Z s->ys[i]?=Z y->DueS J1 3 s y:=λi s y a b=>(((va.2 i s y a b).1).same W.h.sm).same sJ;refine ⟨_,U,so,CS,sd,_,_,U,y1,SC.c,SC.n0,U,pr,CP,pd,_,_,U,y2,SC.p.c,SC.p.n2,U,_,U,g.kd,_,U,yJ f0 W.kv.st,g.st,_,_,_,U,U,SqL.of (sJ _ _ (W.h.get 5 rfl)),U,lc,la0,xs,ys,ss,U,y4,sJ _ _ (W.h.get 7 rfl),y6,va.1,hy,by omega,va.few,true,U,zy ?_⟩;refine ⟨_,U,so,CS,sd,_,_,U,y1,SC.c,SC.n2,U,_,U,g.kd,_,U,yJ f0 W.kv.du,nl,g.du,X.lns,U,y5,sJ _ _ (W.h.get 4 rfl),by omega,true,U,zL ?_⟩;have dl:X.D.lens=sD:=by rw [W.d]
 rw [dl] at y3;exact ⟨_,U,so,CS,sd,_,_,U,y1,SC.c,SC.n0,U,pr,CP,pd,_,_,U,y2,SC.p.c,SC.p.n0,U,_,U,g.kd,_,U,yJ f0 W.kv.le,la,g.le,sD,U,y3,sJ _ _ (W.h.get 3 rfl),by rw [W.nm.nl];have:=W.nm.n12;omega,qq _⟩
end K23
namespace K23
open PySem L2
def keyS (e:DictEntry):Option Str:=match e.key with
 | .str x _=>Z x
 | _=>Y
theorem zcl (z:Str):∀ {es:List DictEntry} {l:Jf},es.map keyS=l.map Z->(es.find? (·.key.isStr z)).isSome=decide (z∈l)/\es.any (·.refKey)=false
 | [],[],_=>⟨by simp,U⟩
 | [],_::_,h=>by cases h
 | _::_,[],h=>by cases h
 | e::es,y::l,h=>by
  rw [tz,tz] at h;obtain ⟨h1,h2⟩:=wM h;obtain ⟨i1,i2⟩:=zcl z h2;obtain ⟨hh,k,v⟩:=e
  cases k with
  | str x t =>
   have h1:x=y:=uq h1;subst h1;refine ⟨?_,?_⟩
   .rw [vv]
    show (match (x == z) with | true=>_ | false=>_:Option DictEntry).isSome=_
    cases hx:x == z with
    | true =>
     have:x=z:=eq_of_beq hx;subst this;simp
    | false =>
     have:¬ z=x:=λq=>by subst q;rw [beq_self_eq_true] at hx;cases hx
     rw [i1];simp [this]
   .rw [vh,i2];rfl
  | _=>cases h1
theorem zaf {K:Fg} {a:Ad} {cl:Vl} {d:Option Ad} {es:Array DictEntry} {n:Nat} {sl:Array (Je)} {l:Jf} (hk:K.lookup a=Z ⟨cl,d,.dict es n,sl⟩) (he:es.toList.map keyS=l.map Z):∀ z,∃ r,sY K a z=Z r/\r.isSome=decide (z∈l):=λz=>by
 obtain ⟨i1,i2⟩:=zcl z he;unfold sY;rw [hk];dsimp only
 cases hf:es.toList.find? (·.key.isStr z) with
 | some e=>rw [hf] at i1;exact ⟨_,U,i1⟩
 | none=>rw [hf] at i1;rw [i2];exact ⟨Y,U,i1⟩
section
variable {K:Fg} {base:Heap}
def ok_kept {t:Tok} (d:zj K mg "kept" zdb ["number"]) (hH:mg "HALF"=Z (.int 9223372036854775808 t)):Ok P w K mg base (CXe P w base) 1 "kept" ["number"] (sp1 λn=>.int (FM.kept n)):=by
 refine oDe d sc_kept λf sA A _ s H vs Q E hr h=>?_;obtain ⟨n,rfl,k⟩:=h;refine ⟨_,ze (zm (zq Xc (zq zI (zq yh (pv 0) (yt hH)) (zq Xd zd (yt hH))) (yt hH))),?_⟩;exact ⟨_,U,_,_,U,U,_,_,U,U,.inl ⟨by decide,by decide⟩,_,_,U,U,(by show (0:Int)<2*9223372036854775808;decide),_,_,U,U,k⟩
end
end K23
namespace K23
open PySem L2 FM ST
theorem uc {n:Nat}:∀ {us:Jd},us.length=n+1->∃ a r,us=a::r/\r.length=n
 | a::r,h=>⟨a,r,U,wm h⟩
def us1 {p:Jd->Prop} (h:∀ a0,p [a0]):∀ us:Jd,us.length=1->p us:=by
 intro us e;obtain ⟨a0,u0,rfl,e0⟩:=uc e;cases sW e0;exact h _
def us2 {p:Jd->Prop} (h:∀ a0 a1,p [a0,a1]):∀ us:Jd,us.length=2->p us:=by
 intro us e;obtain ⟨a0,u0,rfl,e0⟩:=uc e;obtain ⟨a1,u1,rfl,e1⟩:=uc e0;cases sW e1;exact h _ _
def us3 {p:Jd->Prop} (h:∀ a0 a1 a2,p [a0,a1,a2]):∀ us:Jd,us.length=3->p us:=by
 intro us e;obtain ⟨a0,u0,rfl,e0⟩:=uc e;obtain ⟨a1,u1,rfl,e1⟩:=uc e0;obtain ⟨a2,u2,rfl,e2⟩:=uc e1;cases sW e2;exact h _ _ _
def us4 {p:Jd->Prop} (h:∀ a0 a1 a2 a3,p [a0,a1,a2,a3]):∀ us:Jd,us.length=4->p us:=by
 intro us e;obtain ⟨a0,u0,rfl,e0⟩:=uc e;obtain ⟨a1,u1,rfl,e1⟩:=uc e0;obtain ⟨a2,u2,rfl,e2⟩:=uc e1;obtain ⟨a3,u3,rfl,e3⟩:=uc e2;cases sW e3;exact h _ _ _ _
def us5 {p:Jd->Prop} (h:∀ a0 a1 a2 a3 a4,p [a0,a1,a2,a3,a4]):∀ us:Jd,us.length=5->p us:=by
 intro us e;obtain ⟨a0,u0,rfl,e0⟩:=uc e;obtain ⟨a1,u1,rfl,e1⟩:=uc e0;obtain ⟨a2,u2,rfl,e2⟩:=uc e1;obtain ⟨a3,u3,rfl,e3⟩:=uc e2;obtain ⟨a4,u4,rfl,e4⟩:=uc e3;cases sW e4;exact h _ _ _ _ _
theorem all_mk {l:PySem.W.OpenLaw} {w:World} {K:Fg} {h:Heap} {mg:J0} {fa oI lj oJ lm kh gn lq gq bg iA iB cB iC fA ki gw lB dw iD fB iE bm dz gA iF kj dD iG iH lC gD gE kq kr cb m8 iI bV lD bw dE cD aX fC iJ iK iL bo iM aY aZ aO a6 aQ a7 gF oK lE lF oM fD fE fF iN ku iO fG m9 iP iQ iR fH nh fI dH lG iS fJ lH lI pQ lJ lL lM lN aj aq ag aa al av ai ac af ax au am ae ar aw aG aE aA:Ad} {CF CS S aL TK aFF aOF:Ad} {tH:Tok} {es esL esF esO:Array DictEntry} {nS nL nK nF nO:Nat} {dJ:Tok} {dL:Tok} {cE:Tok} {cf:Tok} {iT:Tok} {gG:Tok} {gH:Tok} {gI:Tok} {gJ:Tok} {cF:Tok} {cg:Tok} {lO:Tok} {lP:Tok} {tK0 tK1 tK2 tK3 tK4 tK5 tK6 tK7 tK8 tK9 tK10 tK11 tK12 tK13 tK14 tK15 tK16 tK17 tK18 tK19 tK20 tK21 tK22 tK23 tK24 tK25:Tok} {qO qP qQ qR qS qT qU qV:Option Ad} {qW qX qY qZ:Array (Je)} {re rg rh rj oN rm rn rp rA rB oO rD rE rF rG rH oP rJ rK rL rM rN oQ rO:Vl} {qI:Ad} {pT:Vl} {pU:Option Ad} {pV:Array (Je)} {rP:Nat} {qJ:Ad} {pW:Vl} {pX:Option Ad} {pY:Array (Je)} {rQ:Nat} {qK:Ad} {pZ:Vl} {p7:Option Ad} {p8:Array (Je)} {rR:Nat} {qL:Ad} {p9:Vl} {qA:Option Ad} {qB:Array (Je)} {rS:Nat} (X:K.In h) (G:h.Ns ti mg) (hfa:mg "law"=Z (.ref fa))
  (oS:DH K "kept" zdb oI)
  (lQ:DH K "is_sign" YF lj)
  (oU:DH K "free" zdc oJ)
  (lR:DH K "is_fold" YH lm)
  (ky:DH K "words_of" Z3 kh)
  (gK:DH K "is_made_of" Zr gn)
  (lU:DH K "is_name" YG lq)
  (gL:DH K "figures_of" Zs gq)
  (bi:DH K "is_written_as_number" yk bg)
  (iU:DH K "number_in" ZJ iA)
  (iV:DH K "read_word" ZE iB)
  (cG:DH K "read_line_end" xj cB)
  (iW:DH K "read_name" ZG iC)
  (fK:DH K "read_number" xS fA)
  (kz:DH K "read_row" Z4 ki)
  (gM:DH K "read_forms" xv gw)
  (lV:DH K "read_at" ZZ lB)
  (dM:DH K "read_shifted" xu dw)
  (iX:DH K "read_pair" Zg iD)
  (fL:DH K "read_choice" xa fB)
  (iY:DH K "read_call" Zi iE)
  (bp:DH K "read_behind_bracket" ya bm)
  (dN:DH K "read_bracket" yQ dz)
  (gN:DH K "named_form" Zq gA)
  (iZ:DH K "read_form" Zh iF)
  (kB:DH K "parts_of" Z5 kj)
  (dO:DH K "forms_within" xw dD)
  (i3:DH K "body_size" Zj iG)
  (i4:DH K "size_with" Zf iH)
  (lW:DH K "size_of" Yz lC)
  (gO:DH K "body_depth" xz gD)
  (gP:DH K "depth_with" xy gE)
  (kD:DH K "depth_of" Z8 kq)
  (kE:DH K "forms_of" Z7 kr)
  (ci:DH K "is_uneven_form" yX cb)
  (nj:DH K "uneven" Xl m8)
  (i5:DH K "may_cross" ZK iI)
  (bW:DH K "is_crossed_form" yM bV)
  (lX:DH K "crossed" YI lD)
  (bx:DH K "refuse_within_till" yw bw)
  (dQ:DH K "refuse_taken" xt dE)
  (cH:DH K "read_new_name" xi cD)
  (a8:DH K "read_row_line" xg aX)
  (fM:DH K "check_forms" xZ fC)
  (i6:DH K "read_test" ZF iJ)
  (i7:DH K "read_fold" ZI iK)
  (i8:DH K "read_many" ZH iL)
  (bq:DH K "refuse_further_step" yr bo)
  (i9:DH K "take_step" ZD iM)
  (a9:DH K "read_let_line" xk aY)
  (ba:DH K "read_put_line" xh aZ)
  (aT:DH K "read_fold_line" yW aO)
  (bc:DH K "read_run_line" xf a6)
  (aU:DH K "read_till_line" yV aQ)
  (be:DH K "read_end_line" xn a7)
  (gQ:DH K "read_words" Zp gF)
  (oV:DH K "read" zc9 oK)
  (lY:DH K "_law_mixed" YB lE)
  (lZ:DH K "_law_whole" YA lF)
  (oW:DH K "_law_is" zda oM)
  (fN:DH K "_law_number_by" xT fD)
  (fO:DH K "_law_kept_word" xX fE)
  (fQ:DH K "_law_near_kept" xU fF)
  (jc:DH K "_law_name_by" ZO iN)
  (kF:DH K "_law_spaced" Z6 ku)
  (jd:DH K "_law_leaf_by" ZP iO)
  (fR:DH K "_law_like_leaf" xW fG)
  (nq:DH K "_law_like" Yi m9)
  (je:DH K "_law_numbers" ZN iP)
  (jf:DH K "_law_head_by" ZQ iQ)
  (jg:DH K "_law_step_by" ZL iR)
  (fS:DH K "_law_like_test" xV fH)
  (ny:DH K "_law_fold" Xm nh)
  (fT:DH K "_law_like_step" xb fI)
  (dR:DH K "_law_like_steps" yR dH)
  (l6:DH K "_law_lined" YC lG)
  (jh:DH K "_law_rows_by" ZM iS)
  (fV:DH K "_law_kept_step" xY fJ)
  (l7:DH K "_law_added" YE lH)
  (md:DH K "_law_ended" YD lI)
  (qC:DH K "law" za1 pQ)
  (cI:sY K ti "Number"=Z (Z (.ref aj))) (kG:CH K aj)
  (b7:FN K aj ["number"])
  (ji:tL K aj=true) (jj:tj K (.ref aj)=true)
  (fW:MH K aj "__init__" "Number.__init__" x6)
  (gR:sY K ti "Here"=Z (Z (.ref aq))) (nA:CH K aq)
  (me:tL K aq=true) (mh:tj K (.ref aq)=true) (mn:t6 K (.ref aq) "__init__"=Z (Z (.builtin "object.__init__")))
  (cj:sY K ti "Cell"=Z (Z (.ref ag))) (nC:CH K ag)
  (bE:FN K ag ["row"])
  (ms:tL K ag=true) (mt:tj K (.ref ag)=true)
  (jk:MH K ag "__init__" "Cell.__init__" ZT)
  (bj:sY K ti "Shifted"=Z (Z (.ref aa))) (jm:CH K aa)
  (ay:FN K aa ["row","by","other"])
  (gS:tL K aa=true) (gT:tj K (.ref aa)=true)
  (dU:MH K aa "__init__" "Shifted.__init__" xA)
  (eR:sY K ti "Local"=Z (Z (.ref al))) (mv:CH K al)
  (cJ:FN K al ["at"])
  (kI:tL K al=true) (kJ:tj K (.ref al)=true)
  (gU:MH K al "__init__" "Local.__init__" Zt)
  (cK:sY K ti "At"=Z (Z (.ref av))) (oX:CH K av)
  (br:FN K av ["row","place"])
  (ot:tL K av=true) (ou:tj K (.ref av)=true)
  (mw:MH K av "__init__" "At.__init__" YJ)
  (cm:sY K ti "Pair"=Z (Z (.ref ai))) (nG:CH K ai)
  (aI:FN K ai ["sign","left","right"])
  (mB:tL K ai=true) (mC:tj K (.ref ai)=true)
  (jn:MH K ai "__init__" "Pair.__init__" ZS)
  (aM:sY K ti "Choice"=Z (Z (.ref ac))) (kK:CH K ac)
  (aD:FN K ac ["test","left","right"])
  (jp:tL K ac=true) (jq:tj K (.ref ac)=true)
  (fY:MH K ac "__init__" "Choice.__init__" x9)
  (aV:sY K ti "Call"=Z (Z (.ref af))) (nH:CH K af)
  (bf:FN K af ["at","handed"])
  (mD:tL K af=true) (mE:tj K (.ref af)=true)
  (jr:MH K af "__init__" "Call.__init__" ZU)
  (jJ:sY K ti "Let"=Z (Z (.ref ax))) (oy:CH K ax)
  (aB:FN K ax ["target","value","test"])
  (nI:tL K ax=true) (nJ:tj K (.ref ax)=true)
  (rV:t6 K (.ref ax) "__init__"=Z (Z (.ref lJ))) (rW:vk K (.ref lJ)=true) (oY:K.lookup lJ=Z ⟨re,qO,.func (tS "__init__" "Let.__init__" (yd xO) (zS xO) (zf xO) (.ref qI) rg rh rj qP oN rm),qW⟩) (oZ:ur K oN "Let.__init__"=true) (o3:tj K (.ref lJ)=true)
  (nP:K.lookup qI=Z ⟨pT,pU,.seq #[.none] rP,pV⟩)
  (fZ:MH K ax "many_of" "Let.many_of" x8)
  (dW:sY K ti "Put"=Z (Z (.ref au))) (oz:CH K au)
  (ap:FN K au ["target","value","place","many","test"])
  (nQ:tL K au=true) (nR:tj K (.ref au)=true)
  (rX:t6 K (.ref au) "__init__"=Z (Z (.ref lL))) (rY:vk K (.ref lL)=true) (o4:K.lookup lL=Z ⟨rn,qQ,.func (tS "__init__" "Put.__init__" (yd xN) (zS xN) (zf xN) (.ref qJ) rp rA rB qR oO rD),qX⟩) (o5:ur K oO "Put.__init__"=true) (o7:tj K (.ref lL)=true)
  (nU:K.lookup qJ=Z ⟨pW,pX,.seq #[.none] rQ,pY⟩)
  (f7:MH K au "many_of" "Put.many_of" x5)
  (cn:sY K ti "Fold"=Z (Z (.ref am))) (nW:CH K am)
  (ao:FN K am ["target","fold","value","many","test"])
  (mF:tL K am=true) (mG:tj K (.ref am)=true)
  (rZ:t6 K (.ref am) "__init__"=Z (Z (.ref lM))) (r6:vk K (.ref lM)=true) (o8:K.lookup lM=Z ⟨rE,qS,.func (tS "__init__" "Fold.__init__" (yd xr) (zS xr) (zf xr) (.ref qK) rF rG rH qT oP rJ),qY⟩) (o9:ur K oP "Fold.__init__"=true) (pi:tj K (.ref lM)=true)
  (nX:K.lookup qK=Z ⟨pZ,p7,.seq #[.none] rR,p8⟩)
  (dX:MH K am "many_of" "Fold.many_of" xD)
  (b8:sY K ti "Running"=Z (Z (.ref ae))) (js:CH K ae)
  (ak:FN K ae ["target","fold","value","test"])
  (gW:tL K ae=true) (gX:tj K (.ref ae)=true)
  (r8:t6 K (.ref ae) "__init__"=Z (Z (.ref lN))) (se:vk K (.ref lN)=true) (pj:K.lookup lN=Z ⟨rK,qU,.func (tS "__init__" "Running.__init__" (yd yC) (zS yC) (zf yC) (.ref qL) rL rM rN qV oQ rO),qZ⟩) (pq:ur K oQ "Running.__init__"=true) (py:tj K (.ref lN)=true)
  (nY:K.lookup qL=Z ⟨p9,qA,.seq #[.none] rS,qB⟩)
  (bX:MH K ae "many_of" "Running.many_of" yN)
  (cq:sY K ti "Till"=Z (Z (.ref ar))) (nZ:CH K ar)
  (aJ:FN K ar ["target","most","steps"])
  (mH:tL K ar=true) (mI:tj K (.ref ar)=true)
  (jt:MH K ar "__init__" "Till.__init__" ZR)
  (ju:sY K ti "Reading"=Z (Z (.ref aw))) (jv:CH K aw)
  (az:FN K aw ["line","words","rows","heads","own","passed","brackets"])
  (gY:tL K aw=true) (gZ:tj K (.ref aw)=true)
  (dY:MH K aw "__init__" "Reading.__init__" xB)
  (bG:MH K aw "has_more" "Reading.has_more" yG)
  (bD:MH K aw "next_word" "Reading.next_word" yA)
  (mJ:sY K ti "Draft"=Z (Z (.ref aG))) (mK:CH K aG)
  (aC:FN K aG ["rows","lengths","heads","functions","tills","levels","lines"])
  (kL:tL K aG=true) (kM:tj K (.ref aG)=true)
  (g4:MH K aG "__init__" "Draft.__init__" Zu)
  (kN:sY K ti "Source"=Z (Z (.ref aE))) (kO:CH K aE)
  (aF:FN K aE ["program","names","lines"])
  (jw:tL K aE=true) (jx:tj K (.ref aE)=true)
  (f9:MH K aE "__init__" "Source.__init__" x4)
  (jy:sY K ti "Program"=Z (Z (.ref aA))) (jz:CH K aA)
  (aW:FN K aA ["lengths","functions","steps"])
  (g5:tL K aA=true) (g6:tj K (.ref aA)=true)
  (dZ:MH K aA "__init__" "Program.__init__" xC)
  (k5:sC K (.type "int") (.type "int")=Z true)
  (k6:sC K (.type "int") (.type "bool")=Z false)
  (tb1:TN K ti ["isinstance","int","bool","max","len","range","list","str","any","all","enumerate"])
  (tb2:TB K ti [("Form",CF),("Step",CS),("KEPT_WORDS",TK),("SIGNS",S),("LINES",aL),("FREE_FOLDS",aFF),("ORDERED_FOLDS",aOF)])
  (eW:t6 K (.ref aj) "__class__"=Z (Z (.builtin "object.__class__")))
  (eX:tP K (.builtin "object.__class__") "__get__"=Z (Z (.builtin "getset_descriptor.__get__")))
  (eY:tT K (.builtin "object.__class__")=Z true)
  (eZ:u9 K aj (.type "object")=Z true)
  (jK:t6 K (.ref aq) "__class__"=Z (Z (.builtin "object.__class__")))
  (jL:tP K (.builtin "object.__class__") "__get__"=Z (Z (.builtin "getset_descriptor.__get__")))
  (jM:tT K (.builtin "object.__class__")=Z true)
  (jN:u9 K aq (.type "object")=Z true)
  (jO:t6 K (.ref ag) "__class__"=Z (Z (.builtin "object.__class__")))
  (jP:tP K (.builtin "object.__class__") "__get__"=Z (Z (.builtin "getset_descriptor.__get__")))
  (jQ:tT K (.builtin "object.__class__")=Z true)
  (jR:u9 K ag (.type "object")=Z true)
  (cL:t6 K (.ref aa) "__class__"=Z (Z (.builtin "object.__class__")))
  (cM:tP K (.builtin "object.__class__") "__get__"=Z (Z (.builtin "getset_descriptor.__get__")))
  (cN:tT K (.builtin "object.__class__")=Z true)
  (cO:u9 K aa (.type "object")=Z true)
  (g7:t6 K (.ref al) "__class__"=Z (Z (.builtin "object.__class__")))
  (g8:tP K (.builtin "object.__class__") "__get__"=Z (Z (.builtin "getset_descriptor.__get__")))
  (g9:tT K (.builtin "object.__class__")=Z true)
  (hC:u9 K al (.type "object")=Z true)
  (oj:t6 K (.ref av) "__class__"=Z (Z (.builtin "object.__class__")))
  (om:tP K (.builtin "object.__class__") "__get__"=Z (Z (.builtin "getset_descriptor.__get__")))
  (oo:tT K (.builtin "object.__class__")=Z true)
  (oq:u9 K av (.type "object")=Z true)
  (jS:t6 K (.ref ai) "__class__"=Z (Z (.builtin "object.__class__")))
  (jT:tP K (.builtin "object.__class__") "__get__"=Z (Z (.builtin "getset_descriptor.__get__")))
  (jU:tT K (.builtin "object.__class__")=Z true)
  (jV:u9 K ai (.type "object")=Z true)
  (fe:t6 K (.ref ac) "__class__"=Z (Z (.builtin "object.__class__")))
  (fg:tP K (.builtin "object.__class__") "__get__"=Z (Z (.builtin "getset_descriptor.__get__")))
  (fi:tT K (.builtin "object.__class__")=Z true)
  (fj:u9 K ac (.type "object")=Z true)
  (jW:t6 K (.ref af) "__class__"=Z (Z (.builtin "object.__class__")))
  (jX:tP K (.builtin "object.__class__") "__get__"=Z (Z (.builtin "getset_descriptor.__get__")))
  (jY:tT K (.builtin "object.__class__")=Z true)
  (jZ:u9 K af (.type "object")=Z true)
  (mL:t6 K (.ref ax) "__class__"=Z (Z (.builtin "object.__class__")))
  (mM:tP K (.builtin "object.__class__") "__get__"=Z (Z (.builtin "getset_descriptor.__get__")))
  (mO:tT K (.builtin "object.__class__")=Z true)
  (mP:u9 K ax (.type "object")=Z true)
  (mQ:t6 K (.ref au) "__class__"=Z (Z (.builtin "object.__class__")))
  (mR:tP K (.builtin "object.__class__") "__get__"=Z (Z (.builtin "getset_descriptor.__get__")))
  (mS:tT K (.builtin "object.__class__")=Z true)
  (mT:u9 K au (.type "object")=Z true)
  (j4:t6 K (.ref am) "__class__"=Z (Z (.builtin "object.__class__")))
  (j5:tP K (.builtin "object.__class__") "__get__"=Z (Z (.builtin "getset_descriptor.__get__")))
  (j6:tT K (.builtin "object.__class__")=Z true)
  (j7:u9 K am (.type "object")=Z true)
  (cP:t6 K (.ref ae) "__class__"=Z (Z (.builtin "object.__class__")))
  (cQ:tP K (.builtin "object.__class__") "__get__"=Z (Z (.builtin "getset_descriptor.__get__")))
  (cS:tT K (.builtin "object.__class__")=Z true)
  (cT:u9 K ae (.type "object")=Z true)
  (j8:t6 K (.ref ar) "__class__"=Z (Z (.builtin "object.__class__")))
  (j9:tP K (.builtin "object.__class__") "__get__"=Z (Z (.builtin "getset_descriptor.__get__")))
  (ka:tT K (.builtin "object.__class__")=Z true)
  (kc:u9 K ar (.type "object")=Z true)
  (bH:sC K (.ref aj) (.ref av)=Z false)
  (d3:sC K (.ref aj) (.ref ai)=Z false)
  (cu:sC K (.ref aj) (.ref ac)=Z false)
  (d4:sC K (.ref aj) (.ref af)=Z false)
  (d5:sC K (.ref aj) (.ref ag)=Z false)
  (bY:sC K (.ref aj) (.ref aa)=Z false)
  (mU:sC K (.ref aj) (.ref aj)=Z true)
  (mV:sC K (.ref aj) (.ref CF)=Z true)
  (cU:sC K (.ref aq) (.ref av)=Z false)
  (hE:sC K (.ref aq) (.ref ai)=Z false)
  (d6:sC K (.ref aq) (.ref ac)=Z false)
  (hG:sC K (.ref aq) (.ref af)=Z false)
  (hJ:sC K (.ref aq) (.ref ag)=Z false)
  (cV:sC K (.ref aq) (.ref aa)=Z false)
  (oA:sC K (.ref aq) (.ref aq)=Z true)
  (oB:sC K (.ref aq) (.ref CF)=Z true)
  (cW:sC K (.ref ag) (.ref av)=Z false)
  (hX:sC K (.ref ag) (.ref ai)=Z false)
  (d8:sC K (.ref ag) (.ref ac)=Z false)
  (hZ:sC K (.ref ag) (.ref af)=Z false)
  (bI:sC K (.ref ag) (.ref ag)=Z true)
  (cX:sC K (.ref ag) (.ref aa)=Z false)
  (oC:sC K (.ref ag) (.ref CF)=Z true)
  (bB:sC K (.ref aa) (.ref av)=Z false)
  (cY:sC K (.ref aa) (.ref ai)=Z false)
  (bZ:sC K (.ref aa) (.ref ac)=Z false)
  (cZ:sC K (.ref aa) (.ref af)=Z false)
  (c4:sC K (.ref aa) (.ref ag)=Z false)
  (aK:sC K (.ref aa) (.ref aa)=Z true)
  (kP:sC K (.ref aa) (.ref CF)=Z true)
  (b9:sC K (.ref al) (.ref av)=Z false)
  (gc:sC K (.ref al) (.ref ai)=Z false)
  (c5:sC K (.ref al) (.ref ac)=Z false)
  (gd:sC K (.ref al) (.ref af)=Z false)
  (gf:sC K (.ref al) (.ref ag)=Z false)
  (cw:sC K (.ref al) (.ref aa)=Z false)
  (n8:sC K (.ref al) (.ref al)=Z true)
  (oh:sC K (.ref al) (.ref CF)=Z true)
  (ia:sC K (.ref av) (.ref av)=Z true)
  (kQ:sC K (.ref av) (.ref ai)=Z false)
  (ie:sC K (.ref av) (.ref ac)=Z false)
  (kR:sC K (.ref av) (.ref af)=Z false)
  (kT:sC K (.ref av) (.ref ag)=Z false)
  (gg:sC K (.ref av) (.ref aa)=Z false)
  (qD:sC K (.ref av) (.ref CF)=Z true)
  (c6:sC K (.ref ai) (.ref av)=Z false)
  (ij:sC K (.ref ai) (.ref ai)=Z true)
  (d9:sC K (.ref ai) (.ref ac)=Z false)
  (ik:sC K (.ref ai) (.ref af)=Z false)
  (im:sC K (.ref ai) (.ref ag)=Z false)
  (c7:sC K (.ref ai) (.ref aa)=Z false)
  (oE:sC K (.ref ai) (.ref CF)=Z true)
  (bJ:sC K (.ref ac) (.ref av)=Z false)
  (ee:sC K (.ref ac) (.ref ai)=Z false)
  (cx:sC K (.ref ac) (.ref ac)=Z true)
  (eu:sC K (.ref ac) (.ref af)=Z false)
  (eA:sC K (.ref ac) (.ref ag)=Z false)
  (b6:sC K (.ref ac) (.ref aa)=Z false)
  (mW:sC K (.ref ac) (.ref CF)=Z true)
  (c8:sC K (.ref af) (.ref av)=Z false)
  (io:sC K (.ref af) (.ref ai)=Z false)
  (eB:sC K (.ref af) (.ref ac)=Z false)
  (ip:sC K (.ref af) (.ref af)=Z true)
  (ir:sC K (.ref af) (.ref ag)=Z false)
  (c9:sC K (.ref af) (.ref aa)=Z false)
  (oF:sC K (.ref af) (.ref CF)=Z true)
  (jA:sC K (.ref ax) (.ref ar)=Z false)
  (kU:sC K (.ref ax) (.ref au)=Z false)
  (jB:sC K (.ref ax) (.ref am)=Z false)
  (pA:sC K (.ref ax) (.ref ax)=Z true)
  (pD:sC K (.ref ax) (.ref CS)=Z true)
  (jC:sC K (.ref au) (.ref ar)=Z false)
  (db:sC K (.ref au) (.ref au)=Z true)
  (jD:sC K (.ref au) (.ref am)=Z false)
  (pE:sC K (.ref au) (.ref CS)=Z true)
  (iu:sC K (.ref am) (.ref ar)=Z false)
  (jE:sC K (.ref am) (.ref au)=Z false)
  (bL:sC K (.ref am) (.ref am)=Z true)
  (oG:sC K (.ref am) (.ref CS)=Z true)
  (df:sC K (.ref ae) (.ref ar)=Z false)
  (eE:sC K (.ref ae) (.ref au)=Z false)
  (dh:sC K (.ref ae) (.ref am)=Z false)
  (kW:sC K (.ref ae) (.ref ae)=Z true)
  (kX:sC K (.ref ae) (.ref CS)=Z true)
  (bM:sC K (.ref ar) (.ref ar)=Z true)
  (jF:sC K (.ref ar) (.ref au)=Z false)
  (iw:sC K (.ref ar) (.ref am)=Z false)
  (oH:sC K (.ref ar) (.ref CS)=Z true)
  (eF:sC K (.type "list") (.type "list")=Z true)
  (mX:sC K (.type "str") (.type "str")=Z true)
  (aH:sY K ti "HALF"=Z (Z (.int 9223372036854775808 tH)))
  (eG:sY K ti "LONGEST_NAME"=Z (Z (.int 12 dJ)))
  (eI:sY K ti "MOST_FIGURES"=Z (Z (.int 19 dL)))
  (dj:sY K ti "MOST_BRACKETS"=Z (Z (.int 30 cE)))
  (cy:sY K ti "FARTHEST_SHIFT"=Z (Z (.int 400 cf)))
  (jG:sY K ti "MOST_ROWS"=Z (Z (.int 12 iT)))
  (bN:sY K ti "MOST_CELLS"=Z (Z (.int 400 gG)))
  (ix:sY K ti "MOST_STEPS"=Z (Z (.int 40 gH)))
  (iy:sY K ti "MOST_TURNS"=Z (Z (.int 1000 gI)))
  (iz:sY K ti "MOST_TILLS"=Z (Z (.int 3 gJ)))
  (dm:sY K ti "GREATEST_SIZE"=Z (Z (.int 60 cF)))
  (cz:sY K ti "GREATEST_DEPTH"=Z (Z (.int 7 cg)))
  (mY:sY K ti "LETTERS"=Z (Z (.str "abcdefghijklmnopqrstuvwxyz" lO)))
  (mZ:sY K ti "FIGURES"=Z (Z (.str "0123456789" lP)))
  (lK:K.lookup TK=Z ⟨.type "tuple",Y,.seq #[.str "row" tK0,.str "def" tK1,.str "let" tK2,.str "put" tK3,.str "fold" tK4,.str "run" tK5,.str "till" tK6,.str "end" tK7,.str "at" tK8,.str "in" tK9,.str "of" tK10,.str "into" tK11,.str "where" tK12,.str "most" tK13,.str "here" tK14,.str "shift" tK15,.str "if" tK16,.str "rest" tK17,.str "least" tK18,.str "sum" tK19,.str "product" tK20,.str "both" tK21,.str "either" tK22,.str "odd" tK23,.str "chain" tK24,.str "capped" tK25] nK,#[]⟩)
  (lS:K.lookup S=Z ⟨.type "dict",Y,.dict es nS,#[]⟩)
  (kS:wc w.params es.toList)
  (loS:(S == uN)=false)
  (heS:es.toList.map keyS=signsL.map Z)
  (lLi:K.lookup aL=Z ⟨.type "dict",Y,.dict esL nL,#[]⟩)
  (kLi:wc w.params esL.toList)
  (loLi:(aL == uN)=false)
  (heLi:esL.toList.map keyS=linesL.map Z)
  (qM:K.lookup aFF=Z ⟨.type "dict",Y,.dict esF nF,#[]⟩)
  (sf:wc w.params esF.toList)
  (pF:(aFF == uN)=false)
  (pG:esF.toList.map keyS=freeL.map Z)
  (qN:K.lookup aOF=Z ⟨.type "dict",Y,.dict esO nO,#[]⟩)
  (si:wc w.params esO.toList)
  (pH:(aOF == uN)=false)
  (pI:esO.toList.map keyS=ordL.map Z)
  (tb3:TB K aL [("row",aX),("let",aY),("put",aZ),("fold",aO),("run",a6),("till",aQ),("end",a7)])
  : ∃ fd:uk,(∀ (s:Sh) (v:Vl),BindsTo s fd ⟨[v],[]⟩ [("_law_script",v)])/\∀ base:Heap,K.In base->base.Ns ti mg->FnOk l.prog w K mg base CX0 159 fa fd ["_law_script"] (spLaw K):=by
 obtain ⟨qE,sj,sk,pJ,pK,pM,pN,pO,pP,sn,qF,qG,qH⟩:=qC;have e:=hfa.symm.trans (PySem.W.mg_of X G qE);cases e;have jH:z7 K af "Call.__init__" ZU ["self","at","handed"]:=jr.i mD mE
 have kY:X7 K ax "Let.__init__" xO ["self","target","value","test"]:=⟨lJ,_,⟨nI,rV,rW,nJ⟩,(xp oY oZ o3 nP),(xp oY oZ o3 nP).binds (λ_ _ _ _ _ _ _ us hl=>by
  obtain ⟨a0,u0,rfl,e0⟩:=ucV (n:=3) (by simpa using hl);obtain ⟨a1,u1,rfl,e1⟩:=ucV e0;obtain ⟨a2,u2,rfl,e2⟩:=ucV e1;obtain ⟨a3,u3,rfl,e3⟩:=ucV e2;cases sW e3
  exact ⟨_,U,U⟩),(xp oY oZ o3 nP).binds (λ_ _ _ _ _ _ _ us hl=>by
  obtain ⟨a0,u0,rfl,e0⟩:=ucV (n:=2) (by simpa using hl);obtain ⟨a1,u1,rfl,e1⟩:=ucV e0;obtain ⟨a2,u2,rfl,e2⟩:=ucV e1;cases sW e2;exact ⟨_,U,U⟩)⟩
 have gk:xq K ax "many_of" "Let.many_of" x8 ["self","lengths"]:=fZ.m
 have kZ:X7 K au "Put.__init__" xN ["self","target","value","place","many","test"]:=⟨lL,_,⟨nQ,rX,rY,nR⟩,(xp o4 o5 o7 nU),(xp o4 o5 o7 nU).binds (λ_ _ _ _ _ _ _ us hl=>by
  obtain ⟨a0,u0,rfl,e0⟩:=ucV (n:=5) (by simpa using hl);obtain ⟨a1,u1,rfl,e1⟩:=ucV e0;obtain ⟨a2,u2,rfl,e2⟩:=ucV e1;obtain ⟨a3,u3,rfl,e3⟩:=ucV e2;obtain ⟨a4,u4,rfl,e4⟩:=ucV e3;obtain ⟨a5,u5,rfl,e5⟩:=ucV e4;cases sW e5
  exact ⟨_,U,U⟩),(xp o4 o5 o7 nU).binds (λ_ _ _ _ _ _ _ us hl=>by
  obtain ⟨a0,u0,rfl,e0⟩:=ucV (n:=4) (by simpa using hl);obtain ⟨a1,u1,rfl,e1⟩:=ucV e0;obtain ⟨a2,u2,rfl,e2⟩:=ucV e1;obtain ⟨a3,u3,rfl,e3⟩:=ucV e2;obtain ⟨a4,u4,rfl,e4⟩:=ucV e3;cases sW e4;exact ⟨_,U,U⟩)⟩
 have gm:xq K au "many_of" "Put.many_of" x5 ["self","lengths"]:=f7.m
 have jI:X7 K am "Fold.__init__" xr ["self","target","fold","value","many","test"]:=⟨lM,_,⟨mF,rZ,r6,mG⟩,(xp o8 o9 pi nX),(xp o8 o9 pi nX).binds (λ_ _ _ _ _ _ _ us hl=>by
  obtain ⟨a0,u0,rfl,e0⟩:=ucV (n:=5) (by simpa using hl);obtain ⟨a1,u1,rfl,e1⟩:=ucV e0;obtain ⟨a2,u2,rfl,e2⟩:=ucV e1;obtain ⟨a3,u3,rfl,e3⟩:=ucV e2;obtain ⟨a4,u4,rfl,e4⟩:=ucV e3;obtain ⟨a5,u5,rfl,e5⟩:=ucV e4;cases sW e5
  exact ⟨_,U,U⟩),(xp o8 o9 pi nX).binds (λ_ _ _ _ _ _ _ us hl=>by
  obtain ⟨a0,u0,rfl,e0⟩:=ucV (n:=4) (by simpa using hl);obtain ⟨a1,u1,rfl,e1⟩:=ucV e0;obtain ⟨a2,u2,rfl,e2⟩:=ucV e1;obtain ⟨a3,u3,rfl,e3⟩:=ucV e2;obtain ⟨a4,u4,rfl,e4⟩:=ucV e3;cases sW e4;exact ⟨_,U,U⟩)⟩
 have eJ:xq K am "many_of" "Fold.many_of" xD ["self","lengths"]:=dX.m
 have eK:X7 K ae "Running.__init__" yC ["self","target","fold","value","test"]:=⟨lN,_,⟨gW,r8,se,gX⟩,(xp pj pq py nY),(xp pj pq py nY).binds (λ_ _ _ _ _ _ _ us hl=>by
  obtain ⟨a0,u0,rfl,e0⟩:=ucV (n:=4) (by simpa using hl);obtain ⟨a1,u1,rfl,e1⟩:=ucV e0;obtain ⟨a2,u2,rfl,e2⟩:=ucV e1;obtain ⟨a3,u3,rfl,e3⟩:=ucV e2;obtain ⟨a4,u4,rfl,e4⟩:=ucV e3;cases sW e4
  exact ⟨_,U,U⟩),(xp pj pq py nY).binds (λ_ _ _ _ _ _ _ us hl=>by
  obtain ⟨a0,u0,rfl,e0⟩:=ucV (n:=3) (by simpa using hl);obtain ⟨a1,u1,rfl,e1⟩:=ucV e0;obtain ⟨a2,u2,rfl,e2⟩:=ucV e1;obtain ⟨a3,u3,rfl,e3⟩:=ucV e2;cases sW e3;exact ⟨_,U,U⟩)⟩
 have bQ:Cls K aj:=kG.c;have kg:Cls K aq:=nA.c;have eM:Cls K ag:=nC.c;have bz:Cls K aa:=jm.c;have cA:Cls K al:=mv.c;have k8:Cls K av:=oX.c;have eN:Cls K ai:=nG.c;have bR:Cls K ac:=kK.c;have eO:Cls K af:=nH.c;have dn:Cls K ax:=oy.c;have dq:Cls K au:=oz.c;have bU:Cls K am:=nW.c;have aN:Cls K ae:=js.c;have eQ:Cls K ar:=nZ.c;have k9:Cls K aw:=jv.c;have oi:Cls K aG:=mK.c;have fq:Cls K aE:=kO.c;have lh:Cls K aA:=jz.c;have mm:=λ{x:Str} {v:Vl} (q:sY K ti x=Z (Z v))=>PySem.W.mg_of X G q;have mz:=λ{x:Str} (q:sY K ti x=Z Y)=>PySem.W.mg_none_of X G q;refine ⟨tS "law" "law" (yd za1) (zS za1) (zf za1) .none pJ pK pM pN pO pP,λs v=>.of_eq rfl,λbase kb nb=>?_⟩;have N:Ints K mg:=⟨mz (tb1.g 0 rfl),mz (tb1.g 1 rfl),mz (tb1.g 2 rfl),k5,k6⟩;have WH:=ok_whole (P:=l.prog) (w:=w) (base:=base) (lZ.d X G) N;let c:F2.Cs:=⟨⟨aj,aq,ag,aa,al,av,ai,ac,0⟩,af⟩;have L:LooksK K c:=⟨⟨bQ,eW,eX,eY,eZ,bH,d3,cu,d4⟩,⟨kg,jK,jL,jM,jN,cU,hE,d6,hG⟩,⟨eM,jO,jP,jQ,jR,cW,hX,d8,hZ⟩,⟨bz,cL,cM,cN,cO,bB,cY,bZ,cZ⟩,⟨cA,g7,g8,g9,hC,b9,gc,c5,gd⟩,⟨k8,oj,om,oo,oq,ia,kQ,ie,kR⟩,⟨eN,jS,jT,jU,jV,c6,ij,d9,ik⟩,⟨bR,fe,fg,fi,fj,bJ,ee,cx,eu⟩,⟨eO,jW,jX,jY,jZ,c8,io,eB,ip⟩,(br.g 1 rfl),(aI.g 1 rfl),(aI.g 2 rfl),(aD.g 0 rfl),(aD.g 1 rfl),(aD.g 2 rfl),(bf.g 1 rfl),(bf.g 0 rfl)⟩;let q:ST.Scs:=⟨ax,au,am,ae,ar,CS⟩;have LK:LikeK K c CF:=⟨L,mU,oA,bI,aK,n8,mV,oB,oC,kP,oh,qD,oE,mW,oF,(b7.g 0 rfl),(bE.g 0 rfl),(cJ.g 0 rfl),(ay.g 0 rfl),(ay.g 1 rfl),(ay.g 2 rfl),(br.g 0 rfl),(aI.g 0 rfl)⟩;have LG:LikeG mg c CF:=⟨mm cI,mm gR,mm cj,mm eR,mm bj,mm cK,mm cm,mm aM,mm aV,mm (tb2.g 0 rfl)⟩;have IN:=zge (P:=l.prog) (w:=w) (mg:=mg) (base:=base) (fW.i ji jj) bQ (b7.g 0 rfl);have IC:=okI_Cell (P:=l.prog) (w:=w) (mg:=mg) (base:=base) (jk.i ms mt) eM (bE.g 0 rfl);have IH:=zey (P:=l.prog) (w:=w) (mg:=mg) (base:=base) (dU.i gS gT) bz (ay.g 0 rfl) (ay.g 1 rfl) (ay.g 2 rfl);have IL:=okI_Local (P:=l.prog) (w:=w) (mg:=mg) (base:=base) (gU.i kI kJ) cA (cJ.g 0 rfl);have IA:=okI_At (P:=l.prog) (w:=w) (mg:=mg) (base:=base) (mw.i ot ou) k8 (br.g 0 rfl) (br.g 1 rfl);have IP:=okI_Pair (P:=l.prog) (w:=w) (mg:=mg) (base:=base) (jn.i mB mC) eN (aI.g 0 rfl) (aI.g 1 rfl) (aI.g 2 rfl);have IO:=zgf (P:=l.prog) (w:=w) (mg:=mg) (base:=base) (fY.i jp jq) bR (aD.g 0 rfl) (aD.g 1 rfl) (aD.g 2 rfl);have ICa:=okI_Call (P:=l.prog) (w:=w) (mg:=mg) (base:=base) jH (mz (tb1.g 6 rfl)) eO (bf.g 0 rfl) (bf.g 1 rfl);have MH:MkN K aq:=⟨me,mn,mh⟩;have rC:RCls K aw:=⟨k9,(az.g 0 rfl),(az.g 1 rfl),(az.g 2 rfl),(az.g 3 rfl),(az.g 4 rfl),(az.g 5 rfl),(az.g 6 rfl)⟩;have dC:DCls K aG:=⟨oi,(aC.g 0 rfl),(aC.g 1 rfl),(aC.g 2 rfl),(aC.g 3 rfl),(aC.g 4 rfl),(aC.g 5 rfl),(aC.g 6 rfl)⟩;have pC:ProgC K aA:=⟨lh,(aW.g 0 rfl),(aW.g 1 rfl),(aW.g 2 rfl)⟩;have SC:SoC K aE aA:=⟨fq,(aF.g 0 rfl),(aF.g 2 rfl),pC⟩;have LS:LooksS K mg c q:=⟨(λk=>match k with | .let'=>⟨⟨dn,mL,mM,mO,mP⟩,jA,kU,jB⟩ | .put _ _=>⟨⟨dq,mQ,mR,mS,mT⟩,jC,db,jD⟩ | .fold _ _=>⟨⟨bU,j4,j5,j6,j7⟩,iu,jE,bL⟩ | .run _=>⟨⟨aN,cP,cQ,cS,cT⟩,df,eE,dh⟩),⟨⟨eQ,j8,j9,ka,kc⟩,bM,jF,iw⟩,(λk=>match k with | .let'=>(aB.g 1 rfl) | .put _ _=>(ap.g 1 rfl) | .fold _ _=>(ao.g 2 rfl) | .run _=>(ak.g 2 rfl)),(λk=>match k with | .let'=>(aB.g 2 rfl) | .put _ _=>(ap.g 4 rfl) | .fold _ _=>(ao.g 4 rfl) | .run _=>(ak.g 3 rfl)),(λk=>match k with | .let'=>(aB.g 0 rfl) | .put _ _=>(ap.g 0 rfl) | .fold _ _=>(ao.g 0 rfl) | .run _=>(ak.g 0 rfl)),(ap.g 2 rfl),(λF=>match F with | .num _=>⟨⟨bQ,eW,eX,eY,eZ⟩,d5,bY,bH⟩ | .here=>⟨⟨kg,jK,jL,jM,jN⟩,hJ,cV,cU⟩ | .cell _=>⟨⟨eM,jO,jP,jQ,jR⟩,bI,cX,cW⟩ | .shi _ _ _=>⟨⟨bz,cL,cM,cN,cO⟩,c4,aK,bB⟩ | .loc _=>⟨⟨cA,g7,g8,g9,hC⟩,gf,cw,b9⟩ | .at' _ _=>⟨⟨k8,oj,om,oo,oq⟩,kT,gg,ia⟩ | .pair _ _ _=>⟨⟨eN,jS,jT,jU,jV⟩,im,c7,c6⟩ | .cho _ _ _=>⟨⟨bR,fe,fg,fi,fj⟩,eA,b6,bJ⟩ | .call _ _=>⟨⟨eO,jW,jX,jY,jZ⟩,ir,c9,c8⟩)
  ,(bE.g 0 rfl),(ay.g 0 rfl),(br.g 0 rfl),mm cK,mm cj,mm bj,mm dW,mm cn,mm cq⟩
 have SG2:StG mg q:=⟨mm jJ,mm dW,mm cn,mm b8,mm cq,mm (tb2.g 1 rfl)⟩;have SK:StK K q:=⟨(λk=>match k with | .let'=>⟨dn,mL,mM,mO,mP⟩ | .put _ _=>⟨dq,mQ,mR,mS,mT⟩ | .fold _ _=>⟨bU,j4,j5,j6,j7⟩ | .run _=>⟨aN,cP,cQ,cS,cT⟩),(λk=>match k with | .let'=>pA | .put _ _=>db | .fold _ _=>bL | .run _=>kW),(λk=>match k with | .let'=>pD | .put _ _=>pE | .fold _ _=>oG | .run _=>kX),(λk=>match k with | .let'=>(aB.g 1 rfl) | .put _ _=>(ap.g 1 rfl) | .fold _ _=>(ao.g 2 rfl) | .run _=>(ak.g 2 rfl)),(λk=>match k with | .let'=>(aB.g 2 rfl) | .put _ _=>(ap.g 4 rfl) | .fold _ _=>(ao.g 4 rfl) | .run _=>(ak.g 3 rfl)),(λk=>match k with | .let'=>(aB.g 0 rfl) | .put _ _=>(ap.g 0 rfl) | .fold _ _=>(ao.g 0 rfl) | .run _=>(ak.g 0 rfl)),(ap.g 2 rfl),(ap.g 3 rfl),(ao.g 3 rfl),(ao.g 1 rfl),(ak.g 1 rfl),⟨eQ,j8,j9,ka,kc⟩,bM,oH,(aJ.g 0 rfl),(aJ.g 1 rfl),(aJ.g 2 rfl)⟩;have IT:=okI_Till (P:=l.prog) (w:=w) (mg:=mg) (base:=base) (jt.i mH mI) (mz (tb1.g 6 rfl)) eQ (aJ.g 0 rfl) (aJ.g 1 rfl) (aJ.g 2 rfl);have I1:=okN_Let (P:=l.prog) (w:=w) (mg:=mg) (base:=base) kY dn (aB.g 0 rfl) (aB.g 1 rfl) (aB.g 2 rfl);have I2:=okN_Put (P:=l.prog) (w:=w) (mg:=mg) (base:=base) kZ dq (ap.g 0 rfl) (ap.g 1 rfl) (ap.g 2 rfl) (ap.g 3 rfl) (ap.g 4 rfl);have I3:=okN_Fold (P:=l.prog) (w:=w) (mg:=mg) (base:=base) jI bU (ao.g 0 rfl) (ao.g 1 rfl) (ao.g 2 rfl) (ao.g 3 rfl) (ao.g 4 rfl);have I4:=zex (P:=l.prog) (w:=w) (mg:=mg) (base:=base) eK aN (ak.g 0 rfl) (ak.g 1 rfl) (ak.g 2 rfl) (ak.g 3 rfl)
 have MNY:ManyK l.prog w K mg base q:=λkd=>match kd with
  | .let'=>many_Let (q:=q) gk dn (aB.g 0 rfl)
  | .put pf mm=>many_Put (q:=q) gm dq (ap.g 3 rfl) pf mm
  | .fold ff mm=>many_Fold (q:=q) eJ bU (ao.g 3 rfl) ff mm
  | .run ff=>zd0 (q:=q) bX.m aN (ak.g 0 rfl) ff
 have TFF:TopHas w K mg "FREE_FOLDS" aFF freeL:=⟨mm (tb2.g 5 rfl),⟨esF,nF,qM,sf⟩,pF,zaf qM pG⟩;have TOF:TopHas w K mg "ORDERED_FOLDS" aOF ordL:=⟨mm (tb2.g 6 rfl),⟨esO,nO,qN,si⟩,pH,zaf qN pI⟩;have TS:TopHas w K mg "SIGNS" S signsL:=⟨mm (tb2.g 3 rfl),⟨es,nS,lS,kS⟩,loS,zaf lS heS⟩;have TL:TopHas w K mg "LINES" aL linesL:=⟨mm (tb2.g 4 rfl),⟨esL,nL,lLi,kLi⟩,loLi,zaf lLi heLi⟩;have hkw:∀ H,SqT K H TK (keptWs.map V.str):=λH=>.inr ⟨_,_,_,lK,U,U,(by show 26<=sL;decide),.cons ⟨_,U⟩ (.cons ⟨_,U⟩ (.cons ⟨_,U⟩ (.cons ⟨_,U⟩ (.cons ⟨_,U⟩ (.cons ⟨_,U⟩ (.cons ⟨_,U⟩ (.cons ⟨_,U⟩ (.cons ⟨_,U⟩ (.cons ⟨_,U⟩ (.cons ⟨_,U⟩ (.cons ⟨_,U⟩ (.cons ⟨_,U⟩ (.cons ⟨_,U⟩ (.cons ⟨_,U⟩ (.cons ⟨_,U⟩ (.cons ⟨_,U⟩ (.cons ⟨_,U⟩ (.cons ⟨_,U⟩ (.cons ⟨_,U⟩ (.cons ⟨_,U⟩ (.cons ⟨_,U⟩ (.cons ⟨_,U⟩ (.cons ⟨_,U⟩ (.cons ⟨_,U⟩ (.cons ⟨_,U⟩ .nil)))))))))))))))))))))))))⟩;have PO:=ok_parts (P:=l.prog) (w:=w) (base:=base) (c:=c) (kB.d X G) (mz (tb1.g 0 rfl)) (mz (tb1.g 6 rfl)) (mm cK) (mm cm) (mm aM) (mm aV) L;have WI:=ok_within (c:=c) (dO.d X G) (mz (tb1.g 4 rfl)) PO;have SO:=ok_so (c:=c) (lW.d X G) (all_sw (i3.d X G) (i4.d X G) (mz (tb1.g 0 rfl)) (mm aV) L WI 8);have DO:=ok_do (c:=c) (kD.d X G) (all_dw (gO.d X G) (gP.d X G) (mz (tb1.g 0 rfl)) (mm aV) L (mz (tb1.g 4 rfl)) (mz (tb1.g 3 rfl)) (mm aM) PO 8);have KP:=ok_kept (P:=l.prog) (w:=w) (base:=base) (oS.d X G) (mm aH);have SG:=zf5 (P:=l.prog) (w:=w) (base:=base) (lQ.d X G) TS;have WO:=ok_words (P:=l.prog) (w:=w) (base:=base) (ky.d X G);have MO:=zf2 (P:=l.prog) (w:=w) (base:=base) (gK.d X G) (mz (tb1.g 9 rfl));have FO:=ok_figs (P:=l.prog) (w:=w) (base:=base) (gL.d X G);have NM:=zf6 (P:=l.prog) (w:=w) (base:=base) (lU.d X G) (mz (tb1.g 4 rfl)) (mm mY) (mm eG) (mm (tb2.g 2 rfl)) hkw MO;have WR:=ok_wr (P:=l.prog) (w:=w) (base:=base) (bi.d X G) (mz (tb1.g 4 rfl)) (mm mZ) (mm eI) FO MO;have NI:=zdq (P:=l.prog) (w:=w) (base:=base) (iU.d X G) (mz (tb1.g 1 rfl)) WR KP;have HM:=zev (P:=l.prog) (w:=w) (base:=base) bG.m rC (mz (tb1.g 4 rfl));have NW:=zds (P:=l.prog) (w:=w) (base:=base) bD.m rC HM;have RW:=zdj (P:=l.prog) (w:=w) (base:=base) (iV.d X G) rC NW;have LE:=zet (P:=l.prog) (w:=w) (base:=base) (cG.d X G) rC HM;have RN:=zdm (P:=l.prog) (w:=w) (base:=base) (iW.d X G) rC NW NM;have NU:=za7 (P:=l.prog) (w:=w) (base:=base) (fK.d X G) rC NW NI;have RR:=zeq (P:=l.prog) (w:=w) (base:=base) (kz.d X G) rC RN;have NF:=zbz (c:=c) (gN.d X G) rC (mm cj) (mm eR) IC IL;have RSH:=zad (c:=c) (dM.d X G) (mm cy) (mm aH) (mm bj) IH RR NU;have RF:=YU (c:=c) (iZ.d X G) (gM.d X G) (iX.d X G) (fL.d X G) (iY.d X G) (lV.d X G) (bp.d X G) (dN.d X G) rC MH (mz (tb1.g 4 rfl)) (mm dj) (mm gR) (mm cI) (mm cm) (mm aM) (mm aV) (mm cK) IN IP IO ICa IA NW NM NI NF SG RW RR RSH 30;have WT:=za6 (P:=l.prog) (w:=w) (base:=base) (bx.d X G) (mz (tb1.g 4 rfl));have RT:=ok_taken (P:=l.prog) (w:=w) (base:=base) (dQ.d X G) rC;have NN:=zes (cH.d X G) RN RT;have RL:=zep (c:=c) (a8.d X G) (mz (tb1.g 4 rfl)) (mm bN) (mm jG) WT NN NU LE;have CK:=ok_check (c:=c) (fM.d X G) (mz (tb1.g 8 rfl)) (mm dm) (mm cz) SO DO;have FO:=zga (P:=l.prog) (w:=w) (base:=base) (c:=c) (q:=q) (kE.d X G) (mz (tb1.g 0 rfl)) LS;have UF:=ok_uf (c:=c) (q:=q) (ci.d X G) (mz (tb1.g 0 rfl)) LS WI;have UN:=ok_uneven (c:=c) (q:=q) (nj.d X G) (mz (tb1.g 0 rfl)) (mz (tb1.g 8 rfl)) LS FO MNY UF;have MC:=ok_mc (P:=l.prog) (w:=w) (base:=base) (c:=c) (q:=q) (i5.d X G) (mz (tb1.g 0 rfl)) LS;have XF:=ok_xf (c:=c) (q:=q) (bW.d X G) LS WI MC;have CR:=λn=>zgb (c:=c) (q:=q) (n:=n) (lX.d X G) (mz (tb1.g 0 rfl)) (mz (tb1.g 8 rfl)) LS FO XF;have FRW:=ok_freeW (P:=l.prog) (w:=w) (base:=base) (oU.d X G) TFF;have ISF:=zf7 (lR.d X G) TOF FRW;have RFO:=zdo (i7.d X G) rC NW ISF;have RMA:=zdn (i8.d X G) (mm bN) RW NU;have FUR:=zf9 (P:=l.prog) (w:=w) (base:=base) (bq.d X G) (mz (tb1.g 4 rfl)) (mm ix);have RTE:=zdk (c:=c) (i6.d X G) rC HM RW RF LE;have TKS:=ok_take (c:=c) (q:=q) (i9.d X G) FUR CK FO UN CR;have L1:=zeu (q:=q) (a9.d X G) rC (mm jJ) I1.all RR RF RTE TKS;have L2':=zer (q:=q) (ba.d X G) rC (mm dW) I2.all RR RF RTE TKS RW RMA;have L3:=zdy (q:=q) (aT.d X G) rC (mm cn) I3.all RR RF RTE TKS RW RMA RFO;have L4:=zeo (q:=q) (bc.d X G) rC (mm b8) I4.all RR RF RTE TKS RW RFO;have L5:=zdi (c:=c) (aU.d X G) rC (mz (tb1.g 4 rfl)) (mm iy) (mm iz) RR RW NU LE FUR;have L6:=zew (q:=q) (be.d X G) rC (mz (tb1.g 4 rfl)) (mm cq) IT LE;have LR:=LineFn.of (k':=156) (tb3.g 0 rfl) (mm a8.1) RL (by decide)
 have LST:∀ wd∈([("let":Str),"put","fold","run"]),LineFn l.prog w K mg base aL 156 wd (spSt K aw c q wd):=λwd m=>by
  simp only [sM,tM,or_false] at m;rcases m with rfl | rfl | rfl | rfl
  .exact LineFn.of (tb3.g 1 rfl) (mm a9.1) L1 (sK _)
  .exact LineFn.of (tb3.g 2 rfl) (mm ba.1) L2' (sK _)
  .exact LineFn.of (tb3.g 3 rfl) (mm aT.1) L3 (sK _)
  .exact LineFn.of (tb3.g 4 rfl) (mm bc.1) L4 (sK _)
 have LTI:=LineFn.of (k':=156) (tb3.g 5 rfl) (mm aU.1) L5 (by decide);have LEN:=LineFn.of (k':=156) (tb3.g 6 rfl) (mm be.1) L6 (by decide);have RWS:=zbx (P:=l.prog) (w:=w) (base:=base) (k:=156) (by decide) (gQ.d X G) rC TL NW;have IRd:=okI_Rd (P:=l.prog) (w:=w) (mg:=mg) (base:=base) (dY.i gY gZ) rC;have IDr:=okI_Dr (P:=l.prog) (w:=w) (mg:=mg) (base:=base) (g4.i kL kM) dC;have IPr:=okI_ProgF (P:=l.prog) (w:=w) (mg:=mg) (base:=base) (dZ.i g5 g6) (mz (tb1.g 6 rfl)) pC;have ISo:=zgd (P:=l.prog) (w:=w) (mg:=mg) (base:=base) (f9.i jw jx) fq (aF.g 0 rfl) (aF.g 1 rfl) (aF.g 2 rfl);have RD:=ok_read (k:=156) (by decide) (oV.d X G) rC dC (mz (tb1.g 4 rfl)) (mz (tb1.g 6 rfl)) (mz (tb1.g 10 rfl)) (mm ju) (mm mJ) (mm jy) (mm kN) IRd IDr IPr ISo WO RWS;have MX:=ok_mixed (P:=l.prog) (w:=w) (base:=base) (lY.d X G);have SPC:=ok_spaced (kF.d X G) MX
 have NB:=zdr (P:=l.prog) (w:=w) (base:=base) (fN.d X G)
 have KWd:=zdw (P:=l.prog) (w:=w) (base:=base) (fO.d X G);have NK:=zdt (P:=l.prog) (w:=w) (base:=base) (fQ.d X G);have NB2:=zf1 (jc.d X G) (mz (tb1.g 4 rfl)) (mz (tb1.g 5 rfl)) MX KWd NK;have LF:=zf4 (jd.d X G) (mz (tb1.g 4 rfl)) (mz (tb1.g 7 rfl)) MX NB;have IS:=ok_is (oW.d X G) WH;have LL:=zdv (c:=c) (fR.d X G) (mz (tb1.g 0 rfl)) LG LK IS;have LI:=ok_like (c:=c) (nq.d X G) (mz (tb1.g 0 rfl)) (mz (tb1.g 6 rfl)) (mz (tb1.g 7 rfl)) (mz (tb1.g 4 rfl)) (mz (tb1.g 5 rfl)) eF mX LG LK IS LL 100 (by decide);have NS:=zf0 (je.d X G) (mz (tb1.g 5 rfl)) (mz (tb1.g 4 rfl)) (mz (tb1.g 0 rfl)) (mz (tb1.g 6 rfl)) eF IS;have LT2:=zdu (fS.d X G) LI;have FOL:=ok_fold (P:=l.prog) (w:=w) (base:=base) (ny.d X G) (mz (tb1.g 0 rfl)) (mz (tb1.g 7 rfl)) mX;have LSS:=zfn (c:=c) (q:=q) (fT.d X G) (dR.d X G) (mz (tb1.g 5 rfl)) (mz (tb1.g 4 rfl)) (mz (tb1.g 0 rfl)) (mz (tb1.g 6 rfl)) eF SG2 SK IS LI LT2 FOL 3;have LN:=ok_lined (l6.d X G) (mz (tb1.g 4 rfl)) SPC;have HBY:=zf8 (jf.d X G) (mz (tb1.g 4 rfl)) (mz (tb1.g 5 rfl)) (mz (tb1.g 1 rfl)) MX;have SBY:=zfx (P:=l.prog) (w:=w) (base:=base) (jg.d X G) (mz (tb1.g 7 rfl));have KST:=zdx (fV.d X G) (mz (tb1.g 4 rfl)) LN;have END:=ok_ended (md.d X G) LN;have ADD:=ok_added (l7.d X G) (mz (tb1.g 4 rfl)) (mz (tb1.g 5 rfl)) (mz (tb1.g 7 rfl)) MX LN END HBY LF SBY KST;have RBY:=zfy (jh.d X G) (mz (tb1.g 5 rfl)) (mz (tb1.g 7 rfl)) MX NB2 LN;exact ok_law (c:=c) (q:=q) (Xh (st:=za1) qF qG qH) (mz (tb1.g 4 rfl)) SC dC LR LST LTI LEN RBY ADD END RD LSS NS
def walk {l:PySem.W.OpenLaw} {q:tV} {loose:Jf} {XP:(J0)->Heap->Prop} {YP:World->Heap->Prop} {d:DefRec} {K:Params->Fg} (hn:l.most=Z 63) (hdf:d.params.defaults=[])
  (hY:∀ (w:World) (h:Heap),YP w h->(K w.params).In h)
  (F:∀ (w:World) (mg:J0) (fa:Ad) (h:Heap),(K w.params).In h->h.Ns ti mg->mg d.name=Z (.ref fa) ->
   ∃ fd:uk,(∀ (s:Sh) (u:Vl),BindsTo s fd ⟨[u],[]⟩ [("_law_script",u)])/\∀ base:Heap,(K w.params).In base->base.Ns ti mg->FnOk l.prog w (K w.params) mg base CX0 159 fa fd ["_law_script"] (spLaw (K w.params))) :
  PySem.W.WalkO q loose XP YP l.row.toRowW d [] (λf vs=>PySem.call f vs) :=
 L2.walk_of (n:=63) (k:=159) (x:="_law_script") (CX:=λ_=>CX0) (sp:=λw=>spLaw (K w.params)) hn (by decide) hdf ⟨U,by decide,by decide⟩ hY F (λ_ _ a ns hl _ hS=>⟨a,ns,U,hS,hl,λ_=>rfl⟩) λ_ _ _ _ _ z=>z
end K23
open PySem PySem.W PyProof.Rows
set_option maxRecDepth 100000 in
set_option maxHeartbeats 0 in
theorem PySem.Challenge.cw_rowbreadth_k23_steps_read_holds : PySem.Challenge.rw_rowbreadth_k23_steps_read.Holds := by
 refine K23hd ?_
 k_fill
 refine K23.walk (l:=vd) rfl rfl (λw h Y0_=>Y0_) ?F
 case F =>
  intro w mg fa h KX G hmg
  refine' K23.all_mk KX G hmg ?q0 ?q1 ?q2 ?q3 ?q4 ?q5 ?q6 ?q7 ?q8 ?q9 ?qa ?qb ?qc ?qd ?qe ?qf ?qg ?qh ?qi ?qj ?qk ?ql ?qm ?qn ?qo ?qp ?qq ?qr ?qs ?qt ?qu ?qv ?qw ?qx ?qy ?qz ?q10 ?q11 ?q12 ?q13 ?q14 ?q15 ?q16 ?q17 ?q18 ?q19 ?q1a ?q1b ?q1c ?q1d ?q1e ?q1f ?q1g ?q1h ?q1i ?q1j ?q1k ?q1l ?q1m ?q1n ?q1o ?q1p ?q1q ?q1r ?q1s ?q1t ?q1u ?q1v ?q1w ?q1x ?q1y ?q1z ?q20 ?q21 ?q22 ?q23 ?q24 ?q25 ?q26 ?q27 ?q28 ?q29 ?q2a ?q2b ?q2c ?q2d ?q2e ?q2f ?q2g ?q2h ?q2i ?q2j ?q2k ?q2l ?q2m ?q2n ?q2o ?q2p ?q2q ?q2r ?q2s ?q2t ?q2u ?q2v ?q2w ?q2x ?q2y ?q2z ?q30 ?q31 ?q32 ?q33 ?q34 ?q35 ?q36 ?q37 ?q38 ?q39 ?q3a ?q3b ?q3c ?q3d ?q3e ?q3f ?q3g ?q3h ?q3i ?q3j ?q3k ?q3l ?q3m ?q3n ?q3o ?q3p ?q3q ?q3r ?q3s ?q3t ?q3u ?q3v ?q3w ?q3x ?q3y ?q3z ?q40 ?q41 ?q42 ?q43 ?q44 ?q45 ?q46 ?q47 ?q48 ?q49 ?q4a ?q4b ?q4c ?q4d ?q4e ?q4f ?q4g ?q4h ?q4i ?q4j ?q4k ?q4l ?q4m ?q4n ?q4o ?q4p ?q4q ?q4r ?q4s ?q4t ?q4u ?q4v ?q4w ?q4x ?q4y ?q4z ?q50 ?q51 ?q52 ?q53 ?q54 ?q55 ?q56 ?q57 ?q58 ?q59 ?q5a ?q5b ?q5c ?q5d ?q5e ?q5f ?q5g ?q5h ?q5i ?q5j ?q5k ?q5l ?q5m ?q5n ?q5o ?q5p ?q5q ?q5r ?q5s ?q5t ?q5u ?q5v ?q5w ?q5x ?q5y ?q5z ?q60 ?q61 ?q62 ?q63 ?q64 ?q65 ?q66 ?q67 ?q68 ?q69 ?q6a ?q6b ?q6c ?q6d ?q6e ?q6f ?q6g ?q6h ?q6i ?q6j ?q6k ?q6l ?q6m ?q6n ?q6o ?q6p ?q6q ?q6r ?q6s ?q6t ?q6u ?q6v ?q6w ?q6x ?q6y ?q6z ?q70 ?q71 ?q72 ?q73 ?q74 ?q75 ?q76 ?q77 ?q78 ?q79 ?q7a ?q7b ?q7c ?q7d ?q7e ?q7f ?q7g ?q7h ?q7i ?q7j ?q7k ?q7l ?q7m ?q7n ?q7o ?q7p ?q7q ?q7r ?q7s ?q7t ?q7u ?q7v ?q7w ?q7x ?q7y ?q7z ?q80 ?q81 ?q82 ?q83 ?q84 ?q85 ?q86 ?q87 ?q88 ?q89 ?q8a ?q8b ?q8c ?q8d ?q8e ?q8f ?q8g ?q8h ?q8i ?q8j ?q8k ?q8l ?q8m ?q8n ?q8o ?q8p ?q8q ?q8r ?q8s ?q8t ?q8u ?q8v ?q8w ?q8x ?q8y ?q8z ?q90 ?q91 ?q92 ?q93 ?q94 ?q95 ?q96 ?q97 ?q98 ?q99 ?q9a ?q9b ?q9c ?q9d ?q9e ?q9f ?q9g ?q9h ?q9i ?q9j ?q9k ?q9l ?q9m ?q9n ?q9o ?q9p ?q9q ?q9r ?q9s ?q9t ?q9u ?q9v ?q9w ?q9x ?q9y ?q9z ?qa0 ?qa1 ?qa2 ?qa3 ?qa4 ?qa5 ?qa6 ?qa7 ?qa8 ?qa9 ?qaa ?qab ?qac ?qad ?qae ?qaf ?qag ?qah ?qai ?qaj ?qak ?qal ?qam ?qan ?qao ?qap ?qaq ?qar ?qas ?qat ?qau ?qav ?qaw ?qax ?qay ?qaz
  (case q0 | q1 | q2 | q3 | q4 | q5 | q6 | q7 | q8 | q9 | qa | qb | qc | qd | qe | qf | qg | qh | qi | qj | qk | ql | qm | qn | qo | qp | qq | qr | qs | qt | qu | qv | qw | qx | qy | qz | q10 | q11 | q12 | q13=>(refine' L2.DH.mk ?a ?b ?c ?d;(case a=>k_is);(case b=>k_is);(case c=>k_is);(case d=>k_is)))
  (case q14 | q15 | q16 | q17 | q18 | q19 | q1a | q1b | q1c | q1d | q1e | q1f | q1g | q1h | q1i | q1j | q1k | q1l | q1m | q1n | q1o | q1p | q1q | q1r | q1s | q1t | q1u | q1v | q1w | q1x | q1y | q1z | q20 | q21 | q22 | q23 | q24 | q25 | q26 | q27=>(refine' L2.DH.mk ?a ?b ?c ?d;(case a=>k_is);(case b=>k_is);(case c=>k_is);(case d=>k_is)))
  (case q28=>(refine' L2.DH.mk ?a ?b ?c ?d;(case a=>k_is);(case b=>k_is);(case c=>k_is);(case d=>k_is)))
  (case q29=>k_is)
  (case q2a=>(refine ⟨?_,?_,?_,?_⟩ <;> k_is))
  (case q2b=>(repeat' first | exact trivial | refine uO ?_ ?_ | k_is))
  (case q2c | q2d=>k_is)
  (case q2e=>(refine' L2.MH.mk ?a ?b ?c ?d ?e;(case a=>k_is);(case b=>k_is);(case c=>k_is);(case d=>k_is);(case e=>k_is)))
  (case q2f=>k_is)
  (case q2g=>(refine ⟨?_,?_,?_,?_⟩ <;> k_is))
  (case q2h | q2i | q2j | q2k=>k_is)
  (case q2l=>(refine ⟨?_,?_,?_,?_⟩ <;> k_is))
  (case q2m=>(repeat' first | exact trivial | refine uO ?_ ?_ | k_is))
  (case q2n | q2o=>k_is)
  (case q2p=>(refine' L2.MH.mk ?a ?b ?c ?d ?e;(case a=>k_is);(case b=>k_is);(case c=>k_is);(case d=>k_is);(case e=>k_is)))
  (case q2q=>k_is)
  (case q2r=>(refine ⟨?_,?_,?_,?_⟩ <;> k_is))
  (case q2s=>(repeat' first | exact trivial | refine uO ?_ ?_ | k_is))
  (case q2t | q2u=>k_is)
  (case q2v=>(refine' L2.MH.mk ?a ?b ?c ?d ?e;(case a=>k_is);(case b=>k_is);(case c=>k_is);(case d=>k_is);(case e=>k_is)))
  (case q2w=>k_is)
  (case q2x=>(refine ⟨?_,?_,?_,?_⟩ <;> k_is))
  (case q2y=>(repeat' first | exact trivial | refine uO ?_ ?_ | k_is))
  (case q2z | q30=>k_is)
  (case q31=>(refine' L2.MH.mk ?a ?b ?c ?d ?e;(case a=>k_is);(case b=>k_is);(case c=>k_is);(case d=>k_is);(case e=>k_is)))
  (case q32=>k_is)
  (case q33=>(refine ⟨?_,?_,?_,?_⟩ <;> k_is))
  (case q34=>(repeat' first | exact trivial | refine uO ?_ ?_ | k_is))
  (case q35 | q36=>k_is)
  (case q37=>(refine' L2.MH.mk ?a ?b ?c ?d ?e;(case a=>k_is);(case b=>k_is);(case c=>k_is);(case d=>k_is);(case e=>k_is)))
  (case q38=>k_is)
  (case q39=>(refine ⟨?_,?_,?_,?_⟩ <;> k_is))
  (case q3a=>(repeat' first | exact trivial | refine uO ?_ ?_ | k_is))
  (case q3b | q3c=>k_is)
  (case q3d=>(refine' L2.MH.mk ?a ?b ?c ?d ?e;(case a=>k_is);(case b=>k_is);(case c=>k_is);(case d=>k_is);(case e=>k_is)))
  (case q3e=>k_is)
  (case q3f=>(refine ⟨?_,?_,?_,?_⟩ <;> k_is))
  (case q3g=>(repeat' first | exact trivial | refine uO ?_ ?_ | k_is))
  (case q3h | q3i=>k_is)
  (case q3j=>(refine' L2.MH.mk ?a ?b ?c ?d ?e;(case a=>k_is);(case b=>k_is);(case c=>k_is);(case d=>k_is);(case e=>k_is)))
  (case q3k=>k_is)
  (case q3l=>(refine ⟨?_,?_,?_,?_⟩ <;> k_is))
  (case q3m=>(repeat' first | exact trivial | refine uO ?_ ?_ | k_is))
  (case q3n | q3o=>k_is)
  (case q3p=>(refine' L2.MH.mk ?a ?b ?c ?d ?e;(case a=>k_is);(case b=>k_is);(case c=>k_is);(case d=>k_is);(case e=>k_is)))
  (case q3q=>k_is)
  (case q3r=>(refine ⟨?_,?_,?_,?_⟩ <;> k_is))
  (case q3s=>(repeat' first | exact trivial | refine uO ?_ ?_ | k_is))
  (case q3t | q3u | q3v | q3w | q3x | q3y | q3z | q40=>k_is)
  (case q41=>(refine' L2.MH.mk ?a ?b ?c ?d ?e;(case a=>k_is);(case b=>k_is);(case c=>k_is);(case d=>k_is);(case e=>k_is)))
  (case q42=>k_is)
  (case q43=>(refine ⟨?_,?_,?_,?_⟩ <;> k_is))
  (case q44=>(repeat' first | exact trivial | refine uO ?_ ?_ | k_is))
  (case q45 | q46 | q47 | q48 | q49 | q4a | q4b | q4c=>k_is)
  (case q4d=>(refine' L2.MH.mk ?a ?b ?c ?d ?e;(case a=>k_is);(case b=>k_is);(case c=>k_is);(case d=>k_is);(case e=>k_is)))
  (case q4e=>k_is)
  (case q4f=>(refine ⟨?_,?_,?_,?_⟩ <;> k_is))
  (case q4g=>(repeat' first | exact trivial | refine uO ?_ ?_ | k_is))
  (case q4h | q4i | q4j | q4k | q4l | q4m | q4n | q4o=>k_is)
  (case q4p=>(refine' L2.MH.mk ?a ?b ?c ?d ?e;(case a=>k_is);(case b=>k_is);(case c=>k_is);(case d=>k_is);(case e=>k_is)))
  (case q4q=>k_is)
  (case q4r=>(refine ⟨?_,?_,?_,?_⟩ <;> k_is))
  (case q4s=>(repeat' first | exact trivial | refine uO ?_ ?_ | k_is))
  (case q4t | q4u | q4v | q4w | q4x | q4y | q4z | q50=>k_is)
  (case q51=>(refine' L2.MH.mk ?a ?b ?c ?d ?e;(case a=>k_is);(case b=>k_is);(case c=>k_is);(case d=>k_is);(case e=>k_is)))
  (case q52=>k_is)
  (case q53=>(refine ⟨?_,?_,?_,?_⟩ <;> k_is))
  (case q54=>(repeat' first | exact trivial | refine uO ?_ ?_ | k_is))
  (case q55 | q56=>k_is)
  (case q57=>(refine' L2.MH.mk ?a ?b ?c ?d ?e;(case a=>k_is);(case b=>k_is);(case c=>k_is);(case d=>k_is);(case e=>k_is)))
  (case q58=>k_is)
  (case q59=>(refine ⟨?_,?_,?_,?_⟩ <;> k_is))
  (case q5a=>(repeat' first | exact trivial | refine uO ?_ ?_ | k_is))
  (case q5b | q5c=>k_is)
  (case q5d | q5e | q5f=>(refine' L2.MH.mk ?a ?b ?c ?d ?e;(case a=>k_is);(case b=>k_is);(case c=>k_is);(case d=>k_is);(case e=>k_is)))
  (case q5g=>k_is)
  (case q5h=>(refine ⟨?_,?_,?_,?_⟩ <;> k_is))
  (case q5i=>(repeat' first | exact trivial | refine uO ?_ ?_ | k_is))
  (case q5j | q5k=>k_is)
  (case q5l=>(refine' L2.MH.mk ?a ?b ?c ?d ?e;(case a=>k_is);(case b=>k_is);(case c=>k_is);(case d=>k_is);(case e=>k_is)))
  (case q5m=>k_is)
  (case q5n=>(refine ⟨?_,?_,?_,?_⟩ <;> k_is))
  (case q5o=>(repeat' first | exact trivial | refine uO ?_ ?_ | k_is))
  (case q5p | q5q=>k_is)
  (case q5r=>(refine' L2.MH.mk ?a ?b ?c ?d ?e;(case a=>k_is);(case b=>k_is);(case c=>k_is);(case d=>k_is);(case e=>k_is)))
  (case q5s=>k_is)
  (case q5t=>(refine ⟨?_,?_,?_,?_⟩ <;> k_is))
  (case q5u=>(repeat' first | exact trivial | refine uO ?_ ?_ | k_is))
  (case q5v | q5w=>k_is)
  (case q5x=>(refine' L2.MH.mk ?a ?b ?c ?d ?e;(case a=>k_is);(case b=>k_is);(case c=>k_is);(case d=>k_is);(case e=>k_is)))
  (case q5y | q5z=>kit_is)
  (case q60 | q61=>(repeat' first | exact trivial | refine uO ?_ ?_ | k_is))
  (case q62 | q63 | q64 | q65 | q66 | q67 | q68 | q69 | q6a | q6b | q6c | q6d | q6e | q6f | q6g | q6h | q6i | q6j | q6k | q6l | q6m | q6n | q6o | q6p | q6q | q6r | q6s | q6t | q6u | q6v | q6w | q6x | q6y | q6z | q70 | q71 | q72 | q73 | q74 | q75=>k_is)
  (case q76 | q77 | q78 | q79 | q7a | q7b | q7c | q7d | q7e | q7f | q7g | q7h | q7i | q7j | q7k | q7l=>k_is)
  (case q7m | q7n | q7o | q7p | q7q | q7r | q7s | q7t | q7u | q7v | q7w | q7x | q7y | q7z | q80 | q81 | q82 | q83 | q84 | q85 | q86 | q87 | q88 | q89 | q8a | q8b | q8c | q8d | q8e | q8f | q8g | q8h | q8i | q8j | q8k | q8l | q8m | q8n | q8o | q8p=>kit_is)
  (case q8q | q8r | q8s | q8t | q8u | q8v | q8w | q8x | q8y | q8z | q90 | q91 | q92 | q93 | q94 | q95 | q96 | q97 | q98 | q99 | q9a | q9b | q9c | q9d | q9e | q9f | q9g | q9h | q9i | q9j | q9k | q9l | q9m | q9n | q9o | q9p | q9q | q9r | q9s | q9t=>kit_is)
  (case q9u | q9v | q9w | q9x | q9y | q9z | qa0 | qa1 | qa2 | qa3=>kit_is)
  (case qa4 | qa5 | qa6 | qa7 | qa8 | qa9 | qaa | qab | qac | qad | qae | qaf | qag | qah | qai | qaj=>k_is)
  (case qak=>k_keys)
  (case qal | qam=>rfl)
  (case qan=>k_is)
  (case qao=>k_keys)
  (case qap | qaq=>rfl)
  (case qar=>k_is)
  (case qas=>k_keys)
  (case qat | qau=>rfl)
  (case qav=>k_is)
  (case qaw=>k_keys)
  (case qax | qay=>rfl)
  (case qaz=>(repeat' first | exact trivial | refine uO ?_ ?_ | k_is))
